import PyProof.Rows.All
import Wide.All
import OpenK.AllK
import Wide.FinOn
import PyProof.EqAt
import PyProof.EqKinds
import PyProof.TupleCall
import Lean
import PyProof.Draws
import PyProof.ListRange
import KE.KIsAll
import PySem.Challenge.RW_stillflow_k20_best
set_option Elab.async false
set_option linter.all false
set_option maxRecDepth 100000
set_option maxHeartbeats 4000000
abbrev zA:=@Option.bind_some
abbrev zB:=@Option.map_some
abbrev zC:=@List.mem_cons_of_mem
abbrev zD:=@List.length_map
abbrev zE:=@List.mem_cons_self
abbrev zF:=@Bool.and_eq_true
abbrev zG:=@List.getD_eq_getElem?_getD
abbrev zH:=@List.size_toArray
abbrev zI:=@List.map_cons
abbrev zJ:=@decide_eq_true_eq
abbrev zK:=@List.getElem?_eq_getElem
abbrev zL:=@List.length_cons
abbrev zM:=@List.map_map
abbrev zN:=@List.length_append
abbrev zO:=@List.getElem?_map
abbrev zP:=@Nat.lt_of_lt_of_le
abbrev zQ:=@List.mem_cons
abbrev zR:=@List.length_range
abbrev zS:=@List.mem_range
abbrev zT:=@List.getElem?_eq_some_iff
abbrev zU:=@PySem.Heap.get?_push_of_some
abbrev zV:=@PySem.wpAny_bind
abbrev zW:=@PySem.wpAny_pure
abbrev zX:=@PySem.Heap.get?_push_size
abbrev zY:=@PySem.Heap.lt_size
abbrev zZ:=@decide_eq_false
abbrev yA:=@decide_eq_true
abbrev yB:=@List.lookup_cons
abbrev yC:=@List.length_set
abbrev yD:=@Nat.le_trans
abbrev yE:=@List.mem_append_right
abbrev yF:=@List.not_mem_nil
abbrev yG:=@Int.toNat_natCast
abbrev yH:=@List.map_congr_left
abbrev yI:=@List.foldl_cons
abbrev yJ:=@List.mem_singleton
abbrev yK:=@Option.some.injEq
abbrev yL:=@if_pos
abbrev yM:=@Nat.le_refl
abbrev yN:=@if_neg
abbrev yO:=@Bool.false_eq_true
abbrev yP:=@Bool.not_eq_true'
abbrev yQ:=@of_decide_eq_true
abbrev yR:=@Nat.ne_of_lt
abbrev yS:=@List.getElem?_append_left
abbrev yT:=@List.getElem?_append_right
abbrev yU:=@List.map_nil
abbrev yV:=@List.set_cons_zero
abbrev yW:=@List.set_cons_succ
abbrev yX:=@List.getElem?_replicate
abbrev yY:=@List.getElem?_cons_succ
abbrev yZ:=@Bool.false_ne_true
abbrev xA:=@PySem.wpAny_mono
abbrev xB:=@decide_eq_false_iff_not
abbrev xC:=@List.length_singleton
abbrev xD:=@Option.some.inj
abbrev xE:=@List.replicate_succ
abbrev xF:=@List.cons_append
abbrev xG:=@List.all_eq_true
abbrev xH:=@if_true
abbrev xI:=@List.getElem?_set
abbrev xJ:=@PySem.Heap.size_push
abbrev xK:=@List.length_nil
abbrev xM:=@List.length_replicate
abbrev xN:=@PySem.Heap.get?_update_other
abbrev xO:=@List.nil_append
abbrev xP:=@List.length_filter_le
abbrev xQ:=@List.getElem?_cons_zero
abbrev xR:=@PySem.wpAny_pyIter_tuple
abbrev xS:=@List.all_cons
abbrev xU:=@or_false
abbrev xV:=@Nat.zero_le
abbrev xW:=@PySem.wpAny_truthy_bool
abbrev xX:=@PySem.wpAny_holding
abbrev xY:=@Bool.not_true
abbrev xZ:=@Int.le_refl
abbrev qA:=@List.getElem_mem
abbrev qB:=@List.mem_of_getElem?
abbrev qC:=@PySem.wpAny_callSpecial?_slot
abbrev qD:=@Array.getD_eq_getD_getElem?
abbrev qE:=@Nat.lt_irrefl
abbrev qF:=@List.append_nil
abbrev qG:=@Option.getD_some
abbrev qH:=@List.length_drop
abbrev qJ:=@List.mem_append_left
abbrev qK:=@PySem.wpAny_pyIter_list
abbrev qL:=@PySem.wpAny_newObj_type
abbrev qM:=@List.flatten_cons
abbrev qN:=@PySem.F.plainAttrs_list
abbrev qP:=@if_false
abbrev qQ:=@List.getElem_of_mem
abbrev qS:=@PyProof.Rows.callWith_type1
abbrev qT:=@PySem.wpAny_field
abbrev qU:=@PySem.sizeLine_eq
abbrev qV:=@PySem.wpAny_call_entry
abbrev qX:=@PySem.call_meets
abbrev qY:=@PySem.wpAny_Call_Name_kw
abbrev qZ:=@Nat.lt_of_le_of_lt
abbrev jA:=@List.map_append
abbrev jB:=@Bool.or_eq_true
abbrev jC:=@congrArg
abbrev jD:=@Nat.zero_add
abbrev jE:=@List.pairwise_map
abbrev jF:=@PyProof.Rows.slot_tuple_getitem
abbrev jG:=@List.filterMap_cons
abbrev jH:=@List.ext_getElem
abbrev jI:=@Nat.ne_of_gt
abbrev jJ:=@PySem.Calls.spliced_cons
abbrev jK:=@PySem.wpAny_passesOwn
abbrev jL:=@Bool.true_and
abbrev jM:=@List.getElem?_eq_none
abbrev jN:=@Ne.symm
abbrev jO:=@Nat.lt_succ_of_lt
abbrev jP:=@and_self
abbrev jQ:=@decide_true
abbrev jR:=@PySem.F.slot_tuple_iterator_next
abbrev jS:=@PySem.codeAny_mono
abbrev jT:=@Nat.le_of_lt
abbrev jU:=@Int.le_trans
abbrev jV:=@Nat.le_add_right
abbrev jW:=@List.length_take
abbrev jX:=@List.filter_cons
abbrev jY:=@List.mem_of_find?_eq_some
abbrev jZ:=@Array.getElem?_eq_getElem
abbrev kA:=@PySem.mem_of_lookup
abbrev kC:=@PyProof.Rows.listUpdate_at
abbrev kE:=@List.sum_cons
abbrev kF:=@PyProof.Rows.get?_update_seq
abbrev kG:=@PySem.codeAny_builtin
abbrev kH:=@List.filter_map
abbrev kJ:=@PySem.wpAny_seqItems
abbrev kK:=@PySem.Calls.spliced_nil
abbrev kL:=@PySem.SeqAt.canLay_of_shaped
abbrev kM:=@List.take_of_length_le
abbrev kN:=@List.find?_cons_of_neg
abbrev kO:=@List.findIdx_lt_length_of_exists
abbrev kP:=@Option.getD_none
abbrev kR:=@Nat.lt_succ_self
abbrev kU:=@PySem.wpAny_newList
abbrev kW:=@PySem.wpAny_attempt
abbrev kX:=@List.getElem?_set_ne
abbrev kY:=@List.nodup_cons
abbrev kZ:=@List.cons.injEq
abbrev vA:=@Bool.eq_iff_iff
abbrev vB:=@Bool.and_false
abbrev vC:=@PySem.wpAny_setField_rec
abbrev vD:=@Int.emod_lt_of_pos
abbrev vE:=@List.drop_eq_getElem_cons
abbrev vF:=@List.reverse_cons
abbrev vG:=@List.foldl_append
abbrev vH:=@PySem.wpAny_standAt
abbrev vI:=@List.any_cons
abbrev vJ:=@PySem.F.args_tuple_add_2
abbrev vK:=@PySem.wpAny_execs_cons
abbrev vL:=@List.range'_succ
abbrev vM:=@PySem.F.entry_tuple_add
abbrev vN:=@List.pairwise_singleton
abbrev vO:=@Int.eq_ofNat_of_zero_le
abbrev vP:=@PySem.wpAny_call
abbrev vQ:=@beq_iff_eq
abbrev vR:=@PyProof.Rows.listItems_at
abbrev vS:=@PySem.F.slot_tuple_add
abbrev vT:=@List.range_succ_eq_map
abbrev vU:=@List.getElem?_set_self
abbrev vV:=@List.find?_cons_of_pos
abbrev vW:=@PySem.wpAny_execs_nil
abbrev vX:=@Nat.not_lt_zero
abbrev vY:=@List.range_succ
abbrev vZ:=@List.of_mem_zip
abbrev wA:=@List.find?_some
abbrev wC:=@Int.emod_nonneg
abbrev wD:=@PySem.F.slot_zip_next
abbrev wF:=@PySem.F.slot_int_rmul
abbrev wG:=@Nat.mul_le_mul
abbrev wH:=@PyProof.Rows.IntsAre.length
abbrev wI:=@Bool.false_and
abbrev wJ:=@PySem.wpAny_loadName_local
abbrev wK:=@PySem.codeAny_call_builtin
abbrev wL:=@List.findIdx_getElem
abbrev wM:=@List.getD_cons_zero
abbrev wN:=@List.getD_cons_succ
abbrev wQ:=@Array.length_toList
abbrev wR:=@PySem.wpAny_rule
abbrev wU:=@PySem.wpAny_Name
abbrev wV:=@PySem.typeIs_int
abbrev wW:=@of_decide_eq_false
abbrev wX:=@Option.isNone_none
abbrev wY:=@PySem.F.args_tuple_mul_2
abbrev wZ:=@PySem.Code.quiet_builtin
abbrev Za:=@PySem.Calls.Constant_str
abbrev Zb:=@PySem.wpAny_typeOf
abbrev Zc:=@decide_false
abbrev Zd:=@PySem.concat_meets
abbrev Ze:=@Nat.lt_trans
abbrev Zf:=@PySem.wpAny_pyIter_enum
abbrev Zg:=@List.take_add_one
abbrev Zh:=@List.nodup_append
abbrev Zi:=@PySem.F.entry_tuple_mul
local macro_rules|`(tactic|lia)=>`(tactic|omega)
local macro_rules|`(def $i:declId $s:optDeclSig $v:declVal)=>`(noncomputable def $i:declId $s:optDeclSig $v:declVal)
local macro_rules|`(abbrev $i:declId $s:optDeclSig $v:declVal)=>`(noncomputable abbrev $i:declId $s:optDeclSig $v:declVal)
namespace L2
open PySem
def gK(s:Stmt):Arguments:=match s with
 | .FunctionDef _ a _ _ _ _ _ _ _ _=>a
 | _=>{ posonlyargs:=[],args:=[],vararg:=none,kwonlyargs:=[],kw_defaults:=[],kwarg:=none,defaults:=[] }
def bB(s:Stmt):List Stmt:=match s with
 | .FunctionDef _ _ b _ _ _ _ _ _ _=>b
 | _=>[]
def aj(s:Stmt):Scope:=match s with
 | .FunctionDef _ _ _ _ _ _ sc _ _ _=>sc
 | _=>{ kind:=.function,names:=[],isGenerator:=false,isCoroutine:=false }
end L2
namespace Hd
open PySem L2 PySem.Spec PyProof.Rows
def en(P:Params)(x:String)(t:Nat)(v:Value):DictEntry:=⟨PyData.keyHash P (Str.ofString x),.str (Str.ofString x) t,v⟩
def fo(x:Str)(st:Stmt)(pm:Value)(c:Addr):Obj:=⟨.type "function",none,.func (W.fnOf x x (gK st) (bB st) (aj st) .none .none .none pm none (.ref c) .none),#[]⟩
def co(vs:List Value):Obj:=⟨.type "code",none,.fields vs.toArray,#[]⟩
def PQ(n:Nat):Value:=if n=0 then .none else .ref n
def gC(x:Str)(t l n a b c d e f u:Nat):Obj:=co [.str x t,.str x (t+1),.str "/claim/cut.py" (t+2),.int l 0,.int n 0,.int 0 0,.int 0 0,.int 3 0,PQ a,.bool true,.int 181 0,PQ b,PQ c,PQ d,PQ e,PQ f,.int u 0,.int l 0,.str "/claim/cut.py" (u+1)]
def PH(x:Str)(C ns m t u:Nat)(bs up subs:List Value):Obj:=⟨.type "type",none,.cls { name:=x,bases:=bs,mro:=.ref C::(up++[.type "ValueError",.type "Exception",.type "BaseException",.type "object"]),ns:=ns,qualname:=x,subclasses:=subs },#[some (.ref m),none,some (.str x t),some (.str x u),some (.builtin "ValueError.__new__"),some (.bool true)]⟩
theorem NS{S A B C D E F J O:Type}{x:Option S}{f:S->A×B×C×D×E×F×J}{o:S->O}{g:A×B×C×D×E×F×J}{v:O}(h0:x.map (fun s=>(f s).1)=some g.1)(h1:x.map (fun s=>(f s).2.1)=some g.2.1)(h2:x.map (fun s=>(f s).2.2.1)=some g.2.2.1)(h3:x.map (fun s=>((f s).2.2.2.1,(f s).2.2.2.2.1))=some (g.2.2.2.1,g.2.2.2.2.1))(h4:x.map (fun s=>(f s).2.2.2.2.2.1)=some g.2.2.2.2.2.1)(h5:x.map (fun s=>(f s).2.2.2.2.2.2)=some g.2.2.2.2.2.2)(h6:x.map o=some v):x.map (fun s=>(f s,o s))=some (g,v):=by
 obtain⟨a,b,c,d,e,i,j⟩:=g
 cases x with
 | none=>cases h0
 | some s =>
  simp only[zB,yK,Prod.mk.injEq] at h0 h1 h2 h3 h4 h5 h6 ⊢
  refine⟨?_,h6⟩
  generalize f s=t at *
  obtain⟨a',b',c',d',e',i',j'⟩:=t
  dsimp only at *
  obtain⟨h3,h3'⟩:=h3
  subst h0 h1 h2 h3 h3' h4 h5
  rfl
end Hd
namespace K20
open PySem L2 PySem.Spec PyProof.Rows Hd PySem.W
abbrev top(i:Nat):Stmt:=PySem.Challenge.pw_stillflow_k20_best.main.body.getD i (.Pass ⟨0,0,0,0⟩)
def vw:Program:=W.view PySem.Challenge.pw_stillflow_k20_best [1,2,3,4,5,6,8,9,10,11,12,13,14,15,16,17,18,19,20,21,22,23,24,25,26,27,29,30,32,33,34,35,36,37,38,39,41,42,43,44,45,46,47,48,49,50,51,52,53,54,55,56]
abbrev SQ:Addr:=24
abbrev SL:List (Str×Addr):=[("NoWorld",37),("NoPlan",49),("NoPlace",61),("TooMany",73),("Nothing",85)]
def j5:Value:=(.str "stillflow.worlds" 287)
def Rl:Value:=(.str "stillflow.flows" 422)
def BA:Value:=(.str "stillflow.finding" 436)
def ma:Value:=(.str "law_stillflow_k20_best" 507)
def Kf(P:Params):W.Frag:=[(3,⟨.type "dict",none,.dict #[en P "__name__" 165 (.str "law_stillflow_k20_best" 507),en P "__doc__" 166 .none,en P "__package__" 167 .none,en P "__loader__" 168 (.builtin "__main__.__loader__#opaque"),en P "__spec__" 169 .none,en P "__annotations__" 170 (.ref 6),en P "__builtins__" 171 (.ref 4),en P "__file__" 173 (.str "/claim/cut.py" 172),en P "__cached__" 174 .none,en P "FlowError" 206 (.ref 24),en P "NoWorld" 222 (.ref 37),en P "NoPlan" 238 (.ref 49),en P "NoPlace" 254 (.ref 61),en P "TooMany" 270 (.ref 73),en P "Nothing" 286 (.ref 85),en P "MOST_PLACES" 290 (.int 4 289),en P "MOST" 292 (.int 9 291),en P "is_whole" 301 (.ref 94),en P "is_number" 309 (.ref 101),en P "is_long" 318 (.ref 108),en P "are_likes" 324 (.ref 113),en P "is_end" 332 (.ref 120),en P "is_way" 341 (.ref 127),en P "are_parts" 347 (.ref 132),en P "liked_pairs" 353 (.ref 137),en P "is_world" 359 (.ref 142),en P "through" 365 (.ref 147),en P "keeps_amounts" 371 (.ref 152),en P "is_plan" 377 (.ref 157),en P "check_world" 384 (.ref 164),en P "check_plan" 392 (.ref 171),en P "replaced" 401 (.ref 178),en P "turned_order" 409 (.ref 185),en P "turned" 415 (.ref 190),en P "turned_plan" 421 (.ref 195),en P "ways_of" 429 (.ref 200),en P "chosen_by" 435 (.ref 205),en P "chosen_by_all" 443 (.ref 210),en P "limits" 449 (.ref 215),en P "lowered" 458 (.ref 222),en P "refused" 470 (.ref 229),en P "steps" 480 (.ref 236),en P "capped" 491 (.ref 243),en P "givers_best" 498 (.ref 250),en P "takers_best" 506 (.ref 257),en P "_law_cell" 516 (.ref 264),en P "_law_drawn" 526 (.ref 271),en P "_law_orders" 541 (.ref 278),en P "_law_world" 547 (.ref 283),en P "_law_used" 553 (.ref 288),en P "_law_fits" 564 (.ref 295),en P "_law_plans" 570 (.ref 300),en P "_law_plan" 584 (.ref 307),en P "_law_wants" 598 (.ref 314),en P "_law_why" 610 (.ref 321),en P "_law_rests" 616 (.ref 326),en P "_law_choice" 630 (.ref 333),en P "_law_ends" 636 (.ref 338),en P "_law_refused" 644 (.ref 345),en P "_law_told" 653 (.ref 352),en P "law" 659 (.ref 357)] 61,#[]⟩),
 (23,⟨.type "dict",none,.dict #[en P "__module__" 196 (.str "stillflow.errors" 187),en P "__firstlineno__" 200 (.int 2 199),en P "__static_attributes__" 201 (.ref 22),en P "__weakref__" 203 (.ref 25),en P "__doc__" 204 .none] 3,#[]⟩),
 (24,PH "FlowError" 24 23 15 189 197 [(.type "ValueError")] [] [(.ref 37),(.ref 49),(.ref 61),(.ref 73),(.ref 85)]),
 (36,⟨.type "dict",none,.dict #[en P "__module__" 214 (.str "stillflow.errors" 187),en P "__firstlineno__" 218 (.int 4 217),en P "__static_attributes__" 219 (.ref 35),en P "__doc__" 220 .none] 2,#[]⟩),
 (37,PH "NoWorld" 37 36 28 207 215 [(.ref 24)] [(.ref 24)] []),
 (48,⟨.type "dict",none,.dict #[en P "__module__" 230 (.str "stillflow.errors" 187),en P "__firstlineno__" 234 (.int 6 233),en P "__static_attributes__" 235 (.ref 47),en P "__doc__" 236 .none] 2,#[]⟩),
 (49,PH "NoPlan" 49 48 40 223 231 [(.ref 24)] [(.ref 24)] []),
 (60,⟨.type "dict",none,.dict #[en P "__module__" 246 (.str "stillflow.errors" 187),en P "__firstlineno__" 250 (.int 8 249),en P "__static_attributes__" 251 (.ref 59),en P "__doc__" 252 .none] 2,#[]⟩),
 (61,PH "NoPlace" 61 60 52 239 247 [(.ref 24)] [(.ref 24)] []),
 (72,⟨.type "dict",none,.dict #[en P "__module__" 262 (.str "stillflow.errors" 187),en P "__firstlineno__" 266 (.int 10 265),en P "__static_attributes__" 267 (.ref 71),en P "__doc__" 268 .none] 2,#[]⟩),
 (73,PH "TooMany" 73 72 64 255 263 [(.ref 24)] [(.ref 24)] []),
 (84,⟨.type "dict",none,.dict #[en P "__module__" 278 (.str "stillflow.errors" 187),en P "__firstlineno__" 282 (.int 12 281),en P "__static_attributes__" 283 (.ref 83),en P "__doc__" 284 .none] 2,#[]⟩),
 (85,PH "Nothing" 85 84 76 271 279 [(.ref 24)] [(.ref 24)] []),
 (93,gC "is_whole" 293 17 3 88 89 0 90 91 92 299),
 (94,fo "is_whole" (top 10) j5 93),
 (100,gC "is_number" 302 21 2 95 96 0 97 98 99 307),
 (101,fo "is_number" (top 11) j5 100),
 (107,gC "is_long" 310 23 3 102 103 0 104 105 106 316),
 (108,fo "is_long" (top 12) j5 107),
 (112,gC "are_likes" 319 25 2 109 110 0 0 0 111 322),
 (113,fo "are_likes" (top 13) j5 112),
 (119,gC "is_end" 325 31 2 114 115 0 116 117 118 330),
 (120,fo "is_end" (top 14) j5 119),
 (126,gC "is_way" 333 33 3 121 122 0 123 124 125 339),
 (127,fo "is_way" (top 15) j5 126),
 (131,gC "are_parts" 342 37 3 128 129 0 0 0 130 345),
 (132,fo "are_parts" (top 16) j5 131),
 (136,gC "liked_pairs" 348 45 1 133 134 0 0 0 135 351),
 (137,fo "liked_pairs" (top 17) j5 136),
 (141,gC "is_world" 354 50 1 138 139 0 0 0 140 357),
 (142,fo "is_world" (top 18) j5 141),
 (146,gC "through" 360 57 4 143 144 0 0 0 145 363),
 (147,fo "through" (top 19) j5 146),
 (151,gC "keeps_amounts" 366 59 3 148 149 0 0 0 150 369),
 (152,fo "keeps_amounts" (top 20) j5 151),
 (156,gC "is_plan" 372 61 2 153 154 0 0 0 155 375),
 (157,fo "is_plan" (top 21) j5 156),
 (163,gC "check_world" 378 68 1 158 159 0 160 161 162 382),
 (164,fo "check_world" (top 22) j5 163),
 (170,gC "check_plan" 385 71 2 165 166 0 167 168 169 390),
 (171,fo "check_plan" (top 23) j5 170),
 (177,gC "replaced" 393 75 3 172 173 0 174 175 176 399),
 (178,fo "replaced" (top 24) j5 177),
 (184,gC "turned_order" 402 77 1 179 180 0 181 182 183 407),
 (185,fo "turned_order" (top 25) j5 184),
 (189,gC "turned" 410 80 1 186 187 0 0 0 188 413),
 (190,fo "turned" (top 26) j5 189),
 (194,gC "turned_plan" 416 84 2 191 192 0 0 0 193 419),
 (195,fo "turned_plan" (top 27) j5 194),
 (199,gC "ways_of" 424 88 3 196 197 0 0 0 198 427),
 (200,fo "ways_of" (top 29) Rl 199),
 (204,gC "chosen_by" 430 93 4 201 202 0 0 0 203 433),
 (205,fo "chosen_by" (top 30) Rl 204),
 (209,gC "chosen_by_all" 438 101 3 206 207 0 0 0 208 441),
 (210,fo "chosen_by_all" (top 32) BA 209),
 (214,gC "limits" 444 107 1 211 212 0 0 0 213 447),
 (215,fo "limits" (top 33) BA 214),
 (221,gC "lowered" 450 109 3 216 217 0 218 219 220 456),
 (222,fo "lowered" (top 34) BA 221),
 (228,gC "refused" 459 111 2 223 224 0 225 226 227 468),
 (229,fo "refused" (top 35) BA 228),
 (235,gC "steps" 471 118 1 230 231 0 232 233 234 478),
 (236,fo "steps" (top 36) BA 235),
 (242,gC "capped" 481 127 2 237 238 0 239 240 241 489),
 (243,fo "capped" (top 37) BA 242),
 (249,gC "givers_best" 492 132 1 244 245 0 246 247 248 496),
 (250,fo "givers_best" (top 38) BA 249),
 (256,gC "takers_best" 499 135 1 251 252 0 253 254 255 504),
 (257,fo "takers_best" (top 39) BA 256),
 (263,gC "_law_cell" 509 139 2 258 259 0 260 261 262 514),
 (264,fo "_law_cell" (top 41) ma 263),
 (270,gC "_law_drawn" 517 143 3 265 266 0 267 268 269 524),
 (271,fo "_law_drawn" (top 42) ma 270),
 (277,gC "_law_orders" 527 147 3 272 273 0 274 275 276 539),
 (278,fo "_law_orders" (top 43) ma 277),
 (282,gC "_law_world" 542 155 3 279 280 0 0 0 281 545),
 (283,fo "_law_world" (top 44) ma 282),
 (287,gC "_law_used" 548 171 4 284 285 0 0 0 286 551),
 (288,fo "_law_used" (top 45) ma 287),
 (294,gC "_law_fits" 554 173 2 289 290 0 291 292 293 562),
 (295,fo "_law_fits" (top 46) ma 294),
 (299,gC "_law_plans" 565 179 1 296 297 0 0 0 298 568),
 (300,fo "_law_plans" (top 47) ma 299),
 (306,gC "_law_plan" 571 187 3 301 302 0 303 304 305 582),
 (307,fo "_law_plan" (top 48) ma 306),
 (313,gC "_law_wants" 585 194 5 308 309 0 310 311 312 596),
 (314,fo "_law_wants" (top 49) ma 313),
 (320,gC "_law_why" 599 202 3 315 316 0 317 318 319 608),
 (321,fo "_law_why" (top 50) ma 320),
 (325,gC "_law_rests" 611 209 2 322 323 0 0 0 324 614),
 (326,fo "_law_rests" (top 51) ma 325),
 (332,gC "_law_choice" 617 211 4 327 328 0 329 330 331 628),
 (333,fo "_law_choice" (top 52) ma 332),
 (337,gC "_law_ends" 631 220 3 334 335 0 0 0 336 634),
 (338,fo "_law_ends" (top 53) ma 337),
 (344,gC "_law_refused" 637 225 1 339 340 0 341 342 343 642),
 (345,fo "_law_refused" (top 54) ma 344),
 (351,gC "_law_told" 645 231 2 346 347 0 348 349 350 651),
 (352,fo "_law_told" (top 55) ma 351),
 (356,gC "law" 654 236 1 353 354 0 0 0 355 657),
 (357,fo "law" (top 56) ma 356)]
def hk:W.Hook:=W.kmHook Kf [3,23,24,36,37,48,49,60,61,72,73,84,85,93,94,100,101,107,108,112,113,119,120,126,127,131,132,136,137,141,142,146,147,151,152,156,157,163,164,170,171,177,178,184,185,189,190,194,195,199,200,204,205,209,210,214,215,221,222,228,229,235,236,242,243,249,250,256,257,263,264,270,271,277,278,282,283,287,288,294,295,299,300,306,307,313,314,320,321,325,326,332,333,337,338,344,345,351,352,356,357] (fun _=>rfl) [180,197]
abbrev rn(w:World):=openEnds treeTable PySem.Challenge.pw_stillflow_k20_best w 6000
abbrev sn(s:Shared):=openSeen vw [] (importedModules PySem.Challenge.pw_stillflow_k20_best.main.body) (fun s=>xlAt vw [] s&&recOk [] s) true s
abbrev gd:=openGood vw []
theorem S9(w:World):(rn w).map (fun s=>(sn s).1)=some (gd.1):=by kernel_rfl
theorem SZ(w:World):(rn w).map (fun s=>(sn s).2.1)=some (gd.2.1):=by kernel_rfl
theorem S8(w:World):(rn w).map (fun s=>(sn s).2.2.1)=some (gd.2.2.1):=by kernel_rfl
theorem SU(w:World):(rn w).map (fun s=>((sn s).2.2.2.1,(sn s).2.2.2.2.1))=some ((gd.2.2.2.1,gd.2.2.2.2.1)):=by kernel_rfl
theorem SO(w:World):(rn w).map (fun s=>(sn s).2.2.2.2.2.1)=some (gd.2.2.2.2.2.1):=by kernel_rfl
theorem Ta(w:World):(rn w).map (fun s=>(sn s).2.2.2.2.2.2)=some (gd.2.2.2.2.2.2):=by kernel_rfl
theorem SS(w:World):(rn w).map (fun s=>hk.obs s)=some (hk.val w):=by kernel_rfl
theorem left:LeftO PySem.Challenge.pw_stillflow_k20_best vw [] (fun s=>xlAt vw [] s&&recOk [] s) hk.obs hk.val 6000:=fun w=>NS (S9 w) (SZ w) (S8 w) (SU w) (SO w) (Ta w) (SS w)
theorem RJ:PySem.Challenge.rw_stillflow_k20_best.wellSaid=true:=by kernel_rfl
end K20
namespace L2
open PySem PySem.Spec PyProof.Rows
variable {H H':Hp}{h base:Heap}{it:Addr}{N ps:List Str}{i j n k:Nat}{Q:Value->Shared->Prop}{X:Cx}{A:Around}{s:Shared}{pos:Pos}{pins:List (Addr×Obj)}{K:W.Frag}{es:List Expr}{tg:Expr}{te:TE}{body:List Stmt}{vs:List V}{fp:List Addr}{r':R2}{us:List Value}{CX:FR}{qual:Str}{scope:Scope}
abbrev BB:=Sum Int Str
def MO:BB->Value->Bool
 | .inl k,v=>Value.isInt k v
 | .inr x,v=>Value.isStrOf x v
def Ry(w:World):BB->Int
 | .inl k=>hashInt k
 | .inr x=>hashStr w x
theorem bY:∀ {k:BB}{v:Value},MO k v=true->(∃i t,k=Sum.inl i/\v=Value.int i t)\/(∃x t,k=Sum.inr x/\v=Value.str x t)
 | .inl i,v,h=>by
  obtain⟨t,e⟩:=Value.isInt_shape (k:=i) (v:=v) h
  exact .inl ⟨i,t,rfl,e⟩
 | .inr x,v,h=>by
  obtain⟨t,e⟩:=Value.isStrOf_shape (x:=x) (v:=v) h
  exact .inr ⟨x,t,rfl,e⟩
theorem OK(a b:Int):decide ((Sum.inl a:BB)=Sum.inl b)=(a == b):=by
 by_cases e:a=b
 ·subst e;simp
 ·have h:¬ (Sum.inl a:BB)=Sum.inl b:=fun q=>e (Sum.inl.inj q)
  rw[zZ h]
  exact (beq_eq_false_iff_ne.mpr e).symm
theorem OZ(a b:Str):decide ((Sum.inr a:BB)=Sum.inr b)=decide (a=b):=by
 by_cases e:a=b
 ·subst e;simp
 ·have h:¬ (Sum.inr a:BB)=Sum.inr b:=fun q=>e (Sum.inr.inj q)
  rw[zZ h,zZ e]
theorem Pa(a:Int)(b:Str):decide ((Sum.inl a:BB)=Sum.inr b)=false:=zZ (fun q=>nomatch q)
theorem O7(a:Str)(b:Int):decide ((Sum.inr a:BB)=Sum.inl b)=false:=zZ (fun q=>nomatch q)
def DZ(prog:Program)(w:World):PySem.KeyKind prog w BB where
 is:=MO
 hash:=Ry w
 inj:=fun v a b ha hb=>by
  rcases bY ha with ⟨i,t,rfl,rfl⟩|⟨x,t,rfl,rfl⟩
  ·rcases bY hb with ⟨j,u,rfl,e⟩|⟨y,u,rfl,e⟩
   ·injection e with e1 _;rw[e1]
   ·exact nomatch e
  ·rcases bY hb with ⟨j,u,rfl,e⟩|⟨y,u,rfl,e⟩
   ·exact nomatch e
   ·injection e with e1 _;rw[e1]
 byValue:=fun k v h=>by
  rcases bY h with ⟨i,t,rfl,rfl⟩|⟨x,t,rfl,rfl⟩<;>rfl
 pyHash:=fun hv h=>by
  rcases bY hv with ⟨i,t,rfl,rfl⟩|⟨x,t,rfl,rfl⟩
  ·exact wpAny_pyHash_int h
  ·exact wpAny_pyHash_str h
 eqBool:=fun hu hv h=>by
  rcases bY hu with ⟨i,t,rfl,rfl⟩|⟨x,t,rfl,rfl⟩
  ·rcases bY hv with ⟨j,u,rfl,rfl⟩|⟨y,u,rfl,rfl⟩
   ·rw[OK] at h;exact wpAny_eqBool_int h
   ·rw[Pa] at h;exact SeqAt.EqAt.int_str i t y u _ _ _ _ h
  ·rcases bY hv with ⟨j,u,rfl,rfl⟩|⟨y,u,rfl,rfl⟩
   ·rw[O7] at h;exact SeqAt.EqAt.str_int x t j u _ _ _ _ h
   ·rw[OZ] at h;exact wpAny_eqBool_str h
 «strs»:=fun k x t v h=>by
  rcases bY h with ⟨i,u,rfl,e⟩|⟨y,u,rfl,e⟩
  ·exact nomatch e
  ·injection e with e1 _
   subst e1
   cases v<;>rfl
inductive V where
 | non|bl (b:Bool)|int (i:Int)|str (x:Str)|byt (b:Array UInt8)|flt (b:UInt64)|ref (a:Addr)|ty (n:String)
 deriving DecidableEq
def RelV:V->Value->Prop
 | .non,u=>u=Value.none
 | .bl b,u=>u=Value.bool b
 | .int i,u=>∃t,u=Value.int i t
 | .str x,u=>∃t,u=Value.str x t
 | .byt b,u=>∃t,u=Value.bytes b t
 | .flt b,u=>∃t,u=Value.float b t
 | .ref a,u=>u=Value.ref a
 | .ty n,u=>u=Value.type n
abbrev aE:List V->List Value->Prop:=Paired RelV
theorem aE.length{xs:List V}{us:List Value}(r:aE xs us):xs.length=us.length:=Paired.length r
theorem aE.get:∀ {xs:List V}{us:List Value}{i:Nat}{x:V},aE xs us->xs[i]?=some x->∃u,us[i]?=some u/\RelV x u
 | _,_,_,_,.nil,e=>by simp at e
 | _,_,0,_,.cons r _,e=>by simp at e;subst e;exact⟨_,rfl,r⟩
 | _,_,i+1,x,.cons _ t,e=>by
  obtain⟨u,h1,h2⟩:=aE.get (i:=i) (x:=x) t (by simpa using e)
  exact⟨u,by simpa using h1,h2⟩
theorem aE.set{x:V}{u:Value}(r:RelV x u):∀ {xs:List V}{us:List Value}(i:Nat),aE xs us->aE (xs.set i x) (us.set i u)
 | _,_,_,.nil=>.nil
 | _,_,0,.cons _ t=>.cons r t
 | _,_,i+1,.cons q t=>.cons q (aE.set r i t)
theorem aE.append:∀ {xs ys:List V}{us ws:List Value},aE xs us->aE ys ws->aE (xs++ys) (us++ws)
 | _,_,_,_,.nil,s=>s
 | _,_,_,_,.cons r t,s=>.cons r (aE.append t s)
theorem aE.take:∀ {xs:List V}{us:List Value}(n:Nat),aE xs us->aE (xs.take n) (us.take n)
 | _,_,0,_=>.nil
 | _,_,_+1,.nil=>.nil
 | _,_,n+1,.cons r t=>.cons r (aE.take n t)
theorem aE.drop:∀ {xs:List V}{us:List Value}(n:Nat),aE xs us->aE (xs.drop n) (us.drop n)
 | _,_,0,r=>r
 | _,_,_+1,.nil=>.nil
 | _,_,n+1,.cons _ t=>aE.drop n t
def QG:Option V->Option Value->Prop
 | some v,some u=>RelV v u
 | none,none=>True
 | _,_=>False
def KV{κ:Type}:List (κ×V)->List (κ×Value)->Prop:=Paired fun (p:κ×V) (q:κ×Value)=>p.1=q.1/\RelV p.2 q.2
def kV:BB->V
 | .inl i=>.int i
 | .inr x=>.str x
inductive HO where
  | lst (xs:List V)
  | tup (xs:List V)
  | dK (kvs:List (BB×V))|dT (kvs:List (List BB×V))
  | set (S:Int->Bool) (n:Nat)
  | ins (C dx:Addr) (fs:List (Str×V))
  | own (x:Addr)
  | xd (fs:List (Str×V))
  | met (f x:Addr)
  | rng (lo hi:Int)
  | frz (o:Obj) (u:HO)
  | tab (q:Str)
 | cod (q:Str)
  | ext (φ:Heap->Prop)
abbrev Hp:=Addr->Option HO
def upd(H:Hp)(a:Addr)(o:HO):Hp:=fun b=>if b=a then some o else H b
theorem aA{a:Addr}{o:HO}:upd H a o a=some o:=by unfold upd;rw[yL rfl]
theorem ay{a b:Addr}{o:HO}(h:b≠a):upd H a o b=H b:=by unfold upd;rw[yN h]
theorem aN{a b:Addr}{o:HO}(h:H a=some o)(h':H b=none):a≠b:=by
 intro e;subst e;rw[h] at h';cases h'
def rK(h:Heap)(a:Addr)(its:Array Value):Prop:=IsTup h a its/\∃o,h.get? a=some o/\o.dict=none
theorem rK.new(h:Heap)(its:Array Value):rK (h.push { cls:=.type "tuple",data:=.seq its }) h.objs.size its:=⟨IsTup.new _ _,_,zX _ rfl,rfl⟩
section
variable (P:Program) (w:World)
def et(H:Hp)(h:Heap)(a:Addr):HO->Prop
 | .lst xs=>xs.length<=sizeLine/\∃ (its:List Value) (n:Nat),aE xs its/\h.get? a=some { cls:=.type "list",data:=.seq its.toArray n }
 | .tup xs=>xs.length<=sizeLine/\∃its:List Value,aE xs its/\rK h a its.toArray
 | .dK kvs=>kvs.length<=sizeLine/\(a == sysModules)=false/\∃vs,KV kvs vs/\h.DictOf (DZ P w) a vs
 | .dT kvs=>kvs.length<=sizeLine/\(a == sysModules)=false/\∃xs:List (List BB×Addr×Value),
   Paired (fun (p:List BB×V) (q:List BB×Addr×Value)=>p.1=q.1/\H q.2.1=some (.tup (p.1.map kV))/\RelV p.2 q.2.2) kvs xs /\
   ∃o es ep,h.get? a=some o/\o.ExactDict/\o.data=.dict es ep/\es.toList=xs.map (entryOfKey (tupleKind (DZ P w)))/\(xs.map (·.1)).Nodup
 | .set S n=>h.SetOf (intKind P w) a S n
 | .ins C dx fs=>H dx=some (.own a)/\fs.length<=1000/\dx≠a/\h.get? a=some (W.instObj C dx) /\
   ∃mA,h.Ns1 dx mA/\(∀f,QG (fs.lookup f) (mA f))/\PySem.Within mA (fs.map (·.1))
 | .own _=>∃o,h.get? a=some o
 | .xd fs=>∃mA,h.Ns1 a mA/\∀f,QG (fs.lookup f) (mA f)
 | .rng lo hi=>∃t u v,h.get? a=some { cls:=.type "range",data:=.fields #[.int lo t,.int hi u,.int 1 v] }
 | .frz o u=>h.get? a=some o/\et H h a u
 | .tab q=>∃ps:Array Value,h.get? a=some { cls:=.none,data:=.fields ps }/\TriplesOk ps.toList/\∀pos v,codeAmong pos ps.toList=some v->∃c,v=.ref c/\H c=some (.cod q)
 | .cod q=>h.CodeRec (.ref a) q
 | .met f x=>h.get? a=some (W.methodObj (.ref f) (.ref x))
 | .ext φ=>φ h/\(∃o,h.get? a=some o)/\∀h1 h2:Heap,φ h1->(∀o,h1.get? a=some o->h2.get? a=some o)->φ h2
def nV(H:Hp)(h:Heap):Prop:=∀a o,H a=some o->et P w H h a o
end
section
variable {P:Program}{w:World}{H H':Hp}{h h':Heap}{a:Addr}{o:HO}
theorem et.lt(x:et P w H h a o):a < h.objs.size:=by
 cases o with
 | lst xs=>obtain⟨_,_,_,_,e⟩:=x;exact zY e
 | tup xs=>obtain⟨_,_,_,p⟩:=x;exact p.1.lt
 | dK kvs=>obtain⟨_,_,_,_,o,_,_,e,_⟩:=x;exact zY e
 | dT kvs=>obtain⟨_,_,_,_,o,_,_,e,_⟩:=x;exact zY e
 | set S n=>obtain⟨o,_,_,_,e,_⟩:=x;exact zY e
 | ins C dx fs=>obtain⟨_,_,_,e,_⟩:=x;exact zY e
 | own y=>obtain⟨_,e⟩:=x;exact zY e
 | xd fs=>obtain⟨_,⟨_,_,_,e,_⟩,_⟩:=x;exact zY e
 | rng lo hi=>obtain⟨_,_,_,e⟩:=x;exact zY e
 | frz ob u=>obtain⟨e,_⟩:=x;exact zY e
 | tab q=>obtain⟨_,e,_⟩:=x;exact zY e
 | cod q=>obtain⟨_,_,_,_,e0,e,_⟩:=x;cases e0;exact zY e
 | met f y=>exact zY (show h.get? a=some _ from x)
 | ext φ=>obtain⟨_,⟨_,e⟩,_⟩:=x;exact zY e
theorem Paired.mapP{α β:Type}{F G:α->β->Prop}:∀ {l₁:List α}{l₂:List β},Paired F l₁ l₂->(∀a b,F a b->G a b)->Paired G l₁ l₂
 | _,_,.nil,_=>.nil
 | _,_,.cons r t,f=>.cons (f _ _ r) (Paired.mapP t f)
def SE:HO->Prop
 | .tup _=>True
 | .cod _=>True
 | _=>False
theorem et.stay(x:et P w H h a o)(k:∀b u,(b=a\/H b=some (.own a))->h.get? b=some u->h'.get? b=some u)
  (ho:∀b,H b=some (.own a)->H' b=some (.own a)) (ht:∀b u,H b=some u->SE u->H' b=some u):et P w H' h' a o:=by
 induction o with
 | lst xs=>obtain⟨z,its,n,r,e⟩:=x;exact⟨z,its,n,r,k _ _ (.inl rfl) e⟩
 | tup xs=>obtain⟨z,its,r,⟨ob,e,c⟩,o2,e2,d2⟩:=x;exact⟨z,its,r,⟨ob,k _ _ (.inl rfl) e,c⟩,o2,k _ _ (.inl rfl) e2,d2⟩
 | dK kvs=>obtain⟨z,y,vs,r,ob,es,ep,e,c⟩:=x;exact⟨z,y,vs,r,ob,es,ep,k _ _ (.inl rfl) e,c⟩
 | dT kvs =>
  obtain⟨z,y,xs,r,ob,es,ep,e,c⟩:=x
  exact⟨z,y,xs,Paired.mapP r fun p q z=>⟨z.1,ht _ _ z.2.1 trivial,z.2.2⟩,ob,es,ep,k _ _ (.inl rfl) e,c⟩
 | set S n=>obtain⟨ob,es,ep,t,e,c⟩:=x;exact⟨ob,es,ep,t,k _ _ (.inl rfl) e,c⟩
 | ins C dx fs =>
  obtain⟨d,z,ne,e,mA,⟨od,es,ep,e2,c⟩,r⟩:=x
  exact⟨ho _ d,z,ne,k _ _ (.inl rfl) e,mA,⟨od,es,ep,k _ _ (.inr d) e2,c⟩,r⟩
 | own y=>obtain⟨ob,e⟩:=x;exact⟨ob,k _ _ (.inl rfl) e⟩
 | xd fs=>obtain⟨mA,⟨od,es,ep,e,c⟩,r⟩:=x;exact⟨mA,⟨od,es,ep,k _ _ (.inl rfl) e,c⟩,r⟩
 | rng lo hi=>obtain⟨t,u,v,e⟩:=x;exact⟨t,u,v,k _ _ (.inl rfl) e⟩
 | frz ob u ih=>obtain⟨e,q⟩:=x;exact⟨k _ _ (.inl rfl) e,ih q⟩
 | tab q=>obtain⟨ps,e,t,c⟩:=x;exact⟨ps,k a _ (.inl rfl) e,t,fun pos v z=>let ⟨c0,z1,z2⟩:=c pos v z;⟨c0,z1,ht _ _ z2 trivial⟩⟩
 | cod q=>obtain⟨c,oc,vs,t,e0,e,r⟩:=x;cases e0;exact⟨_,oc,vs,t,rfl,k _ _ (.inl rfl) e,r⟩
 | met f y =>
  have e:h.get? a=some (W.methodObj (.ref f) (.ref y)):=x
  show h'.get? a=some (W.methodObj (.ref f) (.ref y))
  exact k a _ (.inl rfl) e
 | ext φ=>obtain⟨p,⟨o,e⟩,st⟩:=x;exact⟨st _ _ p fun o q=>k _ _ (.inl rfl) q,⟨o,k _ _ (.inl rfl) e⟩,st⟩
theorem nV.lt(x:nV P w H h)(e:H a=some o):a < h.objs.size:=(x a o e).lt
theorem nV.fresh(x:nV P w H h)(e:h.objs.size<=a):H a=none:=by
 cases q:H a with
 | none=>rfl
 | some u=>exact absurd (zP (x.lt q) e) (qE _)
theorem nV.kept(x:nV P w H h)(k:∀b u,h.get? b=some u->h'.get? b=some u):nV P w H h':=fun a o e =>
 (x a o e).stay (fun b u _ q=>k b u q) (fun _ q=>q) fun _ _ q _=>q
theorem nV.laid(x:nV P w H h)(k:∀b u,h.get? b=some u->h'.get? b=some u)(hp:h.objs.size<=a)(new:et P w (upd H a o) h' a o):nV P w (upd H a o) h':=fun b u e=>by
 have hn:=x.fresh hp
 by_cases hb:b=a
 ·subst hb;rw[aA] at e;cases e;exact new
 ·rw[ay hb] at e
  exact (x b u e).stay (fun c v _ q=>k c v q) (fun c q=>by rw[ay (aN q hn)];exact q) fun c xs q _=>by rw[ay (aN q hn)];exact q
end
def Rd(H:Hp)(a:Addr)(u:HO):Prop:=H a=some u\/∃o,H a=some (.frz o u)
theorem Rd.ok{P:Program}{w:World}{a:Addr}{u:HO}(r:Rd H a u)(x:nV P w H h):et P w H h a u:=by
 rcases r with r|⟨o,r⟩
 ·exact x a u r
 ·obtain⟨_,q⟩:=x a _ r
  exact q
def Qs:Option HO->Prop
 | some (.lst _)=>True
 | some (.dK _)=>True
 | some (.dT _)=>True
 | some (.set _ _)=>True
 | some (.ins _ _ _)=>True
 | some (.ext _)=>True
 | _=>False
section
variable {P:Program}{w:World}{H:Hp}{h h':Heap}{x e:Addr}{o':HO}
theorem nV.write(ok:nV P w H h)(mu:Qs (H x))(he:e=x\/H e=some (.own x))(k:∀b u,b≠e->h.get? b=some u->h'.get? b=some u)(heo:∃u,h'.get? e=some u)
  (new:et P w (upd H x o') h' x o'):nV P w (upd H x o') h':=fun b u q=>by
 have nown:∀c y,H c=some (.own y)->c≠x:=fun c y r z=>by subst z;rw[r] at mu;exact mu
 have ntup:∀c u,H c=some u->SE u->c≠x:=fun c u r hr z=>by subst z;rw[r] at mu;cases u<;>first|exact mu|exact hr
 by_cases hb:b=x
 ·subst hb;rw[aA] at q;cases q;exact new
 ·rw[ay hb] at q
  by_cases hbe:b=e
  ·have q':H b=some (.own x):=by
    rcases he with z|z
    ·exact absurd (hbe.trans z) hb
    ·rw[hbe];exact z
   rw[q] at q';cases q'
   obtain⟨v,hv⟩:=heo
   exact⟨v,by rw[hbe];exact hv⟩
  ·refine (ok b u q).stay (fun c v hc r=>k c v ?_ r) (fun c r=>by rw[ay (nown c b r)];exact r) fun c xs r hr=>by rw[ay (ntup c xs r hr)];exact r
   rcases hc with rfl|hc
   ·exact hbe
   ·rintro rfl
    rcases he with z|z
    ·exact nown c b hc z
    ·rw[hc] at z;cases z;exact hb rfl
end
def Rm:HO->Prop
 | .tab _=>True
 | .cod _=>True
 | _=>False
theorem Rm.not_mut{u:HO}(h:Rm u):¬ Qs (some u):=by cases u<;>first|exact fun z=>z|exact h.elim
structure M8(H H':Hp)(h h':Heap):Prop where
 st:∀b u,H b=some u->Rm u->H' b=some u
 gr:∀b q ps,H b=some (.tab q)->h.get? b=some { cls:=.none,data:=.fields ps }->∃more:Array Value,h'.get? b=some { cls:=.none,data:=.fields (ps++more) }
theorem M8.kept{h h':Heap}(k:∀b u,(∃q,H b=some (.tab q))->h.get? b=some u->h'.get? b=some u)(st:∀b u,H b=some u->Rm u->H' b=some u):M8 H H' h h' :=
 ⟨st,fun b q ps e z=>⟨#[],by rw[Array.append_empty];exact k b _ ⟨q,e⟩ z⟩⟩
theorem M8.trans{H H1 H2:Hp}{h h1 h2:Heap}(a:M8 H H1 h h1)(b:M8 H1 H2 h1 h2):M8 H H2 h h2 :=
 ⟨fun c u q t=>b.st c u (a.st c u q t) t,fun c q ps e z=>by
  obtain⟨m1,z1⟩:=a.gr c q ps e z
  obtain⟨m2,z2⟩:=b.gr c q _ (a.st c _ e trivial) z1
  exact⟨m1++m2,by rw[z2,Array.append_assoc]⟩⟩
structure Un(fs ex:List Addr)(H H':Hp)(h h':Heap):Prop where
 keep:∀b o,h.get? b=some o->H b=none->b∉fs->b∉ex->h'.get? b=some o
 slot:∀b o,h.get? b=some o->H b=none->b∈fs->b∉ex->∃sl,h'.get? b=some { o with slots:=sl }
 free:∀b o,h.get? b=some o->H b=none->b∉ex->H' b=none
 there:∀b o,h.get? b=some o->b∉ex->∃o',h'.get? b=some o'
 tups:∀b xs,H b=some (.tup xs)->H' b=some (.tup xs)
 frzs:∀b o u,H b=some (.frz o u)->H' b=some (.frz o u)
 tbls:M8 H H' h h'
section
variable {fs fs' ex ex':List Addr}{H H1 H2:Hp}{h h1 h2 h':Heap}{a x e:Addr}{o:HO}
theorem Un.any(u:Un fs ex H H1 h h1){b:Addr}{ob:Obj}(q:h.get? b=some ob)(n:H b=none)(hx:b∉ex):∃sl,h1.get? b=some { ob with slots:=sl }:=by
 by_cases hb:b∈fs
 ·exact u.slot b ob q n hb hx
 ·exact⟨ob.slots,u.keep b ob q n hb hx⟩
theorem Un.kept(k:∀b u,h.get? b=some u->h'.get? b=some u):Un fs ex H H h h' :=
 ⟨fun b ob q _ _ _=>k b ob q,fun b ob q _ _ _=>⟨ob.slots,k b ob q⟩,fun _ _ _ n _=>n,fun b ob q _=>⟨ob,k b ob q⟩,fun _ _ q=>q,fun _ _ _ q=>q,.kept (fun b u _ e=>k b u e) fun _ _ e _=>e⟩
theorem Un.refl:Un fs ex H H h h:=Un.kept fun _ _ q=>q
theorem Un.laid(k:∀b u,h.get? b=some u->h'.get? b=some u)(hp:h.objs.size<=a)(hn:H a=none):Un fs ex H (upd H a o) h h' where
 keep:=fun b u q _ _ _=>k b u q
 slot:=fun b u q _ _ _=>⟨u.slots,k b u q⟩
 free:=fun b u q n _=>by rw[ay (yR (zP (zY q) hp))];exact n
 there:=fun b u q _=>⟨u,k b u q⟩
 tups:=fun b xs q=>by rw[ay (aN q hn)];exact q
 frzs:=fun b u xs q=>by rw[ay (aN q hn)];exact q
 tbls:=.kept (fun b u _ e=>k b u e) fun b u q _=>by rw[ay (aN q hn)];exact q
theorem Un.write(mu:Qs (H x))(he:e=x\/H e=some (.own x))(k:∀b u,b≠e->h.get? b=some u->h'.get? b=some u)(heo:∃u,h'.get? e=some u):Un fs ex H (upd H x o) h h':=by
 have hx:∀b,H b=none->b≠x:=fun b n z=>by subst z;rw[n] at mu;exact mu
 have hb:∀b,H b=none->b≠e:=fun b n z=>by
  subst z
  rcases he with r|r
  ·exact hx b n r
  ·rw[n] at r;cases r
 have hm:∀b u,H b=some u->¬ Qs (some u)->b≠x:=fun b u q nm z=>by subst z;rw[q] at mu;exact nm mu
 refine⟨fun b u q n _ _=>k b u (hb b n) q,fun b u q n _ _=>⟨u.slots,k b u (hb b n) q⟩,fun b u q n _=>by rw[ay (hx b n)];exact n,fun b u q _=>?_,
  fun b xs q=>by rw[ay (hm b _ q fun z=>z)];exact q,fun b u xs q=>by rw[ay (hm b _ q fun z=>z)];exact q,.kept (fun b u z e=>k b u (fun r=>by subst r;rcases he with r|r<;>first|(subst r;rcases z with ⟨q,z⟩;rw[z] at mu;exact mu)|(rcases z with ⟨q,z⟩;rw[z] at r;cases r)) e) fun b u q nm=>by rw[ay (hm b _ q (nm.not_mut))];exact q⟩
 by_cases hbe:b=e
 ·subst hbe;exact heo
 ·exact⟨u,k b u hbe q⟩
end
def Kr(h:Heap)(H:Hp):List Addr:=(List.range h.objs.size).filter fun a=>(H a).isSome
def xo(h:Heap)(H:Hp):Heap:=W.hideAll h (Kr h H)
theorem Ga(h:Heap)(H:Hp):(xo h H).objs.size=h.objs.size:=W.hideAll_size _ _
theorem JK{b:Addr}{o:Obj}(e:h.get? b=some o)(n:H b=none):(xo h H).get? b=some o :=
 W.hideAll_get _ e fun hm=>by
  have q:(H b).isSome=true:=(List.mem_filter.mp hm).2
  rw[n] at q;simp at q
theorem Lb{b:Addr}{o:Obj}(e:(xo h H).get? b=some o):h.get? b=some o/\H b=none:=by
 have e':h.get? b=some o:=W.of_hideAll (Kr h H) e
 refine⟨e',?_⟩
 cases q:H b with
 | none=>rfl
 | some x =>
  have hm:b∈Kr h H:=List.mem_filter.mpr ⟨List.mem_range.mpr (zY e'),by simp[q]⟩
  have z:(xo h H).get? b=none:=W.hideAll_none (Kr h H) hm
  rw[z] at e;cases e
def Rk(mg:Str->Option Value)(base:Heap):Prop:=∃bm o,mg "__builtins__"=some (.ref bm)/\bm≠builtinsNs/\bm≠mainGlobals/\base.get? bm=some o/\o.cls=.type "module"/\o.dict=some builtinsNs/\o.data=.plain
structure Mod(K:W.Frag)(mg:Str->Option Value)(base:Heap):Prop where
 kin:K.In base
 glob:base.Ns mainGlobals mg
 blt:∃mb,base.Ns builtinsNs mb/\∀x:Str,x≠"__name__"->mb x=bootBuiltins x
 nolimit:base.NoLimit
 bmd:Rk mg base
structure Cx where
 prog:Program
 w:World
 K:W.Frag
 mg:Str->Option Value
 base:Heap
 A:Around
 N:List Str
 s₀:Shared
 H₀:Hp
 env:Env
 outer:List Env
 stack:List Env
 ex:List Addr
 fn:Str->Bool
 calm:Bool
 pn:List (Addr×Obj)
 xe:Value->Shared->Prop
def ie(l:List Env):List Addr:=l.filterMap (·.frame)
abbrev Cx.fs(X:Cx):List Addr:=ie X.outer
def Mv(sc:Scope)(x:Str):Prop:=sc.names.lookup x=some .local \/ sc.names.lookup x=some .cell\/sc.names.lookup x=some .free
def Loc(sc:Scope)(x:Str):Prop:=sc.names.lookup x=some .local \/ sc.names.lookup x=some .cell
def Look(env:Env)(h:Heap)(m:Str->Option Value)(x:Str)(u:Value):Prop :=
 (env.kindOf x=some .local /\ m x=some u)\/((env.kindOf x=some .cell\/env.kindOf x=some .free)/\∃c,env.cells.lookup x=some c/\h.IsCell c (some u))
structure Cx.Ok(X:Cx):Prop where
 mod:Mod X.K X.mg X.base
 kind:X.env.scope.kind=.function
 glob:X.env.globals=mainGlobals
 blt:X.env.builtins=builtinsNs
 above:X.s₀.heap.objs.size<=X.env.locals
 inj:∀x y c,X.env.cells.lookup x=some c->X.env.cells.lookup y=some c->x=y
 has:∀x,(X.env.kindOf x=some .cell\/X.env.kindOf x=some .free)->∃c,X.env.cells.lookup x=some c
 cab:∀x c,X.fn x=true->X.env.cells.lookup x=some c->X.s₀.heap.objs.size<=c
 hd:X.calm=true->X.A.handled=none
 frames:X.A.frames=some X.stack
 stk:X.stack=X.outer\/(X.stack=X.env::X.outer/\X.env.frame=some X.env.locals)
 exf:∀b∈X.ex,b≠X.env.locals/\∀x c,X.env.cells.lookup x=some c->c≠b
 bs:∀b o,X.base.get? b=some o->X.s₀.heap.get? b=some o/\X.H₀ b=none
 bsz:X.base.objs.size<=X.s₀.heap.objs.size
 noex:∀b o,X.base.get? b=some o->b∉X.ex
 exfs:∀b∈X.ex,b∉X.fs
 funs:X.s₀.heap.FunFrames X.base X.outer
 frf:∀b∈X.fs,X.H₀ b=none
structure Inv(X:Cx)(pins:List (Addr×Obj))(σ:List (Option V))(H:Hp)(s:Shared):Prop where
 ok:X.Ok
 os:s.os=X.s₀.os
 bare:AllBare s.gens
 base:Un X.fs X.ex X.H₀ H X.s₀.heap s.heap
 loc:∃m,s.heap.Ns X.env.locals m/\∀ (i:Nat) (x:Str) (v:V),X.N[i]?=some x->σ[i]?=some (some v)->Mv X.env.scope x->∃u,RelV v u/\Look X.env s.heap m x u
 cell:∀x c,X.env.cells.lookup x=some c->∃v,s.heap.IsCell c v
 free:H X.env.locals=none
 freeC:∀x c,X.env.cells.lookup x=some c->H c=none
 pin:∀p∈X.pn++pins,s.heap.get? p.1=some p.2/\H p.1=none/\p.1≠X.env.locals/\p.1∉X.fs/\∀v,p.2.data≠.cell v
 hok:nV X.prog X.w H s.heap
 len:σ.length=X.N.length
section
variable {X:Cx}{pins:List (Addr×Obj)}{σ:List (Option V)}{H H':Hp}{s:Shared}{h':Heap}
theorem Cx.Ok.nofr(ok:X.Ok){b:Addr}{o:Obj}(e:X.base.get? b=some o):b∉X.fs:=fun hb=>by
 have:=(ok.funs.mem hb).1
 rw[e] at this;cases this
theorem Inv.bs(I:Inv X pins σ H s):∀b o,X.base.get? b=some o->s.heap.get? b=some o/\H b=none:=fun b o e =>
 ⟨I.base.keep b o (I.ok.bs b o e).1 (I.ok.bs b o e).2 (I.ok.nofr e) (I.ok.noex b o e),I.base.free b o (I.ok.bs b o e).1 (I.ok.bs b o e).2 (I.ok.noex b o e)⟩
theorem Inv.bk(I:Inv X pins σ H s):∀b o,X.base.get? b=some o->s.heap.get? b=some o:=fun b o e=>(I.bs b o e).1
theorem Inv.mod(I:Inv X pins σ H s):Mod X.K X.mg X.base:=I.ok.mod
theorem Inv.kIn(I:Inv X pins σ H s):X.K.In s.heap:=I.ok.mod.kin.keeps I.bk
theorem Inv.nolimit(I:Inv X pins σ H s):s.heap.NoLimit:=I.ok.mod.nolimit.keeps I.bk
theorem Inv.lt(I:Inv X pins σ H s):X.env.locals < s.heap.objs.size:=let ⟨_,hn,_⟩:=I.loc;hn.lt
theorem Inv.sz(I:Inv X pins σ H s):X.s₀.heap.objs.size<=s.heap.objs.size:=yD I.ok.above (jT I.lt)
theorem Inv.nofs(I:Inv X pins σ H s){a:Addr}(h:s.heap.objs.size<=a):a∉X.fs:=fun hb=>by
 obtain⟨_,o,ho,_⟩:=I.ok.funs.mem hb
 exact absurd (zP (zY ho) (yD I.sz h)) (qE _)
theorem Inv.cne(I:Inv X pins σ H s):∀x c,X.env.cells.lookup x=some c->c≠X.env.locals:=fun x c e z=>by
 obtain⟨v,o,ho,hd⟩:=I.cell x c e
 obtain⟨m,⟨o',es,ep,ho',hd',_⟩,_⟩:=I.loc
 rw[z,ho'] at ho;cases ho;rw[hd'] at hd;cases hd
theorem Inv.funs(I:Inv X pins σ H s):s.heap.FunFrames X.base X.outer:=by
 have all:∀ (l:List Env),(∀b∈ie l,b∈X.fs)->X.s₀.heap.FunFrames X.base l->s.heap.FunFrames X.base l:=by
  intro l
  induction l with
  | nil=>intro _ _;trivial
  | cons env r ih =>
   intro hs hl
   obtain⟨hk,⟨L,o,hf,hn,ho,hd⟩,hr⟩:=hl
   have hL:L∈X.fs:=hs L (by unfold ie;rw[jG,hf];exact zE)
   obtain⟨sl,e⟩:=I.base.slot L o ho (I.ok.frf L hL) hL fun z=>I.ok.exfs L z hL
   exact⟨hk,⟨L,_,hf,hn,e,hd⟩,ih (fun b hb=>hs b (by unfold ie;rw[jG,hf];exact zC _ hb)) hr⟩
 exact all X.outer (fun _ hb=>hb) I.ok.funs
theorem Inv.stack(I:Inv X pins σ H s):s.heap.FunFrames X.base X.stack:=by
 rcases I.ok.stk with e|⟨e,hf⟩
 ·rw[e];exact I.funs
 ·rw[e]
  obtain⟨m,hn,_⟩:=I.loc
  refine .cons (by rw[I.ok.kind];decide) hf hn ?_ I.funs
  exact Heap.get?_none_of_le (yD I.ok.bsz I.ok.above)
theorem Inv.stkSub(I:Inv X pins σ H s):∀b∈ie X.stack,b∈X.env.locals::X.fs:=fun b hb=>by
 rcases I.ok.stk with e|⟨e,hf⟩
 ·rw[e] at hb;exact zC _ hb
 ·rw[e] at hb
  unfold ie at hb
  rw[jG,hf] at hb
  exact hb
theorem Inv.stkFree(I:Inv X pins σ H s):∀b∈ie X.stack,H b=none:=fun b hb=>by
 rcases List.mem_cons.mp (I.stkSub b hb) with e|hb
 ·rw[e];exact I.free
 ·obtain⟨_,o,ho,_⟩:=I.ok.funs.mem hb
  exact I.base.free b o ho (I.ok.frf b hb) fun z=>I.ok.exfs b z hb
theorem Inv.step{g':Array GenState}{t':Nat}{d':Drawn}{ch:List Addr}(I:Inv X pins σ H s)
  (hch:∀b∈ch,(b∈X.ex\/X.s₀.heap.objs.size<=b)/\b≠X.env.locals/\(∀x c,X.env.cells.lookup x=some c->c≠b)/\∀p∈X.pn++pins,p.1≠b)
  (keep:∀b o,b≠X.env.locals->b∉X.fs->b∉ch->s.heap.get? b=some o->H b=none->h'.get? b=some o)
  (slot:∀b o,b≠X.env.locals->b∈X.fs->b∉ch->s.heap.get? b=some o->H b=none->∃sl,h'.get? b=some { o with slots:=sl }) (free:∀b o,b∉ch->s.heap.get? b=some o->H b=none->H' b=none)
  (there:∀b o,b∉ch->s.heap.get? b=some o->∃o',h'.get? b=some o')
  (tups:∀b xs,H b=some (.tup xs)->H' b=some (.tup xs)) (frzs:∀b o u,H b=some (.frz o u)->H' b=some (.frz o u)) (tbls:M8 H H' s.heap h')
  (ns:∀m,s.heap.Ns X.env.locals m->h'.Ns X.env.locals m) (hok:nV X.prog X.w H' h') (hg:AllBare g') :
  Inv X pins σ H' { s with heap:=h',gens:=g',drawn:=d',toks:=t' }:=by
 have neL:∀b o,X.s₀.heap.get? b=some o->b≠X.env.locals:=fun b o e=>yR (zP (zY e) I.ok.above)
 have neC:∀b o,X.s₀.heap.get? b=some o->b∉X.ex->b∉ch:=fun b o e hx hb=>by
  rcases (hch b hb).1 with z|z
  ·exact hx z
  ·exact absurd (zP (zY e) z) (qE _)
 have cellK:∀x c,X.env.cells.lookup x=some c->∀v,s.heap.IsCell c v->h'.IsCell c v:=fun x c e v ⟨o,ho,hd⟩=>by
  have nch:c∉ch:=fun z=>(hch c z).2.2.1 x c e rfl
  by_cases hc:c∈X.fs
  ·obtain⟨sl,q⟩:=slot c o (I.cne x c e) hc nch ho (I.freeC x c e)
   exact⟨_,q,hd⟩
  ·exact⟨o,keep c o (I.cne x c e) hc nch ho (I.freeC x c e),hd⟩
 refine⟨I.ok,I.os,hg,⟨fun b o e n hb hx=>?_,fun b o e n hb hx=>?_,fun b o e n hx=>?_,fun b o e hx=>?_,fun b xs e=>tups b xs (I.base.tups b xs e),fun b o xs e=>frzs b o xs (I.base.frzs b o xs e),I.base.tbls.trans tbls⟩,?_,fun x c e=>?_,?_,fun x c e=>?_,fun p hp=>?_,hok,I.len⟩
 ·exact keep b o (neL b o e) hb (neC b o e hx) (I.base.keep b o e n hb hx) (I.base.free b o e n hx)
 ·obtain⟨sl,e1⟩:=I.base.slot b o e n hb hx
  obtain⟨sl',e2⟩:=slot b _ (neL b o e) hb (neC b o e hx) e1 (I.base.free b o e n hx)
  exact⟨sl',e2⟩
 ·obtain⟨o',e1⟩:=I.base.there b o e hx
  exact free b o' (neC b o e hx) e1 (I.base.free b o e n hx)
 ·obtain⟨o',e1⟩:=I.base.there b o e hx
  exact there b o' (neC b o e hx) e1
 ·obtain⟨m,hn,hl⟩:=I.loc
  refine⟨m,ns m hn,fun i x v e1 e2 e3=>?_⟩
  obtain⟨u,r,l⟩:=hl i x v e1 e2 e3
  refine⟨u,r,?_⟩
  rcases l with l|⟨k,c,e,z⟩
  ·exact .inl l
  ·exact .inr ⟨k,c,e,cellK x c e _ z⟩
 ·obtain⟨v,z⟩:=I.cell x c e
  exact⟨v,cellK x c e v z⟩
 ·obtain⟨m,⟨o,_,_,ho,_⟩,_⟩:=I.loc
  exact free _ o (fun z=>(hch _ z).2.1 rfl) ho I.free
 ·obtain⟨v,o,ho,hd⟩:=I.cell x c e
  exact free c o (fun z=>(hch c z).2.2.1 x c e rfl) ho (I.freeC x c e)
 ·obtain⟨e,n,ne,nf,d⟩:=I.pin p hp
  have nch:p.1∉ch:=fun z=>(hch p.1 z).2.2.2 p hp rfl
  exact⟨keep p.1 p.2 ne nf nch e n,free p.1 p.2 nch e n,ne,nf,d⟩
theorem Inv.un{t':Nat}(I:Inv X pins σ H s)(u:Un X.fs [] H H' s.heap h')(hok:nV X.prog X.w H' h'):Inv X pins σ H' { s with heap:=h',toks:=t' }:=by
 obtain⟨m,⟨o,es,ep,ho,r⟩,_⟩:=id I.loc
 obtain⟨sl,hL⟩:=u.any ho I.free (by simp)
 exact I.step (g':=s.gens) (d':=s.drawn) (ch:=[]) (fun _ z=>nomatch z) (fun b o _ hb _ e n=>u.keep b o e n hb (by simp)) (fun b o _ hb _ e n=>u.slot b o e n hb (by simp)) (fun b o _ e n=>u.free b o e n (by simp)) (fun b o _ e=>u.there b o e (by simp)) u.tups u.frzs u.tbls (fun m' hm=>by
  obtain⟨o',es',ep',ho',r'⟩:=hm
  rw[ho] at ho';cases ho'
  exact⟨_,es',ep',hL,r'⟩) hok I.bare
theorem Inv.call{g':Array GenState}{t':Nat}{d':Drawn}{ch:List Addr}(I:Inv X pins σ H s)(u:Un (ie X.stack) ch H H' s.heap h')(hok:nV X.prog X.w H' h')(hg:AllBare g')
  (hch:∀b∈ch,(b∈X.ex\/X.s₀.heap.objs.size<=b)/\b≠X.env.locals/\(∀x c,X.env.cells.lookup x=some c->c≠b)/\∀p∈X.pn++pins,p.1≠b) :
  Inv X pins σ H' { s with heap:=h',gens:=g',drawn:=d',toks:=t' }:=by
 obtain⟨m,⟨o,es,ep,ho,r⟩,_⟩:=id I.loc
 obtain⟨sl,hL⟩:=u.any ho I.free fun z=>(hch _ z).2.1 rfl
 exact I.step (ch:=ch) hch (fun b o hL hb hc e n=>u.keep b o e n (fun z=>(List.mem_cons.mp (I.stkSub b z)).elim hL hb) hc) (fun b o _ _ hc e n=>u.any e n hc) (fun b o hc e n=>u.free b o e n hc) (fun b o hc e=>u.there b o e hc) u.tups u.frzs u.tbls (fun m' hm=>by
  obtain⟨o',es',ep',ho',r'⟩:=hm
  rw[ho] at ho';cases ho'
  exact⟨_,es',ep',hL,r'⟩) hok hg
theorem Inv.turned{t':Nat}(I:Inv X pins σ H s)(k:∀b o,b≠it->s.heap.get? b=some o->h'.get? b=some o)(hn:H it=none)(hL:it≠X.env.locals)
  (h1:it∈X.ex\/X.s₀.heap.objs.size<=it) (h2:∀x c,X.env.cells.lookup x=some c->c≠it) (h3:∀p∈X.pn++pins,p.1≠it):Inv X pins σ H { s with heap:=h',toks:=t' }:=by
 have nit:∀b u,H b=some u->b≠it:=fun b u e z=>by rw[z,hn] at e;cases e
 refine I.step (g':=s.gens) (d':=s.drawn) (ch:=[it]) (fun b hb=>?_) (fun b o _ _ hc e _=>k b o (fun z=>hc (by simp[z])) e) (fun b o _ _ hc e _=>⟨o.slots,k b o (fun z=>hc (by simp[z])) e⟩) (fun _ _ _ _ n=>n)
  (fun b o hc e=>⟨o,k b o (fun z=>hc (by simp[z])) e⟩) (fun _ _ e=>e) (fun _ _ _ e=>e) (.kept (fun b u z e=>k b u (fun r=>by subst r;rcases z with ⟨q,z⟩;rw[hn] at z;cases z) e) fun _ _ e _=>e) (fun m hm=>?_) (fun b u e=>?_) I.bare
 ·have e:b=it:=by simpa using hb
  subst e
  exact⟨h1,hL,h2,h3⟩
 ·obtain⟨o,es,ep,ho,r⟩:=hm
  exact⟨o,es,ep,k _ o (jN hL) ho,r⟩
 ·refine (I.hok b u e).stay (fun c v hc q=>k c v ?_ q) (fun _ q=>q) fun _ _ q _=>q
  rcases hc with z|z
  ·rw[z];exact nit b u e
  ·exact nit c _ z
theorem Inv.tok(I:Inv X pins σ H s)(t:Nat):Inv X pins σ H { s with toks:=t }:=I.un (h':=s.heap) (t':=t) Un.refl I.hok
theorem Inv.kept{t':Nat}(I:Inv X pins σ H s)(k:∀b u,s.heap.get? b=some u->h'.get? b=some u):Inv X pins σ H { s with heap:=h',toks:=t' }:=I.un (Un.kept k) (I.hok.kept k)
theorem Inv.laid{a:Addr}{o:HO}{t':Nat}(I:Inv X pins σ H s)(k:∀b u,s.heap.get? b=some u->h'.get? b=some u)(hp:s.heap.objs.size<=a)(new:et X.prog X.w (upd H a o) h' a o) :
  Inv X pins σ (upd H a o) { s with heap:=h',toks:=t' }:=I.un (Un.laid k hp (I.hok.fresh hp)) (I.hok.laid k hp new)
theorem Inv.write{x e:Addr}{o:HO}{t':Nat}(I:Inv X pins σ H s)(mu:Qs (H x))(he:e=x\/H e=some (.own x))(k:∀b u,b≠e->s.heap.get? b=some u->h'.get? b=some u)(heo:∃u,h'.get? e=some u)
  (new:et X.prog X.w (upd H x o) h' x o):Inv X pins σ (upd H x o) { s with heap:=h',toks:=t' }:=I.un (Un.write mu he k heo) (I.hok.write mu he k heo new)
theorem Inv.pins_of{pins':List (Addr×Obj)}(I:Inv X pins σ H s)(h:∀p∈pins',s.heap.get? p.1=some p.2/\H p.1=none/\p.1≠X.env.locals/\p.1∉X.fs/\∀v,p.2.data≠.cell v):Inv X pins' σ H s :=
 ⟨I.ok,I.os,I.bare,I.base,I.loc,I.cell,I.free,I.freeC,fun p hp=>(List.mem_append.mp hp).elim (fun z=>I.pin p (qJ _ z)) (h p),I.hok,I.len⟩
theorem AE(hN:N.Nodup){x:Str}(a:N[i]?=some x)(b:N[j]?=some x):i=j:=by
 obtain⟨h1,e1⟩:=List.getElem?_eq_some_iff.mp a
 obtain⟨h2,e2⟩:=List.getElem?_eq_some_iff.mp b
 exact (List.getElem_inj hN).mp (e1.trans e2.symm)
theorem oa{M:Model}{A:Around}{E:Value->Shared->Prop}{x:Str}{v:V}{u:Value}{Q:Unit->Shared->Prop}(I:Inv X pins σ H s)(hN:X.N.Nodup)(hi:X.N[i]?=some x)(hx:Loc X.env.scope x)(r:RelV v u)
  (h:∀s',Inv X pins (σ.set i (some v)) H s'->(∃a,Heap.SameBut a s.heap s'.heap/\(a=X.env.locals\/X.env.cells.lookup x=some a))->Q () s') (hf:X.fn x=true\/X.env.scope.names.lookup x=some .local:=by first|exact .inl rfl|exact .inr rfl|assumption):wpAny M A (storeName X.env x u) Q E s:=by
 obtain⟨m,hn,hl⟩:=id I.loc
 have hcls:(X.env.scope.kind == .class||(X.env.scope.kind == .module&&X.env.locals != X.env.globals))=false:=by rw[I.ok.kind];rfl
 have hiσ:i < σ.length:=by rw[I.len];exact (List.getElem?_eq_some_iff.mp hi).1
 have cne:=I.cne
 have tracked:∀ {a:Addr}{h':Heap},(∃o,s.heap.get? a=some o/\H a=none)->Heap.SameBut a s.heap h'->nV X.prog X.w H h':=fun {a h'} ha hs b ob e=>by
  obtain⟨_,_,hfree⟩:=ha
  refine (I.hok b ob e).stay (fun c w' hc q=>(hs.2 c ?_).trans q) (fun _ q=>q) fun _ _ q _=>q
  rintro rfl
  rcases hc with rfl|hc
  ·rw[hfree] at e;cases e
  ·rw[hfree] at hc;cases hc
 rcases hx with hk|hk
 ·refine wpAny_storeName_local hk hn (fun h' hn' hs=>?_) hcls
  obtain⟨oL,_,_,hoL,_⟩:=id hn
  refine h _ ⟨I.ok,I.os,I.bare,⟨fun b o e n hb hx=>?_,fun b o e n hb hx=>?_,I.base.free,fun b o e hx=>?_,I.base.tups,I.base.frzs,I.base.tbls.trans (.kept (fun b u z e=>(hs.2 b (fun r=>by rcases z with ⟨q,z⟩;rw[r,I.free] at z;cases z)).trans e) fun _ _ e _=>e)⟩,⟨_,hn',fun j y v' e1 e2 e3=>?_⟩,fun y c e=>?_,I.free,I.freeC,fun p hp=>?_,tracked ⟨oL,hoL,I.free⟩ hs,by simpa using I.len⟩ ⟨_,hs,.inl rfl⟩
  ·exact (hs.2 b (yR (zP (zY e) I.ok.above))).trans (I.base.keep b o e n hb hx)
  ·obtain⟨sl,e1⟩:=I.base.slot b o e n hb hx
   exact⟨sl,(hs.2 b (yR (zP (zY e) I.ok.above))).trans e1⟩
  ·obtain⟨o',e1⟩:=I.base.there b o e hx
   exact⟨o',(hs.2 b (yR (zP (zY e) I.ok.above))).trans e1⟩
  ·by_cases hj:j=i
   ·subst hj
    rw[hi] at e1;cases e1
    rw[vU hiσ] at e2
    cases e2
    exact⟨u,r,.inl ⟨hk,by simp⟩⟩
   ·rw[kX (jN hj)] at e2
    obtain⟨u',r',q⟩:=hl j y v' e1 e2 e3
    refine⟨u',r',?_⟩
    rcases q with ⟨k,e⟩|⟨k,c,e,z⟩
    ·refine .inl ⟨k,?_⟩
     have:y≠x:=fun e=>hj (AE hN e1 (e ▸ hi))
     simp[this,e]
    ·exact .inr ⟨k,c,e,z.sameBut hs (cne y c e)⟩
  ·obtain⟨w',z⟩:=I.cell y c e
   exact⟨w',z.sameBut hs (cne y c e)⟩
  ·obtain⟨e,n,ne,nf,d⟩:=I.pin p hp
   exact⟨(hs.2 p.1 ne).trans e,n,ne,nf,d⟩
 ·have hfn:X.fn x=true:=by
   rcases hf with z|z
   ·exact z
   ·rw[z] at hk;cases hk
  obtain⟨c,hc⟩:=I.ok.has x (.inl hk)
  obtain⟨w',z⟩:=I.cell x c hc
  refine wpAny_storeName_cell I.ok.kind hk hc z (fun h' hc' hs=>?_)
  obtain⟨oc,hoc,hocd⟩:=id z
  refine h { s with heap:=h' } ⟨I.ok,I.os,I.bare,⟨fun b o e n hb hx=>?_,fun b o e n hb hx=>?_,I.base.free,fun b o e hx=>?_,I.base.tups,I.base.frzs,I.base.tbls.trans (.kept (fun b u z e=>(hs.2 b (fun r=>by rcases z with ⟨q,z⟩;rw[r,I.freeC x c hc] at z;cases z)).trans e) fun _ _ e _=>e)⟩,⟨m,hn.sameBut hs (jN (cne x c hc)),fun j y v' e1 e2 e3=>?_⟩,fun y c' e=>?_,I.free,I.freeC,fun p hp=>?_,tracked ⟨oc,hoc,I.freeC x c hc⟩ hs,by simpa using I.len⟩ ⟨c,hs,.inr hc⟩
  ·exact (hs.2 b (yR (zP (zY e) (I.ok.cab x c hfn hc)))).trans (I.base.keep b o e n hb hx)
  ·obtain⟨sl,e1⟩:=I.base.slot b o e n hb hx
   exact⟨sl,(hs.2 b (yR (zP (zY e) (I.ok.cab x c hfn hc)))).trans e1⟩
  ·obtain⟨o',e1⟩:=I.base.there b o e hx
   exact⟨o',(hs.2 b (yR (zP (zY e) (I.ok.cab x c hfn hc)))).trans e1⟩
  ·by_cases hj:j=i
   ·subst hj
    rw[hi] at e1;cases e1
    rw[vU hiσ] at e2
    cases e2
    exact⟨u,r,.inr ⟨.inl hk,c,hc,hc'⟩⟩
   ·rw[kX (jN hj)] at e2
    obtain⟨u',r',q⟩:=hl j y v' e1 e2 e3
    refine⟨u',r',?_⟩
    rcases q with q|⟨k,c',e,z'⟩
    ·exact .inl q
    ·refine .inr ⟨k,c',e,z'.sameBut hs ?_⟩
     rintro rfl
     exact hj (AE hN e1 (I.ok.inj _ _ _ e hc ▸ hi))
  ·by_cases hcc:c'=c
   ·subst hcc;exact⟨_,hc'⟩
   ·obtain⟨w2,z2⟩:=I.cell y c' e
    exact⟨w2,z2.sameBut hs hcc⟩
  ·obtain⟨e,n,ne,nf,d⟩:=I.pin p hp
   refine⟨(hs.2 p.1 ?_).trans e,n,ne,nf,d⟩
   intro q
   rw[q,hoc] at e
   have q':oc=p.2:=xD e
   exact d w' (by rw[<- q'];exact hocd)
theorem z6{M:Model}{A:Around}{E:Value->Shared->Prop}{x:Str}{v:V}{u:Value}{Q:Unit->Shared->Prop}(I:Inv X pins σ H s)(hN:X.N.Nodup)(hi:X.N[i]?=some x)(hx:Loc X.env.scope x)(r:RelV v u)
  (h:∀s',Inv X pins (σ.set i (some v)) H s'->Q () s') (hf:X.fn x=true\/X.env.scope.names.lookup x=some .local:=by first|exact .inl rfl|exact .inr rfl|assumption):wpAny M A (storeName X.env x u) Q E s :=
 oa I hN hi hx r (fun s' I' _=>h s' I') hf
theorem Inv.call'{s':Shared}{ch:List Addr}(I:Inv X pins σ H s)(ho:s'.os=s.os)(u:Un (ie X.stack) ch H H' s.heap s'.heap)(hok:nV X.prog X.w H' s'.heap)(hg:AllBare s'.gens)
  (hch:∀b∈ch,(b∈X.ex\/X.s₀.heap.objs.size<=b)/\b≠X.env.locals/\(∀x c,X.env.cells.lookup x=some c->c≠b)/\∀p∈X.pn++pins,p.1≠b):Inv X pins σ H' s':=by
 obtain⟨h',g',d',t',o'⟩:=s'
 have e:o'=s.os:=ho
 subst e
 exact I.call (g':=g') (t':=t') (d':=d') u hok hg hch
end
abbrev XK:=Value->Option Addr->Hp->Prop
abbrev St:=List (Option V)
abbrev VK:=V->Hp->Prop
abbrev TE:=St->Hp->VK->Prop
abbrev TT:=St->Hp->(Bool->Hp->Prop)->Prop
abbrev TA:=St->Hp->(List V->Hp->Prop)->Prop
structure Ends where
 nx:St->Hp->Prop
 rt:VK
 bk:St->Hp->Prop:=fun _ _=>False
 ct:St->Hp->Prop:=fun _ _=>False
abbrev TS:=Ends->St->Hp->Prop
def EP(X:Cx)(pins:List (Addr×Obj))(σ:St)(Q:VK)(u:Value)(s':Shared):Prop:=∃v H',Inv X pins σ H' s'/\RelV v u/\Q v H'
def TP(X:Cx)(pins:List (Addr×Obj))(σ:St)(Q:Bool->Hp->Prop)(b:Bool)(s':Shared):Prop:=∃H',Inv X pins σ H' s'/\Q b H'
def AP(X:Cx)(pins:List (Addr×Obj))(σ:St)(Q:List V->Hp->Prop)(us:List Value)(s':Shared):Prop:=∃vs H',Inv X pins σ H' s'/\aE vs us/\Q vs H'
def SP(X:Cx)(pins:List (Addr×Obj))(D:Ends)(f:Flow)(s':Shared):Prop :=
 match f with
 | .next=>∃σ' H',Inv X pins σ' H' s'/\D.nx σ' H'
 | .brk=>∃σ' H',Inv X pins σ' H' s'/\D.bk σ' H'
 | .cont=>∃σ' H',Inv X pins σ' H' s'/\D.ct σ' H'
 | .ret u=>∃v σ' H',Inv X pins σ' H' s'/\RelV v u/\D.rt v H'
def PE(X:Cx)(e:Expr)(t:TE):Prop :=
 ∀ (pins:List (Addr×Obj)) (s:Shared) (σ:St) (H:Hp) (Q:VK),Inv X pins σ H s->t σ H Q->wpAny (model X.prog X.w) X.A (eval e X.env) (EP X pins σ Q) X.xe s
def PT(X:Cx)(e:Expr)(t:TT):Prop :=
 ∀ (pins:List (Addr×Obj)) (s:Shared) (σ:St) (H:Hp) (Q:Bool->Hp->Prop),Inv X pins σ H s->t σ H Q->wpAny (model X.prog X.w) X.A (isTrue e X.env (eval e X.env)) (TP X pins σ Q) X.xe s
def PW(X:Cx)(e:Expr)(t:TT):Prop :=
 ∀ (whole:Sem Value) (pins:List (Addr×Obj)) (s:Shared) (σ:St) (H:Hp) (Q:Bool->Hp->Prop),Inv X pins σ H s->t σ H Q->wpAny (model X.prog X.w) X.A (isTrue e X.env whole) (TP X pins σ Q) X.xe s
theorem PW.pt{e:Expr}{t:TT}(h:PW X e t):PT X e t:=h _
def PA(X:Cx)(es:List Expr)(t:TA):Prop :=
 ∀ (pos:Pos) (pins:List (Addr×Obj)) (s:Shared) (σ:St) (H:Hp) (Q:List V->Hp->Prop),Inv X pins σ H s->t σ H Q->wpAny (model X.prog X.w) X.A (spliced (backTo pos (starEach es X.env))) (AP X pins σ Q) X.xe s
def PS(X:Cx)(st:Stmt)(t:TS):Prop :=
 ∀ (pins:List (Addr×Obj)) (s:Shared) (σ:St) (H:Hp) (D:Ends),Inv X pins σ H s->t D σ H->wpAny (model X.prog X.w) X.A (exec st X.env) (SP X pins D) X.xe s
def v5(X:Cx)(st:List Stmt)(t:TS):Prop :=
 ∀ (pins:List (Addr×Obj)) (s:Shared) (σ:St) (H:Hp) (D:Ends),Inv X pins σ H s->t D σ H->wpAny (model X.prog X.w) X.A (execs st X.env) (SP X pins D) X.xe s
theorem cF{α:Type}{t:Sem α}{Q Q':α->Shared->Prop}{M:Model}{E:Value->Shared->Prop}(h:wpAny M A t Q E s)(hQ:∀a s,Q a s->Q' a s):wpAny M A t Q' E s:=xA h hQ fun _ _ x=>x
section
variable {X:Cx}
def Sr(i:Nat):TE:=fun σ H Q=>∃v,σ[i]?=some (some v)/\Q v H
def tC(v:V):TE:=fun _ H Q=>Q v H
theorem kg{x:Str}(hN:X.N[i]?=some x)(hv:Mv X.env.scope x)(hd:(x == ("__debug__":Str))=false:=by decide)(hcd:(x == ("__classdict__":Str))=false:=by decide):PE X (.Name x pos) (Sr i):=by
 intro pins s σ H Q I h
 obtain⟨v,e,h⟩:=h
 obtain⟨m,hn,hl⟩:=I.loc
 obtain⟨u,r,l⟩:=hl i x v hN e hv
 have fin:EP X pins σ Q u s:=⟨v,H,I,r,h⟩
 rcases l with ⟨hk,hm⟩|⟨hk,c,hc,hcell⟩
 ·exact wU (wJ I.ok.kind hk hn hm fin) hd
 ·rcases hk with hk|hk
  ·exact wU (wpAny_loadName_cell I.ok.kind hk hc hcell fin) hd
  ·exact wU (wpAny_loadName_free I.ok.kind hk hc hcell fin hcd) hd
theorem Hg{i j pos}:PE X (.Constant (.int i) j pos) (tC (.int i)):=fun _ _ _ H _ I h=>wpAny_Constant_int ⟨.int i,H,I.tok _,⟨_,rfl⟩,h⟩
theorem Hz{b j pos}:PE X (.Constant (.bool b) j pos) (tC (.bl b)):=fun _ _ _ H _ I h=>Constant_bool ⟨.bl b,H,I,rfl,h⟩
theorem O8{j pos}:PE X (.Constant .none j pos) (tC .non):=fun _ _ _ H _ I h=>Constant_none ⟨.non,H,I,rfl,h⟩
theorem HQ{x j pos}:PE X (.Constant (.str x) j pos) (tC (.str x)):=fun _ _ _ H _ I h=>Za ⟨.str x,H,I.tok _,⟨_,rfl⟩,h⟩
def Gl(X:Cx)(x:Str):Prop:=X.env.kindOf x=some .globalImplicit
theorem lH{E:Value->Shared->Prop}{σ:St}{x:Str}{u:Value}{pos:Pos}(I:Inv X pins σ H s)(hg:Gl X x)(hm:X.mg x=some u)(h:Q u s)
  (hd:(x == ("__debug__":Str))=false:=by decide):wpAny (model X.prog X.w) X.A (eval (.Name x pos) X.env) Q E s :=
 Calls.Name_function_global I.ok.kind hg (Calls.loadGlobal_global (by rw[I.ok.glob];exact I.mod.glob.keeps I.bk) hm h) hd
theorem fW{E:Value->Shared->Prop}{σ:St}{x:Str}{u:Value}{pos:Pos}(I:Inv X pins σ H s)(hg:Gl X x)(hm:X.mg x=none)(hv:bootBuiltins x=some u)(h:Q u s)
  (hn:x≠"__name__":=by decide) (hd:(x == ("__debug__":Str))=false:=by decide):wpAny (model X.prog X.w) X.A (eval (.Name x pos) X.env) Q E s:=by
 obtain⟨mb,h1,h2⟩:=I.mod.blt
 exact Calls.Name_function_global I.ok.kind hg (Calls.loadGlobal_builtin (by rw[I.ok.glob];exact I.mod.glob.keeps I.bk) hm (by rw[I.ok.blt];exact h1.keeps I.bk) ((h2 x hn).trans hv) h) hd
theorem LP{x:Str}{v:V}{u:Value}(hg:Gl X x)(hm:X.mg x=some u)(r:RelV v u)(hd:(x == ("__debug__":Str))=false:=by decide):PE X (.Name x pos) (tC v) :=
 fun _ _ _ H _ I h=>lH I hg hm ⟨v,H,I,r,h⟩ hd
theorem L5{x:Str}{v:V}{u:Value}(hg:Gl X x)(hm:X.mg x=none)(hv:bootBuiltins x=some u)(r:RelV v u)(hn:x≠"__name__":=by decide)(hd:(x == ("__debug__":Str))=false:=by decide):PE X (.Name x pos) (tC v) :=
 fun _ _ _ H _ I h=>fW I hg hm hv ⟨v,H,I,r,h⟩ hn hd
variable {a b:Expr}{ta tb:TE}{pos:Pos}
theorem Kj(b:Expr){op:CmpOp}(h:op≠.In)(h2:op≠.NotIn):behindInMarks op b=false:=by
 have e1:(op == CmpOp.In)=false:=by cases op<;>first|rfl|exact absurd rfl h
 have e2:(op == CmpOp.NotIn)=false:=by cases op<;>first|rfl|exact absurd rfl h2
 cases b<;>simp[behindInMarks,e1,e2]
def tB(t:TE):TT:=fun σ H Q=>t σ H fun x H1=>∃c,x=.bl c/\Q c H1
theorem HE{e:Expr}{t:TE}(h:PE X e t)(he:∀whole,isTrue e X.env whole=(do let v <- whole;standAt e.pos;holding [v] (truthy v)):=by intro _;rfl):PT X e (tB t):=by
 intro pins s σ H Q I hw
 refine isTrue_plain (cF (h pins s σ H _ I hw) fun v s1 ⟨x,H1,I1,r1,q1⟩=>?_) (he _)
 obtain⟨d,rfl,q⟩:=q1
 cases r1
 exact xW ⟨H1,I1,q⟩
variable {tA tB':TT}{rest:List Expr}
def Ss(t u:TT):TT:=fun σ H Q=>t σ H fun c H1=>if c=true then u σ H1 Q else Q false H1
def SY(t u:TT):TT:=fun σ H Q=>t σ H fun c H1=>if c=true then Q true H1 else u σ H1 Q
def RM(t:TT):TT:=fun σ H Q=>t σ H fun c H1=>Q (!c) H1
theorem Lh(ha:PT X a tA):PW X (.BoolOp .And [a] pos) tA:=by
 intro wh pins s σ H Q I h
 refine isTrue_and (cF (ha pins s σ H Q I h) fun c s1 e=>?_)
 cases c with
 | true=>exact isTrue_and_nil e
 | false=>exact e
theorem JS(ha:PT X a tA):PW X (.BoolOp .Or [a] pos) tA:=by
 intro wh pins s σ H Q I h
 refine isTrue_or (cF (ha pins s σ H Q I h) fun c s1 e=>?_)
 cases c with
 | false=>exact isTrue_or_nil e
 | true=>exact e
theorem NB(ha:PT X a tA)(hb:PW X (.BoolOp .And (b::rest) pos) tB'):PW X (.BoolOp .And (a::b::rest) pos) (Ss tA tB'):=by
 intro wh pins s σ H Q I h
 refine isTrue_and (cF (ha pins s σ H _ I h) fun c s1 ⟨H1,I1,q1⟩=>?_)
 cases c with
 | true=>exact hb wh pins s1 σ H1 Q I1 q1
 | false=>exact⟨H1,I1,q1⟩
theorem MK(ha:PT X a tA)(hb:PW X (.BoolOp .Or (b::rest) pos) tB'):PW X (.BoolOp .Or (a::b::rest) pos) (SY tA tB'):=by
 intro wh pins s σ H Q I h
 refine isTrue_or (cF (ha pins s σ H _ I h) fun c s1 ⟨H1,I1,q1⟩=>?_)
 cases c with
 | true=>exact⟨H1,I1,q1⟩
 | false=>exact hb wh pins s1 σ H1 Q I1 q1
theorem JI(ha:PT X a tA):PT X (.UnaryOp .Not a pos) (RM tA):=by
 intro pins s σ H Q I h
 exact isTrue_not (ha pins s σ H (fun c H1=>Q (!c) H1) I h)
def Qq(ta tb:TE):TE:=fun σ H Q=>ta σ H fun x H1=>∃c,x=.bl c/\if c=true then tb σ H1 Q else Q (.bl false) H1
def RY(ta tb:TE):TE:=fun σ H Q=>ta σ H fun x H1=>∃c,x=.bl c/\if c=true then Q (.bl true) H1 else tb σ H1 Q
def Qg(ta:TE):TE:=fun σ H Q=>ta σ H fun x H1=>∃c,x=.bl c/\Q (.bl (!c)) H1
theorem Nn{op}{t:TE}(h:PE X a t):PE X (.BoolOp op [a] pos) t:=fun pins s σ H Q I hw=>BoolOp_one (h pins s σ H Q I hw)
theorem Pe(ha:PE X a ta)(hb:PE X (.BoolOp .And (b::rest) pos) tb):PE X (.BoolOp .And (a::b::rest) pos) (Qq ta tb):=by
 intro pins s σ H Q I h
 refine BoolOp_and (cF (ha pins s σ H _ I h) fun v s1 ⟨x,H1,I1,r1,q1⟩=>?_)
 obtain⟨c,rfl,q1⟩:=q1
 cases r1
 refine xW ?_
 cases c with
 | true=>exact hb pins s1 σ H1 Q I1 q1
 | false=>exact⟨.bl false,H1,I1,rfl,q1⟩
theorem HW(ha:PE X a ta)(hb:PE X (.BoolOp .Or (b::rest) pos) tb):PE X (.BoolOp .Or (a::b::rest) pos) (RY ta tb):=by
 intro pins s σ H Q I h
 refine BoolOp_or (cF (ha pins s σ H _ I h) fun v s1 ⟨x,H1,I1,r1,q1⟩=>?_)
 obtain⟨c,rfl,q1⟩:=q1
 cases r1
 refine xW ?_
 cases c with
 | false=>exact hb pins s1 σ H1 Q I1 q1
 | true=>exact⟨.bl true,H1,I1,rfl,q1⟩
theorem Ob(ha:PE X a ta):PE X (.UnaryOp .Not a pos) (Qg ta):=by
 intro pins s σ H Q I h
 refine UnaryOp_ (cF (ha pins s σ H _ I h) fun v s1 ⟨x,H1,I1,r1,q1⟩=>?_)
 obtain⟨c,rfl,q1⟩:=q1
 cases r1
 exact not_of (xW ⟨.bl (!c),H1,I1,rfl,q1⟩)
def S6(t:TT)(ta tb:TE):TE:=fun σ H Q=>t σ H fun c H1=>if c=true then ta σ H1 Q else tb σ H1 Q
theorem zl{c:Expr}(hc:PT X c tA)(ha:PE X a ta)(hb:PE X b tb):PE X (.IfExp c a b pos) (S6 tA ta tb):=by
 intro pins s σ H Q I h
 refine wpAny_IfExp (cF (hc pins s σ H _ I h) fun d s1 ⟨H1,I1,q1⟩=>?_)
 cases d with
 | true=>exact ha pins s1 σ H1 Q I1 q1
 | false=>exact hb pins s1 σ H1 Q I1 q1
end
def ig(K:W.Frag)(H:Hp)(a:Addr)(xs:List V):Prop :=
 Rd H a (.lst xs) \/
  ∃ (o:Obj) (its:Array Value) (n:Nat),K.lookup a=some o/\o.cls=.type "list"/\o.dict=none/\o.data=.seq its n/\its.size<=sizeLine/\aE xs its.toList
def iN(K:W.Frag)(H:Hp)(a:Addr)(xs:List V):Prop :=
 Rd H a (.tup xs) \/
  ∃ (o:Obj) (its:Array Value) (n:Nat),K.lookup a=some o/\o.cls=.type "tuple"/\o.dict=none/\o.data=.seq its n/\its.size<=sizeLine/\aE xs its.toList
def RZ:Value->Option V
 | .none=>some .non
 | .bool b=>some (.bl b)
 | .int i _=>some (.int i)
 | .str x _=>some (.str x)
 | .bytes b _=>some (.byt b)
 | .float b _=>some (.flt b)
 | .ref a=>some (.ref a)
 | .type n=>some (.ty n)
 | _=>none
theorem RelV.abs{x:V}{u:Value}(r:RelV x u):RZ u=some x:=by
 cases x with
 | non=>cases r;rfl
 | bl _=>cases r;rfl
 | int _=>obtain⟨t,rfl⟩:=r;rfl
 | str _=>obtain⟨t,rfl⟩:=r;rfl
 | byt _=>obtain⟨t,rfl⟩:=r;rfl
 | flt _=>obtain⟨t,rfl⟩:=r;rfl
 | ref _=>cases r;rfl
 | ty _=>cases r;rfl
theorem RelV.inj{x y:V}{u:Value}(r:RelV x u)(q:RelV y u):x=y:=xD (r.abs.symm.trans q.abs)
theorem aE.inj:∀ {xs ys:List V}{us:List Value},aE xs us->aE ys us->xs=ys
 | _,_,_,.nil,.nil=>rfl
 | _,_,_,.cons r t,.cons r' t'=>by rw[r.inj r',aE.inj t t']
section
variable {X:Cx}{pins:List (Addr×Obj)}{σ:St}{H:Hp}{s:Shared}{a:Addr}{xs ys:List V}
theorem ig.of(h:H a=some (.lst xs)):ig K H a xs:=.inl (.inl h)
theorem Inv.list(I:Inv X pins σ H s)(h:ig X.K H a xs):∃its:List Value,aE xs its/\PlainL s.heap a its.toArray/\xs.length<=sizeLine:=by
 rcases h with h|⟨o,its,n,hk,hc,hd,hs,hz,r⟩
 ·obtain⟨z,its,n,r,e⟩:=h.ok I.hok
  exact⟨its,r,⟨_,n,e,rfl,rfl,rfl⟩,z⟩
 ·refine⟨its.toList,r,⟨o,n,I.kIn a o hk,hc,hd,by simpa using hs⟩,?_⟩
  have e:=r.length
  simp only[wQ] at e
  lia
theorem Inv.tuple(I:Inv X pins σ H s)(h:iN X.K H a xs):∃its:List Value,aE xs its/\IsTup s.heap a its.toArray/\xs.length<=sizeLine:=by
 rcases h with h|⟨o,its,n,hk,hc,_,hs,hz,r⟩
 ·obtain⟨z,its,r,p⟩:=h.ok I.hok
  exact⟨its,r,p.1,z⟩
 ·refine⟨its.toList,r,⟨o,I.kIn a o hk,hc,n,by simpa using hs⟩,?_⟩
  have e:=r.length
  simp only[wQ] at e
  lia
theorem Inv.list_inj(I:Inv X pins σ H s)(h:ig X.K H a xs)(h':ig X.K H a ys):xs=ys:=by
 obtain⟨its,r,⟨o,n,e,_,_,d⟩,_⟩:=I.list h
 obtain⟨its',r',⟨o',n',e',_,_,d'⟩,_⟩:=I.list h'
 rw[e] at e';cases e'
 rw[d] at d'
 injection d' with d1 _
 have:its=its':=by simpa using jC Array.toList d1
 subst this
 exact r.inj r'
theorem Inv.tuple_inj(I:Inv X pins σ H s)(h:iN X.K H a xs)(h':iN X.K H a ys):xs=ys:=by
 obtain⟨its,r,⟨o,e,_,n,d⟩,_⟩:=I.tuple h
 obtain⟨its',r',⟨o',e',_,n',d'⟩,_⟩:=I.tuple h'
 rw[e] at e';cases e'
 rw[d] at d'
 injection d' with d1 _
 have:its=its':=by simpa using jC Array.toList d1
 subst this
 exact r.inj r'
end
abbrev Cx.wish(X:Cx)(E:Value->Shared->Prop):Cx:={ X with xe:=E }
abbrev Cx.nox(X:Cx):Cx:=X.wish fun _ _=>False
theorem Cx.Ok.wish{X:Cx}(ok:X.Ok)(E:Value->Shared->Prop):(X.wish E).Ok :=
 ⟨ok.mod,ok.kind,ok.glob,ok.blt,ok.above,ok.inj,ok.has,ok.cab,ok.hd,ok.frames,ok.stk,ok.exf,ok.bs,ok.bsz,ok.noex,ok.exfs,ok.funs,ok.frf⟩
theorem Cx.Ok.unwish{E:Value->Shared->Prop}(ok:(X.wish E).Ok):X.Ok :=
 ⟨ok.mod,ok.kind,ok.glob,ok.blt,ok.above,ok.inj,ok.has,ok.cab,ok.hd,ok.frames,ok.stk,ok.exf,ok.bs,ok.bsz,ok.noex,ok.exfs,ok.funs,ok.frf⟩
section
variable {X:Cx}{pins:List (Addr×Obj)}{σ:St}{H:Hp}{s:Shared}{E:Value->Shared->Prop}
theorem Inv.wish(I:Inv X pins σ H s)(E:Value->Shared->Prop):Inv (X.wish E) pins σ H s:=⟨I.ok.wish E,I.os,I.bare,I.base,I.loc,I.cell,I.free,I.freeC,I.pin,I.hok,I.len⟩
theorem Inv.unwish(I:Inv (X.wish E) pins σ H s):Inv X pins σ H s:=⟨I.ok.unwish,I.os,I.bare,I.base,I.loc,I.cell,I.free,I.freeC,I.pin,I.hok,I.len⟩
theorem SP.unwish{D:Ends}{f:Flow}{s':Shared}(h:SP (X.wish E) pins D f s'):SP X pins D f s':=by
 cases f with
 | next=>obtain⟨σ',H',I,q⟩:=h;exact⟨σ',H',I.unwish,q⟩
 | brk=>obtain⟨σ',H',I,q⟩:=h;exact⟨σ',H',I.unwish,q⟩
 | cont=>obtain⟨σ',H',I,q⟩:=h;exact⟨σ',H',I.unwish,q⟩
 | ret u=>obtain⟨v,σ',H',I,r,q⟩:=h;exact⟨v,σ',H',I.unwish,r,q⟩
theorem PT.nox{e:Expr}{t:TT}(h:PT X.nox e t):PT X e t:=fun pins s σ H Q I hw =>
 xA (h pins s σ H Q (I.wish _) hw) (fun _ _ ⟨H',I',q⟩=>⟨H',I'.unwish,q⟩) fun _ _ z=>False.elim z
theorem v5.nox{st:List Stmt}{t:TS}(h:v5 X.nox st t):v5 X st t:=fun pins s σ H D I hw =>
 xA (h pins s σ H D (I.wish _) hw) (fun _ _ q=>q.unwish) fun _ _ z=>False.elim z
end
section
variable {X:Cx}{st:Stmt}{rest:List Stmt}{t u:TS}{e:Expr}{te:TE}{pos:Pos}
def JF:TS:=fun D σ H=>D.nx σ H
def So(t u:TS):TS:=fun D σ H=>t { D with nx:=u D } σ H
theorem xw:v5 X [] JF:=fun _ _ σ H _ I h=>vW ⟨σ,H,I,h⟩
theorem iM(h1:PS X st t)(h2:v5 X rest u):v5 X (st::rest) (So t u):=by
 intro pins s σ H D I h
 refine vK (cF (h1 pins s σ H { D with nx:=u D } I h) fun f s1 q=>?_)
 cases f with
 | next =>
  obtain⟨σ',H',I',q⟩:=q
  exact h2 pins s1 σ' H' D I' q
 | ret v=>exact q
 | brk=>exact q
 | cont=>exact q
theorem LO(h1:PS X st t):v5 X [st] t:=by
 intro pins s σ H D I h
 refine vK (cF (h1 pins s σ H D I h) fun f s1 q=>?_)
 cases f with
 | next=>exact vW q
 | ret v=>exact q
 | brk=>exact q
 | cont=>exact q
theorem L3:PS X (.Pass pos) JF:=fun _ _ σ H _ I h=>wpAny_Pass ⟨σ,H,I,h⟩
theorem Inv.quiet{σ:St}(I:Inv X pins σ H s):interactive X.env=false:=by simp[interactive,I.ok.kind]
theorem N3{x j pos pos'}:PS X (.Expr (.Constant (.str x) j pos) pos') JF:=fun _ s σ H _ I h=>wpAny_Expr (Za (show SP X _ _ .next { s with toks:=s.toks+1 } from ⟨σ,H,I.tok _,h⟩)) I.quiet
def Q0(te:TE):TS:=fun D σ H=>te σ H fun _ H1=>D.nx σ H1
theorem mL(he:PE X e te)(hs:swapsWith e none pos.line X.env=pure false:=by rfl):PS X (.Expr e pos) (Q0 te):=by
 intro pins s σ H D I h
 exact wpAny_Expr_any (cF (he pins s σ H _ I h) fun v s1 ⟨x,H1,I1,r1,q1⟩=>⟨σ,H1,I1,q1⟩) I.quiet hs
def RN(te:TE):TS:=fun D σ H=>te σ H D.rt
theorem Cr(he:PE X e te):PS X (.Return (some e) pos) (RN te):=by
 intro pins s σ H D I h
 exact wpAny_Return_some (cF (he pins s σ H _ I h) fun v s1 ⟨x,H1,I1,r1,q1⟩=>⟨x,σ,H1,I1,r1,q1⟩)
def Sk(c:TT)(t u:TS):TS:=fun D σ H=>c σ H fun b H1=>if b=true then t D σ H1 else u D σ H1
theorem Im{c:Expr}{a b:List Stmt}{tc:TT}(hc:PT X c tc)(ha:v5 X a t)(hb:v5 X b u):PS X (.If c a b pos) (Sk tc t u):=by
 intro pins s σ H D I h
 refine wpAny_If (cF (hc pins s σ H _ I h) fun d s1 ⟨H1,I1,q1⟩=>?_)
 cases d with
 | true=>exact ha pins s1 σ H1 D I1 q1
 | false=>exact hb pins s1 σ H1 D I1 q1
end
abbrev TG:=V->St->Hp->(St->Hp->Prop)->Prop
abbrev N0:=List V->St->Hp->(St->Hp->Prop)->Prop
def PG(X:Cx)(target:Expr)(t:TG):Prop :=
 ∀ (pins:List (Addr×Obj)) (s:Shared) (σ:St) (H:Hp) (v:V) (u:Value) (Q:St->Hp->Prop),Inv X pins σ H s->RelV v u->t v σ H Q ->
  wpAny (model X.prog X.w) X.A (assign target X.env u) (fun _ s'=>∃σ' H',Inv X pins σ' H' s'/\Q σ' H') X.xe s
def Rh(X:Cx)(ts:List Expr)(t:N0):Prop :=
 ∀ (pins:List (Addr×Obj)) (s:Shared) (σ:St) (H:Hp) (vs:List V) (us:List Value) (Q:St->Hp->Prop),Inv X pins σ H s->aE vs us->t vs σ H Q ->
  wpAny (model X.prog X.w) X.A (assignInOrder ((assignEach ts X.env).map (·.2)) us) (fun _ s'=>∃σ' H',Inv X pins σ' H' s'/\Q σ' H') X.xe s
abbrev OF:=V->V->V->Hp->(Hp->Prop)->Prop
def P8(X:Cx)(t:OF):Prop :=
 ∀ (pins:List (Addr×Obj)) (s:Shared) (σ:St) (H:Hp) (o i v:V) (ov iv u:Value) (Q:Hp->Prop),Inv X pins σ H s->RelV o ov->RelV i iv->RelV v u->t o i v H Q ->
  wpAny (model X.prog X.w) X.A (setItem ov iv u) (fun _ s'=>∃H',Inv X pins σ H' s'/\Q H') X.xe s
section
variable {X:Cx}{pos:Pos}
def An(i:Nat):TG:=fun v σ H Q=>Q (σ.set i (some v)) H
theorem dA{x:Str}(hN:X.N.Nodup)(hi:X.N[i]?=some x)(hx:Loc X.env.scope x)(hf:X.fn x=true\/X.env.scope.names.lookup x=some .local:=by first|exact .inl rfl|exact .inr rfl|assumption):PG X (.Name x pos) (An i):=by
 intro pins s σ H v u Q I r h
 exact wpAny_assign_Name (z6 I hN hi hx r (fun s' I'=>⟨_,H,I',h⟩) hf)
def Sd:N0:=fun vs σ H Q=>vs=[]/\Q σ H
def QT(t:TG)(u:N0):N0:=fun vs σ H Q=>∃v r,vs=v::r/\t v σ H fun σ' H'=>u r σ' H' Q
theorem pY:Rh X [] Sd:=by
 intro pins s σ H vs us Q I r h
 obtain⟨e,h⟩:=h
 subst e
 cases r
 exact assignInOrder_nil ⟨σ,H,I,h⟩
theorem dw{e:Expr}{t:TG}{u:N0}(h1:PG X e t)(h2:Rh X es u)
  (hs:(assignEach (e::es) X.env).map (·.2)=assign e X.env::(assignEach es X.env).map (·.2):=by rfl):Rh X (e::es) (QT t u):=by
 intro pins s σ H vs us Q I r h
 obtain⟨v,vr,e1,h⟩:=h
 subst e1
 cases r with
 | cons r rr =>
  rw[hs]
  refine assignInOrder_cons (cF (h1 pins s σ H _ _ _ I r h) fun _ s1 ⟨σ1,H1,I1,q1⟩=>?_)
  exact h2 pins s1 σ1 H1 _ _ Q I1 rr q1
def Sn(K:W.Frag)(n:Nat)(t:N0):TG:=fun v σ H Q=>∃a xs,v=.ref a/\iN K H a xs/\xs.length=n/\t xs σ H Q
theorem vt{k:Nat}{t:N0}(hc:X.calm=true)(h:Rh X es t)
  (hn:(assignEach es X.env).length=n:=by rfl) (hst:(assignEach es X.env).findIdx? (·.1)=none:=by rfl):PG X (.Tuple es k pos) (Sn X.K n t):=by
 intro pins s σ H v u Q I r hw
 obtain⟨a,xs,e1,hq,hl,hw⟩:=hw
 subst e1
 cases r
 obtain⟨its,rv,ht,hz⟩:=I.tuple hq
 refine assign_Tuple_tuple (I.ok.hd hc) ht (by simp[hn,<- hl,rv.length]) hst fun h' hx=>?_
 have I1:Inv X pins σ H { s with heap:=h' }:=I.kept (t':=s.toks) fun b o e=>hx b o (yR (zY e)) e
 exact h pins _ σ H xs _ Q I1 (by simpa using rv) hw
def eX(to ti:TE)(t:OF):TG:=fun v σ H Q=>to σ H fun o H1=>ti σ H1 fun i H2=>t o i v H2 fun H3=>Q σ H3
theorem Ou{o i:Expr}{to ti:TE}{t:OF}(ho:PE X o to)(hi:PE X i ti)(hs:P8 X t)
  (ha:∀v,assign (.Subscript o i pos) X.env v=(do
   let ov <- holding [v] (eval o X.env)
   let iv <- holding [v,ov] (eval i X.env)
   standAt pos
   holding [v,ov,iv] (setItem ov iv v)
   release [v,ov,iv] []):=by intro _;rfl):PG X (.Subscript o i pos) (eX to ti t):=by
 intro pins s σ H v u Q I r h
 rw[ha]
 refine zV (xX (cF (ho pins s σ H _ I h) fun ov s1 ⟨x,H1,I1,r1,q1⟩=>?_))
 refine zV (xX (cF (hi pins s1 σ H1 _ I1 q1) fun iv s2 ⟨y,H2,I2,r2,q2⟩=>?_))
 refine zV (vH (zV (xX (cF (hs pins s2 σ H2 x y v ov iv u _ I2 r1 r2 r q2) fun _ s3 ⟨H3,I3,q3⟩=>?_))))
 exact wpAny_release ⟨σ,H3,I3,q3⟩
def Je(te:TE)(g:TG):TS:=fun D σ H=>te σ H fun x H1=>g x σ H1 D.nx
theorem Jr{tg e:Expr}{g:TG}(he:PE X e te)(hg:PG X tg g)(hs:swapsWithSole [tg] e pos.line X.env=pure false:=by rfl)(hw:swappedStores [tg] e X.env=pure none:=by rfl)
  (h1:(assignEach [tg] X.env).map (·.2)=[assign tg X.env]:=by rfl):PS X (.Assign [tg] e pos) (Je te g):=by
 intro pins s σ H D I h
 refine wpAny_Assign_stores (cF (he pins s σ H _ I h) fun v s1 ⟨x,H1,I1,r1,q1⟩=>?_) hs hw
 rw[h1]
 exact cF (hg pins s1 σ H1 x v _ I1 r1 q1) fun _ s2 q=>q
theorem rl{x:Str}{e:Expr}{pos':Pos}(hN:X.N.Nodup)(hi:X.N[i]?=some x)(hx:Loc X.env.scope x)(he:PE X e te)(hs:swapsWith e (some (.Name x pos')) pos.line X.env=pure false:=by rfl)(hf:X.fn x=true\/X.env.scope.names.lookup x=some .local:=by first|exact .inl rfl|exact .inr rfl|assumption) :
  PS X (.Assign [.Name x pos'] e pos) (Je te (An i)):=by
 intro pins s σ H D I h
 refine wpAny_Assign_Name (cF (he pins s σ H _ I h) fun v s1 ⟨y,H1,I1,r1,q1⟩=>?_) hs
 exact z6 I1 hN hi hx r1 (fun s2 I2=>⟨_,H1,I2,q1⟩) hf
end
section
variable {X:Cx}{pos:Pos}
def Oh(c:TT)(tb:TS):TS:=fun D σ H=>∃W:Nat->St->Hp->Prop,(∃m,W m σ H)/\∀m σ H,W m σ H ->
 c σ H fun b H1=>if b=true then ∃N:St->Hp->Prop,(∀σ' H',N σ' H'->∃m',m' < m/\W m' σ' H')/\tb { D with nx:=N,ct:=N,bk:=D.nx } σ H1 else D.nx σ H1
theorem Ka{c:Expr}{tc:TT}{tb:TS}(hp:PassesOwn (model X.prog X.w) X.A X.env X.xe)(hc:PT X c tc)(hb:v5 X body tb):PS X (.While c body [] pos) (Oh tc tb):=by
 intro pins s σ H D I h
 obtain⟨W,⟨m0,w0⟩,turn⟩:=h
 refine wpAny_While (codeAny_whileLoop (fun n s'=>∃σ' H',Inv X pins σ' H' s'/\W n σ' H') ?_ m0 ⟨σ,H,I,w0⟩)
 rintro n s1 ⟨σ1,H1,I1,w1⟩
 refine jK hp (cF (hc pins s1 σ1 H1 _ I1 (turn n σ1 H1 w1)) fun b s2 ⟨H2,I2,q2⟩=>?_)
 cases b with
 | true =>
  obtain⟨N,hN,q2⟩:=q2
  rw[yL rfl]
  refine jK hp (cF (hb pins s2 σ1 H2 _ I2 q2) fun f s3 q3=>?_)
  cases f with
  | next =>
   obtain⟨σ3,H3,I3,n3⟩:=q3
   obtain⟨m',hm,w3⟩:=hN σ3 H3 n3
   exact⟨m',hm,σ3,H3,I3,w3⟩
  | cont =>
   obtain⟨σ3,H3,I3,n3⟩:=q3
   obtain⟨m',hm,w3⟩:=hN σ3 H3 n3
   exact⟨m',hm,σ3,H3,I3,w3⟩
  | brk=>exact q3
  | ret v=>exact q3
 | false =>
  rw[yN yZ]
  exact vW ⟨σ1,H2,I2,q2⟩
end
structure It where
 go:Nat->Hp->Prop
 yld:Nat->Hp->V->Hp->Prop
 stop:Nat->Hp->Prop
def cC(X:Cx)(pins:List (Addr×Obj))(H:Hp)(b:Addr):Prop :=
 H b=none/\b≠X.env.locals/\b∉X.fs/\(b∈X.ex\/X.s₀.heap.objs.size<=b)/\(∀x c,X.env.cells.lookup x=some c->c≠b)/\∀p∈X.pn++pins,p.1≠b
theorem Inv.fpOk{σ:St}{b:Addr}(I:Inv X pins σ H s)(hb:s.heap.objs.size<=b)(hn:H' b=none):cC X pins H' b:=by
 refine⟨hn,jI (zP I.lt hb),I.nofs hb,.inr (yD I.sz hb),fun x c e z=>?_,fun p hp z=>?_⟩
 ·obtain⟨v,q⟩:=I.cell x c e
  exact absurd (zP q.lt (by rw[z];exact hb)) (qE _)
 ·exact absurd (zP (zY (I.pin p hp).1) (by rw[z];exact hb)) (qE _)
structure Turn(P:Program)(w:World)(K:W.Frag)(tg:Expr)(J:It)(fp:List Addr)(it:Addr)(tn:Nat->Heap->Prop):Prop where
 mem:it∈fp
 obj:∀i h,tn i h->∀b∈fp,∃o,h.get? b=some o/\∀v,o.data≠.cell v
 keep:∀i h h',tn i h->(∀b∈fp,∀o,h.get? b=some o->h'.get? b=some o)->tn i h'
 item:∀ (X:Cx),X.prog=P->X.w=w->X.K=K->X.calm=true->∀ (i:Nat) (pins:List (Addr×Obj)) (s:Shared) (σ:St) (H:Hp) (E:Value->Shared->Prop),Inv X pins σ H s->(∀b∈fp,cC X pins H b)->tn i s.heap->J.go i H ->
  wpAny (model P w) X.A (pyNext (.ref it)) (fun r s1=>∃u,r=some u /\
   wpAny (model P w) X.A (letOwnedTupleGo tg (.ref it) u) (fun _ s2=>∃x H',Inv X pins σ H' s2/\RelV x u/\J.yld i H x H'/\tn (i+1) s2.heap/\∀b∈fp,H' b=none) E s1) E s
 done:∀ (X:Cx),X.prog=P->X.w=w->X.K=K->X.calm=true->∀ (i:Nat) (pins:List (Addr×Obj)) (s:Shared) (σ:St) (H:Hp) (E:Value->Shared->Prop),Inv X pins σ H s->(∀b∈fp,cC X pins H b)->tn i s.heap->J.stop i H ->
  wpAny (model P w) X.A (pyNext (.ref it)) (fun r s1=>r=none/\Inv X pins σ H s1) E s
 self:∀ (A:Around) (i:Nat) (s:Shared) (Q:Value->Shared->Prop) (E:Value->Shared->Prop),tn i s.heap->Q (.ref it) s->wpAny (model P w) A (pyIter (.ref it)) Q E s
abbrev TI:=St->Hp->(It->Hp->Prop)->Prop
def SA(X:Cx)(pins:List (Addr×Obj))(σ:St)(tg:Expr)(R:It->Hp->Prop)(itv:Value)(s2:Shared):Prop :=
 ∃ (it:Addr) (fp:List Addr) (tn:Nat->Heap->Prop) (J:It) (H':Hp),itv=.ref it/\Inv X pins σ H' s2/\Turn X.prog X.w X.K tg J fp it tn/\tn 0 s2.heap/\(∀b∈fp,cC X pins H' b)/\R J H'
def PI(X:Cx)(tg iter:Expr)(wi:TI):Prop :=
 ∀ (pins:List (Addr×Obj)) (s:Shared) (σ:St) (H:Hp) (R:It->Hp->Prop),Inv X pins σ H s->wi σ H R ->
  wpAny (model X.prog X.w) X.A (eval iter X.env) (fun v s1=>wpAny (model X.prog X.w) X.A (pyIter v) (SA X pins σ tg R) X.xe s1) X.xe s
theorem IT{M:Model}{E:Value->Shared->Prop}{u:Value}{o:Obj}{n:String}{vs:Array Value}{Q:Unit->Shared->Prop}(ho:s.heap.get? it=some o)(hc:o.cls=.type n)(hd:o.data=.fields vs)
  (hn:["enumerate","zip","dict_itemiterator","dict_reverseitemiterator","odict_iterator","itertools.zip_longest","itertools.pairwise"].contains n=false) (hQ:Q () s):wpAny M A (letOwnedTupleGo tg (.ref it) u) Q E s:=by
 unfold letOwnedTupleGo
 cases tg<;>first
  | exact zW hQ
  | (cases u<;>first
    | exact zW hQ
    | (refine zV (wpAny_load ho ?_)
       rw[hc,hd]
       show wpAny M A (if (["enumerate","zip","dict_itemiterator","dict_reverseitemiterator","odict_iterator","itertools.zip_longest","itertools.pairwise"].contains n&&vs[0]? == some (rawInt _))=true then _ else _) Q E s
       rw[yN (by intro h;rw[hn,wI] at h;cases h)]
       exact zW hQ))
def Rz(K:W.Frag)(a:Addr):It :=
 ⟨fun i H=>∃xs x,ig K H a xs/\xs[i]?=some x,fun i H x H'=>H'=H/\∀xs,ig K H a xs->xs[i]?=some x,fun i H=>∃xs,ig K H a xs/\xs.length<=i⟩
def R0(K:W.Frag)(a:Addr):It :=
 ⟨fun i H=>∃xs x,iN K H a xs/\xs[i]?=some x,fun i H x H'=>H'=H/\∀xs,iN K H a xs->xs[i]?=some x,fun i H=>∃xs,iN K H a xs/\xs.length<=i⟩
def Rg(lo:Int)(n:Nat):It:=⟨fun i _=>i < n,fun i H x H'=>H'=H/\x=.int (lo+i),fun i _=>n<=i⟩
theorem F0{P:Program}{w:World}(a it:Addr):Turn P w K tg (Rz K a) [it] it (fun i h=>h.IsListIter it a i) where
 mem:=by simp
 obj:=fun i h st b hb=>by
  have e:b=it:=by simpa using hb
  subst e
  obtain⟨o,e,c,d⟩:=st
  exact⟨o,e,fun v z=>by rw[d] at z;cases z⟩
 keep:=fun i h h' st k=>st.at fun o e=>k it (by simp) o e
 item:=by
  intro X hP hw hK hc i pins s σ H E I hf st hg
  subst hP hw hK
  obtain⟨xs,x,hq,hx⟩:=hg
  obtain⟨its,rv,p,hz⟩:=I.list hq
  obtain⟨u,hu,ru⟩:=rv.get hx
  obtain⟨f0,f1,f2,f3,f4,f5⟩:=hf it (by simp)
  refine wpAny_pyNext_list_item st p.isList (x:=u) (by simpa using hu) fun h' st' sb=>?_
  have I1:Inv X pins σ H { s with heap:=h' }:=I.turned (t':=s.toks) (fun b o hb e=>(sb.2 b hb).trans e) f0 f1 f3 f4 f5
  obtain⟨o,e,c,d⟩:=id st'
  exact⟨u,rfl,IT (s:={ s with heap:=h' }) e c d (by decide) ⟨x,H,I1,ru,⟨rfl,fun ys hy=>by rw[I.list_inj hy hq];exact hx⟩,st',fun b hb=>(hf b hb).1⟩⟩
 done:=by
  intro X hP hw hK hc i pins s σ H E I hf st hg
  subst hP hw hK
  obtain⟨xs,hq,hx⟩:=hg
  obtain⟨its,rv,p,hz⟩:=I.list hq
  obtain⟨f0,f1,f2,f3,f4,f5⟩:=hf it (by simp)
  have hl:=rv.length
  exact wpAny_pyNext_list_end (I.ok.hd hc) st p.isList (by simp;lia) fun h' eb=>⟨rfl,I.turned (t':=s.toks) (fun b o hb e=>eb b o hb e) f0 f1 f3 f4 f5⟩
 self:=fun _ _ _ _ _ st h=>wpAny_pyIter_listiter st h
theorem CU{P:Program}{w:World}(a it:Addr):Turn P w K tg (R0 K a) [it] it (fun i h=>h.IsTupleIter it a i) where
 mem:=by simp
 obj:=fun i h st b hb=>by
  have e:b=it:=by simpa using hb
  subst e
  obtain⟨o,e,c,d⟩:=st
  exact⟨o,e,fun v z=>by rw[d] at z;cases z⟩
 keep:=fun i h h' st k=>st.at fun o e=>k it (by simp) o e
 item:=by
  intro X hP hw hK hc i pins s σ H E I hf st hg
  subst hP hw hK
  obtain⟨xs,x,hq,hx⟩:=hg
  obtain⟨its,rv,p,hz⟩:=I.tuple hq
  obtain⟨u,hu,ru⟩:=rv.get hx
  obtain⟨f0,f1,f2,f3,f4,f5⟩:=hf it (by simp)
  refine wpAny_pyNext_tuple_item st (show s.heap.IsTuple a its.toArray from p) (x:=u) (by simpa using hu) fun h' st' sb=>?_
  have I1:Inv X pins σ H { s with heap:=h' }:=I.turned (t':=s.toks) (fun b o hb e=>(sb.2 b hb).trans e) f0 f1 f3 f4 f5
  obtain⟨o,e,c,d⟩:=id st'
  exact⟨u,rfl,IT (s:={ s with heap:=h' }) e c d (by decide) ⟨x,H,I1,ru,⟨rfl,fun ys hy=>by rw[I.tuple_inj hy hq];exact hx⟩,st',fun b hb=>(hf b hb).1⟩⟩
 done:=by
  intro X hP hw hK hc i pins s σ H E I hf st hg
  subst hP hw hK
  obtain⟨xs,hq,hx⟩:=hg
  obtain⟨its,rv,p,hz⟩:=I.tuple hq
  obtain⟨f0,f1,f2,f3,f4,f5⟩:=hf it (by simp)
  have hl:=rv.length
  exact wpAny_pyNext_tuple_end (I.ok.hd hc) st (show s.heap.IsTuple a its.toArray from p) (by simp;lia) fun h' eb=>⟨rfl,I.turned (t':=s.toks) (fun b o hb e=>eb b o hb e) f0 f1 f3 f4 f5⟩
 self:=fun _ _ _ _ _ st h=>wpAny_pyIter_tupleiter st h
theorem BG{P:Program}{w:World}(it:Addr)(lo:Int)(n:Nat):Turn P w K tg (Rg lo n) [it] it (fun i h=>IsRangeIter h it (lo+(i:Nat) * 1) ((n:Int) - (i:Nat)) 1) where
 mem:=by simp
 obj:=fun i h st b hb=>by
  have e:b=it:=by simpa using hb
  subst e
  exact⟨_,st,fun v z=>by
   have z':Data.fields _=Data.cell v:=z
   cases z'⟩
 keep:=fun i h h' st k=>k it (by simp) _ st
 item:=by
  intro X hP hw hK hc i pins s σ H E I hf st hg
  subst hP hw hK
  obtain⟨f0,f1,f2,f3,f4,f5⟩:=hf it (by simp)
  have W:=Walks.range (prog:=X.prog) (w:=X.w) (I.ok.hd hc) it lo 1 n
  refine W.item i s _ _ hg st fun v h' tk hv st' kk=>?_
  obtain⟨t,rfl⟩:=hv
  have I1:Inv X pins σ H { s with heap:=h',toks:=tk }:=I.turned (fun b o hb e=>kk b o (by simpa using hb) e) f0 f1 f3 f4 f5
  refine⟨_,rfl,IT (s:={ s with heap:=h',toks:=tk }) (n:="range_iterator") st' rfl rfl (by decide) ⟨.int (lo+i),H,I1,⟨t,?_⟩,⟨rfl,rfl⟩,st',fun b hb=>(hf b hb).1⟩⟩
  rw[Int.mul_one]
 done:=by
  intro X hP hw hK hc i pins s σ H E I hf st hg
  subst hP hw hK
  obtain⟨f0,f1,f2,f3,f4,f5⟩:=hf it (by simp)
  exact wpAny_pyNext_range_end (I.ok.hd hc) st (by have:n<=i:=hg;lia) fun h' eb=>⟨rfl,I.turned (t':=s.toks) (fun b o hb e=>eb b o hb e) f0 f1 f3 f4 f5⟩
 self:=fun _ _ _ _ _ st h=>wpAny_pyIter_rangeiter st h
section
variable {X:Cx}{tg:Expr}
theorem GW{σ:St}{R:It->Hp->Prop}{E:Value->Shared->Prop}{lo hi:Int}{t u v:Tok}{tk:Nat}(I:Inv X pins σ H s)(h1:-(2 ^ 62)<=lo)(h2:lo < 2 ^ 62)(h3:-(2 ^ 62)<=hi)(h4:hi < 2 ^ 62)
  (q:R (Rg lo (hi - lo).toNat) H):wpAny (model X.prog X.w) X.A (pyIter (.ref s.heap.objs.size)) (SA X pins σ tg R) E { s with heap:=s.heap.push { cls:=.type "range",data:=.fields #[.int lo t,.int hi u,.int 1 v] },toks:=tk }:=by
 refine wpAny_pyIter_range (IsRange.new ..) (small_one h1 h2 h3 h4) ?_
 have I1:Inv X pins σ H { s with heap:=s.heap.push { cls:=.type "range",data:=.fields #[.int lo t,.int hi u,.int 1 v] },toks:=tk }:=I.kept fun b o e=>zU _ e
 refine⟨(s.heap.push { cls:=.type "range",data:=.fields #[.int lo t,.int hi u,.int 1 v] }).objs.size,[(s.heap.push { cls:=.type "range",data:=.fields #[.int lo t,.int hi u,.int 1 v] }).objs.size],_,_,H,rfl,
  I1.kept (t':=tk) fun b o e=>zU _ e,BG _ lo (hi - lo).toNat,?_,fun b hb=>?_,q⟩
 ·have e1:lo+((0:Nat):Int) * 1=lo:=by simp
  have e2:(((hi - lo).toNat:Nat):Int) - ((0:Nat):Int)=Builtin.Range.rangeSize lo hi 1:=by rw[rangeSize_one];split<;>lia
  show IsRangeIter _ _ (lo+((0:Nat):Int) * 1) ((((hi - lo).toNat:Nat):Int) - ((0:Nat):Int)) 1
  rw[e1,e2]
  exact zX _ rfl
 ·have e:b=(s.heap.push { cls:=.type "range",data:=.fields #[.int lo t,.int hi u,.int 1 v] }).objs.size:=by simpa using hb
  subst e
  exact I1.fpOk (yM _) (I1.hok.fresh (yM _))
def QM(ta:TA):TI:=fun σ H R=>ta σ H fun vs H1=>∃j:Int,vs=[.int j]/\-(2 ^ 62)<=j/\j < 2 ^ 62/\R (Rg 0 j.toNat) H1
theorem Fw{a:Expr}{ta:TA}{p pos:Pos}(hg:Gl X "range")(hm:X.mg "range"=none)(ha:PA X [a] ta)(hs:starEach [a] X.env=[(false,eval a X.env)]:=by rfl):PI X tg (.Call (.Name "range" p) [a] [] pos) (QM ta):=by
 intro pins s σ H R I h
 refine Call_ (fW I hg hm boot_range (qS (cF (ha pos pins s σ H _ I h) fun us s1 ⟨vs,H1,I1,r1,q1⟩=>?_) hs rfl))
 obtain⟨j,e,q1,q2,q⟩:=q1
 subst e
 cases r1 with
 | cons r rr =>
  cases rr
  obtain⟨t,rfl⟩:=r
  exact call_range_1 (GW I1 (by lia) (by lia) q1 q2 (by simpa using q))
def Sh(wi:TI)(g:TG)(tb:TS):TS:=fun D σ H=>wi σ H fun J H1=>∃W:Nat->Nat->St->Hp->Prop,(∃m,W 0 m σ H1)/\∀i m σ H,W i m σ H ->
 (J.stop i H/\D.nx σ H)\/(J.go i H/\∃N:St->Hp->Prop,(∀σ' H',N σ' H'->∃m',m' < m/\W (i+1) m' σ' H')/\∀x H',J.yld i H x H'->g x σ H' fun σ2 H2=>tb { D with nx:=N,ct:=N,bk:=D.nx } σ2 H2)
def oz(fp:List Addr)(h:Heap):List (Addr×Obj):=fp.filterMap fun b=>(h.get? b).map fun o=>(b,o)
theorem dE{b:Addr}{o:Obj}(hb:b∈fp)(e:h.get? b=some o):(b,o)∈oz fp h:=List.mem_filterMap.mpr ⟨b,hb,by rw[e];rfl⟩
theorem FT{p:Addr×Obj}(hp:p∈oz fp h):p.1∈fp/\h.get? p.1=some p.2:=by
 obtain⟨b,hb,e⟩:=List.mem_filterMap.mp hp
 cases q:h.get? b with
 | none=>rw[q] at e;cases e
 | some o =>
  rw[q] at e
  have e':(b,o)=p:=xD e
  subst e'
  exact⟨hb,q⟩
theorem Inv.pinned{σ:St}(I:Inv X pins σ H s)(hf:∀b∈fp,cC X pins H b)(ho:∀b∈fp,∃o,s.heap.get? b=some o/\∀v,o.data≠.cell v):Inv X (pins++oz fp s.heap) σ H s :=
 I.pins_of fun p hp=>(List.mem_append.mp hp).elim (fun z=>I.pin p (yE _ z)) fun z=>by
  obtain⟨hb,e⟩:=FT z
  obtain⟨f0,f1,f2,_⟩:=hf p.1 hb
  obtain⟨o,e',d⟩:=ho p.1 hb
  rw[e] at e';cases e'
  exact⟨e,f0,f1,f2,d⟩
theorem Inv.unpinned{pins pl:List (Addr×Obj)}{σ:St}(I:Inv X (pins++pl) σ H s):Inv X pins σ H s:=I.pins_of fun p hp=>I.pin p (yE _ (qJ _ hp))
theorem Pp{iter:Expr}{wi:TI}{g:TG}{tb:TS}{pos:Pos}(hp:PassesOwn (model X.prog X.w) X.A X.env X.xe)(hc:X.calm=true)(hi:PI X tg iter wi)(hg:PG X tg g)(hb:v5 X body tb)
  (hs:∀x,foldedSetIterable iter X.env x=pure x:=by intro _;rfl):PS X (.For tg iter body [] pos) (Sh wi g tb):=by
 intro pins s σ H D I h
 refine wpAny_For (cF (hi pins s σ H _ I h) fun v s1 h1=>cF h1 fun itv s2 h2=>?_) hs
 obtain⟨it,fp,tn,J,H2,e,I2,T,st2,f2,W,⟨m0,w0⟩,turn⟩:=h2
 subst e
 have stat:∀ {H':Hp},(∀b∈fp,H' b=none)->∀b∈fp,cC X pins H' b:=fun hn b hb=>⟨hn b hb,(f2 b hb).2⟩
 refine codeAny_forLoop_any (fun n s'=>∃i σ' H',Inv X pins σ' H' s'/\tn i s'.heap/\(∀b∈fp,H' b=none)/\W i n σ' H') ?_ m0 ⟨0,σ,H2,I2,st2,fun b hb=>(f2 b hb).1,w0⟩
 rintro n s3 ⟨i,σ3,H3,I3,st3,fr3,w3⟩
 rcases turn i n σ3 H3 w3 with ⟨stop,qn⟩|⟨go,N,hN,step⟩
 ·refine jK hp (cF (T.done X rfl rfl rfl hc i pins s3 σ3 H3 X.xe I3 (stat fr3) st3 stop) fun r s4 ⟨hr,I4⟩=>?_)
  subst hr
  exact vW ⟨σ3,H3,I4,qn⟩
 ·refine jK hp (cF (T.item X rfl rfl rfl hc i pins s3 σ3 H3 X.xe I3 (stat fr3) st3 go) fun r s4 ⟨u,hr,h4⟩=>?_)
  subst hr
  refine jK hp (cF h4 fun _ s5 ⟨x,H5,I5,r5,y5,st5,fr5⟩=>?_)
  have I5':=I5.pinned (stat fr5) (T.obj _ _ st5)
  refine jK hp (cF (hg _ s5 σ3 H5 x u _ I5' r5 (step x H5 y5)) fun _ s6 ⟨σ6,H6,I6,q6⟩=>?_)
  refine jK hp (cF (hb _ s6 σ6 H6 _ I6 q6) fun f s7 q7=>?_)
  have again:∀ {σ7:St}{H7:Hp},Inv X (pins++oz fp s5.heap) σ7 H7 s7->N σ7 H7->∃m,m < n/\∃i σ' H',Inv X pins σ' H' s7/\tn i s7.heap/\(∀b∈fp,H' b=none)/\W i m σ' H':=fun {σ7 H7} I7 n7=>by
   obtain⟨m',hm,w7⟩:=hN σ7 H7 n7
   refine⟨m',hm,i+1,σ7,H7,I7.unpinned,T.keep _ _ _ st5 fun b hb o e=>(I7.pin (b,o) (yE _ (yE _ (dE hb e)))).1,fun b hb=>?_,w7⟩
   obtain⟨o,e,d⟩:=T.obj _ _ st5 b hb
   exact (I7.pin (b,o) (yE _ (yE _ (dE hb e)))).2.1
  cases f with
  | next=>obtain⟨σ7,H7,I7,n7⟩:=q7;exact again I7 n7
  | cont=>obtain⟨σ7,H7,I7,n7⟩:=q7;exact again I7 n7
  | brk=>obtain⟨σ7,H7,I7,q7⟩:=q7;exact⟨σ7,H7,I7.unpinned,q7⟩
  | ret v=>obtain⟨x7,σ7,H7,I7,r7,q7⟩:=q7;exact⟨x7,σ7,H7,I7.unpinned,r7,q7⟩
end
abbrev R2:=V->V->Hp->VK->Prop
def hU(X:Cx)(f:Value->Value->Sem Value)(r:R2):Prop :=
 ∀ (pins:List (Addr×Obj)) (s:Shared) (σ:St) (H:Hp) (x y:V) (v u:Value) (Q:VK),Inv X pins σ H s->RelV x v->RelV y u->r x y H Q ->
  wpAny (model X.prog X.w) X.A (f v u) (EP X pins σ Q) X.xe s
def eT(X:Cx)(f:Value)(r:List V->Hp->VK->Prop):Prop :=
 ∀ (pins:List (Addr×Obj)) (s:Shared) (σ:St) (H:Hp) (xs:List V) (us:List Value) (Q:VK),Inv X pins σ H s->aE xs us->r xs H Q ->
  wpAny (model X.prog X.w) X.A (call f us) (EP X pins σ Q) X.xe s
def QL(r:R2)(ta tb:TE):TE:=fun σ H Q=>ta σ H fun x H1=>tb σ H1 fun y H2=>r x y H2 Q
def rI(C:Int->Int->Prop)(g:Int->Int->V):R2:=fun x y H Q=>∃i j,x=.int i/\y=.int j/\C i j/\Q (g i j) H
def Kp(g:Int->Int->V):R2:=fun x y H Q=>∃i j,x=.int i/\y=.int j/\Q (g i j) H
section
variable {X:Cx}{a b c:Expr}{ta tb tc:TE}{pos:Pos}
theorem Ny(ha:PE X a ta)(hb:PE X b tb){σ:St}{R:V->V->Hp->Prop}(I:Inv X pins σ H s)
  (h:ta σ H fun x H1=>tb σ H1 fun y H2=>R x y H2) {Q:Value->Shared->Prop}{f:Value->Value->Sem Value}
  (hf:∀v u s2 x y H2,Inv X pins σ H2 s2->RelV x v->RelV y u->R x y H2->wpAny (model X.prog X.w) X.A (f v u) Q X.xe s2) :
  wpAny (model X.prog X.w) X.A (eval a X.env) (fun v s₁=>wpAny (model X.prog X.w) X.A (eval b X.env) (fun u s₂=>wpAny (model X.prog X.w) X.A (f v u) Q X.xe s₂) X.xe s₁) X.xe s:=by
 refine cF (ha pins s σ H _ I h) fun v s1 ⟨x,H1,I1,r1,q1⟩=>?_
 refine cF (hb pins s1 σ H1 _ I1 q1) fun u s2 ⟨y,H2,I2,r2,q2⟩=>?_
 exact hf v u s2 x y H2 I2 r1 r2 q2
theorem ET{op:Operator}{r:R2}(ho:hU X (binaryOp op) r)(ha:PE X a ta)(hb:PE X b tb):PE X (.BinOp a op b pos) (QL r ta tb):=by
 intro pins s σ H Q I h
 exact wpAny_BinOp (Ny ha hb I h fun v u s2 x y H2 I2 rx ry q=>ho pins s2 σ H2 x y v u Q I2 rx ry q)
theorem RE{f:Value->Value->Sem Value}{C:Int->Int->Prop}{g:Int->Int->Int}
  (rule:∀ (i j:Int) (t u:Tok) (s:Shared) (Q:Value->Shared->Prop) (E:Value->Shared->Prop),C i j->Q (.int (g i j) s.toks) { s with toks:=s.toks+1 }->wpAny (model X.prog X.w) X.A (f (.int i t) (.int j u)) Q E s) :
  hU X f (rI C fun i j=>.int (g i j)):=by
 intro pins s σ H x y v u Q I rx ry h
 obtain⟨i,j,rfl,rfl,hc,q⟩:=h
 obtain⟨t,rfl⟩:=rx
 obtain⟨t',rfl⟩:=ry
 exact rule i j t t' s _ _ hc ⟨.int (g i j),H,I.tok _,⟨_,rfl⟩,q⟩
theorem QS{f:Value->Value->Sem Value}{g:Int->Int->Int}
  (rule:∀ (i j:Int) (t u:Tok) (s:Shared) (Q:Value->Shared->Prop) (E:Value->Shared->Prop),Q (.int (g i j) s.toks) { s with toks:=s.toks+1 }->wpAny (model X.prog X.w) X.A (f (.int i t) (.int j u)) Q E s) :
  hU X f (Kp fun i j=>.int (g i j)):=by
 intro pins s σ H x y v u Q I rx ry h
 obtain⟨i,j,rfl,rfl,q⟩:=h
 obtain⟨t,rfl⟩:=rx
 obtain⟨t',rfl⟩:=ry
 exact rule i j t t' s _ _ ⟨.int (g i j),H,I.tok _,⟨_,rfl⟩,q⟩
theorem KH{f:Value->Value->Sem Value}{g:Int->Int->Bool}
  (rule:∀ (i j:Int) (t u:Tok) (s:Shared) (Q:Value->Shared->Prop) (E:Value->Shared->Prop),Q (.bool (g i j)) s->wpAny (model X.prog X.w) X.A (f (.int i t) (.int j u)) Q E s) :
  hU X f (Kp fun i j=>.bl (g i j)):=by
 intro pins s σ H x y v u Q I rx ry h
 obtain⟨i,j,rfl,rfl,q⟩:=h
 obtain⟨t,rfl⟩:=rx
 obtain⟨t',rfl⟩:=ry
 exact rule i j t t' s _ _ ⟨.bl (g i j),H,I,rfl,q⟩
def KE(i j:Int):Prop:=0 < j/\j < 1073741824
def vo(i j:Int):Prop:=(-(2 ^ 64) < i/\i < 2 ^ 64)\/(-(2 ^ 64) < j/\j < 2 ^ 64)
theorem vo.ok{i j:Int}(h:vo i j):IntMulOk i j:=by
 rcases h with ⟨h1,h2⟩|⟨h1,h2⟩
 ·exact .of_left (intBits_le_64 h1 h2)
 ·exact .of_right (intBits_le_64 h1 h2)
theorem Pv:hU X (binaryOp .Add) (Kp fun i j=>.int (i+j)):=QS fun _ _ _ _ _ _ _ q=>add_int q
theorem OC:hU X (binaryOp .Sub) (Kp fun i j=>.int (i - j)):=QS fun _ _ _ _ _ _ _ q=>sub_int q
theorem N5:hU X (binaryOp .Mult) (rI vo fun i j=>.int (i * j)):=RE fun _ _ _ _ _ _ _ hc q=>mul_int q hc.ok
theorem KS:hU X (binaryOp .FloorDiv) (rI KE fun i j=>.int (i / j)):=RE fun i j _ _ _ _ _ hc q=>by
 have h1:(0:Int) < j:=hc.1
 have h2:j < 1073741824:=hc.2
 exact floordiv_int (by lia) (by rw[Int.fdiv_eq_ediv_of_nonneg i (by lia)];exact q) (.inl (PyProof.noPylong_small (by lia)))
theorem OI:hU X (binaryOp .Mod) (rI (fun _ j=>0 < j) fun i j=>.int (i % j)):=RE fun i j _ _ _ _ _ hc q=>by
 have h1:(0:Int) < j:=hc
 exact mod_int' (by lia) (by rw[Int.fmod_eq_emod_of_nonneg i (by lia)];exact q)
end
def oA:V->V->Bool
 | .non,.non=>true|.non,.int _=>true|.int _,.non=>true|.non,.bl _=>true|.bl _,.non=>true|.non,.str _=>true|.str _,.non=>true
 | .int _,.int _=>true|.bl _,.bl _=>true|.str _,.str _=>true|.byt _,.byt _=>true
 | .int _,.str _=>true|.str _,.int _=>true|.bl _,.str _=>true|.str _,.bl _=>true
 | _,_=>false
def S5:R2:=fun x y H Q=>oA x y=true/\Q (.bl (!decide (x=y))) H
theorem KD{i j:Int}:decide (V.int i=V.int j)=(i == j):=by
 rw[vA]
 simp
theorem Oj{i j:Bool}:decide (V.bl i=V.bl j)=(i == j):=by
 rw[vA]
 simp
theorem Mr{i j:Str}:decide (V.str i=V.str j)=(i == j):=by
 rw[vA]
 simp
theorem KZ{i j:Array UInt8}:decide (V.byt i=V.byt j)=(i.toList == j.toList):=by
 rw[vA]
 cases i
 cases j
 simp
section
variable {X:Cx}{a b c:Expr}{ta tb tc:TE}{pos:Pos}
theorem dh{σ:St}{Q:VK}{k k':Bool}(I:Inv X pins σ H s)(q:Q (.bl k) H)(e:k=k'):EP X pins σ Q (.bool k') s:=by
 subst e
 exact⟨.bl k,H,I,rfl,q⟩
theorem Qb:hU X (compareOp .NotEq) S5:=by
 intro pins s σ H x y v u Q I rx ry h
 obtain⟨hs,q⟩:=h
 cases x with
 | non =>
  cases rx
  cases y with
  | non=>cases ry;exact PySem.EqNone.ne_none_none (dh I q (by simp))
  | bl j=>cases ry;exact PySem.EqNone.ne_none_bool (dh I q (by simp))
  | int j=>obtain⟨t',rfl⟩:=ry;exact PySem.EqNone.ne_none_int (dh I q (by simp))
  | str j=>obtain⟨t',rfl⟩:=ry;exact PySem.EqNone.ne_none_str (dh I q (by simp))
  | _=>exact absurd (show false=true from hs) yZ
 | bl i =>
  cases rx
  cases y with
  | non=>cases ry;exact PySem.EqNone.ne_bool_none (dh I q (by simp))
  | bl j=>cases ry;exact ne_bool (dh I q (jC not Oj))
  | str j=>obtain⟨t',rfl⟩:=ry;exact PySem.EqMixed.ne_bool_str (dh I q (by simp))
  | _=>exact absurd (show false=true from hs) yZ
 | int i =>
  obtain⟨t,rfl⟩:=rx
  cases y with
  | non=>cases ry;exact PySem.EqNone.ne_int_none (dh I q (by simp))
  | int j=>obtain⟨t',rfl⟩:=ry;exact ne_int (dh I q (jC not KD))
  | str j=>obtain⟨t',rfl⟩:=ry;exact PySem.EqMixed.ne_int_str (dh I q (by simp))
  | _=>exact absurd (show false=true from hs) yZ
 | str i =>
  obtain⟨t,rfl⟩:=rx
  cases y with
  | non=>cases ry;exact PySem.EqNone.ne_str_none (dh I q (by simp))
  | bl j=>cases ry;exact PySem.EqMixed.ne_str_bool (dh I q (by simp))
  | int j=>obtain⟨t',rfl⟩:=ry;exact PySem.EqMixed.ne_str_int (dh I q (by simp))
  | str j=>obtain⟨t',rfl⟩:=ry;exact ne_str (dh I q (jC not Mr))
  | _=>exact absurd (show false=true from hs) yZ
 | byt i =>
  obtain⟨t,rfl⟩:=rx
  cases y with
  | byt j=>obtain⟨t',rfl⟩:=ry;exact W.ne_bytes (dh I q (jC not KZ))
  | _=>exact absurd (show false=true from hs) yZ
 | _=>cases y<;>exact absurd (show false=true from hs) yZ
theorem HH:hU X (compareOp .Lt) (Kp fun i j=>.bl (decide (i < j))):=KH fun _ _ _ _ _ _ _ q=>lt_int q
theorem IE:hU X (compareOp .LtE) (Kp fun i j=>.bl (decide (i<=j))):=KH fun _ _ _ _ _ _ _ q=>le_int q
theorem Nc:hU X (compareOp .Gt) (Kp fun i j=>.bl (decide (j < i))):=KH fun _ _ _ _ _ _ _ q=>gt_int q
theorem M5:hU X (compareOp .GtE) (Kp fun i j=>.bl (decide (j<=i))):=KH fun _ _ _ _ _ _ _ q=>ge_int q
theorem Jy:hU X (compareOp .Is) (fun x y H Q=>y=.non/\Q (.bl (decide (x=.non))) H):=by
 intro pins s σ H x y v u Q I rx ry h
 obtain⟨rfl,q⟩:=h
 cases ry
 refine is_none_gen (dh I q ?_)
 cases x<;>first
  | (cases rx;rfl)
  | (obtain⟨t,rfl⟩:=rx;rfl)
theorem ER:hU X (compareOp .IsNot) (fun x y H Q=>y=.non/\Q (.bl (!decide (x=.non))) H):=by
 intro pins s σ H x y v u Q I rx ry h
 obtain⟨rfl,q⟩:=h
 cases ry
 refine isnot_none_gen (dh I q ?_)
 cases x<;>first
  | (cases rx;rfl)
  | (obtain⟨t,rfl⟩:=rx;rfl)
def isObj:HO->Bool
 | .lst _=>true
 | .ins _ _ _=>true
 | _=>false
theorem uS{σ:St}{a:Addr}{o:HO}(I:Inv X pins σ H s)(h:H a=some o)(p:isObj o=true):∃ob,s.heap.get? a=some ob/\ob.cls≠.type "tuple":=by
 cases o with
 | lst xs =>
  obtain⟨_,its,n,_,e⟩:xs.length<=sizeLine/\∃ (its:List Value) (n:Nat),aE xs its/\s.heap.get? a=some { cls:=.type "list",data:=.seq its.toArray n }:=I.hok a _ h
  exact⟨_,e,(by show Value.type "list"≠.type "tuple";decide +kernel)⟩
 | ins C dx fs =>
  have x:=I.hok a _ h
  obtain⟨_,_,_,e,_⟩:=x
  exact⟨_,e,(by show Value.ref C≠.type "tuple";exact fun z=>by cases z)⟩
 | _=>exact absurd (show false=true from p) yZ
theorem hU.or{f:Value->Value->Sem Value}{r r':R2}(h:hU X f r)(h':hU X f r'):hU X f (fun x y H Q=>r x y H Q\/r' x y H Q):=by
 intro pins s σ H x y v u Q I rx ry q
 rcases q with q|q
 ·exact h pins s σ H x y v u Q I rx ry q
 ·exact h' pins s σ H x y v u Q I rx ry q
theorem dq(b:Expr){op:CmpOp}(h:op≠.In:=by decide)(h2:op≠.NotIn:=by decide):behindInMarks op b=false:=by
 have e1:(op == CmpOp.In)=false:=by cases op<;>first|rfl|exact absurd rfl h
 have e2:(op == CmpOp.NotIn)=false:=by cases op<;>first|rfl|exact absurd rfl h2
 cases b<;>simp[behindInMarks,e1,e2]
theorem KW{op:CmpOp}{r:R2}(ho:hU X (compareOp op) r)(ha:PE X a ta)(hb:PE X b tb)(hm:behindInMarks op b=false):PE X (.Compare a [op] [b] pos) (QL r ta tb):=by
 intro pins s σ H Q I h
 exact wpAny_Compare1 (Ny ha hb I h fun v u s2 x y H2 I2 rx ry q=>ho pins s2 σ H2 x y v u Q I2 rx ry q) hm
def M7(t:TE):TT:=fun σ H Q=>t σ H fun x H'=>∃k,x=.bl k/\Q k H'
theorem Ek{op:CmpOp}{r:R2}(ho:hU X (compareOp op) r)(ha:PE X a ta)(hb:PE X b tb)(hm:behindInMarks op b=false):PT X (.Compare a [op] [b] pos) (M7 (QL r ta tb)):=by
 intro pins s σ H Q I h
 refine wpAny_isTrue_Compare1 (cF (ha pins s σ H _ I h) fun v s1 ⟨x,H1,I1,r1,q1⟩=>cF (hb pins s1 σ H1 _ I1 q1) fun u s2 ⟨y,H2,I2,r2,q2⟩ =>
  cF (ho pins s2 σ H2 x y v u _ I2 r1 r2 q2) fun c s3 ⟨z,H3,I3,r3,k,e,q3⟩=>?_) hm
 subst e
 cases r3
 exact xW ⟨H3,I3,q3⟩
def B5(r r':R2)(ta tb tc:TE):TE:=fun σ H Q=>ta σ H fun x H1=>tb σ H1 fun y H2=>r x y H2 fun z H3=>∃k,z=.bl k /\
 (if k=true then tc σ H3 fun w' H4=>r' y w' H4 Q else Q (.bl false) H3)
theorem Jc{op op':CmpOp}{r r':R2}(ho:hU X (compareOp op) r)(ho':hU X (compareOp op') r')(ha:PE X a ta)(hb:PE X b tb)(hc:PE X c tc)
  (hm:lastMarks [op,op'] [b,c]=false:=by with_unfolding_all rfl):PE X (.Compare a [op,op'] [b,c] pos) (B5 r r' ta tb tc):=by
 intro pins s σ H Q I h
 refine Compare_chain (cF (ha pins s σ H _ I h) fun v s1 ⟨x,H1,I1,r1,q1⟩=>chain_link (cF (hb pins s1 σ H1 _ I1 q1) fun u s2 ⟨y,H2,I2,r2,q2⟩ =>
  cF (ho pins s2 σ H2 x y v u _ I2 r1 r2 q2) fun d s3 ⟨z,H3,I3,r3,k,e,q3⟩=>?_)) hm
 subst e
 cases r3
 refine xW ?_
 cases k with
 | false=>exact ite_ff ⟨.bl false,H3,I3,rfl,q3⟩
 | true=>exact ite_tt (chain_last (cF (hc pins s3 σ H3 _ I3 q3) fun w' s4 ⟨z',H4,I4,r4,q4⟩=>ho' pins s4 σ H4 y z' u w' Q I4 r2 r4 q4))
theorem JY{op op':CmpOp}{r r':R2}(ho:hU X (compareOp op) r)(ho':hU X (compareOp op') r')(ha:PE X a ta)(hb:PE X b tb)(hc:PE X c tc)
  (hm:lastMarks [op,op'] [b,c]=false:=by with_unfolding_all rfl):PT X (.Compare a [op,op'] [b,c] pos) (M7 (B5 r r' ta tb tc)):=by
 intro pins s σ H Q I h
 refine isTrue_chain (cF (ha pins s σ H _ I h) fun v s1 ⟨x,H1,I1,r1,q1⟩=>test_link (cF (hb pins s1 σ H1 _ I1 q1) fun u s2 ⟨y,H2,I2,r2,q2⟩ =>
  cF (ho pins s2 σ H2 x y v u _ I2 r1 r2 q2) fun d s3 ⟨z,H3,I3,r3,k,e,q3⟩=>?_)) hm
 subst e
 cases r3
 refine xW ?_
 cases k with
 | false =>
  obtain⟨k',e',q'⟩:=q3
  cases e'
  exact ite_ff ⟨H3,I3,q'⟩
 | true =>
  refine ite_tt (test_last (cF (hc pins s3 σ H3 _ I3 q3) fun w' s4 ⟨z',H4,I4,r4,q4⟩=>cF (ho' pins s4 σ H4 y z' u w' _ I4 r2 r4 q4) fun d' s5 ⟨z2,H5,I5,r5,k2,e2,q5⟩=>?_))
  subst e2
  cases r5
  exact xW ⟨H5,I5,q5⟩
theorem su:(sizeLine:Nat) < 2 ^ 63:=by rw[qU];decide
theorem vals1{x:V}(r:aE [x] us):∃u,us=[u]/\RelV x u:=by
 cases r with
 | cons r1 r2=>cases r2;exact⟨_,rfl,r1⟩
theorem vals2{x y:V}(r:aE [x,y] us):∃u w',us=[u,w']/\RelV x u/\RelV y w':=by
 cases r with
 | cons r1 r2 =>
  cases r2 with
  | cons r3 r4=>cases r4;exact⟨_,_,rfl,r1,r3⟩
end
section
variable {prog:Program}{w:World}{A:Around}{E:Value->Shared->Prop}{s:Shared}{K:W.Frag}{x dx C f:Addr}{mA:Str->Option Value}{name:Str}{v:Value}
end
section
variable {P:Program}{w:World}{H H':Hp}{h h':Heap}{a C dx:Addr}{fs fs':List (Str×V)}
end
section
variable {X:Cx}{pins:List (Addr×Obj)}{σ:St}{H:Hp}{s:Shared}{a C dx:Addr}{fs:List (Str×V)}{f:Str}{v:V}{A:Around}{E:Value->Shared->Prop}
end
section
variable {X:Cx}{o e value:Expr}{f:Str}{pos pos' tpos:Pos}{ta tv:TE}
end
section
variable {X:Cx}{pins:List (Addr×Obj)}{σ:St}{H:Hp}{s:Shared}{A:Around}{E:Value->Shared->Prop}{Q:Value->Shared->Prop}{c:Value}{b:Bool}
end
structure dZ(k:Nat)(A:Around):Prop where
 hd:A.handled=none
 dp:A.depth+3 * k+5 < recursionLimit
 un:A.units+16 * k+200 < cLine
theorem dZ.mono(r:dZ k A)(h:j<=k):dZ j A:=⟨r.hd,by have:=r.dp;lia,by have:=r.un;lia⟩
theorem dZ.deeper{k:Nat}{A:Around}(r:dZ (k+1) A)(env:Env):dZ k (A.deeper env) :=
 ⟨r.hd,by have:=r.dp;show A.depth+1+3 * k+5 < _;lia,by have:=r.un;show A.units+3+16 * k+200 < _;lia⟩
theorem dZ.in1{k:Nat}{A:Around}(r:dZ (k+1) A):dZ k A.in1 :=
 ⟨r.hd,by have:=r.dp;show A.depth+3 * k+5 < _;lia,by have:=r.un;show A.units+1+16 * k+200 < _;lia⟩
theorem dZ.depth{k:Nat}{A:Around}(r:dZ k A):A.depth < recursionLimit:=by have:=r.dp;lia
theorem dZ.units{k:Nat}{A:Around}(r:dZ k A):A.units+64 < cLine:=by have:=r.un;lia
theorem dZ.units0(r:dZ k A):A.units < cLine:=by have:=r.un;lia
def Si:TA:=fun _ H Q=>Q [] H
def Q6(ta:TE)(tr:TA):TA:=fun σ H Q=>ta σ H fun x H1=>tr σ H1 fun xs H2=>Q (x::xs) H2
section
variable {X:Cx}{e:Expr}{es:List Expr}{te:TE}{t:TA}{pos:Pos}
theorem eG:PA X [] Si:=fun _ _ _ _ H Q I h=>kK ⟨[],H,I,.nil,h⟩
theorem cq(ha:PE X e te)(hr:PA X es t)(hs:starEach (e::es) X.env=(false,eval e X.env)::starEach es X.env:=by rfl):PA X (e::es) (Q6 te t):=by
 intro pos pins s σ H Q I h
 rw[hs]
 show wpAny _ _ (spliced ((false,eval e X.env)::backTo pos (starEach es X.env))) _ _ s
 refine jJ (cF (ha pins s σ H _ I h) fun u s1 ⟨x,H1,I1,r1,q1⟩=>?_)
 exact cF (hr pos pins s1 σ H1 _ I1 q1) fun us s2 ⟨xs,H2,I2,r2,q2⟩=>⟨x::xs,H2,I2,.cons r1 r2,q2⟩
def RT(t:TA):TE:=fun σ H Q=>t σ H fun xs H1=>xs.length<=sizeLine/\∀p,H1 p=none->Q (.ref p) (upd H1 p (.tup xs))
def RW(t:TA):TE:=fun σ H Q=>t σ H fun xs H1=>xs.length<=sizeLine/\∀p,H1 p=none->Q (.ref p) (upd H1 p (.lst xs))
theorem Hi{x1}(h:PA X es t):PE X (.Tuple es x1 pos) (RT t):=by
 intro pins s σ H Q I hq
 refine wpAny_Tuple_spliced (cF (h pos pins s σ H _ I hq) fun us s1 ⟨xs,H1,I1,r,z,q⟩=>⟨by rw[<- r.length];exact z,?_⟩)
 have hf:H1 s1.heap.objs.size=none:=I1.hok.fresh (yM _)
 refine⟨.ref s1.heap.objs.size,upd H1 s1.heap.objs.size (.tup xs),I1.laid (t':=s1.toks) (fun b u e=>zU _ e) (yM _) ?_,rfl,q _ hf⟩
 exact⟨z,us,r,⟨_,zX _ rfl,rfl,_,rfl⟩,_,zX _ rfl,rfl⟩
theorem De(h:PA X es t):PE X (.List es pos) (RW t):=by
 intro pins s σ H Q I hq
 refine wpAny_List_spliced (cF (h pos pins s σ H _ I hq) fun us s1 ⟨xs,H1,I1,r,z,q⟩=>⟨by rw[<- r.length];exact z,?_⟩)
 have hf:H1 s1.heap.objs.size=none:=I1.hok.fresh (yM _)
 refine⟨.ref s1.heap.objs.size,upd H1 s1.heap.objs.size (.lst xs),I1.laid (t':=s1.toks) (fun b u e=>zU _ e) (yM _) ?_,rfl,q _ hf⟩
 exact⟨z,us,0,r,zX _ rfl⟩
end
abbrev Sp:=List V->Hp->VK->XK->Prop
abbrev FR:=List Env->Hp->Shared->XK->Value->Shared->Prop
structure C8(P:Program)(w:World)(K:W.Frag)(mg:Str->Option Value)(base:Heap)(A:Around)(outer:List Env)(s:Shared)(H:Hp):Prop where
 frames:A.frames=some outer
 mod:Mod K mg base
 bs:∀b o,base.get? b=some o->s.heap.get? b=some o/\H b=none
 bsz:base.objs.size<=s.heap.objs.size
 funs:s.heap.FunFrames base outer
 frf:∀b∈ie outer,H b=none
 hok:nV P w H s.heap
 bare:AllBare s.gens
def CE(outer:List Env)(P:Program)(w:World)(H:Hp)(s:Shared)(Q:VK)(u:Value)(s':Shared):Prop :=
 ∃v H',s'.os=s.os/\AllBare s'.gens/\Un (ie outer) [] H H' s.heap s'.heap/\nV P w H' s'.heap/\RelV v u/\Q v H'
def CR(CX:FR)(outer:List Env)(P:Program)(w:World)(H:Hp)(s:Shared)(Q:VK)(E:XK)(r:Result)(s':Shared):Prop :=
 match r with
 | .ok (.ret u)=>CE outer P w H s Q u s'
 | .ok _=>False
 | .error e=>CX outer H s E e s'
structure pH(P:Program)(w:World)(K:W.Frag)(mg:Str->Option Value)(base:Heap)(CX:FR)(k:Nat)(f:Addr)(fd:FuncData)(ps:List Str)(sp:Sp):Prop where
 len:∀vs H Q E,sp vs H Q E->vs.length=ps.length
 run:∀ (A:Around) (outer:List Env) (s:Shared) (H:Hp) (args:Args) (us:List Value) (vs:List V) (Q:VK) (E:XK),dZ k A->C8 P w K mg base A outer s H->BindsTo s fd args (ps.zip us)->aE vs us->sp vs H Q E ->
  codeAny (model P w) A (.call (.ref f) args) (CR CX outer P w H s Q E) s
theorem pH.mono{P:Program}{w:World}{K:W.Frag}{mg:Str->Option Value}{base:Heap}{CX:FR}{j k:Nat}{f:Addr}{fd:FuncData}{ps:List Str}{sp:Sp}(F:pH P w K mg base CX j f fd ps sp)(h:j<=k) :
  pH P w K mg base CX k f fd ps sp:=⟨F.len,fun A outer s H args us vs Q E hr=>F.run A outer s H args us vs Q E (hr.mono h)⟩
section
variable {X:Cx}{pins:List (Addr×Obj)}{σ:St}{H:Hp}{s s':Shared}
theorem Inv.env0(I:Inv X pins σ H s):C8 X.prog X.w X.K X.mg X.base X.A X.stack s H :=
 ⟨I.ok.frames,I.ok.mod,I.bs,yD I.ok.bsz I.sz,I.stack,I.stkFree,I.hok,I.bare⟩
theorem Inv.after{Q:VK}{u:Value}(I:Inv X pins σ H s)(h:CE X.stack X.prog X.w H s Q u s'):EP X pins σ Q u s':=by
 obtain⟨v,H',os,bare,un,hok,r,q⟩:=h
 obtain⟨hh,g,d,t,os'⟩:=s'
 obtain rfl:os'=s.os:=os
 exact⟨v,H',I.call (h':=hh) (g':=g) (d':=d) (t':=t) (ch:=[]) un hok bare (fun b z=>absurd z (by simp)),r,q⟩
end
def QK(sp:Sp)(dvs:List V)(E:XK)(t:TA):TE:=fun σ H Q=>t σ H fun vs H1=>sp (vs++dvs) H1 Q E
def Binds(K:W.Frag)(fd:FuncData)(ps:List Str)(ds:List Value):Prop :=
 ∀ (s:Shared) (us:List Value),K.In s.heap->(us++ds).length=ps.length->BindsTo s fd ⟨us,[]⟩ (ps.zip (us++ds))
theorem Binds.all{fd:FuncData}(h:∀us:List Value,us.length=ps.length->bindArgs fd ⟨us,[]⟩=pure (ps.zip us)):Binds K fd ps []:=fun s us _ hl=>by
 rw[qF] at hl ⊢
 exact .of_eq (h us hl)
def fj(CX:FR)(X:Cx)(E:XK):Prop:=∀ (pins:List (Addr×Obj)) (σ:St) (H:Hp) (s:Shared) (e:Value) (s':Shared),Inv X pins σ H s->CX X.stack H s E e s'->X.xe e s'
section
variable {X:Cx}{CX:FR}{k:Nat}{f C:Addr}{fd:FuncData}{ps:List Str}{sp:Sp}{dvs:List V}{ds:List Value}{E:XK}{x m:Str}{p pos apos:Pos}{e o:Expr}{es:List Expr}{ta:TE}{t:TA}
theorem PB{σ:St}{Q:VK}(F:pH X.prog X.w X.K X.mg X.base CX k f fd ps sp)(hr:dZ k X.A)(hb:Binds X.K fd ps ds)(hd:aE dvs ds)(hx:fj CX X E)
  (I:Inv X pins σ H s) (r:aE vs us) (h:sp (vs++dvs) H Q E):wpAny (model X.prog X.w) X.A (call (.ref f) us) (EP X pins σ Q) X.xe s:=by
 have r2:aE (vs++dvs) (us++ds):=r.append hd
 have hl:(us++ds).length=ps.length:=by rw[<- r2.length];exact F.len _ _ _ _ h
 refine vP (jS (F.run X.A X.stack s H ⟨us,[]⟩ (us++ds) (vs++dvs) Q E hr I.env0 (hb s us I.kIn hl) r2 h) fun r s' hq=>?_)
 cases r with
 | error e=>exact hx pins σ H s e s' I hq
 | ok fl =>
  cases fl with
  | ret u=>exact I.after hq
  | next=>exact False.elim hq
  | brk=>exact False.elim hq
  | cont=>exact False.elim hq
theorem Et(F:pH X.prog X.w X.K X.mg X.base CX k f fd ps sp)(hr:dZ k X.A)(hg:Gl X x)(hm:X.mg x=some (.ref f))(hk:W.keepIn X.K (.ref f)=true)(hb:Binds X.K fd ps ds)(hd:aE dvs ds)(hx:fj CX X E)
  (ha:PA X (e::es) t) (hdb:(x == ("__debug__":Str))=false:=by decide) (he:starEach (e::es) X.env=(false,eval e X.env)::starEach es X.env:=by rfl) (hpl:(backTo pos (starEach es X.env)).any (·.1)=false:=by rfl) :
  PE X (.Call (.Name x p) (e::es) [] pos) (QK sp dvs E t):=by
 intro pins s σ H Q I h
 refine qY (lH I hg hm ?_ hdb)
 refine W.callWith_K (h₀:=X.base) I.ok.mod.kin hk (cF (ha pos pins s σ H _ I h) fun us s1 ⟨vs,H1,I1,r,q⟩=>⟨I1.kIn,?_⟩) he hpl
 exact PB F hr hb hd hx I1 r q
end
section
variable {X:Cx}{CX:FR}{k:Nat}{f C:Addr}{fd:FuncData}{ps ks:List Str}{sp:Sp}{E:XK}{x m:Str}{p pos apos kpos:Pos}{e o:Expr}{es:List Expr}{kws:List Keyword}{te ta:TE}{t tk:TA}{nm:Option Str}
variable {g:List Value->List Value->List Value}{gV:List V->List V->List V}
end
structure cT(N P:List Str)(sc:Scope):Prop where
 kind:sc.kind=.function
 co:sc.isCoroutine=false
 gen:sc.isGenerator=false
 nd:N.Nodup
 pre:N.take P.length=P
 par:∀x∈P,sc.names.lookup x=some .local \/ sc.names.lookup x=some .cell
 nofree:∀y∈sc.names,y.2≠.free
theorem uL{kindOf:Str->Option NameKind}{x:Str}:∀ {binds:List (Str×Value)}{m:Str->Option Value},(∀v,(x,v)∉binds)->bindL kindOf binds m x=m x
 | [],_,_=>rfl
 | (n,v)::r,m,h=>by
  unfold bindL
  rw[uL fun w hw=>h w (zC _ hw)]
  split
  ·have:x≠n:=by rintro rfl;exact h v zE
   simp[this]
  ·rfl
theorem uG{kindOf:Str->Option NameKind}{x:Str}:∀ {binds:List (Str×Value)}{m:Str->Option Value},(∀v,(x,v)∉binds)->bindC kindOf binds m x=m x
 | [],_,_=>rfl
 | (n,v)::r,m,h=>by
  unfold bindC
  rw[uG fun w hw=>h w (zC _ hw)]
  split
  ·rfl
  ·have:x≠n:=by rintro rfl;exact h v zE
   simp[this]
theorem u0{kindOf:Str->Option NameKind}{x:Str}{v:Value}:∀ {P:List Str}{vs:List Value}{i:Nat}{m:Str->Option Value},P.Nodup->P[i]?=some x->vs[i]?=some v->kindOf x=some .local ->
  bindL kindOf (P.zip vs) m x=some v
 | [],_,_,_,_,h,_,_=>by simp at h
 | _::_,[],_,_,_,_,h,_=>by simp at h
 | p::P,w::vs,0,m,nd,h1,h2,hk=>by
  simp at h1 h2;subst h1;subst h2
  show bindL kindOf ((p,w)::P.zip vs) m p=_
  unfold bindL
  rw[uL fun v hv=>(List.nodup_cons.mp nd).1 (vZ hv).1,yL hk]
  simp
 | p::P,w::vs,i+1,m,nd,h1,h2,hk=>by
  show bindL kindOf ((p,w)::P.zip vs) m x=_
  unfold bindL
  exact u0 (i:=i) (List.nodup_cons.mp nd).2 (by simpa using h1) (by simpa using h2) hk
theorem uz{kindOf:Str->Option NameKind}{x:Str}{v:Value}:∀ {P:List Str}{vs:List Value}{i:Nat}{m:Str->Option Value},P.Nodup->P[i]?=some x->vs[i]?=some v->kindOf x≠some .local ->
  bindC kindOf (P.zip vs) m x=some v
 | [],_,_,_,_,h,_,_=>by simp at h
 | _::_,[],_,_,_,_,h,_=>by simp at h
 | p::P,w::vs,0,m,nd,h1,h2,hk=>by
  simp at h1 h2;subst h1;subst h2
  show bindC kindOf ((p,w)::P.zip vs) m p=_
  unfold bindC
  rw[uG fun v hv=>(List.nodup_cons.mp nd).1 (vZ hv).1,yN hk]
  simp
 | p::P,w::vs,i+1,m,nd,h1,h2,hk=>by
  show bindC kindOf ((p,w)::P.zip vs) m x=_
  unfold bindC
  exact uz (i:=i) (List.nodup_cons.mp nd).2 (by simpa using h1) (by simpa using h2) hk
def start(N:List Str)(vs:List V):St:=vs.map some++List.replicate (N.length - vs.length) none
def rT(CX:FR)(P:Program)(w:World)(K:W.Frag)(mg:Str->Option Value)(base:Heap)(N:List Str)(qual:Str)(scope:Scope)(f:Addr)(cd:Value)(A:Around)(outer:List Env)(s:Shared)(H:Hp)(E:XK):Cx where
 prog:=P
 w:=w
 K:=K
 mg:=mg
 base:=base
 A:=A.deeper (envOfC qual scope s.heap.objs.size f cd)
 N:=N
 s₀:=s
 H₀:=H
 env:=envOfC qual scope s.heap.objs.size f cd
 outer:=outer
 stack:=envOfC qual scope s.heap.objs.size f cd::outer
 ex:=[]
 calm:=true
 fn:=fun _=>true
 pn:=[]
 xe:=fun e s'=>wpAny (model P w) (A.deeper (envOfC qual scope s.heap.objs.size f cd)) (leaving (envOfC qual scope s.heap.objs.size f cd) e) (fun _ s''=>CX outer H s E e s'') (fun e' s''=>CX outer H s E e' s'') s'
theorem r0{sc:Scope}{x:Str}(h:sc.names.lookup x=some .cell):∃c,(cellsFrom n sc.names []).lookup x=some c:=by
 have q:=W.cellsFrom_some sc.names n [] (.inl h)
 exact Option.isSome_iff_exists.mp q
theorem u9{P:Program}{w:World}{mg:Str->Option Value}{f:Addr}{cd:Value}{outer:List Env}{s s1:Shared}{E:XK}
  (S:cT N ps scope) (hd:A.handled=none) (e0:C8 P w K mg base A outer s H) (hl:vs.length=ps.length) (r:aE vs us)
  (x:InCallC s s.heap.objs.size (bindL (envOfC qual scope s.heap.objs.size f cd).kindOf (ps.zip us) fun _=>none) (cellsFrom (s.heap.objs.size+1) scope.names []) (bindC (envOfC qual scope s.heap.objs.size f cd).kindOf (ps.zip us) fun _=>none) s1) :
  Inv (rT CX P w K mg base N qual scope f cd A outer s H E) [] (start N vs) H s1:=by
 have hpl:ps.length<=N.length:=by have:=jC List.length S.pre;rw[jW] at this;lia
 obtain⟨h1,tk,rfl,hk⟩:=x.done
 have noA:∀b:Addr,b∉(rT CX P w K mg base N qual scope f cd A outer s H E).ex:=fun b z=>absurd (show b∈([]:List Addr) from z) (by simp)
 refine⟨⟨e0.mod,S.kind,rfl,rfl,yM _,fun y z c h1 h2=>?_,fun y hy=>?_,fun y c _ h=>?_,fun _=>hd,Around.frames_deeper e0.frames,.inr ⟨rfl,rfl⟩,fun b z=>absurd z (noA b),e0.bs,e0.bsz,fun b _ _=>noA b,fun b z=>absurd z (noA b),e0.funs,e0.frf⟩,
  rfl,e0.bare,Un.kept hk,⟨_,x.toInCall.ns,fun i y v h1 h2 h3=>?_⟩,fun y c h=>⟨_,x.cell y c h⟩,e0.hok.fresh (yM _),fun y c h=>?_,fun p hp=>absurd (show p∈([]:List (Addr×Obj)) from hp) (by simp),e0.hok.kept hk,?_⟩
 ·exact name_of_addr x.apart (kA h1) (kA h2)
 ·have hy:scope.names.lookup y=some .cell\/scope.names.lookup y=some .free:=hy
  rcases hy with hy|hy
  ·exact r0 hy
  ·exact absurd rfl (S.nofree _ (kA hy))
 ·exact jT (x.above y c (kA h))
 ·have hi:i < vs.length:=by
   unfold start at h2
   by_cases hi:i < vs.length
   ·exact hi
   ·rw[yT (by simpa using hi)] at h2
    rw[yX] at h2
    split at h2<;>cases h2
  have ha:vs[i]?=some v:=by
   unfold start at h2
   rw[yS (by simpa using hi),zO] at h2
   cases e:vs[i]? with
   | none=>rw[e] at h2;cases h2
   | some a=>rw[e] at h2;cases h2;rfl
  obtain⟨u,hu,rv⟩:=r.get ha
  have hp:ps[i]?=some y:=by
   rw[<- S.pre,List.getElem?_take_of_lt (by lia)];exact h1
  have ndP:ps.Nodup:=by rw[<- S.pre];exact S.nd.sublist (List.take_sublist _ _)
  refine⟨u,rv,?_⟩
  rcases S.par y (qB hp) with k|k
  ·exact .inl ⟨k,u0 ndP hp hu k⟩
  ·obtain⟨c,e⟩:=r0 (n:=s.heap.objs.size+1) k
   refine .inr ⟨.inl k,c,e,?_⟩
   have q:=x.cell y c e
   rw[uz ndP hp hu (by show scope.names.lookup y≠_;rw[k];decide)] at q
   exact q
 ·exact e0.hok.fresh (jT (x.above y c (kA h)))
 ·unfold start
  show _=N.length
  rw[zN,zD,xM]
  lia
theorem JV{P:Program}{w:World}{mg:Str->Option Value}{f:Addr}{name qual:Str}{params:Arguments}{dV kV doc pm cdv ct oc:Value}{an od:Option Addr}
  {osl:Array (Option Value)}{N ps:List Str}{sp:Sp}(lk:K.lookup f=some ⟨oc,od,.func (W.fnOf name qual params body scope dV kV doc pm an cdv ct),osl⟩) (hcd:W.codeIn K cdv qual=true) (S:cT N ps scope)
  (len:∀vs H Q E,sp vs H Q E->vs.length=ps.length)
  (hbody:∀ (A:Around) (outer:List Env) (s:Shared) (H:Hp) (vs:List V) (Q:VK) (E:XK),dZ k (A.deeper (envOfC qual scope s.heap.objs.size f cdv))->sp vs H Q E ->
   ∃t,v5 (rT CX P w K mg base N qual scope f cdv A outer s H E) body t/\t { nx:=fun _ H'=>Q .non H',rt:=Q } (start N vs) H) :
  pH P w K mg base CX (k+1) f (W.fnOf name qual params body scope dV kV doc pm an cdv ct) ps sp:=by
 refine⟨len,fun A outer s H args us vs Q E hr e0 hb r hsp=>?_⟩
 have hl:=len _ _ _ _ hsp
 have KX:K.In s.heap:=e0.mod.kin.keeps fun b o e=>(e0.bs b o e).1
 have lim:s.heap.NoLimit:=e0.mod.nolimit.keeps fun b o e=>(e0.bs b o e).1
 have hkind:∀y∈ps.zip us,scope.names.lookup y.1=some .local \/ (scope.names.lookup y.1=some .cell/\((cellsFrom (s.heap.objs.size+1) scope.names []).lookup y.1).isSome=true):=fun ⟨n,v⟩ hy=>by
  rcases S.par n (vZ hy).1 with q|q
  ·exact .inl q
  ·exact .inr ⟨q,W.cellsFrom_some _ _ _ (.inl q)⟩
 refine codeAny_call_function hr.depth (KX _ _ lk) rfl S.co S.gen rfl (W.codeRec_of KX hcd) (hb _ _ _ _ ?_)
 refine wpAny_newFunctionEnv_cells S.kind hkind fun env he s1 x=>?_
 subst he
 refine⟨lim.keeps x.toInCall.keep,codeAny_func ?_⟩
 obtain⟨t,ht,hq⟩:=hbody A outer s H vs Q E (hr.deeper _) hsp
 have I:Inv (rT CX P w K mg base N qual scope f cdv A outer s H E) [] (start N vs) H s1:=u9 S hr.hd e0 hl r x
 refine xA (ht [] s1 (start N vs) H _ I hq) (fun fl s' hs=>?_) fun e s' hs=>hs
 have fin:∀ {σ':St}{H':Hp}{v:V}{u:Value},Inv (rT CX P w K mg base N qual scope f cdv A outer s H E) [] σ' H' s'->RelV v u->Q v H'->CE outer P w H s Q u s' :=
  fun {σ' H' v u} J rv q=>⟨v,H',J.os,J.bare,J.base,J.hok,rv,q⟩
 cases fl with
 | ret u =>
  obtain⟨v,σ',H',J,rv,q⟩:=hs
  exact fin J rv q
 | next =>
  obtain⟨σ',H',J,q⟩:=hs
  exact fin (v:=V.non) (u:=Value.none) J rfl q
 | brk =>
  obtain⟨_,_,_,q⟩:=hs
  exact False.elim q
 | cont =>
  obtain⟨_,_,_,q⟩:=hs
  exact False.elim q
section
variable {X:Cx}{x:Str}{p pos:Pos}{e:Expr}{es:List Expr}{t:TA}{id T:String}{r:List V->Hp->VK->Prop}
def Ro(r:List V->Hp->VK->Prop)(t:TA):TE:=fun σ H Q=>t σ H fun vs H1=>r vs H1 Q
theorem nr(hc:eT X (.builtin id) r)(hg:Gl X x)(hm:X.mg x=none)(hv:bootBuiltins x=some (.builtin id))(ha:PA X (e::es) t)(hn:x≠"__name__":=by decide)(hdb:(x == ("__debug__":Str))=false:=by decide)
  (he:starEach (e::es) X.env=(false,eval e X.env)::starEach es X.env:=by rfl) (hpl:(backTo pos (starEach es X.env)).any (·.1)=false:=by rfl):PE X (.Call (.Name x p) (e::es) [] pos) (Ro r t):=by
 intro pins s σ H Q I h
 refine qY (fW I hg hm hv ?_ hn hdb)
 exact PyProof.Rows.callWith_builtin1 (cF (ha pos pins s σ H _ I h) fun us s1 ⟨vs,H1,I1,r1,q1⟩=>hc pins s1 σ H1 vs us Q I1 r1 q1) he hpl
theorem oE(hc:eT X (.type T) r)(hg:Gl X x)(hm:X.mg x=none)(hv:bootBuiltins x=some (.type T))(ha:PA X (e::es) t)(hn:x≠"__name__":=by decide)(hdb:(x == ("__debug__":Str))=false:=by decide)
  (he:starEach (e::es) X.env=(false,eval e X.env)::starEach es X.env:=by rfl) (hpl:(backTo pos (starEach es X.env)).any (·.1)=false:=by rfl):PE X (.Call (.Name x p) (e::es) [] pos) (Ro r t):=by
 intro pins s σ H Q I h
 refine qY (fW I hg hm hv ?_ hn hdb)
 exact qS (cF (ha pos pins s σ H _ I h) fun us s1 ⟨vs,H1,I1,r1,q1⟩=>hc pins s1 σ H1 vs us Q I1 r1 q1) he hpl
end
end L2
namespace HT
open PySem PyProof.Rows
variable {t sl:Addr}{Q:Value->Shared->Prop}{lo hi:Option Int}
def lexLt:List Int->List Int->Bool
 | [],[]=>false
 | [],_::_=>true
 | _::_,[]=>false
 | x::xs,y::ys=>if x=y then lexLt xs ys else decide (x < y)
theorem dD(x y:Int)(xs ys:List Int):lexLt (x::xs) (y::ys)=if x=y then lexLt xs ys else decide (x < y):=rfl
theorem tZ:lexLt [] []=false:=rfl
theorem sN(y:Int)(ys:List Int):lexLt [] (y::ys)=true:=rfl
theorem rm(x:Int)(xs:List Int):lexLt (x::xs) []=false:=rfl
theorem Iu(A:Around)(s:Shared)(a:Int)(t:Tok)(c:Int)(u:Tok):∃e,SeqAt.EqAt A s (.int a t) (.int c u) e/\(e=true↔a=c) :=
 ⟨(a == c),SeqAt.EqAt.int_int a t c u,by simp⟩
section
open PySem.SeqAt
open PySem.AutoSeq1 (wpAny_loadPart')
open PySem.MeetsSeq PySem.MeetsSeq2 PySem.MeetsSeq3
end
section
variable {prog:Program}{w:World}{A:Around}{E:Value->Shared->Prop}{s:Shared}
theorem LW{t b:Addr}{vs ws:List Value}(ht:IsTup s.heap t vs.toArray)(hb:IsTup s.heap b ws.toArray)(hv:vs≠[])
  (h1:ws=[]->Q (.ref t) s) (h2:ws≠[]->Q (.ref s.heap.objs.size) { s with heap:=s.heap.push { cls:=.type "tuple",data:=.seq (vs++ws).toArray } })
  (hsz:vs.length+ws.length<=sizeLine):wpAny (model prog w) A (binaryOp .Add (.ref t) (.ref b)) Q E s:=by
 obtain⟨⟨cls,dd,data,sl⟩,ho,hc,n,hd⟩:=id ht
 obtain⟨⟨cls2,dd2,data2,sl2⟩,ho2,hc2,n2,hd2⟩:=id hb
 simp only at hc hd hc2 hd2
 subst hc hd hc2 hd2
 have e:vs.toArray++ws.toArray=(vs++ws).toArray:=by simp
 by_cases hw:ws=[]
 ·exact Zd ⟨_,ho,rfl⟩ ⟨_,ho2,rfl⟩ noFill_tuple_add seq_tuple_add vS vM (vJ _ _)
   (tuple_addW1 t b vs.toArray ws.toArray n n2 dd dd2 sl sl2 (by simpa using hv) (by simp[hw])) ⟨ho,ho2,h1 hw⟩
 ·refine Zd ⟨_,ho,rfl⟩ ⟨_,ho2,rfl⟩ noFill_tuple_add seq_tuple_add vS vM (vJ _ _)
   (tuple_addW2 t b vs.toArray ws.toArray n n2 dd dd2 sl sl2 (by simpa using hv) (by simpa using hw) (by rw[zH,zH];exact hsz)) ⟨ho,ho2,?_⟩
  rw[e]
  exact h2 hw
def dI(n d:Nat):Option Int->Nat
 | none=>d
 | some v=>if v < 0 then (v+(n:Int)).toNat else min v.toNat n
theorem Bv(n d:Nat):dI n d none=d:=rfl
theorem DR(n d k:Nat):dI n d (some (k:Int))=min k n:=by
 show (if (k:Int) < 0 then ((k:Int)+(n:Int)).toNat else min (k:Int).toNat n)=min k n
 rw[yN (by lia),yG]
theorem Pz(n d:Nat)(hd:d<=n)(o:Option Int):dI n d o<=n:=by
 cases o with
 | none=>exact hd
 | some v =>
  show (if v < 0 then (v+(n:Int)).toNat else min v.toNat n)<=n
  by_cases hv:v < 0
  ·rw[yL hv];lia
  ·rw[yN hv];exact Nat.min_le_right _ _
theorem Di(v:Int)(n d:Nat):(if v < 0 then max (v+(n:Int)) 0 else min v (n:Int))=((dI n d (some v):Nat):Int):=by
 show (if v < 0 then max (v+(n:Int)) 0 else min v (n:Int))=(((if v < 0 then (v+(n:Int)).toNat else min v.toNat n):Nat):Int)
 by_cases hv:v < 0
 ·simp only[yL hv];lia
 ·simp only[yN hv];lia
theorem C2(lo hi:Option Int)(n:Nat):Builtin.Slice.sliceAdjust lo hi 1 (n:Int)=(((dI n 0 lo:Nat):Int),((dI n n hi:Nat):Int)):=by
 have h1:¬ ((1:Int) < 0):=by lia
 unfold Builtin.Slice.sliceAdjust
 simp only[h1,qP]
 refine Prod.ext ?_ ?_
 ·cases lo with
  | none=>rfl
  | some v=>exact Di v n 0
 ·cases hi with
  | none=>rfl
  | some v=>exact Di v n n
theorem BM(i j:Nat):Builtin.Slice.slicePlaces (i:Int) (j:Int) 1=j - i:=by
 unfold Builtin.Slice.slicePlaces
 have h1:(1:Int) > 0:=by lia
 simp only[h1,xH,Int.ediv_one]
 split<;>lia
theorem qb{v:Value}{o:Option Int}{Q:Option Int->Shared->Prop}(p:IsPart v o)(h:Q o s):wpAny (model prog w) A (Builtin.Slice.slicePartIndex v) Q E s:=by
 cases p with
 | none=>exact slicePart_none h
 | int i t=>exact slicePart_int h
theorem iJ{vl vu:Value}{n:Nat}{Q:Int×Int×Nat->Shared->Prop}(hs:s.heap.IsSliceOf sl vl vu .none)(pl:IsPart vl lo)(pu:IsPart vu hi)
  (h:Q (((dI n 0 lo:Nat):Int),1,dI n n hi - dI n 0 lo) s):wpAny (model prog w) A (Builtin.Slice.sliceApplied (.ref sl) (pure (n:Int))) Q E s:=by
 obtain⟨os,hos,hcs,hds⟩:=id hs
 unfold Builtin.Slice.sliceApplied Builtin.Slice.sliceFields
 refine zV (zV (qT hos hds (x:=vl) rfl (zV (qT hos hds (x:=vu) rfl (zV (qT hos hds (x:=.none) rfl (zW ?_)))))))
 refine zV (slicePart_none ?_)
 show wpAny _ _ (if ((1:Int) == 0)=true then _ else _) _ _ s
 rw[yN (by decide)]
 refine zV (qb pl (zV (qb pu (zV (zW ?_)))))
 show wpAny _ _ (match Builtin.Slice.sliceAdjust lo hi 1 (n:Int) with|(lo,hi)=>pure (lo,(1:Int),Builtin.Slice.slicePlaces lo hi 1)) _ _ s
 rw[C2 lo hi n]
 show wpAny _ _ (pure (((dI n 0 lo:Nat):Int),(1:Int),Builtin.Slice.slicePlaces ((dI n 0 lo:Nat):Int) ((dI n n hi:Nat):Int) 1)) _ _ s
 rw[BM]
 exact zW h
theorem Kh(xs:Array Value)(i k:Nat):((List.range k).filterMap fun (m:Nat)=>xs[((i:Int)+(m:Int) * 1).toNat]?).toArray=((xs.toList.drop i).take k).toArray:=by
 have e:(fun (m:Nat)=>xs[((i:Int)+(m:Int) * 1).toNat]?)=fun m=>xs[i+m]?:=by
  funext m
  have:((i:Int)+(m:Int) * 1).toNat=i+m:=by lia
  rw[this]
 rw[e]
 have:=pick_run xs i k
 rw[List.filterMap_map] at this
 have e2:((fun x=>xs[x]?) ∘ fun x=>i+x)=fun m=>xs[i+m]?:=rfl
 rw[e2] at this
 rw[this]
theorem mZ{items:Array Value}{vl vu:Value}(ht:IsTup s.heap t items)(hs:s.heap.IsSliceOf sl vl vu .none)(pl:IsPart vl lo)(pu:IsPart vu hi)
  (hw:¬ (dI items.size 0 lo=0/\dI items.size items.size hi=items.size))
  (h:Q (.ref s.heap.objs.size) { s with heap:=s.heap.push { cls:=.type "tuple",data:=.seq ((items.toList.drop (dI items.size 0 lo)).take (dI items.size items.size hi - dI items.size 0 lo)).toArray } })
  (hsz:items.size<=sizeLine):wpAny (model prog w) A (getItem (.ref t) (.ref sl)) Q E s:=by
 have htake:sizeOk (.seq ((items.toList.drop (dI items.size 0 lo)).take (dI items.size items.size hi - dI items.size 0 lo)).toArray):=by
  show ((items.toList.drop (dI items.size 0 lo)).take (dI items.size items.size hi - dI items.size 0 lo)).toArray.size<=sizeLine
  rw[zH,jW,qH,wQ]
  lia
 have hj:dI items.size items.size hi<=items.size:=Pz _ _ (yM _) hi
 obtain⟨os,hos,hcs,hds⟩:=id hs
 have hTs:s.TypeIs (.ref sl) "slice":=⟨os,hos,hcs⟩
 unfold getItem
 try with_reducible refine xX ?_
 first|refine zV (zW ?_)|skip
 refine zV (wpAny_sequenceKey ht.typeIs (by decide) ?_)
 refine zV (qC (name:=Str.ofString "__getitem__") ht.typeIs jF
  (qV jF ht.typeIs entry_tuple_getitem ?_ (args_tuple_getitem _ _)))
 show wpAny _ _ (Builtin.Tuple.tupleItemsOf (.ref t) >>= _) _ _ s
 refine zV (tupleItemsOf_ ht ?_)
 refine zV (Zb hTs ?_)
 rw[yL (by decide)]
 refine zV (iJ hs pl pu ?_)
 have hno:¬ ((((dI items.size 0 lo:Nat):Int) == 0&&(1:Int) == 1&&(dI items.size items.size hi - dI items.size 0 lo) == items.size)=true):=by
  intro q
  rw[zF,zF] at q
  have q1:((dI items.size 0 lo:Nat):Int)=0:=eq_of_beq q.1.1
  have q2:dI items.size items.size hi - dI items.size 0 lo=items.size:=eq_of_beq q.2
  exact hw ⟨by lia,by lia⟩
 show wpAny _ _ (if (((dI items.size 0 lo:Nat):Int) == 0&&(1:Int) == 1&&(dI items.size items.size hi - dI items.size 0 lo) == items.size)=true then _ else _) _ _ s
 rw[yN hno,Kh]
 first
  | exact zV (m:=Builtin.Tuple.tupleExact _) (qL (zW ⟨_,rfl,zW h⟩) htake)
  | exact zV (m:=Builtin.Tuple.tupleExact _) (qL (zV (zW (zW ⟨_,rfl,zW h⟩))) htake)
  | exact zV (zV (m:=Builtin.Tuple.tupleExact _) (qL (zW (zW ⟨_,rfl,zW h⟩)) htake))
  | exact zV (zV (m:=Builtin.Tuple.tupleExact _) (qL (zW ⟨_,rfl,zW h⟩) htake))
end
end HT
namespace L2
open PySem PySem.Spec PyProof.Rows
variable {n j:Nat}{i:Int}{pins:List (Addr×Obj)}{σ:St}{H:Hp}{s:Shared}
abbrev TO:=St->Hp->(Option Int->Hp->Prop)->Prop
def PO(X:Cx)(e:Option Expr)(t:TO):Prop :=
 ∀ (pins:List (Addr×Obj)) (s:Shared) (σ:St) (H:Hp) (Q:Option Int->Hp->Prop),Inv X pins σ H s->t σ H Q ->
  wpAny (model X.prog X.w) X.A (evalPart e X.env) (fun u s'=>∃o H',Inv X pins σ H' s'/\IsPart u o/\Q o H') X.xe s
def LZ:TO:=fun _ H Q=>Q none H
def QO(t:TE):TO:=fun σ H Q=>t σ H fun x H1=>∃i,x=.int i/\Q (some i) H1
theorem intsAre_of{ns:List Int}:∀ {us:List Value},aE (ns.map V.int) us->IntsAre us ns:=by
 induction ns with
 | nil=>intro us r;rw[yU] at r;cases r;exact .nil
 | cons n ns ih =>
  intro us r
  rw[zI] at r
  cases r with
  | cons r1 r2 =>
   obtain⟨t,e⟩:=r1
   subst e
   exact .cons n t (ih r2)
section
variable {X:Cx}{e:Expr}{te:TE}{lo hi:Option Expr}{tl th:TO}{pos p2:Pos}
theorem L4:PO X none LZ:=by
 intro pins s σ H Q I h
 rw[evalPart_none]
 exact zW ⟨none,H,I,.none,h⟩
theorem Lr(h:PE X e te):PO X (some e) (QO te):=by
 intro pins s σ H Q I hw
 rw[evalPart_some]
 refine cF (h pins s σ H _ I hw) fun u s1 ⟨x,H1,I1,r1,q1⟩=>?_
 obtain⟨i,rfl,q⟩:=q1
 obtain⟨t,rfl⟩:=r1
 exact⟨some i,H1,I1,.int i t,q⟩
def MH(X:Cx)(r:V->Option Int->Option Int->Hp->VK->Prop):Prop :=
 ∀ (pins:List (Addr×Obj)) (s:Shared) (σ:St) (H:Hp) (x:V) (v vl vu:Value) (lo hi:Option Int) (sl:Addr) (Q:VK),Inv X pins σ H s->RelV x v->s.heap.IsSliceOf sl vl vu .none->IsPart vl lo->IsPart vu hi->r x lo hi H Q ->
  ∃T id,typeLookup (.type T) "__getitem__"=pure (some (.builtin id))/\s.TypeIs v T/\wpAny (model X.prog X.w) X.A (getItem v (.ref sl)) (EP X pins σ Q) X.xe s
theorem MH.or{r r':V->Option Int->Option Int->Hp->VK->Prop}(h:MH X r)(h':MH X r'):MH X (fun x lo hi H Q=>r x lo hi H Q\/r' x lo hi H Q):=by
 intro pins s σ H x v vl vu lo hi sl Q I rx hs pl pu q
 rcases q with q|q
 ·exact h pins s σ H x v vl vu lo hi sl Q I rx hs pl pu q
 ·exact h' pins s σ H x v vl vu lo hi sl Q I rx hs pl pu q
def Tb(r:V->Option Int->Option Int->Hp->VK->Prop)(te:TE)(tl th:TO):TE:=fun σ H Q=>te σ H fun x H1=>tl σ H1 fun l H2=>th σ H2 fun u H3=>r x l u H3 Q
theorem JR{r:V->Option Int->Option Int->Hp->VK->Prop}(hr:MH X r)(he:PE X e te)(hl:PO X lo tl)(hu:PO X hi th):PE X (.Subscript e (.Slice lo hi none p2) pos) (Tb r te tl th):=by
 intro pins s σ H Q I h
 refine Subscript_ (cF (he pins s σ H _ I h) fun v s1 ⟨x,H1,I1,r1,q1⟩=>?_)
 refine wpAny_Slice (cF (hl pins s1 σ H1 _ I1 q1) fun vl s2 ⟨l,H2,I2,pl,q2⟩=>cF (hu pins s2 σ H2 _ I2 q2) fun vu s3 ⟨u,H3,I3,pu,q3⟩=>?_)
 rw[evalPart_none]
 refine zW ?_
 have I4:Inv X pins σ H3 { s3 with heap:=s3.heap.push { cls:=.type "slice",data:=.fields #[vl,vu,.none] } }:=I3.kept (t':=s3.toks) fun b ob q=>zU _ q
 obtain⟨T,id,hT,ht,hg⟩:=hr pins { s3 with heap:=s3.heap.push { cls:=.type "slice",data:=.fields #[vl,vu,.none] } } σ H3 x v vl vu l u s3.heap.objs.size Q I4 r1 (Heap.IsSliceOf.new ..) pl pu q3
 show wpAny (model X.prog X.w) X.A (subscriptTail e (.Slice lo hi none p2) v (.ref s3.heap.objs.size)) (EP X pins σ Q) X.xe { s3 with heap:=s3.heap.push { cls:=.type "slice",data:=.fields #[vl,vu,.none] } }
 exact tail_any (ops:=[.ref s3.heap.objs.size,v]) ht hT hg (by with_unfolding_all rfl)
def Lv(xs:List V)(lo hi:Option Int):List V:=(xs.drop (HT.dI xs.length 0 lo)).take (HT.dI xs.length xs.length hi - HT.dI xs.length 0 lo)
theorem Aw(xs:List V)(lo hi:Option Int):(Lv xs lo hi).length<=xs.length:=by
 unfold Lv
 rw[jW,qH]
 lia
def RS(K:W.Frag):V->Option Int->Option Int->Hp->VK->Prop:=fun x lo hi H Q=>∃a xs,x=.ref a/\iN K H a xs /\
 ¬ (HT.dI xs.length 0 lo=0/\HT.dI xs.length xs.length hi=xs.length)/\∀p,H p=none->Q (.ref p) (upd H p (.tup (Lv xs lo hi)))
theorem NL:MH X (RS X.K):=by
 intro pins s σ H x v vl vu lo hi sl Q I rx hs pl pu h
 obtain⟨a,xs,rfl,hx,hw,q⟩:=h
 cases rx
 obtain⟨its,r,ht,hz⟩:=I.tuple hx
 have hlen:its.toArray.size=xs.length:=by rw[zH];exact r.length.symm
 refine⟨"tuple",_,PyProof.Rows.slot_tuple_getitem.lookup,ht.typeIs,?_⟩
 refine HT.mZ ht hs pl pu (by rw[hlen];exact hw) ?_ (by rw[hlen];exact hz)
 rw[hlen]
 refine⟨.ref s.heap.objs.size,_,I.laid (t':=s.toks) (o:=.tup (Lv xs lo hi)) (fun b ob q=>zU _ q) (yM _) ?_,rfl,q _ (I.hok.fresh (yM _))⟩
 exact⟨yD (Aw xs lo hi) hz,_,(r.drop (HT.dI xs.length 0 lo)).take (HT.dI xs.length xs.length hi - HT.dI xs.length 0 lo),rK.new _ _⟩
def Ql(K:W.Frag):R2:=fun x y H Q=>∃a b xs ys,x=.ref a/\y=.ref b/\iN K H a xs/\iN K H b ys/\xs≠[]/\xs.length+ys.length<=sizeLine /\
 (ys=[]->Q (.ref a) H)/\(ys≠[]->∀p,H p=none->Q (.ref p) (upd H p (.tup (xs++ys))))
theorem aE.nil_iff{xs:List V}{us:List Value}(r:aE xs us):us=[]↔xs=[]:=by
 cases r with
 | nil=>simp
 | cons _ _=>simp
theorem KI:hU X (binaryOp .Add) (Ql X.K):=by
 intro pins s σ H x y v u Q I rx ry h
 obtain⟨a,b,xs,ys,rfl,rfl,ha,hb,hx,hz,q1,q2⟩:=h
 cases rx
 cases ry
 obtain⟨its,r1,p1,_⟩:=I.tuple ha
 obtain⟨its2,r2,p2,_⟩:=I.tuple hb
 refine HT.LW p1 p2 (fun z=>hx (r1.nil_iff.mp z)) (fun z=>⟨.ref a,H,I,rfl,q1 (r2.nil_iff.mp z)⟩) (fun z=>?_) (by rw[<- r1.length,<- r2.length];exact hz)
 refine⟨.ref s.heap.objs.size,_,I.laid (t':=s.toks) (o:=.tup (xs++ys)) (fun b ob q=>zU _ q) (yM _) ?_,rfl,q2 (fun w=>z (r2.nil_iff.mpr w)) _ (I.hok.fresh (yM _))⟩
 exact⟨by rw[zN];exact hz,_,r1.append r2,rK.new _ _⟩
end
def Km(n:Nat)(i:Int):Option Nat:=if 0<=i then (if i < n then some i.toNat else none) else if -(n:Int)<=i then some (i+n).toNat else none
def zh{α:Type}(xs:List α)(i:Int):Option α:=(Km xs.length i).bind fun j=>xs[j]?
theorem EM(h:Km n i=some j):seqIndex? i n=some j/\j < n/\-(n:Int)<=i/\i < n:=by
 unfold Km at h
 by_cases h0:0<=i
 ·rw[yL h0] at h
  by_cases h1:i < n
  ·rw[yL h1] at h
   have e:i.toNat=j:=xD h
   exact⟨by rw[seqIndex_of h0 h1,e],by lia,by lia,h1⟩
  ·rw[yN h1] at h;cases h
 ·rw[yN h0] at h
  by_cases h1:-(n:Int)<=i
  ·rw[yL h1] at h
   have e:(i+n).toNat=j:=xD h
   exact⟨by rw[seqIndex_neg (by lia) h1,e],by lia,h1,by lia⟩
  ·rw[yN h1] at h;cases h
theorem ym{α:Type}{xs:List α}{v:α}(h:zh xs i=some v):∃j,seqIndex? i xs.length=some j/\xs[j]?=some v/\j < xs.length/\-(xs.length:Int)<=i/\i < xs.length:=by
 unfold zh at h
 cases e:Km xs.length i with
 | none=>rw[e] at h;cases h
 | some j =>
  rw[e] at h
  obtain⟨h1,h2,h3,h4⟩:=EM e
  exact⟨j,h1,h,h2,h3,h4⟩
theorem zf{α:Type}{xs:List α}{v:α}(h:xs[j]?=some v):zh xs (j:Int)=some v:=by
 have hj:j < xs.length:=(List.getElem?_eq_some_iff.mp h).1
 have e:Km xs.length (j:Int)=some j:=by
  unfold Km
  rw[yL (by lia),yL (by lia)];simp
 unfold zh;rw[e];exact h
def wx(b:Expr):Prop:=∀o i,subscripted b false o i=operate [o,i] (getItem o i)
def KL(X:Cx)(r:R2):Prop :=
 ∀ (value slice:Expr) (pins:List (Addr×Obj)) (s:Shared) (σ:St) (H:Hp) (x y:V) (v u:Value) (Q:VK),Inv X pins σ H s->RelV x v->RelV y u->r x y H Q ->
  subscripted slice false v u=operate [v,u] (getItem v u)->wpAny (model X.prog X.w) X.A (subscriptTail value slice v u) (EP X pins σ Q) X.xe s
def Sz(X:Cx)(id:String)(r:V->List V->Hp->VK->Prop):Prop :=
 ∀ (pins:List (Addr×Obj)) (s:Shared) (σ:St) (H:Hp) (x:V) (xs:List V) (v:Value) (us:List Value) (Q:VK),Inv X pins σ H s->RelV x v->aE xs us->r x xs H Q ->
  wpAny (model X.prog X.w) X.A (call (.builtin id) (v::us)) (EP X pins σ Q) X.xe s
section
variable {X:Cx}{a b:Expr}{ta tb:TE}{pos:Pos}
theorem KL.or{r r':R2}(h:KL X r)(h':KL X r'):KL X (fun x y H Q=>r x y H Q\/r' x y H Q):=by
 intro value slice pins s σ H x y v u Q I rx ry q hs
 rcases q with q|q
 ·exact h value slice pins s σ H x y v u Q I rx ry q hs
 ·exact h' value slice pins s σ H x y v u Q I rx ry q hs
theorem Q4{r:R2}(hr:KL X r)(ha:PE X a ta)(hb:PE X b tb)(hs:wx b):PE X (.Subscript a b pos) (QL r ta tb):=by
 intro pins s σ H Q I h
 exact Subscript_ (Ny ha hb I h fun v u s2 x y H2 I2 rx ry q=>hr a b pins s2 σ H2 x y v u Q I2 rx ry q (hs _ _))
def Q9(K:W.Frag):R2:=fun x y H Q=>∃p xs i v,x=.ref p/\y=.int i/\ig K H p xs/\zh xs i=some v/\Q v H
def Qm(K:W.Frag):R2:=fun x y H Q=>∃p xs i v,x=.ref p/\y=.int i/\iN K H p xs/\zh xs i=some v/\Q v H
def Qw:R2:=fun x y H Q=>∃z i c,x=.str z/\y=.int i/\z.length<=sizeLine/\zh z.cps.toList i=some c/\Q (.str ⟨#[c]⟩) H
theorem LM:KL X (Q9 X.K):=by
 intro value slice pins s σ H x y v u Q I rx ry h hs
 obtain⟨p,xs,i,z,rfl,rfl,hq,he,q⟩:=h
 cases rx
 obtain⟨t,rfl⟩:=ry
 obtain⟨its,r,pl,hz⟩:=I.list hq
 obtain⟨j,h1,h2,h3,h4,h5⟩:=ym he
 obtain⟨w,ew,rw'⟩:=r.get h2
 have hl:=r.length
 have hn:=su
 have fin:EP X pins σ Q w s:=⟨z,H,I,rw',q⟩
 by_cases h0:0<=i
 ·have hj:i.toNat=j:=by
   rw[seqIndex_of h0 h5] at h1
   exact xD h1
  exact item_listR pl.isList h0 (by lia) (by rw[hj];simpa using ew) fin hs
 ·have hj:(i+(its.toArray.size:Int)).toNat=j:=by
   rw[seqIndex_neg (by lia) h4] at h1
   rw[zH,<- hl]
   exact xD h1
  exact subscriptTail_builtinR (x:=w) pl.isList.typeIs slot_list_getitem.lookup
   (wpAny_getItem_list_neg (Q:=fun r s'=>r=w/\EP X pins σ Q r s') pl.isList (by lia) (by rw[zH]<;>lia) (by lia) (by rw[hj];simpa using ew) ⟨rfl,fin⟩) hs
theorem sJ:KL X (Qm X.K):=by
 intro value slice pins s σ H x y v u Q I rx ry h hs
 obtain⟨p,xs,i,z,rfl,rfl,hq,he,q⟩:=h
 cases rx
 obtain⟨t,rfl⟩:=ry
 obtain⟨its,r,pl,hz⟩:=I.tuple hq
 obtain⟨j,h1,h2,h3,h4,h5⟩:=ym he
 obtain⟨w,ew,rw'⟩:=r.get h2
 have hl:=r.length
 have hn:=su
 have fin:EP X pins σ Q w s:=⟨z,H,I,rw',q⟩
 exact subscriptTail_builtinR (x:=w) pl.typeIs slot_tuple_getitem.lookup
  (getItem_tuple (j:=j) (Q:=fun r s'=>r=w/\EP X pins σ Q r s') pl (by lia) (by lia) (by rw[zH,<- hl];exact h1) (by simpa using ew) ⟨rfl,fin⟩) hs
theorem ON:KL X Qw:=by
 intro value slice pins s σ H x y v u Q I rx ry h hs
 obtain⟨z,i,c,rfl,rfl,hz,he,q⟩:=h
 obtain⟨t,rfl⟩:=rx
 obtain⟨t',rfl⟩:=ry
 obtain⟨j,h1,h2,h3,h4,h5⟩:=ym he
 have hl:z.cps.toList.length=z.length:=by simp[Str.length]
 rw[hl] at h1 h4 h5
 have hn:=su
 exact tail_any (typeIs_str s z t) slot_str_getitem.lookup (getItem_str (c:=c) (by
  have e1:decide (i < -(2 ^ 63:Int))=false:=zZ (by lia)
  have e2:decide (i >= 2 ^ 63)=false:=zZ (by lia)
  rw[e1,e2,Bool.or_false]) (by rw[h1];simpa using h2) ⟨.str ⟨#[c]⟩,H,I.tok _,⟨_,rfl⟩,q⟩) hs
def SB(K:W.Frag):R2:=fun x y H Q=>Q9 K x y H Q\/Qm K x y H Q\/Qw x y H Q
theorem N6:KL X (SB X.K):=LM.or (sJ.or ON)
theorem C9(its:List Value)(n j:Nat)(u:Value):Obj.mapSeq (·.setIfInBounds j u) { cls:=.type "list",data:=.seq its.toArray n }={ cls:=.type "list",data:=.seq (its.set j u).toArray n }:=by
 simp[Obj.mapSeq]
theorem Inv.lst{pins:List (Addr×Obj)}{σ:St}{H:Hp}{s:Shared}{p:Addr}{xs:List V}(I:Inv X pins σ H s)(h:H p=some (.lst xs)) :
  ∃ (its:List Value) (n:Nat),aE xs its/\s.heap.get? p=some { cls:=.type "list",data:=.seq its.toArray n }/\xs.length<=sizeLine:=by
 obtain⟨z,its,n,r,e⟩:=I.hok p _ h
 exact⟨its,n,r,e,z⟩
theorem Inv.lstUpd{p:Addr}{xs ys:List V}{its its':List Value}{n n':Nat}{f:Obj->Obj}(I:Inv X pins σ H s)(h:H p=some (.lst xs))
  (ho:s.heap.get? p=some { cls:=.type "list",data:=.seq its.toArray n }) (hf:f { cls:=.type "list",data:=.seq its.toArray n }={ cls:=.type "list",data:=.seq its'.toArray n' }) (r:aE ys its') (hz:ys.length<=sizeLine) (t:Nat) :
  Inv X pins σ (upd H p (.lst ys)) { s with heap:=s.heap.update p f,toks:=t }:=by
 have e:(s.heap.update p f).get? p=some { cls:=.type "list",data:=.seq its'.toArray n' }:=by
  rw[Heap.get?_update_self f ho (by rw[hf]<;>rfl),hf]
 refine I.write (x:=p) (e:=p) (by rw[h];trivial) (.inl rfl) (fun b u hb q=>(xN _ _ (jN hb)).trans q) ⟨_,e⟩ ?_
 exact⟨hz,its',n',r,e⟩
def QV:V->V->V->Hp->(Hp->Prop)->Prop:=fun o i v H Q=>∃p xs k j,o=.ref p/\i=.int k/\H p=some (.lst xs)/\Km xs.length k=some j/\Q (upd H p (.lst (xs.set j v)))
theorem set_list:P8 X QV:=by
 intro pins s σ H o i v ov iv u Q I ro ri rv h
 obtain⟨p,xs,k,j,rfl,rfl,hp,hj,q⟩:=h
 cases ro
 obtain⟨t,rfl⟩:=ri
 obtain⟨its,n,r,ho,hz⟩:=I.lst hp
 obtain⟨h1,h2,h3,h4⟩:=EM hj
 have hl:=r.length
 have hn:=su
 have I':Inv X pins σ (upd H p (.lst (xs.set j v))) { s with heap:=s.heap.update p (Obj.mapSeq (·.setIfInBounds j u)) } :=
  I.lstUpd hp ho (C9 its n j u) (r.set rv j) (by rw[yC];exact hz) s.toks
 by_cases h0:0<=k
 ·have hk:k.toNat=j:=by
   rw[seqIndex_of h0 h4] at h1
   exact xD h1
  exact W.ki_setAt ho h0 (by lia) (by rw[zH,<- hl];exact h4) (by rw[hk];exact⟨_,I',q⟩)
 ·have hk:(k+(its.toArray.size:Int)).toNat=j:=by
   rw[seqIndex_neg (by lia) h3] at h1
   rw[zH,<- hl]
   exact xD h1
  exact W.ki_setBack ho (by lia) (by rw[zH,<- hl];exact h3) (by lia) (by rw[hk];exact⟨_,I',q⟩)
theorem wt:eT X (.builtin "len") (fun xs H Q=>∃p ys,xs=[.ref p]/\(ig X.K H p ys\/iN X.K H p ys)/\Q (.int ys.length) H):=by
 intro pins s σ H xs us Q I r h
 obtain⟨p,ys,rfl,hq,q⟩:=h
 obtain⟨u,rfl,rx⟩:=vals1 r
 cases rx
 have hn:=su
 rcases hq with hq|hq
 ·obtain⟨its,r',pl,hz⟩:=I.list hq
  have hlen:=r'.length
  exact Calls.call_len_list pl.isList (by simp only[zH]<;>lia) ⟨.int ys.length,H,I.tok _,⟨s.toks+1,by rw[zH,hlen]⟩,q⟩
 ·obtain⟨its,r',pl,hz⟩:=I.tuple hq
  have hlen:=r'.length
  exact len_tuple pl (by simp only[zH]<;>lia) ⟨.int ys.length,H,I.tok _,⟨s.toks+1,by rw[zH,hlen]⟩,q⟩
theorem ya:eT X (.type "list") (fun xs H Q=>∃p ys,xs=[.ref p]/\(ig X.K H p ys\/iN X.K H p ys)/\∀l,H l=none->Q (.ref l) (upd H l (.lst ys))):=by
 intro pins s σ H xs us Q I r h
 obtain⟨p,ys,rfl,hq,q⟩:=h
 obtain⟨u,rfl,rx⟩:=vals1 r
 cases rx
 have fin:∀ (its:List Value),aE ys its->ys.length<=sizeLine->∀ (h':Heap) (c':Nat),(∀b o',s.heap.get? b=some o'->h'.get? b=some o') ->
   h'.get? s.heap.objs.size=some { cls:=.type "list",dict:=none,data:=.seq its.toArray c',slots:=#[] }->EP X pins σ Q (.ref s.heap.objs.size) { s with heap:=h' }:=fun its r' hz h' c' kp e =>
  ⟨.ref s.heap.objs.size,_,I.laid (t':=s.toks) kp (yM _) (show et X.prog X.w _ h' _ (.lst ys) from ⟨hz,its,c',r',e⟩),rfl,q _ (I.hok.fresh (yM _))⟩
 rcases hq with hq|hq
 ·obtain⟨its,r',pl,hz⟩:=I.list hq
  have hlen:=r'.length
  obtain⟨o,ho,hc,n,hd⟩:=pl.isList
  exact call_list_seq p (.inl rfl) ho hc hd (fun h' c' kp e=>fin its r' hz h' c' kp e) (by simp only[zH]<;>lia)
 ·obtain⟨its,r',pl,hz⟩:=I.tuple hq
  have hlen:=r'.length
  obtain⟨o,ho,hc,n,hd⟩:=pl
  exact call_list_seq p (.inr rfl) ho hc hd (fun h' c' kp e=>fin its r' hz h' c' kp e) (by simp only[zH]<;>lia)
theorem tG:eT X (.type "tuple") (fun xs H Q=>∃p ys,xs=[.ref p]/\((ig X.K H p ys/\∀l,H l=none->Q (.ref l) (upd H l (.tup ys)))\/(iN X.K H p ys/\Q (.ref p) H))):=by
 intro pins s σ H xs us Q I r h
 obtain⟨p,ys,rfl,h⟩:=h
 obtain⟨u,rfl,rx⟩:=vals1 r
 cases rx
 rcases h with ⟨hq,q⟩|⟨hq,q⟩
 ·obtain⟨its,r',pl,hz⟩:=I.list hq
  have hlen:=r'.length
  refine call_tuple_list pl.isList (fun h' kp=>?_) (by simp only[zH]<;>lia)
  have I1:Inv X pins σ H { s with heap:=h' }:=I.kept (t':=s.toks) kp
  have I2:Inv X pins σ (upd H h'.objs.size (.tup ys)) { s with heap:=h'.push { cls:=.type "tuple",data:=.seq its.toArray } } :=
   I1.laid (t':=s.toks) (fun b o e=>zU _ e) (yM _) (show et X.prog X.w _ _ _ (.tup ys) from ⟨hz,its,r',rK.new _ _⟩)
  exact⟨.ref h'.objs.size,_,I2,rfl,q _ (I1.hok.fresh (yM _))⟩
 ·obtain⟨its,r',pl,hz⟩:=I.tuple hq
  exact call_tuple_same pl ⟨.ref p,H,I,rfl,q⟩
def SH(K:W.Frag)(T:String)(x:V)(H:Hp):Prop:=match x with
 | .str _=>T="str"
 | .int _=>T="int"
 | .ref p=>(T="list"/\∃xs,ig K H p xs)\/(T="tuple"/\∃xs,iN K H p xs) \/
   (T="dict"/\((∃kvs,H p=some (.dK kvs))\/∃kvs,H p=some (.dT kvs)))\/(T="set"/\∃S n,H p=some (.set S n))
 | _=>False
theorem O0{T:String}{x:V}{v:Value}(I:Inv X pins σ H s)(r:RelV x v)(ty:SH X.K T x H) :
  s.TypeIs v T/\∀a,v=.ref a->∃ob,s.heap.get? a=some ob/\ob.dict=none:=by
 cases x with
 | str z =>
  obtain⟨t,rfl⟩:=r
  cases (show T="str" from ty)
  exact⟨typeIs_str s z t,fun _ e=>nomatch e⟩
 | int i =>
  obtain⟨t,rfl⟩:=r
  cases (show T="int" from ty)
  exact⟨wV s i t,fun _ e=>nomatch e⟩
 | ref p =>
  cases r
  rcases ty with ⟨rfl,xs,hq⟩|⟨rfl,xs,hq⟩|⟨rfl,hk⟩|⟨rfl,S,n,hk⟩
  ·obtain⟨its,_,pl,_⟩:=I.list hq
   refine⟨pl.isList.typeIs,fun a e=>?_⟩
   cases e
   obtain⟨o,n,e,c,hd,_⟩:=pl
   exact⟨o,e,hd⟩
  ·rcases hq with hq|⟨o,its,n,hk,hc,hd,_⟩
   ·obtain⟨_,_,_,⟨o,e1,e2,_⟩,o2,e3,e4⟩:=hq.ok I.hok
    exact⟨⟨o,e1,e2⟩,fun a e=>by cases e;exact⟨o2,e3,e4⟩⟩
   ·exact⟨⟨o,I.kIn p o hk,hc⟩,fun a e=>by cases e;exact⟨o,I.kIn _ o hk,hd⟩⟩
  ·have z:∃o,s.heap.get? p=some o/\o.ExactDict:=by
    rcases hk with ⟨kvs,hk⟩|⟨kvs,hk⟩
    ·obtain⟨_,_,_,_,o,_,_,e,ex,_⟩:=I.hok p _ hk
     exact⟨o,e,ex⟩
    ·obtain⟨_,_,_,_,o,_,_,e,ex,_⟩:=I.hok p _ hk
     exact⟨o,e,ex⟩
   obtain⟨o,e,ex⟩:=z
   refine⟨⟨o,e,ex.1⟩,fun a e2=>?_⟩
   cases e2
   exact⟨o,e,ex.2.1⟩
  ·obtain⟨o,_,_,_,e,ex,_⟩:=I.hok p _ hk
   refine⟨⟨o,e,ex.1⟩,fun a e2=>?_⟩
   cases e2
   exact⟨o,e,ex.2.1⟩
 | _=>exact False.elim ty
def SV(K:W.Frag)(T:String)(r:V->List V->Hp->VK->Prop)(to:TE)(t:TA):TE:=fun σ H Q=>to σ H fun x H1=>SH K T x H1/\t σ H1 fun xs H2=>r x xs H2 Q
variable {o e:Expr}{es:List Expr}{to:TE}{t:TA}{name:Str}{apos cpos:Pos}{T id:String}{r:V->List V->Hp->VK->Prop}
theorem so(pa:PlainAttrs T)(slot:Slot T name id)(hty:typeOf (.builtin id)=pure (.type "method_descriptor"))(hm:Sz X id r)(ho:PE X o to)(ha:PA X (e::es) t)
  (hbase:attributeBase o name X.env (eval o X.env)=eval o X.env:=by rfl)
  (hfew:((backTo cpos (starEach (e::es) X.env)).all (fun x=>!x.1)&&(backToKw cpos (keywordEach [] X.env)).all (fun x=>x.1.isSome)
   &&decide ((e::es).length+([]:List Keyword).length+(if ([]:List Keyword).isEmpty then 0 else 1) < 30))=true:=by rfl)
  (hline:(apos.endLine == cpos.line)=true:=by rfl) (hs:starEach (e::es) X.env=(false,eval e X.env)::starEach es X.env:=by rfl) (hplain:(backTo cpos (starEach es X.env)).any (·.1)=false:=by rfl) :
  PE X (.Call (.Attribute o name apos) (e::es) [] cpos) (SV X.K T r to t):=by
 intro pins s σ H Q I h
 refine wpAny_Call_method_late hbase hfew hline rfl (cF (ho pins s σ H _ I h) fun v s1 ⟨x,H1,I1,r1,ty,q1⟩=>?_)
 obtain⟨h1,h2⟩:=O0 I1 r1 ty
 refine⟨T,id,pa,slot,hty,h1,h2,?_⟩
 have hA:=ha cpos pins s1 σ H1 _ I1 q1
 rw[hs] at hA ⊢
 refine Calls.callWith_builtin (by show (false||(backTo cpos (starEach es X.env)).any (·.1))=false;rw[hplain]<;>rfl) (Calls.evalArgs_plain ?_)
 exact cF hA fun us s2 ⟨vs,H2,I2,r2,q2⟩=>hm pins s2 σ H2 x vs v us Q I2 r1 r2 q2
/- xs.append(e),list.index on a module's tuple .. are Sz facts of 06m -/
end
def Pc(X:Cx)(id:String)(r:V->List V->Hp->VK->Prop):Prop :=
 ∀ (pins:List (Addr×Obj)) (s:Shared) (σ:St) (H:Hp) (x:V) (xs:List V) (v:Value) (us:List Value) (Q:VK),Inv X pins σ H s->RelV x v->aE xs us->r x xs H Q ->
  wpAny (model X.prog X.w) X.A (call (.builtin id) (v::us)) (EP X pins σ Q) X.xe s
theorem aE.one:∀ {x:V}{us:List Value},aE [x] us->∃u,us=[u]/\RelV x u
 | _,_,.cons r .nil=>⟨_,rfl,r⟩
theorem aE.two:∀ {x y:V}{us:List Value},aE [x,y] us->∃u v,us=[u,v]/\RelV x u/\RelV y v
 | _,_,_,.cons r (.cons q .nil)=>⟨_,_,rfl,r,q⟩
theorem aE.reverse{xs:List V}{us:List Value}(h:aE xs us):aE xs.reverse us.reverse:=by
 induction h with
 | nil=>exact .nil
 | cons r t ih=>rw[vF,vF];exact aE.append ih (.cons r .nil)
theorem aE.rep{xs:List V}{us:List Value}(h:aE xs us):∀k:Nat,aE (List.replicate k xs).flatten (List.replicate k us).flatten
 | 0=>.nil
 | k+1=>by
  rw[xE,xE,qM,qM]
  exact aE.append h (aE.rep h k)
theorem foldl_rep(its:List Value):∀ (k:Nat) (acc:List Value),
  List.foldl (fun x1 x2=>x1++x2) acc.toArray (List.replicate k its.toArray)=(acc++(List.replicate k its).flatten).toArray
 | 0,acc=>by simp
 | k+1,acc=>by
  have e:acc.toArray++its.toArray=(acc++its).toArray:=by simp
  have e2:(acc++its)++(List.replicate k its).flatten=acc++(List.replicate (k+1) its).flatten:=by
   rw[xE,qM,List.append_assoc]
  rw[<- e2,<- foldl_rep its k (acc++its),<- e,xE,yI]
section
variable {X:Cx}{pins:List (Addr×Obj)}{σ:St}{H:Hp}{s:Shared}{l b:Addr}{xs ys zs:List V}
theorem Inv.lset{its its':List Value}{n:Nat}{f:Array Value->Array Value}{t':Nat}(I:Inv X pins σ H s)(hH:H l=some (.lst xs))
  (e:s.heap.get? l=some { cls:=.type "list",data:=.seq its.toArray n }) (hf:f its.toArray=its'.toArray) (hv:aE ys its') (hz:ys.length<=sizeLine) :
  Inv X pins σ (upd H l (.lst ys)) { s with heap:=s.heap.update l (Obj.mapSeq f),toks:=t' }:=by
 have q:=PySem.IsL.update e f
 rw[hf] at q
 refine I.write (x:=l) (e:=l) (by rw[hH];exact trivial) (.inl rfl) (fun b' u hb hu=>(xN s.heap (Obj.mapSeq f) (jN hb)).trans hu) ⟨_,q⟩ ?_
 exact⟨hz,its',_,hv,q⟩
theorem Inv.lnew{its:List Value}{t':Nat}(I:Inv X pins σ H s)(hv:aE ys its)(hz:ys.length<=sizeLine) :
  Inv X pins σ (upd H s.heap.objs.size (.lst ys)) { s with heap:=s.heap.push { cls:=.type "list",data:=.seq its.toArray },toks:=t' } :=
 I.laid (fun _ _ q=>zU _ q) (yM _) ⟨hz,its,0,hv,zX _ rfl⟩
theorem Inv.fresh(I:Inv X pins σ H s):H s.heap.objs.size=none:=I.hok.fresh (yM _)
theorem Inv.lstM(I:Inv X pins σ H s)(hH:H l=some (.lst xs)):xs.length<=sizeLine/\∃ (its:List Value) (n:Nat),aE xs its/\xs.length=its.length/\s.heap.get? l=some { cls:=.type "list",data:=.seq its.toArray n }:=by
 obtain⟨z,its,n,r,e⟩:=I.hok l _ hH
 exact⟨z,its,n,r,r.length,e⟩
theorem zr(h:n<=sizeLine):Builtin.List.listTooLong n=false:=by
 unfold Builtin.List.listTooLong
 exact zZ (by lia)
end
section
variable {X:Cx}
def Mp:V->List V->Hp->VK->Prop:=fun x vs H Q=>∃l xs y,x=.ref l/\vs=[y]/\H l=some (.lst xs)/\xs.length < sizeLine/\Q .non (upd H l (.lst (xs++[y])))
theorem va:Pc X "list.append" Mp:=by
 intro pins s σ H x vs v us Q I rx rv h
 obtain⟨l,xs,y,rfl,rfl,hH,hz,q⟩:=h
 cases rx
 obtain⟨u,rfl,ru⟩:=rv.one
 obtain⟨z,its,n,r,hl,e⟩:=I.lstM hH
 refine qX F.slot_list_append ⟨_,e,rfl⟩ F.entry_list_append (F.args_list_append_2 _ _) (PySem.list_append l its.toArray n u (by rw[zH];lia)) ⟨e,?_⟩
 refine⟨.non,_,I.lset (its':=its++[u]) hH e (by simp) (r.append (.cons ru .nil)) ?_,rfl,q⟩
 rw[zN,xC]
 lia
def Ku:V->List V->Hp->VK->Prop:=fun x vs H Q=>∃l b xs zs,x=.ref l/\vs=[.ref b]/\H l=some (.lst xs)/\H b=some (.lst zs)/\xs.length+zs.length<=sizeLine/\Q .non (upd H l (.lst (xs++zs)))
theorem FA:Pc X "list.extend" Ku:=by
 intro pins s σ H x vs v us Q I rx rv h
 obtain⟨l,b,xs,zs,rfl,rfl,hH,hB,hz,q⟩:=h
 cases rx
 obtain⟨u,rfl,ru⟩:=rv.one
 cases ru
 obtain⟨z,its,n,r,hl,e⟩:=I.lstM hH
 obtain⟨z2,its2,n2,r2,hl2,e2⟩:=I.lstM hB
 have hsz:its.toArray.size+its2.toArray.size<=sizeLine:=by rw[zH,zH];lia
 have hlong:¬ (!its.toArray.isEmpty&&Builtin.List.listTooLong (its.toArray.size+its2.toArray.size))=true:=by
  rw[zr hsz,vB]
  exact yZ
 refine qX F.slot_list_extend ⟨_,e,rfl⟩ F.entry_list_extend (F.args_list_extend_2 _ _)
  (AutoSeq1.list_extend_list_list_0 l its.toArray n b its2.toArray n2 hlong (by rw[zH];lia) (by lia)) ⟨e,e2,?_⟩
 refine⟨.non,_,I.lset (its':=its++its2) hH e (by simp) (r.append r2) ?_,rfl,q⟩
 rw[zN]
 lia
def RK:R2:=fun x y H Q=>∃l k xs,x=.ref l/\y=.int k/\H l=some (.lst xs)/\-(2 ^ 63)<=k/\k < 2 ^ 63/\xs.length * k.toNat<=sizeLine /\
 ∀p,H p=none->Q (.ref p) (upd H p (.lst (List.replicate k.toNat xs).flatten))
theorem len_rep{α:Type}(xs:List α)(k:Nat):(List.replicate k xs).flatten.length=k * xs.length:=by
 induction k with
 | zero=>simp
 | succ k ih=>rw[xE,qM,zN,ih,Nat.succ_mul,Nat.add_comm]
theorem Nk:hU X (binaryOp .Mult) RK:=by
 intro pins s σ H x y v u Q I rx ry h
 obtain⟨l,k,xs,rfl,rfl,hH,h1,h2,hz,q⟩:=h
 cases rx
 obtain⟨t,rfl⟩:=ry
 obtain⟨z,its,n,r,hl,e⟩:=I.lstM hH
 have hlen:its.toArray.size * k.toNat<=sizeLine:=by rw[zH,<- hl];exact hz
 have hcap:¬ its.toArray.size * k.toNat > (2 ^ 63 - 1) / 8:=by
  have:(sizeLine:Nat)<=(2 ^ 63 - 1) / 8:=by decide
  lia
 have hfit:¬ (!Builtin.List.listFitsIndex k)=true:=by
  rw[fitsIndex_both h1 h2]
  exact yZ
 have hlong:¬ Builtin.List.listTooLong (its.toArray.size * k.toNat)=true:=by
  rw[zr hlen]
  exact yZ
 have hnew:List.foldl (fun x1 x2=>x1++x2) #[] (List.replicate (if its.toArray.isEmpty=true then 0 else k.toNat) its.toArray)=(List.replicate k.toNat its).flatten.toArray:=by
  have f0:∀m:Nat,List.foldl (fun x1 x2=>x1++x2) #[] (List.replicate m its.toArray)=(List.replicate m its).flatten.toArray:=fun m=>by
   have:=foldl_rep its m []
   rw[xO] at this
   exact this
  rw[f0]
  cases its with
  | nil=>simp
  | cons a r'=>rw[yN (by simp)]
 refine wpAny_binaryOp_repeat_ref (T:="list") (U:="int") (by decide) ⟨_,e,rfl⟩ (fun s'=>wV s' k t) noFill_list_mul F.fills_int_mul wF repeat_list F.slot_int_index.lookup
  (qX wF (wV s k t) F.entry_int_rmul (F.args_int_rmul_2 _ _) (int___rmul___int_list k t l its.toArray n)
   ⟨e,rfl,⟨_,e,rfl⟩,qX F.slot_list_mul ⟨_,e,rfl⟩ F.entry_list_mul (F.args_list_mul_2 _ _) (AutoListH.list___mul___list_int_3 l its.toArray n k t hfit hcap hlong) ⟨e,?_⟩⟩)
 rw[hnew]
 exact⟨.ref _,_,I.lnew (t':=s.toks) (r.rep k.toNat) (by rw[len_rep,Nat.mul_comm];exact hz),rfl,q _ I.fresh⟩
end
section
variable {prog:Program}{w:World}{A:Around}{E:Value->Shared->Prop}{s:Shared}
end
section
variable {X:Cx}
end
end L2
namespace Att
open PySem PySem.W PySem.Calls PyProof.Rows
variable {P:Params}{h:Heap}{n:Nat}
theorem ints_of_wellAll:∀ (ns:List Int) (vs:List Value),WellAll P h vs (ns.map WData.int)->IntsAre vs ns:=by
 intro ns
 induction ns with
 | nil =>
  intro vs w
  rw[yU] at w
  cases w
  exact .nil
 | cons n ns ih =>
  intro vs w
  rw[zI] at w
  cases w with
  | cons a b =>
   cases a
   exact .cons _ _ (ih _ b)
theorem script_of{l:OpenLaw}(hn:l.most=some n){args:List WData}{vals:List Value}
  (hpre:l.row.toRowW.claim.pre args=true) (hwl:WellAll P h vals args) :
  ∃a vs ns,vals=[Value.ref a]/\args=[WData.list (ns.map WData.int)]/\h.get? a=some { cls:=.type "list",data:=.seq vs.toArray }/\IntsAre vs ns/\ns.length<=n:=by
 have hsh:WShape.hasAll [] args [.list .int]=true:=(pre_splitW hpre).1
 have hc:l.pre.holds [] { args:=args }=true:=(pre_splitW hpre).2
 obtain⟨d,r,rfl,h1,h2⟩:=hasAllW_cons hsh
 obtain rfl:=hasAllW_nil h2
 obtain⟨xs,rfl,h3⟩:=hasW_list h1
 obtain⟨ns,rfl⟩:=items_int h3
 have hlen:ns.length<=n:=by
  unfold OpenLaw.pre at hc
  have h4:(WTm.not (.lt (.lit (.int (n:Int))) (.len (.arg 0)))).holds [] { args:=[.list (ns.map .int)] }=true:=by
   have h4:=(holds_andW hc).1
   rw[hn] at h4
   exact h4
  have h5:=condW_of h4 (w_not (w_lt w_lit (w_len_list (w_arg rfl))))
  rw[zD] at h5
  refine Nat.le_of_not_lt fun q=>?_
  have q':(n:Int) < ((ns.length:Nat):Int):=by lia
  first
   | (rw[yA q'] at h5;exact absurd h5 (by decide))
   | (simp at h5;lia)
 cases hwl with
 | cons w1 w2 =>
  cases w2
  cases w1 with
  | list ho hall=>exact⟨_,_,ns,rfl,rfl,ho,ints_of_wellAll ns _ hall,hlen⟩
theorem post_true(l:OpenLaw)(args:List WData):l.row.toRowW.claim.post args (.bool true) args=true :=
 postW_of (r:=l.row.toRowW) (X:=(true == true))
  (show WShape.has [] (.bool true) .bool=true by first|rfl|decide|simp[WShape.has,WShape.arms,WShape.armsAll])
  (show (WTm.eq .res (.lit (.bool true))).value [] { args:=args,res:=some (.bool true),after:=args }=some (.bool (true == true)) from w_eq_bool (w_res rfl) w_lit) rfl
theorem attach_call{l:OpenLaw}{q:Program}{loose:List Str}{XP:(Str->Option Value)->Heap->Prop}{YP:World->Heap->Prop}{d:DefRec}
  (hn:l.most=some n) (hdf:d.params.defaults=[])
  (call:∀ (w:World) (s₀ s₁:Shared) (mg mb:Str->Option Value) (fa:Addr) (o:Obj) (pm cd doc:Value) (a:Addr) (vs:List Value) (ns:List Int),
   Ground q loose [] XP w s₀ mg mb s₁.heap->YP w s₁.heap ->
   s₁.heap.get? fa=some o->o.data=.func (docDef d.name d.params d.body d.scope pm cd doc)->s₁.heap.CodeRec cd d.name->mg d.name=some (.ref fa) ->
   s₁.heap.get? a=some { cls:=.type "list",data:=.seq vs.toArray }->IntsAre vs ns->ns.length<=n->s₁.gens=#[] ->
   codeAny (model l.prog w) callerA (.call (.ref fa) ⟨[.ref a],[]⟩) (fun r s'=>r=.ok (.ret (.bool true))/\OldK s₁.heap s'.heap/\s'.os=s₁.os/\AllBare s'.gens) s₁) :
  WalkO q loose XP YP l.row.toRowW d [] (fun f vs=>PySem.call f vs):=by
 intro w s₀ s₁ mg mb G Y fa o pm cd doc dV kV ho hd hcd hD hmg hg args vals as hpre hlay hrd hwl hlo
 obtain rfl:dV=.none:=Dflts.none hD hdf
 obtain rfl:kV=.none:=Dflts.noKw hD
 obtain⟨a,vs,ns,rfl,rfl,hobj,hints,hlen⟩:=script_of hn hpre hwl
 refine enter_call (jS (call w s₀ s₁ mg mb fa o pm cd doc a vs ns G Y ho (fd_plain hd) hcd hmg hobj hints hlen hg) fun r s' hq=>?_)
 obtain⟨rfl,h2,h3,h4⟩:=hq
 exact⟨.inl ⟨.bool true,.bool true,[],rfl,fun _=>rfl,.bool true,post_true l _,fun _=>⟨List.Pairwise.nil,fun _ hm=>(nomatch hm)⟩⟩,h2,h3,h4⟩
section
variable {prog:Program}{w:World}{A:Around}{E:Value->Shared->Prop}{s:Shared}{K:Frag}
end
end Att
namespace L2
open PySem PySem.Spec PyProof.Rows
variable {X:Cx}{x qual:Str}{f C:Addr}{B:Prop}{H H':Hp}{scope:Scope}{s:Shared}{Q:VK}{k:NameKind}{params:Arguments}{body:Expr}
theorem uI:∀ {vs:List Value}{ns:List Int},IntsAre vs ns->aE (ns.map V.int) vs
 | _,_,.nil=>.nil
 | _,_,.cons n t h=>.cons ⟨t,rfl⟩ (uI h)
abbrev Ko:FR:=fun _ _ _ _ _ _=>False
abbrev E0:XK:=fun _ _ _=>False
theorem Ra:fj Ko X E0:=fun _ _ _ _ _ _ _ h=>h.elim
structure Ie(K:W.Frag)(x qual:Str)(st:Stmt)(f:Addr)(fd:FuncData):Prop where
 ex:∃ (oc:Value) (od:Option Addr) (kV doc pm:Value) (an:Option Addr) (cdv ct:Value) (osl:Array (Option Value)),
  fd=W.fnOf x qual (gK st) (bB st) (aj st) .none kV doc pm an cdv ct/\K.lookup f=some ⟨oc,od,.func fd,osl⟩/\W.codeIn K cdv qual=true
 kp:W.keepIn K (.ref f)=true
section
variable {P:Program}{w:World}{K:W.Frag}{mg:Str->Option Value}{base:Heap}
theorem Ie.binds{st:Stmt}{fd:FuncData}{ps:List Str}(F:Ie K x qual st f fd)
  (h:∀ (kV doc pm:Value) (an:Option Addr) (cdv ct:Value) (us:List Value),us.length=ps.length->bindArgs (W.fnOf x qual (gK st) (bB st) (aj st) .none kV doc pm an cdv ct) ⟨us,[]⟩=pure (ps.zip us)):Binds K fd ps []:=by
 obtain⟨oc,od,kV,doc,pm,an,cdv,ct,osl,rfl,lk,hcd⟩:=F.ex
 exact .all (h kV doc pm an cdv ct)
theorem wc{st:Stmt}{oc:Value}{od an:Option Addr}{osl:Array (Option Value)}{kV doc pm cdv ct:Value}(l:K.lookup f=some ⟨oc,od,.func (W.fnOf x qual (gK st) (bB st) (aj st) .none kV doc pm an cdv ct),osl⟩)
  (c:W.codeIn K cdv qual=true) (k:W.keepIn K (.ref f)=true):Ie K x qual st f (W.fnOf x qual (gK st) (bB st) (aj st) .none kV doc pm an cdv ct):=⟨⟨oc,od,kV,doc,pm,an,cdv,ct,osl,rfl,l,c⟩,k⟩
end
section
variable {X:Cx}
end
theorem pI{A B:Prop}(h:B):if false=true then A else B:=by
 rw[yN yZ]
 exact h
theorem tY{A B:Prop}(h:A):if true=true then A else B:=by
 rw[yL rfl]
 exact h
def aL(H H':Hp):Prop:=∀b o,H b=some o->H' b=some o
theorem aL.refl(H:Hp):aL H H:=fun _ _ h=>h
theorem aL.trans{H H1 H2:Hp}(a:aL H H1)(b:aL H1 H2):aL H H2:=fun c o h=>b c o (a c o h)
theorem aL.free(e:aL H H'){l:Addr}(h:H' l=Option.none):H l=Option.none:=by
 cases q:H l with
 | none=>rfl
 | some o =>
  rw[e l o q] at h
  cases h
theorem aL.seq{K:W.Frag}{a:Addr}{xs:List V}(e:aL H H')(h:ig K H a xs):ig K H' a xs:=by
 rcases h with (h|⟨o,h⟩)|h
 ·exact .inl (.inl (e _ _ h))
 ·exact .inl (.inr ⟨o,e _ _ h⟩)
 ·exact .inr h
theorem cf:∀ (names:List (Str×NameKind)) (n:Nat) (acc:List (Str×Addr)),cellsFrom n names acc=cellsFrom n names []++acc
 | [],_,_=>rfl
 | (name,kind)::r,n,acc=>by
  unfold cellsFrom
  split
  ·rw[cf r (n+1) ((name,n)::acc),cf r (n+1) [(name,n)]]
   simp
  ·exact cf r n acc
theorem js{α:Type}{x:Str}{c:α}:∀ {l m:List (Str×α)},(l++m).lookup x=some c->l.lookup x=some c\/(l.lookup x=none/\m.lookup x=some c)
 | [],_,h=>.inr ⟨rfl,h⟩
 | (k,v)::r,m,h=>by
  have ih:=@js α x c r m
  rw[xF,yB] at h
  rw[yB]
  cases e:x == k with
  | true=>rw[e] at h;exact .inl h
  | false=>rw[e] at h;exact ih h
theorem ju{α:Type}{x:Str}{c:α}:∀ {l m:List (Str×α)},l.lookup x=some c->(l++m).lookup x=some c
 | [],_,h=>by cases h
 | (k,v)::r,m,h=>by
  have ih:=@ju α x c r m
  rw[yB] at h
  rw[xF,yB]
  cases e:x == k with
  | true=>rw[e] at h;exact h
  | false=>rw[e] at h;exact ih h
theorem iH{α:Type}{x:Str}:∀ {l m:List (Str×α)},l.lookup x=none->(l++m).lookup x=m.lookup x
 | [],_,_=>rfl
 | (k,v)::r,m,h=>by
  have ih:=@iH α x r m
  rw[yB] at h
  rw[xF,yB]
  cases e:x == k with
  | true=>rw[e] at h;cases h
  | false=>rw[e] at h;exact ih h
theorem fX:∀ (names:List (Str×NameKind)) (n:Nat) (x:Str) (c:Addr),(x,c)∈cellsFrom n names []->(x,NameKind.cell)∈names
 | [],_,_,_,h=>by cases h
 | (name,kind)::r,n,x,c,h=>by
  unfold cellsFrom at h
  split at h
  ·rename_i hk
   rw[cf] at h
   rcases List.mem_append.mp h with h|h
   ·exact zC _ (fX r _ x c h)
   ·have:(x,c)=(name,n):=by simpa using h
    cases this
    have:kind=.cell:=by simpa using hk
    subst this
    exact zE
  ·exact zC _ (fX r n x c h)
def eB(env:Env):List (Str×NameKind)->List (Str×Addr)->List (Str×Addr)
 | [],acc=>acc
 | (n,k)::r,acc=>if k == .free then eB env r ((n,(env.cells.lookup n).getD 0)::acc) else eB env r acc
theorem mf(env:Env):∀ (names:List (Str×NameKind)) (acc:List (Str×Addr)),(∀x∈names,x.2=.free->∃c,env.cells.lookup x.1=some c) ->
  (forIn names acc (fun (p:Str×NameKind) (cs:List (Str×Addr))=>(if p.2 == .free then (do let a <- cellOf env p.1;pure (.yield ((p.1,a)::cs))) else pure (.yield cs):Sem (ForInStep (List (Str×Addr))))))=pure (eB env names acc)
 | [],acc,_=>rfl
 | (n,k)::r,acc,h=>by
  rw[List.forIn_cons]
  have hr:=fun x hx=>h x (zC _ hx)
  unfold eB
  by_cases hk:k=.free
  ·obtain⟨c,hc⟩:=h (n,k) zE hk
   subst hk
   have e1:cellOf env n=pure c:=by
    have hc':env.cells.lookup n=some c:=hc
    unfold cellOf;rw[hc']
   have hc':env.cells.lookup n=some c:=hc
   simp only[beq_self_eq_true,xH,e1,pure_bind,hc',qG]
   exact mf env r _ hr
  ·have hb:(k == NameKind.free)=false:=by simpa using hk
   simp only[hb,yO,qP,pure_bind]
   exact mf env r _ hr
theorem mF{env:Env}(h:∀x∈scope.names,x.2=.free->∃c,env.cells.lookup x.1=some c):closureFor scope env=pure (eB env scope.names []):=by
 have:=mf env scope.names [] h
 unfold closureFor
 exact (bind_pure _).trans this
theorem lG{env:Env}:∀ {names:List (Str×NameKind)}{acc:List (Str×Addr)},(∀x∈names,x.2=.free->∃c,env.cells.lookup x.1=some c)->(∀x c,(x,c)∈acc->env.cells.lookup x=some c) ->
  ∀x c,(x,c)∈eB env names acc->env.cells.lookup x=some c
 | [],acc,_,ha,x,c,hm=>ha x c hm
 | (n,k)::r,acc,h,ha,x,c,hm=>by
  unfold eB at hm
  have hr:=fun x hx=>h x (zC _ hx)
  split at hm
  ·rename_i hk
   have hk':k=.free:=by simpa using hk
   obtain⟨c',hc⟩:=h (n,k) zE hk'
   have hc:env.cells.lookup n=some c':=hc
   refine lG hr (fun y d hy=>?_) x c hm
   rcases List.mem_cons.mp hy with e|hy
   ·cases e;rw[hc];rfl
   ·exact ha y d hy
  ·exact lG hr ha x c hm
theorem f7{env:Env}:∀ {names:List (Str×NameKind)}{acc:List (Str×Addr)}{x:Str},(names.lookup x=some .free\/∃c,acc.lookup x=some c)->∃c,(eB env names acc).lookup x=some c
 | [],acc,x,h=>by
  rcases h with h|h
  ·cases h
  ·exact h
 | (n,k)::r,acc,x,h=>by
  unfold eB
  split
  ·rename_i hk
   refine f7 ?_
   rcases h with h|⟨c,h⟩
   ·rw[yB] at h
    cases e:x == n with
    | true=>exact .inr ⟨_,by rw[yB,e]⟩
    | false=>rw[e] at h;exact .inl h
   ·refine .inr ?_
    rw[yB]
    cases e:x == n with
    | true=>exact⟨_,rfl⟩
    | false=>exact⟨c,h⟩
  ·rename_i hk
   refine f7 ?_
   rcases h with h|h
   ·rw[yB] at h
    cases e:x == n with
    | true =>
     rw[e] at h
     cases h
     exact absurd rfl hk
    | false=>rw[e] at h;exact .inl h
   ·exact .inr h
theorem mU{env:Env}:∀ {names:List (Str×NameKind)}{x:Str}{k:NameKind},names.lookup x=some k ->
  (names.map fun (n,k)=>if (k == NameKind.free&&env.scope.kind == .function&&env.kindOf n == some .cell) then (n,NameKind.cell) else (n,k)).lookup x=some (if (k == NameKind.free&&env.scope.kind == .function&&env.kindOf x == some .cell) then NameKind.cell else k)
 | [],_,_,h=>by cases h
 | (n,k)::r,x,k',h=>by
  have ih:=@mU env r x k'
  rw[zI]
  dsimp only
  cases hx:x == n with
  | true =>
   have e:x=n:=by simpa using hx
   subst e
   rw[yB,hx] at h
   cases h
   split<;>simp[yB, *]
  | false =>
   rw[yB,hx] at h
   have ih:=ih h
   split
   ·rw[yB,hx];exact ih
   ·rw[yB,hx];exact ih
theorem oU{env:Env}:∀ {names:List (Str×NameKind)}{x:Str},names.lookup x=none ->
  (names.map fun (n,k)=>if (k == NameKind.free&&env.scope.kind == .function&&env.kindOf n == some .cell) then (n,NameKind.cell) else (n,k)).lookup x=none
 | [],_,h=>rfl
 | (n,k)::r,x,h=>by
  have ih:=@oU env r x
  rw[zI]
  dsimp only
  cases hx:x == n with
  | true=>rw[yB,hx] at h;cases h
  | false =>
   rw[yB,hx] at h
   split
   ·rw[yB,hx];exact ih h
   ·rw[yB,hx];exact ih h
def eO(X:Cx)(scope:Scope)(C:Addr):Env :=
 { scope:=relabel scope X.env,locals:=C,globals:=X.env.globals,cells:=cellsFrom (C+1) scope.names (eB X.env scope.names []),qual:=X.env.qual,func:=none,code:=X.env.code,frame:=X.env.frame,builtins:=X.env.builtins }
def ba(X:Cx)(scope:Scope)(N:List Str)(fp:List Addr)(s:Shared)(H:Hp):Cx :=
 { X with N:=N,s₀:=s,H₀:=H,env:=eO X scope s.heap.objs.size,outer:=X.stack,ex:=fp,fn:=fun x=>decide (scope.names.lookup x=some .cell),pn:=[],xe:=fun _ _=>False }
theorem C4{M:Model}{A:Around}{E:Value->Shared->Prop}{globals:Addr}{cl:List (Str×Addr)}{qual:Str}{env:Env}{Q:Env->Shared->Prop}
  (hQ:∀h',h'.Ns s.heap.objs.size (fun _=>none)->(∀b o,s.heap.get? b=some o->h'.get? b=some o)->CellsOk h' (s.heap.objs.size+1) (cellsFrom (s.heap.objs.size+1) scope.names []) ->
   Q { scope:=scope,locals:=s.heap.objs.size,globals:=globals,cells:=cellsFrom (s.heap.objs.size+1) scope.names cl,qual:=qual,func:=none,code:=env.code,frame:=env.frame,builtins:=env.builtins } { s with heap:=h' }) :
  wpAny M A (newFunctionEnv scope globals cl [] qual none .none (some env)) Q E s:=by
 simp only[newFunctionEnv,Option.isSome_some,xH]
 refine zV (wpAny_alloc ?_)
 refine zV (wpAny_layCells _ (fun name kind cells=>by cases hkc:kind == NameKind.cell<;>simp[hkc]) _ _ _ _ ?_)
 have ok:=cellsFrom_ok scope.names (s.heap.push { cls:=.type "dict",data:=.dict #[] }) (s.heap.objs.size+1) [] ⟨fun _ _ hm=>(nomatch hm),List.Pairwise.nil⟩ (by rw[xJ];exact yM _)
 rw[xJ] at ok
 rw[show ({ s with heap:=s.heap.push { cls:=.type "dict",data:=.dict #[] } }:Shared).heap.objs.size=s.heap.objs.size+1 from xJ ..]
 rw[List.forIn_nil]
 refine zV (zW (zW ?_))
 exact hQ _ ((Heap.Ns.new s.heap (.type "dict")).keeps (pushCells_keeps _ _)) (fun b o e=>pushCells_keeps _ _ b o (zU _ e)) ok
section
variable {X:Cx}{pins:List (Addr×Obj)}{σ σ':St}{H:Hp}{s:Shared}{fp:List Addr}{scope:Scope}{N:List Str}{h4:Heap}
theorem k4(ok:X.Ok)(hfree:∀x∈scope.names,x.2=.free->X.env.kindOf x.1=some .cell\/X.env.kindOf x.1=some .free):∀x∈scope.names,x.2=.free->∃c,X.env.cells.lookup x.1=some c :=
 fun x hx hk=>ok.has x.1 (hfree x hx hk)
theorem oM(h:scope.names.lookup x=some k):(eO X scope C).kindOf x=some k\/(k=.free/\(eO X scope C).kindOf x=some .cell):=by
 have q:=mU (env:=X.env) h
 have q':(eO X scope C).kindOf x=some (if (k == NameKind.free&&X.env.scope.kind == .function&&X.env.kindOf x == some .cell) then NameKind.cell else k):=q
 rw[q']
 split
 ·rename_i hc
  have:k=.free:=by
   simp only[zF,vQ] at hc
   exact hc.1.1
  exact .inr ⟨this,rfl⟩
 ·exact .inl rfl
theorem lW(h:(eO X scope C).kindOf x=some k):scope.names.lookup x=some k\/(k=.cell/\scope.names.lookup x=some .free):=by
 cases e:scope.names.lookup x with
 | none =>
  have q:(eO X scope C).kindOf x=none:=oU (env:=X.env) e
  rw[q] at h;cases h
 | some k' =>
  rcases oM (X:=X) (C:=C) e with q|⟨q,q'⟩
  ·rw[q] at h;cases h;exact .inl rfl
  ·rw[q'] at h;cases h;subst q;exact .inr ⟨rfl,rfl⟩
theorem HM(I:Inv X pins σ H s)(hf:∀b∈fp,cC X pins H b)(hfl:∀b∈fp,b < s.heap.objs.size)(hk:scope.kind=.function)
  (hfree:∀x∈scope.names,x.2=.free->X.env.kindOf x.1=some .cell\/X.env.kindOf x.1=some .free)
  (hns:h4.Ns s.heap.objs.size (fun _=>none)) (hkeep:∀b o,s.heap.get? b=some o->h4.get? b=some o) (hco:CellsOk h4 (s.heap.objs.size+1) (cellsFrom (s.heap.objs.size+1) scope.names []))
  (hdup:∀ {x:Str},(x,NameKind.cell)∈scope.names->(x,NameKind.free)∈scope.names->False) (hcap:∀ (i:Nat) (x:Str) (v:V),N[i]?=some x->σ'[i]?=some (some v)->scope.names.lookup x=some .free/\∃j:Nat,X.N[j]?=some x/\σ[j]?=some (some v)) (hlen:σ'.length=N.length) (t':Nat) :
  Inv (ba X scope N fp s H) [] σ' H { s with heap:=h4,toks:=t' }:=by
 have hcl:=k4 I.ok hfree
 have clx:∀x c,(eB X.env scope.names []).lookup x=some c->X.env.cells.lookup x=some c:=fun x c e=>lG hcl (fun _ _ z=>by cases z) x c (mem_of_lookup e)
 have look:∀x c,(eO X scope s.heap.objs.size).cells.lookup x=some c->(x,c)∈cellsFrom (s.heap.objs.size+1) scope.names []\/X.env.cells.lookup x=some c:=fun x c e=>by
  have e:(cellsFrom (s.heap.objs.size+1) scope.names (eB X.env scope.names [])).lookup x=some c:=e
  rw[cf] at e
  rcases js e with q|⟨_,q⟩
  ·exact .inl (mem_of_lookup q)
  ·exact .inr (clx x c q)
 have old:∀x c,X.env.cells.lookup x=some c->c < s.heap.objs.size:=fun x c e=>let ⟨_,q⟩:=I.cell x c e;q.lt
 have new:∀x c,(x,c)∈cellsFrom (s.heap.objs.size+1) scope.names []->s.heap.objs.size < c:=fun x c e=>(hco.empty x c e).2
 refine⟨⟨I.ok.mod,?_,I.ok.glob,I.ok.blt,yM _,?_,?_,?_,I.ok.hd,I.ok.frames,.inl rfl,?_,I.bs,yD I.ok.bsz I.sz,?_,?_,I.stack,I.stkFree⟩,rfl,I.bare,Un.kept hkeep,⟨_,hns,?_⟩,?_,I.hok.fresh (yM _),?_,
  fun p hp=>absurd (show p∈([]:List (Addr×Obj)) from hp) (by simp),I.hok.kept hkeep,hlen⟩
 ·show (relabel scope X.env).kind=_
  exact hk
 ·intro x y c e1 e2
  rcases look x c e1 with a|a<;>rcases look y c e2 with b|b
  ·exact name_of_addr hco.apart a b
  ·exact absurd (Ze (new x c a) (old y c b)) (qE _)
  ·exact absurd (Ze (new y c b) (old x c a)) (qE _)
  ·exact I.ok.inj x y c a b
 ·intro x hx
  show ∃c,(cellsFrom (s.heap.objs.size+1) scope.names (eB X.env scope.names [])).lookup x=some c
  refine Option.isSome_iff_exists.mp (W.cellsFrom_some _ _ _ ?_)
  rcases hx with hx|hx
  ·rcases lW hx with q|⟨_,q⟩
   ·exact .inl q
   ·exact .inr (Option.isSome_iff_exists.mpr (f7 (.inl q)))
  ·rcases lW hx with q|⟨q,_⟩
   ·exact .inr (Option.isSome_iff_exists.mpr (f7 (.inl q)))
   ·cases q
 ·intro x c hfn e
  have hfn:scope.names.lookup x=some .cell:=yQ hfn
  have e:(cellsFrom (s.heap.objs.size+1) scope.names (eB X.env scope.names [])).lookup x=some c:=e
  obtain⟨c',hc'⟩:=r0 (n:=s.heap.objs.size+1) hfn
  rw[cf,ju hc'] at e
  cases e
  exact jT (new x c (mem_of_lookup hc'))
 ·intro b hb
  refine⟨yR (hfl b hb),fun x c e z=>?_⟩
  rcases look x c e with a|a
  ·exact absurd (Ze (new x c a) (by rw[z];exact hfl b hb)) (qE _)
  ·exact (hf b hb).2.2.2.2.1 x c a z
 ·intro b o e hb
  obtain⟨f0,f1,f2,f3,f4,f5⟩:=hf b hb
  rcases f3 with z|z
  ·exact I.ok.noex b o e z
  ·exact absurd (zP (zY (I.ok.bs b o e).1) z) (qE _)
 ·intro b hb hz
  obtain⟨f0,f1,f2,f3,f4,f5⟩:=hf b hb
  rcases List.mem_cons.mp (I.stkSub b hz) with z|z
  ·exact f1 z
  ·exact f2 z
 ·intro i x v e1 e2 e3
  obtain⟨hfr,j,hj,hv⟩:=hcap i x v e1 e2
  have hm:(x,NameKind.free)∈scope.names:=mem_of_lookup hfr
  obtain⟨m,hn,hl⟩:=I.loc
  have kx:=hfree _ hm rfl
  obtain⟨u,ru,lk⟩:=hl j x v hj hv (kx.elim (fun k=>.inr (.inl k)) fun k=>.inr (.inr k))
  refine⟨u,ru,.inr ⟨?_,?_⟩⟩
  ·rcases oM (X:=X) (C:=s.heap.objs.size) hfr with q|⟨_,q⟩
   ·exact .inr q
   ·exact .inl q
  ·rcases lk with ⟨k,_⟩|⟨_,c,ec,ic⟩
   ·have k:X.env.kindOf x=some .local:=k
    rcases kx with k'|k'<;>· rw[k] at k';cases k'
   ·obtain⟨c',hc'⟩:=f7 (env:=X.env) (acc:=[]) (.inl hfr)
    have e':=clx x c' hc'
    rw[ec] at e'
    cases e'
    refine⟨c,?_,ic.keeps hkeep⟩
    show (cellsFrom (s.heap.objs.size+1) scope.names (eB X.env scope.names [])).lookup x=some c
    rw[cf]
    cases eo:(cellsFrom (s.heap.objs.size+1) scope.names []).lookup x with
    | none=>rw[iH eo];exact hc'
    | some d =>
     have hcm:=fX _ _ _ _ (mem_of_lookup eo)
     exact (hdup hcm hm).elim
 ·intro x c e
  rcases look x c e with a|a
  ·exact⟨_,(hco.empty x c a).1⟩
  ·obtain⟨v,q⟩:=I.cell x c a
   exact⟨v,q.keeps hkeep⟩
 ·intro x c e
  rcases look x c e with a|a
  ·exact I.hok.fresh (jT (new x c a))
  ·exact I.freeC x c a
end
abbrev Bg(ifs:List Expr)(env:Env):Sem Bool:=forIn ifs true fun c r=>if r=true then do let ok <- isTrue c env (eval c env);pure (ForInStep.yield ok) else pure (ForInStep.yield r)
def PL(X:Cx)(ifs:List Expr)(t:TT):Prop :=
 ∀ (pins:List (Addr×Obj)) (s:Shared) (σ:St) (H:Hp) (Q:Bool->Hp->Prop),Inv X pins σ H s->t σ H Q->wpAny (model X.prog X.w) X.A (Bg ifs X.env) (TP X pins σ Q) X.xe s
theorem LV:PL X [] (fun _ H Q=>Q true H):=fun _ _ _ H _ I h=>wpAny_tests_nil ⟨H,I,h⟩
theorem Mc{c:Expr}{t:TT}(h:PT X c t):PL X [c] t:=fun pins s σ H Q I q=>wpAny_tests_one (h pins s σ H Q I q)
theorem yr{prog:Program}{w:World}{A:Around}{R:Result->Shared->Prop}{elt target iter:Expr}{ifs:List Expr}{scope:Scope}{pos:Pos}{it acc:Value}{env:Env}(I:Nat->Shared->Prop)
  (turn:∀n s,I n s->wpAny (model prog w) A (pyNext it) (fun r s₁=>match r with
   | none=>R (.ok .next) s₁
   | some v=>wpAny (model prog w) A (letOwnedTupleGo target it v) (fun _ s₁'=>wpAny (model prog w) A (assign target env v) (fun _ s₂ =>
     wpAny (model prog w) A (Bg ifs env) (fun ok s₃ =>
      if ok=true then wpAny (model prog w) A (eval elt env) (fun x s₄ =>
       wpAny (model prog w) A (call (.builtin "list.append") [acc,x]) (fun _ s₅=>∃m,m < n/\I m s₅) (fun _ _=>False) s₄) (fun _ _=>False) s₃
      else ∃m,m < n/\I m s₃) (fun _ _=>False) s₂) (fun _ _=>False) s₁') (fun _ _=>False) s₁) (fun _ _=>False) s)
  (n:Nat) (h:I n s) :
  codeAny (model prog w) A (.compLoop (.ListComp elt [⟨target,iter,ifs,0⟩] scope pos) 0 it acc env) R s:=by
 refine codeAny_loop rfl I (fun n s hI=>?_) n h
 show wpAny _ A ((compTurn (.ListComp elt [⟨target,iter,ifs,0⟩] scope pos) 0 it acc env).onRaise (fun x=>do noteFrame x env;theTreesLotGoes x)) _ _ s
 refine wpAny_noted ?_
 rw[compTurn_list]
 refine zV (vH (zV (xA (turn n s hI) (fun r s₁ h₁=>?_) fun _ _ h'=>h'.elim)))
 cases r with
 | none=>exact zW h₁
 | some v =>
  refine zV (xA h₁ (fun _ s₁' h₁'=>?_) fun _ _ h'=>h'.elim)
  refine zV (xA h₁' (fun _ s₂ h₂=>zV (xA h₂ (fun ok s₃ h₃=>?_) fun _ _ h'=>h'.elim)) fun _ _ h'=>h'.elim)
  cases ok with
  | false=>exact zW ⟨rfl,h₃⟩
  | true =>
   exact zV (zV (xA h₃ (fun x s₄ h₄=>zV (xA h₄ (fun _ s₅ h₅=>zW (zW ⟨rfl,h₅⟩)) fun _ _ h'=>h'.elim)) fun _ _ h'=>h'.elim))
def DK(X:Cx)(pins:List (Addr×Obj))(σ:St)(Q:VK)(acc:Value)(C:Addr)(r:Result)(s5:Shared):Prop :=
 ∃ (D:Addr) (H5:Hp) (m:Str->Option Value),acc=.ref D/\r=.ok .next/\Inv X pins σ H5 s5/\s5.heap.Ns C m/\cC X pins H5 C/\Q (.ref D) H5
def HN(J:It)(g:TG)(tt:TT)(te:TE)(D:Addr)(σ0:St)(H0:Hp)(Q:VK):Prop :=
 ∃W:Nat->Nat->St->Hp->Prop,(∃m,W 0 m σ0 H0)/\∀i m σ H,W i m σ H ->
  (J.stop i H/\Q (.ref D) H)\/(J.go i H/\∀x H',J.yld i H x H'->g x σ H' fun σ2 H2=>tt σ2 H2 fun b H3 =>
   if b=true then te σ2 H3 fun v H4=>∃ys,H4 D=some (.lst ys)/\ys.length < sizeLine/\∃m',m' < m/\W (i+1) m' σ2 (upd H4 D (.lst (ys++[v])))
   else ∃m',m' < m/\W (i+1) m' σ2 H3)
section
variable {X:Cx}{pins:List (Addr×Obj)}{σ σ':St}{H:Hp}{s:Shared}{scope:Scope}{N:List Str}
 {tg iter elt:Expr}{ifs:List Expr}{pos:Pos}{g:TG}{tt:TT}{te:TE}
theorem u3{J:It}{fp:List Addr}{it:Addr}{tn:Nat->Heap->Prop}(hc:X.calm=true)(I:Inv X pins σ H s)(T:Turn X.prog X.w X.K tg J fp it tn)(st:tn 0 s.heap)(hf:∀b∈fp,cC X pins H b)(hk:scope.kind=.function)
  (hfree:∀x∈scope.names,x.2=.free->X.env.kindOf x.1=some .cell\/X.env.kindOf x.1=some .free) (hdup:∀ {x:Str},(x,NameKind.cell)∈scope.names->(x,NameKind.free)∈scope.names->False)
  (hcap:∀ (i:Nat) (x:Str) (v:V),N[i]?=some x->σ'[i]?=some (some v)->scope.names.lookup x=some .free/\∃j:Nat,X.N[j]?=some x/\σ[j]?=some (some v)) (hlen:σ'.length=N.length)
  (hY:∀fp s H,PG (ba X scope N fp s H) tg g/\PL (ba X scope N fp s H) ifs tt/\PE (ba X scope N fp s H) elt te)
  (hrd:∀D,H D=none->HN J g tt te D σ' (upd H D (.lst [])) Q) {E:Value->Shared->Prop} :
  wpAny (model X.prog X.w) X.A (newList []) (fun acc s₃=>wpAny (model X.prog X.w) X.A (newFunctionEnv scope X.env.globals (eB X.env scope.names []) [] X.env.qual none .none (some X.env)) (fun cenv s₄ =>
   codeAny (model X.prog X.w) X.A (.compStart (.ListComp elt [⟨tg,iter,ifs,0⟩] scope pos) 0 (.ref it) acc { cenv with scope:=relabel scope X.env }) (DK X pins σ Q acc cenv.locals) s₄) E s₃) E s:=by
 refine qL ?_
 have hfl:∀b∈fp,b < s.heap.objs.size:=fun b hb=>let ⟨o,e,_⟩:=T.obj _ _ st b hb;zY e
 have I3:=I.lnew (ys:=[]) (its:=[]) (t':=s.toks) .nil (xV _)
 have hD:H s.heap.objs.size=none:=I.fresh
 obtain⟨W,⟨m0,w0⟩,turn⟩:=hrd _ hD
 generalize e3:({ s with heap:=s.heap.push { cls:=.type "list",data:=.seq ([]:List Value).toArray },toks:=s.toks }:Shared)=s3 at I3
 have e3h:s3.heap=s.heap.push { cls:=.type "list",data:=.seq ([]:List Value).toArray }:=by rw[<- e3]
 generalize hH3:upd H s.heap.objs.size (.lst [])=H3 at I3 w0 turn
 have hlt:s.heap.objs.size < s3.heap.objs.size:=by rw[e3h,xJ];exact kR _
 have hk3:∀b o,s.heap.get? b=some o->s3.heap.get? b=some o:=fun b o e=>by rw[e3h];exact zU _ e
 generalize s.heap.objs.size=D at *
 have f3:∀b∈fp,cC X pins H3 b:=fun b hb=>by
  obtain⟨f0,f⟩:=hf b hb
  refine⟨?_,f⟩
  rw[<- hH3,ay (yR (hfl b hb))]
  exact f0
 have st3:tn 0 s3.heap:=T.keep _ _ _ st fun b _ o e=>hk3 b o e
 refine C4 fun h4 hns hkp hco=>?_
 dsimp only
 have I4:=HM (N:=N) (σ':=σ') (fp:=fp) I3 f3 (fun b hb=>Ze (hfl b hb) hlt) hk hfree hns hkp hco hdup hcap hlen s3.toks
 have fC:∀H',H' s3.heap.objs.size=none->cC X pins H' s3.heap.objs.size:=fun H' hn=>I3.fpOk (yM _) hn
 obtain⟨hg,htt,hte⟩:=hY fp s3 H3
 have efp:∀b∈fp,∀H':Hp,H' b=none->cC (ba X scope N fp s3 H3) [] H' b:=fun b hb H' hn=>by
  refine⟨hn,(I4.ok.exf b hb).1,I4.ok.exfs b hb,.inl hb,(I4.ok.exf b hb).2,fun p hp=>?_⟩
  cases hp
 have loop:codeAny (model X.prog X.w) X.A (.compLoop (.ListComp elt [⟨tg,iter,ifs,0⟩] scope pos) 0 (.ref it) (.ref D) (eO X scope s3.heap.objs.size)) (DK X pins σ Q (.ref D) s3.heap.objs.size) { s3 with heap:=h4 }:=by
  refine yr (fun n s'=>∃i σ' H',Inv (ba X scope N fp s3 H3) [] σ' H' s'/\tn i s'.heap/\(∀b∈fp,H' b=none)/\W i n σ' H') ?_ m0
   ⟨0,σ',H3,I4,T.keep _ _ _ st3 fun b _ o e=>hkp b o e,fun b hb=>(f3 b hb).1,w0⟩
  rintro n s5 ⟨i,σ5,H5,I5,st5,fr5,w5⟩
  rcases turn i n σ5 H5 w5 with ⟨stop,q⟩|⟨go,step⟩
  ·refine cF (T.done (ba X scope N fp s3 H3) rfl rfl rfl hc i [] s5 σ5 H5 _ I5 (fun b hb=>efp b hb H5 (fr5 b hb)) st5 stop) fun r s6 ⟨hr,I6⟩=>?_
   subst hr
   obtain⟨m,hn6,_⟩:=I6.loc
   refine⟨D,H5,m,rfl,rfl,I3.call' I6.os I6.base I6.hok I6.bare (fun b hb=>?_),hn6,fC H5 I6.free,q⟩
   obtain⟨f0,f1,f2,f4,f5,f6⟩:=f3 b hb
   exact⟨f4,f1,f5,f6⟩
  ·refine cF (T.item (ba X scope N fp s3 H3) rfl rfl rfl hc i [] s5 σ5 H5 _ I5 (fun b hb=>efp b hb H5 (fr5 b hb)) st5 go) fun r s6 ⟨u,hr,h6⟩=>?_
   subst hr
   refine cF h6 fun _ s7 ⟨x,H7,I7,r7,y7,st7,fr7⟩=>?_
   have I7':=I7.pinned (fun b hb=>efp b hb H7 (fr7 b hb)) (T.obj _ _ st7)
   have again:∀ {pl:List (Addr×Obj)}{σ9:St}{H9:Hp}{s9:Shared}{n':Nat},Inv (ba X scope N fp s3 H3) ([]++oz fp s7.heap) σ9 H9 s9->W (i+1) n' σ9 H9->∃i σ' H',Inv (ba X scope N fp s3 H3) [] σ' H' s9/\tn i s9.heap/\(∀b∈fp,H' b=none)/\W i n' σ' H':=fun {pl σ9 H9 s9 n'} I9 w9=>by
    refine⟨i+1,σ9,H9,I9.unpinned,T.keep _ _ _ st7 fun b hb o e=>(I9.pin (b,o) (yE _ (yE _ (dE hb e)))).1,fun b hb=>?_,w9⟩
    obtain⟨o,e,d⟩:=T.obj _ _ st7 b hb
    exact (I9.pin (b,o) (yE _ (yE _ (dE hb e)))).2.1
   refine cF (hg _ s7 σ5 H7 x u _ I7' r7 (step x H7 y7)) fun _ s8 ⟨σ8,H8,I8,q8⟩=>?_
   refine cF (htt _ s8 σ8 H8 _ I8 q8) fun ok s9 ⟨H9,I9,q9⟩=>?_
   cases ok with
   | false =>
    rw[yN (by decide)] at q9
    rw[yN (by decide)]
    obtain⟨m',hm,w9⟩:=q9
    exact⟨m',hm,again (pl:=[]) I9 w9⟩
   | true =>
    rw[yL rfl] at q9
    rw[yL rfl]
    refine cF (hte _ s9 σ8 H9 _ I9 q9) fun y s10 ⟨v,H10,I10,r10,ys,hD10,hz,m',hm,w10⟩=>?_
    refine cF (va (X:=ba X scope N fp s3 H3) _ s10 σ8 H10 (.ref D) [v] (.ref D) [y] (fun _ H'=>W (i+1) m' σ8 H') I10 rfl (.cons r10 .nil) ⟨D,ys,v,rfl,rfl,hD10,hz,w10⟩) fun _ s11 ⟨_,H11,I11,_,w11⟩=>?_
    exact⟨m',hm,again (pl:=[]) I11 w11⟩
 exact codeAny_compStart_list loop (T.self _ 0 _ _ _ (T.keep _ _ _ st3 fun b _ o e=>hkp b o e) loop)
end
def Hv(wi:TI)(g:TG)(tt:TT)(te:TE)(caps:St->St):TE:=fun σ H Q=>wi σ H fun J H1=>∀D,H1 D=none->HN J g tt te D (caps σ) (upd H1 D (.lst [])) Q
structure jg(X:Cx)(scope:Scope)(N:List Str)(caps:St->St):Prop where
 kind:scope.kind=.function
 free:∀x∈scope.names,x.2=.free->X.env.kindOf x.1=some .cell\/X.env.kindOf x.1=some .free
 dup:∀ {x:Str},(x,NameKind.cell)∈scope.names->(x,NameKind.free)∈scope.names->False
 loc:∀x∈scope.names,x.2=.local -> scope.names.lookup x.1=some .local
 cap:∀ (σ:St) (i:Nat) (x:Str) (v:V),N[i]?=some x->(caps σ)[i]?=some (some v)->scope.names.lookup x=some .free/\∃j:Nat,X.N[j]?=some x/\σ[j]?=some (some v)
 len:∀σ:St,(caps σ).length=N.length
section
variable {X:Cx}{scope:Scope}{N:List Str}{caps:St->St}{tg iter elt:Expr}{ifs:List Expr}{pos:Pos}{wi:TI}{g:TG}{tt:TT}{te:TE}
theorem Lm(hc:X.calm=true)(S:jg X scope N caps)(hi:PI X tg iter wi)
  (hY:∀fp s H,PG (ba X scope N fp s H) tg g/\PL (ba X scope N fp s H) ifs tt/\PE (ba X scope N fp s H) elt te)
  (hs:∀x,foldedSetIterable iter X.env x=pure x:=by intro _;rfl):PE X (.ListComp elt [⟨tg,iter,ifs,0⟩] scope pos) (Hv wi g tt te caps):=by
 intro pins s σ H Q I h
 rw[eval_ListComp]
 refine wpAny_comprehension_free (use:=none) rfl hs (mF (k4 I.ok S.free)) S.kind S.loc (cF (hi pins s σ H _ I h) fun v s1 h1=>cF h1 fun itv s2 h2=>?_)
 obtain⟨it,fp,tn,J,H2,e,I2,T,st2,f2,rd⟩:=h2
 subst e
 refine cF (u3 (iter:=iter) (pos:=pos) (E:=X.xe) hc I2 T st2 f2 S.kind S.free S.dup (S.cap σ) (S.len σ) hY rd) fun acc s3 h3=>cF h3 fun cenv s4 h4=>?_
 refine jS h4 fun r s5 h5=>?_
 obtain⟨D,H5,m,rfl,rfl,I5,hn,fC,q⟩:=h5
 refine⟨m,hn,fun h' sb=>?_⟩
 obtain⟨f0,f1,f2',f3,f4,f5⟩:=fC
 exact⟨.ref D,H5,I5.turned (t':=s5.toks) (fun b o hb e=>(sb.2 b hb).trans e) f0 f1 f3 f4 f5,rfl,q⟩
theorem Ky{i:Nat}{y:Str}{py spos:Pos}(hc:X.calm=true)(S:jg X scope N caps)(hi:PI X tg iter wi)
  (hY:∀fp s H,PG (ba X scope N fp s H) tg g/\PL (ba X scope N fp s H) ifs tt/\PE (ba X scope N fp s H) elt te)
  (hN:X.N.Nodup) (hiy:X.N[i]?=some y) (hy:X.env.scope.names.lookup y=some .local)
  (hsw:swapsWith (.ListComp elt [⟨tg,iter,ifs,0⟩] scope pos) (some (.Name y py)) spos.line X.env=pure true)
  (hs:∀x,foldedSetIterable iter X.env x=pure x:=by intro _;rfl):PS X (.Assign [.Name y py] (.ListComp elt [⟨tg,iter,ifs,0⟩] scope pos) spos) (Je (Hv wi g tt te caps) (An i)):=by
 intro pins s σ H D I h
 rw[exec_Assign_Name_used _ _ _ _ hsw]
 refine zV (vH (zV ?_))
 show wpAny _ X.A (do let _ <- comprehension (.ListComp elt [⟨tg,iter,ifs,0⟩] scope pos) scope X.env _ (newList []) false (eval iter X.env) (some (assign (.Name y py) X.env))) _ _ s
 refine zV (xA (wpAny_comprehension_free (use:=some (assign (.Name y py) X.env)) (Q:=fun _ s'=>SP X pins D .next s') rfl hs (mF (k4 I.ok S.free)) S.kind S.loc
  (cF (hi pins s σ H _ I h) fun v s1 h1=>cF h1 fun itv s2 h2=>?_)) (fun _ s' hq=>zW (zW hq)) fun _ _ e=>e)
 obtain⟨it,fp,tn,J,H2,e,I2,T,st2,f2,rd⟩:=h2
 subst e
 refine cF (u3 (iter:=iter) (pos:=pos) (E:=X.xe) hc I2 T st2 f2 S.kind S.free S.dup (S.cap σ) (S.len σ) hY rd) fun acc s3 h3=>cF h3 fun cenv s4 h4=>?_
 refine jS h4 fun r s5 h5=>?_
 obtain⟨D',H5,m,rfl,rfl,I5,hn,fC,q⟩:=h5
 show wpAny _ X.A (assign (.Name y py) X.env (.ref D')) _ _ _
 refine wpAny_assign_Name (oa (v:=.ref D') I5 hN hiy (.inl hy) rfl (fun s6 I6 ⟨a,sa,ha⟩=>?_) (.inr hy))
 obtain⟨f0,f1,f2',f3,f4,f5⟩:=fC
 have hne:cenv.locals≠a:=by
  rcases ha with z|z
  ·rw[z];exact f1
  ·exact fun w=>f4 y a z w.symm
 refine⟨m,hn.sameBut sa hne,fun h' sb=>?_⟩
 exact⟨_,H5,I6.turned (t':=s6.toks) (fun b o hb e=>(sb.2 b hb).trans e) f0 f1 f3 f4 f5,q⟩
end
abbrev R5(X:Cx)(qual:Str)(scope:Scope)(f c L:Addr):Env:=W.envX qual scope L f (.ref c) (eB X.env scope.names [])
def gO(X:Cx)(A:Around)(qual:Str)(scope:Scope)(N:List Str)(f c:Addr)(s:Shared)(H:Hp):Cx where
 prog:=X.prog
 w:=X.w
 K:=X.K
 mg:=X.mg
 base:=X.base
 A:=A.deeper (R5 X qual scope f c s.heap.objs.size)
 N:=N
 s₀:=s
 H₀:=H
 env:=R5 X qual scope f c s.heap.objs.size
 outer:=X.stack
 stack:=R5 X qual scope f c s.heap.objs.size::X.stack
 ex:=[]
 fn:=fun _=>false
 calm:=true
 pn:=[]
 xe:=fun _ _=>False
section
variable {X:Cx}{pins:List (Addr×Obj)}{σ:St}{H:Hp}{s:Shared}{scope:Scope}{N:List Str}{h1:Heap}{A:Around}{caps:St->St}{p qual:Str}{f c:Addr}{u:Value}{v:V}
theorem Lx(I:Inv X pins σ H s)(hd:A.handled=none)(hA:A.frames=some X.stack)(S:jg X scope N caps)(hnc:∀x∈scope.names,x.2≠.cell)(hN0:N[0]?=some p)(hp:scope.names.lookup p=some .local)(hNd:N.Nodup)(r:RelV v u)
  (hns:h1.Ns s.heap.objs.size (fun x=>[(p,u)].reverse.lookup x)) (hkeep:∀b o,s.heap.get? b=some o->h1.get? b=some o) (t':Nat) :
  Inv (gO X A qual scope N f c s H) [] ((caps σ).set 0 (some v)) H { s with heap:=h1,toks:=t' }:=by
 have hcl:=k4 I.ok S.free
 have clx:∀x c,(eB X.env scope.names []).lookup x=some c->X.env.cells.lookup x=some c:=fun x c e=>lG hcl (fun _ _ z=>by cases z) x c (mem_of_lookup e)
 have noA:∀b:Addr,b∉(gO X A qual scope N f c s H).ex:=fun b z=>absurd (show b∈([]:List Addr) from z) (by simp)
 refine⟨⟨I.ok.mod,S.kind,rfl,rfl,yM _,fun x y d e1 e2=>I.ok.inj x y d (clx x d e1) (clx y d e2),fun x hx=>?_,fun x d z=>?_,fun _=>hd,Around.frames_deeper hA,.inr ⟨rfl,rfl⟩,fun b z=>absurd z (noA b),I.bs,yD I.ok.bsz I.sz,fun b _ _=>noA b,fun b z=>absurd z (noA b),I.stack,I.stkFree⟩,
  rfl,I.bare,Un.kept hkeep,⟨_,hns,fun i x w e1 e2 e3=>?_⟩,fun x d e=>?_,I.hok.fresh (yM _),fun x d e=>I.freeC x d (clx x d e),fun q hq=>absurd (show q∈([]:List (Addr×Obj)) from hq) (by simp),I.hok.kept hkeep,?_⟩
 ·rcases hx with hx|hx
  ·exact absurd rfl (hnc _ (mem_of_lookup (show scope.names.lookup x=some .cell from hx)))
  ·exact f7 (.inl hx)
 ·cases z
 ·cases i with
  | zero =>
   have e1:N[0]?=some x:=e1
   rw[hN0] at e1
   cases e1
   have hl:0 < (caps σ).length:=by rw[S.len];exact (List.getElem?_eq_some_iff.mp hN0).1
   rw[vU hl] at e2
   cases e2
   exact⟨u,r,.inl ⟨hp,by simp⟩⟩
  | succ i =>
   have e2':(caps σ)[i+1]?=some (some w):=by
    rw[kX (by lia)] at e2;exact e2
   obtain⟨hfr,j,hj,hv⟩:=S.cap σ (i+1) x w e1 e2'
   have hm:(x,NameKind.free)∈scope.names:=mem_of_lookup hfr
   obtain⟨m,hn,hl⟩:=I.loc
   have kx:=S.free _ hm rfl
   obtain⟨u',ru,lk⟩:=hl j x w hj hv (kx.elim (fun k=>.inr (.inl k)) fun k=>.inr (.inr k))
   refine⟨u',ru,.inr ⟨.inr hfr,?_⟩⟩
   rcases lk with ⟨k,_⟩|⟨_,c',ec,ic⟩
   ·have k:X.env.kindOf x=some .local:=k
    rcases kx with k'|k'<;>· rw[k] at k';cases k'
   ·obtain⟨c'',hc'⟩:=f7 (env:=X.env) (acc:=[]) (.inl hfr)
    have e':=clx x c'' hc'
    rw[ec] at e'
    cases e'
    exact⟨c',hc',ic.keeps hkeep⟩
 ·obtain⟨w,q⟩:=I.cell x d (clx x d e)
  exact⟨w,q.keeps hkeep⟩
 ·rw[yC];exact S.len σ
theorem Ba{k:Nat}{pm ctv:Value}{name:Str}{te:TE}(I:Inv X pins σ H s)(hr:dZ (k+1) A)(hA:A.frames=some X.stack)(S:jg X scope N caps)(hnc:∀x∈scope.names,x.2≠.cell)
  (hN0:N[0]?=some p) (hp:scope.names.lookup p=some .local) (hNd:N.Nodup) (hco:scope.isCoroutine=false) (hgen:scope.isGenerator=false)
  (hf:s.heap.get? f=some (W.kla_obj name qual params body scope (eB X.env scope.names []) pm c ctv)) (hcod:H c=some (.cod qual)) (hb:bindArgs (W.kla_fn name qual params body scope (eB X.env scope.names []) pm (.ref c) ctv) ⟨[u],[]⟩=pure [(p,u)])
  (r:RelV v u) (hY:PE (gO X A qual scope N f c s H) body te) (q:te ((caps σ).set 0 (some v)) H Q) :
  wpAny (model X.prog X.w) A (call (.ref f) [u]) (EP X pins σ Q) (fun _ _=>False) s:=by
 have hcd:s.heap.CodeRec (.ref c) qual:=I.hok c _ hcod
 refine vP (W.kla_callFunE hr.depth hf rfl hco hgen rfl hcd ?_)
 rw[hb]
 refine zW (wpAny_newFunctionEnv hnc (fun y hy=>?_) (fun h1 hns hsb=>⟨?_,?_⟩) S.kind)
 ·rw[List.mem_singleton.mp hy];exact hp
 ·exact I.nolimit.fresh _ hsb
 ·have hk1:∀b o,s.heap.get? b=some o->h1.get? b=some o:=fun b o e=>hsb.extBut b o (yR (zY e)) (zU _ e)
  have I1:=Lx (qual:=qual) (f:=f) (c:=c) I hr.hd hA S hnc hN0 hp hNd r hns hk1 (s.toks+[(p,u)].length)
  refine W.kla_codeExpr (xA (hY [] _ _ H Q I1 q) (fun w s' ⟨v',H',I',r',q'⟩=>?_) fun e s' h=>False.elim h)
  exact⟨v',H',I.call' I'.os I'.base I'.hok I'.bare (fun b z=>absurd (show b∈([]:List Addr) from z) (by simp)),r',q'⟩
end
theorem BX{pos pos':Pos}{c v:Value}(l:List Value)(h:TriplesOk l)(e:codeAmong pos' (l++[rawInt pos.line,rawInt pos.col,c])=some v):codeAmong pos' l=some v\/v=c:=by
 fun_induction TriplesOk l with
 | case1 =>
  simp only[xO,codeAmong,rawInt] at e
  split at e
  ·cases e;exact .inr rfl
  ·cases e
 | case2 a t b u x rest ih =>
  simp only[xF,codeAmong] at e ⊢
  split at e
  ·rename_i hc;rw[yL hc];exact .inl e
  ·rename_i hc;rw[yN hc];exact ih h e
 | case3 l h1 h2=>exact h.elim
section
variable {X:Cx}{pins:List (Addr×Obj)}{σ:St}{H:Hp}{s:Shared}{scope:Scope}{N:List Str}{caps:St->St}{qual:Str}{c P:Addr}
theorem AZ{lpos:Pos}{Q:Value->Shared->Prop}(I:Inv X pins σ H s)(S:jg X scope N caps)(hq:X.env.qual++"<lambda>"=qual)(hcode:X.env.code=.ref c)(C:W.CodeHd X.base c P)(hT:H P=some (.tab qual))(hB:Rk X.mg X.base)
  (hdef:defaultsOf params X.env=([],[]))
  (h:∀ (f c':Addr) (pm ctv:Value) (s':Shared) (H':Hp),Inv X pins σ H' s'->s'.heap.get? f=some (W.kla_obj "<lambda>" qual params body scope (eB X.env scope.names []) pm c' ctv)->H' f=none->H' c'=some (.cod qual)->aL H H'->cC X pins H' f->(∀b,H' b≠none->H b≠none\/H' b=some (.cod qual))->Q (.ref f) s') :
  wpAny (model X.prog X.w) X.A (eval (.Lambda params body scope lpos) X.env) Q X.xe s:=by
 have hcl:=mF (k4 I.ok S.free)
 have hCs:=C.keeps I.bk
 have hg:s.heap.Ns mainGlobals X.mg:=by
  obtain⟨o,es,ep,e,r⟩:=I.ok.mod.glob
  exact⟨o,es,ep,I.bk _ _ e,r⟩
 have hPn:X.base.get? P=none:=by
  cases e:X.base.get? P with
  | none=>rfl
  | some o=>rw[(I.bs P o e).2] at hT;cases hT
 obtain⟨ps,hP,ht,hco⟩:=I.hok P _ hT
 have hb:s.heap.BuiltinsAt X.mg P:=by
  obtain⟨bm,o,b1,b2,b3,b4,b5⟩:=hB
  exact⟨bm,o,b1,b2,b3,(fun z=>by rw[z,hPn] at b4;cases b4),I.bk _ _ b4,b5⟩
 refine W.kla_eval hdef ?_
 rw[hq]
 cases hf:codeAmong lpos ps.toList with
 | some cv =>
  obtain⟨c',rfl,hc'⟩:=hco lpos cv hf
  refine W.kla_makeFunctionHit hcl I.ok.glob hg hcode hCs hP ht hf hb fun ctv h' tk kp hz=>?_
  have kp2:∀b o,s.heap.get? b=some o->(h'.push (W.kla_obj "<lambda>" qual params body scope (eB X.env scope.names []) ((X.mg "__name__").getD .none) c' ctv)).get? b=some o:=fun b o e=>zU _ (kp b o e)
  have hn:H h'.objs.size=none:=I.hok.fresh hz
  exact h _ c' _ ctv _ H (I.kept (t':=tk) kp2) (zX _ rfl) hn hc' (.refl _) (I.fpOk hz hn) fun b z=>.inl z
 | none =>
  have hgP:mainGlobals≠P:=fun z=>by
   obtain⟨o,es,ep,e,r⟩:=I.ok.mod.glob
   rw[z,hPn] at e;cases e
  refine W.kla_makeFunction hcl I.ok.glob hg hcode hCs hP ht hf hgP hb fun c' ctv h' tk hx hc1 hc2 hcr hP'=>?_
  have hn:H c'=none:=I.hok.fresh hc1
  have hz:s.heap.objs.size<=h'.objs.size:=jT (qZ hc1 hc2)
  have nP:∀ {b:Addr}{u:HO},H b=some u->(∀q,u≠.tab q)->b≠P:=fun {b u} e hne z=>by subst z;rw[hT] at e;cases e;exact hne _ rfl
  have kp:∀b o,b≠P->s.heap.get? b=some o->(h'.push (W.kla_obj "<lambda>" qual params body scope (eB X.env scope.names []) ((X.mg "__name__").getD .none) c' ctv)).get? b=some o:=fun b o hb e=>zU _ (hx b o hb e)
  have hPc:P≠c':=fun z=>by rw[<- z,hT] at hn;cases hn
  have up:∀b u,H b=some u->upd H c' (.cod qual) b=some u:=fun b u e=>by rw[ay (aN e hn)];exact e
  have un:Un X.fs [] H (upd H c' (.cod qual)) s.heap (h'.push (W.kla_obj "<lambda>" qual params body scope (eB X.env scope.names []) ((X.mg "__name__").getD .none) c' ctv)):=by
   refine⟨fun b o e n _ _=>kp b o (fun z=>by rw[z,hT] at n;cases n) e,fun b o e n _ _=>⟨o.slots,kp b o (fun z=>by rw[z,hT] at n;cases n) e⟩,fun b o e n _=>?_,fun b o e _=>?_,fun b xs e=>up b _ e,fun b o u e=>up b _ e,⟨fun b u e _=>up b u e,fun b q ps' e z=>?_⟩⟩
   ·rw[ay (yR (zP (zY e) hc1))];exact n
   ·by_cases hb:b=P
    ·subst hb;exact⟨_,zU _ hP'⟩
    ·exact⟨o,kp b o hb e⟩
   ·by_cases hb:b=P
    ·subst hb
     rw[hP] at z
     cases z
     exact⟨_,zU _ hP'⟩
    ·exact⟨#[],by rw[Array.append_empty];exact kp b _ hb z⟩
  have hok:nV X.prog X.w (upd H c' (.cod qual)) (h'.push (W.kla_obj "<lambda>" qual params body scope (eB X.env scope.names []) ((X.mg "__name__").getD .none) c' ctv)):=by
   intro b u e
   by_cases hbc:b=c'
   ·subst hbc
    rw[aA] at e
    cases e
    obtain⟨c0,oc,vs,t,e0,e1,r⟩:=hcr
    exact⟨c0,oc,vs,t,e0,zU _ e1,r⟩
   ·rw[ay hbc] at e
    by_cases hb:b=P
    ·subst hb
     rw[hT] at e
     cases e
     refine⟨_,zU _ hP',?_,fun pos v hv=>?_⟩
     ·have:=TriplesOk_snoc lpos.line lpos.col (.ref c') ps.toList ht
      simpa using this
     ·have hv':codeAmong pos (ps.toList++[rawInt lpos.line,rawInt lpos.col,.ref c'])=some v:=by simpa using hv
      rcases BX ps.toList ht hv' with z|z
      ·obtain⟨c0,z1,z2⟩:=hco pos v z
       exact⟨c0,z1,up _ _ z2⟩
      ·exact⟨c',z,aA⟩
    ·exact (I.hok b u e).stay (fun d o hd eo=>kp d o (by
      rcases hd with rfl|hd
      ·exact hb
      ·exact nP hd fun q z=>by cases z) eo) (fun d hd=>up d _ hd) fun d o hd _=>up d _ hd
  have I':=I.un (t':=tk) un hok
  have hnf:upd H c' (.cod qual) h'.objs.size=none:=by
   rw[ay (jI hc2)];exact I.hok.fresh hz
  refine h _ c' _ ctv _ _ I' (zX _ rfl) hnf aA up (I.fpOk hz hnf) fun b z=>?_
  by_cases hbc:b=c'
  ·subst hbc;exact .inr aA
  ·rw[ay hbc] at z;exact .inl z
end
end L2
namespace Dl
open PySem L2 PySem.Spec PyProof.Rows
variable {K:W.Frag}{H H' HF HF1 HF':Hp}{d:D}{ds:List D}{vs:List V}{o:HO}{e c tg iter:Expr}{t i k n:Nat}{t':TT}{f:Env->Option D}{x y qual q:Str}{pos pos':Pos}{r r':R2}{g:ak->Option Out}{gi:Int->Int->Int}{g':D->D->Option D}{id T:String}{σ:L2.St}{ρ:ak}{cs fz:List Nat}{scope:Scope}{fi:Env->Option (List D)}{P:Program}{w:World}{base:Heap}{fd:FuncData}{ps:List Str}{ts:List Addr}
abbrev D:=PyData
mutual
def Rep(K:W.Frag)(H:Hp):D->V->Prop
 | .none,v=>v=.non
 | .bool b,v=>v=.bl b
 | .int i,v=>v=.int i
 | .str x,v=>v=.str x
 | .tuple ds,v=>∃a vs,v=.ref a/\iN K H a vs/\aw K H ds vs
 | .list ds,v=>∃a vs,v=.ref a/\ig K H a vs/\aw K H ds vs
 | .dict _,_=>False
def aw(K:W.Frag)(H:Hp):List D->List V->Prop
 | [],vs=>vs=[]
 | d::ds,vs=>∃v r,vs=v::r/\Rep K H d v/\aw K H ds r
end
theorem aD{a:Addr}{xs:List V}(e:aL H H')(h:iN K H a xs):iN K H' a xs:=by
 rcases h with (h|⟨o,h⟩)|h
 ·exact .inl (.inl (e _ _ h))
 ·exact .inl (.inr ⟨o,e _ _ h⟩)
 ·exact .inr h
mutual
theorem Rep.mono{K:W.Frag}{H H':Hp}(e:aL H H'):∀ {d:D}{v:V},Rep K H d v->Rep K H' d v
 | .none,_,h=>h
 | .bool _,_,h=>h
 | .int _,_,h=>h
 | .str _,_,h=>h
 | .tuple ds,_,h=>by
  simp only[Rep] at h ⊢
  obtain⟨a,vs,rfl,q,r⟩:=h
  exact⟨a,vs,rfl,aD e q,aw.mono e r⟩
 | .list ds,_,h=>by
  simp only[Rep] at h ⊢
  obtain⟨a,vs,rfl,q,r⟩:=h
  exact⟨a,vs,rfl,e.seq q,aw.mono e r⟩
 | .dict _,_,h=>h
theorem aw.mono{K:W.Frag}{H H':Hp}(e:aL H H'):∀ {ds:List D}{vs:List V},aw K H ds vs->aw K H' ds vs
 | [],_,h=>h
 | d::ds,_,h=>by
  simp only[aw] at h ⊢
  obtain⟨v,r,rfl,a,b⟩:=h
  exact⟨v,r,rfl,Rep.mono e a,aw.mono e b⟩
end
section
variable {K:W.Frag}{H:Hp}
theorem aw.nil:aw K H [] []:=by simp[aw]
theorem aw.cons{v:V}(a:Rep K H d v)(b:aw K H ds vs):aw K H (d::ds) (v::vs):=by
 simp only[aw];exact⟨v,vs,rfl,a,b⟩
theorem aw.cons_inv(h:aw K H (d::ds) vs):∃v r,vs=v::r/\Rep K H d v/\aw K H ds r:=by simpa only[aw] using h
theorem aw.nil_inv(h:aw K H [] vs):vs=[]:=by simpa only[aw] using h
theorem aw.length:∀ {ds:List D}{vs:List V},aw K H ds vs->vs.length=ds.length
 | [],_,h=>by rw[h.nil_inv];rfl
 | d::ds,_,h=>by obtain⟨v,r,rfl,_,b⟩:=h.cons_inv;simp[aw.length b]
theorem aw.get:∀ {ds:List D}{vs:List V}{i:Nat}{v:V},aw K H ds vs->vs[i]?=some v->∃d,ds[i]?=some d/\Rep K H d v
 | [],_,i,v,h,e=>by rw[h.nil_inv] at e;simp at e
 | d::ds,_,i,v,h,e=>by
  obtain⟨v',r,rfl,a,b⟩:=h.cons_inv
  cases i with
  | zero=>simp at e;subst e;exact⟨d,rfl,a⟩
  | succ i=>simp at e;obtain⟨d',h1,h2⟩:=aw.get b e;exact⟨d',by simpa using h1,h2⟩
theorem aw.getD:∀ {ds:List D}{vs:List V}{i:Nat}{d:D},aw K H ds vs->ds[i]?=some d->∃v,vs[i]?=some v/\Rep K H d v
 | [],_,i,d,h,e=>by simp at e
 | d::ds,_,i,d',h,e=>by
  obtain⟨v',r,rfl,a,b⟩:=h.cons_inv
  cases i with
  | zero=>simp at e;subst e;exact⟨v',rfl,a⟩
  | succ i=>simp at e;obtain⟨v,h1,h2⟩:=aw.getD b e;exact⟨v,by simpa using h1,h2⟩
theorem aw.append:∀ {ds es:List D}{vs us:List V},aw K H ds vs->aw K H es us->aw K H (ds++es) (vs++us)
 | [],_,_,_,h,g=>by rw[h.nil_inv];exact g
 | d::ds,_,_,_,h,g=>by obtain⟨v,r,rfl,a,b⟩:=h.cons_inv;exact aw.cons a (aw.append b g)
theorem aw.take:∀ {ds:List D}{vs:List V}(n:Nat),aw K H ds vs->aw K H (ds.take n) (vs.take n)
 | [],_,n,h=>by rw[h.nil_inv];simp[aw]
 | d::ds,_,0,h=>by simp[aw]
 | d::ds,_,n+1,h=>by obtain⟨v,r,rfl,a,b⟩:=h.cons_inv;exact aw.cons a (aw.take n b)
theorem aw.drop:∀ {ds:List D}{vs:List V}(n:Nat),aw K H ds vs->aw K H (ds.drop n) (vs.drop n)
 | [],_,n,h=>by rw[h.nil_inv];simp[aw]
 | d::ds,_,0,h=>h
 | d::ds,_,n+1,h=>by obtain⟨v,r,rfl,a,b⟩:=h.cons_inv;exact aw.drop n b
theorem aw.reverse:∀ {ds:List D}{vs:List V},aw K H ds vs->aw K H ds.reverse vs.reverse
 | [],_,h=>by rw[h.nil_inv];simp[aw]
 | d::ds,_,h=>by
  obtain⟨v,r,rfl,a,b⟩:=h.cons_inv
  rw[vF,vF]
  exact aw.append (aw.reverse b) (aw.cons a aw.nil)
end
structure bL(HF H HF' H':Hp):Prop where
 hh:aL H H'
 ff:aL HF HF'
 fh:aL HF' H'
 nw:∀a o,HF' a=some o->HF a=some o\/H a=none
theorem bL.refl{HF H:Hp}(s:aL HF H):bL HF H HF H:=⟨.refl _,.refl _,s,fun _ _ e=>.inl e⟩
theorem bL.trans{HF H HF1 H1 HF2 H2:Hp}(a:bL HF H HF1 H1)(b:bL HF1 H1 HF2 H2):bL HF H HF2 H2 :=
 ⟨a.hh.trans b.hh,a.ff.trans b.ff,b.fh,fun x o e=>(b.nw x o e).elim (fun z=>a.nw x o z) fun z=>.inr (a.hh.free z)⟩
theorem dS{p:Addr}(h:H p=none):aL H (upd H p o):=fun b u e=>by rw[ay (aN e h)];exact e
theorem bL.new{p:Addr}(s:aL HF H)(h:H p=none):bL HF H (upd HF p o) (upd H p o):=by
 have hf:HF p=none:=s.free h
 refine⟨dS h,dS hf,fun b u e=>?_,fun b u e=>?_⟩
 ·by_cases hb:b=p
  ·subst hb;rw[aA] at e ⊢;exact e
  ·rw[ay hb] at e ⊢;exact s b u e
 ·by_cases hb:b=p
  ·subst hb;exact .inr h
  ·rw[ay hb] at e;exact .inl e
theorem bL.own{p:Addr}(s:aL HF H)(h:H p=none):bL HF H HF (upd H p o) :=
 ⟨dS h,.refl _,fun b u e=>by rw[ay (aN (s b u e) h)];exact s b u e,fun _ _ e=>.inl e⟩
theorem bL.freeze{HF H HF1 H1:Hp}{p:Addr}(g:bL HF H HF1 H1)(h:H p=none)(h1:H1 p=some o)(hf:HF1 p=none):bL HF H (upd HF1 p o) H1 :=
 ⟨g.hh,g.ff.trans (dS hf),fun b u e=>by
  by_cases hb:b=p
  ·subst hb;rw[aA] at e;rw[h1,<- e]
  ·rw[ay hb] at e;exact g.fh b u e,fun b u e=>by
  by_cases hb:b=p
  ·subst hb;exact .inr h
  ·rw[ay hb] at e;exact g.nw b u e⟩
def ko:List Str:=["ways_of","turned_order","fairest"]
def eu(K:W.Frag)(HF:Hp):Prop:=∀ (f:Addr) (oc:Value) (od:Option Addr) (fd:FuncData) (sl:Array (Option Value)) (c P:Addr),K.lookup f=some ⟨oc,od,.func fd,sl⟩->fd.qualname∈ko->fd.code=.ref c->W.codeHdIn K c P=true->HF P=some (.tab (fd.qualname++".<locals>."++"<lambda>"))
theorem eu.mono(h:eu K HF)(e:aL HF HF'):eu K HF':=fun f oc od fd sl c P a b d q=>e _ _ (h f oc od fd sl c P a b d q)
abbrev Env:=List (Option D)
structure cU(K:W.Frag)(HF:Hp)(ρ:Env)(σ:L2.St):Prop where
 get:∀ (i:Nat) (d:D),ρ[i]?=some (some d)->∃v,σ[i]?=some (some v)/\Rep K HF d v
 len:ρ.length<=σ.length
 tb:eu K HF
theorem cU.mono{K:W.Frag}{HF HF':Hp}{ρ:Env}{σ:L2.St}(h:cU K HF ρ σ)(e:aL HF HF'):cU K HF' ρ σ:=⟨fun i d q=>let ⟨v,a,b⟩:=h.get i d q;⟨v,a,b.mono e⟩,h.len,h.tb.mono e⟩
def tD(K:W.Frag)(f:Env->Option D):TE:=fun σ H Q=>∃HF ρ d,aL HF H/\cU K HF ρ σ/\f ρ=some d/\∀v H' HF',bL HF H HF' H'->Rep K HF' d v->Q v H'
def DE(X:Cx)(e:Expr)(f:Env->Option D):Prop:=PE X e (tD X.K f)
def tF(K:W.Frag)(f:Env->Option (List D)):TE:=fun σ H Q=>∃HF ρ ds,aL HF H/\cU K HF ρ σ/\f ρ=some ds /\
 ∀a vs H' HF',bL HF H HF' H'->H a=none->HF' a=none->H' a=some (.lst vs)->aw K HF' ds vs->Q (.ref a) H'
def DF(X:Cx)(e:Expr)(f:Env->Option (List D)):Prop:=PE X e (tF X.K f)
def NT(K:W.Frag)(f:Env->Option Bool):TT:=fun σ H Q=>∃HF ρ b,aL HF H/\cU K HF ρ σ/\f ρ=some b/\∀H' HF',bL HF H HF' H'->Q b H'
def DT(X:Cx)(e:Expr)(f:Env->Option Bool):Prop:=PT X e (NT X.K f)
def Se(K:W.Frag)(f:Env->Option (List D)):TA:=fun σ H Q=>∃HF ρ ds,aL HF H/\cU K HF ρ σ/\f ρ=some ds/\∀vs H' HF',bL HF H HF' H'->aw K HF' ds vs->Q vs H'
def DA(X:Cx)(es:List Expr)(f:Env->Option (List D)):Prop:=PA X es (Se X.K f)
section
variable {X:Cx}
theorem bf{t t':TE}(h:PE X e t)(i:∀σ H Q,t' σ H Q->t σ H Q):PE X e t':=fun pins s σ H Q I q=>h pins s σ H Q I (i σ H Q q)
theorem vg{t t':TT}(h:PT X e t)(i:∀σ H Q,t' σ H Q->t σ H Q):PT X e t':=fun pins s σ H Q I q=>h pins s σ H Q I (i σ H Q q)
theorem Ce{e:List Expr}{t t':TA}(h:PA X e t)(i:∀σ H Q,t' σ H Q->t σ H Q):PA X e t':=fun pos pins s σ H Q I q=>h pos pins s σ H Q I (i σ H Q q)
theorem bs{α β:Type}{x:Option α}{f:α->Option β}{b:β}(h:x.bind f=some b):∃a,x=some a/\f a=some b:=by
 cases x with
 | none=>cases h
 | some a=>exact⟨a,rfl,h⟩
theorem DF.de{f:Env->Option (List D)}(h:DF X e f):DE X e (fun ρ=>(f ρ).map PyData.list):=bf h fun σ H Q ⟨HF,ρ,d,sm,eo,hf,q⟩=>by
 have hf:(f ρ).map PyData.list=some d:=hf
 cases e1:f ρ with
 | none=>rw[e1] at hf;cases hf
 | some ds =>
  rw[e1] at hf
  obtain rfl:PyData.list ds=d:=xD hf
  refine⟨HF,ρ,ds,sm,eo,e1,fun a vs H' HF' g ha hf' h' r=>q _ _ (upd HF' a (.lst vs)) (g.freeze ha h' hf') ?_⟩
  simp only[Rep]
  exact⟨a,vs,rfl,.inl (.inl aA),r.mono (dS hf')⟩
def ae(i:Nat):Env->Option D:=fun ρ=>(ρ[i]?).getD none
theorem OU(i:Nat)(hN:X.N[i]?=some x)(hv:Mv X.env.scope x)(hd:(x == ("__debug__":Str))=false:=by decide)(hcd:(x == ("__classdict__":Str))=false:=by decide):DE X (.Name x pos) (ae i) :=
 bf (kg hN hv hd hcd) fun σ H Q ⟨HF,ρ,d,sm,eo,hf,q⟩=>by
  have hf:(ρ[i]?).getD none=some d:=hf
  cases e:ρ[i]? with
  | none=>rw[e] at hf;cases hf
  | some o =>
   rw[e] at hf
   have hf:o=some d:=hf
   subst hf
   obtain⟨v,a,b⟩:=eo.get i d e
   exact⟨v,a,q v H HF (.refl sm) b⟩
def fC(d:D):Env->Option D:=fun _=>some d
theorem NW{i j pos}:DE X (.Constant (.int i) j pos) (fC (.int i)):=bf Hg fun σ H Q ⟨HF,ρ,d,sm,eo,hf,q⟩=>by cases hf;exact q _ H HF (.refl sm) (by simp[Rep])
theorem QU{b j pos}:DE X (.Constant (.bool b) j pos) (fC (.bool b)):=bf Hz fun σ H Q ⟨HF,ρ,d,sm,eo,hf,q⟩=>by cases hf;exact q _ H HF (.refl sm) (by simp[Rep])
theorem Pd{j pos}:DE X (.Constant .none j pos) (fC .none):=bf O8 fun σ H Q ⟨HF,ρ,d,sm,eo,hf,q⟩=>by cases hf;exact q _ H HF (.refl sm) (by simp[Rep])
theorem OE{x j pos}:DE X (.Constant (.str x) j pos) (fC (.str x)):=bf HQ fun σ H Q ⟨HF,ρ,d,sm,eo,hf,q⟩=>by cases hf;exact q _ H HF (.refl sm) (by simp[Rep])
theorem Mj{i:Int}{t:Tok}(hg:Gl X x)(hm:X.mg x=some (.int i t))(hd:(x == ("__debug__":Str))=false:=by decide):DE X (.Name x pos) (fC (.int i)) :=
 bf (LP (v:=.int i) hg hm ⟨t,rfl⟩ hd) fun σ H Q ⟨HF,ρ,d,sm,eo,hf,q⟩=>by cases hf;exact q _ H HF (.refl sm) (by simp[Rep])
def fM(K:W.Frag)(r:R2)(g:D->D->Option D):Prop:=∀HF H x y v1 v2 d Q,aL HF H->Rep K HF x v1->Rep K HF y v2->g x y=some d->(∀v H' HF',bL HF H HF' H'->Rep K HF' d v->Q v H')->r v1 v2 H Q
def f2(g:D->D->Option D)(f1 f2:Env->Option D):Env->Option D:=fun ρ=>(f1 ρ).bind fun x=>(f2 ρ).bind fun y=>g x y
variable {a b c:Expr}{fa fb fc:Env->Option D}{pos:Pos}
theorem Mw{g:D->D->Option D}(hr:fM X.K r g):∀σ H Q,tD X.K (f2 g fa fb) σ H Q->QL r (tD X.K fa) (tD X.K fb) σ H Q:=fun σ H Q ⟨HF,ρ,d,sm,eo,hf,q⟩=>by
 obtain⟨x,hx,hf⟩:=bs hf
 obtain⟨y,hy,hg⟩:=bs hf
 exact⟨HF,ρ,x,sm,eo,hx,fun v1 H1 HF1 g1 r1=>⟨HF1,ρ,y,g1.fh,eo.mono g1.ff,hy,fun v2 H2 HF2 g2 r2=>hr HF2 H2 x y v1 v2 d Q g2.fh (r1.mono g2.ff) r2 hg fun v H' HF' g3 r3=>q v H' HF' ((g1.trans g2).trans g3) r3⟩⟩
theorem Bu{op:Operator}{g:D->D->Option D}(ho:hU X (binaryOp op) r)(hr:fM X.K r g)(ha:DE X a fa)(hb:DE X b fb):DE X (.BinOp a op b pos) (f2 g fa fb):=bf (ET ho ha hb) (Mw hr)
theorem jf{op:CmpOp}{g:D->D->Option D}(ho:hU X (compareOp op) r)(hr:fM X.K r g)(ha:DE X a fa)(hb:DE X b fb)(hm:behindInMarks op b=false):DE X (.Compare a [op] [b] pos) (f2 g fa fb):=bf (KW ho ha hb hm) (Mw hr)
def zk(C:Int->Int->Prop)[∀i j,Decidable (C i j)](g:Int->Int->D):D->D->Option D
 | .int i,.int j=>if C i j then some (g i j) else none
 | _,_=>none
theorem HG{C:Int->Int->Prop}[∀i j,Decidable (C i j)]:fM K (rI C fun i j=>.int (gi i j)) (zk C fun i j=>.int (gi i j)):=by
 intro HF H x y v1 v2 d Q sm r1 r2 hg q
 cases x<;>cases y<;>simp only[zk] at hg<;>try cases hg
 rename_i i j
 simp only[Rep] at r1 r2
 by_cases hc:C i j
 ·rw[yL hc] at hg
  cases hg
  exact⟨i,j,r1,r2,hc,q _ H HF (.refl sm) (by simp[Rep])⟩
 ·rw[yN hc] at hg;cases hg
theorem JM:fM K (Kp fun i j=>.int (gi i j)) (zk (fun _ _=>True) fun i j=>.int (gi i j)):=by
 intro HF H x y v1 v2 d Q sm r1 r2 hg q
 cases x<;>cases y<;>simp only[zk] at hg<;>try cases hg
 rename_i i j
 simp only[Rep] at r1 r2
 exact⟨i,j,r1,r2,q _ H HF (.refl sm) (by simp[Rep])⟩
theorem g8{gi:Int->Int->Bool}:fM K (Kp fun i j=>.bl (gi i j)) (zk (fun _ _=>True) fun i j=>.bool (gi i j)):=by
 intro HF H x y v1 v2 d Q sm r1 r2 hg q
 cases x<;>cases y<;>simp only[zk] at hg<;>try cases hg
 rename_i i j
 simp only[Rep] at r1 r2
 exact⟨i,j,r1,r2,q _ H HF (.refl sm) (by simp[Rep])⟩
noncomputable instance (i j:Int):Decidable (vo i j):=by unfold vo;infer_instance
noncomputable instance (i j:Int):Decidable (KE i j):=by unfold KE;infer_instance
end
section
variable {X:Cx}{a b c:Expr}{fa fb fc:Env->Option D}{pos:Pos}{rest:List Expr}
def lP(fa fb:Env->Option D):Env->Option D:=fun ρ=>(fa ρ).bind fun|.bool true=>fb ρ|.bool false=>some (.bool false)|_=>none
def RA(fa fb:Env->Option D):Env->Option D:=fun ρ=>(fa ρ).bind fun|.bool true=>some (.bool true)|.bool false=>fb ρ|_=>none
def Q8:D->Option D|.bool b=>some (.bool (!b))|_=>none
def N2(fa:Env->Option D):Env->Option D:=fun ρ=>(fa ρ).bind Q8
theorem OV{op}(h:DE X a fa):DE X (.BoolOp op [a] pos) fa:=Nn h
theorem Pj(ha:DE X a fa)(hb:DE X (.BoolOp .And (b::rest) pos) fb):DE X (.BoolOp .And (a::b::rest) pos) (lP fa fb):=bf (Pe ha hb) fun σ H Q ⟨HF,ρ,d,sm,eo,hf,q⟩=>by
 obtain⟨x,hx,hf⟩:=bs hf
 refine⟨HF,ρ,x,sm,eo,hx,fun v1 H1 HF1 g1 r1=>?_⟩
 cases x<;>try cases hf
 rename_i k
 simp only[Rep] at r1
 refine⟨k,r1,?_⟩
 cases k with
 | true=>exact tY ⟨HF1,ρ,d,g1.fh,eo.mono g1.ff,hf,fun v H' HF' g r=>q v H' HF' (g1.trans g) r⟩
 | false=>cases hf;exact pI (q _ H1 HF1 g1 (by simp[Rep]))
theorem QD(ha:DE X a fa)(hb:DE X (.BoolOp .Or (b::rest) pos) fb):DE X (.BoolOp .Or (a::b::rest) pos) (RA fa fb):=bf (HW ha hb) fun σ H Q ⟨HF,ρ,d,sm,eo,hf,q⟩=>by
 obtain⟨x,hx,hf⟩:=bs hf
 refine⟨HF,ρ,x,sm,eo,hx,fun v1 H1 HF1 g1 r1=>?_⟩
 cases x<;>try cases hf
 rename_i k
 simp only[Rep] at r1
 refine⟨k,r1,?_⟩
 cases k with
 | false=>exact pI ⟨HF1,ρ,d,g1.fh,eo.mono g1.ff,hf,fun v H' HF' g r=>q v H' HF' (g1.trans g) r⟩
 | true=>cases hf;exact tY (q _ H1 HF1 g1 (by simp[Rep]))
theorem Oq(ha:DE X a fa):DE X (.UnaryOp .Not a pos) (N2 fa):=bf (Ob ha) fun σ H Q ⟨HF,ρ,d,sm,eo,hf,q⟩=>by
 obtain⟨x,hx,hf⟩:=bs hf
 refine⟨HF,ρ,x,sm,eo,hx,fun v1 H1 HF1 g1 r1=>?_⟩
 cases x<;>try cases hf
 rename_i k
 simp only[Rep] at r1
 exact⟨k,r1,q _ H1 HF1 g1 (by simp[Rep])⟩
def gB:D->Option Bool|.bool b=>some b|_=>none
def fB(f:Env->Option D):Env->Option Bool:=fun ρ=>(f ρ).bind gB
theorem CI:∀σ H (Q:Bool->Hp->Prop),NT X.K (fB f) σ H Q->tD X.K f σ H fun x H1=>∃c,x=.bl c/\Q c H1:=fun σ H Q ⟨HF,ρ,k,sm,eo,hf,q⟩=>by
 obtain⟨x,hx,hf⟩:=bs hf
 refine⟨HF,ρ,x,sm,eo,hx,fun v1 H1 HF1 g1 r1=>?_⟩
 cases x<;>try cases hf
 simp only[Rep] at r1
 exact⟨_,r1,q H1 HF1 g1⟩
theorem Pm(h:DE X a f)(he:∀whole,isTrue a X.env whole=(do let v <- whole;standAt a.pos;holding [v] (truthy v)):=by intro _;rfl):DT X a (fB f):=vg (HE h he) CI
theorem jl{op:CmpOp}{g:D->D->Option D}(ho:hU X (compareOp op) r)(hr:fM X.K r g)(ha:DE X a fa)(hb:DE X b fb)(hm:behindInMarks op b=false):DT X (.Compare a [op] [b] pos) (fB (f2 g fa fb)) :=
 vg (Ek ho ha hb hm) fun σ H Q h=>Mw hr σ H _ (CI σ H Q h)
def dv(fa fb:Env->Option Bool):Env->Option Bool:=fun ρ=>(fa ρ).bind fun|true=>fb ρ|false=>some false
def Cj(fa fb:Env->Option Bool):Env->Option Bool:=fun ρ=>(fa ρ).bind fun|true=>some true|false=>fb ρ
def cm(fa:Env->Option Bool):Env->Option Bool:=fun ρ=>(fa ρ).map (!·)
variable {ta tb:Env->Option Bool}
def DW(X:Cx)(e:Expr)(f:Env->Option Bool):Prop:=PW X e (NT X.K f)
theorem Ki{t t':TT}(h:PW X e t)(i:∀σ H Q,t' σ H Q->t σ H Q):PW X e t':=fun wh pins s σ H Q I q=>h wh pins s σ H Q I (i σ H Q q)
theorem DW.dt(h:DW X a ta):DT X a ta:=PW.pt h
theorem Kv(ha:DT X a ta):DW X (.BoolOp .And [a] pos) ta:=Lh ha
theorem OH(ha:DT X a ta):DW X (.BoolOp .Or [a] pos) ta:=JS ha
theorem Pf(ha:DT X a ta)(hb:DW X (.BoolOp .And (b::rest) pos) tb):DW X (.BoolOp .And (a::b::rest) pos) (dv ta tb):=Ki (NB ha hb) fun σ H Q ⟨HF,ρ,d,sm,eo,hf,q⟩=>by
 obtain⟨x,hx,hf⟩:=bs hf
 refine⟨HF,ρ,x,sm,eo,hx,fun H1 HF1 g1=>?_⟩
 cases x with
 | true=>exact tY ⟨HF1,ρ,d,g1.fh,eo.mono g1.ff,hf,fun H' HF' g=>q H' HF' (g1.trans g)⟩
 | false=>cases hf;exact pI (q H1 HF1 g1)
theorem P0(ha:DT X a ta)(hb:DW X (.BoolOp .Or (b::rest) pos) tb):DW X (.BoolOp .Or (a::b::rest) pos) (Cj ta tb):=Ki (MK ha hb) fun σ H Q ⟨HF,ρ,d,sm,eo,hf,q⟩=>by
 obtain⟨x,hx,hf⟩:=bs hf
 refine⟨HF,ρ,x,sm,eo,hx,fun H1 HF1 g1=>?_⟩
 cases x with
 | false=>exact pI ⟨HF1,ρ,d,g1.fh,eo.mono g1.ff,hf,fun H' HF' g=>q H' HF' (g1.trans g)⟩
 | true=>cases hf;exact tY (q H1 HF1 g1)
theorem Nx(ha:DT X a ta):DT X (.UnaryOp .Not a pos) (cm ta):=vg (JI ha) fun σ H Q ⟨HF,ρ,d,sm,eo,hf,q⟩=>by
 have hf:(ta ρ).map (!·)=some d:=hf
 cases e:ta ρ with
 | none=>rw[e] at hf;cases hf
 | some k=>rw[e] at hf;cases hf;exact⟨HF,ρ,k,sm,eo,e,fun H1 HF1 g1=>q H1 HF1 g1⟩
def Bh(tc:Env->Option Bool)(fa fb:Env->Option D):Env->Option D:=fun ρ=>(tc ρ).bind fun|true=>fa ρ|false=>fb ρ
theorem QF(hc:DT X c ta)(ha:DE X a fa)(hb:DE X b fb):DE X (.IfExp c a b pos) (Bh ta fa fb):=bf (zl hc ha hb) fun σ H Q ⟨HF,ρ,d,sm,eo,hf,q⟩=>by
 obtain⟨x,hx,hf⟩:=bs hf
 refine⟨HF,ρ,x,sm,eo,hx,fun H1 HF1 g1=>?_⟩
 cases x with
 | true=>exact tY ⟨HF1,ρ,d,g1.fh,eo.mono g1.ff,hf,fun v H' HF' g r=>q v H' HF' (g1.trans g) r⟩
 | false=>exact pI ⟨HF1,ρ,d,g1.fh,eo.mono g1.ff,hf,fun v H' HF' g r=>q v H' HF' (g1.trans g) r⟩
def lb(g g':D->D->Option D)(fa fb fc:Env->Option D):Env->Option D:=fun ρ=>(fa ρ).bind fun x=>(fb ρ).bind fun y=>(g x y).bind fun|.bool true=>(fc ρ).bind fun z=>g' y z|.bool false=>some (.bool false)|_=>none
theorem Ep{g g':D->D->Option D}(hr:fM X.K r g)(hr':fM X.K r' g'):∀σ H Q,tD X.K (lb g g' fa fb fc) σ H Q->B5 r r' (tD X.K fa) (tD X.K fb) (tD X.K fc) σ H Q:=fun σ H Q ⟨HF,ρ,d,sm,eo,hf,q⟩=>by
 obtain⟨x,hx,hf⟩:=bs hf
 obtain⟨y,hy,hf⟩:=bs hf
 obtain⟨z,hz,hf⟩:=bs hf
 refine⟨HF,ρ,x,sm,eo,hx,fun v1 H1 HF1 g1 r1=>⟨HF1,ρ,y,g1.fh,eo.mono g1.ff,hy,fun v2 H2 HF2 g2 r2=>hr HF2 H2 x y v1 v2 z _ g2.fh (r1.mono g2.ff) r2 hz fun v3 H3 HF3 g3 r3=>?_⟩⟩
 cases z<;>try cases hf
 rename_i k
 simp only[Rep] at r3
 refine⟨k,r3,?_⟩
 have G:=(g1.trans g2).trans g3
 cases k with
 | false=>cases hf;exact pI (q _ H3 HF3 G (by simp[Rep]))
 | true =>
  obtain⟨w,hw,hg⟩:=bs hf
  exact tY ⟨HF3,ρ,w,G.fh,eo.mono G.ff,hw,fun v4 H4 HF4 g4 r4=>hr' HF4 H4 y w v2 v4 d Q g4.fh (r2.mono (g3.ff.trans g4.ff)) r4 hg fun v H' HF' g5 r5=>q v H' HF' ((G.trans g4).trans g5) r5⟩
theorem HC{op op':CmpOp}{g g':D->D->Option D}(ho:hU X (compareOp op) r)(hr:fM X.K r g)(ho':hU X (compareOp op') r')(hr':fM X.K r' g')(ha:DE X a fa)(hb:DE X b fb)(hc:DE X c fc)
  (hm:lastMarks [op,op'] [b,c]=false:=by with_unfolding_all rfl):DE X (.Compare a [op,op'] [b,c] pos) (lb g g' fa fb fc):=bf (Jc ho ho' ha hb hc hm) (Ep hr hr')
theorem Hx{op op':CmpOp}{g g':D->D->Option D}(ho:hU X (compareOp op) r)(hr:fM X.K r g)(ho':hU X (compareOp op') r')(hr':fM X.K r' g')(ha:DE X a fa)(hb:DE X b fb)(hc:DE X c fc)
  (hm:lastMarks [op,op'] [b,c]=false:=by with_unfolding_all rfl):DT X (.Compare a [op,op'] [b,c] pos) (fB (lb g g' fa fb fc)) :=
 vg (JY ho ho' ha hb hc hm) fun σ H Q h=>Ep hr hr' σ H _ (CI σ H Q h)
def af:Env->Option (List D):=fun _=>some []
def aa(f:Env->Option D)(g:Env->Option (List D)):Env->Option (List D):=fun ρ=>(f ρ).bind fun x=>(g ρ).map (x::·)
theorem Ji:DA X [] af:=Ce eG fun σ H Q ⟨HF,ρ,d,sm,eo,hf,q⟩=>by cases hf;exact q [] H HF (.refl sm) aw.nil
theorem Dp{es:List Expr}{g:Env->Option (List D)}(he:DE X e f)(hs:DA X es g)(hst:starEach (e::es) X.env=(false,eval e X.env)::starEach es X.env:=by rfl):DA X (e::es) (aa f g) :=
 Ce (cq he hs hst) fun σ H Q ⟨HF,ρ,d,sm,eo,hf,q⟩=>by
  obtain⟨x,hx,hf⟩:=bs hf
  have hf:(g ρ).map (x::·)=some d:=hf
  cases e1:g ρ with
  | none=>rw[e1] at hf;cases hf
  | some xs =>
   rw[e1] at hf;cases hf
   exact⟨HF,ρ,x,sm,eo,hx,fun v1 H1 HF1 g1 r1=>⟨HF1,ρ,xs,g1.fh,eo.mono g1.ff,e1,fun vs H2 HF2 g2 r2=>q (v1::vs) H2 HF2 (g1.trans g2) (aw.cons (r1.mono g2.ff) r2)⟩⟩
variable {es:List Expr}{fs:Env->Option (List D)}
def small(ds:List D):Option (List D):=if ds.length<=sizeLine then some ds else none
theorem eA{ds es:List D}(h:small ds=some es):es=ds/\ds.length<=sizeLine:=by
 unfold small at h
 split at h
 ·cases h;exact⟨rfl,‹_›⟩
 ·cases h
def aJ(g:Env->Option (List D)):Env->Option D:=fun ρ=>(g ρ).bind fun ds=>(small ds).map PyData.tuple
def cD(g:Env->Option (List D)):Env->Option (List D):=fun ρ=>(g ρ).bind small
theorem NK{x1}(h:DA X es fs):DE X (.Tuple es x1 pos) (aJ fs):=bf (Hi h) fun σ H Q ⟨HF,ρ,d,sm,eo,hf,q⟩=>by
 obtain⟨ds,hx,hf⟩:=bs hf
 have hf:(small ds).map PyData.tuple=some d:=hf
 cases e:small ds with
 | none=>rw[e] at hf;cases hf
 | some es' =>
  rw[e] at hf;cases hf
  obtain⟨rfl,hz⟩:=eA e
  refine⟨HF,ρ,_,sm,eo,hx,fun vs H1 HF1 g1 r1=>⟨by rw[r1.length];exact hz,fun p hp=>q _ _ (upd HF1 p (.tup vs)) (g1.trans (.new g1.fh hp)) ?_⟩⟩
  simp only[Rep]
  exact⟨p,vs,rfl,.inl (.inl aA),r1.mono (dS (g1.fh.free hp))⟩
theorem NM(h:DA X es fs):DF X (.List es pos) (cD fs):=bf (De h) fun σ H Q ⟨HF,ρ,d,sm,eo,hf,q⟩=>by
 obtain⟨ds,hx,hf⟩:=bs hf
 obtain⟨rfl,hz⟩:=eA hf
 exact⟨HF,ρ,_,sm,eo,hx,fun vs H1 HF1 g1 r1=>⟨by rw[r1.length];exact hz,fun p hp=>q p vs _ HF1 (g1.trans (.own g1.fh hp)) (g1.hh.free hp) (g1.fh.free hp) aA r1⟩⟩
def av:D->D->Option D
 | .tuple ds,.int i=>zh ds i
 | .list ds,.int i=>zh ds i
 | _,_=>none
theorem Be{i:Int}(r:aw K HF ds vs)(h:zh ds i=some d):∃v,zh vs i=some v/\Rep K HF d v:=by
 unfold zh at h ⊢
 rw[r.length]
 obtain⟨j,hj,h⟩:=bs h
 obtain⟨v,a,b⟩:=r.getD h
 exact⟨v,by rw[hj];exact a,b⟩
theorem O5:fM K (SB K) av:=by
 intro HF H x y v1 v2 d Q sm r1 r2 hg q
 cases x<;>cases y<;>simp only[av] at hg<;>try cases hg
 ·simp only[Rep] at r1 r2
  obtain⟨a,vs,rfl,hs,r⟩:=r1
  obtain⟨v,hv,rv⟩:=Be r hg
  exact .inl ⟨a,vs,_,v,rfl,r2,sm.seq hs,hv,q v H HF (.refl sm) rv⟩
 ·simp only[Rep] at r1 r2
  obtain⟨a,vs,rfl,hs,r⟩:=r1
  obtain⟨v,hv,rv⟩:=Be r hg
  exact .inr (.inl ⟨a,vs,_,v,rfl,r2,aD sm hs,hv,q v H HF (.refl sm) rv⟩)
theorem PY(ha:DE X a fa)(hb:DE X b fb)(hs:wx b:=by intro _ _;rfl):DE X (.Subscript a b pos) (f2 av fa fb):=bf (Q4 N6 ha hb hs) (Mw O5)
mutual
theorem dc{pins:List (Addr×Obj)}{σ:L2.St}{H HF:Hp}{s:Shared}(I:Inv X pins σ H s)(sm:aL HF H):∀ {d:D}{v:V}{u:Value},Rep X.K HF d v->RelV v u->∃as,Reads s.heap u d as
 | .none,_,_,h,r=>by simp only[Rep] at h;subst h;cases r;exact⟨_,.none⟩
 | .bool b,_,_,h,r=>by simp only[Rep] at h;subst h;cases r;exact⟨_,.bool b⟩
 | .int i,_,_,h,r=>by simp only[Rep] at h;subst h;obtain⟨t,rfl⟩:=r;exact⟨_,.int i t⟩
 | .str i,_,_,h,r=>by simp only[Rep] at h;subst h;obtain⟨t,rfl⟩:=r;exact⟨_,.str i t⟩
 | .tuple ds,_,_,h,r=>by
  simp only[Rep] at h
  obtain⟨a,vs,rfl,hs,rr⟩:=h
  cases r
  obtain⟨its,rv,⟨o,ho,hc,n,hd⟩,_⟩:=I.tuple (aD sm hs)
  obtain⟨as,q⟩:=oq I sm rr rv
  exact⟨as,.tuple ho hc hd (by simpa using q)⟩
 | .list ds,_,_,h,r=>by
  simp only[Rep] at h
  obtain⟨a,vs,rfl,hs,rr⟩:=h
  cases r
  obtain⟨its,rv,pl,_⟩:=I.list (sm.seq hs)
  obtain⟨o,ho,hc,n,hd⟩:=pl.isList
  obtain⟨as,q⟩:=oq I sm rr rv
  exact⟨_,.list ho hc hd (by simpa using q)⟩
 | .dict _,_,_,h,r=>by simp only[Rep] at h
theorem oq{pins:List (Addr×Obj)}{σ:L2.St}{H HF:Hp}{s:Shared}(I:Inv X pins σ H s)(sm:aL HF H):∀ {ds:List D}{vs:List V}{us:List Value},aw X.K HF ds vs->aE vs us->∃as,ReadsAll s.heap us ds as
 | [],_,_,h,r=>by rw[h.nil_inv] at r;cases r;exact⟨_,.nil⟩
 | d::ds,_,_,h,r=>by
  obtain⟨v,vr,rfl,a,b⟩:=h.cons_inv
  cases r with
  | cons r rr =>
   obtain⟨as,q⟩:=dc I sm a r
   obtain⟨bs,p⟩:=oq I sm b rr
   exact⟨_,.cons q p⟩
end
def Qh(K:W.Frag)(g:D->D->Option Bool):R2:=fun v1 v2 H Q=>∃HF x y k,aL HF H/\Rep K HF x v1/\Rep K HF y v2/\g x y=some k/\Q (.bl k) H
theorem lg{g:D->D->Option Bool}:fM K (Qh K g) (fun x y=>(g x y).map PyData.bool):=by
 intro HF H x y v1 v2 d Q sm r1 r2 hg q
 have hg:(g x y).map PyData.bool=some d:=hg
 cases e:g x y with
 | none=>rw[e] at hg;cases hg
 | some k=>rw[e] at hg;cases hg;exact⟨HF,x,y,k,sm,r1,r2,e,q _ H HF (.refl sm) (by simp[Rep])⟩
def Lo(x y:D):Option Bool:=if SeqAt.shaped x=true/\SeqAt.shaped y=true then some (PyData.eqv x y) else none
def Ru(x y:D):Option Bool:=if SeqAt.shaped x=true/\SeqAt.shaped y=true then some (!PyData.eqv x y) else none
theorem Hw(hu:X.A.units+64 < cLine):hU X (compareOp .Eq) (Qh X.K Lo):=by
 intro pins s σ H v1 v2 u1 u2 Q I rx ry h
 obtain⟨HF,x,y,k,sm,r1,r2,hg,q⟩:=h
 unfold Lo at hg
 split at hg<;>cases hg
 rename_i hh
 obtain⟨as,ra⟩:=dc I sm r1 rx
 obtain⟨bs,rb⟩:=dc I sm r2 ry
 exact eq_dataH ra rb hh.1 hh.2 hu ⟨.bl _,H,I,rfl,q⟩
theorem Iz(hu:X.A.units+64 < cLine):hU X (compareOp .NotEq) (Qh X.K Ru):=by
 intro pins s σ H v1 v2 u1 u2 Q I rx ry h
 obtain⟨HF,x,y,k,sm,r1,r2,hg,q⟩:=h
 unfold Ru at hg
 split at hg<;>cases hg
 rename_i hh
 obtain⟨as,ra⟩:=dc I sm r1 rx
 obtain⟨bs,rb⟩:=dc I sm r2 ry
 exact ne_dataH ra rb hh.1 hh.2 hu ⟨.bl _,H,I,rfl,q⟩
def items:D->Option (List D)|.tuple ds=>some ds|.list ds=>some ds|_=>none
end
def P9(K:W.Frag)(n:Nat)(m:List D->Option D):Sp:=fun vs H Q _=>∃HF ds d,aL HF H/\eu K HF/\aw K HF ds vs/\ds.length=n/\m ds=some d/\∀v H' HF',bL HF H HF' H'->Rep K HF' d v->Q v H'
structure eM(P:Program)(w:World)(K:W.Frag)(mg:Str->Option Value)(base:Heap)(k:Nat)(x:Str)(n:Nat)(m:List D->Option D):Prop where
 ex:∃ (f:Addr) (fd:FuncData) (ps:List Str),pH P w K mg base Ko k f fd ps (P9 K n m)/\mg x=some (.ref f)/\W.keepIn K (.ref f)=true/\Binds K fd ps []
theorem eM.mono{P:Program}{w:World}{K:W.Frag}{mg:Str->Option Value}{base:Heap}{k j:Nat}{x:Str}{n:Nat}{m:List D->Option D}(F:eM P w K mg base k x n m)(h:k<=j):eM P w K mg base j x n m:=by
 obtain⟨f,fd,ps,a,b,c,d⟩:=F.ex
 exact⟨f,fd,ps,a.mono h,b,c,d⟩
section
variable {X:Cx}{a b c e:Expr}{es:List Expr}{fa fb fc:Env->Option D}{fs:Env->Option (List D)}{pos p:Pos}{x:Str}
def ai(n:Nat)(m:List D->Option D)(fs:Env->Option (List D)):Env->Option D:=fun ρ=>(fs ρ).bind fun ds=>if ds.length=n then m ds else none
theorem Mi{m:List D->Option D}(F:eM X.prog X.w X.K X.mg X.base k x n m)(hr:dZ k X.A)(hg:Gl X x)(ha:DA X (e::es) fs)(hdb:(x == ("__debug__":Str))=false:=by decide)
  (he:starEach (e::es) X.env=(false,eval e X.env)::starEach es X.env:=by rfl) (hpl:(backTo pos (starEach es X.env)).any (·.1)=false:=by rfl):DE X (.Call (.Name x p) (e::es) [] pos) (ai n m fs):=by
 obtain⟨f,fd,ps,ok,hm,hk,hb⟩:=F.ex
 refine bf (Et (E:=E0) ok hr hg hm hk hb .nil Ra ha hdb he hpl) fun σ H Q ⟨HF,ρ,d,sm,eo,hf,q⟩=>?_
 obtain⟨ds,hx,hf⟩:=bs hf
 split at hf
 ·rename_i hl
  exact⟨HF,ρ,ds,sm,eo,hx,fun vs H1 HF1 g1 r1=>⟨HF1,ds,d,g1.fh,eo.tb.mono g1.ff,by rw[qF];exact r1,hl,hf,fun v H' HF' g r=>q v H' HF' (g1.trans g) r⟩⟩
 ·cases hf
def Ii(K:W.Frag)(r:List V->Hp->VK->Prop)(g:List D->Option D):Prop:=∀HF H ds vs d Q,aL HF H->aw K HF ds vs->g ds=some d->(∀v H' HF',bL HF H HF' H'->Rep K HF' d v->Q v H')->r vs H Q
def bA(g:List D->Option D)(fs:Env->Option (List D)):Env->Option D:=fun ρ=>(fs ρ).bind g
theorem Qe{r:List V->Hp->VK->Prop}{g:List D->Option D}(hs:Ii X.K r g):∀σ H Q,tD X.K (bA g fs) σ H Q->Ro r (Se X.K fs) σ H Q:=fun σ H Q ⟨HF,ρ,d,sm,eo,hf,q⟩=>by
 obtain⟨ds,hx,hf⟩:=bs hf
 exact⟨HF,ρ,ds,sm,eo,hx,fun vs H1 HF1 g1 r1=>hs HF1 H1 ds vs d Q g1.fh r1 hf fun v H' HF' g2 r2=>q v H' HF' (g1.trans g2) r2⟩
def D3(K:W.Frag)(r:List V->Hp->VK->Prop)(g:List D->Option (List D)):Prop:=∀HF H ds vs es Q,aL HF H->aw K HF ds vs->g ds=some es ->
 (∀a us H' HF',bL HF H HF' H'->H a=none->HF' a=none->H' a=some (.lst us)->aw K HF' es us->Q (.ref a) H')->r vs H Q
def kn(g:List D->Option (List D))(fs:Env->Option (List D)):Env->Option (List D):=fun ρ=>(fs ρ).bind g
theorem MZ{r:List V->Hp->VK->Prop}{g:List D->Option (List D)}(hs:D3 X.K r g):∀σ H Q,tF X.K (kn g fs) σ H Q->Ro r (Se X.K fs) σ H Q:=fun σ H Q ⟨HF,ρ,d,sm,eo,hf,q⟩=>by
 obtain⟨ds,hx,hf⟩:=bs hf
 exact⟨HF,ρ,ds,sm,eo,hx,fun vs H1 HF1 g1 r1=>hs HF1 H1 ds vs d Q g1.fh r1 hf fun a us H' HF' g2 ha hf' h' r2=>q a us H' HF' (g1.trans g2) (g1.hh.free ha) hf' h' r2⟩
structure pN(X:Cx)(x:Str)(v:Value):Prop where
 gl:Gl X x
 mg:X.mg x=none
 bt:bootBuiltins x=some v
theorem k8{r:List V->Hp->VK->Prop}{g:List D->Option D}(hc:eT X (.builtin id) r)(hs:Ii X.K r g)(B:pN X x (.builtin id))(ha:DA X (e::es) fs)(hn:x≠"__name__":=by decide)(hdb:(x == ("__debug__":Str))=false:=by decide)
  (he:starEach (e::es) X.env=(false,eval e X.env)::starEach es X.env:=by rfl) (hpl:(backTo pos (starEach es X.env)).any (·.1)=false:=by rfl):DE X (.Call (.Name x p) (e::es) [] pos) (bA g fs) :=
 bf (nr hc B.gl B.mg B.bt ha hn hdb he hpl) (Qe hs)
theorem IK{r:List V->Hp->VK->Prop}{g:List D->Option (List D)}(hc:eT X (.builtin id) r)(hs:D3 X.K r g)(B:pN X x (.builtin id))(ha:DA X (e::es) fs)(hn:x≠"__name__":=by decide)(hdb:(x == ("__debug__":Str))=false:=by decide)
  (he:starEach (e::es) X.env=(false,eval e X.env)::starEach es X.env:=by rfl) (hpl:(backTo pos (starEach es X.env)).any (·.1)=false:=by rfl):DF X (.Call (.Name x p) (e::es) [] pos) (kn g fs) :=
 bf (nr hc B.gl B.mg B.bt ha hn hdb he hpl) (MZ hs)
theorem Gc{r:List V->Hp->VK->Prop}{g:List D->Option D}(hc:eT X (.type T) r)(hs:Ii X.K r g)(B:pN X x (.type T))(ha:DA X (e::es) fs)(hn:x≠"__name__":=by decide)(hdb:(x == ("__debug__":Str))=false:=by decide)
  (he:starEach (e::es) X.env=(false,eval e X.env)::starEach es X.env:=by rfl) (hpl:(backTo pos (starEach es X.env)).any (·.1)=false:=by rfl):DE X (.Call (.Name x p) (e::es) [] pos) (bA g fs) :=
 bf (oE hc B.gl B.mg B.bt ha hn hdb he hpl) (Qe hs)
theorem F5{r:List V->Hp->VK->Prop}{g:List D->Option (List D)}(hc:eT X (.type T) r)(hs:D3 X.K r g)(B:pN X x (.type T))(ha:DA X (e::es) fs)(hn:x≠"__name__":=by decide)(hdb:(x == ("__debug__":Str))=false:=by decide)
  (he:starEach (e::es) X.env=(false,eval e X.env)::starEach es X.env:=by rfl) (hpl:(backTo pos (starEach es X.env)).any (·.1)=false:=by rfl):DF X (.Call (.Name x p) (e::es) [] pos) (kn g fs) :=
 bf (oE hc B.gl B.mg B.bt ha hn hdb he hpl) (MZ hs)
def fE:D->Option (List D)|.tuple ds=>some ds|.list ds=>some ds|_=>none
def oneOf:List D->Option D|[d]=>some d|_=>none
theorem iV(h:oneOf ds=some d):ds=[d]:=by
 cases ds with
 | nil=>cases h
 | cons x r=>cases r with
  | nil=>cases h;rfl
  | cons _ _=>cases h
theorem mI(h:fE d=some ds):d=.tuple ds\/d=.list ds:=by
 cases d<;>cases h
 ·exact .inr rfl
 ·exact .inl rfl
def cK:List D->Option (List D):=fun ds=>(oneOf ds).bind fE
theorem gM{ds es:List D}(h:cK ds=some es):ds=[.tuple es]\/ds=[.list es]:=by
 obtain⟨d,h1,h2⟩:=bs h
 rw[iV h1]
 rcases mI h2 with rfl|rfl
 ·exact .inl rfl
 ·exact .inr rfl
def bS:List D->Option D:=fun ds=>(cK ds).map fun es=>.int es.length
theorem ah{α β:Type}{x:Option α}{f:α->β}{b:β}(h:x.map f=some b):∃a,x=some a/\f a=b:=by
 cases x with
 | none=>cases h
 | some a=>exact⟨a,rfl,xD h⟩
theorem LH:Ii K (fun xs H Q=>∃p ys,xs=[.ref p]/\(ig K H p ys\/iN K H p ys)/\Q (.int ys.length) H) bS:=by
 intro HF H ds vs d Q sm r hg q
 obtain⟨es,h1,rfl⟩:=ah hg
 rcases gM h1 with rfl|rfl
 all_goals
  obtain⟨v,r',rfl,a,b⟩:=r.cons_inv
  rw[b.nil_inv]
  simp only[Rep] at a
  obtain⟨p,us,rfl,h,rr⟩:=a
 ·exact⟨p,us,rfl,.inr (aD sm h),q _ H HF (.refl sm) (by simp[Rep,rr.length])⟩
 ·exact⟨p,us,rfl,.inl (sm.seq h),q _ H HF (.refl sm) (by simp[Rep,rr.length])⟩
theorem O3(B:pN X "len" (.builtin "len"))(ha:DA X [e] fs)(he:starEach [e] X.env=(false,eval e X.env)::starEach [] X.env:=by rfl):DE X (.Call (.Name "len" p) [e] [] pos) (bA bS fs) :=
 k8 wt LH B ha (by decide) (by decide) he rfl
theorem GV:D3 K (fun xs H Q=>∃p ys,xs=[.ref p]/\(ig K H p ys\/iN K H p ys)/\∀l,H l=none->Q (.ref l) (upd H l (.lst ys))) cK:=by
 intro HF H ds vs d Q sm r hg q
 rcases gM hg with rfl|rfl
 all_goals
  obtain⟨v,r',rfl,a,b⟩:=r.cons_inv
  rw[b.nil_inv]
  simp only[Rep] at a
  obtain⟨p,us,rfl,h,rr⟩:=a
 ·exact⟨p,us,rfl,.inr (aD sm h),fun l hl=>q l us _ HF (.own sm hl) hl (sm.free hl) aA rr⟩
 ·exact⟨p,us,rfl,.inl (sm.seq h),fun l hl=>q l us _ HF (.own sm hl) hl (sm.free hl) aA rr⟩
theorem L7(B:pN X "list" (.type "list"))(ha:DA X [e] fs)(he:starEach [e] X.env=(false,eval e X.env)::starEach [] X.env:=by rfl):DF X (.Call (.Name "list" p) [e] [] pos) (kn cK fs) :=
 F5 ya GV B ha (by decide) (by decide) he rfl
theorem eF{l:Addr}(h:HF l=none)(r:aw K HF ds vs):Rep K (upd HF l (.tup vs)) (.tuple ds) (.ref l):=by
 simp only[Rep];exact⟨l,vs,rfl,.inl (.inl aA),r.mono (dS h)⟩
theorem FW:Ii K (fun xs H Q=>∃p ys,xs=[.ref p]/\((ig K H p ys/\∀l,H l=none->Q (.ref l) (upd H l (.tup ys)))\/(iN K H p ys/\Q (.ref p) H))) (fun ds=>(cK ds).map PyData.tuple):=by
 intro HF H ds vs d Q sm r hg q
 obtain⟨es,h1,rfl⟩:=ah hg
 rcases gM h1 with rfl|rfl
 all_goals
  obtain⟨v,r',rfl,a,b⟩:=r.cons_inv
  rw[b.nil_inv]
  have a':=a
  simp only[Rep] at a
  obtain⟨p,us,rfl,h,rr⟩:=a
 ·exact⟨p,us,rfl,.inr ⟨aD sm h,q _ H HF (.refl sm) a'⟩⟩
 ·exact⟨p,us,rfl,.inl ⟨sm.seq h,fun l hl=>q _ _ _ (.new sm hl) (eF (sm.free hl) rr)⟩⟩
theorem HY(B:pN X "tuple" (.type "tuple"))(ha:DA X [e] fs)(he:starEach [e] X.env=(false,eval e X.env)::starEach [] X.env:=by rfl):DE X (.Call (.Name "tuple" p) [e] [] pos) (bA (fun ds=>(cK ds).map PyData.tuple) fs) :=
 Gc tG FW B ha (by decide) (by decide) he rfl
def gX:D->String|.none=>"NoneType" | .bool _=>"bool" | .int _=>"int" | .str _=>"str" | .tuple _=>"tuple" | .list _=>"list" | .dict _=>"dict"
def wy(a b:String):Option Bool:=if ((Value.type a) == (Value.type b))=true then some true else if W.kitMeta b=true then (fastBuiltinMro a).map (·.contains (Value.type b)) else none
theorem K1:∀a∈["NoneType","bool","int","str","tuple","list"],wy a "int"=some (a == "int"||a == "bool"):=by decide +kernel
theorem JA:∀a∈["NoneType","bool","int","str","tuple","list"],wy a "bool"=some (a == "bool"):=by decide +kernel
theorem kit_tuple:∀a∈["NoneType","bool","int","str","tuple","list"],wy a "tuple"=some (a == "tuple"):=by decide +kernel
theorem Jm{pins:List (Addr×Obj)}{s:Shared}{A:Around}{E:Value->Shared->Prop}{Q:Value->Shared->Prop}{v:V}{u:Value}{k:Bool}(I:Inv X pins σ H s)(sm:aL HF H)(r:Rep X.K HF d v)(rv:RelV v u)
  (e:wy (gX d) T=some k) (h:∀tk,Q (.bool k) { s with toks:=tk }):wpAny (model X.prog X.w) A (call (.builtin "isinstance") [u,.type T]) Q E s:=by
 have e':W.kitOne X.K (.type (gX d)) (.type T)=some k:=e
 cases d<;>simp only[Rep] at r
 ·subst r;cases rv;exact W.kia_one W.kitx_none I.kIn True.intro e' (fun z=>nomatch z) h
 ·subst r;cases rv;exact W.kia_one W.kitx_bool I.kIn True.intro e' (fun z=>nomatch z) h
 ·subst r;obtain⟨t,rfl⟩:=rv;exact W.kia_one W.kitx_int I.kIn True.intro e' (fun z=>nomatch z) h
 ·subst r;obtain⟨t,rfl⟩:=rv;exact W.kia_one W.kitx_str I.kIn True.intro e' (fun z=>nomatch z) h
 ·obtain⟨a,vs,rfl,hs,rr⟩:=r
  cases rv
  obtain⟨its,rv,pl,_⟩:=I.list (sm.seq hs)
  obtain⟨o,ho,hc,n,hd⟩:=pl.isList
  exact W.kia_one W.kitx_list I.kIn ⟨o,ho,hc⟩ e' (fun z=>nomatch z) h
 ·obtain⟨a,vs,rfl,hs,rr⟩:=r
  cases rv
  obtain⟨its,rv,⟨o,ho,hc,n,hd⟩,_⟩:=I.tuple (aD sm hs)
  exact W.kia_one W.kitx_tuple I.kIn ⟨o,ho,hc⟩ e' (fun z=>nomatch z) h
def M1(T:String)(f:Env->Option D):Env->Option D:=fun ρ=>(f ρ).bind fun d=>(wy (gX d) T).map PyData.bool
theorem Q7{xT:Str}{pT:Pos}(B:pN X "isinstance" (.builtin "isinstance"))(C:pN X xT (.type T))(h:DE X e f)(hn:xT≠"__name__":=by decide)(hd:(xT == ("__debug__":Str))=false:=by decide)
  (he:starEach [e,.Name xT pT] X.env=(false,eval e X.env)::starEach [.Name xT pT] X.env:=by rfl):DE X (.Call (.Name "isinstance" p) [e,.Name xT pT] [] pos) (M1 T f):=by
 have hc:eT X (.builtin "isinstance") (fun xs H Q=>∃HF d v k,xs=[v,.ty T]/\aL HF H/\Rep X.K HF d v/\wy (gX d) T=some k/\Q (.bl k) H):=by
  intro pins s σ H xs us Q I r h
  obtain⟨HF,d,v,k,rfl,sm,rp,hk,q⟩:=h
  cases r with
  | cons ra rr =>
   cases rr with
   | cons rb rn =>
    cases rn
    cases rb
    exact Jm I sm rp ra hk fun tk=>⟨.bl k,H,I.tok _,rfl,q⟩
 refine bf (nr hc B.gl B.mg B.bt (cq h (cq (L5 (v:=.ty T) C.gl C.mg C.bt rfl hn hd) eG) he) (by decide) (by decide) he rfl) fun σ H Q ⟨HF,ρ,d,sm,eo,hf,q⟩=>?_
 obtain⟨x,hx,hf⟩:=bs hf
 obtain⟨k,hk,rfl⟩:=ah hf
 exact⟨HF,ρ,x,sm,eo,hx,fun v1 H1 HF1 g1 r1=>⟨HF1,x,v1,k,rfl,g1.fh,r1,hk,q _ H1 HF1 g1 (by simp[Rep])⟩⟩
def Lf:D->D->Option D
 | .tuple xs,.tuple ys=>(small (xs++ys)).map PyData.tuple
 | _,_=>none
def DN(K:W.Frag):R2:=fun x y H Q=>∃a b xs ys,x=.ref a/\y=.ref b/\iN K H a xs/\iN K H b ys/\xs.length+ys.length<=sizeLine /\
 (xs=[]->Q (.ref b) H)/\(ys=[]->Q (.ref a) H)/\(∀p,H p=none->Q (.ref p) (upd H p (.tup (xs++ys))))
theorem FH:hU X (binaryOp .Add) (DN X.K):=by
 intro pins s σ H x y v u Q I rx ry h
 obtain⟨a,b,xs,ys,rfl,rfl,ha,hb,hz,q0,q1,q2⟩:=h
 by_cases hx:xs=[]
 ·cases rx
  cases ry
  obtain⟨its,r1,p1,_⟩:=I.tuple ha
  obtain⟨its2,r2,p2,_⟩:=I.tuple hb
  obtain⟨⟨cls,dd,data,sl⟩,ho,hc,n,hd⟩:=id p1
  obtain⟨⟨cls2,dd2,data2,sl2⟩,ho2,hc2,n2,hd2⟩:=id p2
  simp only at hc hd hc2 hd2
  subst hc hd hc2 hd2
  have e:its=[]:=(L2.aE.nil_iff r1).mpr hx
  exact Zd ⟨_,ho,rfl⟩ ⟨_,ho2,rfl⟩ noFill_tuple_add seq_tuple_add vS vM (vJ _ _)
   (tuple_addW0 a b its.toArray its2.toArray n n2 dd dd2 sl sl2 (by simp[e])) ⟨ho,ho2,⟨.ref b,H,I,rfl,q0 hx⟩⟩
 ·exact KI pins s σ H _ _ v u Q I rx ry ⟨a,b,xs,ys,rfl,rfl,ha,hb,hx,hz,q1,fun _ p hp=>q2 p hp⟩
theorem KC:fM K (DN K) Lf:=by
 intro HF H x y v1 v2 d Q sm r1 r2 hg q
 cases x<;>cases y<;>simp only[Lf] at hg<;>try cases hg
 rename_i xs ys
 obtain⟨es,h1,rfl⟩:=ah hg
 obtain⟨rfl,hz⟩:=eA h1
 have r1':=r1
 have r2':=r2
 simp only[Rep] at r1 r2
 obtain⟨a,vs,rfl,ha,ra⟩:=r1
 obtain⟨b,us,rfl,hb,rb⟩:=r2
 refine⟨a,b,vs,us,rfl,rfl,aD sm ha,aD sm hb,by rw[ra.length,rb.length,<- zN];exact hz,fun e=>?_,fun e=>?_,fun p hp=>q _ _ _ (.new sm hp) (eF (sm.free hp) (ra.append rb))⟩
 ·have:xs=[]:=by have:=ra.length;rw[e] at this;exact List.length_eq_zero_iff.mp this.symm
  subst this
  exact q _ H HF (.refl sm) r2'
 ·have:ys=[]:=by have:=rb.length;rw[e] at this;exact List.length_eq_zero_iff.mp this.symm
  subst this
  rw[qF] at q
  exact q _ H HF (.refl sm) r1'
end
structure uK(K:W.Frag)(J:It)(HF:Hp)(ds:List D):Prop where
 go:∀i d H₁ HF₁,ds[i]?=some d->aL HF HF₁->aL HF₁ H₁->J.go i H₁/\∀x H₂,J.yld i H₁ x H₂->∃HF₂,bL HF₁ H₁ HF₂ H₂/\Rep K HF₂ d x
 stop:∀H₁ HF₁,aL HF HF₁->aL HF₁ H₁->J.stop ds.length H₁
def SG(K:W.Frag)(f:Env->Option (List D)):TI:=fun σ H R=>∃HF ρ ds,aL HF H/\cU K HF ρ σ/\f ρ=some ds/\∀J H' HF',bL HF H HF' H'->uK K J HF' ds->R J H'
def DI(X:Cx)(tg iter:Expr)(f:Env->Option (List D)):Prop:=PI X tg iter (SG X.K f)
theorem Fq{a:Addr}(h:ig K HF a vs)(r:aw K HF ds vs):uK K (Rz K a) HF ds where
 go:=fun i d H₁ HF₁ e s1 s2=>by
  obtain⟨v,hv,rv⟩:=r.getD e
  have q:=s2.seq (s1.seq h)
  refine⟨⟨vs,v,q,hv⟩,fun x H₂ ⟨e2,hy⟩=>⟨HF₁,by rw[e2];exact .refl s2,?_⟩⟩
  have:=hy vs q
  rw[hv] at this
  cases this
  exact rv.mono s1
 stop:=fun H₁ HF₁ s1 s2=>⟨vs,s2.seq (s1.seq h),by rw[r.length];exact yM _⟩
theorem GJ{a:Addr}(h:iN K HF a vs)(r:aw K HF ds vs):uK K (R0 K a) HF ds where
 go:=fun i d H₁ HF₁ e s1 s2=>by
  obtain⟨v,hv,rv⟩:=r.getD e
  have q:=aD s2 (aD s1 h)
  refine⟨⟨vs,v,q,hv⟩,fun x H₂ ⟨e2,hy⟩=>⟨HF₁,by rw[e2];exact .refl s2,?_⟩⟩
  have:=hy vs q
  rw[hv] at this
  cases this
  exact rv.mono s1
 stop:=fun H₁ HF₁ s1 s2=>⟨vs,aD s2 (aD s1 h),by rw[r.length];exact yM _⟩
theorem Cg{lo:Int}:uK K (Rg lo n) HF ((List.range n).map fun i=>PyData.int (lo+(i:Nat))) where
 go:=fun i d H₁ HF₁ e s1 s2=>by
  rw[zO] at e
  obtain⟨j,hj,rfl⟩:=ah e
  obtain⟨hi,hj'⟩:=List.getElem?_eq_some_iff.mp hj
  have hi':i < n:=by simpa using hi
  have:j=i:=by rw[<- hj'];simp
  subst this
  exact⟨hi',fun x H₂ ⟨e2,hx⟩=>⟨HF₁,by rw[e2];exact .refl s2,by simp[Rep,hx]⟩⟩
 stop:=fun H₁ HF₁ s1 s2=>by
  show n<=_
  simp
section
variable {X:Cx}{tg l e:Expr}{f:Env->Option D}{fs:Env->Option (List D)}{pos p:Pos}
theorem vy{t t':TI}(h:PI X tg l t)(i:∀σ H R,t' σ H R->t σ H R):PI X tg l t':=fun pins s σ H R I q=>h pins s σ H R I (i σ H R q)
theorem Pw{tl:TE}(hl:PE X l tl):PI X tg l (fun σ H R=>tl σ H fun x H1=>∃a,x=.ref a/\((∃xs,ig X.K H1 a xs/\R (Rz X.K a) H1)\/∃xs,iN X.K H1 a xs/\R (R0 X.K a) H1)):=by
 intro pins s σ H R I h
 refine cF (hl pins s σ H _ I h) fun v s1 ⟨x,H1,I1,r1,q1⟩=>?_
 obtain⟨a,e,q⟩:=q1
 subst e
 cases r1
 rcases q with ⟨xs,hq,q⟩|⟨xs,hq,q⟩
 ·obtain⟨its,rv,pl,hz⟩:=I1.list hq
  refine qK pl.isList ⟨s1.heap.objs.size,[s1.heap.objs.size],_,_,H1,rfl,I1.kept (t':=s1.toks) fun b o e=>zU _ e,F0 a _,⟨_,zX _ rfl,rfl,rfl⟩,fun b hb=>?_,q⟩
  cases List.mem_singleton.mp hb
  exact I1.fpOk (yM _) I1.fresh
 ·obtain⟨its,rv,pl,hz⟩:=I1.tuple hq
  refine xR (show s1.heap.IsTuple a its.toArray from pl) ⟨s1.heap.objs.size,[s1.heap.objs.size],_,_,H1,rfl,I1.kept (t':=s1.toks) fun b o e=>zU _ e,CU a _,⟨_,zX _ rfl,rfl,rfl⟩,fun b hb=>?_,q⟩
  cases List.mem_singleton.mp hb
  exact I1.fpOk (yM _) I1.fresh
def aQ(f:Env->Option D):Env->Option (List D):=fun ρ=>(f ρ).bind fE
theorem GU(h:DE X l f):DI X tg l (aQ f):=vy (Pw h) fun σ H R ⟨HF,ρ,ds,sm,eo,hf,q⟩=>by
 obtain⟨x,hx,hf⟩:=bs hf
 refine⟨HF,ρ,x,sm,eo,hx,fun v1 H1 HF1 g1 r1=>?_⟩
 rcases mI hf with rfl|rfl
 ·simp only[Rep] at r1
  obtain⟨a,vs,rfl,hs,rr⟩:=r1
  exact⟨a,rfl,.inr ⟨vs,aD g1.fh hs,q _ H1 HF1 g1 (GJ hs rr)⟩⟩
 ·simp only[Rep] at r1
  obtain⟨a,vs,rfl,hs,rr⟩:=r1
  exact⟨a,rfl,.inl ⟨vs,g1.fh.seq hs,q _ H1 HF1 g1 (Fq hs rr)⟩⟩
def BD(i:Int):Bool:=decide (-(2 ^ 62)<=i)&&decide (i < 2 ^ 62)
def mh:List D->Option (List D)
 | [.int j]=>if BD j then some ((List.range j.toNat).map fun i=>PyData.int ((i:Nat):Int)) else none
 | _=>none
theorem Ap{ds es:List D}(h:mh ds=some es):∃j,ds=[.int j]/\BD j=true/\es=(List.range j.toNat).map fun i=>PyData.int ((i:Nat):Int):=by
 unfold mh at h
 split at h
 ·split at h
  ·cases h;exact⟨_,rfl,‹_›,rfl⟩
  ·cases h
 ·cases h
def aZ(fs:Env->Option (List D)):Env->Option (List D):=fun ρ=>(fs ρ).bind mh
theorem Jd(B:pN X "range" (.type "range"))(h:DA X [e] fs)(hs:starEach [e] X.env=[(false,eval e X.env)]:=by rfl):DI X tg (.Call (.Name "range" p) [e] [] pos) (aZ fs) :=
 vy (Fw B.gl B.mg h hs) fun σ H R ⟨HF,ρ,ds,sm,eo,hf,q⟩=>by
  obtain⟨x,hx,hf⟩:=bs hf
  obtain⟨j,rfl,hj,rfl⟩:=Ap hf
  refine⟨HF,ρ,_,sm,eo,hx,fun vs H1 HF1 g1 r1=>?_⟩
  obtain⟨v,r,rfl,a,b⟩:=r1.cons_inv
  rw[b.nil_inv]
  simp only[Rep] at a
  subst a
  unfold BD at hj
  rw[zF] at hj
  refine⟨j,rfl,yQ hj.1,yQ hj.2,q _ H1 HF1 g1 ?_⟩
  have:=Cg (K:=X.K) (HF:=HF1) (lo:=0) (n:=j.toNat)
  simpa using this
def Rr(K:W.Frag)(f:Env->D->Option Env):TG:=fun v σ H Q=>∃HF ρ d ρ',aL HF H/\cU K HF ρ σ/\Rep K HF d v/\f ρ d=some ρ'/\∀σ',cU K HF ρ' σ'->cU K HF ρ σ'->Q σ' H
def DG(X:Cx)(tg:Expr)(f:Env->D->Option Env):Prop:=PG X tg (Rr X.K f)
theorem rg{t t':TG}(h:PG X tg t)(i:∀v σ H Q,t' v σ H Q->t v σ H Q):PG X tg t':=fun pins s σ H v u Q I r q=>h pins s σ H v u Q I r (i v σ H Q q)
def isFree(ρ:Env)(i:Nat):Bool:=((ρ[i]?).getD none).isNone
theorem jn{ρ:Env}{v:V}(eo:cU K HF ρ σ)(r:Rep K HF d v):cU K HF (ρ.set i (some d)) (σ.set i (some v)):=by
 refine⟨fun j e h=>?_,by rw[yC,yC];exact eo.len,eo.tb⟩
 rw[xI] at h ⊢
 by_cases hij:i=j
 ·rw[yL hij] at h ⊢
  by_cases hl:i < ρ.length
  ·rw[yL hl] at h
   cases h
   rw[yL (zP hl eo.len)]
   exact⟨v,rfl,r⟩
  ·rw[yN hl] at h;cases h
 ·rw[yN hij] at h ⊢
  exact eo.get j e h
theorem lF{ρ:Env}{v:V}(eo:cU K HF ρ σ)(hf:isFree ρ i=true):cU K HF ρ (σ.set i (some v)):=by
 refine⟨fun j e h=>?_,by rw[yC];exact eo.len,eo.tb⟩
 have hij:i≠j:=by
  intro z;subst z
  unfold isFree at hf;rw[h] at hf;cases hf
 rw[xI,yN hij]
 exact eo.get j e h
def fG(i:Nat):Env->D->Option Env:=fun ρ d=>if isFree ρ i=true then some (ρ.set i (some d)) else none
theorem Lj(i:Nat)(hN:X.N.Nodup)(hi:X.N[i]?=some x)(hx:Loc X.env.scope x)(hf:X.fn x=true\/X.env.scope.names.lookup x=some .local:=by first|exact .inl rfl|exact .inr rfl|assumption):DG X (.Name x pos) (fG i) :=
 rg (dA hN hi hx hf) fun v σ H Q ⟨HF,ρ,d,ρ',sm,eo,r,hf,q⟩=>by
  unfold fG at hf
  split at hf
  ·cases hf;exact q _ (jn eo r) (lF eo ‹_›)
  ·cases hf
def ft(i j:Nat):Env->D->Option Env:=fun ρ d=>match d with
 | .tuple [x,y]=>if isFree ρ i=true/\isFree ρ j=true then some ((ρ.set i (some x)).set j (some y)) else none
 | _=>none
theorem Ph(i j:Nat){px py:Pos}{k:Nat}(hc:X.calm=true)(hN:X.N.Nodup)(hi:X.N[i]?=some x)(hx:Loc X.env.scope x)(hj:X.N[j]?=some y)(hy:Loc X.env.scope y)
  (hf:X.fn x=true\/X.env.scope.names.lookup x=some .local:=by first|exact .inl rfl|exact .inr rfl|assumption) (hf':X.fn y=true\/X.env.scope.names.lookup y=some .local:=by first|exact .inl rfl|exact .inr rfl|assumption) :
  DG X (.Tuple [.Name x px,.Name y py] k pos) (ft i j) :=
 rg (vt hc (dw (dA hN hi hx hf) (dw (dA hN hj hy hf') pY))) fun v σ H Q ⟨HF,ρ,d,ρ',sm,eo,r,hf,q⟩=>by
  unfold ft at hf
  split at hf
  ·rename_i x' y'
   split at hf
   ·rename_i hh
    cases hf
    simp only[Rep] at r
    obtain⟨a,vs,rfl,hs,rr⟩:=r
    obtain⟨v1,r1,rfl,a1,b1⟩:=rr.cons_inv
    obtain⟨v2,r2,rfl,a2,b2⟩:=b1.cons_inv
    rw[b2.nil_inv] at hs
    exact⟨a,_,rfl,aD sm hs,rfl,v1,_,rfl,v2,_,rfl,rfl,q _ (jn (jn eo a1) a2) (lF (lF eo hh.1) hh.2)⟩
   ·cases hf
  ·cases hf
def cG(tgt:Env->D->Option Env)(tt:Env->Option Bool)(te:Env->Option D)(ρ:Env):List D->Option (List D)
 | []=>some []
 | d::ds=>(tgt ρ d).bind fun ρ'=>(tt ρ').bind fun b=>if b=true then (te ρ').bind fun x=>(cG tgt tt te ρ ds).map (x::·) else cG tgt tt te ρ ds
def P3(X:Cx)(ifs:List Expr)(f:Env->Option Bool):Prop:=PL X ifs (NT X.K f)
theorem Me:P3 X [] (fun _=>some true):=fun pins s σ H Q I ⟨HF,ρ,b,sm,eo,hf,q⟩=>LV pins s σ H Q I (by cases hf;exact q H HF (.refl sm))
theorem Ms{t:Env->Option Bool}(h:DT X c t):P3 X [c] t:=Mc h
def ka(t:Nat)(cs:List Nat)(σ:L2.St):L2.St:=List.replicate t none++cs.map fun j=>(σ[j]?).getD none
def ej(t:Nat)(cs:List Nat)(ρ:Env):Env:=List.replicate t none++cs.map fun j=>(ρ[j]?).getD none
theorem DU{ρ:Env}(eo:cU K HF ρ σ):cU K HF (ej t cs ρ) (ka t cs σ):=by
 refine⟨fun i d h=>?_,by simp[ej,ka],eo.tb⟩
 unfold ej at h
 unfold ka
 by_cases hi:i < t
 ·rw[yS (by simpa using hi),yX,yL hi] at h
  cases h
 ·rw[yT (by simpa using hi),zO,xM] at h
  rw[yT (by simpa using hi),zO,xM]
  obtain⟨j,hj,h⟩:=ah h
  rw[hj]
  cases e:ρ[j]? with
  | none=>rw[e] at h;cases h
  | some o =>
   rw[e] at h
   have h:o=some d:=h
   subst h
   obtain⟨v,a,b⟩:=eo.get j d e
   exact⟨v,by show some ((σ[j]?).getD none)=_;rw[a];rfl,b⟩
def ao(t:Nat)(cs:List Nat)(fi:Env->Option (List D))(tgt:Env->D->Option Env)(tt:Env->Option Bool)(te:Env->Option D):Env->Option (List D):=fun ρ=>(fi ρ).bind fun ds=>(cG tgt tt te (ej t cs ρ) ds).bind small
variable {elt iter:Expr}{ifs:List Expr}{scope:Scope}{N:List Str}{t:Nat}{cs:List Nat}{fi:Env->Option (List D)}{tgt:Env->D->Option Env}{tt:Env->Option Bool}{te:Env->Option D}
theorem Iy:∀σ H Q,tF X.K (ao t cs fi tgt tt te) σ H Q->Hv (SG X.K fi) (Rr X.K tgt) (NT X.K tt) (tD X.K te) (ka t cs) σ H Q:=fun σ H Q ⟨HF,ρ,out,sm,eo,hf,q⟩=>by
 obtain⟨ds,hx,hf⟩:=bs hf
 obtain⟨out',ho,hf⟩:=bs hf
 obtain⟨rfl,hz⟩:=eA hf
 refine⟨HF,ρ,ds,sm,eo,hx,fun J H1 HF1 g1 it Dn hD=>?_⟩
 have eo1:=DU (t:=t) (cs:=cs) (eo.mono g1.ff)
 have hFD:HF1 Dn=none:=g1.fh.free hD
 refine⟨fun i m σ' H'=>m+i=ds.length/\∃HF' xs ys rest,bL HF1 H1 HF' H'/\HF' Dn=none/\H' Dn=some (.lst ys)/\aw X.K HF' xs ys/\cU X.K HF' (ej t cs ρ) σ'/\cG tgt tt te (ej t cs ρ) (ds.drop i)=some rest/\xs++rest=out,
  ⟨ds.length,rfl,HF1,[],[],out,.own g1.fh hD,hFD,aA,aw.nil,eo1,ho,rfl⟩,?_⟩
 rintro i m σ' H' ⟨hm,HF',xs,ys,rest,G,hFD',hHD,rr,eo',hc,hout⟩
 by_cases hi:i < ds.length
 ·refine .inr ?_
  have hd:ds.drop i=ds[i]::ds.drop (i+1):=vE hi
  have he:ds[i]?=some ds[i]:=List.getElem?_eq_some_iff.mpr ⟨hi,rfl⟩
  generalize ds[i]=d at hd he
  rw[hd] at hc
  unfold cG at hc
  obtain⟨ρ',h1,hc⟩:=bs hc
  obtain⟨b,h2,hc⟩:=bs hc
  obtain⟨go,yld⟩:=it.go i d H' HF' he G.ff G.fh
  refine⟨go,fun x H2 y=>?_⟩
  obtain⟨HF2,G2,rx⟩:=yld x H2 y
  refine⟨HF2,_,d,ρ',G2.fh,eo'.mono G2.ff,rx,h1,fun σ2 eo2 eo2'=>?_⟩
  refine⟨HF2,ρ',b,G2.fh,eo2,h2,fun H3 HF3 G3=>?_⟩
  have nof:∀HF4 H4,bL HF' H' HF4 H4->HF4 Dn=none:=fun HF4 H4 G4=>by
   cases e4:HF4 Dn with
   | none=>rfl
   | some o =>
    rcases G4.nw Dn o e4 with z|z
    ·rw[hFD'] at z;cases z
    ·rw[hHD] at z;cases z
  cases b with
  | false =>
   refine pI ⟨m - 1,by lia,by lia,HF3,xs,ys,rest,(G.trans G2).trans G3,nof _ _ (G2.trans G3),(G2.trans G3).hh _ _ hHD,rr.mono (G2.trans G3).ff,eo2'.mono G3.ff,by simpa using hc,hout⟩
  | true =>
   rw[yL rfl] at hc
   obtain⟨z,h3,hc⟩:=bs hc
   obtain⟨rest',h4,rfl⟩:=ah hc
   refine tY ⟨HF3,ρ',z,G3.fh,eo2.mono G3.ff,h3,fun v H4 HF4 G4 rv=>?_⟩
   have GG:=(G2.trans G3).trans G4
   have n4:=nof _ _ GG
   have h4D:=GG.hh _ _ hHD
   have hlen:ys.length < sizeLine:=by
    have e1:=rr.length
    have e2:out.length=xs.length+(rest'.length+1):=by rw[<- hout];simp
    lia
   refine⟨ys,h4D,hlen,m - 1,by lia,by lia,HF4,xs++[z],ys++[v],rest',?_,n4,aA,(rr.mono GG.ff).append (aw.cons rv aw.nil),eo2'.mono (G3.ff.trans G4.ff),h4,by simp[<- hout]⟩
   have G5:=G.trans GG
   refine⟨fun b o e=>?_,G5.ff,fun b o e=>?_,G5.nw⟩
   ·rw[ay (aN e hD)];exact G5.hh b o e
   ·rw[ay (aN e n4)];exact G5.fh b o e
 ·have hi':i=ds.length:=by lia
  subst hi'
  rw[List.drop_length] at hc
  cases hc
  rw[qF] at hout
  subst hout
  exact .inl ⟨it.stop H' HF' G.ff G.fh,q Dn ys H' HF' (g1.trans G) (g1.hh.free hD) hFD' hHD rr⟩
theorem Li(hc:X.calm=true)(S:jg X scope N (ka t cs))(hi:DI X tg iter fi)
  (hY:∀fp s H,DG (ba X scope N fp s H) tg tgt/\P3 (ba X scope N fp s H) ifs tt/\DE (ba X scope N fp s H) elt te)
  (hs:∀x,foldedSetIterable iter X.env x=pure x:=by intro _;rfl):DF X (.ListComp elt [⟨tg,iter,ifs,0⟩] scope pos) (ao t cs fi tgt tt te):=bf (Lm (g:=Rr X.K tgt) (tt:=NT X.K tt) (te:=tD X.K te) hc S hi hY hs) Iy
end
inductive Slot where
 | non|val (d:D)|own (ds:List D)
abbrev ak:=List Slot
def Slot.all:Slot->Option D|.non=>none|.val d=>some d|.own ds=>some (.list ds)
def Slot.frz:Slot->Option D|.val d=>some d|_=>none
def Slot.thaw:Slot->Slot|.own ds=>.val (.list ds)|s=>s
def aI(ρ:ak):Env:=ρ.map Slot.all
def bP(ρ:ak):Env:=ρ.map Slot.frz
def hand(fz:List Nat):Nat->ak->ak
 | _,[]=>[]
 | k,s::r=>(if fz.contains k=true then s.thaw else s)::hand fz (k+1) r
theorem iE(fz:List Nat):∀ (ρ:ak) (k i:Nat),(hand fz k ρ)[i]?=(ρ[i]?).map fun s=>if fz.contains (k+i)=true then s.thaw else s
 | [],k,i=>by simp[hand]
 | s::r,k,0=>by simp[hand]
 | s::r,k,i+1=>by
  simp only[hand,yY]
  rw[iE fz r (k+1) i,Nat.add_assoc,Nat.add_comm 1 i]
theorem A7(fz:List Nat):∀ (ρ:ak) (k:Nat),(hand fz k ρ).length=ρ.length
 | [],k=>rfl
 | s::r,k=>by simp[hand,A7 fz r (k+1)]
structure jt(K:W.Frag)(HF₀ H₀ HF H:Hp)(ρ:ak)(σ:L2.St):Prop where
 gr:bL HF₀ H₀ HF H
 val:∀ (i:Nat) (d:D),ρ[i]?=some (.val d)->∃v,σ[i]?=some (some v)/\Rep K HF d v
 own:∀ (i:Nat) (ds:List D),ρ[i]?=some (.own ds)->∃a vs,σ[i]?=some (some (.ref a))/\H a=some (.lst vs)/\HF a=none/\H₀ a=none/\aw K HF ds vs
 inj:∀ (i j:Nat) (ds es:List D) (a:Addr),ρ[i]?=some (.own ds)->ρ[j]?=some (.own es)->σ[i]?=some (some (.ref a))->σ[j]?=some (some (.ref a))->i=j
 len:ρ.length<=σ.length
 tb:eu K HF
section
variable {K:W.Frag}{HF₀ H₀ HF H HF' H':Hp}{ρ:ak}{σ:L2.St}
theorem jt.all(S:jt K HF₀ H₀ HF H ρ σ):cU K H (aI ρ) σ:=by
 refine⟨fun i d h=>?_,by simpa [aI] using S.len,S.tb.mono S.gr.fh⟩
 unfold aI at h
 rw[zO] at h
 obtain⟨s,hs,h⟩:=ah h
 cases s with
 | non=>cases h
 | val e=>cases h;obtain⟨v,a,b⟩:=S.val i _ hs;exact⟨v,a,b.mono S.gr.fh⟩
 | own ds =>
  cases h
  obtain⟨a,vs,e1,e2,e3,_,e4⟩:=S.own i ds hs
  exact⟨.ref a,e1,by simp only[Rep];exact⟨a,vs,rfl,ig.of e2,e4.mono S.gr.fh⟩⟩
theorem jt.frz(S:jt K HF₀ H₀ HF H ρ σ):cU K HF (bP ρ) σ:=by
 refine⟨fun i d h=>?_,by simpa [bP] using S.len,S.tb⟩
 unfold bP at h
 rw[zO] at h
 obtain⟨s,hs,h⟩:=ah h
 cases s with
 | non=>cases h
 | val e=>cases h;exact S.val i _ hs
 | own ds=>cases h
theorem jt.grow(S:jt K HF₀ H₀ HF H ρ σ)(g:bL HF H HF' H'):jt K HF₀ H₀ HF' H' ρ σ where
 gr:=S.gr.trans g
 val:=fun i d h=>let ⟨v,a,b⟩:=S.val i d h;⟨v,a,b.mono g.ff⟩
 own:=fun i ds h=>by
  obtain⟨a,vs,e1,e2,e3,e5,e4⟩:=S.own i ds h
  refine⟨a,vs,e1,g.hh _ _ e2,?_,e5,e4.mono g.ff⟩
  cases e:HF' a with
  | none=>rfl
  | some o =>
   rcases g.nw a o e with z|z
   ·rw[e3] at z;cases z
   ·rw[e2] at z;cases z
 inj:=S.inj
 len:=S.len
 tb:=S.tb.mono g.ff
theorem jt.step(S:jt K HF₀ H₀ HF H ρ σ)(g:aL H H'):jt K HF₀ H₀ HF H' ρ σ:=S.grow ⟨g,.refl _,S.gr.fh.trans g,fun _ _ e=>.inl e⟩
theorem jt.hand(S:jt K HF₀ H₀ HF H ρ σ)(fz:List Nat):∃HF1,aL HF HF1/\jt K HF₀ H₀ HF1 H (hand fz 0 ρ) σ:=by
 let P:Addr->Prop:=fun a=>∃i ds,fz.contains i=true/\ρ[i]?=some (.own ds)/\σ[i]?=some (some (.ref a))
 have cl:=Classical.propDecidable
 let HF1:Hp:=fun a=>if P a then H a else HF a
 have hP:∀a,P a->HF a=none/\H₀ a=none:=fun a ⟨i,ds,_,h1,h2⟩=>by
  obtain⟨a',vs,e1,e2,e3,e5,e4⟩:=S.own i ds h1
  rw[h2] at e1
  cases e1
  exact⟨e3,e5⟩
 have s1:aL HF HF1:=fun b o e=>by
  show (if P b then H b else HF b)=some o
  by_cases h:P b
  ·rw[(hP b h).1] at e;cases e
  ·rw[yN h];exact e
 have s2:aL HF1 H:=fun b o e=>by
  have e:(if P b then H b else HF b)=some o:=e
  by_cases h:P b
  ·rw[yL h] at e;exact e
  ·rw[yN h] at e;exact S.gr.fh b o e
 refine⟨HF1,s1,⟨S.gr.hh,S.gr.ff.trans s1,s2,fun b o e=>?_⟩,fun i d h=>?_,fun i ds h=>?_,fun i j ds es a h1 h2=>?_,by rw[A7];exact S.len,S.tb.mono s1⟩
 ·have e:(if P b then H b else HF b)=some o:=e
  by_cases h:P b
  ·exact .inr (hP b h).2
  ·rw[yN h] at e;exact S.gr.nw b o e
 ·rw[iE] at h
  obtain⟨s,hs,h⟩:=ah h
  rw[jD] at h
  cases s with
  | non=>split at h<;>cases h
  | val e =>
   have:Slot.val e=Slot.val d:=by split at h<;>exact h
   cases this
   obtain⟨v,a,b⟩:=S.val i _ hs
   exact⟨v,a,b.mono s1⟩
  | own ds =>
   split at h
   ·rename_i hc
    cases h
    obtain⟨a,vs,e1,e2,e3,e5,e4⟩:=S.own i ds hs
    refine⟨.ref a,e1,?_⟩
    simp only[Rep]
    refine⟨a,vs,rfl,.inl (.inl ?_),e4.mono s1⟩
    show (if P a then H a else HF a)=_
    rw[yL ⟨i,ds,hc,hs,e1⟩]
    exact e2
   ·cases h
 ·rw[iE] at h
  obtain⟨s,hs,h⟩:=ah h
  rw[jD] at h
  cases s with
  | non=>split at h<;>cases h
  | val e=>split at h<;>cases h
  | own es =>
   split at h
   ·cases h
   ·rename_i hc
    cases h
    obtain⟨a,vs,e1,e2,e3,e5,e4⟩:=S.own i ds hs
    refine⟨a,vs,e1,e2,?_,e5,e4.mono s1⟩
    show (if P a then H a else HF a)=none
    rw[yN ?_]
    ·exact e3
    ·rintro⟨j,es,hj,h1,h2⟩
     have:=S.inj i j ds es a hs h1 e1 h2
     subst this
     exact hc hj
 ·rw[iE] at h1 h2
  obtain⟨s,hs,h1⟩:=ah h1
  obtain⟨s',hs',h2⟩:=ah h2
  rw[jD] at h1 h2
  cases s with
  | non=>split at h1<;>cases h1
  | val e=>split at h1<;>cases h1
  | own xs =>
   cases s' with
   | non=>split at h2<;>cases h2
   | val e=>split at h2<;>cases h2
   | own ys=>exact S.inj i j _ _ a hs hs'
theorem jt.setV(S:jt K HF₀ H₀ HF H ρ σ){v:V}(r:Rep K HF d v):jt K HF₀ H₀ HF H (ρ.set i (.val d)) (σ.set i (some v)):=by
 have ne:∀ {j:Nat}{s:Slot},(ρ.set i (.val d))[j]?=some s->(∀e,s≠.val e)->i≠j/\ρ[j]?=some s:=fun {j s} h hn=>by
  rw[xI] at h
  by_cases hij:i=j
  ·rw[yL hij] at h
   split at h
   ·cases h;exact absurd rfl (hn _)
   ·cases h
  ·rw[yN hij] at h;exact⟨hij,h⟩
 refine⟨S.gr,fun j e h=>?_,fun j ds h=>?_,fun j k ds es a h1 h2 h3 h4=>?_,by rw[yC,yC];exact S.len,S.tb⟩
 ·rw[xI] at h ⊢
  by_cases hij:i=j
  ·rw[yL hij] at h ⊢
   split at h
   ·rename_i hl
    cases h
    rw[yL (zP hl S.len)]
    exact⟨v,rfl,r⟩
   ·cases h
  ·rw[yN hij] at h ⊢
   exact S.val j e h
 ·obtain⟨hij,h⟩:=ne h fun e z=>by cases z
  rw[xI,yN hij]
  exact S.own j ds h
 ·obtain⟨n1,h1⟩:=ne h1 fun e z=>by cases z
  obtain⟨n2,h2⟩:=ne h2 fun e z=>by cases z
  rw[xI,yN n1] at h3
  rw[xI,yN n2] at h4
  exact S.inj j k ds es a h1 h2 h3 h4
theorem jt.setO(S:jt K HF₀ H₀ HF H ρ σ){a:Addr}(hs:aL H H')(h1:H' a=some (.lst vs))(h2:HF a=none)(h3:H₀ a=none)(r:aw K HF ds vs)
  (fr:∀j es,i≠j->ρ[j]?=some (.own es)->σ[j]?≠some (some (.ref a))):jt K HF₀ H₀ HF H' (ρ.set i (.own ds)) (σ.set i (some (.ref a))):=by
 have S:=S.step hs
 refine⟨S.gr,fun j e h=>?_,fun j es h=>?_,fun j k xs ys b e1 e2 e3 e4=>?_,by rw[yC,yC];exact S.len,S.tb⟩
 ·rw[xI] at h ⊢
  by_cases hij:i=j
  ·rw[yL hij] at h
   split at h<;>cases h
  ·rw[yN hij] at h ⊢
   exact S.val j e h
 ·rw[xI] at h ⊢
  by_cases hij:i=j
  ·rw[yL hij] at h ⊢
   split at h
   ·rename_i hl
    cases h
    rw[yL (zP hl S.len)]
    exact⟨a,vs,rfl,h1,h2,h3,r⟩
   ·cases h
  ·rw[yN hij] at h ⊢
   exact S.own j es h
 ·rw[xI] at e1 e2 e3 e4
  by_cases hij:i=j
  ·by_cases hik:i=k
   ·exact hij.symm.trans hik
   ·rw[yL hij] at e1 e3
    rw[yN hik] at e2 e4
    split at e3
    ·cases e3;exact absurd e4 (fr k ys hik e2)
    ·cases e3
  ·by_cases hik:i=k
   ·rw[yN hij] at e1 e3
    rw[yL hik] at e2 e4
    split at e4
    ·cases e4;exact absurd e3 (fr j xs hij e1)
    ·cases e4
   ·rw[yN hij] at e1 e3
    rw[yN hik] at e2 e4
    exact S.inj j k xs ys b e1 e2 e3 e4
end
inductive Out where
 | nx (ρ:ak)|rt (d:D)
def Dy(K:W.Frag)(HF₀ H₀ HF:Hp)(E:Ends):Out->Prop
 | .nx ρ'=>∀σ' H' HF',jt K HF₀ H₀ HF' H' ρ' σ'->aL HF HF'->E.nx σ' H'
 | .rt d=>∀v H' HF',bL HF₀ H₀ HF' H'->Rep K HF' d v->E.rt v H'
def tS(K:W.Frag)(HF₀ H₀:Hp)(g:ak->Option Out):TS:=fun E σ H=>∃HF ρ o,jt K HF₀ H₀ HF H ρ σ/\g ρ=some o/\Dy K HF₀ H₀ HF E o
def DS(X:Cx)(HF₀ H₀:Hp)(st:Stmt)(g:ak->Option Out):Prop:=PS X st (tS X.K HF₀ H₀ g)
def DV(X:Cx)(HF₀ H₀:Hp)(st:List Stmt)(g:ak->Option Out):Prop:=v5 X st (tS X.K HF₀ H₀ g)
section
variable {X:Cx}{HF₀ H₀:Hp}{st:Stmt}{rest:List Stmt}{g g1 g2:ak->Option Out}{e:Expr}{pos:Pos}
theorem cH{t t':TS}(h:PS X st t)(i:∀E σ H,t' E σ H->t E σ H):PS X st t':=fun pins s σ H E I q=>h pins s σ H E I (i E σ H q)
theorem p8{t t':TS}(h:v5 X rest t)(i:∀E σ H,t' E σ H->t E σ H):v5 X rest t':=fun pins s σ H E I q=>h pins s σ H E I (i E σ H q)
def gH:ak->Option Out:=fun ρ=>some (.nx ρ)
def ax(g1 g2:ak->Option Out):ak->Option Out:=fun ρ=>(g1 ρ).bind fun|.nx ρ'=>g2 ρ'|.rt d=>some (.rt d)
theorem Dy.mono{E:Ends}{o:Out}(s:aL HF HF')(h:Dy K HF₀ H₀ HF E o):Dy K HF₀ H₀ HF' E o:=by
 cases o with
 | nx ρ'=>exact fun σ' H' HF2 S s2=>h σ' H' HF2 S (s.trans s2)
 | rt d=>exact h
theorem My:DV X HF₀ H₀ [] gH:=p8 xw fun E σ H ⟨HF,ρ,o,S,hg,q⟩=>by cases hg;exact q σ H HF S (.refl _)
theorem Ja(h1:DS X HF₀ H₀ st g1)(h2:DV X HF₀ H₀ rest g2):DV X HF₀ H₀ (st::rest) (ax g1 g2):=p8 (iM h1 h2) fun E σ H ⟨HF,ρ,o,S,hg,q⟩=>by
 obtain⟨o1,h,hg⟩:=bs hg
 refine⟨HF,ρ,o1,S,h,?_⟩
 cases o1 with
 | nx ρ'=>exact fun σ' H' HF' S' s=>⟨HF',ρ',o,S',hg,q.mono s⟩
 | rt d=>cases hg;exact q
theorem Eo(h1:DS X HF₀ H₀ st g1):DV X HF₀ H₀ [st] g1:=LO h1
theorem LG:DS X HF₀ H₀ (.Pass pos) gH:=cH L3 fun E σ H ⟨HF,ρ,o,S,hg,q⟩=>by cases hg;exact q σ H HF S (.refl _)
theorem NF{x j pos pos'}:DS X HF₀ H₀ (.Expr (.Constant (.str x) j pos) pos') gH:=cH N3 fun E σ H ⟨HF,ρ,o,S,hg,q⟩=>by cases hg;exact q σ H HF S (.refl _)
def ij(t:Env->Option Bool)(g1 g2:ak->Option Out):ak->Option Out:=fun ρ=>(t (aI ρ)).bind fun b=>if b=true then g1 ρ else g2 ρ
theorem Qo{a b:List Stmt}{t:Env->Option Bool}(hc:DT X c t)(ha:DV X HF₀ H₀ a g1)(hb:DV X HF₀ H₀ b g2):DS X HF₀ H₀ (.If c a b pos) (ij t g1 g2):=cH (Im hc ha hb) fun E σ H ⟨HF,ρ,o,S,hg,q⟩=>by
 obtain⟨b,h,hg⟩:=bs hg
 refine⟨H,aI ρ,b,.refl _,S.all,h,fun H' HF' G=>?_⟩
 cases b with
 | true=>exact tY ⟨HF,ρ,o,S.step G.hh,hg,q⟩
 | false=>exact pI ⟨HF,ρ,o,S.step G.hh,hg,q⟩
theorem Ae:∀ (ρ:ak) (k n:Nat),k+ρ.length<=n->bP (hand (List.range n) k ρ)=aI ρ
 | [],k,n,h=>rfl
 | s::r,k,n,h=>by
  have hk:(List.range n).contains k=true:=by simp at h ⊢;lia
  have ih:=Ae r (k+1) n (by simp at h;lia)
  unfold bP aI at ih ⊢
  rw[hand,yL hk,zI,zI,ih]
  cases s<;>rfl
def aK(f:Env->Option D):ak->Option Out:=fun ρ=>(f (aI ρ)).map Out.rt
theorem OR(h:DE X e f):DS X HF₀ H₀ (.Return (some e) pos) (aK f):=cH (Cr h) fun E σ H ⟨HF,ρ,o,S,hg,q⟩=>by
 obtain⟨d,h,rfl⟩:=ah hg
 obtain⟨HF1,s1,S1⟩:=S.hand (List.range ρ.length)
 refine⟨HF1,aI ρ,d,S1.gr.fh,?_,h,fun v H' HF' G r=>q v H' HF' (S1.gr.trans G) r⟩
 have:=S1.frz
 rw[Ae ρ 0 ρ.length (by lia)] at this
 exact this
def oA:D->Bool|.none=>true|.bool _=>true|.int _=>true|.str _=>true|_=>false
theorem Bw{v:V}(h:oA d=true)(r:Rep K HF d v):Rep K HF' d v:=by
 cases d<;>cases h<;>(simp only[Rep] at r ⊢;exact r)
mutual
def iK:D->Bool
 | .tuple ds=>qq ds
 | .list _=>false
 | .dict _=>false
 | _=>true
def qq:List D->Bool
 | []=>true
 | d::ds=>iK d&&qq ds
end
mutual
theorem Ar{K:W.Frag}{H1 H2:Hp}(ht:∀a xs,iN K H1 a xs->iN K H2 a xs):∀ {d:D}{v:V},iK d=true->Rep K H1 d v->Rep K H2 d v
 | .none,_,_,r=>by simp only[Rep] at r ⊢;exact r
 | .bool _,_,_,r=>by simp only[Rep] at r ⊢;exact r
 | .int _,_,_,r=>by simp only[Rep] at r ⊢;exact r
 | .str _,_,_,r=>by simp only[Rep] at r ⊢;exact r
 | .tuple ds,v,h,r=>by
  simp only[iK] at h
  simp only[Rep] at r ⊢
  obtain⟨a,vs,e,q,rr⟩:=r
  exact⟨a,vs,e,ht _ _ q,uQ ht h rr⟩
 | .list _,_,h,_=>by simp[iK] at h
 | .dict _,_,h,_=>by simp[iK] at h
theorem uQ{K:W.Frag}{H1 H2:Hp}(ht:∀a xs,iN K H1 a xs->iN K H2 a xs):∀ {ds:List D}{vs:List V},qq ds=true->aw K H1 ds vs->aw K H2 ds vs
 | [],_,_,r=>by simp only[aw] at r ⊢;exact r
 | d::ds,vs,h,r=>by
  simp only[qq,zF] at h
  simp only[aw] at r ⊢
  obtain⟨v,r',e,a,b⟩:=r
  exact⟨v,r',e,Ar ht h.1 a,uQ ht h.2 b⟩
end
theorem jt.back{HF₀ H₀ HF H HF1 HF' H':Hp}{ρ ρ1:ak}(S:jt K HF₀ H₀ HF H ρ σ)(S1:jt K HF₀ H₀ HF1 H ρ1 σ)(s1:aL HF HF1)(G:bL HF1 H HF' H'):∃HF2,aL HF HF2/\jt K HF₀ H₀ HF2 H' ρ σ/\∀d v,iK d=true->Rep K HF' d v->Rep K HF2 d v:=by
 have cl:=Classical.propDecidable
 let O:Addr->Prop:=fun a=>∃ (i:Nat) (ds:List D),ρ[i]?=some (Slot.own ds)/\σ[i]?=some (some (V.ref a))
 let HF2:Hp:=fun a=>if O a then none else HF' a
 have hO:∀a,O a->HF a=none/\∃vs,H a=some (.lst vs):=fun a ⟨i,ds,h1,h2⟩=>by
  obtain⟨a',vs,e1,e2,e3,_,_⟩:=S.own i ds h1
  rw[h2] at e1
  cases e1
  exact⟨e3,vs,e2⟩
 have h2:∀a,¬ O a->HF2 a=HF' a:=fun a n=>yN n
 have h3:∀a,O a->HF2 a=none:=fun a n=>yL n
 have sa:aL HF HF2:=fun b o e=>by
  have nb:¬ O b:=fun z=>by rw[(hO b z).1] at e;cases e
  rw[h2 b nb]
  exact G.ff b o (s1 b o e)
 have sb:∀b o,HF2 b=some o->HF' b=some o:=fun b o e=>by
  by_cases z:O b
  ·rw[h3 b z] at e;cases e
  ·rwa [h2 b z] at e
 have g2:=S1.gr.trans G
 refine⟨HF2,sa,⟨⟨g2.hh,S.gr.ff.trans sa,fun b o e=>G.fh b o (sb b o e),fun b o e=>g2.nw b o (sb b o e)⟩,fun i d h=>?_,fun i ds h=>?_,S.inj,S.len,S.tb.mono sa⟩,fun d v hn r=>Ar (fun a xs q=>?_) hn r⟩
 ·obtain⟨v,e1,r⟩:=S.val i d h
  exact⟨v,e1,r.mono sa⟩
 ·obtain⟨a,vs,e1,e2,e3,e5,e4⟩:=S.own i ds h
  exact⟨a,vs,e1,G.hh _ _ e2,h3 a ⟨i,ds,h,e1⟩,e5,e4.mono sa⟩
 ·have nt:∀o,HF' a=some o->(∀vs,o≠.lst vs)->HF2 a=some o:=fun o e hne=>by
   by_cases z:O a
   ·obtain⟨_,vs,e2⟩:=hO a z
    have:=G.hh _ _ e2
    rw[G.fh a o e] at this
    cases this
    exact absurd rfl (hne vs)
   ·rw[h2 a z];exact e
  rcases q with (q|⟨o,q⟩)|q
  ·exact .inl (.inl (nt _ q fun vs z=>by cases z))
  ·exact .inl (.inr ⟨o,nt _ q fun vs z=>by cases z⟩)
  ·exact .inr q
def aF(i:Nat)(fz:List Nat)(f:Env->Option D):ak->Option Out:=fun ρ=>(f (aI ρ)).bind fun d=>if oA d=true then some (.nx (ρ.set i (.val d))) else (f (bP (hand fz 0 ρ))).map fun d'=>.nx ((if iK d'=true then ρ else hand fz 0 ρ).set i (.val d'))
theorem QX:∀E σ H,tS X.K HF₀ H₀ (aF i fz f) E σ H->Je (tD X.K f) (An i) E σ H:=fun E σ H ⟨HF,ρ,o,S,hg,q⟩=>by
 obtain⟨d,h,hg⟩:=bs hg
 split at hg
 ·rename_i hs
  cases hg
  exact⟨H,aI ρ,d,.refl _,S.all,h,fun v H' HF' G r=>q _ H' HF ((S.step G.hh).setV (Bw hs r)) (.refl _)⟩
 ·obtain⟨d',h',rfl⟩:=ah hg
  obtain⟨HF1,s1,S1⟩:=S.hand fz
  refine⟨HF1,_,d',S1.gr.fh,S1.frz,h',fun v H' HF' G r=>?_⟩
  by_cases hn:iK d'=true
  ·rw[yL hn] at q
   obtain⟨HF2,s2,S2,hb⟩:=S.back S1 s1 G
   exact q _ H' HF2 (S2.setV (hb d' v hn r)) s2
  ·rw[yN hn] at q
   exact q _ H' HF' ((S1.grow G).setV r) (s1.trans G.ff)
theorem Nj(i:Nat)(fz:List Nat)(hN:X.N.Nodup)(hi:X.N[i]?=some x)(hx:Loc X.env.scope x)(he:DE X e f)(hs:swapsWith e (some (.Name x pos')) pos.line X.env=pure false:=by rfl)
  (hf:X.fn x=true\/X.env.scope.names.lookup x=some .local:=by first|exact .inl rfl|exact .inr rfl|assumption):DS X HF₀ H₀ (.Assign [.Name x pos'] e pos) (aF i fz f):=cH (rl hN hi hx he hs hf) QX
def aG(i:Nat)(fz:List Nat)(f:Env->Option (List D)):ak->Option Out:=fun ρ=>(f (bP (hand fz 0 ρ))).map fun ds=>.nx ((hand fz 0 ρ).set i (.own ds))
theorem J0{f:Env->Option (List D)}:∀E σ H,tS X.K HF₀ H₀ (aG i fz f) E σ H->Je (tF X.K f) (An i) E σ H:=fun E σ H ⟨HF,ρ,o,S,hg,q⟩=>by
 obtain⟨ds,h,rfl⟩:=ah hg
 obtain⟨HF1,s1,S1⟩:=S.hand fz
 refine⟨HF1,_,ds,S1.gr.fh,S1.frz,h,fun a vs H' HF' G ha hf h' r=>q _ H' HF' ?_ (s1.trans G.ff)⟩
 have S2:=S1.grow G
 refine S2.setO (.refl _) h' hf (S1.gr.hh.free ha) r fun j es _ hj z=>?_
 obtain⟨b,us,e1,e2,_⟩:=S1.own j es hj
 rw[e1] at z
 cases z
 rw[ha] at e2;cases e2
theorem vi(i:Nat)(fz:List Nat){f:Env->Option (List D)}(hN:X.N.Nodup)(hi:X.N[i]?=some x)(hx:Loc X.env.scope x)(he:DF X e f)(hs:swapsWith e (some (.Name x pos')) pos.line X.env=pure false:=by rfl)
  (hf:X.fn x=true\/X.env.scope.names.lookup x=some .local:=by first|exact .inl rfl|exact .inr rfl|assumption):DS X HF₀ H₀ (.Assign [.Name x pos'] e pos) (aG i fz f):=cH (rl hN hi hx he hs hf) J0
theorem Md(i:Nat)(fz:List Nat){py spos:Pos}{tg iter elt:Expr}{ifs:List Expr}{N:List Str}{tgt:Env->D->Option Env}{tt:Env->Option Bool}{te:Env->Option D}
  (hc:X.calm=true) (S:jg X scope N (ka t cs)) (hi:DI X tg iter fi)
  (hY:∀fp s H,DG (ba X scope N fp s H) tg tgt/\P3 (ba X scope N fp s H) ifs tt/\DE (ba X scope N fp s H) elt te)
  (hN:X.N.Nodup) (hiy:X.N[i]?=some y) (hy:X.env.scope.names.lookup y=some .local)
  (hsw:swapsWith (.ListComp elt [⟨tg,iter,ifs,0⟩] scope pos) (some (.Name y py)) spos.line X.env=pure true)
  (hs:∀x,foldedSetIterable iter X.env x=pure x:=by intro _;rfl):DS X HF₀ H₀ (.Assign [.Name y py] (.ListComp elt [⟨tg,iter,ifs,0⟩] scope pos) spos) (aG i fz (ao t cs fi tgt tt te)) :=
 cH (Ky (g:=Rr X.K tgt) (tt:=NT X.K tt) (te:=tD X.K te) hc S hi hY hN hiy hy hsw hs) fun E σ H q=>by
  have:=J0 E σ H q
  exact Iy σ H _ this
def Td(K:W.Frag)(HF₀ H₀:Hp)(f:ak->D->Option ak):TG:=fun v σ H Q=>∃HF ρ d ρ',jt K HF₀ H₀ HF H ρ σ/\Rep K HF d v/\f ρ d=some ρ'/\∀σ',jt K HF₀ H₀ HF H ρ' σ'->Q σ' H
def Rj(X:Cx)(HF₀ H₀:Hp)(tg:Expr)(f:ak->D->Option ak):Prop:=PG X tg (Td X.K HF₀ H₀ f)
def kh(i:Nat):ak->D->Option ak:=fun ρ d=>some (ρ.set i (.val d))
theorem Iv(i:Nat)(hN:X.N.Nodup)(hi:X.N[i]?=some x)(hx:Loc X.env.scope x)(hf:X.fn x=true\/X.env.scope.names.lookup x=some .local:=by first|exact .inl rfl|exact .inr rfl|assumption):Rj X HF₀ H₀ (.Name x pos) (kh i) :=
 rg (dA hN hi hx hf) fun v σ H Q ⟨HF,ρ,d,ρ',S,r,hf,q⟩=>by cases hf;exact q _ (S.setV r)
def fJ(i j:Nat):ak->D->Option ak:=fun ρ d=>match d with
 | .tuple [x,y]=>some ((ρ.set i (.val x)).set j (.val y))
 | _=>none
theorem KU(i j:Nat){px py:Pos}{k:Nat}(hc:X.calm=true)(hN:X.N.Nodup)(hi:X.N[i]?=some x)(hx:Loc X.env.scope x)(hj:X.N[j]?=some y)(hy:Loc X.env.scope y)
  (hf:X.fn x=true\/X.env.scope.names.lookup x=some .local:=by first|exact .inl rfl|exact .inr rfl|assumption) (hf':X.fn y=true\/X.env.scope.names.lookup y=some .local:=by first|exact .inl rfl|exact .inr rfl|assumption) :
  Rj X HF₀ H₀ (.Tuple [.Name x px,.Name y py] k pos) (fJ i j) :=
 rg (vt hc (dw (dA hN hi hx hf) (dw (dA hN hj hy hf') pY))) fun v σ H Q ⟨HF,ρ,d,ρ',S,r,hf,q⟩=>by
  unfold fJ at hf
  split at hf
  ·cases hf
   simp only[Rep] at r
   obtain⟨a,vs,rfl,hs,rr⟩:=r
   obtain⟨v1,r1,rfl,a1,b1⟩:=rr.cons_inv
   obtain⟨v2,r2,rfl,a2,b2⟩:=b1.cons_inv
   rw[b2.nil_inv] at hs
   exact⟨a,_,rfl,aD S.gr.fh hs,rfl,v1,_,rfl,v2,_,rfl,rfl,q _ ((S.setV a1).setV a2)⟩
  ·cases hf
def dX(tgt:ak->D->Option ak)(gb:ak->Option Out):List D->ak->Option Out
 | [],ρ=>some (.nx ρ)
 | d::ds,ρ=>(tgt ρ d).bind fun ρ1=>(gb ρ1).bind fun|.nx ρ2=>dX tgt gb ds ρ2|.rt v=>some (.rt v)
def cX(fz:List Nat)(fi:Env->Option (List D))(tgt:ak->D->Option ak)(gb:ak->Option Out):ak->Option Out:=fun ρ=>(fi (bP (hand fz 0 ρ))).bind fun ds=>dX tgt gb ds (hand fz 0 ρ)
theorem N8(fz:List Nat){body:List Stmt}{tgt:ak->D->Option ak}{gb:ak->Option Out}(hp:PassesOwn (model X.prog X.w) X.A X.env X.xe)(hc:X.calm=true)(hi:DI X tg iter fi)(hg:Rj X HF₀ H₀ tg tgt)(hb:DV X HF₀ H₀ body gb)
  (hs:∀x,foldedSetIterable iter X.env x=pure x:=by intro _;rfl):DS X HF₀ H₀ (.For tg iter body [] pos) (cX fz fi tgt gb):=cH (Pp hp hc hi hg hb hs) fun E σ H ⟨HF,ρ,o,S,hg,q⟩=>by
 obtain⟨ds,h,hg⟩:=bs hg
 obtain⟨HF1,s1,S1⟩:=S.hand fz
 refine⟨HF1,_,ds,S1.gr.fh,S1.frz,h,fun J H2 HF2 G it=>?_⟩
 refine⟨fun i m σ' H'=>m+i=ds.length/\∃HF' ρ',jt X.K HF₀ H₀ HF' H' ρ' σ'/\aL HF2 HF'/\dX tgt gb (ds.drop i) ρ'=some o,⟨ds.length,rfl,HF2,_,S1.grow G,.refl _,hg⟩,?_⟩
 rintro i m σ' H' ⟨hm,HF',ρ',S',s',hf⟩
 by_cases hi:i < ds.length
 ·refine .inr ?_
  have hd:ds.drop i=ds[i]::ds.drop (i+1):=vE hi
  have he:ds[i]?=some ds[i]:=List.getElem?_eq_some_iff.mpr ⟨hi,rfl⟩
  generalize ds[i]=d at hd he
  rw[hd] at hf
  unfold dX at hf
  obtain⟨ρ1,h1,hf⟩:=bs hf
  obtain⟨o1,h2,hf⟩:=bs hf
  obtain⟨go,yld⟩:=it.go i d H' HF' he s' S'.gr.fh
  refine⟨go,fun σ2 H3=>∃HF3 ρ3,jt X.K HF₀ H₀ HF3 H3 ρ3 σ2/\aL HF2 HF3/\dX tgt gb (ds.drop (i+1)) ρ3=some o,fun σ2 H3 ⟨HF3,ρ3,a1,a2,a3⟩=>⟨m - 1,by lia,by lia,HF3,ρ3,a1,a2,a3⟩,fun x H3 y=>?_⟩
  obtain⟨HF3,G3,rx⟩:=yld x H3 y
  refine⟨HF3,ρ',d,ρ1,S'.grow G3,rx,h1,fun σ2 S2=>⟨HF3,ρ1,o1,S2,h2,?_⟩⟩
  cases o1 with
  | nx ρ2=>exact fun σ4 H4 HF4 S4 s4=>⟨HF4,ρ2,S4,(s'.trans G3.ff).trans s4,hf⟩
  | rt d=>cases hf;exact q
 ·have hi':i=ds.length:=by lia
  subst hi'
  rw[List.drop_length] at hf
  cases hf
  exact .inl ⟨it.stop H' HF' s' S'.gr.fh,q σ' H' HF' S' ((s1.trans G.ff).trans s')⟩
end
def Ll(X:Cx)(sc:Scope):Prop:=∀x k,sc.names.lookup x=some k->X.env.kindOf x=some k\/(k=.free/\X.env.kindOf x=some .cell)
structure Bk(X:Cx)(N:List Str)(sc:Scope)(k:Nat):Prop where
 n:X.N=N
 nd:N.Nodup
 tb:Ll X sc
 calm:X.calm=true
 fn:∀x,sc.names.lookup x=some .cell->X.fn x=true
 room:dZ k X.A
 xe:X.xe=fun _ _=>False
 kd:X.env.scope.kind=.function
def cB:List Str:=["len","isinstance","int","bool","tuple","list","range","all","any","set","sorted","enumerate","zip","sum","min","max","reversed","abs","dict","str","type","iter","next"]
def Bn(X:Cx):Prop:=∀x∈cB,X.mg x=none
def tP(sc:Scope)(x:Str):Bool:=decide (sc.names.lookup x=some .globalImplicit)
def GD(N:List Str)(sc:Scope)(i:Nat)(x:Str):Bool:=decide (N[i]?=some x)&&(decide (sc.names.lookup x=some .local)||decide (sc.names.lookup x=some .cell)||decide (sc.names.lookup x=some .free))&&!(x == ("__debug__":Str))&&!(x == ("__classdict__":Str))
def rE(N:List Str)(sc:Scope)(i:Nat)(x:Str):Bool:=decide (N[i]?=some x)&&(decide (sc.names.lookup x=some .local)||decide (sc.names.lookup x=some .cell))
section
variable {X:Cx}{N:List Str}{sc:Scope}{k:Nat}
theorem Bk.gl(C:Bk X N sc k)(h:tP sc x=true):Gl X x:=by
 rcases C.tb x _ (yQ h) with q|⟨q,_⟩
 ·exact q
 ·cases q
theorem Bk.vis(C:Bk X N sc k)(h:GD N sc i x=true):X.N[i]?=some x/\Mv X.env.scope x/\(x == ("__debug__":Str))=false/\(x == ("__classdict__":Str))=false:=by
 unfold GD at h
 simp only[zF,jB,zJ,yP] at h
 obtain⟨⟨⟨h1,h2⟩,h3⟩,h4⟩:=h
 refine⟨by rw[C.n];exact h1,?_,h3,h4⟩
 rcases h2 with (h2|h2)|h2
 ·rcases C.tb x _ h2 with q|⟨q,_⟩
  ·exact .inl q
  ·cases q
 ·rcases C.tb x _ h2 with q|⟨q,_⟩
  ·exact .inr (.inl q)
  ·cases q
 ·rcases C.tb x _ h2 with q|⟨_,q⟩
  ·exact .inr (.inr q)
  ·exact .inr (.inl q)
theorem Bk.loc(C:Bk X N sc k)(h:rE N sc i x=true):X.N.Nodup/\X.N[i]?=some x/\Loc X.env.scope x/\(X.fn x=true\/X.env.scope.names.lookup x=some .local):=by
 unfold rE at h
 simp only[zF,jB,zJ] at h
 obtain⟨h1,h2⟩:=h
 refine⟨by rw[C.n];exact C.nd,by rw[C.n];exact h1,?_⟩
 rcases h2 with h2|h2
 ·rcases C.tb x _ h2 with q|⟨q,_⟩
  ·exact⟨.inl q,.inr q⟩
  ·cases q
 ·rcases C.tb x _ h2 with q|⟨q,_⟩
  ·exact⟨.inr q,.inl (C.fn x h2)⟩
  ·cases q
theorem Bk.blt(C:Bk X N sc k)(B:Bn X){v:Value}(h:tP sc x=true)(hm:x∈cB)(hv:bootBuiltins x=some v):pN X x v:=⟨C.gl h,B x hm,hv⟩
theorem Bk.v(C:Bk X N sc k)(i:Nat)(h:GD N sc i x=true):DE X (.Name x pos) (ae i):=let ⟨a,b,c,d⟩:=C.vis h;OU i a b c d
theorem Bk.pass(C:Bk X N sc k):PassesOwn (model X.prog X.w) X.A X.env X.xe:=by rw[C.xe];exact PassesOwn.never
def jq(sc scope:Scope)(N N':List Str)(t:Nat)(cs:List Nat):Bool :=
 decide (scope.kind=.function)&&scope.names.all (fun p=>(!decide (p.2=NameKind.free)||decide (sc.names.lookup p.1=some .cell)||decide (sc.names.lookup p.1=some .free))&&(!decide (p.2=NameKind.local)||decide (scope.names.lookup p.1=some .local)))
  &&scope.names.all (fun p=>!decide (p.2=NameKind.cell)||!scope.names.any fun q=>decide (q.1=p.1)&&decide (q.2=NameKind.free))
  &&decide (N'.length=t+cs.length)&&decide (N'.drop t=cs.filterMap fun j=>N[j]?)&&cs.all (fun j=>decide (j < N.length))&&(N'.drop t).all (fun x=>decide (scope.names.lookup x=some .free))&&decide N'.Nodup
theorem filterMap_get{α:Type}(N:List α):∀ (cs:List Nat),(∀j∈cs,j < N.length)->∀ (i:Nat),(cs.filterMap fun j=>N[j]?)[i]?=(cs[i]?).bind fun j=>N[j]?
 | [],_,i=>by simp
 | c::cs,h,i=>by
  have hc:=h c zE
  rw[jG,zK hc]
  cases i with
  | zero=>simp[hc]
  | succ i =>
   simp only[yY]
   exact filterMap_get N cs (fun j hj=>h j (zC _ hj)) i
theorem Bk.comp(C:Bk X N sc k){N':List Str}(h:jq sc scope N N' t cs=true):jg X scope N' (ka t cs)/\∀fp s H,Bk (ba X scope N' fp s H) N' scope k:=by
 unfold jq at h
 simp only[zF,zJ,xG,jB,yP,xB] at h
 obtain⟨⟨⟨⟨⟨⟨⟨h1,h2⟩,h3⟩,h4⟩,h5⟩,h6⟩,h7⟩,h8⟩:=h
 refine⟨⟨h1,fun x hx hk=>?_,fun {x} a b=>?_,fun x hx hk=>?_,fun σ i x v e1 e2=>?_,fun σ=>?_⟩,fun fp s H=>⟨rfl,h8,fun x k hx=>oM hx,C.calm,fun x hx=>yA hx,C.room,rfl,h1⟩⟩
 ·rcases (h2 x hx).1 with (q|q)|q
  ·exact absurd hk q
  ·rcases C.tb _ _ q with z|⟨z,_⟩
   ·exact .inl z
   ·cases z
  ·rcases C.tb _ _ q with z|⟨_,z⟩
   ·exact .inr z
   ·exact .inl z
 ·rcases h3 _ a with q|q
  ·exact q rfl
  ·have:(scope.names.any fun q=>decide (q.1=x)&&decide (q.2=NameKind.free))=true:=List.any_eq_true.mpr ⟨_,b,by simp⟩
   rw[this] at q
   cases q
 ·rcases (h2 x hx).2 with q|q
  ·exact absurd hk q
  ·exact q
 ·unfold ka at e2
  by_cases hi:i < t
  ·rw[yS (by simpa using hi),yX,yL hi] at e2
   cases e2
  ·rw[yT (by simpa using hi),zO,xM] at e2
   obtain⟨j,hj,e2⟩:=ah e2
   have e3:(N'.drop t)[i - t]?=some x:=by rw[List.getElem?_drop];rw[show t+(i - t)=i by lia];exact e1
   refine⟨h7 x (qB e3),j,?_,?_⟩
   ·rw[h5,filterMap_get N cs h6,hj] at e3
    rw[C.n];exact e3
   ·cases e:σ[j]? with
    | none=>rw[e] at e2;cases e2
    | some o=>rw[e] at e2;have e2:o=some v:=e2;rw[e2]
 ·unfold ka
  rw[zN,xM,zD,h4]
def bF(g:ak->Option Out)(n:Nat)(args:List D):Option D:=(g (args.map Slot.val++List.replicate (n - args.length) .non)).map fun|.rt d=>d|.nx _=>.none
theorem MT{mg:Str->Option Value}{st:Stmt}{f:Addr}(F:Ie K x qual st f fd)(S:cT N ps (aj st))
  (body:∀X:Cx,X.prog=P->X.w=w->X.K=K->X.mg=mg->X.base=base->Bk X N (aj st) k->X.env.code=fd.code->X.env.qual=qual++".<locals>."->∀HF₀ H₀,DV X HF₀ H₀ (bB st) g):pH P w K mg base Ko (k+1) f fd ps (P9 K ps.length (bF g N.length)):=by
 obtain⟨oc,od,kV,doc,pm,an,cdv,ct,osl,rfl,lk,hcd⟩:=F.ex
 refine JV lk hcd S (fun vs H Q E ⟨HF,ds,d,h1,_,h2,h3,_⟩=>by rw[h2.length,h3]) fun A outer s H vs Q E hr ⟨HF,ds,d,sm,tb,rr,hl,hd,q⟩=>?_
 refine⟨_,(body (rT Ko P w K mg base N qual (aj st) f cdv A outer s H E).nox rfl rfl rfl rfl rfl ⟨rfl,S.nd,fun y kd hy=>.inl hy,rfl,fun _ _=>rfl,hr,rfl,S.kind⟩ rfl rfl HF H).nox,?_⟩
 unfold bF at hd
 obtain⟨o,ho,hd⟩:=ah hd
 have hpl:ps.length<=N.length:=by have:=jC List.length S.pre;rw[jW] at this;lia
 refine⟨HF,_,o,⟨.refl sm,fun i e h=>?_,fun i es h=>?_,fun i j es fs a h=>?_,?_,tb⟩,ho,?_⟩
 ·have hi:i < ds.length:=by
   by_cases hi:i < ds.length
   ·exact hi
   ·rw[yT (by simpa using hi),yX] at h
    split at h<;>cases h
  rw[yS (by simpa using hi),zO] at h
  obtain⟨d',hd',h⟩:=ah h
  cases h
  obtain⟨v,hv,rv⟩:=rr.getD hd'
  refine⟨v,?_,rv⟩
  unfold L2.start
  rw[yS (by simpa [rr.length] using hi),zO,hv]
  rfl
 ·exfalso
  by_cases hi:i < ds.length
  ·rw[yS (by simpa using hi),zO] at h
   obtain⟨d',hd',h⟩:=ah h
   cases h
  ·rw[yT (by simpa using hi),yX] at h
   split at h<;>cases h
 ·exfalso
  by_cases hi:i < ds.length
  ·rw[yS (by simpa using hi),zO] at h
   obtain⟨d',hd',h⟩:=ah h
   cases h
  ·rw[yT (by simpa using hi),yX] at h
   split at h<;>cases h
 ·unfold L2.start
  rw[zN,zN,zD,zD,xM,xM,rr.length]
  exact yM _
 ·cases o with
  | rt d'=>cases hd;exact fun v H' HF' G r=>q v H' HF' G r
  | nx ρ'=>cases hd;exact fun σ' H' HF' S' _=>q .non H' HF' S'.gr (by simp[Rep])
theorem SF{mg:Str->Option Value}{st:Stmt}{f:Addr}(F:Ie K x qual st f fd)(S:cT N ps (aj st))(hb:Binds K fd ps [])(hm:mg x=some (.ref f))
  (body:∀X:Cx,X.prog=P->X.w=w->X.K=K->X.mg=mg->X.base=base->Bk X N (aj st) k->X.env.code=fd.code->X.env.qual=qual++".<locals>."->∀HF₀ H₀,DV X HF₀ H₀ (bB st) g):eM P w K mg base (k+1) x ps.length (bF g N.length):=⟨f,fd,ps,MT F S body,hm,F.kp,hb⟩
end
section
variable {X:Cx}{HF₀ H₀:Hp}{e e2:Expr}{pos apos cpos px:Pos}{x:Str}
def l9(fz:List Nat)(f:Env->Option D)(ρ:ak):Option (D×ak):=(f (aI ρ)).bind fun d=>if oA d=true then some (d,ρ) else (f (bP (hand fz 0 ρ))).map fun d'=>(d',hand fz 0 ρ)
theorem oG{ρ ρ':ak}(S:jt K HF₀ H₀ HF H ρ σ)(h:l9 fz f ρ=some (d,ρ')){Q:VK}
  (q:∀v H' HF',aL HF HF'->jt K HF₀ H₀ HF' H' ρ' σ->aL H H'->Rep K HF' d v->Q v H'):tD K f σ H Q:=by
 obtain⟨d1,h1,h⟩:=bs h
 split at h
 ·rename_i hs
  cases h
  exact⟨H,aI ρ,d,.refl _,S.all,h1,fun v H' HF' G r=>q v H' HF (.refl _) (S.step G.hh) G.hh (Bw hs r)⟩
 ·obtain⟨d2,h2,h⟩:=ah h
  cases h
  obtain⟨HF1,s1,S1⟩:=S.hand fz
  exact⟨HF1,_,d,S1.gr.fh,S1.frz,h2,fun v H' HF' G r=>q v H' HF' (s1.trans G.ff) (S1.grow G) G.hh r⟩
def pD(i:Nat)(m:List D->Option (List D))(ρ:ak):Option Out:=match ρ[i]? with
 | some (.own ds)=>(m ds).map fun es=>.nx (ρ.set i (.own es))
 | _=>none
theorem lE{m:List D->Option (List D)}{o:Out}(h:pD i m ρ=some o):∃ds es,ρ[i]?=some (.own ds)/\m ds=some es/\o=.nx (ρ.set i (.own es)):=by
 unfold pD at h
 split at h
 ·rename_i ds hd
  obtain⟨es,h1,h2⟩:=ah h
  exact⟨ds,es,hd,h1,h2.symm⟩
 ·cases h
theorem jt.mut(S:jt K HF₀ H₀ HF H ρ σ){ds es:List D}{a:Addr}{vs us:List V}(h:ρ[i]?=some (.own ds))(ha:σ[i]?=some (some (.ref a)))(hH:H a=some (.lst vs))(r:aw K HF es us) :
  jt K HF₀ H₀ HF (upd H a (.lst us)) (ρ.set i (.own es)) σ:=by
 obtain⟨a',vs',e1,e2,e3,e5,e4⟩:=S.own i ds h
 rw[ha] at e1;cases e1
 have hl:i < ρ.length:=(List.getElem?_eq_some_iff.mp h).1
 have gr:bL HF₀ H₀ HF (upd H a (.lst us)):=⟨fun b o e=>by rw[ay (aN e e5)];exact S.gr.hh b o e,S.gr.ff,fun b o e=>by rw[ay (aN e e3)];exact S.gr.fh b o e,S.gr.nw⟩
 refine⟨gr,fun j d hj=>?_,fun j xs hj=>?_,fun j k xs ys b f1 f2 f3 f4=>?_,by rw[yC];exact S.len,S.tb⟩
 ·rw[xI] at hj
  by_cases hij:i=j
  ·rw[yL hij] at hj
   split at hj<;>cases hj
  ·rw[yN hij] at hj;exact S.val j d hj
 ·rw[xI] at hj
  by_cases hij:i=j
  ·subst hij
   rw[yL rfl,yL hl] at hj
   cases hj
   exact⟨a,us,ha,aA,e3,e5,r⟩
  ·rw[yN hij] at hj
   obtain⟨b,ws,f1,f2,f3,f5,f4⟩:=S.own j xs hj
   refine⟨b,ws,f1,?_,f3,f5,f4⟩
   rw[ay]
   ·exact f2
   ·rintro rfl
    exact hij (S.inj i j ds xs b h hj ha f1)
 ·have old:∀ {j:Nat}{xs:List D},(ρ.set i (.own es))[j]?=some (.own xs)->∃ys,ρ[j]?=some (.own ys):=fun {j xs} hj=>by
   rw[xI] at hj
   by_cases hij:i=j
   ·subst hij;exact⟨ds,h⟩
   ·rw[yN hij] at hj;exact⟨xs,hj⟩
  obtain⟨xs',g1⟩:=old f1
  obtain⟨ys',g2⟩:=old f2
  exact S.inj j k xs' ys' b g1 g2 f3 f4
def mq(i:Nat)(fz:List Nat)(f:Env->Option D):ak->Option Out:=fun ρ=>(l9 fz f ρ).bind fun p=>pD i (fun ds=>if ds.length < sizeLine then some (ds++[p.1]) else none) p.2
theorem GC(i:Nat)(fz:List Nat)(hN:X.N[i]?=some x)(hv:Mv X.env.scope x)(h:DE X e f)(hd:(x == ("__debug__":Str))=false:=by decide)(hcd:(x == ("__classdict__":Str))=false:=by decide)
  (hfew:((backTo cpos (starEach [e] X.env)).all (fun x=>!x.1)&&(backToKw cpos (keywordEach [] X.env)).all (fun x=>x.1.isSome)&&decide ([e].length+([]:List Keyword).length+(if ([]:List Keyword).isEmpty then 0 else 1) < 30))=true:=by rfl)
  (hline:(apos.endLine == cpos.line)=true:=by rfl) (hs:starEach [e] X.env=(false,eval e X.env)::starEach [] X.env:=by rfl) :
  DS X HF₀ H₀ (.Expr (.Call (.Attribute (.Name x px) "append" apos) [e] [] cpos) pos) (mq i fz f) :=
 cH (mL (so qN PySem.F.slot_list_append PySem.F.type_list_append va (kg hN hv hd hcd) (cq h eG hs) rfl hfew hline hs rfl)) fun E σ H ⟨HF,ρ,o,S,hg,q⟩=>by
  obtain⟨⟨d,ρ'⟩,h1,hg⟩:=bs hg
  obtain⟨ds,es,h2,h3,rfl⟩:=lE hg
  have hown:∃ds',ρ[i]?=some (.own ds'):=by
   obtain⟨d1,_,h1⟩:=bs h1
   split at h1
   ·cases h1;exact⟨ds,h2⟩
   ·obtain⟨d2,_,h1⟩:=ah h1
    cases h1
    rw[iE] at h2
    obtain⟨s,hs,h2⟩:=ah h2
    cases s with
    | non=>split at h2<;>cases h2
    | val _=>split at h2<;>cases h2
    | own xs=>exact⟨xs,hs⟩
  obtain⟨ds',hown⟩:=hown
  obtain⟨a,vs,e1,e2,e3,e5,e4⟩:=S.own i ds' hown
  refine⟨.ref a,e1,.inl ⟨rfl,vs,ig.of e2⟩,oG S h1 fun v H' HF' s1 S' sh r=>?_⟩
  obtain⟨a',vs',f1,f2,f3,f5,f4⟩:=S'.own i ds h2
  rw[e1] at f1;cases f1
  split at h3
  ·rename_i hz
   cases h3
   exact⟨a,vs',v,rfl,rfl,f2,by rw[f4.length];exact hz,q σ _ HF' (S'.mut h2 e1 f2 (f4.append (aw.cons r aw.nil))) s1⟩
  ·cases h3
end
def yd(K:W.Frag)(o:Obj):Option (Addr×Str):=match o.data with
 | .func fd=>if ko.contains fd.qualname=true then (match fd.code with
   | .ref c=>(match K.lookup c with
    | some ⟨_,_,.fields vs,_⟩=>(match (vs[11]?:Option Value) with
     | some (.ref P)=>if W.codeHdIn K c P=true then some (P,fd.qualname++".<locals>."++"<lambda>") else none
     | _=>none)
    | _=>none)
   | _=>none) else none
 | _=>none
def gZ(K:W.Frag):List (Addr×Str):=K.filterMap fun p=>yd K p.2
def nq(K:W.Frag)(ts:List Addr):Bool:=(gZ K).all fun p=>ts.contains p.1&&(K.lookup p.1).isNone&&decide ((gZ K).lookup p.1=some p.2)
theorem AQ{o:Obj}{P:Addr}(h:yd K o=some (P,q)):∃c,W.codeHdIn K c P=true:=by
 unfold yd at h
 split at h
 ·split at h
  ·split at h
   ·split at h
    ·split at h
     ·split at h
      ·cases h;exact⟨_,‹_›⟩
      ·cases h
     ·cases h
    ·cases h
   ·cases h
  ·cases h
 ·cases h
theorem A1{P:Addr}(h:(P,q)∈gZ K):∃c,W.codeHdIn K c P=true:=by
 obtain⟨p,_,e⟩:=List.mem_filterMap.mp h
 exact AQ e
theorem Cn{f c P:Addr}{oc:Value}{od:Option Addr}{sl:Array (Option Value)}(a:K.lookup f=some ⟨oc,od,.func fd,sl⟩)(b:fd.qualname∈ko)(d:fd.code=.ref c)(e:W.codeHdIn K c P=true) :
  (P,fd.qualname++".<locals>."++"<lambda>")∈gZ K:=by
 refine List.mem_filterMap.mpr ⟨(f,_),W.mem_of_lookupK a,?_⟩
 have e':=e
 unfold W.codeHdIn at e'
 unfold yd
 simp only[d,List.contains_iff_mem,b,xH]
 split at e'
 ·rename_i vs sl' hl
  simp only[hl]
  simp only[zF] at e'
  have e1:=e'.1.1.1.1.1
  split at e1
  ·rename_i P' hv
   have:P'=P:=by simpa using e1
   subst this
   simp only[hv,e,xH]
  ·cases e1
 ·cases e'
theorem JE{α:Type}{b:Addr}{q:α}:∀ {l:List (Addr×α)},l.lookup b=some q->(b,q)∈l
 | [],e=>by cases e
 | (c,x)::r,e=>by
  rw[yB] at e
  cases h:b == c with
  | true=>rw[h] at e;cases e;rw[eq_of_beq h];exact zE
  | false=>rw[h] at e;exact zC _ (JE e)
def eV(K:W.Frag)(h0:Hp):Hp:=fun b=>match (gZ K).lookup b with|some q=>some (.tab q)|none=>h0 b
theorem FD{h0:Hp}(h:nq K ts=true):eu K (eV K h0):=fun f oc od fd sl c P a b d e=>by
 have hm:=Cn a b d e
 have:=List.all_eq_true.mp h _ hm
 simp only[zF,zJ] at this
 unfold eV
 rw[this.2]
theorem FG{w:World}{mg mb:Str->Option Value}{CX:FR}{k:Nat}{fa a:Addr}{fd:FuncData}{sp:Sp}{s₁:Shared}{vs:List Value}{ns:List Int}
  (KX:K.In s₁.heap) (hns:s₁.heap.Ns mainGlobals mg) (hb:s₁.heap.Ns builtinsNs mb) (hbb:∀x:Str,x≠"__name__"->mb x=bootBuiltins x) (hlim:s₁.heap.NoLimit) (hbm:Rk mg s₁.heap) (hg:s₁.gens=#[])
  (ht:nq K ts=true) (hts:∀P∈ts,s₁.heap.get? P=some (W.tabObj #[]))
  (ha:s₁.heap.get? a=some { cls:=.type "list",data:=.seq vs.toArray }) (hi:IntsAre vs ns) (hl:ns.length<=sizeLine) (hr:dZ k callerA)
  (F:∀base:Heap,K.In base->base.Ns mainGlobals mg->pH P w K mg base CX k fa fd [x] sp) (hbind:∀ (s:Shared) (u:Value),BindsTo s fd ⟨[u],[]⟩ [(x,u)])
  (hsp:∀H:Hp,eu K H->ig K H a (ns.map V.int)->sp [.ref a] H (fun v _=>v=.bl true) fun _ _ _=>False)
  (hCX:∀H e s',CX [] H s₁ (fun _ _ _=>False) e s'->False) :
  codeAny (model P w) callerA (.call (.ref fa) ⟨[.ref a],[]⟩) (fun r s'=>r=.ok (.ret (.bool true))/\OldK s₁.heap s'.heap/\s'.os=s₁.os/\AllBare s'.gens) s₁:=by
 have rv:=uI hi
 have lenV:=hi.length
 have tabAt:∀b q,(gZ K).lookup b=some q->s₁.heap.get? b=some (W.tabObj #[])/\K.lookup b=none/\∃c,W.CodeHd s₁.heap c b:=fun b q e=>by
  have hm:=JE e
  have:=List.all_eq_true.mp ht _ hm
  simp only[zF,zJ,List.contains_iff_mem,Option.isNone_iff_eq_none] at this
  obtain⟨c,hc⟩:=A1 hm
  exact⟨hts b this.1.1,this.1.2,c,W.codeHd_of_K KX hc⟩
 have aT:(gZ K).lookup a=none:=by
  cases e:(gZ K).lookup a with
  | none=>rfl
  | some q=>have:=(tabAt a q e).1;rw[ha] at this;cases this
 have core:∀h0:Hp,ig K (eV K h0) a (ns.map V.int)->nV P w (eV K h0) s₁.heap->(∀b,h0 b≠none->b=a)->(h0 a≠none->K.lookup a=none)->(∀b,h0 b=none\/∃o xs,h0 b=some (.frz o (.lst xs))) ->
   codeAny (model P w) callerA (.call (.ref fa) ⟨[.ref a],[]⟩) (fun r s'=>r=.ok (.ret (.bool true))/\OldK s₁.heap s'.heap/\s'.os=s₁.os/\AllBare s'.gens) s₁:=by
  intro h0 hS hok hA hK hO
  have look:∀b u,eV K h0 b=some u->(∃q,(gZ K).lookup b=some q/\u=.tab q)\/(b=a/\h0 b=some u):=fun b u e=>by
   unfold eV at e
   split at e
   ·rename_i q hq;cases e;exact .inl ⟨q,hq,rfl⟩
   ·exact .inr ⟨hA b (by rw[e];simp),e⟩
  have mX:∀ {b:Addr}{o:Obj},s₁.heap.get? b=some o->eV K h0 b=none->(xo s₁.heap (eV K h0)).get? b=some o:=fun e n=>JK e n
  have noA:∀ {b:Addr}{o:Obj},s₁.heap.get? b=some o->(∀vs n,o.data≠.seq vs n)->(∀vs,o.data≠.fields vs)->eV K h0 b=none:=fun {b o} e d d2=>by
   cases q:eV K h0 b with
   | none=>rfl
   | some u =>
    rcases look b u q with ⟨q',z,_⟩|⟨z,_⟩
    ·rw[(tabAt b q' z).1] at e;cases e;exact absurd rfl (d2 _)
    ·subst z;rw[ha] at e;cases e;exact absurd rfl (d _ _)
  have nsK:∀ {b:Addr}{m:Str->Option Value},s₁.heap.Ns b m->(xo s₁.heap (eV K h0)).Ns b m:=fun {b m} ⟨o,es,ep,e,d,r⟩=>⟨o,es,ep,mX e (noA e (fun _ _ z=>by rw[d] at z;cases z) fun _ z=>by rw[d] at z;cases z),d,r⟩
  have hKb:K.In (xo s₁.heap (eV K h0)):=fun b o e=>mX (KX b o e) (by
   cases q:eV K h0 b with
   | none=>rfl
   | some u =>
    rcases look b u q with ⟨q',z,_⟩|⟨z,z2⟩
    ·rw[(tabAt b q' z).2.1] at e;cases e
    ·subst z;rw[hK (by rw[z2];simp)] at e;cases e)
  have hM:Mod K mg (xo s₁.heap (eV K h0)):=⟨hKb,nsK hns,⟨mb,nsK hb,hbb⟩,let ⟨mc,h1,h2⟩:=hlim;⟨mc,nsK h1,h2⟩,
   let ⟨bm,o,b1,b2,b3,b4,b5,b6,b7⟩:=hbm;⟨bm,o,b1,b2,b3,mX b4 (noA b4 (fun _ _ z=>by rw[b7] at z;cases z) fun _ z=>by rw[b7] at z;cases z),b5,b6,b7⟩⟩
  have e0:C8 P w K mg (xo s₁.heap (eV K h0)) callerA [] s₁ (eV K h0):=⟨rfl,hM,fun b o e=>Lb e,Nat.le_of_eq (Ga _ _),trivial,fun b hb=>absurd (show b∈([]:List Addr) from hb) (by simp),hok,.of_eq hg⟩
  refine jS ((F _ hKb (nsK hns)).run callerA [] s₁ (eV K h0) ⟨[.ref a],[]⟩ [.ref a] [.ref a] _ _ hr e0 (hbind s₁ (.ref a)) (.cons rfl .nil) (hsp _ (FD ht) hS)) fun r s' h=>?_
  cases r with
  | error e=>exact (hCX _ e s' h).elim
  | ok fl =>
   cases fl with
   | next=>exact False.elim h
   | brk=>exact False.elim h
   | cont=>exact False.elim h
   | ret u =>
    obtain⟨v,H',os,bare,un,hok',r',q⟩:=h
    have q':v=.bl true:=q
    subst q'
    obtain rfl:u=Value.bool true:=r'
    have key:∀b o,s₁.heap.get? b=some o->s'.heap.get? b=some o\/(isCodeTable s₁.heap b/\o=W.tabObj #[]/\∃ps,s'.heap.get? b=some (W.tabObj ps)):=fun b o e=>by
     cases q:eV K h0 b with
     | none=>exact .inl (un.keep b o e q (by intro z;exact absurd (show b∈([]:List Addr) from z) (by simp)) (by simp))
     | some u =>
      rcases look b u q with ⟨q',z,rfl⟩|⟨z,z2⟩
      ·obtain⟨t1,_,c,t3⟩:=tabAt b q' z
       obtain⟨more,m1⟩:=un.tbls.gr b q' #[] q t1
       rw[e] at t1
       cases t1
       exact .inr ⟨(t3.tab e).isCodeTable,rfl,_,m1⟩
      ·rcases hO b with z3|⟨ob,xs,z3⟩
       ·rw[z2] at z3;cases z3
       ·rw[z2] at z3
        cases z3
        have z4:=un.frzs b ob _ q
        obtain⟨e1,_⟩:=hok b _ q
        obtain⟨e2,_⟩:=hok' b _ z4
        rw[e] at e1;cases e1
        exact .inl e2
    refine⟨rfl,⟨fun b o e=>?_,fun b o e=>?_⟩,os,bare⟩
    ·rcases key b o e with z|⟨t,rfl,ps,z⟩
     ·exact .inl z
     ·exact .inr (.inl ⟨t,rfl,#[],ps,rfl,by rw[Array.empty_append];exact z⟩)
    ·rcases key b o e with z|⟨_,_,ps,z⟩
     ·exact⟨o,z⟩
     ·exact⟨_,z⟩
 have hoT:∀ (h0:Hp) b q,(gZ K).lookup b=some q->et P w (eV K h0) s₁.heap b (.tab q):=fun h0 b q e=>⟨#[],(tabAt b q e).1,trivial,fun pos v z=>by cases z⟩
 cases hk:K.lookup a with
 | some o =>
  have e:=KX a o hk
  rw[ha] at e
  cases e
  refine core (fun _=>none) (.inr ⟨_,vs.toArray,_,hk,rfl,rfl,rfl,by rw[zH,lenV];exact hl,by simpa using rv⟩) (fun b u z=>?_) (fun b z=>absurd rfl z) (fun z=>absurd rfl z) fun _=>.inl rfl
  unfold eV at z
  split at z
  ·rename_i q hq;cases z;exact hoT _ b q hq
  ·cases z
 | none =>
  refine core (fun b=>if b=a then some (.frz { cls:=.type "list",data:=.seq vs.toArray } (.lst (ns.map V.int))) else none) (.inl (.inr ⟨{ cls:=.type "list",data:=.seq vs.toArray },?_⟩)) (fun b u z=>?_) (fun b z=>?_) (fun _=>hk) fun b=>?_
  ·unfold eV;rw[aT];exact yL rfl
  ·unfold eV at z
   split at z
   ·rename_i q hq;cases z;exact hoT _ b q hq
   ·by_cases hb:b=a
    ·replace z:=(yL hb).symm.trans z
     cases z
     subst hb
     exact⟨ha,by rw[zD];exact hl,vs,_,rv,ha⟩
    ·replace z:=(yN hb).symm.trans z;cases z
  ·by_cases hb:b=a
   ·exact hb
   ·exact absurd (yN hb) z
  ·by_cases hb:b=a
   ·exact .inr ⟨_,_,yL hb⟩
   ·exact .inl (yN hb)
theorem GN{l:W.OpenLaw}{q:Program}{loose:List Str}{XP:(Str->Option Value)->Heap->Prop}{YP:World->Heap->Prop}{d:DefRec}{K:Params->W.Frag}{CX:World->FR}{sp:World->Sp}
  (hn:l.most=some n) (hn2:n<=sizeLine) (hdf:d.params.defaults=[]) (hr:dZ k callerA)
  (hY:∀ (w:World) (h:Heap),YP w h->(K w.params).In h/\∀P∈ts,h.get? P=some (W.tabObj #[])) (ht:∀w:World,nq (K w.params) ts=true)
  (F:∀ (w:World) (mg:Str->Option Value) (fa:Addr) (h:Heap),(K w.params).In h->h.Ns mainGlobals mg->mg d.name=some (.ref fa) ->
   ∃fd:FuncData,(∀ (s:Shared) (u:Value),BindsTo s fd ⟨[u],[]⟩ [(x,u)]) /\
    ∀base:Heap,(K w.params).In base->base.Ns mainGlobals mg->pH l.prog w (K w.params) mg base (CX w) k fa fd [x] (sp w))
  (hsp:∀ (w:World) (H:Hp) (a:Addr) (ns:List Int),ns.length<=n->eu (K w.params) H->ig (K w.params) H a (ns.map V.int)->sp w [.ref a] H (fun v _=>v=.bl true) fun _ _ _=>False)
  (hCX:∀ (w:World) (H:Hp) (s:Shared) (e:Value) (s':Shared),CX w [] H s (fun _ _ _=>False) e s'->False) :
  W.WalkO q loose XP YP l.row.toRowW d [] (fun f vs=>PySem.call f vs):=by
 refine Att.attach_call hn hdf fun w s₀ s₁ mg mb fa o pm cd doc a vs ns G Y ho hd hcd hmg hobj hints hlen hg=>?_
 obtain⟨KX,hts⟩:=hY w _ Y
 obtain⟨fd,hb,hF⟩:=F w mg fa _ KX G.T.g hmg
 have hbm:Rk mg s₁.heap:=by
  obtain⟨bm,ob,b1,b2,b3,b4,b5,b6⟩:=G.T.bmain
  refine⟨bm,ob,b1,b2,fun z=>?_,b3,b4,b5,b6⟩
  obtain⟨o',es,ep,e1,e2,_⟩:=G.T.g
  rw[<- z,b3] at e1
  cases e1
  rw[b6] at e2;cases e2
 exact FG KX G.T.g G.T.b G.T.builtins G.T.nolimit hbm hg (ht w) hts hobj hints (yD hlen hn2) hr hF hb (fun H hT hS=>hsp w H a ns hlen hT hS) fun H e s'=>hCX w H s₁ e s'
end Dl
namespace SP
open PySem PySem.W PyProof.Rows
variable {n i j nrem:Nat}{p q p₀:Array Nat}
def run{α:Type}(lt:Nat->Nat->Bool):KasT α->α
 | .ret a=>a
 | .ask i j k=>run lt (k (lt i j))
theorem iq{α β:Type}(lt:Nat->Nat->Bool)(f:α->KasT β):∀t:KasT α,run lt (t.bind f)=run lt (f (run lt t))
 | .ret a=>rfl
 | .ask i j k=>by
  show run lt ((k (lt i j)).bind f)=run lt (f (run lt (k (lt i j))))
  exact iq lt f (k (lt i j))
def PJ(n:Nat){α:Type}:KasT α->Prop
 | .ret _=>True
 | .ask i j k=>i < n/\j < n/\∀b,PJ n (k b)
theorem wp_run{α:Type}{n:Nat}{cmp:Nat->Nat->(Bool->Shared->Prop)->Shared->Prop}{lt:Nat->Nat->Bool}{s:Shared}(hc:∀i j C,i < n->j < n->C (lt i j) s->cmp i j C s):∀ (t:KasT α) {Q:α->Shared->Prop},PJ n t->Q (run lt t) s->t.kasWp cmp Q s
 | .ret a,Q,_,h=>h
 | .ask i j k,Q,b,h=>hc i j _ b.1 b.2.1 (wp_run hc (k (lt i j)) (b.2.2 _) h)
def qs(n:Nat){α:Type}(R:α->Prop):KasT α->Prop
 | .ret a=>R a
 | .ask i j k=>i < n/\j < n/\∀b,qs n R (k b)
theorem nX{α β:Type}{n:Nat}{R:α->Prop}{f:α->KasT β}:∀ {t:KasT α},qs n R t->(∀a,R a->PJ n (f a))->PJ n (t.bind f)
 | .ret a,b,h=>h a b
 | .ask i j k,b,h=>⟨b.1,b.2.1,fun c=>nX (b.2.2 c) h⟩
theorem iP{α β:Type}{n:Nat}{R:α->Prop}{S:β->Prop}{f:α->KasT β}:∀ {t:KasT α},qs n R t->(∀a,R a->qs n S (f a))->qs n S (t.bind f)
 | .ret a,b,h=>h a b
 | .ask i j k,b,h=>⟨b.1,b.2.1,fun c=>iP (b.2.2 c) h⟩
def Bd(n:Nat)(p:Array Nat):Prop:=∀a,p.getD a 0 < n
theorem Bd.perm(h:Bd n p)(e:q.Perm p):Bd n q:=by
 intro a
 rw[qD]
 cases ha:q[a]? with
 | none=>have:=h p.size;rw[qD] at this;simpa using this
 | some x =>
  have hx:x∈q:=Array.mem_of_getElem? ha
  have hx':x∈p:=e.mem_iff.mp hx
  obtain⟨i,hi,rfl⟩:=Array.mem_iff_getElem.mp hx'
  have:=h i
  rw[qD] at this
  simpa [hi] using this
theorem Jw{n:Nat}{p:Array Nat}(h:Bd n p):∀f m,qs n (fun _=>True) (kas_asc p f m)
 | 0,m=>trivial
 | f+1,m=>⟨h _,h _,fun c=>by
  dsimp only
  split
  ·trivial
  ·exact Jw h f (m+1)⟩
theorem zp(h:Bd n p)(i j:Nat):Bd n (kas_rev p i j):=h.perm (mirror_perm _ _ _ _)
theorem w4{n:Nat}:∀ (f:Nat) {p:Array Nat}(h:Bd n p) (m q:Nat),qs n (fun r=>Bd n r.1) (kas_desc f p m q)
 | 0,p,h,m,q=>h
 | f+1,p,h,m,q=>⟨h _,h _,fun c=>by
  dsimp only
  split
  ·split
   ·exact w4 f (zp h _ _) (m+1) 0
   ·exact w4 f h (m+1) 0
  ·exact⟨h _,h _,fun d=>by
    dsimp only
    split
    ·exact h
    ·exact w4 f h (m+1) (q+1)⟩⟩
theorem EF(h:Bd n p)(m nrem:Nat):qs n (fun r=>Bd n r.2) (kas_tail3 m nrem p):=iP (Jw (zp h 0 m) _ _) fun _ _=>zp h 0 m
theorem sx(h:Bd n p)(m nrem:Nat):qs n (fun r=>Bd n r.2) (kas_descPart m nrem p):=iP (w4 _ h _ _) fun r hr=>by
 split
 ·exact EF (zp hr _ _) _ _
 ·exact EF hr _ _
theorem KY(h:Bd n p)(nrem:Nat):qs n (fun r=>Bd n r.2) (kas_count nrem p):=iP (Jw h _ _) fun m _=>by
 split
 ·exact h
 ·split
  ·exact⟨h _,h _,fun c=>by
    dsimp only
    split
    ·exact h
    ·exact sx (zp h _ _) _ _⟩
  ·exact sx h _ _
theorem yn{n:Nat}{p:Array Nat}(h:Bd n p)(k:Nat):∀f l r,qs n (fun _=>True) (kas_place p k f l r)
 | 0,l,r=>trivial
 | f+1,l,r=>by
  unfold kas_place
  split
  ·trivial
  ·exact⟨h _,h _,fun c=>by
    dsimp only
    split
    ·exact yn h k f _ _
    ·exact yn h k f _ _⟩
theorem MS{n:Nat}:∀ (f:Nat) {p:Array Nat}(h:Bd n p) (k:Nat),PJ n (kas_bin f p k)
 | 0,p,h,k=>trivial
 | f+1,p,h,k=>nX (yn h k _ _ _) fun l _=>MS f (h.perm (bubble_perm _ _ _)) (k+1)
theorem IX(h1:1<=n):PJ n (kas_sort n):=by
 have h:Bd n (List.toArray (List.range n)):=fun a=>by
  rw[qD]
  by_cases ha:a < n
  ·simp[ha]
  ·simp[ha];lia
 refine nX (KY h n) fun r hr=>?_
 split
 ·exact MS _ hr _
 ·trivial
section
variable (z:Nat->Int)
def Z(p:Array Nat)(a:Nat):Int:=z (p.getD a 0)
def eH:Nat->Nat->Bool:=fun i j=>decide (z i < z j)
theorem ni{a b:Nat}(h:p[a]?=q[b]?):Z z p a=Z z q b:=by
 unfold Z
 rw[qD,qD,h]
theorem Hf(hj:j<=p.size)(k:Nat):Z z (kas_rev p i j) k=if i<=k/\k < j then Z z p (i+j - 1 - k) else Z z p k:=by
 have e:=getElem?_mirror_all (xs:=p) (i:=i) hj k
 unfold kas_rev
 by_cases h1:i<=k/\k < j
 ·rw[yL h1] at e ⊢;exact ni z e
 ·rw[yN h1] at e ⊢;exact ni z e
theorem JL{src d:Nat}(hs:src < p.size)(hd:d<=src)(k:Nat):Z z (bubble p src d) k=if k=src - d then Z z p src else if src - d < k/\k<=src then Z z p (k - 1) else Z z p k:=by
 have e:=getElem?_bubble hs d hd k
 by_cases h1:k=src - d
 ·rw[yL h1] at e ⊢;exact ni z e
 ·rw[yN h1] at e ⊢
  by_cases h2:src - d < k/\k<=src
  ·rw[yL h2] at e ⊢;exact ni z e
  ·rw[yN h2] at e ⊢;exact ni z e
def Up(p:Array Nat)(n:Nat):Prop:=∀a b,a<=b->b < n->Z z p a<=Z z p b
def Dn(p:Array Nat)(n:Nat):Prop:=∀a b,a<=b->b < n->Z z p b<=Z z p a
variable {z}
theorem LY(h:Up z p n)(hn:1<=n)(h1:Z z p (n - 1)<=Z z p n):Up z p (n+1):=by
 intro a b hab hb
 by_cases hbn:b < n
 ·exact h a b hab hbn
 ·have e:b=n:=by lia
  subst e
  by_cases ha:a=b
  ·subst ha;exact xZ _
  ·exact jU (h a (b - 1) (by lia) (by lia)) h1
theorem RO{p:Array Nat}:∀ (f n:Nat),1<=n->Up z p n->n<=run (eH z) (kas_asc p f n)/\run (eH z) (kas_asc p f n)<=n+f/\Up z p (run (eH z) (kas_asc p f n))/\(run (eH z) (kas_asc p f n) < n+f->Z z p (run (eH z) (kas_asc p f n)) < Z z p (run (eH z) (kas_asc p f n) - 1))
 | 0,n,hn,h=>⟨yM _,yM _,h,fun q=>absurd q (qE _)⟩
 | f+1,n,hn,h=>by
  unfold kas_asc
  show n<=run (eH z) (if eH z (p.getD n 0) (p.getD (n - 1) 0)=true then .ret n else kas_asc p f (n+1))/\run (eH z) (if eH z (p.getD n 0) (p.getD (n - 1) 0)=true then .ret n else kas_asc p f (n+1))<=n+(f+1)/\Up z p (run (eH z) (if eH z (p.getD n 0) (p.getD (n - 1) 0)=true then .ret n else kas_asc p f (n+1)))/\(run (eH z) (if eH z (p.getD n 0) (p.getD (n - 1) 0)=true then .ret n else kas_asc p f (n+1)) < n+(f+1)->Z z p (run (eH z) (if eH z (p.getD n 0) (p.getD (n - 1) 0)=true then .ret n else kas_asc p f (n+1))) < Z z p (run (eH z) (if eH z (p.getD n 0) (p.getD (n - 1) 0)=true then .ret n else kas_asc p f (n+1)) - 1))
  by_cases hc:eH z (p.getD n 0) (p.getD (n - 1) 0)=true
  ·rw[yL hc]
   exact⟨yM _,jV _ _,h,fun _=>yQ hc⟩
  ·rw[yN hc]
   have h1:Z z p (n - 1)<=Z z p n:=by
    have:¬ (Z z p n < Z z p (n - 1)):=fun q=>hc (yA q)
    lia
   obtain⟨a,b,c,d⟩:=RO f (n+1) (by lia) (LY h hn h1)
   exact⟨by lia,by lia,c,fun q=>d (by lia)⟩
theorem Cd(hj:j<=p.size)(h:∀a b,i<=a->a < j->i<=b->b < j->Z z p a=Z z p b)(k:Nat):Z z (kas_rev p i j) k=Z z p k:=by
 rw[Hf z hj]
 split
 ·rename_i hk
  exact h _ _ (by lia) (by lia) hk.1 hk.2
 ·rfl
theorem IM(e:∀k,Z z q k=Z z p k)(h:Dn z p n):Dn z q n:=fun a b hab hb=>by rw[e,e];exact h a b hab hb
theorem Oy(hn:n<=p.size)(h:Dn z p n):Up z (kas_rev p 0 n) n:=by
 intro a b hab hb
 rw[Hf z hn,Hf z hn,yL ⟨xV _,by lia⟩,yL ⟨xV _,hb⟩]
 exact h _ _ (by lia) (by lia)
theorem nQ(p:Array Nat)(i j:Nat):(kas_rev p i j).size=p.size:=mirror_size _ _ _ _
theorem nG(p:Array Nat)(i j:Nat):(kas_rev p i j).Perm p:=mirror_perm _ _ _ _
structure Nv(z:Nat->Int)(p₀ p:Array Nat)(n q nrem:Nat):Prop where
 perm:p.Perm p₀
 size:p.size=p₀.size
 le:n<=nrem
 qn:q+1<=n
 dn:Dn z p n
 eq:∀a b,n - (q+1)<=a->a < n->n - (q+1)<=b->b < n->Z z p a=Z z p b
theorem KR{p₀:Array Nat}{nrem:Nat}(hz:nrem<=p₀.size):∀ (f:Nat) (p:Array Nat) (n q:Nat),n+f<=nrem->Nv z p₀ p n q nrem ->
  let r:=run (eH z) (kas_desc f p n q);Nv z p₀ r.1 r.2.1 r.2.2 nrem
 | 0,p,n,q,hn,h=>h
 | f+1,p,n,q,hn,h=>by
  intro r
  have hr:r=run (eH z) (if eH z (p.getD n 0) (p.getD (n - 1) 0)=true then (if q > 0 then kas_desc f (kas_rev p (n - (q+1)) n) (n+1) 0 else kas_desc f p (n+1) 0)
   else .ask (p.getD (n - 1) 0) (p.getD n 0) fun d=>if d=true then .ret (p,n,q) else kas_desc f p (n+1) (q+1)):=rfl
  have hq:=h.qn
  by_cases hc:eH z (p.getD n 0) (p.getD (n - 1) 0)=true
  ·rw[yL hc] at hr
   have hlt:Z z p n < Z z p (n - 1):=yQ hc
   have step:∀p':Array Nat,p'.Perm p₀->p'.size=p₀.size->(∀k,Z z p' k=Z z p k)->Nv z p₀ p' (n+1) 0 nrem:=fun p' a1 a2 a3=>by
    refine⟨a1,a2,by lia,by lia,fun a b hab hb=>?_,fun a b h1 h2 h3 h4=>by rw[show a=b by lia]⟩
    rw[a3,a3]
    by_cases hbn:b < n
    ·exact h.dn a b hab hbn
    ·have e:b=n:=by lia
     subst e
     by_cases ha:a=b
     ·subst ha;exact xZ _
     ·exact jU (Int.le_of_lt hlt) (h.dn a (b - 1) (by lia) (by lia))
   by_cases hq0:q > 0
   ·rw[yL hq0] at hr
    rw[hr]
    exact KR hz f _ (n+1) 0 (by lia) (step _ ((nG _ _ _).trans h.perm) (by rw[nQ,h.size]) (Cd (by rw[h.size];lia) h.eq))
   ·rw[yN hq0] at hr
    rw[hr]
    exact KR hz f p (n+1) 0 (by lia) (step p h.perm h.size fun _=>rfl)
  ·rw[yN hc] at hr
   have hge:Z z p (n - 1)<=Z z p n:=by
    have:¬ (Z z p n < Z z p (n - 1)):=fun q=>hc (yA q)
    lia
   have hr':r=run (eH z) (if eH z (p.getD (n - 1) 0) (p.getD n 0)=true then .ret (p,n,q) else kas_desc f p (n+1) (q+1)):=hr
   by_cases hd:eH z (p.getD (n - 1) 0) (p.getD n 0)=true
   ·rw[yL hd] at hr'
    rw[hr']
    exact h
   ·rw[yN hd] at hr'
    rw[hr']
    have heq:Z z p n=Z z p (n - 1):=by
     have:¬ (Z z p (n - 1) < Z z p n):=fun q=>hd (yA q)
     lia
    refine KR hz f p (n+1) (q+1) (by lia) ⟨h.perm,h.size,by lia,by lia,fun a b hab hb=>?_,fun a b h1 h2 h3 h4=>?_⟩
    ·by_cases hbn:b < n
     ·exact h.dn a b hab hbn
     ·have e:b=n:=by lia
      subst e
      by_cases ha:a=b
      ·subst ha;exact xZ _
      ·rw[heq];exact h.dn a (b - 1) (by lia) (by lia)
    ·have key:∀c,n+1 - (q+1+1)<=c->c < n+1->Z z p c=Z z p (n - 1):=fun c c1 c2=>by
      by_cases hcn:c < n
      ·exact h.eq c (n - 1) (by lia) hcn (by lia) (by lia)
      ·have e:c=n:=by lia
       subst e;exact heq
     rw[key a h1 h2,key b h3 h4]
structure Rc(z:Nat->Int)(p₀:Array Nat)(nrem:Nat)(r:Nat×Array Nat):Prop where
 perm:r.2.Perm p₀
 size:r.2.size=p₀.size
 ge:1<=r.1
 le:r.1<=nrem
 up:Up z r.2 r.1
theorem tail3(hz:nrem<=p₀.size)(h1:1<=n)(hn:n<=nrem)(hp:p.Perm p₀)(hs:p.size=p₀.size)(hd:Dn z p n):Rc z p₀ nrem (run (eH z) (kas_tail3 n nrem p)):=by
 unfold kas_tail3
 rw[iq]
 obtain⟨a,b,c,_⟩:=RO (nrem - n) n h1 (Oy (by lia) hd)
 exact⟨(nG _ _ _).trans hp,by show (kas_rev p 0 n).size=_;rw[nQ,hs],by show 1<=run _ (kas_asc _ _ _);lia,by show run _ (kas_asc _ _ _)<=nrem;lia,c⟩
theorem descPart(hz:nrem<=p₀.size)(h1:1<=n)(hn:n < nrem)(hp:p.Perm p₀)(hs:p.size=p₀.size)(hd:Dn z p n)(hlt:Z z p n<=Z z p (n - 1)):Rc z p₀ nrem (run (eH z) (kas_descPart n nrem p)):=by
 unfold kas_descPart
 rw[iq]
 have D:=KR (z:=z) hz (nrem - (n+1)) p (n+1) 0 (by lia) ⟨hp,hs,by lia,by lia,fun a b hab hb=>by
  by_cases hbn:b < n
  ·exact hd a b hab hbn
  ·have e:b=n:=by lia
   subst e
   by_cases ha:a=b
   ·subst ha;exact xZ _
   ·exact jU hlt (hd a (b - 1) (by lia) (by lia)),fun a b h1 h2 h3 h4=>by rw[show a=b by lia]⟩
 dsimp only at D
 generalize run (eH z) (kas_desc (nrem - (n+1)) p (n+1) 0)=r at D
 have hq:=D.qn
 split
 ·exact tail3 hz (by lia) D.le ((nG _ _ _).trans D.perm) (by rw[nQ,D.size]) (IM (Cd (by have:=D.size;have:=D.le;lia) D.eq) D.dn)
 ·exact tail3 hz (by lia) D.le D.perm D.size D.dn
theorem count(hz:nrem<=p.size)(h1:1<=nrem):Rc z p nrem (run (eH z) (kas_count nrem p)):=by
 unfold kas_count
 rw[iq]
 obtain⟨a,b,c,d⟩:=RO (z:=z) (p:=p) (nrem - 1) 1 (yM _) (fun x y hxy hy=>by rw[show x=y by lia];exact xZ _)
 generalize run (eH z) (kas_asc p (nrem - 1) 1)=n at a b c d
 split
 ·exact⟨Array.Perm.refl _,rfl,a,by show n<=nrem;lia,c⟩
 ·rename_i hne
  have hlt:n < nrem:=by
   have:n≠nrem:=fun e=>hne (by simp[e])
   lia
  have hd:=d (by lia)
  split
  ·rename_i hn1
   show Rc z p nrem (run (eH z) (if eH z (p.getD 0 0) (p.getD (n - 1) 0)=true then .ret (n,p) else kas_descPart n nrem (kas_rev p 0 n)))
   by_cases hc:eH z (p.getD 0 0) (p.getD (n - 1) 0)=true
   ·rw[yL hc]
    exact⟨Array.Perm.refl _,rfl,a,by show n<=nrem;lia,c⟩
   ·rw[yN hc]
    have hge:Z z p (n - 1)<=Z z p 0:=by
     have:¬ (Z z p 0 < Z z p (n - 1)):=fun q=>hc (yA q)
     lia
    have all:∀x,x < n->Z z p x=Z z p 0:=fun x hx=>by
     have e1:=c 0 x (xV _) hx
     have e2:=c x (n - 1) (by lia) (by lia)
     lia
    have same:=Cd (z:=z) (p:=p) (i:=0) (j:=n) (by lia) fun x y _ hx _ hy=>by rw[all x hx,all y hy]
    refine descPart hz (by lia) hlt (nG _ _ _) (by rw[nQ]) (fun x y hxy hy=>?_) ?_
    ·rw[same,same,all x (by lia),all y hy];exact xZ _
    ·rw[same,same];lia
  ·exact descPart hz (by lia) hlt (Array.Perm.refl _) rfl (fun x y hxy hy=>by rw[show x=y by lia];exact xZ _) (by lia)
theorem place{p:Array Nat}{k:Nat}(hu:Up z p k):∀ (f l r:Nat),r - l<=f->l<=r->r<=k->(∀a,a < l->Z z p a<=Z z p k)->(∀a,r<=a->a < k->Z z p k<=Z z p a) ->
  let m:=run (eH z) (kas_place p k f l r);m<=k/\(∀a,a < m->Z z p a<=Z z p k)/\(∀a,m<=a->a < k->Z z p k<=Z z p a)
 | 0,l,r,hf,hl,hr,h1,h2=>by
  intro m
  have e:l=r:=by lia
  subst e
  exact⟨hr,h1,h2⟩
 | f+1,l,r,hf,hl,hr,h1,h2=>by
  intro m
  have hm:m=run (eH z) (if l >= r then .ret l else .ask (p.getD k 0) (p.getD ((l+r) / 2) 0) fun c=>if c=true then kas_place p k f l ((l+r) / 2) else kas_place p k f ((l+r) / 2+1) r):=rfl
  by_cases hlr:l >= r
  ·rw[yL hlr] at hm
   rw[hm]
   have e:l=r:=by lia
   subst e
   exact⟨hr,h1,h2⟩
  ·rw[yN hlr] at hm
   have hm':m=run (eH z) (if eH z (p.getD k 0) (p.getD ((l+r) / 2) 0)=true then kas_place p k f l ((l+r) / 2) else kas_place p k f ((l+r) / 2+1) r):=hm
   by_cases hc:eH z (p.getD k 0) (p.getD ((l+r) / 2) 0)=true
   ·rw[yL hc] at hm'
    rw[hm']
    have hlt:Z z p k < Z z p ((l+r) / 2):=yQ hc
    exact place hu f l ((l+r) / 2) (by lia) (by lia) (by lia) h1 fun a ha hak=>jU (Int.le_of_lt hlt) (hu _ a ha hak)
   ·rw[yN hc] at hm'
    rw[hm']
    have hge:Z z p ((l+r) / 2)<=Z z p k:=by
     have:¬ (Z z p k < Z z p ((l+r) / 2)):=fun q=>hc (yA q)
     lia
    exact place hu f ((l+r) / 2+1) r (by lia) (by lia) hr (fun a ha=>jU (hu a ((l+r) / 2) (by lia) (by lia)) hge) h2
theorem bin{p₀:Array Nat}:∀ (f:Nat) (p:Array Nat) (k:Nat),p.Perm p₀->p.size=p₀.size->k+f<=p₀.size->Up z p k ->
  (run (eH z) (kas_bin f p k)).Perm p₀/\(run (eH z) (kas_bin f p k)).size=p₀.size/\Up z (run (eH z) (kas_bin f p k)) (k+f)
 | 0,p,k,hp,hs,hk,hu=>⟨hp,hs,hu⟩
 | f+1,p,k,hp,hs,hk,hu=>by
  unfold kas_bin
  rw[iq]
  have P:=place hu k 0 k (by lia) (by lia) (yM _) (fun a ha=>absurd ha (vX _)) fun a ha hak=>absurd ha (by lia)
  dsimp only at P
  generalize run (eH z) (kas_place p k k 0 k)=l at P
  obtain⟨p1,p2,p3⟩:=P
  have zb:=JL z (p:=p) (src:=k) (d:=k - l) (by lia) (by lia)
  have e:k - (k - l)=l:=by lia
  rw[e] at zb
  obtain⟨q1,q2,q3⟩:=bin f (bubble p k (k - l)) (k+1) ((bubble_perm _ _ _).trans hp) (by rw[bubble_size,hs]) (by lia) fun a b hab hb=>by
   rw[zb,zb]
   by_cases ha1:a=l
   ·rw[yL ha1]
    by_cases hb1:b=l
    ·rw[yL hb1];exact xZ _
    ·rw[yN hb1]
     rw[yL (by lia)]
     exact p3 _ (by lia) (by lia)
   ·rw[yN ha1]
    by_cases hb1:b=l
    ·rw[yL hb1,yN (by lia)]
     exact p2 a (by lia)
    ·rw[yN hb1]
     by_cases ha2:l < a/\a<=k
     ·rw[yL ha2,yL (by lia)]
      exact hu _ _ (by lia) (by lia)
     ·rw[yN ha2]
      by_cases hb2:l < b/\b<=k
      ·rw[yL hb2]
       exact hu _ _ (by lia) (by lia)
      ·rw[yN hb2]
       exact hu _ _ hab (by lia)
  exact⟨q1,q2,by rw[show k+(f+1)=k+1+f by lia];exact q3⟩
theorem gG(h1:1<=n):(run (eH z) (kas_sort n)).toList.Perm (List.range n)/\((run (eH z) (kas_sort n)).toList.map z).Pairwise (·<=·):=by
 have hsz:(List.toArray (List.range n)).size=n:=by simp
 have C:=count (z:=z) (p:=List.toArray (List.range n)) (nrem:=n) (by lia) h1
 have fin:∀p:Array Nat,p.Perm (List.toArray (List.range n))->p.size=n->Up z p n->p.toList.Perm (List.range n)/\(p.toList.map z).Pairwise (·<=·):=fun p a b c=>by
  refine⟨by have:=a.toList;simpa using this,?_⟩
  rw[List.pairwise_iff_getElem]
  intro i j hi hj hij
  have hi':i < n:=by simpa [b] using hi
  have hj':j < n:=by simpa [b] using hj
  have:=c i j (jT hij) hj'
  unfold Z at this
  have e1:p.getD i 0=p[i]:=by simp[Array.getD,b,hi']
  have e2:p.getD j 0=p[j]:=by simp[Array.getD,b,hj']
  rw[e1,e2] at this
  simpa using this
 unfold kas_sort
 rw[iq]
 generalize run (eH z) (kas_count n (List.toArray (List.range n)))=r at C
 obtain⟨k,p⟩:=r
 have hs:=C.size
 rw[hsz] at hs
 split
 ·rename_i hlt
  have hge:=C.ge
  have e:max k 1=k:=by have:1<=k:=hge;lia
  rw[e]
  obtain⟨q1,q2,q3⟩:=bin (z:=z) (n - k) p k C.perm C.size (by rw[hsz];have:k < n:=hlt;lia) C.up
  refine fin _ q1 (by rw[q2,hsz]) ?_
  rw[show k+(n - k)=n by have:k < n:=hlt;lia] at q3
  exact q3
 ·rename_i hnlt
  have hle:=C.le
  have e:k=n:=by have h3:k<=n:=hle;have h4:¬ k < n:=hnlt;lia
  subst e
  exact fin p C.perm hs C.up
end
end SP
namespace Srt
open PySem PySem.W PySem.Calls PyProof.Rows
variable {vs:List Value}{l:Addr}
def outV(z:Nat->Int)(vs:List Value):List Value:=if vs.length < 2 then vs else (SP.run (SP.eH z) (kas_sort vs.length)).toList.map fun i=>vs.getD i Value.none
theorem outV_len(z:Nat->Int)(vs:List Value):(outV z vs).length=vs.length:=by
 unfold outV
 split
 ·rfl
 ·rename_i h
  have:=(SP.gG (z:=z) (n:=vs.length) (by lia)).1.length_eq
  simpa using this
section
variable {prog:Program}{w:World}{A:Around}{E:Value->Shared->Prop}{s:Shared}
theorem list_sortG{a:Addr}{n:Nat}{P:PySem.Fin->Shared->Prop}(ho:s.heap.get? a=some (seqObj "list" vs.toArray n))(h64:vs.length < 64)(z:Nat->Int)(κ:SortKind)
  (hk:2<=vs.length->∀h':Heap,(∀b o,b≠a->s.heap.get? b=some o->h'.get? b=some o)->∀Q':SortKind->Shared->Prop,Q' κ { s with heap:=h' }->wpAny (model prog w) A (keyKind' vs.toArray) Q' (fun _ _=>False) { s with heap:=h' })
  (hlt:2<=vs.length->∀h':Heap,(∀b o,b≠a->s.heap.get? b=some o->h'.get? b=some o)->∀i j C,i < vs.length->j < vs.length->C (SP.eH z i j) { s with heap:=h' }->kas_ask prog w A κ vs i j C { s with heap:=h' })
  (h:∀ (h':Heap) (c:Nat),(∀b o,b≠a->s.heap.get? b=some o->h'.get? b=some o)->h'.get? a=some (seqObj "list" (outV z vs).toArray c)->P (.done (.ret .none)) { s with heap:=h' }) :
  wpAny (model prog w) A (Builtin.«list.sort» ⟨[.ref a],[]⟩) P E s:=by
 rw[list_sort_plain]
 have ha:a < s.heap.objs.size:=zY ho
 have hsl:vs.length<=sizeLine:=by rw[qU];lia
 refine zV (vR ho rfl (zV (kC ho rfl ?_ (by simpa using hsl) (xV _))))
 obtain⟨e1,ho1⟩:∃e,(s.heap.update a (Obj.mapSeq fun _=>(#[]:Array Value))).get? a=some (seqObj "list" #[] e):=⟨_,kF ho fun _=>#[]⟩
 have kp1:∀b o,b≠a->s.heap.get? b=some o->(s.heap.update a (Obj.mapSeq fun _=>(#[]:Array Value))).get? b=some o:=fun b o hb e=>(xN _ _ (jN hb)).trans e
 refine zV (seqEpoch_at ho1 rfl (zV (wpAny_newTuple ?_ (by simpa using hsl))))
 refine zV (kU (xX ?_) (xV _))
 have ho3:(((s.heap.update a (Obj.mapSeq fun _=>(#[]:Array Value))).push (seqObj "tuple" vs.toArray 0)).push (seqObj "list" #[] 0)).get? a=some (seqObj "list" #[] e1):=zU _ (zU _ ho1)
 have kp3:∀b o,b≠a->s.heap.get? b=some o->(((s.heap.update a (Obj.mapSeq fun _=>(#[]:Array Value))).push (seqObj "tuple" vs.toArray 0)).push (seqObj "list" #[] 0)).get? b=some o:=fun b o hb e=>zU _ (zU _ (kp1 b o hb e))
 show wpAny _ A _ P E { s with heap:=((s.heap.update a (Obj.mapSeq fun _=>(#[]:Array Value))).push (seqObj "tuple" vs.toArray 0)).push (seqObj "list" #[] 0) }
 generalize ((s.heap.update a (Obj.mapSeq fun _=>(#[]:Array Value))).push (seqObj "tuple" vs.toArray 0)).push (seqObj "list" #[] 0)=h3 at ho3 kp3
 clear ho1 kp1
 dsimp only
 have fin:∀st':SortSt,(arrOf st').map (·.2)=(outV z vs).toArray->failedOf st'=none ->
   wpAny (model prog w) A (do
    let sorted:=(arrOf st').map (·.2)
    let touched:=(<- seqEpoch a) != e1
    Builtin.List.listUpdate (.ref a) fun _=>sorted
    if let some e:=failedOf st' then rule "list.sort.comparison-raised";throw e
    if touched then rule "list.sort.modified";raiseError "ValueError" "list modified during sort"
    ret .none) P E { s with heap:=h3 }:=fun st' h1 h2=>by
  dsimp only
  rw[h1,h2]
  refine zV (seqEpoch_at ho3 rfl ?_)
  refine zV (kC ho3 rfl ?_ (xV _) (by show (outV z vs).toArray.size<=_;rw[zH,outV_len];lia))
  obtain⟨c,hc⟩:∃c,(h3.update a (Obj.mapSeq fun _=>(outV z vs).toArray)).get? a=some (seqObj "list" (outV z vs).toArray c):=⟨_,kF ho3 fun _=>(outV z vs).toArray⟩
  have q:=h _ c (fun b o hb e=>(xN _ _ (jN hb)).trans (kp3 b o hb e)) hc
  simp only[bne_self_eq_false,yO,qP]
  exact zW q
 by_cases h2:vs.toArray.size < 2
 ·rw[yL h2,yL h2]
  refine zV (zW ?_)
  rw[StateT.run_pure]
  refine zV (zW (fin _ ?_ rfl))
  have h2':vs.length < 2:=by simpa using h2
  unfold outV
  rw[yL h2']
  show ((vs.toArray.zip vs.toArray).map (·.2))=vs.toArray
  apply Array.toList_inj.mp
  simp only[Array.toList_map,Array.toList_zip]
  exact List.map_snd_zip (yM _)
 ·rw[yN h2,yN h2]
  have h2':2<=vs.length:=by
   have:¬ vs.length < 2:=by simpa using h2
   lia
  refine zV (xA (hk h2' h3 kp3 (fun κ' s'=>κ'=κ/\s'={ s with heap:=h3 }) ⟨rfl,rfl⟩) (fun κ' s' hs=>?_) fun _ _ x=>x.elim)
  obtain⟨rfl,rfl⟩:=hs
  refine zV (xA (kat_run (Q:=fun st' s'=>s'={ s with heap:=h3 }/\(arrOf st').map (·.2)=(outV z vs).toArray/\failedOf st'=none) (G:=fun p s'=>s'={ s with heap:=h3 }/\p=SP.run (SP.eH z) (kas_sort vs.length))
   rfl h2' h64 (fun p st' s' a1 a2 a3 a4=>⟨a4.1,?_,a3⟩) (SP.wp_run (hlt h2' h3 kp3) (kas_sort vs.length) (SP.IX (by lia)) ⟨rfl,rfl⟩)) ?_ fun _ _ e=>e)
  ·rw[kat_snds rfl a2,a4.2]
   unfold outV
   rw[yN (by lia)]
  ·rintro⟨⟨⟩,st'⟩ s' ⟨hs,h4,h5⟩
   subst hs
   exact fin st' h4 h5
def Coll(h:Heap)(l:Addr)(vs:List Value):Prop:=∃ (o:Obj) (T:String) (n:Nat),(T="list"\/T="tuple")/\h.get? l=some o/\o.cls=.type T/\o.data=.seq vs.toArray n
theorem collectC{Q:List Value->Shared->Prop}(hl:Coll s.heap l vs)
  (h:Q vs { s with heap:=(s.heap.push (seqObj "list" #[] 0)).update s.heap.objs.size (Obj.mapSeq (·++vs.toArray)) }) (hsz:vs.length<=sizeLine):wpAny (model prog w) A (collect (.ref l)) Q E s:=by
 obtain⟨o,T,n,hT,ho,hc,hd⟩:=hl
 unfold collect
 refine zV (wpAny_runValue (kG entry_proto_collect' ?_))
 show wpAny _ _ (do again (.builtin "list.__iadd__" ⟨[<- newList [],.ref l],[]⟩)) _ _ s
 refine zV (kU (zW ⟨wZ _ (by decide +kernel),kG entry_list_iadd' ?_⟩))
 show wpAny _ _ (Builtin.List.listExtendWith (.ref s.heap.objs.size) (.ref l) (.ref s.heap.objs.size)) _ _ { s with heap:=s.heap.push (seqObj "list" #[] 0) }
 unfold Builtin.List.listExtendWith
 have ho':(s.heap.push (seqObj "list" #[] 0)).get? l=some o:=zU _ ho
 refine zV (Zb (T:=T) ⟨o,ho',hc⟩ ?_)
 rw[yL (by rcases hT with rfl|rfl<;>simp)]
 refine zV (vR ho' hd (zV (vR (xs:=#[]) (n:=0) (zX _ rfl) rfl ?_)))
 rw[yN (by simp)]
 refine zV (kC (xs:=#[]) (n:=0) (zX _ rfl) rfl ?_ (xV _) (by show (#[]++vs.toArray).size<=sizeLine+1;simp only[Array.size_append,zH,xK];lia))
 refine zW ?_
 refine zV (wpAny_load (kF (zX _ rfl) _) ?_)
 show wpAny _ _ (pure ((#[]:Array Value)++vs.toArray).toList) Q E _
 rw[show ((#[]:Array Value)++vs.toArray).toList=vs by simp]
 exact zW h
theorem sortedG{Q:Value->Shared->Prop}(hl:Coll s.heap l vs)(h64:vs.length < 64)(z:Nat->Int)(κ:SortKind)
  (hk:2<=vs.length->∀h':Heap,(∀b o,s.heap.get? b=some o->h'.get? b=some o)->∀Q':SortKind->Shared->Prop,Q' κ { s with heap:=h' }->wpAny (model prog w) A.in1.in1 (keyKind' vs.toArray) Q' (fun _ _=>False) { s with heap:=h' })
  (hlt:2<=vs.length->∀h':Heap,(∀b o,s.heap.get? b=some o->h'.get? b=some o)->∀i j C,i < vs.length->j < vs.length->C (SP.eH z i j) { s with heap:=h' }->kas_ask prog w A.in1.in1 κ vs i j C { s with heap:=h' })
  (h:∀ (h':Heap) (D:Addr) (c:Nat),(∀b o,s.heap.get? b=some o->h'.get? b=some o)->s.heap.objs.size<=D->h'.get? D=some (seqObj "list" (outV z vs).toArray c)->Q (.ref D) { s with heap:=h' }) :
  wpAny (model prog w) A (call (.builtin "sorted") [.ref l]) Q E s:=by
 have hsl:vs.length<=sizeLine:=by rw[qU];lia
 refine Calls.call_function_entry kind_sorted plain_sorted entry_sorted (args_sorted1 _) ?_
 unfold Builtin.«sorted»
 refine zV (m:=checkCount "sorted" 1 1 _) (zW (zV (collectC hl ?_ hsl)))
 refine zV (kU ?_ (by simpa using hsl))
 have hsz:((s.heap.push (seqObj "list" #[] 0)).update s.heap.objs.size (Obj.mapSeq (·++vs.toArray))).objs.size=s.heap.objs.size+1:=by rw[Heap.size_update,size_push']
 have kp:∀b o,s.heap.get? b=some o->(((s.heap.push (seqObj "list" #[] 0)).update s.heap.objs.size (Obj.mapSeq (·++vs.toArray))).push (seqObj "list" vs.toArray 0)).get? b=some o:=fun b o e =>
  zU _ ((xN _ _ (jI (zY e))).trans (zU _ e))
 have hoD:(((s.heap.push (seqObj "list" #[] 0)).update s.heap.objs.size (Obj.mapSeq (·++vs.toArray))).push (seqObj "list" vs.toArray 0)).get? (s.heap.objs.size+1)=some (seqObj "list" vs.toArray 0):=by
  rw[<- hsz];exact zX _ rfl
 show wpAny _ _ _ _ _ { s with heap:=((s.heap.push (seqObj "list" #[] 0)).update s.heap.objs.size (Obj.mapSeq (·++vs.toArray))).push (seqObj "list" vs.toArray 0) }
 rw[hsz]
 generalize ((s.heap.push (seqObj "list" #[] 0)).update s.heap.objs.size (Obj.mapSeq (·++vs.toArray))).push (seqObj "list" vs.toArray 0)=h1 at kp hoD
 have kk:∀h':Heap,(∀b o,b≠s.heap.objs.size+1->h1.get? b=some o->h'.get? b=some o)->∀b o,s.heap.get? b=some o->h'.get? b=some o:=fun h' q b o e=>q b o (yR (jO (zY e))) (kp b o e)
 refine zV (xX (qV slot_list_sort ⟨_,hoD,rfl⟩ entry_list_sort (list_sortG hoD h64 z κ (fun a h' q=>hk a h' (kk h' q)) (fun a h' q=>hlt a h' (kk h' q)) fun h' c q e=>⟨_,rfl,?_⟩) (args_list_sort _)))
 exact zW ⟨_,rfl,h h' _ c (kk h' q) (by lia) e⟩
end
end Srt
namespace Dl
open PySem L2 PySem.Spec PyProof.Rows
variable {a b ns:List Int}{l:List (List Int)}{vs:List V}
section
variable {X:Cx}{HF₀ H₀:Hp}{e e2:Expr}{es:List Expr}{pos apos cpos px p:Pos}{x:Str}{fs:Env->Option (List D)}
def E7(i:Nat)(fz:List Nat)(f:Env->Option (List D)):ak->Option Out:=fun ρ=>(f (bP (hand fz 0 ρ))).bind fun us=>pD i (fun ds=>if ds.length+us.length<=sizeLine then some (ds++us) else none) (hand fz 0 ρ)
theorem Fp(i:Nat)(fz:List Nat){f:Env->Option (List D)}(hN:X.N[i]?=some x)(hv:Mv X.env.scope x)(h:DF X e f)(hd:(x == ("__debug__":Str))=false:=by decide)(hcd:(x == ("__classdict__":Str))=false:=by decide)
  (hfew:((backTo cpos (starEach [e] X.env)).all (fun x=>!x.1)&&(backToKw cpos (keywordEach [] X.env)).all (fun x=>x.1.isSome)&&decide ([e].length+([]:List Keyword).length+(if ([]:List Keyword).isEmpty then 0 else 1) < 30))=true:=by rfl)
  (hline:(apos.endLine == cpos.line)=true:=by rfl) (hs:starEach [e] X.env=(false,eval e X.env)::starEach [] X.env:=by rfl) :
  DS X HF₀ H₀ (.Expr (.Call (.Attribute (.Name x px) "extend" apos) [e] [] cpos) pos) (E7 i fz f) :=
 cH (mL (so qN PySem.F.slot_list_extend PySem.F.type_list_extend FA (kg hN hv hd hcd) (cq h eG hs) rfl hfew hline hs rfl)) fun E σ H ⟨HF,ρ,o,S,hg,q⟩=>by
  obtain⟨us,h1,hg⟩:=bs hg
  obtain⟨ds,es,h2,h3,rfl⟩:=lE hg
  obtain⟨HF1,s1,S1⟩:=S.hand fz
  obtain⟨a,vs,e1,e2,e3,e5,e4⟩:=S1.own i ds h2
  refine⟨.ref a,e1,.inl ⟨rfl,vs,ig.of e2⟩,HF1,_,us,S1.gr.fh,S1.frz,h1,fun b ws H' HF' G hb hf h' r=>?_⟩
  have S2:=S1.grow G
  obtain⟨a',vs',f1,f2,f3,f5,f4⟩:=S2.own i ds h2
  rw[e1] at f1;cases f1
  split at h3
  ·rename_i hz
   cases h3
   exact⟨a,b,vs',ws,rfl,rfl,f2,h',by rw[f4.length,r.length];exact hz,q σ _ HF' (S2.mut h2 e1 f2 (f4.append r)) (s1.trans G.ff)⟩
  ·cases h3
def Ds(ds:List D)(k:Int)(d:D):List D:=let j:=if k < 0 then (k+(ds.length:Int)).toNat else min k.toNat ds.length;ds.take j++d::ds.drop j
def Lp:V->List V->Hp->VK->Prop:=fun x vs H Q=>∃l xs k y,x=.ref l/\vs=[.int k,y]/\H l=some (.lst xs)/\xs.length < sizeLine/\-(2 ^ 62)<=k/\k < 2 ^ 62 /\
 Q .non (upd H l (.lst (xs.take (if k < 0 then (k+(xs.length:Int)).toNat else min k.toNat xs.length)++y::xs.drop (if k < 0 then (k+(xs.length:Int)).toNat else min k.toNat xs.length))))
theorem Ff:Pc X "list.insert" Lp:=by
 intro pins s σ H x vs v us Q I rx rv h
 obtain⟨l,xs,k,y,rfl,rfl,hH,hz,k1,k2,q⟩:=h
 cases rx
 obtain⟨u1,u2,rfl,⟨t,rfl⟩,ru⟩:=L2.aE.two rv
 obtain⟨z,its,n,r,hl,e⟩:=I.lstM hH
 have hfit:¬(!Builtin.List.listFitsIndex k)=true:=by
  have:Builtin.List.listFitsIndex k=true:=by
   unfold Builtin.List.listFitsIndex
   simp only[zF,zJ]
   lia
  rw[this];simp
 refine qX F.slot_list_insert ⟨_,e,rfl⟩ F.entry_list_insert (F.args_list_insert_3 _ _ _) (AutoListH.list_insert_list_int_val_1 l its.toArray n k t u2 hfit (by rw[zH];lia)) ⟨e,?_⟩
 have hlen:its.length=xs.length:=hl.symm
 refine⟨.non,_,I.lset (its':=its.take (if k < 0 then (k+(xs.length:Int)).toNat else min k.toNat xs.length)++u2::its.drop (if k < 0 then (k+(xs.length:Int)).toNat else min k.toNat xs.length)) hH e ?_ ((r.take _).append (.cons ru (r.drop _))) ?_,rfl,q⟩
 ·dsimp only
  rw[zH,hlen]
  apply Array.toList_inj.mp
  simp
  exact kM (by rw[qH,hlen];exact yM _)
 ·rw[zN,zL,jW,qH]
  lia
def GY(i:Nat)(fz:List Nat)(fk f:Env->Option D):ak->Option Out:=fun ρ=>(fk (aI ρ)).bind fun kd=>match kd with
 | .int k=>(l9 fz f ρ).bind fun p=>pD i (fun ds=>if BD k=true/\ds.length < sizeLine then some (Ds ds k p.1) else none) p.2
 | _=>none
theorem Gh(i:Nat)(fz:List Nat){fk f:Env->Option D}(hN:X.N[i]?=some x)(hv:Mv X.env.scope x)(hk:DE X e fk)(h:DE X e2 f)(hd:(x == ("__debug__":Str))=false:=by decide)(hcd:(x == ("__classdict__":Str))=false:=by decide)
  (hfew:((backTo cpos (starEach [e,e2] X.env)).all (fun x=>!x.1)&&(backToKw cpos (keywordEach [] X.env)).all (fun x=>x.1.isSome)&&decide ([e,e2].length+([]:List Keyword).length+(if ([]:List Keyword).isEmpty then 0 else 1) < 30))=true:=by rfl)
  (hline:(apos.endLine == cpos.line)=true:=by rfl) (hs:starEach [e,e2] X.env=(false,eval e X.env)::starEach [e2] X.env:=by rfl) (hs2:starEach [e2] X.env=(false,eval e2 X.env)::starEach [] X.env:=by rfl) :
  DS X HF₀ H₀ (.Expr (.Call (.Attribute (.Name x px) "insert" apos) [e,e2] [] cpos) pos) (GY i fz fk f) :=
 cH (mL (so qN PySem.F.slot_list_insert PySem.F.type_list_insert Ff (kg hN hv hd hcd) (cq hk (cq h eG hs2) hs) rfl hfew hline hs (by rw[hs2];rfl))) fun E σ H ⟨HF,ρ,o,S,hg,q⟩=>by
  obtain⟨kd,hkd,hg⟩:=bs hg
  cases kd<;>try cases hg
  rename_i k
  obtain⟨⟨d,ρ'⟩,h1,hg⟩:=bs hg
  obtain⟨ds,es,h2,h3,rfl⟩:=lE hg
  have hown:∃ds',ρ[i]?=some (.own ds'):=by
   obtain⟨d1,_,h1⟩:=bs h1
   split at h1
   ·cases h1;exact⟨ds,h2⟩
   ·obtain⟨d2,_,h1⟩:=ah h1
    cases h1
    rw[iE] at h2
    obtain⟨s,hs,h2⟩:=ah h2
    cases s with
    | non=>split at h2<;>cases h2
    | val _=>split at h2<;>cases h2
    | own xs=>exact⟨xs,hs⟩
  obtain⟨ds',hown⟩:=hown
  obtain⟨a,vs,e1,e2,e3,e5,e4⟩:=S.own i ds' hown
  refine⟨.ref a,e1,.inl ⟨rfl,vs,ig.of e2⟩,H,aI ρ,_,.refl _,S.all,hkd,fun vk Hk HFk Gk rk=>?_⟩
  simp only[Rep] at rk
  subst rk
  refine oG (S.step Gk.hh) h1 fun v H' HF' s1 S' sh r=>?_
  obtain⟨a',vs',f1,f2,f3,f5,f4⟩:=S'.own i ds h2
  rw[e1] at f1;cases f1
  split at h3
  ·rename_i hz
   cases h3
   have ok:=hz.1
   unfold BD at ok
   rw[zF] at ok
   refine⟨a,vs',k,v,rfl,rfl,f2,by rw[f4.length];exact hz.2,yQ ok.1,yQ ok.2,q σ _ HF' (S'.mut h2 e1 f2 ?_) s1⟩
   unfold Ds
   rw[f4.length]
   exact (f4.take _).append (aw.cons r (f4.drop _))
  ·cases h3
def nO:D->D->Option (List D)
 | .list xs,.list ys=>small (xs++ys)
 | _,_=>none
def GO(K:W.Frag):R2:=fun x y H Q=>∃a b xs ys,x=.ref a/\y=.ref b/\ig K H a xs/\ig K H b ys/\xs.length+ys.length<=sizeLine/\∀p,H p=none->Q (.ref p) (upd H p (.lst (xs++ys)))
theorem rL:hU X (binaryOp .Add) (GO X.K):=by
 intro pins s σ H x y v u Q I rx ry h
 obtain⟨a,b,xs,ys,rfl,rfl,ha,hb,hz,q⟩:=h
 cases rx
 cases ry
 obtain⟨its,r1,p1,_⟩:=I.list ha
 obtain⟨its2,r2,p2,_⟩:=I.list hb
 obtain⟨⟨cls,dd,data,sl⟩,ho,hc,n,hd⟩:=id p1.isList
 obtain⟨⟨cls2,dd2,data2,sl2⟩,ho2,hc2,n2,hd2⟩:=id p2.isList
 simp only at hc hd hc2 hd2
 subst hc hd hc2 hd2
 refine Zd ⟨_,ho,rfl⟩ ⟨_,ho2,rfl⟩ noFill_list_add seq_list_add PySem.F.slot_list_add PySem.F.entry_list_add (PySem.F.args_list_add_2 _ _) (list_addW a b its.toArray its2.toArray n n2 dd dd2 sl sl2 (by rw[zH,zH,<- r1.length,<- r2.length];exact hz)) ⟨ho,ho2,?_⟩
 have e:its.toArray++its2.toArray=(its++its2).toArray:=by simp
 rw[e]
 exact⟨.ref s.heap.objs.size,_,I.lnew (t':=s.toks) (r1.append r2) (by rw[zN];exact hz),rfl,q _ I.fresh⟩
def PP(g:D->D->Option (List D))(f1 f2:Env->Option D):Env->Option (List D):=fun ρ=>(f1 ρ).bind fun x=>(f2 ρ).bind fun y=>g x y
theorem OY{a b:Expr}{fa fb:Env->Option D}(ha:DE X a fa)(hb:DE X b fb):DF X (.BinOp a .Add b pos) (PP nO fa fb):=bf (ET rL ha hb) fun σ H Q ⟨HF,ρ,d,sm,eo,hf,q⟩=>by
 obtain⟨x,hx,hf⟩:=bs hf
 obtain⟨y,hy,hg⟩:=bs hf
 refine⟨HF,ρ,x,sm,eo,hx,fun v1 H1 HF1 g1 r1=>⟨HF1,ρ,y,g1.fh,eo.mono g1.ff,hy,fun v2 H2 HF2 g2 r2=>?_⟩⟩
 have r1:=r1.mono g2.ff
 cases x<;>cases y<;>simp only[nO] at hg<;>try cases hg
 rename_i xs ys
 obtain⟨rfl,hz⟩:=eA hg
 simp only[Rep] at r1 r2
 obtain⟨a,vs,rfl,ha,ra⟩:=r1
 obtain⟨b,us,rfl,hb,rb⟩:=r2
 have G:=g1.trans g2
 exact⟨a,b,vs,us,rfl,rfl,g2.fh.seq ha,g2.fh.seq hb,by rw[ra.length,rb.length,<- zN];exact hz,fun p hp=>q p _ _ HF2 (G.trans (.own G.fh hp)) (G.hh.free hp) (G.fh.free hp) aA (ra.append rb)⟩
def boolsOf:List D->Option (List Bool)
 | []=>some []
 | .bool b::r=>(boolsOf r).map (b::·)
 | _::_=>none
theorem mM:∀ {ds:List D}{bs:List Bool},boolsOf ds=some bs->ds=bs.map PyData.bool
 | [],bs,h=>by cases h;rfl
 | d::r,bs,h=>by
  cases d<;>simp only[boolsOf] at h<;>try cases h
  obtain⟨bs',h1,rfl⟩:=ah h
  rw[mM h1]
  rfl
theorem gg{K:W.Frag}{H:Hp}:∀ {bs:List Bool}{vs:List V},aw K H (bs.map PyData.bool) vs->vs=bs.map V.bl
 | [],vs,h=>h.nil_inv
 | b::bs,vs,h=>by
  obtain⟨v,r,rfl,a,c⟩:=h.cons_inv
  simp only[Rep] at a
  rw[a,gg c]
  rfl
theorem rf:∀ {bs:List Bool}{us:List Value},aE (bs.map V.bl) us->us=bs.map Value.bool
 | [],us,h=>by cases h;rfl
 | b::bs,us,h=>by
  cases h with
  | cons r rr=>cases r;rw[rf rr];rfl
theorem range_all(bs:List Bool):(List.range bs.length).all (fun i=>bs.getD i false)=bs.all id:=by
 induction bs with
 | nil=>rfl
 | cons b bs ih=>rw[zL,vT,xS,List.all_map,xS];simpa [Function.comp_def] using jC (b&&·) ih
theorem B6(hc:X.calm=true):eT X (.builtin "all") (fun xs H Q=>∃ (a:Addr) (bs:List Bool),xs=[.ref a]/\ig X.K H a (bs.map V.bl)/\Q (.bl (bs.all id)) H):=by
 intro pins s σ H xs us Q I r h
 obtain⟨a,bs,rfl,hq,q⟩:=h
 obtain⟨u,rfl,rx⟩:=vals1 r
 cases rx
 obtain⟨its,rv,pl,hz⟩:=I.list hq
 have hv:=rf rv
 subst hv
 have hh:X.A.in1.handled=none:=I.ok.hd hc
 refine call_all_walk (qK pl.isList ?_)
 obtain⟨o,ho,hcl,n,hd⟩:=pl.isList
 have hne:a≠s.heap.objs.size:=yR (zY ho)
 refine⟨_,_,_,_,_,_,fun i=>bs.getD i false,rfl,Walks.list hh s.heap.objs.size a hne (bs.map Value.bool).toArray,⟨⟨_,zX _ rfl,rfl,rfl⟩,pl.isList.push _⟩,fun i v s' Q' E' hP hQ=>?_,fun h' tk kp=>?_⟩
 ·have e:v=Value.bool (bs.getD i false):=by
   have hP:(bs.map Value.bool).toArray[i]?=some v:=hP
   rw[List.getElem?_toArray,zO] at hP
   obtain⟨b,hb,rfl⟩:=ah hP
   rw[zG,hb]
   rfl
  subst e
  exact xW hQ
 ·refine⟨.bl (bs.all id),H,?_,?_,q⟩
  ·exact I.kept (t':=tk) fun b o' e=>kp b o' (by simp;exact yR (zY e)) (zU _ e)
  ·show Value.bool _=Value.bool _
   have:=range_all bs
   simp only[zH,zD]
   rw[this]
def m7:List D->Option D:=fun ds=>(oneOf ds).bind fun d=>match d with
 | .list es=>(boolsOf es).map fun bs=>.bool (bs.all id)
 | _=>none
theorem Po(hc:X.calm=true)(B:pN X "all" (.builtin "all"))(ha:DA X [e] fs)(he:starEach [e] X.env=(false,eval e X.env)::starEach [] X.env:=by rfl):DE X (.Call (.Name "all" p) [e] [] pos) (bA m7 fs) :=
 k8 (B6 hc) (by
  intro HF H ds vs d Q sm r hg q
  obtain⟨x,hx,hg⟩:=bs hg
  rw[iV hx] at r
  cases x<;>try cases hg
  obtain⟨bs,hb,rfl⟩:=ah hg
  obtain⟨v,r',rfl,a,b⟩:=r.cons_inv
  rw[b.nil_inv]
  simp only[Rep] at a
  obtain⟨p,us,rfl,h,rr⟩:=a
  rw[mM hb] at rr
  have:=gg rr
  subst this
  exact⟨p,bs,rfl,sm.seq h,q _ H HF (.refl sm) (by simp[Rep])⟩) B ha (by decide) (by decide) he rfl
end
abbrev lexLt:=HT.lexLt
theorem gq:∀a:List Int,lexLt a a=false
 | []=>rfl
 | x::a=>by show HT.lexLt (x::a) (x::a)=false;rw[HT.dD,yL rfl];exact gq a
theorem eE:∀ {a b c:List Int},lexLt a b=true->lexLt b c=true->lexLt a c=true
 | [],[],_,h,_=>by cases h
 | [],_::_,[],_,h=>by cases h
 | [],_::_,_::_,_,_=>rfl
 | _::_,[],_,h,_=>by cases h
 | _::_,_::_,[],_,h=>by cases h
 | x::a,y::b,z::c,h1,h2=>by
  have h1:HT.lexLt (x::a) (y::b)=true:=h1
  have h2:HT.lexLt (y::b) (z::c)=true:=h2
  show HT.lexLt (x::a) (z::c)=true
  rw[HT.dD] at h1 h2 ⊢
  by_cases e1:x=y
  ·rw[yL e1] at h1
   by_cases e2:y=z
   ·rw[yL e2] at h2
    rw[yL (e1.trans e2)]
    exact eE h1 h2
   ·rw[yN e2] at h2
    rw[yN (by lia)]
    have:=yQ h2
    exact yA (by lia)
  ·rw[yN e1] at h1
   have q1:=yQ h1
   by_cases e2:y=z
   ·rw[yN (by lia)]
    exact yA (by lia)
   ·rw[yN e2] at h2
    have q2:=yQ h2
    rw[yN (by lia)]
    exact yA (by lia)
theorem ll:∀ {a b:List Int},lexLt a b=false->lexLt b a=false->a=b
 | [],[],_,_=>rfl
 | [],_::_,h,_=>by cases h
 | _::_,[],_,h=>by cases h
 | x::a,y::b,h1,h2=>by
  have h1:HT.lexLt (x::a) (y::b)=false:=h1
  have h2:HT.lexLt (y::b) (x::a)=false:=h2
  rw[HT.dD] at h1 h2
  by_cases e:x=y
  ·rw[yL e] at h1
   rw[yL e.symm] at h2
   rw[e,ll h1 h2]
  ·rw[yN e] at h1
   rw[yN (fun z=>e z.symm)] at h2
   have:=wW h1
   have:=wW h2
   lia
def lexLe(a b:List Int):Bool:=!lexLt b a
theorem As(a b c:List Int)(h1:lexLe a b=true)(h2:lexLe b c=true):lexLe a c=true:=by
 unfold lexLe at *
 rw[yP] at *
 cases e:lexLt c a with
 | false=>rfl
 | true =>
  cases e1:lexLt a b with
  | true=>rw[eE e e1] at h2;cases h2
  | false =>
   have:=ll e1 h1
   subst this
   rw[e] at h2;cases h2
theorem A6(a b:List Int):(lexLe a b||lexLe b a)=true:=by
 unfold lexLe
 cases e1:lexLt b a with
 | false=>rfl
 | true =>
  cases e2:lexLt a b with
  | false=>rfl
  | true=>have:=eE e1 e2;rw[gq] at this;cases this
theorem BW(h1:lexLe a b=true)(h2:lexLe b a=true):a=b:=by
 unfold lexLe at *
 rw[yP] at *
 exact ll h2 h1
theorem uZ{α:Type}{le:α->α->Bool}(anti:∀a b,le a b=true->le b a=true->a=b):∀ {l m:List α},l.Perm m->l.Pairwise (fun a b=>le a b=true)->m.Pairwise (fun a b=>le a b=true)->l=m
 | [],m,p,_,_=>p.nil_eq
 | a::l,[],p,_,_=>by have:=p.length_eq;simp at this
 | a::l,b::m,p,h1,h2=>by
  obtain⟨h1a,h1b⟩:=List.pairwise_cons.mp h1
  obtain⟨h2a,h2b⟩:=List.pairwise_cons.mp h2
  have e:a=b:=by
   have ha:a∈b::m:=p.mem_iff.mp zE
   have hb:b∈a::l:=p.mem_iff.mpr zE
   rcases List.mem_cons.mp ha with e|ha
   ·exact e
   ·rcases List.mem_cons.mp hb with e|hb
    ·exact e.symm
    ·exact anti a b (h1a b hb) (h2a a ha)
  subst e
  rw[uZ anti (List.perm_cons a |>.mp p) h1b h2b]
def sS(l:List (List Int)):List (List Int):=l.mergeSort lexLe
theorem Jj(l:List (List Int)):(sS l).Perm l:=List.mergeSort_perm l lexLe
theorem NJ(l:List (List Int)):(sS l).Pairwise (fun a b=>lexLe a b=true):=List.pairwise_mergeSort As A6 l
theorem IS{l m:List (List Int)}(p:l.Perm m)(h:l.Pairwise (fun a b=>lexLe a b=true)):l=sS m:=uZ (fun _ _=>BW) (p.trans (Jj m).symm) h (NJ m)
def rk(l:List (List Int))(a:List Int):Int:=((l.countP fun b=>lexLt b a:Nat):Int)
theorem EB(ha:a∈l):lexLt a b=decide (rk l a < rk l b):=by
 unfold rk
 have mono:∀ {a b:List Int},lexLt a b=true->(l.countP fun c=>lexLt c a)<=l.countP fun c=>lexLt c b:=fun {a b} h=>List.countP_mono_left fun c _ hc=>eE hc h
 have strict:∀ {a b:List Int}(ha:a∈l),lexLt a b=true->(l.countP fun c=>lexLt c a) < l.countP fun c=>lexLt c b:=fun {a b} ha h=>by
  have key:∀m:List (List Int),a∈m->(m.countP fun c=>lexLt c a) < m.countP fun c=>lexLt c b:=fun m hm=>by
   induction m with
   | nil=>cases hm
   | cons x m ih =>
    rw[List.countP_cons,List.countP_cons]
    have mo:(m.countP fun c=>lexLt c a)<=m.countP fun c=>lexLt c b:=List.countP_mono_left fun c _ hc=>eE hc h
    rcases List.mem_cons.mp hm with e|hm
    ·subst e
     rw[gq,h]
     simp only[yO,qP,xH]
     lia
    ·have:=ih hm
     by_cases hx:lexLt x a=true
     ·rw[hx,eE hx h];simp only[xH];lia
     ·have hx':lexLt x a=false:=by simpa using hx
      rw[hx']
      simp only[yO,qP]
      split<;>lia
  exact key l ha
 cases e:lexLt a b with
 | true=>exact (yA (by have:=strict ha e;lia)).symm
 | false =>
  refine (zZ ?_).symm
  cases e2:lexLt b a with
  | true=>have:=mono e2;lia
  | false=>rw[ll e e2];lia
section
variable {prog:Program}{w:World}{A:Around}{E:Value->Shared->Prop}{s:Shared}
theorem qw{Q:Bool->Shared->Prop}:∀ {us ws:List Value}{ns ms:List Int}(i:Nat),IntsAre us ns->IntsAre ws ms->Q (lexLt ns ms) s->W.KatLex prog w A true (decide (ns.length < ms.length)) Q (us.zip ws) i s
 | [],[],_,_,i,.nil,.nil,h=>h
 | [],_::_,_,_,i,.nil,.cons _ _ _,h=>by
  show Q (decide (0 < _+1)) s
  rw[yA (Nat.succ_pos _)]
  exact h
 | _::_,[],_,_,i,.cons _ _ _,.nil,h=>by
  show Q (decide (_+1 < 0)) s
  rw[zZ (vX _)]
  exact h
 | _::us,_::ws,_,_,i,.cons n t r1,.cons m u r2,h=>by
  have h:Q (HT.lexLt (n::_) (m::_)) s:=h
  rw[HT.dD] at h
  refine W.kat_cons (SeqAt.EqAt.int_int n t m u prog w _ _ ?_)
  cases e:(n == m) with
  | true =>
   have e':n=m:=eq_of_beq e
   rw[yL e'] at h
   refine W.kat_yes ?_
   have:=qw (i+1) r1 r2 h
   simp only[zL,Nat.add_lt_add_iff_right]
   exact this
  | false =>
   have e':¬ n=m:=fun q=>by rw[q] at e;simp at e
   rw[yN e'] at h
   refine W.kat_no ?_
   by_cases hi:(true&&i == 0)=true
   ·rw[hi]
    exact oneLt_int h
   ·have hi':(true&&i == 0)=false:=by simpa using hi
    rw[hi']
    refine W.kat_one _ _ (lt_int ?_)
    exact h
end
def ag(ns:List Int):D:=.tuple (ns.map PyData.int)
def intsOf:List D->Option (List Int)
 | []=>some []
 | .int n::r=>(intsOf r).map (n::·)
 | _::_=>none
theorem dN:∀ {ds:List D}{ns:List Int},intsOf ds=some ns->ds=ns.map PyData.int
 | [],ns,h=>by cases h;rfl
 | d::r,ns,h=>by
  cases d<;>simp only[intsOf] at h<;>try cases h
  obtain⟨ns',h1,rfl⟩:=ah h
  rw[dN h1]
  rfl
theorem di:∀ns:List Int,intsOf (ns.map PyData.int)=some ns
 | []=>rfl
 | n::ns=>by simp[intsOf,di ns]
def Eh:D->Option (List Int)|.tuple ds=>(intsOf ds).bind fun ns=>if ns=[] then none else some ns|_=>none
theorem Cw{d:D}(h:Eh d=some ns):d=ag ns/\ns≠[]:=by
 cases d<;>try cases h
 obtain⟨ms,h1,h2⟩:=bs h
 split at h2
 ·cases h2
 ·rename_i hn
  cases h2
  rw[dN h1]
  exact⟨rfl,hn⟩
theorem FZ(h:ns≠[]):Eh (ag ns)=some ns:=by
 unfold ag Eh
 simp only[di,zA]
 rw[yN h]
def rowsOf:List D->Option (List (List Int))
 | []=>some []
 | d::r=>(Eh d).bind fun ns=>(rowsOf r).map (ns::·)
theorem j6:∀ {ds:List D}{nss:List (List Int)},rowsOf ds=some nss->ds=nss.map ag/\∀ns∈nss,ns≠[]
 | [],nss,h=>by cases h;exact⟨rfl,fun _ z=>by cases z⟩
 | d::r,nss,h=>by
  obtain⟨ns,h1,h⟩:=bs h
  obtain⟨rest,h2,rfl⟩:=ah h
  obtain⟨e,hn⟩:=Cw h1
  obtain⟨e2,hn2⟩:=j6 h2
  refine⟨by rw[e,e2];rfl,fun m hm=>?_⟩
  rcases List.mem_cons.mp hm with q|q
  ·subst q;exact hn
  ·exact hn2 m q
theorem my:∀ {nss:List (List Int)},(∀ns∈nss,ns≠[])->rowsOf (nss.map ag)=some nss
 | [],_=>rfl
 | ns::r,h=>by
  simp only[zI,rowsOf,FZ (h ns zE),zA,my fun m hm=>h m (zC _ hm),zB]
structure xk(h:Heap)(v:Value)(ns:List Int):Prop where
 ex:∃ (a:Addr) (o:Obj) (its:Array Value) (n:Nat),v=.ref a/\h.get? a=some o/\o.cls=.type "tuple"/\o.data=.seq its n/\IntsAre its.toList ns
theorem xk.keep{h h':Heap}{v:Value}(r:xk h v ns)(k:∀b o,h.get? b=some o->h'.get? b=some o):xk h' v ns:=let ⟨a,o,its,n,e,e1,e2,e3,e4⟩:=r.ex;⟨a,o,its,n,e,k _ _ e1,e2,e3,e4⟩
section
variable {prog:Program}{w:World}{A:Around}{E:Value->Shared->Prop}{s:Shared}
theorem qc{h:Heap}:∀ {vs:List Value}{nss:List (List Int)},Paired (xk h) vs nss->(∀ns∈nss,ns≠[])->∃fs:List Value,W.KatTups h vs fs/\fs.length=vs.length/\∀f∈fs,∃n t,f=Value.int n t
 | _,_,.nil,_=>⟨[],trivial,rfl,fun _ z=>by cases z⟩
 | _,_,.cons (a:=v) (b:=ns) r p,hn=>by
  obtain⟨fs,h1,h2,h3⟩:=qc p fun m hm=>hn m (zC _ hm)
  obtain⟨a,o,its,n,rfl,e1,e2,e3,e4⟩:=r.ex
  cases hits:its.toList with
  | nil =>
   rw[hits] at e4
   cases e4
   exact absurd rfl (hn [] zE)
  | cons f rest =>
   rw[hits] at e4
   cases e4 with
   | cons m t e5 =>
    have h0:its[0]?=some (.int m t):=by
     have:its.toList[0]?=some (Value.int m t):=by rw[hits];rfl
     simpa using this
    exact⟨.int m t::fs,W.KatTups.cons e1 e2 e3 h0 h1,by simp[h2],fun g hg=>by
     rcases List.mem_cons.mp hg with q|q
     ·exact⟨m,t,q⟩
     ·exact h3 g q⟩
theorem gw{α β:Type}{R:α->β->Prop}{d:α}{d':β}:∀ {l:List α}{m:List β}{i:Nat},Paired R l m->i < l.length->R (l.getD i d) (m.getD i d')
 | _,_,i,.nil,h=>by simp at h
 | _,_,0,.cons r _,_=>r
 | _,_,i+1,.cons _ p,h=>by simpa using gw (i:=i) (d:=d) (d':=d') p (by simpa using h)
theorem AK{l:Addr}{vs:List Value}{nss:List (List Int)}{Q:Value->Shared->Prop}(hl:Srt.Coll s.heap l vs)(hp:Paired (xk s.heap) vs nss)(hn:∀ns∈nss,ns≠[])(h64:vs.length < 64)
  (h:∀ (h':Heap) (D:Addr) (c:Nat),(∀b o,s.heap.get? b=some o->h'.get? b=some o)->s.heap.objs.size<=D->h'.get? D=some (seqObj "list" (Srt.outV (fun i=>rk nss (nss.getD i [])) vs).toArray c)->Q (.ref D) { s with heap:=h' }) :
  wpAny (model prog w) A (call (.builtin "sorted") [.ref l]) Q E s:=by
 refine Srt.sortedG hl h64 (fun i=>rk nss (nss.getD i [])) (tuples' true) (fun h2 h' kp Q' q=>?_) (fun h2 h' kp i j C hi hj q=>?_) h
 ·have hp':Paired (xk h') vs nss:=Paired.mapP hp fun _ _ r=>r.keep kp
  obtain⟨fs,t,hlen,hf⟩:=qc hp' hn
  refine W.kat_kind (s:={ s with heap:=h' }) (T:=.type "int") t (by lia) (fun v hv=>?_) (by decide) q
  obtain⟨n,t,rfl⟩:=hf v hv
  exact W.Looks.of_pure rfl
 ·have ri:=(gw (d:=Value.none) (d':=[]) hp hi).keep kp
  have rj:=(gw (d:=Value.none) (d':=[]) hp hj).keep kp
  have hlen:=hp.length
  obtain⟨a,o,its,n,ea,e1,e2,e3,e4⟩:=ri.ex
  obtain⟨b,o',its',n',eb,f1,f2,f3,f4⟩:=rj.ex
  unfold W.kas_ask
  rw[ea,eb]
  have hmem:nss.getD i []∈nss:=by
   rw[zG,zK (by lia)]
   exact qA _
  have q':C (lexLt (nss.getD i []) (nss.getD j [])) { s with heap:=h' }:=by
   rw[EB hmem]
   exact q
  refine W.kat_lt (s:={ s with heap:=h' }) e1 e3 f1 f3 ?_
  have:=qw (prog:=prog) (w:=w) (A:=A.in1.in1) (s:={ s with heap:=h' }) 0 e4 f4 q'
  have l1:its.size=(nss.getD i []).length:=by have:=wH e4;simpa using this
  have l2:its'.size=(nss.getD j []).length:=by have:=wH f4;simpa using this
  rw[l1,l2]
  exact this
end
def pO{α:Type}(z:Nat->Int)(l:List α)(d:α):List α:=if l.length < 2 then l else (SP.run (SP.eH z) (W.kas_sort l.length)).toList.map fun i=>l.getD i d
theorem j9{α:Type}(l:List α)(d:α):(List.range l.length).map (fun i=>l.getD i d)=l:=by
 apply jH
 ·simp
 ·intro i h1 h2
  simp[h2]
theorem gc{α:Type}(z:Nat->Int)(l:List α)(d:α):(pO z l d).Perm l:=by
 unfold pO
 split
 ·exact List.Perm.refl _
 ·rename_i h
  have:=((SP.gG (z:=z) (n:=l.length) (by lia)).1).map fun i=>l.getD i d
  rw[j9] at this
  exact this
theorem Kt(nss:List (List Int)):pO (fun i=>rk nss (nss.getD i [])) nss []=sS nss:=by
 refine IS (gc _ _ _) ?_
 unfold pO
 split
 ·rename_i h
  match nss,h with
  | [],_=>exact List.Pairwise.nil
  | [a],_=>exact vN _ _
 ·rename_i h
  obtain⟨hp,hs⟩:=SP.gG (z:=fun i=>rk nss (nss.getD i [])) (n:=nss.length) (by lia)
  rw[jE] at hs ⊢
  refine hs.imp_of_mem fun {i j} hi hj hij=>?_
  have hj':j < nss.length:=by have:=hp.mem_iff.mp hj;simpa using this
  unfold lexLe
  rw[EB (l:=nss) (a:=nss.getD j []) (by rw[zG,zK hj'];exact qA _)]
  simp only[yP,xB]
  lia
section
variable {X:Cx}
theorem qx{K:W.Frag}{HF:Hp}{ds:List D}(z:Nat->Int)(r:aw K HF ds vs):aw K HF (pO z ds .none) (pO z vs .non):=by
 unfold pO
 rw[r.length]
 split
 ·exact r
 ·rename_i h
  obtain⟨hp,_⟩:=SP.gG (z:=z) (n:=ds.length) (by lia)
  have key:∀l:List Nat,(∀i∈l,i < ds.length)->aw K HF (l.map fun i=>ds.getD i .none) (l.map fun i=>vs.getD i .non):=fun l=>by
   induction l with
   | nil=>exact fun _=>aw.nil
   | cons i l ih =>
    intro hl
    have hi:=hl i zE
    obtain⟨v,e1,e2⟩:=r.getD (zK hi)
    refine aw.cons ?_ (ih fun j hj=>hl j (zC _ hj))
    dsimp only
    rw[zG,zG,e1,zK hi]
    exact e2
  exact key _ fun i hi=>by have:=hp.mem_iff.mp hi;simpa using this
theorem qd{us:List Value}(z:Nat->Int)(r:aE vs us):aE (pO z vs .non) (Srt.outV z us):=by
 unfold pO Srt.outV
 rw[r.length]
 split
 ·exact r
 ·rename_i h
  obtain⟨hp,_⟩:=SP.gG (z:=z) (n:=us.length) (by lia)
  have key:∀l:List Nat,(∀i∈l,i < vs.length)->aE (l.map fun i=>vs.getD i .non) (l.map fun i=>us.getD i Value.none):=fun l=>by
   induction l with
   | nil=>exact fun _=>.nil
   | cons i l ih =>
    intro hl
    have hi:=hl i zE
    obtain⟨v,e1,e2⟩:=r.get (zK hi)
    refine .cons ?_ (ih fun j hj=>hl j (zC _ hj))
    dsimp only
    rw[zG,zG,e1,zK hi]
    exact e2
  exact key _ fun i hi=>by have:=hp.mem_iff.mp hi;rw[r.length];simpa using this
theorem LB(z:Nat->Int)(nss:List (List Int)):pO z (nss.map ag) .none=(pO z nss []).map ag:=by
 unfold pO
 rw[zD]
 split
 ·rfl
 ·rename_i h
  rw[zM]
  obtain⟨hp,_⟩:=SP.gG (z:=z) (n:=nss.length) (by lia)
  refine yH fun i hi=>?_
  have hi':i < nss.length:=by have:=hp.mem_iff.mp hi;simpa using this
  simp[hi']
theorem nM{pins:List (Addr×Obj)}{σ:L2.St}{H HF:Hp}{s:Shared}(I:Inv X pins σ H s)(sm:aL HF H):∀ {nss:List (List Int)}{vs:List V}{us:List Value},aw X.K HF (nss.map ag) vs->aE vs us->Paired (xk s.heap) us nss
 | [],_,_,h,r=>by rw[h.nil_inv] at r;cases r;exact .nil
 | ns::nss,_,_,h,r=>by
  obtain⟨v,vr,rfl,a,b⟩:=h.cons_inv
  cases r with
  | cons r rr =>
   refine .cons ?_ (nM I sm b rr)
   unfold ag at a
   simp only[Rep] at a
   obtain⟨p,ws,rfl,hs,rw'⟩:=a
   cases r
   obtain⟨its,rv,⟨o,ho,hc,n,hd⟩,_⟩:=I.tuple (aD sm hs)
   have:ws=ns.map V.int:=by
    have key:∀ {ns:List Int}{ws:List V},aw X.K HF (ns.map PyData.int) ws->ws=ns.map V.int:=fun {ns}=>by
     induction ns with
     | nil=>exact fun h=>h.nil_inv
     | cons n ns ih =>
      intro ws h
      obtain⟨v,r,rfl,a,b⟩:=h.cons_inv
      simp only[Rep] at a
      rw[a,ih b]
      rfl
    exact key rw'
   subst this
   exact⟨p,o,its.toArray,n,rfl,ho,hc,hd,intsAre_of rv⟩
theorem n5:eT X (.builtin "sorted") (fun xs H Q=>∃ (HF:Hp) (a:Addr) (vs:List V) (nss:List (List Int)),xs=[.ref a]/\aL HF H/\(ig X.K HF a vs\/iN X.K HF a vs)/\aw X.K HF (nss.map ag) vs/\(∀ns∈nss,ns≠[])/\nss.length < 64 /\
  ∀ (Dn:Addr) (us:List V),H Dn=none->aw X.K HF ((sS nss).map ag) us->Q (.ref Dn) (upd H Dn (.lst us))):=by
 intro pins s σ H xs us Q I r h
 obtain⟨HF,a,vs,nss,rfl,sm,hq,rr,hn,h64,q⟩:=h
 obtain⟨u,rfl,rx⟩:=vals1 r
 cases rx
 obtain⟨its,rv,pl,hz⟩:∃its:List Value,aE vs its/\Srt.Coll s.heap a its/\vs.length<=sizeLine:=by
  rcases hq with hq|hq
  ·obtain⟨its,rv,pl,hz⟩:=I.list (sm.seq hq)
   obtain⟨o,ho,hc,n,hd⟩:=pl.isList
   exact⟨its,rv,⟨o,"list",n,.inl rfl,ho,hc,hd⟩,hz⟩
  ·obtain⟨its,rv,pl,hz⟩:=I.tuple (aD sm hq)
   obtain⟨o,ho,hc,n,hd⟩:=(show s.heap.IsTuple a its.toArray from pl)
   exact⟨its,rv,⟨o,"tuple",n,.inr rfl,ho,hc,hd⟩,hz⟩
 have hl1:=rr.length
 rw[zD] at hl1
 refine AK pl (nM I sm rr rv) hn (by have:=rv.length;lia) fun h' Dn c kp hD e=>?_
 have hv:=qd (fun i=>rk nss (nss.getD i [])) rv
 have hr:=qx (fun i=>rk nss (nss.getD i [])) rr
 rw[LB,Kt] at hr
 refine⟨.ref Dn,_,I.laid (t':=s.toks) (o:=.lst (pO (fun i=>rk nss (nss.getD i [])) vs .non)) kp hD ⟨?_,_,c,hv,e⟩,rfl,q Dn _ (I.hok.fresh hD) hr⟩
 rw[(gc _ _ _).length_eq]
 exact hz
def gL:List D->Option (List D):=fun ds=>(oneOf ds).bind fun d=>match d with
 | .list es=>(rowsOf es).bind fun nss=>if nss.length < 64 then some ((sS nss).map ag) else none
 | .tuple es=>(rowsOf es).bind fun nss=>if nss.length < 64 then some ((sS nss).map ag) else none
 | _=>none
variable {e:Expr}{fs:Env->Option (List D)}{p pos:Pos}
theorem FN(B:pN X "sorted" (.builtin "sorted"))(ha:DA X [e] fs)(he:starEach [e] X.env=(false,eval e X.env)::starEach [] X.env:=by rfl):DF X (.Call (.Name "sorted" p) [e] [] pos) (kn gL fs) :=
 IK n5 (by
  intro HF H ds vs d Q sm r hg q
  obtain⟨x,hx,hg⟩:=bs hg
  rw[iV hx] at r
  have key:∀ (b:Bool) (es:List D),aw X.K HF [if b then .tuple es else .list es] vs->((rowsOf es).bind fun nss=>if nss.length < 64 then some ((sS nss).map ag) else none)=some d->(∃ (HF:Hp) (a:Addr) (us:List V) (nss:List (List Int)),vs=[.ref a]/\aL HF H/\(ig X.K HF a us\/iN X.K HF a us)/\aw X.K HF (nss.map ag) us/\(∀ns∈nss,ns≠[])/\nss.length < 64/\∀ (Dn:Addr) (ws:List V),H Dn=none->aw X.K HF ((sS nss).map ag) ws->Q (.ref Dn) (upd H Dn (.lst ws))):=fun b es r hg=>by
   obtain⟨nss,hb,hg⟩:=bs hg
   split at hg
   ·rename_i h64
    cases hg
    obtain⟨v,r',rfl,a,e0⟩:=r.cons_inv
    rw[e0.nil_inv]
    obtain⟨e1,e2⟩:=j6 hb
    obtain⟨p,us,rfl,h,rr⟩:∃p us,v=.ref p/\(ig X.K HF p us\/iN X.K HF p us)/\aw X.K HF es us:=by
     cases b
     ·simp only[yO,qP,Rep] at a
      obtain⟨p,us,rfl,h,rr⟩:=a
      exact⟨p,us,rfl,.inl h,rr⟩
     ·simp only[xH,Rep] at a
      obtain⟨p,us,rfl,h,rr⟩:=a
      exact⟨p,us,rfl,.inr h,rr⟩
    rw[e1] at rr
    exact⟨HF,p,us,nss,rfl,sm,h,rr,e2,h64,fun Dn ws hD hr=>q Dn ws _ HF (.own sm hD) hD (sm.free hD) aA hr⟩
   ·cases hg
  cases x<;>try cases hg
  ·exact key false _ r hg
  ·exact key true _ r hg) B ha (by decide) (by decide) he rfl
end
end Dl
namespace En
open PySem PyProof.Rows
open AutoSeq1 (wpAny_loadPart')
variable {j t:Addr}{k:Nat}{its:Array Value}{Q:Value->Shared->Prop}
section
variable {prog:Program}{w:World}{A:Around}{E:Value->Shared->Prop}{s:Shared}
theorem nextT_item{v:Value}(hj:s.heap.IsTupleIter j t k)(ht:s.heap.IsTuple t its)(hv:its[k]?=some v)
  (hQ:∀g,g.IsTupleIter j t (k+1)->Heap.SameBut j s.heap g->Q v { s with heap:=g }):wpAny (model prog w) A (Builtin.SmallTypes.nextOf (.ref j)) Q E s:=by
 obtain⟨oj,gj,cj,dj⟩:=id hj
 obtain⟨ot,gt,_,nt,dt⟩:=ht
 unfold Builtin.SmallTypes.nextOf
 refine zV (qC (name:=Str.ofString "__next__") hj.typeIs jR (qV jR hj.typeIs F.entry_tuple_iterator_next ?_ (F.args_tuple_iterator_next_1 _)))
 refine zV (m:=field (.ref j) 0) (qT gj dj (x:=.ref t) rfl ?_)
 show wpAny _ _ (if (Value.ref t == Value.none)=true then _ else _) _ _ s
 rw[yN (show ¬ ((Value.ref t == Value.none)=true) by exact yZ)]
 refine zV (m:=field (.ref j) 1) (qT gj dj (x:=.int k 0) rfl ?_)
 refine zV (m:=seqItems? (.ref t)) (kJ gt dt ?_)
 simp only[yG,hv]
 refine zV (wpAny_setField gj dj (by simp) (zW ⟨v,rfl,zW (hQ _ ⟨_,Heap.get?_update_self _ gj (Obj.isFreed_of_fields (Obj.data_mapFields dj _)),(Obj.cls_mapFields ..).trans cj,?_⟩ (Heap.SameBut.update ..))⟩))
 rw[Obj.data_mapFields dj];simp[rawInt]
theorem nextT_end{Q:Value->Shared->Prop}(hh:A.handled=none)(hj:s.heap.IsTupleIter j t k)(ht:s.heap.IsTuple t its)(hv:its[k]?=none)
  (hE:∀g x,Heap.ExtBut j s.heap g->(∃o,g.get? x=some o/\o.cls=.type "StopIteration")->E (.ref x) { s with heap:=g }):wpAny (model prog w) A (Builtin.SmallTypes.nextOf (.ref j)) Q E s:=by
 obtain⟨oj,gj,cj,dj⟩:=id hj
 obtain⟨ot,gt,_,nt,dt⟩:=ht
 unfold Builtin.SmallTypes.nextOf
 refine zV (qC (name:=Str.ofString "__next__") hj.typeIs jR (qV jR hj.typeIs F.entry_tuple_iterator_next ?_ (F.args_tuple_iterator_next_1 _)))
 refine zV (m:=field (.ref j) 0) (qT gj dj (x:=.ref t) rfl ?_)
 show wpAny _ _ (if (Value.ref t == Value.none)=true then _ else _) _ _ s
 rw[yN (show ¬ ((Value.ref t == Value.none)=true) by exact yZ)]
 refine zV (m:=field (.ref j) 1) (qT gj dj (x:=.int k 0) rfl ?_)
 refine zV (m:=seqItems? (.ref t)) (kJ gt dt ?_)
 simp only[yG,hv]
 refine zV (wR (zV (wpAny_setField gj dj (by simp) (zV (m:=newExc (.type "StopIteration") []) ?_))))
 simp only[newExc,newTuple]
 refine zV (qL (zV (m:=firstArgMember _ _) (wpAny_of_eq (a:=Value.none) (by first|rfl|(simp only[firstArgMember];rfl)) ?_)) (by size_fits))
 refine qL ?_ (by size_fits);simp only[raiseNew]
 refine zV (wpAny_handled ?_)
 first|rw[show A.in1.handled=none from hh]|rw[hh]
 exact zV (zW (wpAny_throw (hE _ _ (((Heap.SameBut.update ..).extBut.push _).push _) ⟨_,zX _ rfl,rfl⟩)))
theorem meets_enumT(t:Addr)(its:Array Value)(n:Nat)(dd:Option Addr)(sl:Array (Option Value)) :
  Meets (Builtin.«enumerate.__new__» ⟨[.type "enumerate",.ref t],[]⟩) (fun _ R s=>s.heap.get? t=some { cls:=.type "tuple",dict:=dd,data:=.seq its n,slots:=sl } /\
   R (.ok (.ret (.ref (s.heap.push { cls:=.type "tuple_iterator",data:=.fields #[.ref t,.int 0 0] }).objs.size)))
    { s with heap:=(s.heap.push { cls:=.type "tuple_iterator",data:=.fields #[.ref t,.int 0 0] }).push { cls:=.type "enumerate",data:=.fields #[.none,.bool false,.ref s.heap.objs.size,rawInt 0,.none,.none] } }) :=
 .of_wp fun prog w A R s h=>by
  obtain⟨hp,g,d,tk,os⟩:=s
  obtain⟨hl,h⟩:=h
  have hsub:=sub_enumerate
  have hL:Heap.IsTuple (Shared.heap ⟨hp,g,d,tk,os⟩) t its:=⟨_,hl,rfl,n,rfl⟩
  wp_walk using wpAny_loadPart' hl
  refine wpAny_stack_any fun st=>zW ?_
  split
  ·rename_i c _ _ _ _ _
   cases (c == Value.type "enumerate")
   ·wp_walk using wpAny_loadPart' hl,xR hL
    exact⟨_,rfl,h⟩
   ·wp_walk using wpAny_loadPart' hl,xR hL
    exact⟨_,rfl,h⟩
  ·wp_walk using wpAny_loadPart' hl,xR hL
   exact⟨_,rfl,h⟩
theorem call_enumT(ht:s.heap.IsTuple t its)
  (h:∀h',IsEnum h' (s.heap.objs.size+1) s.heap.objs.size 0 .none->h'.IsTupleIter s.heap.objs.size t 0->h'.objs.size=s.heap.objs.size+2->(∀b o,s.heap.get? b=some o->h'.get? b=some o)->Q (.ref (s.heap.objs.size+1)) { s with heap:=h' }) :
  wpAny (model prog w) A (call (.type "enumerate") [.ref t]) Q E s:=by
 obtain⟨⟨c,dct,dt,sl⟩,hl,hc,n,hd⟩:=ht
 simp only at hc hd
 subst hc hd
 refine callType_new F.called_enumerate (by decide) (F.typeCall_enumerate_1 _) (F.newCall_enumerate_1 _) (fun obj=>F.args_object_init_2 obj _) F.entry_enumerate_new (meets_enumT t its n dct sl) ⟨hl,?_⟩
 have hz:(s.heap.push { cls:=.type "tuple_iterator",data:=.fields #[.ref t,.int 0 0] }).objs.size=s.heap.objs.size+1:=by rw[xJ]
 have he:=zX (s.heap.push { cls:=.type "tuple_iterator",data:=.fields #[.ref t,.int 0 0] }) (o:={ cls:=.type "enumerate",data:=.fields #[.none,.bool false,.ref s.heap.objs.size,rawInt 0,.none,.none] }) rfl
 show _/\_
 rw[hz] at he ⊢
 refine⟨⟨_,he,rfl⟩,h _ he ⟨_,zU _ (zX _ rfl),rfl,rfl⟩ ?_ fun b o x=>zU _ (zU _ x)⟩
 show (Heap.push _ _).objs.size=_
 rw[xJ,hz]
end
end En
namespace Dl
open PySem L2 PySem.Spec PyProof.Rows
variable {xs vs:List V}{b:Addr}{K:W.Frag}{HF:Hp}{ds:List D}
section
variable {X:Cx}{pins:List (Addr×Obj)}{σ:L2.St}{H:Hp}{s:Shared}{h':Heap}{t':Nat}{ch:List Addr}
theorem Ab(I:Inv X pins σ H s)(hch:∀b∈ch,cC X pins H b)(k:∀b o,b∉ch->s.heap.get? b=some o->h'.get? b=some o){T:Addr}{vals:List Value}(hT:s.heap.objs.size<=T)(ht:rK h' T vals.toArray)
  (rv:aE xs vals) (hz:xs.length<=sizeLine):Inv X pins σ (upd H T (.tup xs)) { s with heap:=h',toks:=t' }:=by
 have nT:H T=none:=I.hok.fresh hT
 have ne:∀b o,s.heap.get? b=some o->b≠T:=fun b o e=>yR (zP (zY e) hT)
 have ne2:∀b o,H b=some o->b≠T:=fun b o e=>aN e nT
 have nch:∀b o,H b=some o->b∉ch:=fun b o e z=>by rw[(hch b z).1] at e;cases e
 refine I.step (g':=s.gens) (d':=s.drawn) (ch:=ch) (fun b hb=>?_) (fun b o _ _ hc e _=>k b o hc e) (fun b o _ _ hc e _=>⟨o.slots,k b o hc e⟩) (fun b o _ e n=>by rw[ay (ne b o e)];exact n)
  (fun b o hc e=>⟨o,k b o hc e⟩) (fun b ys e=>by rw[ay (ne2 b _ e)];exact e) (fun b o u e=>by rw[ay (ne2 b _ e)];exact e) (.kept (fun b u ⟨q,z⟩ e=>k b u (nch b _ z) e) fun b u e _=>by rw[ay (ne2 b _ e)];exact e) (fun m hm=>?_) (fun b u e=>?_) I.bare
 ·obtain⟨f0,f1,f2,f3,f4,f5⟩:=hch b hb
  exact⟨f3,f1,f4,f5⟩
 ·obtain⟨o,es,ep,ho,r⟩:=hm
  exact⟨o,es,ep,k _ o (fun z=>(hch _ z).2.1 rfl) ho,r⟩
 ·by_cases hb:b=T
  ·subst hb
   rw[aA] at e
   cases e
   exact⟨hz,vals,rv,ht⟩
  ·rw[ay hb] at e
   refine (I.hok b u e).stay (fun c v hc q=>k c v ?_ q) (fun _ q=>?_) fun c v q _=>?_
   ·rcases hc with z|z
    ·rw[z];exact nch b u e
    ·exact nch c _ z
   all_goals first
    | (rw[ay (ne2 _ _ q)];exact q)
    | exact q
theorem P1(I:Inv X pins σ H s){a b:Addr}{o:Obj}(hf:cC X pins H b)(h:X.K.lookup a=some o):a≠b:=by
 rintro rfl
 have hb:=I.ok.mod.kin a o h
 rcases hf.2.2.2.1 with z|z
 ·exact I.ok.noex a o hb z
 ·exact absurd (zP (zY (I.ok.bs a o hb).1) z) (qE _)
theorem OM(I:Inv X pins σ H s){a b:Addr}(hf:cC X pins H b)(h:ig X.K H a xs):a≠b:=by
 rcases h with (h|⟨o,h⟩)|⟨o,its,n,h,_⟩
 ·exact aN h hf.1
 ·exact aN h hf.1
 ·exact P1 I hf h
theorem OO(I:Inv X pins σ H s){a b:Addr}(hf:cC X pins H b)(h:iN X.K H a xs):a≠b:=by
 rcases h with (h|⟨o,h⟩)|⟨o,its,n,h,_⟩
 ·exact aN h hf.1
 ·exact aN h hf.1
 ·exact P1 I hf h
end
def RC(sq:Hp->List V->Prop):It:=⟨fun i H=>∃xs x,sq H xs/\xs[i]?=some x,fun i H v H'=>∃T y,v=.ref T/\H T=none/\H'=upd H T (.tup [.int (i:Nat),y])/\∀xs,sq H xs->xs[i]?=some y,fun i H=>∃xs,sq H xs/\xs.length<=i⟩
def bG(k:Nat):List D->List D
 | []=>[]
 | d::ds=>.tuple [.int (k:Nat),d]::bG (k+1) ds
theorem uT:∀ {ds:List D}{k i:Nat}{d:D},(bG k ds)[i]?=some d->∃x,ds[i]?=some x/\d=.tuple [.int ((k+i:Nat):Int),x]
 | [],k,i,d,h=>by simp[bG] at h
 | x::ds,k,0,d,h=>by simp[bG] at h;exact⟨x,rfl,h.symm⟩
 | x::ds,k,i+1,d,h=>by
  simp only[bG,yY] at h
  obtain⟨y,h1,h2⟩:=uT h
  refine⟨y,by simpa using h1,?_⟩
  rw[h2,show k+1+i=k+(i+1) by lia]
theorem lM:∀ (ds:List D) (k:Nat),(bG k ds).length=ds.length
 | [],k=>rfl
 | x::ds,k=>by simp[bG,lM ds (k+1)]
theorem Gb{sq:Hp->List V->Prop}(h:sq HF vs)(mo:∀H H',aL H H'->sq H vs->sq H' vs)(r:aw K HF ds vs):uK K (RC sq) HF (bG 0 ds) where
 go:=fun i d H₁ HF₁ e s1 s2=>by
  obtain⟨x,hx,rfl⟩:=uT e
  rw[jD]
  obtain⟨v,hv,rv⟩:=r.getD hx
  have q:=mo _ _ s2 (mo _ _ s1 h)
  refine⟨⟨vs,v,q,hv⟩,fun y H₂ ⟨T,z,e1,hT,e2,hy⟩=>?_⟩
  have:=hy vs q
  rw[hv] at this
  cases this
  subst e1 e2
  exact⟨_,.new s2 hT,eF (s2.free hT) (aw.cons (by simp[Rep]) (aw.cons (rv.mono s1) aw.nil))⟩
 stop:=fun H₁ HF₁ s1 s2=>⟨vs,mo _ _ s2 (mo _ _ s1 h),by rw[lM,r.length];exact yM _⟩
def Sq(sq1 sq2:Hp->List V->Prop):It:=⟨fun i H=>∃xs ys x y,sq1 H xs/\sq2 H ys/\xs[i]?=some x/\ys[i]?=some y,
 fun i H v H'=>∃T x y,v=.ref T/\H T=none/\H'=upd H T (.tup [x,y])/\(∀xs,sq1 H xs->xs[i]?=some x)/\∀ys,sq2 H ys->ys[i]?=some y,
 fun i H=>∃xs ys,sq1 H xs/\sq2 H ys/\(xs.length<=i\/ys.length<=i)⟩
section
variable {X:Cx}{pins:List (Addr×Obj)}{σ:L2.St}{H:Hp}{s:Shared}{h':Heap}{t':Nat}{ch:List Addr}
theorem Fc(I:Inv X pins σ H s)(hch:∀b∈ch,cC X pins H b)(k:∀b o,b∉ch->s.heap.get? b=some o->h'.get? b=some o):Inv X pins σ H { s with heap:=h',toks:=t' }:=by
 have nch:∀b o,H b=some o->b∉ch:=fun b o e z=>by rw[(hch b z).1] at e;cases e
 refine I.step (g':=s.gens) (d':=s.drawn) (ch:=ch) (fun b hb=>?_) (fun b o _ _ hc e _=>k b o hc e) (fun b o _ _ hc e _=>⟨o.slots,k b o hc e⟩) (fun b o _ e n=>n)
  (fun b o hc e=>⟨o,k b o hc e⟩) (fun b ys e=>e) (fun b o u e=>e) (.kept (fun b u ⟨q,z⟩ e=>k b u (nch b _ z) e) fun b u e _=>e) (fun m hm=>?_) (fun b u e=>?_) I.bare
 ·obtain⟨f0,f1,f2,f3,f4,f5⟩:=hch b hb
  exact⟨f3,f1,f4,f5⟩
 ·obtain⟨o,es,ep,ho,r⟩:=hm
  exact⟨o,es,ep,k _ o (fun z=>(hch _ z).2.1 rfl) ho,r⟩
 ·refine (I.hok b u e).stay (fun c v hc q=>k c v ?_ q) (fun _ q=>q) fun c v q _=>q
  rcases hc with z|z
  ·rw[z];exact nch b u e
  ·exact nch c _ z
end
structure S0(z TI TO i1 i2:Addr):Prop where
 a1:TI≠z
 a2:TO≠z
 a3:i1≠z
 a4:i2≠z
 a5:TI≠TO
 a6:TI≠i1
 a7:TI≠i2
 a8:TO≠i1
 a9:TO≠i2
 a0:i1≠i2
section
variable {X:Cx}{l l':Expr}{fs:Env->Option (List D)}{elts:List Expr}{k:Nat}{pos p tp:Pos}
def gx:List D->List D->List D
 | x::xs,y::ys=>.tuple [x,y]::gx xs ys
 | _,_=>[]
theorem rQ:∀ {xs ys:List D}{i:Nat}{d:D},(gx xs ys)[i]?=some d->∃x y,xs[i]?=some x/\ys[i]?=some y/\d=.tuple [x,y]
 | [],_,i,d,h=>by simp[gx] at h
 | _::_,[],i,d,h=>by simp[gx] at h
 | x::xs,y::ys,0,d,h=>by simp[gx] at h;exact⟨x,y,rfl,rfl,h.symm⟩
 | x::xs,y::ys,i+1,d,h=>by
  simp only[gx,yY] at h
  obtain⟨a,b,h1,h2,h3⟩:=rQ h
  exact⟨a,b,by simpa using h1,by simpa using h2,h3⟩
theorem nH:∀ (xs ys:List D),(gx xs ys).length=min xs.length ys.length
 | [],_=>by simp[gx]
 | _::_,[]=>by simp[gx]
 | x::xs,y::ys=>by simp[gx,nH xs ys]
theorem Ig{sq1 sq2:Hp->List V->Prop}{xs ys:List D}{vs us:List V}(h1:sq1 HF vs)(mo1:∀H H',aL H H'->sq1 H vs->sq1 H' vs)(h2:sq2 HF us)(mo2:∀H H',aL H H'->sq2 H us->sq2 H' us)(r1:aw K HF xs vs)(r2:aw K HF ys us) :
  uK K (Sq sq1 sq2) HF (gx xs ys) where
 go:=fun i d H₁ HF₁ e s1 s2=>by
  obtain⟨x,y,hx,hy,rfl⟩:=rQ e
  obtain⟨v,hv,rv⟩:=r1.getD hx
  obtain⟨u,hu,ru⟩:=r2.getD hy
  have q1:=mo1 _ _ s2 (mo1 _ _ s1 h1)
  have q2:=mo2 _ _ s2 (mo2 _ _ s1 h2)
  refine⟨⟨vs,us,v,u,q1,q2,hv,hu⟩,fun w H₂ ⟨T,a,b,e1,hT,e2,ha,hb⟩=>?_⟩
  have ea:=ha vs q1
  have eb:=hb us q2
  rw[hv] at ea
  rw[hu] at eb
  cases ea
  cases eb
  subst e1 e2
  exact⟨_,.new s2 hT,eF (s2.free hT) (aw.cons (rv.mono s1) (aw.cons (ru.mono s1) aw.nil))⟩
 stop:=fun H₁ HF₁ s1 s2=>⟨vs,us,mo1 _ _ s2 (mo1 _ _ s1 h1),mo2 _ _ s2 (mo2 _ _ s1 h2),by rw[nH,r1.length,r2.length];lia⟩
end
def cut{α:Type}(xs:List α)(lo hi:Option Int):List α:=(xs.drop (HT.dI xs.length 0 lo)).take (HT.dI xs.length xs.length hi - HT.dI xs.length 0 lo)
theorem LA{α:Type}(xs:List α)(lo hi:Option Int):(cut xs lo hi).length<=xs.length:=by
 unfold cut;rw[jW,qH];lia
theorem qk{H:Hp}(r:aw K H ds vs)(lo hi:Option Int):aw K H (cut ds lo hi) (cut vs lo hi):=by
 unfold cut;rw[r.length];exact (r.drop _).take _
section
variable {X:Cx}
theorem Fv{prog:Program}{w:World}{A:Around}{E:Value->Shared->Prop}{s:Shared}{t sl:Addr}{its:Array Value}{vl vu:Value}{lo hi:Option Int}{Q:Value->Shared->Prop}(ht:IsTup s.heap t its)(hs:s.heap.IsSliceOf sl vl vu .none)(pl:IsPart vl lo)(pu:IsPart vu hi)
  (hw:HT.dI its.size 0 lo=0/\HT.dI its.size its.size hi=its.size) (h:Q (.ref t) s):wpAny (model prog w) A (getItem (.ref t) (.ref sl)) Q E s:=by
 obtain⟨os,hos,hcs,hds⟩:=id hs
 have hTs:s.TypeIs (.ref sl) "slice":=⟨os,hos,hcs⟩
 unfold getItem
 try with_reducible refine xX ?_
 first|refine zV (zW ?_)|skip
 refine zV (wpAny_sequenceKey ht.typeIs (by decide) (zV (qC (name:=Str.ofString "__getitem__") ht.typeIs jF (qV jF ht.typeIs entry_tuple_getitem ?_ (args_tuple_getitem _ _)))))
 refine zV (m:=Builtin.Tuple.tupleItemsOf (.ref t)) (tupleItemsOf_ ht (zV (Zb hTs ?_)))
 rw[yL (by decide)]
 refine zV (HT.iJ hs pl pu ?_)
 show wpAny _ _ (if (((HT.dI its.size 0 lo:Nat):Int) == 0&&(1:Int) == 1&&(HT.dI its.size its.size hi - HT.dI its.size 0 lo) == its.size)=true then _ else _) _ _ s
 rw[hw.1,hw.2,yL (by simp)]
 unfold Builtin.Tuple.tupleIsExact
 refine zV (zV (Zb ht.typeIs (zW ?_)))
 rw[yL (by decide)]
 first
  | exact zV (wR (zW ⟨_,rfl,zW h⟩))
  | exact zV (wR (zV (zW (zW ⟨_,rfl,zW h⟩))))
def Sx(K:W.Frag):V->Option Int->Option Int->Hp->VK->Prop:=fun x lo hi H Q=>∃a xs,x=.ref a/\iN K H a xs/\(cut xs lo hi=xs->Q (.ref a) H)/\∀p,H p=none->Q (.ref p) (upd H p (.tup (cut xs lo hi)))
theorem OG:MH X (Sx X.K):=by
 intro pins s σ H x v vl vu lo hi sl Q I rx hs pl pu h
 obtain⟨a,xs,rfl,hx,q1,q2⟩:=h
 by_cases hw:HT.dI xs.length 0 lo=0/\HT.dI xs.length xs.length hi=xs.length
 ·cases rx
  obtain⟨its,r,ht,hz⟩:=I.tuple hx
  have hlen:its.toArray.size=xs.length:=by rw[zH];exact r.length.symm
  refine⟨"tuple",_,PyProof.Rows.slot_tuple_getitem.lookup,ht.typeIs,Fv ht hs pl pu (by rw[hlen];exact hw) ⟨.ref a,H,I,rfl,q1 ?_⟩⟩
  unfold cut
  rw[hw.1,hw.2,List.drop_zero,Nat.sub_zero,List.take_length]
 ·exact NL pins s σ H (.ref a) v vl vu lo hi sl Q I rx hs pl pu ⟨a,xs,rfl,hx,hw,q2⟩
def RI(K:W.Frag):V->Option Int->Option Int->Hp->VK->Prop:=fun x lo hi H Q=>∃a xs,x=.ref a/\ig K H a xs/\∀p,H p=none->Q (.ref p) (upd H p (.lst (cut xs lo hi)))
theorem CS(lo hi:Option Int)(n:Nat):sliceBounds lo hi none n=(((HT.dI n 0 lo:Nat):Int),((HT.dI n n hi:Nat):Int),1):=by
 have h1:(1:Int) > 0:=by lia
 refine Prod.ext ?_ (Prod.ext ?_ rfl)
 ·cases lo with
  | none=>simp[sliceBounds,HT.dI]
  | some x =>
   by_cases h:x < 0
   ·simp only[sliceBounds,HT.dI,kP,h1,xH,yL h];lia
   ·simp only[sliceBounds,HT.dI,kP,h1,xH,yN h];lia
 ·cases hi with
  | none=>simp[sliceBounds,HT.dI]
  | some x =>
   by_cases h:x < 0
   ·simp only[sliceBounds,HT.dI,kP,h1,xH,yL h];lia
   ·simp only[sliceBounds,HT.dI,kP,h1,xH,yN h];lia
theorem Mz:MH X (RI X.K):=by
 intro pins s σ H x v vl vu lo hi sl Q I rx hs pl pu h
 obtain⟨a,xs,rfl,hx,q⟩:=h
 cases rx
 obtain⟨its,r,p,hz⟩:=I.list hx
 have hlen:=r.length
 refine⟨"list",_,slot_list_getitem.lookup,p.isList.typeIs,wpAny_getItem_list_slice p.isList hs pl pu .none (by simp) ?_ (by rw[zH];lia)⟩
 rw[W.kmk_pick_nat its.toArray (CS lo hi its.toArray.size)]
 have e:((its.toArray.toList.drop (HT.dI its.toArray.size 0 lo)).take (HT.dI its.toArray.size its.toArray.size hi - HT.dI its.toArray.size 0 lo))=cut its lo hi:=by unfold cut;simp
 rw[e]
 have rc:aE (cut xs lo hi) (cut its lo hi):=by unfold cut;rw[hlen];exact (r.drop _).take _
 exact⟨.ref s.heap.objs.size,_,I.lnew (t':=s.toks) rc (yD (LA xs lo hi) hz),rfl,q _ I.fresh⟩
def SR(K:W.Frag)(f:Env->Option (Option Int)):TO:=fun σ H Q=>∃HF ρ o,aL HF H/\cU K HF ρ σ/\f ρ=some o/\∀H' HF',bL HF H HF' H'->Q o H'
def DO(X:Cx)(e:Option Expr)(f:Env->Option (Option Int)):Prop:=PO X e (SR X.K f)
def qf:Env->Option (Option Int):=fun _=>some none
def gI:D->Option Int|.int i=>some i|_=>none
def Hu(f:Env->Option D):Env->Option (Option Int):=fun ρ=>(f ρ).bind fun d=>(gI d).map some
theorem Kz:DO X none qf:=fun pins s σ H Q I ⟨HF,ρ,o,sm,eo,hf,q⟩=>L4 pins s σ H Q I (by cases hf;exact q H HF (.refl sm))
theorem L9{e:Expr}{f:Env->Option D}(h:DE X e f):DO X (some e) (Hu f):=fun pins s σ H Q I ⟨HF,ρ,o,sm,eo,hf,q⟩=>Lr h pins s σ H Q I (by
 obtain⟨d,hd,hf⟩:=bs hf
 obtain⟨i,hi,rfl⟩:=ah hf
 cases d<;>try cases hi
 exact⟨HF,ρ,_,sm,eo,hd,fun v H1 HF1 g1 r1=>⟨_,by simpa only[Rep] using r1,q H1 HF1 g1⟩⟩)
variable {a:Expr}{lo hi:Option Expr}{fa:Env->Option D}{fl fh:Env->Option (Option Int)}{pos p2:Pos}
def pE{β:Type}(g:D->Option Int->Option Int->Option β)(fa:Env->Option D)(fl fh:Env->Option (Option Int)):Env->Option β:=fun ρ=>(fa ρ).bind fun x=>(fl ρ).bind fun l=>(fh ρ).bind fun h=>g x l h
end
section
variable {X:Cx}{a:Expr}{fa:Env->Option D}{pos p2 p3 p4:Pos}{j:Nat}
def f1(g:D->Option D)(f:Env->Option D):Env->Option D:=fun ρ=>(f ρ).bind g
end
end Dl
namespace HT
open PySem PyProof.Rows
section
open PySem.SeqAt
open PySem.AutoSeq1 (wpAny_loadPart')
open PySem.MeetsSeq PySem.MeetsSeq2 PySem.MeetsSeq3
theorem ID(A:Around)(s:Shared)(a:Int)(t:Tok)(c:Int)(u:Tok)(prog:Program)(w:World)(E:Value->Shared->Prop)(Q:Value->Shared->Prop)(h:Q (.bool (decide (c<=a))) s) :
  wpAny (model prog w) A (richCompare .GtE (.int a t) (.int c u)) Q E s :=
 (PyProof.Rows.ge_int h:wpAny (model prog w) A (compareOp .GtE (.int a t) (.int c u)) Q E s)
theorem tT(l b:Addr)(items items2:Array Value)(n n2:Nat)(dd dd2:Option Addr)(sl sl2:Array (Option Value))(ns ms:List Int)(hi:IntsAre items.toList ns)(hj:IntsAre items2.toList ms) :
  Meets (Builtin.«tuple.__ge__» ⟨[.ref l,.ref b],[]⟩)
   (fun _ R s=>s.heap.get? l=some { cls:=.type "tuple",dict:=dd,data:=.seq items n,slots:=sl }/\s.heap.get? b=some { cls:=.type "tuple",dict:=dd2,data:=.seq items2 n2,slots:=sl2 } /\
    R (.ok (.ret (.bool (!lexLt ns ms)))) s) :=
 .of_wp fun prog w A R s h=>by
  obtain⟨hp,g,d,tk,os⟩:=s;obtain⟨hl,hb,h⟩:=h
  have f2:=AutoSeq1.sub_tuple_tuple
  have z1:items.size=ns.length:=by rw[<- hi.length];simp
  have z2:items2.size=ms.length:=by rw[<- hj.length];simp
  wp_walk using wpAny_loadPart' hl,wpAny_loadPart' hb,wpAny_forIn_list _ (fun rest b s'=>b.1=none/\s'=⟨hp,g,d,tk,os⟩/\∃ (vs ws:List Value) (ns' ms':List Int),rest=vs.zip ws /\
   IntsAre vs ns'/\IntsAre ws ms'/\ns'.length+items2.size=ms'.length+items.size/\R (.ok (.ret (.bool (!lexLt ns' ms')))) ⟨hp,g,d,tk,os⟩) _
  case turn =>
   rintro⟨y,x⟩ rest b s' ⟨hb',rfl,vs,ws,ns',ms',hz,hvi,hwi,hlen,hR⟩
   cases hvi with
   | nil=>rw[List.zip_nil_left] at hz;cases hz
   | cons a t hvi' =>
    cases hwi with
    | nil=>rw[List.zip_nil_right] at hz;cases hz
    | cons c u hwi' =>
     rw[List.zip_cons_cons] at hz
     injection hz with hyx hrest
     injection hyx with hy hx
     subst hy hx
     rw[dD] at hR
     simp only[zL] at hlen
     obtain⟨e,he,hiff⟩:=Iu A.in1 ⟨hp,g,d,tk,os⟩ a t c u
     refine zV (he prog w _ _ ?_)
     cases e with
     | true =>
      rw[yL (hiff.mp rfl)] at hR
      wp_walk
      exact⟨rfl,rfl,_,_,_,_,hrest,hvi',hwi',by lia,hR⟩
     | false =>
      rw[yN (fun q=>absurd (hiff.mpr q) yZ)] at hR
      have hri:=ID A.in1 ⟨hp,g,d,tk,os⟩ a t c u prog w
      have e1:(!decide (a < c))=decide (c<=a):=by
       rw[<- decide_not]
       exact decide_eq_decide.mpr (by lia)
      rw[e1] at hR
      wp_walk using hri
      exact⟨_,rfl,hR⟩
  case fin =>
   rintro⟨b1,b2⟩ s' ⟨hb',rfl,vs,ws,ns',ms',hz,hvi,hwi,hlen,hR⟩
   simp only at hb'
   subst hb'
   have hv:lexLt ns' ms'=decide (items.size < items2.size):=by
    cases hvi with
    | nil =>
     cases hwi with
     | nil =>
      simp only[xK] at hlen
      rw[tZ]
      exact (zZ (by lia)).symm
     | cons c u hw =>
      simp only[xK,zL] at hlen
      rw[sN]
      exact (yA (by lia)).symm
    | cons a t hv =>
     cases hwi with
     | nil =>
      simp only[xK,zL] at hlen
      rw[rm]
      exact (zZ (by lia)).symm
     | cons c u hw =>
      rw[List.zip_cons_cons] at hz
      cases hz
   have hv2:(!lexLt ns' ms')=decide (items.size >= items2.size):=by
    rw[hv,<- decide_not]
    exact decide_eq_decide.mpr (by lia)
   rw[hv2] at hR
   wp_walk
   exact⟨_,rfl,hR⟩
  case h =>
   exact⟨rfl,rfl,items.toList,items2.toList,ns,ms,rfl,hi,hj,by lia,h⟩
end
end HT
namespace Dl
open PySem L2 PySem.Spec PyProof.Rows
section
variable {X:Cx}
def lN:D->Option (List Int)|.tuple ds=>intsOf ds|_=>none
theorem iQ{x:D}{ns:List Int}(h:lN x=some ns):x=.tuple (ns.map PyData.int):=by
 cases x<;>try cases h
 rename_i xs
 have h:intsOf xs=some ns:=h
 rw[dN h]
def QW:D->D->Option Bool:=fun x y=>(lN x).bind fun ns=>(lN y).map fun ms=>!lexLt ns ms
theorem Kd(hu:X.A.units < cLine):hU X (compareOp .GtE) (Qh X.K QW):=by
 intro pins s σ H v1 v2 u1 u2 Q I rx ry h
 obtain⟨HF,x,y,k,sm,r1,r2,hg,q⟩:=h
 obtain⟨ns,h1,hg⟩:=bs hg
 obtain⟨ms,h2,rfl⟩:=ah hg
 rw[iQ h1] at r1
 rw[iQ h2] at r2
 have key:∀ {ns:List Int}{v:V}{u:Value},Rep X.K HF (.tuple (ns.map PyData.int)) v->RelV v u->∃a its,u=.ref a/\IsTup s.heap a its/\IntsAre its.toList ns:=fun {ns v u} r rv=>by
  have p:xk s.heap u ns:=by
   cases nM (X:=X) (us:=[u]) (vs:=[v]) (nss:=[ns]) I sm (aw.cons r aw.nil) (.cons rv .nil) with
   | cons p _=>exact p
  obtain⟨a,o,its,n,rfl,e1,e2,e3,e4⟩:=p.ex
  exact⟨a,its,rfl,⟨o,e1,e2,n,e3⟩,e4⟩
 obtain⟨a,its,rfl,⟨⟨cls,dd,data,sl⟩,ho,hc,n,hd⟩,i1⟩:=key r1 rx
 obtain⟨b,its2,rfl,⟨⟨cls2,dd2,data2,sl2⟩,ho2,hc2,n2,hd2⟩,i2⟩:=key r2 ry
 simp only at hc hd hc2 hd2
 subst hc hd hc2 hd2
 exact richCompare_meets_room (op:=.GtE) ⟨_,ho,rfl⟩ ⟨_,ho2,rfl⟩ PySem.F.slot_tuple_ge PySem.F.entry_tuple_ge (PySem.F.args_tuple_ge_2 _ _) (HT.tT a b its its2 n n2 dd dd2 sl sl2 ns ms i1 i2)
  ⟨ho,ho2,show Value.bool (!lexLt ns ms)≠Value.notImplemented/\EP X pins σ Q (.bool (!lexLt ns ms)) s from ⟨(fun x=>nomatch x),⟨.bl _,H,I,rfl,q⟩⟩⟩ hu
end
end Dl
namespace En
open PySem PyProof.Rows
open AutoSeq1 (wpAny_loadPart')
theorem noFill_tup:fillsNumberSlot (.type "tuple") "mul"=pure false:=PySem.fillsNumberSlot_seq (id:="tuple.__mul__") (r:=some (.builtin "tuple.__rmul__")) F.slot_tuple_mul.lookup (by decide +kernel) F.slot_tuple_rmul.lookup (by decide +kernel)
theorem repeat_tup:seqRepeat? (.type "tuple")=pure (some (.builtin "tuple.__mul__")):=by
 unfold seqRepeat?
 rw[PySem.seqSlot_of (T:="tuple") (name:="__mul__") (id:="tuple.__mul__") F.slot_tuple_mul.lookup (by decide +kernel),PySem.seqSlot_of (T:="tuple") (name:="__rmul__") (id:="tuple.__rmul__") F.slot_tuple_rmul.lookup (by decide +kernel)];rfl
theorem rmul_tup(a:Int)(t:Tok)(l:Addr)(its:Array Value)(n:Nat)(dd:Option Addr)(sl:Array (Option Value)) :
  Meets (Builtin.«int.__rmul__» ⟨[.int a t,.ref l],[]⟩) (fun _ R s=>s.heap.get? l=some { cls:=.type "tuple",dict:=dd,data:=.seq its n,slots:=sl }/\R (.ok (.ret Value.notImplemented)) s) :=
 .of_wp fun prog w A R s h=>by
  obtain⟨hp,g,d,tk,os⟩:=s;obtain⟨hl,h⟩:=h
  wp_walk
  exact⟨_,rfl,h⟩
theorem mulT_same(l:Addr)(its:Array Value)(n:Nat)(dd:Option Addr)(sl:Array (Option Value))(k:Int)(t:Tok)(h1:¬ (decide (k < -(2 ^ 63))||decide (k >= 2 ^ 63))=true)(h2:(its.isEmpty||k == 1)=true) :
  Meets (Builtin.«tuple.__mul__» ⟨[.ref l,.int k t],[]⟩) (fun _ R s=>s.heap.get? l=some { cls:=.type "tuple",dict:=dd,data:=.seq its n,slots:=sl }/\R (.ok (.ret (.ref l))) s) :=
 .of_wp fun prog w A R s h=>by
  obtain⟨hp,g,d,tk,os⟩:=s;obtain⟨hl,h⟩:=h
  have f1:=AutoSeq1.idx_int
  wp_walk using wpAny_loadPart' hl
  rw[yN h1]
  wp_walk using wpAny_loadPart' hl
  exact⟨_,rfl,h⟩
theorem mulT_none(l:Addr)(its:Array Value)(n:Nat)(dd:Option Addr)(sl:Array (Option Value))(k:Int)(t:Tok)(h1:¬ (decide (k < -(2 ^ 63))||decide (k >= 2 ^ 63))=true)(h2:¬ (its.isEmpty||k == 1)=true)(h3:(decide (k<=0)||its.isEmpty)=true) :
  Meets (Builtin.«tuple.__mul__» ⟨[.ref l,.int k t],[]⟩) (fun _ R s=>s.heap.get? l=some { cls:=.type "tuple",dict:=dd,data:=.seq its n,slots:=sl }/\R (.ok (.ret (.ref s.heap.objs.size))) { s with heap:=s.heap.push { cls:=.type "tuple",data:=.seq #[] } }) :=
 .of_wp fun prog w A R s h=>by
  obtain⟨hp,g,d,tk,os⟩:=s;obtain⟨hl,h⟩:=h
  have f1:=AutoSeq1.idx_int
  wp_walk using wpAny_loadPart' hl
  rw[yN h1]
  wp_walk using wpAny_loadPart' hl
  exact⟨_,rfl,h⟩
theorem mulT_many(l:Addr)(its:Array Value)(n:Nat)(dd:Option Addr)(sl:Array (Option Value))(k:Int)(t:Tok)(h1:¬ (decide (k < -(2 ^ 63))||decide (k >= 2 ^ 63))=true)(h2:¬ (its.isEmpty||k == 1)=true)(h3:¬ (decide (k<=0)||its.isEmpty)=true)
  (h4:¬ ((its.size:Nat):Int) * k > (2 ^ 63 - 1) / 8) (h5:¬ Builtin.Tuple.tupleTooMany (((its.size:Nat):Int) * k)=true) (hz:((List.replicate k.toNat its).foldl (·++·) #[]).size<=sizeLine) :
  Meets (Builtin.«tuple.__mul__» ⟨[.ref l,.int k t],[]⟩) (fun _ R s=>s.heap.get? l=some { cls:=.type "tuple",dict:=dd,data:=.seq its n,slots:=sl }/\R (.ok (.ret (.ref s.heap.objs.size))) { s with heap:=s.heap.push { cls:=.type "tuple",data:=.seq ((List.replicate k.toNat its).foldl (·++·) #[]) } }) :=
 .of_wp fun prog w A R s h=>by
  obtain⟨hp,g,d,tk,os⟩:=s;obtain⟨hl,h⟩:=h
  have f1:=AutoSeq1.idx_int
  wp_walk using wpAny_loadPart' hl
  rw[yN h1]
  wp_walk using wpAny_loadPart' hl
  rw[yN h4]
  wp_walk using wpAny_loadPart' hl
  exact⟨_,rfl,h⟩
end En
namespace Dl
open PySem L2 PySem.Spec PyProof.Rows
section
variable {X:Cx}
def MY(K:W.Frag):R2:=fun x y H Q=>∃a k xs,x=.ref a/\y=.int k/\iN K H a xs/\-(2 ^ 62)<=k/\k < 2 ^ 62/\xs.length * k.toNat<=sizeLine/\((List.replicate k.toNat xs).flatten=xs->Q (.ref a) H) /\
 ∀p,H p=none->Q (.ref p) (upd H p (.tup (List.replicate k.toNat xs).flatten))
theorem L8:hU X (binaryOp .Mult) (MY X.K):=by
 intro pins s σ H x y v u Q I rx ry h
 obtain⟨a,k,xs,rfl,rfl,hq,k1,k2,hz,q1,q2⟩:=h
 cases rx
 obtain⟨t,rfl⟩:=ry
 obtain⟨its,r,pl,hzx⟩:=I.tuple hq
 have hl:=r.length
 obtain⟨⟨cls,dd,data,sl⟩,ho,hc,n,hd⟩:=id pl
 simp only at hc hd
 subst hc hd
 have b1:¬ (decide (k < -(2 ^ 63))||decide (k >= 2 ^ 63))=true:=by
  simp only[jB,zJ]
  lia
 refine wpAny_binaryOp_repeat_ref (T:="tuple") (U:="int") (by decide) ⟨_,ho,rfl⟩ (fun s'=>wV s' k t) En.noFill_tup F.fills_int_mul wF En.repeat_tup F.slot_int_index.lookup
  (qX wF (wV s k t) F.entry_int_rmul (F.args_int_rmul_2 _ _) (En.rmul_tup k t a its.toArray n dd sl) ⟨ho,rfl,⟨_,ho,rfl⟩,?_⟩)
 have hfl:∀m:Nat,List.foldl (fun x1 x2=>x1++x2) #[] (List.replicate m its.toArray)=(List.replicate m its).flatten.toArray:=fun m=>by
  have:=foldl_rep its m []
  rw[xO] at this
  exact this
 by_cases h2:(its.toArray.isEmpty||k == 1)=true
 ·refine qX F.slot_tuple_mul ⟨_,ho,rfl⟩ Zi (wY _ _) (En.mulT_same a its.toArray n dd sl k t b1 h2) ⟨ho,⟨.ref a,H,I,rfl,q1 ?_⟩⟩
  rw[jB] at h2
  rcases h2 with h2|h2
  ·have:xs=[]:=by
    have e:its=[]:=by simpa using h2
    rw[e] at hl
    exact List.length_eq_zero_iff.mp hl
   rw[this]
   simp
  ·have:k=1:=eq_of_beq h2
   subst this
   simp
 ·by_cases h3:(decide (k<=0)||its.toArray.isEmpty)=true
  ·refine qX F.slot_tuple_mul ⟨_,ho,rfl⟩ Zi (wY _ _) (En.mulT_none a its.toArray n dd sl k t b1 h2 h3) ⟨ho,?_⟩
   have hk0:k.toNat=0:=by
    simp only[jB,zJ] at h3 h2
    rcases h3 with h3|h3
    ·lia
    ·exact absurd (.inl h3) h2
   have q3:=q2 s.heap.objs.size I.fresh
   rw[hk0] at q3
   exact⟨.ref s.heap.objs.size,_,I.laid (t':=s.toks) (o:=.tup []) (fun b ob q=>zU _ q) (yM _) ⟨xV _,[],.nil,rK.new _ _⟩,rfl,q3⟩
  ·have hm:its.length * k.toNat<=sizeLine:=by rw[<- hl];exact hz
   have hkn:(k.toNat:Int)=k:=by
    simp only[jB,zJ,not_or] at h3
    lia
   have hmi:((its.toArray.size:Nat):Int) * k=((its.length * k.toNat:Nat):Int):=by rw[zH,Int.natCast_mul,hkn]
   have hv:=L2.aE.rep r k.toNat
   have hlen2:(List.replicate k.toNat xs).flatten.length<=sizeLine:=by rw[len_rep,Nat.mul_comm];exact hz
   have hs8:(sizeLine:Nat)<=(2 ^ 63 - 1) / 8:=by decide
   have h4:¬ ((its.toArray.size:Nat):Int) * k > (2 ^ 63 - 1) / 8:=by rw[hmi];lia
   have h5:¬ Builtin.Tuple.tupleTooMany (((its.toArray.size:Nat):Int) * k)=true:=by
    unfold Builtin.Tuple.tupleTooMany
    rw[hmi]
    simp only[zJ]
    lia
   refine qX F.slot_tuple_mul ⟨_,ho,rfl⟩ Zi (wY _ _) (En.mulT_many a its.toArray n dd sl k t b1 h2 h3 h4 h5 (by rw[hfl,zH,<- hv.length];exact hlen2)) ⟨ho,?_⟩
   rw[hfl]
   exact⟨.ref s.heap.objs.size,_,I.laid (t':=s.toks) (o:=.tup (List.replicate k.toNat xs).flatten) (fun b ob q=>zU _ q) (yM _) ⟨hlen2,_,hv,rK.new _ _⟩,rfl,q2 _ I.fresh⟩
def GT:D->D->Option D
 | .tuple ds,.int k=>if BD k=true/\ds.length * k.toNat<=sizeLine then some (.tuple (List.replicate k.toNat ds).flatten) else none
 | _,_=>none
theorem nz{K:W.Frag}{HF:Hp}{ds:List D}{vs:List V}(r:aw K HF ds vs):∀k:Nat,aw K HF (List.replicate k ds).flatten (List.replicate k vs).flatten
 | 0=>aw.nil
 | k+1=>by rw[xE,xE,qM,qM];exact r.append (nz r k)
theorem JC{K:W.Frag}:fM K (MY K) GT:=by
 intro HF H x y v1 v2 d Q sm r1 r2 hg q
 cases x<;>cases y<;>simp only[GT] at hg<;>try cases hg
 split at hg
 ·rename_i xs k hh
  cases hg
  simp only[Rep] at r1 r2
  obtain⟨a,vs,rfl,ha,ra⟩:=r1
  have ok:=hh.1
  unfold BD at ok
  rw[zF] at ok
  refine⟨a,k,vs,rfl,r2,aD sm ha,yQ ok.1,yQ ok.2,by rw[ra.length];exact hh.2,fun e=>q _ H HF (.refl sm) ?_,fun p hp=>q _ _ _ (.new sm hp) (eF (sm.free hp) (nz ra _))⟩
  simp only[Rep]
  refine⟨a,vs,rfl,ha,?_⟩
  have:=nz ra k.toNat
  rw[e] at this
  exact this
 ·cases hg
end
end Dl
namespace En
open PySem PyProof.Rows
section
variable {prog:Program}{w:World}{A:Around}{E:Value->Shared->Prop}{s:Shared}
theorem call_setT{l:Addr}{its:Array Value}{ns:List Int}{Q:Value->Shared->Prop}(hh:A.handled=none)(hl:s.heap.IsTuple l its)(hi:IntsAre its.toList ns)(hb:its.size+1 < scanBound)
  (h:∀ (h':Heap) (tk:Nat),h'.SetOf (intKind prog w) s.heap.objs.size (fun k'=>(firstMet (fun i=>ns.getD i 0) its.size).any (· == k')) (firstMet (fun i=>ns.getD i 0) its.size).length->(∀b o,b < s.heap.objs.size->s.heap.get? b=some o->h'.get? b=some o)->Q (.ref s.heap.objs.size) { s with heap:=h',toks:=tk }) :
  wpAny (model prog w) A (call (.type "set") [.ref l]) Q E s:=by
 obtain⟨c,tl,hmro⟩:=F.called_set.mro
 have hmade:=F.called_set.made
 have hsub:=F.called_set.sub
 refine vP (codeAny_of_tree ?_);show wpAny _ _ (callAny (.type "set") _) _ _ _
 refine zW ⟨wZ _ (by decide +kernel),kG F.entry_type_call ?_⟩
 rw[Around.under_plain (weight_type_call_type "set" [.ref l] []) rfl]
 have h1:=F.called_set.notType
 have h2:=F.called_set.canCreate
 have hct:=F.typeCall_set_1 (.ref l)
 repeat (any_goals (first|assumption|wp_step))
 refine jS (code_set_new_1 (.ref l) (E:=E) (Q₁:=fun obj s1=>∃led:Bool,obj=.ref s.heap.objs.size/\s1={ s with heap:=s.heap.push { cls:=.type "set",dict:=none,data:=.set #[] 0 (.fresh 0 0 led) } }) fun led=>⟨led,rfl,rfl⟩) fun r s1 hr=>?_
 cases r with
 | error e=>exact hr
 | ok fl =>
  cases fl with
  | ret obj =>
   obtain⟨led,rfl,rfl⟩:=hr
   have hS:(s.heap.push { cls:=.type "set",dict:=none,data:=.set #[] 0 (.fresh 0 0 led) }).get? s.heap.objs.size=some { cls:=.type "set",dict:=none,data:=.set #[] 0 (.fresh 0 0 led) }:=by exact zX _ rfl
   have hT:Shared.TypeIs { s with heap:=s.heap.push { cls:=.type "set",dict:=none,data:=.set #[] 0 (.fresh 0 0 led) } } (.ref s.heap.objs.size) "set":=⟨_,hS,rfl⟩
   have hli:=F.called_set.init.lookup
   have hbi:=F.called_set.init.bind (.ref s.heap.objs.size)
   repeat (any_goals (first|assumption|wp_step))
   refine jS (wK (R:=wants (fun r s2=>r=.none/\∃h' tk,s2={ s with heap:=h',toks:=tk }/\h'.SetOf (intKind prog w) s.heap.objs.size (fun k'=>(firstMet (fun i=>ns.getD i 0) its.size).any (· == k')) (firstMet (fun i=>ns.getD i 0) its.size).length /\
     (∀b o,b < s.heap.objs.size->s.heap.get? b=some o->h'.get? b=some o)) E) F.called_set.init.plain F.entry_set_init (check_set_init_1 hT ?_)) fun r2 s2 hr2=>?_
   ·obtain⟨ol,hol,hcl,nl,hdl⟩:=hl
    obtain⟨ocls,odict,odata,oslots⟩:=ol
    simp only at hcl hdl
    subst hcl hdl
    have hol':(s.heap.push { cls:=.type "set",dict:=none,data:=.set #[] 0 (.fresh 0 0 led) }).get? l=some { cls:=.type "tuple",dict:=odict,data:=.seq its nl,slots:=oslots }:=zU _ hol
    have hsls:=F.sub_tuple_set
    have hslf:=F.sub_tuple_frozenset
    have hne:(Value.type "tuple" == Value.type "dict")=false:=by decide
    have hl1:(s.heap.push { cls:=.type "set",dict:=none,data:=.set #[] 0 (.fresh 0 0 led) }).IsTuple l its:=⟨_,hol',rfl,nl,rfl⟩
    unfold Builtin.«set.__init__» noKeywords Builtin.Frozenset.updateFrom
    generalize hPI:pyIter=PI
    wp_walk
    subst hPI
    refine xR hl1 (zV (wpAny_runValue ?_))
    have hlS:l < s.heap.objs.size:=zY hol
    have hh3:A.in1.in1.in1.handled=none:=by simp[hh]
    have hneI:l≠(s.heap.push { cls:=.type "set",dict:=none,data:=.set #[] 0 (.fresh 0 0 led) }).objs.size:=by rw[xJ];exact yR (jO hlS)
    have hSf:s.heap.objs.size∉[(s.heap.push { cls:=.type "set",dict:=none,data:=.set #[] 0 (.fresh 0 0 led) }).objs.size,l]:=by
     rw[xJ];simp only[zQ,yF,xU,not_or]
     exact⟨yR (kR _),jI hlS⟩
    have hval:∀ (i:Nat) (v:Value),its[i]?=some v->∃t,v=.int ((fun i=>ns.getD i 0) i) t:=fun i v hv=>IntsAre.int_at hi i v (by rw[Array.getElem?_toList];exact hv)
    refine codeAny_set_update_loopS ((Walks.tuple hh3 _ l hneI its).toS) s.heap.objs.size hSf (fun i=>ns.getD i 0) hval hb (its.size - 0) 0 _ (by lia) (xV _) ⟨⟨_,zX _ rfl,rfl,rfl⟩,?ht⟩ ?hS0 ?hR
    case ht=>exact⟨_,zU _ hol',rfl,nl,rfl⟩
    case hS0 =>
     have hget:((s.heap.push { cls:=.type "set",dict:=none,data:=.set #[] 0 (.fresh 0 0 led) }).push { cls:=.type "tuple_iterator",data:=.fields #[.ref l,.int 0 0] }).get? s.heap.objs.size=some { cls:=.type "set",dict:=none,data:=.set #[] 0 (.fresh 0 0 led) }:=by exact zU _ hS
     exact SetOf_congr ((setObjOf_fresh (knd:=intKind prog w) led).setOf hget (by unfold scanBound;lia)) (fun _=>rfl) rfl
    case hR =>
     intro s' hm hS'
     obtain⟨h',g',d',tk',os'⟩:=s'
     have eg:g'=s.gens:=hm.gens
     have ed:d'=s.drawn:=hm.drawn
     have eo:os'=s.os:=hm.os
     subst eg ed eo
     show wpAny _ _ _ _ _ _
     refine zW ?_
     show wpAny _ _ (ret Value.none) _ _ _
     refine zW ⟨rfl,h',tk',rfl,hS',fun b o hb' e=>?_⟩
     refine hm.heap b o ?_ (zU _ (zU _ e))
     simp only[zQ,yF,xU,not_or]
     exact⟨yR hb',by rw[xJ];exact yR (jO hb')⟩
   ·cases r2 with
    | error e=>exact hr2
    | ok fl2 =>
     cases fl2 with
     | ret r =>
      obtain⟨rfl,h',tk,rfl,hS',hk'⟩:=hr2
      repeat (any_goals (first|assumption|wp_step))
      exact h _ _ hS' hk'
     | _=>exact hr2.elim
  | _=>exact hr.elim
end
end En
namespace Dl
open PySem L2 PySem.Spec PyProof.Rows
variable {K:W.Frag}{g:Env->Option (List D)}{x:Str}{e elt:Expr}{es:List Expr}{env:PySem.Env}{f:Env->Option D}{gens:List Comprehension}{scope:Scope}{pos py:Pos}{line:Nat}{ps:List Str}{oc:Value}{od an:Option Addr}{osl:Array (Option Value)}{ns:List Int}
def many(ns:List Int):Nat:=(firstMet (fun i=>ns.getD i 0) ns.length).length
section
variable {X:Cx}{e:Expr}{f:Env->Option D}{pos p p' pos':Pos}
theorem Gr(hc:X.calm=true):eT X (.type "set") (fun xs H Q=>∃ (a:Addr) (ns:List Int),xs=[.ref a]/\iN X.K H a (ns.map V.int)/\ns.length+1 < scanBound/\∀q S,H q=none->Q (.ref q) (upd H q (.set S (many ns)))):=by
 intro pins s σ H xs us Q I r h
 obtain⟨a,ns,rfl,hq,hb,q⟩:=h
 obtain⟨u,rfl,rx⟩:=vals1 r
 cases rx
 obtain⟨its,rv,pl,hz⟩:=I.tuple hq
 have hi:IntsAre its.toArray.toList ns:=intsAre_of rv
 have hlen:its.toArray.size=ns.length:=by have:=rv.length;simpa using this.symm
 refine En.call_setT (I.ok.hd hc) (show s.heap.IsTuple a its.toArray from pl) hi (by rw[hlen];exact hb) fun h' tk hS hk=>?_
 rw[hlen] at hS
 exact⟨.ref s.heap.objs.size,_,I.laid (t':=tk) (fun b o e=>hk b o (zY e) e) (yM _) (show et X.prog X.w _ h' _ (.set _ (many ns)) from hS),rfl,q _ _ I.fresh⟩
theorem Fk:eT X (.builtin "len") (fun xs H Q=>∃ (a:Addr) (S:Int->Bool) (n:Nat),xs=[.ref a]/\H a=some (.set S n)/\Q (.int n) H):=by
 intro pins s σ H xs us Q I r h
 obtain⟨a,S,n,rfl,hq,q⟩:=h
 obtain⟨u,rfl,rx⟩:=vals1 r
 cases rx
 obtain⟨o,es,ep,t,ho,hex,hd,hel,hmem,hlt,hf,hn⟩:=(show s.heap.SetOf (intKind X.prog X.w) a S n from I.hok a _ hq)
 have hfit:((es.size:Nat):Int) < 2 ^ 63:=by unfold scanBound at hlt;lia
 refine call_len_set ho hex hd hf hfit ⟨.int n,H,I.tok _,⟨s.toks+1,by rw[hn]⟩,q⟩
def lL:D->Option D:=fun d=>(lN d).bind fun ns=>if ns.length+1 < scanBound then some (.int (many ns)) else none
theorem Ft(hc:X.calm=true)(B:pN X "len" (.builtin "len"))(C:pN X "set" (.type "set"))(h:DE X e f)(he:starEach [e] X.env=(false,eval e X.env)::starEach [] X.env:=by rfl) :
  DE X (.Call (.Name "len" p) [.Call (.Name "set" p') [e] [] pos'] [] pos) (f1 lL f) :=
 bf (nr Fk B.gl B.mg B.bt (cq (oE (Gr hc) C.gl C.mg C.bt (cq h eG he) (by decide) (by decide) he rfl) eG) (by decide) (by decide) rfl rfl) fun σ H Q ⟨HF,ρ,d,sm,eo,hf,q⟩=>by
  obtain⟨x,hx,hf⟩:=bs hf
  obtain⟨ns,h1,hf⟩:=bs hf
  split at hf
  ·rename_i hb
   cases hf
   refine⟨HF,ρ,x,sm,eo,hx,fun v1 H1 HF1 g1 r1=>?_⟩
   rw[iQ h1] at r1
   simp only[Rep] at r1
   obtain⟨a,vs,rfl,hs,rr⟩:=r1
   have key:∀ {ns:List Int}{ws:List V},aw X.K HF1 (ns.map PyData.int) ws->ws=ns.map V.int:=fun {ns}=>by
    induction ns with
    | nil=>exact fun h=>h.nil_inv
    | cons n ns ih =>
     intro ws h
     obtain⟨v,r,rfl,a,b⟩:=h.cons_inv
     simp only[Rep] at a
     rw[a,ih b]
     rfl
   have:=key rr
   subst this
   refine⟨a,ns,rfl,aD g1.fh hs,hb,fun b S hb'=>⟨b,S,_,rfl,aA,q _ _ HF1 (g1.trans (.own g1.fh hb')) (by simp[Rep])⟩⟩
  ·cases hf
end
theorem kb(val:Nat->Int):∀i,(firstMet val i).length=i↔((List.range i).map val).Nodup
 | 0=>by simp[firstMet]
 | i+1=>by
  have hle:=firstMet_length_le val i
  rw[firstMet_succ,step_length,vY,jA,Zh]
  have ha:=firstMet_any val i (val i)
  have ih:=kb val i
  constructor
  ·intro h
   by_cases hin:(firstMet val i).any (· == val i)=true
   ·rw[yL hin] at h;lia
   ·rw[yN hin] at h
    refine⟨ih.mp (by lia),by simp,fun a hm b hb z=>?_⟩
    have hb':b=val i:=by simpa using hb
    subst z hb'
    rw[ha] at hin
    exact hin (List.any_eq_true.mpr ⟨_,hm,by simp⟩)
  ·rintro⟨h1,_,h3⟩
   rw[yN ?_]
   ·rw[ih.mpr h1]
   ·rw[ha]
    intro hin
    obtain⟨x,hx,he⟩:=List.any_eq_true.mp hin
    have he':x=val i:=by simpa using he
    exact h3 x hx (val i) (by simp) he'
theorem C6(ns:List Int):many ns=ns.length↔ns.Nodup:=by
 unfold many
 rw[kb]
 have:(List.range ns.length).map (fun i=>ns.getD i 0)=ns:=j9 ns 0
 rw[this]
section
variable {X:Cx}{N:List Str}{sc:Scope}{k:Nat}{a b c e e2:Expr}{es:List Expr}{fa fb fc f:Env->Option D}{fs:Env->Option (List D)}{pos p p' pos' p2 p3 p4 px apos cpos tp:Pos}{x y:Str}{HF₀ H₀:Hp}
theorem rD{r r':R2}{g g':D->D->Option D}(h:fM K r g)(h':fM K r' g'):fM K (fun x y H Q=>r x y H Q\/r' x y H Q) (fun x y=>(g x y).or (g' x y)):=by
 intro HF H x y v1 v2 d Q sm r1 r2 hg q
 cases e:g x y with
 | some d' =>
  have hg:(g x y).or (g' x y)=some d:=hg
  rw[e] at hg
  cases hg
  exact .inl (h HF H x y v1 v2 d Q sm r1 r2 e q)
 | none =>
  have hg:(g x y).or (g' x y)=some d:=hg
  rw[e] at hg
  exact .inr (h' HF H x y v1 v2 d Q sm r1 r2 hg q)
theorem Gy:fM K (GO K) (fun x y=>(nO x y).map PyData.list):=by
 intro HF H x y v1 v2 d Q sm r1 r2 hg q
 obtain⟨zs,hg',rfl⟩:=ah hg
 clear hg
 cases x<;>cases y<;>simp only[nO] at hg'<;>try cases hg'
 obtain⟨rfl,hz⟩:=eA hg'
 simp only[Rep] at r1 r2
 obtain⟨a,vs,rfl,ha,ra⟩:=r1
 obtain⟨b,us,rfl,hb,rb⟩:=r2
 refine⟨a,b,vs,us,rfl,rfl,sm.seq ha,sm.seq hb,by rw[ra.length,rb.length,<- zN];exact hz,fun p hp=>q _ _ _ (.new sm hp) ?_⟩
 simp only[Rep]
 exact⟨p,_,rfl,.inl (.inl aA),(ra.append rb).mono (dS (sm.free hp))⟩
def aW:D->D->Option D:=fun x y=>((zk (fun _ _=>True) fun i j=>.int (i+j)) x y).or ((Lf x y).or ((nO x y).map PyData.list))
theorem Bk.add(C:Bk X N sc k)(ha:DE X a fa)(hb:DE X b fb):DE X (.BinOp a .Add b pos) (f2 aW fa fb):=Bu (Pv.or (FH.or rL)) (rD JM (rD KC Gy)) ha hb
def eX:D->D->Option D:=zk (fun _ _=>True) fun i j=>.int (i - j)
theorem Bk.sub(C:Bk X N sc k)(ha:DE X a fa)(hb:DE X b fb):DE X (.BinOp a .Sub b pos) (f2 eX fa fb):=Bu OC JM ha hb
def gy:D->D->Option D:=fun x y=>((zk vo fun i j=>.int (i * j)) x y).or (GT x y)
theorem Bk.mul(C:Bk X N sc k)(ha:DE X a fa)(hb:DE X b fb):DE X (.BinOp a .Mult b pos) (f2 gy fa fb):=Bu (N5.or L8) (rD HG JC) ha hb
def mO:D->D->Option D:=zk KE fun i j=>.int (i / j)
theorem Bk.div(C:Bk X N sc k)(ha:DE X a fa)(hb:DE X b fb):DE X (.BinOp a .FloorDiv b pos) (f2 mO fa fb):=Bu KS HG ha hb
def lO:D->D->Option D:=zk (fun _ j=>0 < j) fun i j=>.int (i % j)
theorem Bk.mod(C:Bk X N sc k)(ha:DE X a fa)(hb:DE X b fb):DE X (.BinOp a .Mod b pos) (f2 lO fa fb):=Bu OI HG ha hb
def GE:D->D->Option D:=zk (fun _ _=>True) fun i j=>.bool (decide (i < j))
def EK:D->D->Option D:=zk (fun _ _=>True) fun i j=>.bool (decide (i<=j))
def vd:D->D->Option D:=zk (fun _ _=>True) fun i j=>.bool (decide (j < i))
def RV:D->D->Option D:=fun x y=>((zk (fun _ _=>True) fun i j=>.bool (decide (j<=i))) x y).or ((QW x y).map PyData.bool)
def aP:D->D->Option D:=fun x y=>(Lo x y).map PyData.bool
def Br:D->D->Option D:=fun x y=>(Ru x y).map PyData.bool
theorem Bk.u64(C:Bk X N sc k):X.A.units+64 < cLine:=C.room.units
theorem Bk.u66(C:Bk X N sc k):X.A.units+66 < cLine:=by have:=C.room.un;lia
theorem Bk.lt(C:Bk X N sc k)(ha:DE X a fa)(hb:DE X b fb):DE X (.Compare a [.Lt] [b] pos) (f2 GE fa fb):=jf HH g8 ha hb (dq _)
theorem Bk.le(C:Bk X N sc k)(ha:DE X a fa)(hb:DE X b fb):DE X (.Compare a [.LtE] [b] pos) (f2 EK fa fb):=jf IE g8 ha hb (dq _)
theorem Bk.gt(C:Bk X N sc k)(ha:DE X a fa)(hb:DE X b fb):DE X (.Compare a [.Gt] [b] pos) (f2 vd fa fb):=jf Nc g8 ha hb (dq _)
theorem Bk.ge(C:Bk X N sc k)(ha:DE X a fa)(hb:DE X b fb):DE X (.Compare a [.GtE] [b] pos) (f2 RV fa fb):=jf (M5.or (Kd C.room.units0)) (rD g8 lg) ha hb (dq _)
theorem Bk.eq(C:Bk X N sc k)(ha:DE X a fa)(hb:DE X b fb):DE X (.Compare a [.Eq] [b] pos) (f2 aP fa fb):=jf (Hw C.u64) lg ha hb (dq _)
theorem Bk.ne(C:Bk X N sc k)(ha:DE X a fa)(hb:DE X b fb):DE X (.Compare a [.NotEq] [b] pos) (f2 Br fa fb):=jf (Iz C.u64) lg ha hb (dq _)
theorem Bk.tlt(C:Bk X N sc k)(ha:DE X a fa)(hb:DE X b fb):DT X (.Compare a [.Lt] [b] pos) (fB (f2 GE fa fb)):=jl HH g8 ha hb (dq _)
theorem Bk.tle(C:Bk X N sc k)(ha:DE X a fa)(hb:DE X b fb):DT X (.Compare a [.LtE] [b] pos) (fB (f2 EK fa fb)):=jl IE g8 ha hb (dq _)
theorem Bk.tgt(C:Bk X N sc k)(ha:DE X a fa)(hb:DE X b fb):DT X (.Compare a [.Gt] [b] pos) (fB (f2 vd fa fb)):=jl Nc g8 ha hb (dq _)
theorem Bk.tge(C:Bk X N sc k)(ha:DE X a fa)(hb:DE X b fb):DT X (.Compare a [.GtE] [b] pos) (fB (f2 RV fa fb)):=jl (M5.or (Kd C.room.units0)) (rD g8 lg) ha hb (dq _)
theorem Bk.teq(C:Bk X N sc k)(ha:DE X a fa)(hb:DE X b fb):DT X (.Compare a [.Eq] [b] pos) (fB (f2 aP fa fb)):=jl (Hw C.u64) lg ha hb (dq _)
theorem Bk.tne(C:Bk X N sc k)(ha:DE X a fa)(hb:DE X b fb):DT X (.Compare a [.NotEq] [b] pos) (fB (f2 Br fa fb)):=jl (Iz C.u64) lg ha hb (dq _)
def ke:D->Option Int->Option Int->Option D|.tuple ds,lo,hi=>some (.tuple (cut ds lo hi))|.list ds,lo,hi=>some (.list (cut ds lo hi))|_,_,_=>none
theorem Bk.cut(C:Bk X N sc k){lo hi:Option Expr}{fl fh:Env->Option (Option Int)}(ha:DE X a fa)(hl:DO X lo fl)(hh:DO X hi fh):DE X (.Subscript a (.Slice lo hi none p2) pos) (pE ke fa fl fh):=bf (JR (OG.or Mz) ha hl hh) fun σ H Q ⟨HF,ρ,d,sm,eo,hf,q⟩=>by
 obtain⟨x,hx,hf⟩:=bs hf
 obtain⟨l,hl,hf⟩:=bs hf
 obtain⟨u,hu,hf⟩:=bs hf
 refine⟨HF,ρ,x,sm,eo,hx,fun v1 H1 HF1 g1 r1=>⟨HF1,ρ,l,g1.fh,eo.mono g1.ff,hl,fun H2 HF2 g2=>⟨HF2,ρ,u,g2.fh,eo.mono (g1.ff.trans g2.ff),hu,fun H3 HF3 g3=>?_⟩⟩⟩
 have G:=(g1.trans g2).trans g3
 have r3:=r1.mono (g2.ff.trans g3.ff)
 cases x<;>try cases hf
 ·simp only[Rep] at r3
  obtain⟨b,vs,rfl,hs,rr⟩:=r3
  refine .inr ⟨b,vs,rfl,G.fh.seq hs,fun p hp=>q _ _ _ (G.trans (.new G.fh hp)) ?_⟩
  simp only[Rep]
  exact⟨p,_,rfl,.inl (.inl aA),(qk rr l u).mono (dS (G.fh.free hp))⟩
 ·simp only[Rep] at r3
  obtain⟨b,vs,rfl,hs,rr⟩:=r3
  refine .inl ⟨b,vs,rfl,aD G.fh hs,fun e=>q _ H3 HF3 G ?_,fun p hp=>q _ _ _ (G.trans (.new G.fh hp)) (eF (G.fh.free hp) (qk rr l u))⟩
  simp only[Rep]
  refine⟨b,vs,rfl,hs,?_⟩
  have:=qk rr l u
  rw[e] at this
  exact this
theorem Jk:bootBuiltins "len"=some (.builtin "len"):=by decide +kernel
theorem td:bootBuiltins "isinstance"=some (.builtin "isinstance"):=by decide +kernel
theorem JD:bootBuiltins "tuple"=some (.type "tuple"):=by decide +kernel
theorem KP:bootBuiltins "list"=some (.type "list"):=by decide +kernel
theorem z7:bootBuiltins "range"=some (.type "range"):=by decide +kernel
theorem NI:bootBuiltins "all"=some (.builtin "all"):=by decide +kernel
theorem Od:bootBuiltins "set"=some (.type "set"):=by decide +kernel
theorem og:bootBuiltins "sorted"=some (.builtin "sorted"):=by decide +kernel
theorem wq:bootBuiltins "enumerate"=some (.type "enumerate"):=by decide +kernel
theorem Ng:bootBuiltins "zip"=some (.type "zip"):=by decide +kernel
end
abbrev cn(f:Env->Option (List D)):Env->Option D:=fun ρ=>(f ρ).map PyData.list
abbrev bw:List D->Option D:=fun ds=>(cK ds).map PyData.tuple
section
variable {X:Cx}{N:List Str}{sc:Scope}{k:Nat}
theorem Bk.locl(C:Bk X N sc k)(h:decide (sc.names.lookup x=some .local)=true):X.env.scope.names.lookup x=some .local:=by
 rcases C.tb x _ (yQ h) with q|⟨q,_⟩
 ·exact q
 ·cases q
def isStar:Expr->Bool|.Starred ..=>true|_=>false
theorem bx(h:isStar e=false):starEach (e::es) env=(false,eval e env)::starEach es env:=by
 cases e<;>first|rfl|cases h
theorem Nt(he:DE X e f)(hs:DA X es g)(h:isStar e=false:=by rfl):DA X (e::es) (aa f g):=Dp he hs (bx h)
theorem qo:swapsWith (.ListComp elt gens scope pos) (some (.Name x py)) line env=pure (env.blockKind == .function&&env.kindOf x == some .local && py.line == pos.line
     &&!(scope.names.any fun (n,k)=>n == x&&(k == .local || k == .cell))):=rfl
theorem Nd(h:env.scope.kind=.function):env.blockKind=.function:=by unfold PySem.Env.blockKind;rw[h];rfl
theorem Bk.swap(C:Bk X N sc k)(h:decide (sc.names.lookup x=some .local)=true)(h2:(py.line == pos.line&&!(scope.names.any fun (n,k)=>n == x&&(k == .local || k == .cell)))=true) :
  swapsWith (.ListComp elt gens scope pos) (some (.Name x py)) line X.env=pure true:=by
 rw[qo,Nd C.kd,show X.env.kindOf x=some .local from C.locl h]
 rw[Bool.and_assoc,h2]
 rfl
theorem Bk.noswap(C:Bk X N sc k)(h:decide (sc.names.lookup x=some .cell)=true) :
  swapsWith (.ListComp elt gens scope pos) (some (.Name x py)) line X.env=pure false:=by
 have q:X.env.kindOf x=some .cell:=by
  rcases C.tb x _ (yQ h) with q|⟨q,_⟩
  ·exact q
  ·cases q
 rw[qo,q,Nd C.kd]
 rfl
end
section
variable {K:W.Frag}
structure aM(K:W.Frag)(x:Str)(st:Stmt)(ps:List Str):Prop where
 ex:∃ (f:Addr) (fd:FuncData),W.nsIn K mainGlobals x=some (some (.ref f))/\Ie K x x st f fd/\Binds K fd ps []
structure bO(K:W.Frag)(mg:Str->Option Value)(x:Str)(st:Stmt)(ps:List Str):Prop where
 ex:∃ (f:Addr) (fd:FuncData),mg x=some (.ref f)/\Ie K x x st f fd/\Binds K fd ps []
theorem aM.mg{h:Heap}{mg:Str->Option Value}{x:Str}{st:Stmt}{ps:List Str}(D:aM K x st ps)(X:K.In h)(G:h.Ns mainGlobals mg):bO K mg x st ps:=by
 obtain⟨f,fd,a,b,c⟩:=D.ex
 exact⟨f,fd,W.mg_of X G a,b,c⟩
def fY(st:Stmt)(ps:List Str):Prop:=∀ (x qual:Str) (kV doc pm:Value) (an:Option Addr) (cdv ct:Value) (us:List Value),us.length=ps.length->bindArgs (W.fnOf x qual (gK st) (bB st) (aj st) .none kV doc pm an cdv ct) ⟨us,[]⟩=pure (ps.zip us)
theorem Q5{st:Stmt}{f:Addr}{kV doc pm cdv ct:Value}(hb:fY st ps)(a:W.nsIn K mainGlobals x=some (some (.ref f)))(l:K.lookup f=some ⟨oc,od,.func (W.fnOf x x (gK st) (bB st) (aj st) .none kV doc pm an cdv ct),osl⟩)
  (c:W.codeIn K cdv x=true) (k:W.keepIn K (.ref f)=true):aM K x st ps:=⟨f,_,a,wc (st:=st) l c k,(wc (st:=st) l c k).binds fun kV doc pm an cdv ct us h=>hb _ _ kV doc pm an cdv ct us h⟩
structure pb(K:W.Frag)(x:Str)(st:Stmt)(ps:List Str):Prop where
 ex:∃ (f:Addr) (fd:FuncData) (c P:Addr),W.nsIn K mainGlobals x=some (some (.ref f))/\Ie K x x st f fd/\Binds K fd ps []/\fd.code=.ref c/\W.codeHdIn K c P=true
structure Hq(K:W.Frag)(mg:Str->Option Value)(x:Str)(st:Stmt)(ps:List Str):Prop where
 ex:∃ (f:Addr) (fd:FuncData) (c P:Addr),mg x=some (.ref f)/\Ie K x x st f fd/\Binds K fd ps []/\fd.code=.ref c/\W.codeHdIn K c P=true
theorem pb.mg{h:Heap}{mg:Str->Option Value}{x:Str}{st:Stmt}{ps:List Str}(D:pb K x st ps)(X:K.In h)(G:h.Ns mainGlobals mg):Hq K mg x st ps:=by
 obtain⟨f,fd,c,P,a,b⟩:=D.ex
 exact⟨f,fd,c,P,W.mg_of X G a,b⟩
def G9(K:W.Frag)(c:Addr):Addr:=match K.lookup c with
 | some ⟨_,_,.fields vs,_⟩=>(match (vs[11]?:Option Value) with|some (.ref P)=>P|_=>0)
 | _=>0
theorem Qi{st:Stmt}{f c:Addr}{kV doc pm ct:Value}(hb:fY st ps)(a:W.nsIn K mainGlobals x=some (some (.ref f)))(l:K.lookup f=some ⟨oc,od,.func (W.fnOf x x (gK st) (bB st) (aj st) .none kV doc pm an (.ref c) ct),osl⟩)
  (cd:W.codeIn K (.ref c) x=true) (k:W.keepIn K (.ref f)=true) (hh:W.codeHdIn K c (G9 K c)=true):pb K x st ps:=⟨f,_,c,G9 K c,a,wc (st:=st) l cd k,(wc (st:=st) l cd k).binds fun kV doc pm an cdv ct us h=>hb _ _ kV doc pm an cdv ct us h,rfl,hh⟩
theorem O9(h:(cB.all fun x=>match W.nsIn K mainGlobals x with|some none=>true|_=>false)=true):∀x∈cB,W.nsIn K mainGlobals x=some none:=by
 intro x hx
 have:=List.all_eq_true.mp h x hx
 split at this
 ·assumption
 ·cases this
theorem CN{H:Hp}{a:Addr}{m:List D->Option D}(hS:ig K H a (ns.map V.int))(hT:eu K H)(h:m [.list (ns.map PyData.int)]=some (.bool true)){X:_}:P9 K 1 m [.ref a] H (fun v _=>v=.bl true) X:=by
 refine⟨H,[.list (ns.map PyData.int)],.bool true,.refl _,hT,aw.cons ?_ aw.nil,rfl,h,fun v H' HF' G r=>by simpa only[Rep] using r⟩
 simp only[Rep]
 refine⟨a,_,rfl,hS,?_⟩
 clear h hS hT
 induction ns with
 | nil=>exact aw.nil
 | cons n ns ih=>exact aw.cons (by simp[Rep]) ih
end
theorem Sw{X:Cx}(h:isStar e=false)(he:DE X e f)(hs:DA X es g):DA X (e::es) (aa f g):=Nt he hs h
section
variable {X:Cx}{N:List Str}{sc:Scope}{k:Nat}{HF₀ H₀:Hp}{e c:Expr}{es:List Expr}{fs:Env->Option (List D)}{pos p:Pos}
def Rt:ak->Option Out:=fun _=>none
theorem Qn{st:Stmt}:DS X HF₀ H₀ st Rt:=fun pins s σ H E I ⟨HF,ρ,o,S,hg,q⟩=>by cases hg
def rP(f:Env->Option D):ak->Option Out:=fun ρ=>(f (aI ρ)).map fun _=>.nx ρ
theorem Lq(hs:swapsWith e none pos.line X.env=pure false)(h:DE X e f):DS X HF₀ H₀ (.Expr e pos) (rP f):=cH (mL h hs) fun E σ H ⟨HF,ρ,o,S,hg,q⟩=>by
 obtain⟨d,h,rfl⟩:=ah hg
 exact⟨H,aI ρ,d,.refl _,S.all,h,fun v H' HF' G r=>q σ H' HF (S.step G.hh) (.refl _)⟩
def K7(t:Env->Option Bool)(gb:ak->Option Out):Nat->ak->Option Out
 | 0,_=>none
 | n+1,ρ=>(t (aI ρ)).bind fun b=>if b=true then (gb ρ).bind fun|.nx ρ'=>K7 t gb n ρ'|.rt d=>some (.rt d) else some (.nx ρ)
theorem Hn(n:Nat){body:List Stmt}{t:Env->Option Bool}{gb:ak->Option Out}(hp:PassesOwn (model X.prog X.w) X.A X.env X.xe)(hc:DT X c t)(hb:DV X HF₀ H₀ body gb):DS X HF₀ H₀ (.While c body [] pos) (K7 t gb n) :=
 cH (Ka hp hc hb) fun E σ H ⟨HF,ρ,o,S,hg,q⟩=>by
  refine⟨fun m σ' H'=>∃HF' ρ',jt X.K HF₀ H₀ HF' H' ρ' σ'/\aL HF HF'/\K7 t gb m ρ'=some o,⟨n,HF,ρ,S,.refl _,hg⟩,?_⟩
  rintro m σ' H' ⟨HF',ρ',S',s',hf⟩
  cases m with
  | zero=>cases hf
  | succ m =>
   unfold K7 at hf
   obtain⟨b,hb,hf⟩:=bs hf
   refine⟨H',aI ρ',b,.refl _,S'.all,hb,fun H1 HF1 G=>?_⟩
   cases b with
   | false =>
    rw[yN yZ] at hf ⊢
    cases hf
    exact q σ' H1 HF' (S'.step G.hh) s'
   | true =>
    rw[yL rfl] at hf ⊢
    obtain⟨o1,h2,hf⟩:=bs hf
    refine⟨fun σ2 H3=>∃HF3 ρ3,jt X.K HF₀ H₀ HF3 H3 ρ3 σ2/\aL HF HF3/\K7 t gb m ρ3=some o,fun σ2 H3 ⟨HF3,ρ3,a1,a2,a3⟩=>⟨m,kR _,HF3,ρ3,a1,a2,a3⟩,HF',ρ',o1,S'.step G.hh,h2,?_⟩
    cases o1 with
    | nx ρ2=>exact fun σ4 H4 HF4 S4 s4=>⟨HF4,ρ2,S4,s'.trans s4,hf⟩
    | rt d=>cases hf;exact q
def rH:List D->Option D
 | [.int a,.int b]=>some (.int (min a b))
 | [.int a,.int b,.int c]=>some (.int (min (min a b) c))
 | _=>none
theorem Ho(hc:X.calm=true):eT X (.builtin "min") (fun xs H Q=>(∃a b:Int,xs=[.int a,.int b]/\Q (.int (min a b)) H)\/(∃a b c:Int,xs=[.int a,.int b,.int c]/\Q (.int (min (min a b) c)) H)):=by
 intro pins s σ H xs us Q I r h
 have hh:X.A.handled=none:=I.ok.hd hc
 rcases h with ⟨a,b,rfl,q⟩|⟨a,b,c,rfl,q⟩
 ·cases r with
  | cons r1 r =>
   cases r with
   | cons r2 r =>
    cases r
    obtain⟨t,rfl⟩:=r1
    obtain⟨u,rfl⟩:=r2
    refine min_two_ints hh fun h' tk kp=>⟨.int (min a b),H,I.kept (t':=tk) kp,?_,q⟩
    by_cases h:b < a
    ·rw[yL h,show min a b=b by lia];exact⟨_,rfl⟩
    ·rw[yN h,show min a b=a by lia];exact⟨_,rfl⟩
 ·cases r with
  | cons r1 r =>
   cases r with
   | cons r2 r =>
    cases r with
    | cons r3 r =>
     cases r
     obtain⟨t,rfl⟩:=r1
     obtain⟨u,rfl⟩:=r2
     obtain⟨x,rfl⟩:=r3
     refine min_three_ints hh fun h' tk kp=>⟨.int (min (min a b) c),H,I.kept (t':=tk) kp,?_,q⟩
     by_cases h:b < a
     ·rw[yL h]
      by_cases h2:c < b
      ·rw[yL h2,show min (min a b) c=c by lia];exact⟨_,rfl⟩
      ·rw[yN h2,show min (min a b) c=b by lia];exact⟨_,rfl⟩
     ·rw[yN h]
      by_cases h2:c < a
      ·rw[yL h2,show min (min a b) c=c by lia];exact⟨_,rfl⟩
      ·rw[yN h2,show min (min a b) c=a by lia];exact⟨_,rfl⟩
theorem Bo{K:W.Frag}{H:Hp}{d:D}{v:V}(r:Rep K H d v):∀ {ds:List D}{vs:List V}(j:Nat),aw K H ds vs->aw K H (ds.set j d) (vs.set j v)
 | [],vs,j,h=>by rw[h.nil_inv];exact aw.nil
 | x::ds,vs,j,h=>by
  obtain⟨u,us,rfl,a,b⟩:=h.cons_inv
  cases j with
  | zero=>exact aw.cons r b
  | succ j=>exact aw.cons a (Bo r j b)
def vq(i:Nat)(fz:List Nat)(fk f:Env->Option D):ak->Option Out:=fun ρ=>(l9 fz f ρ).bind fun p=>(fk (aI p.2)).bind fun kd=>match kd with
 | .int k=>pD i (fun ds=>(Km ds.length k).map fun j=>ds.set j p.1) p.2
 | _=>none
theorem Js(i:Nat)(fz:List Nat){e2:Expr}{px spos:Pos}{fk f:Env->Option D}(hN:X.N[i]?=some x)(hv:Mv X.env.scope x)(hk:DE X e fk)(h:DE X e2 f)(hd:(x == ("__debug__":Str))=false:=by decide)(hcd:(x == ("__classdict__":Str))=false:=by decide)
  (ha:∀v,assign (.Subscript (.Name x px) e spos) X.env v=(do
   let ov <- holding [v] (eval (.Name x px) X.env)
   let iv <- holding [v,ov] (eval e X.env)
   standAt spos
   holding [v,ov,iv] (setItem ov iv v)
   release [v,ov,iv] []):=by intro _;rfl)
  (hs:swapsWithSole [.Subscript (.Name x px) e spos] e2 pos.line X.env=pure false:=by rfl) (hw:swappedStores [.Subscript (.Name x px) e spos] e2 X.env=pure none:=by rfl)
  (h1:(assignEach [.Subscript (.Name x px) e spos] X.env).map (·.2)=[assign (.Subscript (.Name x px) e spos) X.env]:=by rfl):DS X HF₀ H₀ (.Assign [.Subscript (.Name x px) e spos] e2 pos) (vq i fz fk f) :=
 cH (Jr h (Ou (kg hN hv hd hcd) hk set_list ha) hs hw h1) fun E σ H ⟨HF,ρ,o,S,hg,q⟩=>by
  obtain⟨⟨d,ρ'⟩,h1,hg⟩:=bs hg
  obtain⟨kd,h2,hg⟩:=bs hg
  cases kd<;>try cases hg
  rename_i k
  obtain⟨ds,es,h3,h4,rfl⟩:=lE hg
  obtain⟨j,hj,rfl⟩:=ah h4
  refine oG S h1 fun v H1 HF1 s1 S1 s2 r=>?_
  obtain⟨a,vs,e1,e2,e3,e5,e4⟩:=S1.own i ds h3
  refine⟨.ref a,e1,H1,aI ρ',.int k,.refl _,S1.all,h2,fun kv H2 HF2 G rk=>?_⟩
  simp only[Rep] at rk
  have S2:=S1.step G.hh
  obtain⟨a',vs',f1,f2,f3,f5,f4⟩:=S2.own i ds h3
  rw[e1] at f1;cases f1
  exact⟨a,vs',k,j,rfl,rk,f2,by rw[f4.length];exact hj,q σ _ HF1 (S2.mut h3 e1 f2 (Bo r j f4)) s1⟩
end
section
variable {X:Cx}{N:List Str}{sc:Scope}{k:Nat}{HF₀ H₀:Hp}{a b e c:Expr}{es:List Expr}{fa fb:Env->Option D}{fs:Env->Option (List D)}{pos p:Pos}
def QA:D->Bool|.none=>true|_=>false
theorem pR{HF:Hp}{d:D}{v:V}(r:Rep K HF d v):decide (v=.non)=QA d:=by
 cases d<;>simp only[Rep] at r<;>first
  | (subst r;rfl)
  | (obtain⟨a,vs,rfl,_⟩:=r;rfl)
  | exact r.elim
def Az:D->D->Option D:=fun x y=>if QA y=true then some (.bool (QA x)) else none
def oS:D->D->Option D:=fun x y=>if QA y=true then some (.bool (!QA x)) else none
theorem Df:fM K (fun x y H Q=>y=.non/\Q (.bl (decide (x=.non))) H) Az:=by
 intro HF H x y v1 v2 d Q sm r1 r2 hg q
 unfold Az at hg
 split at hg
 ·rename_i h
  cases hg
  have h2:=pR r2
  rw[h,zJ] at h2
  refine⟨h2,?_⟩
  rw[pR r1]
  exact q _ H HF (.refl sm) (by simp[Rep])
 ·cases hg
theorem Bs:fM K (fun x y H Q=>y=.non/\Q (.bl (!decide (x=.non))) H) oS:=by
 intro HF H x y v1 v2 d Q sm r1 r2 hg q
 unfold oS at hg
 split at hg
 ·rename_i h
  cases hg
  have h2:=pR r2
  rw[h,zJ] at h2
  refine⟨h2,?_⟩
  rw[pR r1]
  exact q _ H HF (.refl sm) (by simp[Rep])
 ·cases hg
theorem Bk.is0(C:Bk X N sc k)(ha:DE X a fa)(hb:DE X b fb):DE X (.Compare a [.Is] [b] pos) (f2 Az fa fb):=jf Jy Df ha hb (dq _)
theorem Bk.not0(C:Bk X N sc k)(ha:DE X a fa)(hb:DE X b fb):DE X (.Compare a [.IsNot] [b] pos) (f2 oS fa fb):=jf ER Bs ha hb (dq _)
theorem Bk.tis0(C:Bk X N sc k)(ha:DE X a fa)(hb:DE X b fb):DT X (.Compare a [.Is] [b] pos) (fB (f2 Az fa fb)):=jl Jy Df ha hb (dq _)
theorem Bk.tnot0(C:Bk X N sc k)(ha:DE X a fa)(hb:DE X b fb):DT X (.Compare a [.IsNot] [b] pos) (fB (f2 oS fa fb)):=jl ER Bs ha hb (dq _)
theorem N1(hc:X.calm=true)(B:pN X "min" (.builtin "min"))(he:starEach (e::es) X.env=(false,eval e X.env)::starEach es X.env)(hpl:(backTo pos (starEach es X.env)).any (·.1)=false)(ha:DA X (e::es) fs):DE X (.Call (.Name "min" p) (e::es) [] pos) (bA rH fs) :=
 k8 (Ho hc) (by
  intro HF H ds vs d Q sm r hg q
  unfold rH at hg
  split at hg
  ·cases hg
   obtain⟨v1,r1,rfl,a1,b1⟩:=r.cons_inv
   obtain⟨v2,r2,rfl,a2,b2⟩:=b1.cons_inv
   rw[b2.nil_inv]
   simp only[Rep] at a1 a2
   exact .inl ⟨_,_,by rw[a1,a2],q _ H HF (.refl sm) (by simp[Rep])⟩
  ·cases hg
   obtain⟨v1,r1,rfl,a1,b1⟩:=r.cons_inv
   obtain⟨v2,r2,rfl,a2,b2⟩:=b1.cons_inv
   obtain⟨v3,r3,rfl,a3,b3⟩:=b2.cons_inv
   rw[b3.nil_inv]
   simp only[Rep] at a1 a2 a3
   exact .inr ⟨_,_,_,by rw[a1,a2,a3],q _ H HF (.refl sm) (by simp[Rep])⟩
  ·cases hg) B ha (by decide) (by decide) he hpl
end
section
variable {X:Cx}{a b e c:Expr}{es:List Expr}{fa fb:Env->Option D}{fl fs:Env->Option (List D)}{pos p:Pos}
def Es(ds:List D):D->Option (List D)
 | .int k=>if BD k=true/\ds.length * k.toNat<=sizeLine then some (List.replicate k.toNat ds).flatten else none
 | _=>none
def m6(fl:Env->Option (List D))(fb:Env->Option D):Env->Option (List D):=fun ρ=>(fl ρ).bind fun ds=>(fb ρ).bind (Es ds)
theorem OS(ha:DF X a fl)(hb:DE X b fb):DF X (.BinOp a .Mult b pos) (m6 fl fb):=bf (ET Nk ha hb) fun σ H Q ⟨HF,ρ,d,sm,eo,hf,q⟩=>by
 obtain⟨ds,hx,hf⟩:=bs hf
 obtain⟨y,hy,hg⟩:=bs hf
 refine⟨HF,ρ,ds,sm,eo,hx,fun l vs H1 HF1 g1 h0 hn h1 r1=>⟨HF1,ρ,y,g1.fh,eo.mono g1.ff,hy,fun v2 H2 HF2 g2 r2=>?_⟩⟩
 cases y<;>try cases hg
 rename_i k
 have hg:(if BD k=true/\ds.length * k.toNat<=sizeLine then some (List.replicate k.toNat ds).flatten else none)=some d:=hg
 split at hg
 ·rename_i hz
  cases hg
  simp only[Rep] at r2
  have r1:=r1.mono g2.ff
  have G:=g1.trans g2
  have ok:=hz.1
  simp only[BD,zF,zJ] at ok
  exact⟨l,k,vs,rfl,r2,g2.hh _ _ h1,by lia,by lia,by rw[r1.length];exact hz.2,fun p hp=>q p _ _ HF2 (G.trans (.own G.fh hp)) (G.hh.free hp) (G.fh.free hp) aA (nz r1 _)⟩
 ·cases hg
end
section
variable {X:Cx}{e:Expr}{fs:Env->Option (List D)}{pos p:Pos}
theorem pj(ns:List Int):∀j:Nat,preSum (fun i=>ns.getD i 0) j=(ns.take j).sum
 | 0=>by simp[preSum]
 | j+1=>by
  rw[preSum,pj ns j,Zg,List.sum_append]
  congr 1
  rw[zG]
  cases ns[j]?<;>simp
theorem uY(val:Nat->Int)(B:Int)(h:∀i,-B<=val i/\val i<=B):∀j:Nat,-(B * j)<=preSum val j/\preSum val j<=B * j
 | 0=>by simp[preSum]
 | j+1=>by
  have ih:=uY val B h j
  have:=h j
  rw[preSum]
  have e:B * ((j+1:Nat):Int)=B * (j:Int)+B:=by rw[Int.natCast_add,Int.mul_add];simp
  rw[e]
  lia
def Oo(ns:List Int):Bool:=decide (ns.length<=1000)&&ns.all fun n=>decide (-1000000<=n)&&decide (n<=1000000)
theorem Py(h:Oo ns=true):ns.length<=1000/\∀i,-1000000<=ns.getD i 0/\ns.getD i 0<=1000000:=by
 unfold Oo at h
 rw[zF,zJ,xG] at h
 refine⟨h.1,fun i=>?_⟩
 rw[zG]
 cases e:ns[i]? with
 | none=>simp
 | some n =>
  have:=h.2 n (qB e)
  simpa using this
theorem pV{its:List Value}(r:aE (ns.map V.int) its){i:Nat}{v:Value}(h:its.toArray[i]?=some v):∃t,v=.int (ns.getD i 0) t:=by
 rw[List.getElem?_toArray] at h
 induction ns generalizing its i with
 | nil=>cases r;simp at h
 | cons n ns ih =>
  cases r with
  | cons r1 rr =>
   cases i with
   | zero =>
    simp only[xQ,yK] at h
    subst h
    obtain⟨t,rfl⟩:=r1
    exact⟨t,rfl⟩
   | succ i =>
    simp only[yY] at h
    exact ih rr h
theorem Cp(hc:X.calm=true):eT X (.builtin "sum") (fun xs H Q=>∃ (a:Addr) (ns:List Int),xs=[.ref a]/\(ig X.K H a (ns.map V.int)\/iN X.K H a (ns.map V.int))/\Oo ns=true/\Q (.int ns.sum) H):=by
 intro pins s σ H xs us Q I r h
 obtain⟨a,ns,rfl,hq,hok,q⟩:=h
 obtain⟨u,rfl,rx⟩:=vals1 r
 cases rx
 have hh:X.A.in1.handled=none:=I.ok.hd hc
 obtain⟨hlen,hbd⟩:=Py hok
 have hin:∀n:Nat,n<=1000->∀j,j < n->InLong ((fun i=>ns.getD i 0) j)/\InLong (preSum (fun i=>ns.getD i 0) (j+1)):=fun n hn j hj=>by
  have h1:=hbd j
  have h2:=uY (fun i=>ns.getD i 0) 1000000 hbd (j+1)
  refine⟨⟨?_,?_⟩,?_,?_⟩
  ·show -(2 ^ 63)<=ns.getD j 0
   lia
  ·show ns.getD j 0 < 2 ^ 63
   lia
  ·lia
  ·lia
 have hsum:preSum (fun i=>ns.getD i 0) ns.length=ns.sum:=by rw[pj,List.take_length]
 rcases hq with hq|hq
 ·obtain⟨its,rv,pl,hz⟩:=I.list hq
  have hl:its.length=ns.length:=by rw[<- rv.length,zD]
  refine call_sum_walk (qK pl.isList ?_)
  obtain⟨o,ho,hcl,n,hd⟩:=pl.isList
  have hlt:=zY ho
  have hne:a≠s.heap.objs.size:=yR hlt
  refine⟨_,_,_,_,_,_,fun i=>ns.getD i 0,rfl,Walks.list hh s.heap.objs.size a hne its.toArray,⟨⟨_,zX _ rfl,rfl,rfl⟩,pl.isList.push _⟩,fun b hb=>?_,fun i v hP=>pV rv hP,by rw[zH,hl];exact hin _ hlen,fun h' tk t' kp=>?_⟩
  ·show b < (s.heap.push _).objs.size
   rw[xJ]
   simp only[zQ,yF,xU] at hb
   rcases hb with rfl|rfl
   ·exact kR _
   ·exact jO hlt
  ·refine⟨.int ns.sum,H,I.kept (t':=tk) fun b o' e=>kp b o' (by simp;exact yR (zY e)) (zU _ e),⟨t',?_⟩,q⟩
   rw[zH,hl,hsum]
 ·obtain⟨its,rv,pl,hz⟩:=I.tuple hq
  have pl:s.heap.IsTuple a its.toArray:=pl
  have hl:its.length=ns.length:=by rw[<- rv.length,zD]
  refine call_sum_walk (xR pl ?_)
  obtain⟨o,ho,hcl,n,hd⟩:=id pl
  have hlt:=zY ho
  have hne:a≠s.heap.objs.size:=yR hlt
  refine⟨_,_,_,_,_,_,fun i=>ns.getD i 0,rfl,Walks.tuple hh s.heap.objs.size a hne its.toArray,⟨⟨_,zX _ rfl,rfl,rfl⟩,pl.push _⟩,fun b hb=>?_,fun i v hP=>pV rv hP,by rw[zH,hl];exact hin _ hlen,fun h' tk t' kp=>?_⟩
  ·show b < (s.heap.push _).objs.size
   rw[xJ]
   simp only[zQ,yF,xU] at hb
   rcases hb with rfl|rfl
   ·exact kR _
   ·exact jO hlt
  ·refine⟨.int ns.sum,H,I.kept (t':=tk) fun b o' e=>kp b o' (by simp;exact yR (zY e)) (zU _ e),⟨t',?_⟩,q⟩
   rw[zH,hl,hsum]
end
section
variable {X:Cx}{e:Expr}{fs:Env->Option (List D)}{pos p:Pos}
def sZ:List D->Option D:=fun ds=>(cK ds).bind fun es=>(intsOf es).bind fun ns=>if Oo ns=true then some (.int ns.sum) else none
theorem lu{K:W.Frag}{H:Hp}:∀ {ns:List Int}{vs:List V},aw K H (ns.map PyData.int) vs->vs=ns.map V.int
 | [],vs,h=>h.nil_inv
 | b::bs,vs,h=>by
  obtain⟨v,r,rfl,a,c⟩:=h.cons_inv
  simp only[Rep] at a
  rw[a,lu c]
  rfl
theorem Ol(hc:X.calm=true)(B:pN X "sum" (.builtin "sum"))(he:starEach [e] X.env=(false,eval e X.env)::starEach [] X.env)(ha:DA X [e] fs):DE X (.Call (.Name "sum" p) [e] [] pos) (bA sZ fs) :=
 k8 (Cp hc) (by
  intro HF H ds vs d Q sm r hg q
  obtain⟨es,h1,hg⟩:=bs hg
  obtain⟨ns,h2,hg⟩:=bs hg
  have hg:(if Oo ns=true then some (PyData.int ns.sum) else none)=some d:=hg
  split at hg
  ·rename_i hok
   cases hg
   have e2:=dN h2
   subst e2
   rcases gM h1 with rfl|rfl
   all_goals
    obtain⟨v,r',rfl,a,b⟩:=r.cons_inv
    rw[b.nil_inv]
    simp only[Rep] at a
    obtain⟨p,us,rfl,h,rr⟩:=a
    have:=lu rr
    subst this
   ·exact⟨p,ns,rfl,.inr (aD sm h),hok,q _ H HF (.refl sm) (by simp[Rep])⟩
   ·exact⟨p,ns,rfl,.inl (sm.seq h),hok,q _ H HF (.refl sm) (by simp[Rep])⟩
  ·cases hg) B ha (by decide) (by decide) he rfl
end
section
variable {X:Cx}
def PN(i:Int):Value->Bool|.int a _=>a == i|_=>false
theorem F4:Pc X "list.index" (fun x vs H Q=>∃ (l:Addr) (ns:List Int) (i:Int) (j:Nat),x=.ref l/\vs=[.int i]/\ig X.K H l (ns.map V.int)/\ns[j]?=some i/\(∀m,m < j->ns[m]?≠some i)/\Q (.int j) H):=by
 intro pins s σ H x vs v us Q I rx rv h
 obtain⟨l,ns,i,j,rfl,rfl,hq,hj,hno,q⟩:=h
 cases rx
 obtain⟨u,rfl,ru⟩:=rv.one
 obtain⟨t,rfl⟩:=ru
 obtain⟨its,r,pl,hz⟩:=I.list hq
 obtain⟨⟨cls,dd,data,sl⟩,ho,hc,n,hd⟩:=id pl.isList
 simp only at hc hd
 subst hc hd
 have hl:its.length=ns.length:=by rw[<- r.length,zD]
 have hj1:j < ns.length:=(List.getElem?_eq_some_iff.mp hj).1
 have hz':ns.length<=sizeLine:=by rw[zD] at hz;exact hz
 have hs63:(sizeLine:Nat) < 2 ^ 62:=by decide
 have at_:∀m (hm:m < its.toArray.size),∃t',its.toArray[m]=.int (ns.getD m 0) t':=fun m hm=>pV r (jZ hm)
 refine qX F.slot_list_index ⟨_,ho,rfl⟩ F.entry_list_index (F.args_list_index_2 _ _) (PySem.SeqAt.list_indexAt l its.toArray n dd sl (.int i t) (PN i) j (by rw[zH,hl];exact hj1) (by lia) ?_ ?_) ⟨ho,?_,?_⟩
 ·obtain⟨t',e⟩:=at_ j (by rw[zH,hl];exact hj1)
  rw[e,PN,zG,hj]
  simp
 ·intro m hm hmj
  obtain⟨t',e⟩:=at_ m hm
  have hm':m < ns.length:=by lia
  have:=hno m hmj
  rw[e,PN,zG]
  rw[zK hm'] at this ⊢
  simp only[qG,beq_eq_false_iff_ne]
  exact fun h=>this (by rw[h])
 ·intro y hy
  obtain⟨m,hm,rfl⟩:=Array.getElem_of_mem hy
  obtain⟨t',e⟩:=at_ m hm
  rw[e]
  exact PySem.SeqAt.EqAt.int_int _ _ _ _
 ·exact⟨.int j,H,I.tok _,⟨_,rfl⟩,q⟩
def AL(i:Int):List Int->Option Nat
 | []=>none
 | n::ns=>if n=i then some 0 else (AL i ns).map (·+1)
theorem oC{i:Int}:∀ {ns:List Int}{j:Nat},AL i ns=some j->ns[j]?=some i/\∀m,m < j->ns[m]?≠some i
 | [],j,h=>by cases h
 | n::ns,j,h=>by
  unfold AL at h
  split at h
  ·cases h
   rename_i e
   exact⟨by rw[e];rfl,fun m hm=>absurd hm (vX _)⟩
  ·rename_i e
   obtain⟨k,hk,rfl⟩:=ah h
   obtain⟨a,b⟩:=oC hk
   refine⟨by simpa using a,fun m hm=>?_⟩
   cases m with
   | zero=>simpa using e
   | succ m=>simpa using b m (by lia)
def R4:D->D->Option D
 | .list es,.int i=>(intsOf es).bind fun ns=>(AL i ns).map fun j=>.int ((j:Nat):Int)
 | _,_=>none
theorem He{o e:Expr}{apos cpos:Pos}{fo fe:Env->Option D}(hbase:attributeBase o "index" X.env (eval o X.env)=eval o X.env)
  (hfew:((backTo cpos (starEach [e] X.env)).all (fun x=>!x.1)&&(backToKw cpos (keywordEach [] X.env)).all (fun x=>x.1.isSome)&&decide ([e].length+([]:List Keyword).length+(if ([]:List Keyword).isEmpty then 0 else 1) < 30))=true)
  (hline:(apos.endLine == cpos.line)=true) (hs:starEach [e] X.env=(false,eval e X.env)::starEach [] X.env) (ho:DE X o fo) (he:DE X e fe):DE X (.Call (.Attribute o "index" apos) [e] [] cpos) (f2 R4 fo fe) :=
 bf (so qN PySem.F.slot_list_index PySem.F.type_list_index F4 ho (cq he eG hs) hbase hfew hline hs rfl) fun σ H Q ⟨HF,ρ,d,sm,eo,hf,q⟩=>by
  obtain⟨x,hx,hf⟩:=bs hf
  obtain⟨y,hy,hg⟩:=bs hf
  refine⟨HF,ρ,x,sm,eo,hx,fun v1 H1 HF1 g1 r1=>?_⟩
  cases x<;>try cases hg
  cases y<;>try cases hg
  rename_i es i
  obtain⟨ns,h1,hg⟩:=bs hg
  obtain⟨j,h2,rfl⟩:=ah hg
  have e1:=dN h1
  subst e1
  simp only[Rep] at r1
  obtain⟨l,us,rfl,hq,rr⟩:=r1
  have:=lu rr
  subst this
  refine⟨.inl ⟨rfl,_,g1.fh.seq hq⟩,HF1,ρ,.int i,g1.fh,eo.mono g1.ff,hy,fun v2 H2 HF2 g2 r2=>?_⟩
  simp only[Rep] at r2
  obtain⟨a,b⟩:=oC h2
  exact⟨l,ns,i,j,rfl,by rw[r2],g2.fh.seq (g2.ff.seq hq),a,b,q _ H2 HF2 (g1.trans g2) (by simp[Rep])⟩
end
end Dl
namespace Tx
open PySem PySem.SeqAt PyProof.Rows
open PySem.AutoSeq1 (wpAny_loadPart')
open PySem.MeetsSeq PySem.MeetsSeq2 PySem.MeetsSeq3
theorem wpR{M:Model}{A:Around}{E:Value->Shared->Prop}{s:Shared}{β:Type}(f:Nat->β->Sem (ForInStep β))(I:List Nat->β->Shared->Prop)(Q:β->Shared->Prop)
  (turn:∀x rest b s,I (x::rest) b s->wpAny M A (f x b) (fun r s'=>match r with|.yield b'=>I rest b' s'|.done b'=>Q b' s') E s)
  (fin:∀b s,I [] b s->Q b s) (n:Nat) (b:β) (h:I (List.range' 0 n 1) b s):wpAny M A (forIn [:n] b f) Q E s:=by
 have e:forIn [:n] b f=forIn (List.range' 0 n 1) b f:=by
  rw[Std.Legacy.Range.forIn_eq_forIn_range']
  simp[Std.Legacy.Range.size]
 rw[e]
 exact wpAny_forIn_list f I Q turn fin _ b h
theorem tuple_indexAt(l:Addr)(items:Array Value)(n:Nat)(dd:Option Addr)(sl:Array (Option Value))(x:Value)(e:Value->Bool)(j:Nat)(hj:j < items.size)(h1:e items[j]=true)(h2:∀m (hm:m < items.size),m < j->e items[m]=false) :
  Meets (Builtin.«tuple.index» ⟨[.ref l,x],[]⟩)
   (fun A R s=>s.heap.get? l=some { cls:=.type "tuple",dict:=dd,data:=.seq items n,slots:=sl }/\(∀y,y∈items->EqAt A.in1 s y x (e y))/\R (.ok (.ret (.int (j:Nat) s.toks))) { s with toks:=s.toks+1 }) :=
 .of_wp fun prog w A R s h=>by
  obtain⟨hp,g,d,tk,os⟩:=s;obtain⟨hl,he,h⟩:=h
  wp_walk using wpAny_loadPart' hl,wpR _ (fun rest b s'=>s'=⟨hp,g,d,tk,os⟩/\b.1=none/\∃i,i<=j/\rest=List.range' i (items.size - i) 1) _
  case turn =>
   rintro i rest b s' ⟨rfl,hb,i',hi,e1⟩
   have hlt:i' < items.size:=by lia
   rw[show items.size - i'=(items.size - (i'+1))+1 by lia,vL] at e1
   injection e1 with e2 e3
   subst e2
   subst e3
   simp only[jZ hlt]
   refine zV (he _ (Array.getElem_mem hlt) prog w _ _ ?_)
   by_cases hij:i=j
   ·subst hij
    rw[h1]
    wp_walk
    exact⟨_,rfl,h⟩
   ·rw[h2 i hlt (by lia)]
    wp_walk
    exact⟨rfl,rfl,i+1,by lia,rfl⟩
  case fin =>
   rintro b s' ⟨rfl,hb,i,hi,e1⟩
   have:=jC List.length e1
   simp at this
   lia
  case h =>
   exact⟨rfl,rfl,0,xV _,by simp⟩
end Tx
namespace Dl
open PySem L2 PySem.Spec PyProof.Rows
variable {e:Expr}
section
variable {X:Cx}
theorem E9:Pc X "tuple.index" (fun x vs H Q=>∃ (l:Addr) (ns:List Int) (i:Int) (j:Nat),x=.ref l/\vs=[.int i]/\iN X.K H l (ns.map V.int)/\ns[j]?=some i/\(∀m,m < j->ns[m]?≠some i)/\Q (.int j) H):=by
 intro pins s σ H x vs v us Q I rx rv h
 obtain⟨l,ns,i,j,rfl,rfl,hq,hj,hno,q⟩:=h
 cases rx
 obtain⟨u,rfl,ru⟩:=rv.one
 obtain⟨t,rfl⟩:=ru
 obtain⟨its,r,pl,hz⟩:=I.tuple hq
 obtain⟨⟨cls,dd,data,sl⟩,ho,hc,n,hd⟩:=id pl
 simp only at hc hd
 subst hc hd
 have hl:its.length=ns.length:=by rw[<- r.length,zD]
 have hj1:j < ns.length:=(List.getElem?_eq_some_iff.mp hj).1
 have at_:∀m (hm:m < its.toArray.size),∃t',its.toArray[m]=.int (ns.getD m 0) t':=fun m hm=>pV r (jZ hm)
 refine qX F.slot_tuple_index ⟨_,ho,rfl⟩ F.entry_tuple_index (F.args_tuple_index_2 _ _) (Tx.tuple_indexAt l its.toArray n dd sl (.int i t) (PN i) j (by rw[zH,hl];exact hj1) ?_ ?_) ⟨ho,?_,?_⟩
 ·obtain⟨t',e⟩:=at_ j (by rw[zH,hl];exact hj1)
  rw[e,PN,zG,hj]
  simp
 ·intro m hm hmj
  obtain⟨t',e⟩:=at_ m hm
  have hm':m < ns.length:=by
   rw[zH] at hm
   lia
  have:=hno m hmj
  rw[e,PN,zG]
  rw[zK hm'] at this ⊢
  simp only[qG,beq_eq_false_iff_ne]
  exact fun h=>this (by rw[h])
 ·intro y hy
  obtain⟨m,hm,rfl⟩:=Array.getElem_of_mem hy
  obtain⟨t',e⟩:=at_ m hm
  rw[e]
  exact PySem.SeqAt.EqAt.int_int _ _ _ _
 ·exact⟨.int j,H,I.tok _,⟨_,rfl⟩,q⟩
theorem HW{t u:TE}(h:PE X e t)(g:PE X e u):PE X e (fun σ H Q=>t σ H Q\/u σ H Q):=fun pins s σ H Q I q=>q.elim (h pins s σ H Q I) (g pins s σ H Q I)
def mw:D->D->Option D
 | .list es,.int i=>(intsOf es).bind fun ns=>(AL i ns).map fun j=>.int ((j:Nat):Int)
 | .tuple es,.int i=>(intsOf es).bind fun ns=>(AL i ns).map fun j=>.int ((j:Nat):Int)
 | _,_=>none
theorem Fi{o e:Expr}{apos cpos:Pos}{fo fe:Env->Option D}(hbase:attributeBase o "index" X.env (eval o X.env)=eval o X.env)
  (hfew:((backTo cpos (starEach [e] X.env)).all (fun x=>!x.1)&&(backToKw cpos (keywordEach [] X.env)).all (fun x=>x.1.isSome)&&decide ([e].length+([]:List Keyword).length+(if ([]:List Keyword).isEmpty then 0 else 1) < 30))=true)
  (hline:(apos.endLine == cpos.line)=true) (hs:starEach [e] X.env=(false,eval e X.env)::starEach [] X.env) (ho:DE X o fo) (he:DE X e fe):DE X (.Call (.Attribute o "index" apos) [e] [] cpos) (f2 mw fo fe) :=
 bf (HW (He hbase hfew hline hs ho he) (so PySem.F.plainAttrs_tuple PySem.F.slot_tuple_index PySem.F.type_tuple_index E9 ho (cq he eG hs) hbase hfew hline hs rfl)) fun σ H Q ⟨HF,ρ,d,sm,eo,hf,q⟩=>by
  obtain⟨x,hx,hf⟩:=bs hf
  obtain⟨y,hy,hg⟩:=bs hf
  cases x<;>try cases hg
  ·cases y<;>try cases hg
   rename_i es i
   exact .inl ⟨HF,ρ,d,sm,eo,by simp only[f2,hx,hy,zA];exact hg,q⟩
  ·cases y<;>try cases hg
   rename_i es i
   obtain⟨ns,h1,hg⟩:=bs hg
   obtain⟨j,h2,rfl⟩:=ah hg
   have e1:=dN h1
   subst e1
   refine .inr ⟨HF,ρ,_,sm,eo,hx,fun v1 H1 HF1 g1 r1=>?_⟩
   simp only[Rep] at r1
   obtain⟨l,us,rfl,hq,rr⟩:=r1
   have:=lu rr
   subst this
   refine⟨?_,HF1,ρ,.int i,g1.fh,eo.mono g1.ff,hy,fun v2 H2 HF2 g2 r2=>?_⟩
   ·first|exact .inr (.inl ⟨rfl,_,aD g1.fh hq⟩)|exact .inl ⟨rfl,_,aD g1.fh hq⟩|exact .inr ⟨rfl,_,aD g1.fh hq⟩
   ·simp only[Rep] at r2
    obtain⟨a,b⟩:=oC h2
    exact⟨l,ns,i,j,rfl,by rw[r2],aD g2.fh (aD g2.ff hq),a,b,q _ H2 HF2 (g1.trans g2) (by simp[Rep])⟩
end
end Dl
namespace Zp
open PySem PyProof.Rows
variable {h h':Heap}{it l j t:Addr}{k:Nat}{xs its:Array Value}{Q:Value->Shared->Prop}
def IsI(b:Bool)(h:Heap)(it l:Addr)(k:Nat):Prop:=match b with|true=>h.IsTupleIter it l k|false=>h.IsListIter it l k
def IsS(b:Bool)(h:Heap)(l:Addr)(xs:Array Value):Prop:=match b with|true=>h.IsTuple l xs|false=>h.IsList l xs
theorem IsI.obj{b:Bool}(x:IsI b h it l k):∃o,h.get? it=some o/\∀v,o.data≠.cell v:=by
 cases b
 ·obtain⟨o,e,_,d⟩:=(show h.IsListIter it l k from x);exact⟨o,e,fun v q=>by rw[d] at q;cases q⟩
 ·obtain⟨o,e,_,d⟩:=(show h.IsTupleIter it l k from x);exact⟨o,e,fun v q=>by rw[d] at q;cases q⟩
theorem IsI.at{b:Bool}{h h':Heap}{it l:Addr}{k:Nat}(x:IsI b h it l k)(e:∀o,h.get? it=some o->h'.get? it=some o):IsI b h' it l k:=by
 cases b
 ·exact Heap.IsListIter.at x e
 ·exact Heap.IsTupleIter.at x e
theorem IsI.extBut{b:Bool}{a it l:Addr}(x:IsI b h it l k)(e:Heap.ExtBut a h h')(n:it≠a):IsI b h' it l k:=x.at fun o q=>e it o n q
theorem IsS.at{b:Bool}(x:IsS b h l xs)(e:∀o,h.get? l=some o->h'.get? l=some o):IsS b h' l xs:=by
 cases b
 ·obtain⟨o,q,r⟩:=(show h.IsList l xs from x);exact⟨o,e o q,r⟩
 ·obtain⟨o,q,r⟩:=(show h.IsTuple l xs from x);exact⟨o,e o q,r⟩
theorem IsS.extBut{b:Bool}{a l:Addr}(x:IsS b h l xs)(e:Heap.ExtBut a h h')(n:l≠a):IsS b h' l xs:=x.at fun o q=>e l o n q
section
variable {prog:Program}{w:World}{A:Around}{E:Value->Shared->Prop}{s:Shared}
theorem nxt{b:Bool}{v:Value}(hj:IsI b s.heap j t k)(ht:IsS b s.heap t its)(hv:its[k]?=some v)
  (hQ:∀g,IsI b g j t (k+1)->Heap.SameBut j s.heap g->Q v { s with heap:=g }):wpAny (model prog w) A (Builtin.SmallTypes.nextOf (.ref j)) Q E s:=by
 cases b
 ·exact wpAny_nextOf_list_item hj ht hv hQ
 ·exact En.nextT_item hj ht hv hQ
theorem nxtE{b:Bool}{Q:Value->Shared->Prop}(hh:A.handled=none)(hj:IsI b s.heap j t k)(ht:IsS b s.heap t its)(hv:its[k]?=none)
  (hE:∀g x,Heap.ExtBut j s.heap g->(∃o,g.get? x=some o/\o.cls=.type "StopIteration")->E (.ref x) { s with heap:=g }):wpAny (model prog w) A (Builtin.SmallTypes.nextOf (.ref j)) Q E s:=by
 cases b
 ·exact wpAny_nextOf_list_end hh hj ht hv hE
 ·exact En.nextT_end hh hj ht hv hE
structure ZS(b₁ b₂:Bool)(h₀ h:Heap)(z TI TO i j l m:Addr)(xs ys:Array Value)(f:Value)(p q:Nat)(a b:Value):Prop where
 zo:IsZip h z TI TO f
 ti:IsPair h TI (.ref i) (.ref j)
 to:IsPair h TO a b
 wi:IsI b₁ h i l p
 wj:IsI b₂ h j m q
 sl:IsS b₁ h l xs
 sm:IsS b₂ h m ys
 kp:∀c o,c≠z->c≠TO->c≠i->c≠j->h₀.get? c=some o->h.get? c=some o
 sz:h.objs.size=h₀.objs.size
section
variable {b₁ b₂:Bool}{h₀ h g:Heap}{z TI TO i j l m:Addr}{xs ys:Array Value}{f f':Value}{p q:Nat}{a b x y:Value}
theorem ZS.fl(Z:ZS b₁ b₂ h₀ h z TI TO i j l m xs ys f p q a b)(D:ZipApart z TI TO i j l m)(e:IsZip g z TI TO f')(t:Heap.SameBut z h g):ZS b₁ b₂ h₀ g z TI TO i j l m xs ys f' p q a b :=
 ⟨e,t.extBut _ _ D.TIz Z.ti,t.extBut _ _ D.TOz Z.to,Z.wi.extBut t.extBut D.i1z,Z.wj.extBut t.extBut D.i2z,Z.sl.extBut t.extBut D.l1z,Z.sm.extBut t.extBut D.l2z,fun c o n1 n2 n3 n4 r=>t.extBut _ _ n1 (Z.kp c o n1 n2 n3 n4 r),t.1.trans Z.sz⟩
theorem ZS.fst(Z:ZS b₁ b₂ h₀ h z TI TO i j l m xs ys f p q a b)(D:ZipApart z TI TO i j l m)(e:IsI b₁ g i l (p+1))(t:Heap.SameBut i h g):ZS b₁ b₂ h₀ g z TI TO i j l m xs ys f (p+1) q a b :=
 ⟨t.extBut _ _ D.i1z.symm Z.zo,t.extBut _ _ D.TIi1 Z.ti,t.extBut _ _ D.TOi1 Z.to,e,Z.wj.extBut t.extBut D.i12.symm,Z.sl.extBut t.extBut D.l1i1,Z.sm.extBut t.extBut D.l2i1,fun c o n1 n2 n3 n4 r=>t.extBut _ _ n3 (Z.kp c o n1 n2 n3 n4 r),t.1.trans Z.sz⟩
theorem ZS.snd(Z:ZS b₁ b₂ h₀ h z TI TO i j l m xs ys f p q a b)(D:ZipApart z TI TO i j l m)(e:IsI b₂ g j m (q+1))(t:Heap.SameBut j h g):ZS b₁ b₂ h₀ g z TI TO i j l m xs ys f p (q+1) a b :=
 ⟨t.extBut _ _ D.i2z.symm Z.zo,t.extBut _ _ D.TIi2 Z.ti,t.extBut _ _ D.TOi2 Z.to,Z.wi.extBut t.extBut D.i12,e,Z.sl.extBut t.extBut D.l1i2,Z.sm.extBut t.extBut D.l2i2,fun c o n1 n2 n3 n4 r=>t.extBut _ _ n4 (Z.kp c o n1 n2 n3 n4 r),t.1.trans Z.sz⟩
theorem ZS.put(Z:ZS b₁ b₂ h₀ h z TI TO i j l m xs ys f p q a b)(D:ZipApart z TI TO i j l m)(e:IsPair g TO x y)(t:Heap.SameBut TO h g):ZS b₁ b₂ h₀ g z TI TO i j l m xs ys f p q x y :=
 ⟨t.extBut _ _ D.TOz.symm Z.zo,t.extBut _ _ D.TITO Z.ti,e,Z.wi.extBut t.extBut D.TOi1.symm,Z.wj.extBut t.extBut D.TOi2.symm,Z.sl.extBut t.extBut D.l1TO,Z.sm.extBut t.extBut D.l2TO,fun c o n1 n2 n3 n4 r=>t.extBut _ _ n2 (Z.kp c o n1 n2 n3 n4 r),t.1.trans Z.sz⟩
end
variable {b₁ b₂:Bool}{z TI TO i j l m:Addr}{xs ys:Array Value}{p q:Nat}{a b:Value}
theorem zipN{Q:Value->Shared->Prop}(hn:A.handled=none)(D:ZipApart z TI TO i j l m)(Z:ZS b₁ b₂ s.heap s.heap z TI TO i j l m xs ys .none p q a b)
  (item:∀x y g g',xs[p]?=some x->ys[q]?=some y->ZS b₁ b₂ s.heap g z TI TO i j l m xs ys .ellipsis (p+1) (q+1) x y->IsZip g' z TI TO (rawInt g.objs.size) ->
   Heap.SameBut z (g.push { cls:=.type "tuple",data:=.seq #[x,y] }) g'->Q (.ref g.objs.size) { s with heap:=g' })
  (over:(xs[p]?=none\/ys[q]?=none)->∀g e,(∀c o,c≠z->c≠TO->c≠i->c≠j->s.heap.get? c=some o->g.get? c=some o)->(∃o,g.get? e=some o/\o.cls=.type "StopIteration")->E (.ref e) { s with heap:=g }) :
  wpAny (model prog w) A (Builtin.«zip.__next__» ⟨[.ref z],[]⟩) (fun r s'=>∃v,r=.done (.ret v)/\Q v s') E s:=by
 have stop:∀ {g1 g2:Heap}{e:Addr}{c:Addr}{p' q':Nat}{a' b':Value},ZS b₁ b₂ s.heap g1 z TI TO i j l m xs ys .ellipsis p' q' a' b'->(c=i\/c=j)->(xs[p]?=none\/ys[q]?=none)->Heap.ExtBut c g1 g2 ->
   (∃o,g2.get? e=some o/\o.cls=.type "StopIteration")->wpAny (model prog w) A (setField (.ref z) 0 Value.none) (fun _ t=>E (.ref e) t) E { s with heap:=g2 }:=by
  intro g1 g2 e c p' q' a' b' Y hc hv k ⟨o,ho,ht⟩
  have cz:z≠c:=hc.elim (fun e=>e ▸ D.i1z.symm) fun e=>e ▸ D.i2z.symm
  have Yz:IsZip g2 z TI TO .ellipsis:=k _ _ cz Y.zo
  refine vC Yz (by simp) fun g3 _ t=>over hv g3 e (fun d u n1 n2 n3 n4 r=>t.extBut _ _ n1 (k _ _ ?_ (Y.kp d u n1 n2 n3 n4 r))) ⟨o,t.extBut _ _ ?_ ho,ht⟩
  ·exact hc.elim (fun e=>e ▸ n3) fun e=>e ▸ n4
  ·rintro rfl;rw[Yz] at ho;cases ho;simp at ht
 show wpAny _ _ (field (.ref z) 2 >>= _) _ _ _
 refine zV (qT Z.zo rfl (x:=.bool false) rfl (zV (qT Z.zo rfl (x:=.ref TI) rfl (zV (kJ Z.ti rfl (zV (m:=Builtin.SmallTypes.ownedTupleIsFree _) ?_))))))
 refine zV (qT Z.zo rfl (x:=.none) rfl (zW ?_))
 rw[yL rfl]
 refine zV (wR (zV (qT Z.zo rfl (x:=.ref TO) rfl (zV (vC Z.zo (by simp) fun g1 e1 t1=>?_)))))
 have Z1:=Z.fl D (f':=.ellipsis) e1 t1
 refine zV ?_
 simp only[List.zipIdx_cons,List.zipIdx_nil,List.forIn_cons,List.forIn_nil]
 refine zV (zV (wpAny_onRaise (zV (m:=Builtin.SmallTypes.nextOf _) ?_)))
 cases hx:xs[p]? with
 | none=>exact nxtE hn Z1.wi Z1.sl hx fun g2 e k o=>stop Z1 (.inl rfl) (.inl hx) k o
 | some x =>
 refine nxt Z1.wi Z1.sl hx fun g2 e2 t2=>zW ?_
 have Z2:=Z1.fst D e2 t2
 refine zV (kJ Z2.to rfl (zV (wpAny_updateSeq_pair Z2.to fun g3 e3 t3=>zV (wpAny_letGo (zW ?_)))))
 have Z3:=Z2.put D (x:=x) (y:=b) e3 t3
 refine zV (zV (wpAny_onRaise (zV (m:=Builtin.SmallTypes.nextOf _) ?_)))
 cases hy:ys[q]? with
 | none=>exact nxtE hn Z3.wj Z3.sm hy fun g4 e k o=>stop Z3 (.inr rfl) (.inr hy) k o
 | some y =>
 refine nxt Z3.wj Z3.sm hy fun g4 e4 t4=>zW ?_
 have Z4:=Z3.snd D e4 t4
 refine zV (kJ Z4.to rfl (zV (wpAny_updateSeq_pair Z4.to fun g5 e5 t5=>zV (wpAny_letGo (zW (zW ?_))))))
 have Z5:=Z4.put D (x:=x) (y:=y) e5 t5
 refine zV (kJ Z5.to rfl (zV (wpAny_newTuple (zV (m:=Builtin.SmallTypes.ownedTupleHandOut _ _) ?_))))
 refine zV (vC (zU _ Z5.zo) (by simp) fun g6 e6 t6=>vC e6 (by simp) fun g7 e7 t7=>zW ⟨_,rfl,?_⟩)
 exact item x y g5 g7 hx hy Z5 e7 (t6.trans t7)
theorem nextZ{x y:Value}{Q:Option Value->Shared->Prop}(hn:A.handled=none)(D:ZipApart z TI TO i j l m)
  (qz:IsZip s.heap z TI TO .none) (qI:IsPair s.heap TI (.ref i) (.ref j)) (qO:IsPair s.heap TO a b)
  (p1:IsI b₁ s.heap i l p) (p2:IsI b₂ s.heap j m q) (r1:IsS b₁ s.heap l xs) (r2:IsS b₂ s.heap m ys) (ex:xs[p]?=some x) (ey:ys[q]?=some y)
  (kQ:∀g,IsZip g z TI TO (rawInt s.heap.objs.size)->IsPair g TO x y->IsI b₁ g i l (p+1)->IsI b₂ g j m (q+1)->IsPair g s.heap.objs.size x y->g.objs.size=s.heap.objs.size+1 ->
   (∀c o,c≠z->c≠TO->c≠i->c≠j->s.heap.get? c=some o->g.get? c=some o)->Q (some (.ref s.heap.objs.size)) { s with heap:=g }) :
  wpAny (model prog w) A (pyNext (.ref z)) Q E s:=by
 have ty:s.TypeIs (.ref z) "zip":=⟨_,qz,rfl⟩
 have Z:ZS b₁ b₂ s.heap s.heap z TI TO i j l m xs ys .none p q a b:=⟨qz,qI,qO,p1,p2,r1,r2,fun _ _ _ _ _ _ e=>e,rfl⟩
 refine zV (kW (qC (name:=Str.ofString "__next__") ty wD (qV wD ty F.entry_zip_next (zipN hn D Z ?_ ?_) (F.args_zip_next_1 _))))
 ·intro x' y' g g' hx hy Y ez t
  rw[ex] at hx;rw[ey] at hy;cases hx;cases hy
  rw[Y.sz] at ez ⊢
  have lt:=zY Y.zo
  have up:∀c o,c≠z->g.get? c=some o->g'.get? c=some o:=fun c o n e=>t.extBut _ _ n (zU _ e)
  refine zW (kQ g' ez (up _ _ D.TOz Y.to) (Y.wi.at fun o e=>up _ _ D.i1z e) (Y.wj.at fun o e=>up _ _ D.i2z e) ?_ (by rw[t.1,xJ,Y.sz]) fun c o n1 n2 n3 n4 e=>up c o n1 (Y.kp c o n1 n2 n3 n4 e))
  rw[<- Y.sz]
  exact t.extBut _ _ (jI lt) (zX _ rfl)
 ·intro no
  rw[ex,ey] at no
  rcases no with no|no<;>cases no
theorem nextZE{Q:Option Value->Shared->Prop}(hn:A.handled=none)(D:ZipApart z TI TO i j l m)
  (qz:IsZip s.heap z TI TO .none) (qI:IsPair s.heap TI (.ref i) (.ref j)) (qO:IsPair s.heap TO a b)
  (p1:IsI b₁ s.heap i l p) (p2:IsI b₂ s.heap j m q) (r1:IsS b₁ s.heap l xs) (r2:IsS b₂ s.heap m ys) (ends:xs[p]?=none\/ys[q]?=none)
  (kQ:∀g,(∀c o,c≠z->c≠TO->c≠i->c≠j->s.heap.get? c=some o->g.get? c=some o)->Q none { s with heap:=g }):wpAny (model prog w) A (pyNext (.ref z)) Q E s:=by
 have ty:s.TypeIs (.ref z) "zip":=⟨_,qz,rfl⟩
 have Z:ZS b₁ b₂ s.heap s.heap z TI TO i j l m xs ys .none p q a b:=⟨qz,qI,qO,p1,p2,r1,r2,fun _ _ _ _ _ _ e=>e,rfl⟩
 refine zV (kW (qC (name:=Str.ofString "__next__") ty wD (qV wD ty F.entry_zip_next (zipN hn D Z ?_ ?_) (F.args_zip_next_1 _))))
 ·intro x y g g' hx hy
  rw[hx,hy] at ends
  rcases ends with no|no<;>cases no
 ·rintro _ g e kp ⟨o,ho,ht⟩
  exact zV (wpAny_isInstance (T:="StopIteration") (b:=true) ⟨o,ho,ht⟩ isSubtype_stop (zW (kQ _ kp)))
end
abbrev itO(b:Bool)(l:Addr):Obj:={ cls:=.type (if b then "tuple_iterator" else "list_iterator"),data:=.fields #[.ref l,.int 0 0] }
abbrev z1(b:Bool)(h:Heap)(l:Addr):Heap:=h.push (itO b l)
abbrev z2(b c:Bool)(h:Heap)(l m:Addr):Heap:=(z1 b h l).push (itO c m)
abbrev z3(b c:Bool)(h:Heap)(l m:Addr):Heap:=(z2 b c h l m).push { cls:=.type "tuple",data:=.seq #[.ref h.objs.size,.ref (z1 b h l).objs.size] }
abbrev z4(b c:Bool)(h:Heap)(l m:Addr):Heap:=(z3 b c h l m).push { cls:=.type "tuple",data:=.seq #[.none,.none] }
abbrev z5(b c:Bool)(h:Heap)(l m:Addr):Heap:=(z4 b c h l m).push { cls:=.type "zip",data:=.fields #[.none,.bool false,.bool false,.ref (z2 b c h l m).objs.size,.ref (z3 b c h l m).objs.size] }
theorem IsS.push{b:Bool}{h:Heap}{l:Addr}{xs:Array Value}(x:IsS b h l xs)(o:Obj):IsS b (h.push o) l xs:=x.at fun o' e=>zU _ e
theorem new_zip(b c:Bool)(l m:Addr)(xs ys:Array Value):Meets (Builtin.«zip.__new__» ⟨[.type "zip",.ref l,.ref m],[]⟩) (fun _ R s=>IsS b s.heap l xs/\IsS c s.heap m ys/\R (.ok (.ret (.ref (z4 b c s.heap l m).objs.size))) { s with heap:=z5 b c s.heap l m }) :=
 .of_wp fun prog w A R s h=>by
  obtain⟨hp,g,d,tk,os⟩:=s;obtain⟨q1,q2,h⟩:=h
  have hsub:=sub_zip
  cases b<;>cases c
  ·have L1:Heap.IsList (Shared.heap ⟨hp,g,d,tk,os⟩) l xs:=q1
   have L2:Heap.IsList (Shared.heap ⟨hp.push { cls:=.type "list_iterator",data:=.fields #[.ref l,.int 0 0] },g,d,tk,os⟩) m ys:=IsS.push (b:=false) q2 _
   wp_walk using qK L1,qK L2
   exact⟨_,rfl,h⟩
  ·have L1:Heap.IsList (Shared.heap ⟨hp,g,d,tk,os⟩) l xs:=q1
   have L2:Heap.IsTuple (Shared.heap ⟨hp.push { cls:=.type "list_iterator",data:=.fields #[.ref l,.int 0 0] },g,d,tk,os⟩) m ys:=IsS.push (b:=true) q2 _
   wp_walk using qK L1,xR L2
   exact⟨_,rfl,h⟩
  ·have L1:Heap.IsTuple (Shared.heap ⟨hp,g,d,tk,os⟩) l xs:=q1
   have L2:Heap.IsList (Shared.heap ⟨hp.push { cls:=.type "tuple_iterator",data:=.fields #[.ref l,.int 0 0] },g,d,tk,os⟩) m ys:=IsS.push (b:=false) q2 _
   wp_walk using xR L1,qK L2
   exact⟨_,rfl,h⟩
  ·have L1:Heap.IsTuple (Shared.heap ⟨hp,g,d,tk,os⟩) l xs:=q1
   have L2:Heap.IsTuple (Shared.heap ⟨hp.push { cls:=.type "tuple_iterator",data:=.fields #[.ref l,.int 0 0] },g,d,tk,os⟩) m ys:=IsS.push (b:=true) q2 _
   wp_walk using xR L1,xR L2
   exact⟨_,rfl,h⟩
section
variable {prog:Program}{w:World}{A:Around}{E:Value->Shared->Prop}{s:Shared}
theorem isI_new{b:Bool}(e:h.get? it=some (itO b l)):IsI b h it l 0:=by
 cases b
 ·exact⟨_,e,rfl,rfl⟩
 ·exact⟨_,e,rfl,rfl⟩
theorem call_zip{b c:Bool}{l m:Addr}{xs ys:Array Value}(q1:IsS b s.heap l xs)(q2:IsS c s.heap m ys)
  (h:∀g,IsZip g (s.heap.objs.size+4) (s.heap.objs.size+2) (s.heap.objs.size+3) .none->IsPair g (s.heap.objs.size+2) (.ref s.heap.objs.size) (.ref (s.heap.objs.size+1))->IsPair g (s.heap.objs.size+3) .none .none ->
   IsI b g s.heap.objs.size l 0->IsI c g (s.heap.objs.size+1) m 0->(∀a o,s.heap.get? a=some o->g.get? a=some o)->Q (.ref (s.heap.objs.size+4)) { s with heap:=g }) :
  wpAny (model prog w) A (call (.type "zip") [.ref l,.ref m]) Q E s:=by
 refine callType_new F.called_zip (by decide) (F.typeCall_zip_2 _ _) (F.newCall_zip_2 _ _) (fun obj=>F.args_object_init_3 obj _ _) F.entry_zip_new (new_zip b c l m xs ys) ⟨q1,q2,?_⟩
 have n1:(z1 b s.heap l).objs.size=s.heap.objs.size+1:=xJ ..
 have n2:(z2 b c s.heap l m).objs.size=s.heap.objs.size+2:=by rw[xJ,n1]
 have n3:(z3 b c s.heap l m).objs.size=s.heap.objs.size+3:=by rw[xJ,n2]
 have n4:(z4 b c s.heap l m).objs.size=s.heap.objs.size+4:=by rw[xJ,n3]
 have g5:(z5 b c s.heap l m).get? (z4 b c s.heap l m).objs.size=some _:=zX _ rfl
 have g4:(z5 b c s.heap l m).get? (z3 b c s.heap l m).objs.size=some _:=zU _ (zX _ rfl)
 have g3:(z5 b c s.heap l m).get? (z2 b c s.heap l m).objs.size=some _:=zU _ (zU _ (zX _ rfl))
 have g2:(z5 b c s.heap l m).get? (z1 b s.heap l).objs.size=some (itO c m):=zU _ (zU _ (zU _ (zX _ rfl)))
 have g1:(z5 b c s.heap l m).get? s.heap.objs.size=some (itO b l):=zU _ (zU _ (zU _ (zU _ (zX _ rfl))))
 show _/\_
 rw[n2,n3,n4] at g5
 rw[n1,n2] at g3
 rw[n3] at g4
 rw[n1] at g2
 rw[n4]
 exact⟨⟨_,g5,rfl⟩,h _ g5 g3 g4 (isI_new g1) (isI_new g2) fun a o x=>zU _ (zU _ (zU _ (zU _ (zU _ x))))⟩
end
end Zp
namespace Dl
open PySem L2 PySem.Spec PyProof.Rows Zp
variable {K:W.Frag}
def uo(K:W.Frag)(b:Bool)(a:Addr)(H:Hp)(xs:List V):Prop:=match b with|true=>iN K H a xs|false=>ig K H a xs
section
variable {X:Cx}{pins:List (Addr×Obj)}{σ:L2.St}{H:Hp}{s:Shared}{b:Bool}{a:Addr}{xs ys:List V}
theorem uo.src(I:Inv X pins σ H s)(h:uo X.K b a H xs):∃its:List Value,aE xs its/\IsS b s.heap a its.toArray/\xs.length<=sizeLine:=by
 cases b
 ·obtain⟨its,rv,pl,hz⟩:=I.list (show ig X.K H a xs from h);exact⟨its,rv,pl.isList,hz⟩
 ·obtain⟨its,rv,pl,hz⟩:=I.tuple (show iN X.K H a xs from h);exact⟨its,rv,pl,hz⟩
theorem uo.ne(I:Inv X pins σ H s){c:Addr}(hf:cC X pins H c)(h:uo X.K b a H xs):a≠c:=by
 cases b
 ·exact OM I hf h
 ·exact OO I hf h
theorem uo.inj(I:Inv X pins σ H s)(h:uo X.K b a H xs)(h':uo X.K b a H ys):xs=ys:=by
 cases b
 ·exact I.list_inj h h'
 ·exact I.tuple_inj h h'
theorem uo.mono{H H':Hp}(e:aL H H')(h:uo K b a H xs):uo K b a H' xs:=by
 cases b
 ·exact e.seq h
 ·exact aD e h
end
theorem FQ{P:Program}{w:World}{elts:List Expr}{k:Nat}{pos:Pos}(b c:Bool)(l1 l2 z TI TO i1 i2:Addr)(Z:S0 z TI TO i1 i2) :
  Turn P w K (.Tuple elts k pos) (Sq (uo K b l1) (uo K c l2)) [z,TI,TO,i1,i2] z (fun i h=>IsZip h z TI TO .none/\IsPair h TI (.ref i1) (.ref i2)/\(∃a b,IsPair h TO a b)/\IsI b h i1 l1 i/\IsI c h i2 l2 i) where
 mem:=by simp
 obj:=fun i h st d hd=>by
  obtain⟨hz,hTI,⟨a,b',hTO⟩,p1,p2⟩:=st
  simp only[zQ,yF,xU] at hd
  rcases hd with rfl|rfl|rfl|rfl|rfl
  ·exact⟨_,hz,fun v q=>by have q:Data.fields _=Data.cell v:=q;cases q⟩
  ·exact⟨_,hTI,fun v q=>by have q:Data.seq _ _=Data.cell v:=q;cases q⟩
  ·exact⟨_,hTO,fun v q=>by have q:Data.seq _ _=Data.cell v:=q;cases q⟩
  ·exact p1.obj
  ·exact p2.obj
 keep:=fun i h h' st kk=>by
  obtain⟨hz,hTI,⟨a,b',hTO⟩,h1,h2⟩:=st
  exact⟨kk z (by simp) _ hz,kk TI (by simp) _ hTI,⟨a,b',kk TO (by simp) _ hTO⟩,h1.at fun o q=>kk i1 (by simp) o q,h2.at fun o q=>kk i2 (by simp) o q⟩
 item:=by
  intro X hP hw hK hc i pins s σ H E I hf st hg
  subst hP hw hK
  obtain⟨xs,ys,x,y,hq1,hq2,hx,hy⟩:=hg
  obtain⟨its1,rv1,p1,hz1⟩:=hq1.src I
  obtain⟨its2,rv2,p2,hz2⟩:=hq2.src I
  obtain⟨u1,hu1,ru1⟩:=rv1.get hx
  obtain⟨u2,hu2,ru2⟩:=rv2.get hy
  have D:ZipApart z TI TO i1 i2 l1 l2:=⟨Z.a1,Z.a2,Z.a3,Z.a4,Z.a5,Z.a6,Z.a7,Z.a8,Z.a9,Z.a0,hq1.ne I (hf z (by simp)),hq1.ne I (hf TO (by simp)),hq1.ne I (hf i1 (by simp)),hq1.ne I (hf i2 (by simp)),hq2.ne I (hf z (by simp)),hq2.ne I (hf TO (by simp)),hq2.ne I (hf i1 (by simp)),hq2.ne I (hf i2 (by simp))⟩
  obtain⟨hz,hTI,⟨a,b',hTO⟩,h1,h2⟩:=st
  refine nextZ (I.ok.hd hc) D hz hTI hTO h1 h2 p1 p2 (x:=u1) (y:=u2) (by simpa using hu1) (by simpa using hu2) fun g b1 b2 b3 b4 b5 b6 hk=>⟨.ref s.heap.objs.size,rfl,?_⟩
  have lt:∀ {c:Addr}{o:Obj},s.heap.get? c=some o->s.heap.objs.size≠c:=fun e=>jI (zY e)
  refine wpAny_letOwnedTupleGo_zip (s:={ s with heap:=g }) b1 fun g' hz' hs'=>?_
  have b5':g'.get? s.heap.objs.size=some { cls:=.type "tuple",data:=.seq #[u1,u2] }:=hs'.extBut _ _ (lt hz) b5
  have ht:rK g' s.heap.objs.size (List.toArray [u1,u2]):=⟨⟨_,b5',rfl,_,rfl⟩,_,b5',rfl⟩
  refine⟨.ref s.heap.objs.size,_,Ab (ch:=[z,TI,TO,i1,i2]) (xs:=[x,y]) (t':=s.toks) I hf (fun b o hb q=>?_) (yM _) ht (.cons ru1 (.cons ru2 .nil)) (by show 2<=sizeLine;decide),rfl,
   ⟨s.heap.objs.size,x,y,rfl,I.fresh,rfl,fun zs hzs=>by rw[hzs.inj I hq1];exact hx,fun zs hzs=>by rw[hzs.inj I hq2];exact hy⟩,
   ⟨hz',hs'.extBut _ _ Z.a1 (hk _ _ D.TIz D.TITO D.TIi1 D.TIi2 hTI),⟨_,_,hs'.extBut _ _ Z.a2 b2⟩,b3.extBut hs'.extBut Z.a3,b4.extBut hs'.extBut Z.a4⟩,fun b hb=>?_⟩
  ·simp only[zQ,yF,xU,not_or] at hb
   exact hs'.extBut _ _ hb.1 (hk b o hb.1 hb.2.2.1 hb.2.2.2.1 hb.2.2.2.2 q)
  ·have:s.heap.objs.size≠b:=by
    simp only[zQ,yF,xU] at hb
    obtain⟨o1,g1,_⟩:=h1.obj
    obtain⟨o2,g2,_⟩:=h2.obj
    rcases hb with rfl|rfl|rfl|rfl|rfl
    ·exact lt hz
    ·exact lt hTI
    ·exact lt hTO
    ·exact lt g1
    ·exact lt g2
   rw[ay (jN this)]
   exact (hf b hb).1
 done:=by
  intro X hP hw hK hc i pins s σ H E I hf st hg
  subst hP hw hK
  obtain⟨xs,ys,hq1,hq2,hx⟩:=hg
  obtain⟨its1,rv1,p1,hz1⟩:=hq1.src I
  obtain⟨its2,rv2,p2,hz2⟩:=hq2.src I
  have D:ZipApart z TI TO i1 i2 l1 l2:=⟨Z.a1,Z.a2,Z.a3,Z.a4,Z.a5,Z.a6,Z.a7,Z.a8,Z.a9,Z.a0,hq1.ne I (hf z (by simp)),hq1.ne I (hf TO (by simp)),hq1.ne I (hf i1 (by simp)),hq1.ne I (hf i2 (by simp)),hq2.ne I (hf z (by simp)),hq2.ne I (hf TO (by simp)),hq2.ne I (hf i1 (by simp)),hq2.ne I (hf i2 (by simp))⟩
  obtain⟨hz,hTI,⟨a,b',hTO⟩,h1,h2⟩:=st
  have e1:=rv1.length
  have e2:=rv2.length
  refine nextZE (I.ok.hd hc) D hz hTI hTO h1 h2 p1 p2 (hx.elim (fun q=>.inl (by simp;lia)) fun q=>.inr (by simp;lia)) fun g hk=>⟨rfl,?_⟩
  refine Fc (ch:=[z,TI,TO,i1,i2]) (t':=s.toks) I hf fun b o hb q=>?_
  simp only[zQ,yF,xU,not_or] at hb
  exact hk b o hb.1 hb.2.2.1 hb.2.2.2.1 hb.2.2.2.2 q
 self:=fun _ _ _ _ _ st h=>wpAny_pyIter_zip st.1 h
section
variable {X:Cx}{l l':Expr}{fs:Env->Option (List D)}{elts:List Expr}{k:Nat}{pos p tp:Pos}
theorem Mb{tl:TA}(B:pN X "zip" (.type "zip"))(ha:PA X [l,l'] tl)(hs:starEach [l,l'] X.env=(false,eval l X.env)::starEach [l'] X.env)(hs2:(backTo pos (starEach [l'] X.env)).any (·.1)=false) :
  PI X (.Tuple elts k tp) (.Call (.Name "zip" p) [l,l'] [] pos) (fun σ H R=>tl σ H fun vs H1=>∃a b,vs=[.ref a,.ref b]/\∃c d xs ys,uo X.K c a H1 xs/\uo X.K d b H1 ys/\R (Sq (uo X.K c a) (uo X.K d b)) H1):=by
 intro pins s σ H R I h
 refine Call_ (fW I B.gl B.mg B.bt (qS (cF (ha pos pins s σ H _ I h) fun us s1 ⟨vs,H1,I1,r1,q1⟩=>?_) hs hs2))
 obtain⟨a,b,e,c,d,xs,ys,hq1,hq2,q⟩:=q1
 subst e
 obtain⟨u,u',rfl,rx,ry⟩:=vals2 r1
 cases rx
 cases ry
 obtain⟨its,rv,pl,hz⟩:=hq1.src I1
 obtain⟨its',rv',pl',hz'⟩:=hq2.src I1
 refine call_zip pl pl' fun g b1 b2 b3 b4 b5 kp=>wpAny_pyIter_zip (s:={ s1 with heap:=g }) b1 ?_
 refine⟨_,_,_,_,H1,rfl,I1.kept (t':=s1.toks) kp,FQ c d a b (s1.heap.objs.size+4) (s1.heap.objs.size+2) (s1.heap.objs.size+3) s1.heap.objs.size (s1.heap.objs.size+1) ?_,⟨b1,b2,⟨_,_,b3⟩,b4,b5⟩,fun c hc=>?_,q⟩
 ·constructor<;>(intro z;have z:(_:Nat)=_:=z;lia)
 ·have hge:s1.heap.objs.size<=c:=by
   simp only[zQ,yF,xU] at hc
   rcases hc with rfl|rfl|rfl|rfl|rfl
   ·exact jV _ _
   ·exact jV _ _
   ·exact jV _ _
   ·exact yM _
   ·exact jV _ _
  exact I1.fpOk hge (I1.hok.fresh hge)
def Qx:List D->Option (List D):=fun ds=>match ds with
 | [x,y]=>(fE x).bind fun xs=>(fE y).map fun ys=>gx xs ys
 | _=>none
theorem Co{HF:Hp}{d:D}{v:V}{xs:List D}(h:fE d=some xs)(r:Rep K HF d v):∃b a vs,v=.ref a/\uo K b a HF vs/\aw K HF xs vs:=by
 rcases mI h with rfl|rfl
 ·simp only[Rep] at r
  obtain⟨a,vs,rfl,q,rr⟩:=r
  exact⟨true,a,vs,rfl,q,rr⟩
 ·simp only[Rep] at r
  obtain⟨a,vs,rfl,q,rr⟩:=r
  exact⟨false,a,vs,rfl,q,rr⟩
def ck(fs:Env->Option (List D)):Env->Option (List D):=fun ρ=>(fs ρ).bind Qx
theorem Mo(B:pN X "zip" (.type "zip"))(hs:starEach [l,l'] X.env=(false,eval l X.env)::starEach [l'] X.env)(hs2:(backTo pos (starEach [l'] X.env)).any (·.1)=false)(h:DA X [l,l'] fs) :
  DI X (.Tuple elts k tp) (.Call (.Name "zip" p) [l,l'] [] pos) (ck fs) :=
 vy (Mb B h hs hs2) fun σ H R ⟨HF,ρ,ds,sm,eo,hf,q⟩=>by
  obtain⟨x,hx,hf⟩:=bs hf
  refine⟨HF,ρ,_,sm,eo,hx,fun vs H1 HF1 g1 r1=>?_⟩
  unfold Qx at hf
  split at hf
  ·obtain⟨xs,h1,hf⟩:=bs hf
   obtain⟨ys,h2,rfl⟩:=ah hf
   obtain⟨v,r',rfl,a,b⟩:=r1.cons_inv
   obtain⟨v',r'',rfl,a',b'⟩:=b.cons_inv
   rw[b'.nil_inv]
   obtain⟨c,ad,us,rfl,hq,rr⟩:=Co h1 a
   obtain⟨c',ad',us',rfl,hq',rr'⟩:=Co h2 a'
   exact⟨ad,ad',rfl,c,c',us,us',hq.mono g1.fh,hq'.mono g1.fh,q _ H1 HF1 g1 (Ig hq (fun _ _ s h=>h.mono s) hq' (fun _ _ s h=>h.mono s) rr rr')⟩
  ·cases hf
end
end Dl
namespace Zp
open PySem PyProof.Rows
variable {it l:Addr}
theorem IsI.ne{b:Bool}{h:Heap}{k:Nat}{xs:Array Value}(x:IsI b h it l k)(y:IsS b h l xs):l≠it:=by
 rintro rfl
 cases b
 ·obtain⟨o,e,c,d⟩:=(show h.IsListIter l l k from x)
  obtain⟨o',e',r⟩:=(show h.IsList l xs from y)
  rw[e] at e';cases e'
  simp_all
 ·obtain⟨o,e,c,d⟩:=(show h.IsTupleIter l l k from x)
  obtain⟨o',e',r⟩:=(show h.IsTuple l xs from y)
  rw[e] at e';cases e'
  simp_all
section
variable {prog:Program}{w:World}{A:Around}{E:Value->Shared->Prop}{s:Shared}
theorem drawsI(hn:A.handled=none)(b:Bool)(it l:Addr)(xs:Array Value):Draws prog w A it [it,l] xs.size (fun i x=>xs[i]?=some x) (fun i h=>IsI b h it l i/\IsS b h l xs) where
 live:=fun i h st=>let ⟨o,e,_⟩:=st.1.obj;⟨o,e⟩
 frame:=fun i h h' st k=>⟨st.1.at (k it (by simp)),st.2.at (k l (by simp))⟩
 item:=fun i s Q E hi st hQ=>nxt st.1 st.2 (v:=xs[i]) (by simp[hi]) fun g e t=>hQ _ g s.toks (by simp[hi]) ⟨e,st.2.extBut t.extBut (st.1.ne st.2)⟩ t
 done:=fun s Q E st hE=>nxtE hn st.1 st.2 (by simp) hE
theorem nextE{b₁:Bool}{e it l:Addr}{i:Nat}{items:Array Value}{x old:Value}{Q:Option Value->Shared->Prop}(hn:A.handled=none)
  (qe:IsEnum s.heap e it i old) (qi:IsI b₁ s.heap it l i) (ql:IsS b₁ s.heap l items) (ex:items[i]?=some x) (nei:e≠it)
  (kQ:∀g tk,IsEnumOut g e it ((i:Int)+1) x s.heap.objs.size->IsI b₁ g it l (i+1)->g.get? s.heap.objs.size=some { cls:=.type "tuple",data:=.seq #[.int i tk,x] } ->
   g.objs.size=s.heap.objs.size+1->(∀c o,c≠e->c≠it->s.heap.get? c=some o->g.get? c=some o)->Q (some (.ref s.heap.objs.size)) { s with heap:=g,toks:=tk+1 }) :
  wpAny (model prog w) A (pyNext (.ref e)) Q E s:=by
 have nel:e≠l:=by
  rintro rfl
  cases b₁
  ·obtain⟨o,e1,r⟩:=(show s.heap.IsList e items from ql)
   rw[qe] at e1;cases e1;simp at r
  ·obtain⟨o,e1,r⟩:=(show s.heap.IsTuple e items from ql)
   rw[qe] at e1;cases e1;simp at r
 have D:Draws prog w A.in1 it [it,l] items.size (fun i x=>items[i]?=some x) (fun i h=>IsI b₁ h it l i/\IsS b₁ h l items):=drawsI (A:=A.in1) hn b₁ it l items
 refine wpAny_pyNext_enum_itemD D qe ⟨qi,ql⟩ (Array.getElem?_eq_some_iff.mp ex).1 nei (by simp[nei,nel]) fun y g tk hy a b c d k=>?_
 rw[ex] at hy;cases hy
 exact kQ g tk a b.1 c d k
end
end Zp
namespace Dl
open PySem L2 PySem.Spec PyProof.Rows Zp
theorem qm{P:Program}{w:World}{K:W.Frag}{elts:List Expr}{k:Nat}{pos:Pos}(b:Bool)(a it e:Addr)(hei:e≠it):Turn P w K (.Tuple elts k pos) (RC (uo K b a)) [e,it] e (fun i h=>(∃old,IsEnum h e it i old)/\IsI b h it a i) where
 mem:=by simp
 obj:=fun i h st c hc=>by
  obtain⟨⟨old,he⟩,hi⟩:=st
  rcases List.mem_cons.mp hc with z|z
  ·subst z;exact⟨_,he,fun v q=>by have q:Data.fields _=Data.cell v:=q;cases q⟩
  ·rw[List.mem_singleton.mp z];exact hi.obj
 keep:=fun i h h' st kk=>⟨let ⟨old,he⟩:=st.1;⟨old,kk e (by simp) _ he⟩,st.2.at fun o q=>kk it (by simp) o q⟩
 item:=by
  intro X hP hw hK hc i pins s σ H E I hf st hg
  subst hP hw hK
  obtain⟨xs,x,hq,hx⟩:=hg
  obtain⟨its,rv,p,hz⟩:=hq.src I
  obtain⟨u,hu,ru⟩:=rv.get hx
  obtain⟨⟨old,he⟩,hi⟩:=st
  refine nextE (I.ok.hd hc) he hi p (x:=u) (by simpa using hu) hei fun g tk b1 b2 b3 b4 hk=>⟨.ref s.heap.objs.size,rfl,?_⟩
  have lt:∀ {c:Addr}{o:Obj},s.heap.get? c=some o->s.heap.objs.size≠c:=fun e=>jI (zY e)
  have hte:s.heap.objs.size≠e:=lt he
  refine wpAny_letOwnedTupleGo_enum (s:={ s with heap:=g,toks:=tk+1 }) b1 fun g' he' hs'=>?_
  have b3':g'.get? s.heap.objs.size=some { cls:=.type "tuple",data:=.seq #[.int i tk,u] }:=hs'.extBut _ _ hte b3
  have ht:rK g' s.heap.objs.size (List.toArray [Value.int (i:Nat) tk,u]):=⟨⟨_,b3',rfl,_,rfl⟩,_,b3',rfl⟩
  refine⟨.ref s.heap.objs.size,_,Ab (ch:=[e,it]) (xs:=[.int (i:Nat),x]) (t':=tk+1) I hf (fun c o hb q=>?_) (yM _) ht (.cons ⟨_,rfl⟩ (.cons ru .nil)) (by show 2<=sizeLine;decide),rfl,
   ⟨s.heap.objs.size,x,rfl,I.fresh,rfl,fun zs hzs=>by rw[hzs.inj I hq];exact hx⟩,⟨⟨_,he'⟩,b2.extBut hs'.extBut (jN hei)⟩,fun c hc'=>?_⟩
  ·simp only[zQ,yF,xU,not_or] at hb
   exact hs'.extBut _ _ hb.1 (hk c o hb.1 hb.2 q)
  ·have:s.heap.objs.size≠c:=by
    simp only[zQ,yF,xU] at hc'
    obtain⟨o1,g1,_⟩:=hi.obj
    rcases hc' with rfl|rfl
    ·exact lt he
    ·exact lt g1
   rw[ay (jN this)]
   exact (hf c hc').1
 done:=by
  intro X hP hw hK hc i pins s σ H E I hf st hg
  subst hP hw hK
  obtain⟨xs,hq,hx⟩:=hg
  obtain⟨its,rv,p,hz⟩:=hq.src I
  have hh:X.A.in1.handled=none:=I.ok.hd hc
  have hl:=rv.length
  obtain⟨⟨old,he⟩,hi⟩:=st
  have hT:s.TypeIs (.ref e) "enumerate":=⟨_,he,rfl⟩
  unfold pyNext
  refine zV (kW (qC (name:=Str.ofString "__next__") hT F.slot_enumerate_next (qV F.slot_enumerate_next hT F.entry_enumerate_next ?_ (F.args_enumerate_next_1 _))))
  refine zV (m:=field (.ref e) 2) (qT he rfl (x:=.ref it) rfl ?_)
  refine zV (nxtE hh hi p (by simp;lia) fun h1 x k1 hx1=>?_)
  obtain⟨o,ho,hc1⟩:=hx1
  refine zV (wpAny_isInstance (T:="StopIteration") (b:=true) ⟨o,ho,hc1⟩ isSubtype_stop (zW ⟨rfl,?_⟩))
  obtain⟨f0,f1,f2,f3,f4,f5⟩:=hf it (by simp)
  exact I.turned (t':=s.toks) (fun b o hb q=>k1 b o hb q) f0 f1 f3 f4 f5
 self:=fun _ _ _ _ _ st h=>let ⟨_,he⟩:=st.1;Zf he h
section
variable {X:Cx}{l:Expr}{f:Env->Option D}{fs:Env->Option (List D)}{elts:List Expr}{k:Nat}{pos p tp:Pos}
theorem Kw{tl:TA}(B:pN X "enumerate" (.type "enumerate"))(ha:PA X [l] tl)(hs:starEach [l] X.env=[(false,eval l X.env)]):PI X (.Tuple elts k tp) (.Call (.Name "enumerate" p) [l] [] pos) (fun σ H R=>tl σ H fun vs H1=>∃a,vs=[.ref a]/\∃b xs,uo X.K b a H1 xs/\R (RC (uo X.K b a)) H1):=by
 intro pins s σ H R I h
 refine Call_ (fW I B.gl B.mg B.bt (qS (cF (ha pos pins s σ H _ I h) fun us s1 ⟨vs,H1,I1,r1,q1⟩=>?_) hs rfl))
 obtain⟨a,e,b,xs,hq,q⟩:=q1
 subst e
 obtain⟨u,rfl,rx⟩:=vals1 r1
 cases rx
 have fresh:∀b∈[s1.heap.objs.size+1,s1.heap.objs.size],cC X pins H1 b:=fun b hb=>by
  rcases List.mem_cons.mp hb with z|z
  ·subst z;exact I1.fpOk (Nat.le_succ _) (I1.hok.fresh (Nat.le_succ _))
  ·cases List.mem_singleton.mp z;exact I1.fpOk (yM _) I1.fresh
 obtain⟨its,rv,pl,hz⟩:=hq.src I1
 cases b with
 | false =>
  refine call_enumerate_list pl fun h' he hit hsz kp=>Zf (s:={ s1 with heap:=h' }) he ?_
  exact⟨_,_,_,_,H1,rfl,I1.kept (t':=s1.toks) kp,qm false a s1.heap.objs.size (s1.heap.objs.size+1) (Nat.succ_ne_self _),⟨⟨_,he⟩,hit⟩,fresh,q⟩
 | true =>
  refine En.call_enumT (show s1.heap.IsTuple a its.toArray from pl) fun h' he hit hsz kp=>Zf (s:={ s1 with heap:=h' }) he ?_
  exact⟨_,_,_,_,H1,rfl,I1.kept (t':=s1.toks) kp,qm true a s1.heap.objs.size (s1.heap.objs.size+1) (Nat.succ_ne_self _),⟨⟨_,he⟩,hit⟩,fresh,q⟩
def bH(fs:Env->Option (List D)):Env->Option (List D):=fun ρ=>(fs ρ).bind fun ds=>(cK ds).map (bG 0)
theorem Mn(B:pN X "enumerate" (.type "enumerate"))(h:DA X [l] fs)(hs:starEach [l] X.env=[(false,eval l X.env)]):DI X (.Tuple elts k tp) (.Call (.Name "enumerate" p) [l] [] pos) (bH fs) :=
 vy (Kw B h hs) fun σ H R ⟨HF,ρ,ds,sm,eo,hf,q⟩=>by
  obtain⟨x,hx,hf⟩:=bs hf
  obtain⟨es,h1,rfl⟩:=ah hf
  obtain⟨d,h0,h1⟩:=bs h1
  rw[iV h0] at hx
  refine⟨HF,ρ,_,sm,eo,hx,fun vs H1 HF1 g1 r1=>?_⟩
  obtain⟨v,r',rfl,a,b⟩:=r1.cons_inv
  rw[b.nil_inv]
  obtain⟨c,ad,us,rfl,hq,rr⟩:=Co h1 a
  exact⟨ad,rfl,c,us,hq.mono g1.fh,q _ H1 HF1 g1 (Gb hq (fun _ _ s h=>h.mono s) rr)⟩
end
end Dl
namespace Srt
open PySem PySem.W PySem.Calls PyProof.Rows L2
variable {H':Hp}{b:Addr}{vs:List Value}
theorem cC.at{X:Cx}{pins:List (Addr×Obj)}{H H':Hp}(h:cC X pins H b)(e:H' b=none):cC X pins H' b:=⟨e,h.2⟩
section
variable {X:Cx}{pins:List (Addr×Obj)}{σ:L2.St}{H:Hp}{s:Shared}{A:Around}{E:Value->Shared->Prop}
theorem upd_inv{g:Array Value->Array Value}(I:Inv X pins σ H s)(f:cC X pins H b):Inv X pins σ H { s with heap:=s.heap.update b (Obj.mapSeq g) }:=by
 obtain⟨f0,f1,f2,f3,f4,f5⟩:=f
 exact I.turned (t':=s.toks) (h':=s.heap.update b (Obj.mapSeq g)) (fun c o hc e=>(xN _ _ (jN hc)).trans e) f0 f1 f3 f4 f5
theorem pin_get{fp:List Addr}{h:Heap}{o:Obj}{s':Shared}(I:Inv X (pins++oz fp h) σ H' s')(hb:b∈fp)(e:h.get? b=some o):s'.heap.get? b=some o/\H' b=none :=
 let q:=I.pin (b,o) (yE _ (yE _ (dE hb e)));⟨q.1,q.2.1⟩
theorem list_sortK{a:Addr}{f:Value}{n:Nat}{P:PySem.Fin->Shared->Prop}(I:Inv X pins σ H s)(ho:s.heap.get? a=some (seqObj "list" vs.toArray n))(fa:cC X pins H a)(h64:vs.length < 64)
  (J:List Value->Hp->Prop) (j0:J [] H)
  (step:∀us v,vs[us.length]?=some v->∀pl s' H',Inv X (pins++pl) σ H' s'->J us H'->wpAny (model X.prog X.w) A (call f [v]) (fun u s''=>∃H'',Inv X (pins++pl) σ H'' s''/\J (us++[u]) H'') (fun _ _=>False) s')
  (fin:∀us H',us.length=vs.length->J us H'->∃ (z:Nat->Int) (κ:SortKind),(2<=vs.length->∀s',Inv X pins σ H' s'->(∀Q':SortKind->Shared->Prop,Q' κ s'->wpAny (model X.prog X.w) A (keyKind' us.toArray) Q' (fun _ _=>False) s') /\
    ∀i j C,i < vs.length->j < vs.length->C (SP.eH z i j) s'->kas_ask X.prog X.w A κ us i j C s') /\
   ∀s' c,Inv X pins σ H' s'->cC X pins H' a->s'.heap.get? a=some (seqObj "list" (outV z vs).toArray c)->P (.done (.ret .none)) s') :
  wpAny (model X.prog X.w) A (ksk_tree a f false) P E s:=by
 have hsl:vs.length<=sizeLine:=by rw[qU];lia
 unfold ksk_tree
 refine zV (vR ho rfl ?_)
 refine zV (kC ho rfl ?_ (by simpa using hsl) (xV _))
 obtain⟨e1,ho1⟩:∃e,(s.heap.update a (Obj.mapSeq fun _=>(#[]:Array Value))).get? a=some (seqObj "list" #[] e):=⟨_,kF ho fun _=>#[]⟩
 have I1:=upd_inv (g:=fun _=>(#[]:Array Value)) I fa
 refine zV (seqEpoch_at ho1 rfl ?_)
 refine zV (wpAny_newTuple ?_ (by simpa using hsl))
 refine zV (kU ?_ (xV _))
 refine xX ?_
 have ho3:(((s.heap.update a (Obj.mapSeq fun _=>(#[]:Array Value))).push (seqObj "tuple" vs.toArray 0)).push (seqObj "list" #[] 0)).get? a=some (seqObj "list" #[] e1):=zU _ (zU _ ho1)
 have hk3:(((s.heap.update a (Obj.mapSeq fun _=>(#[]:Array Value))).push (seqObj "tuple" vs.toArray 0)).push (seqObj "list" #[] 0)).get? ((s.heap.update a (Obj.mapSeq fun _=>(#[]:Array Value))).push (seqObj "tuple" vs.toArray 0)).objs.size=some (seqObj "list" #[] 0):=zX _ rfl
 have I3:=(I1.kept (t':=s.toks) (h':=((s.heap.update a (Obj.mapSeq fun _=>(#[]:Array Value))).push (seqObj "tuple" vs.toArray 0)).push (seqObj "list" #[] 0)) fun b o e=>zU _ (zU _ e))
 have I2:=(I1.kept (t':=s.toks) (h':=(s.heap.update a (Obj.mapSeq fun _=>(#[]:Array Value))).push (seqObj "tuple" vs.toArray 0)) fun b o e=>zU _ e)
 have fk:cC X pins H ((s.heap.update a (Obj.mapSeq fun _=>(#[]:Array Value))).push (seqObj "tuple" vs.toArray 0)).objs.size:=I2.fpOk (yM _) (I2.hok.fresh (yM _))
 have hka:((s.heap.update a (Obj.mapSeq fun _=>(#[]:Array Value))).push (seqObj "tuple" vs.toArray 0)).objs.size≠a:=by
  have hlt:=zY ho1
  rw[xJ]
  exact jI (jO hlt)
 show wpAny _ A _ P E { s with heap:=((s.heap.update a (Obj.mapSeq fun _=>(#[]:Array Value))).push (seqObj "tuple" vs.toArray 0)).push (seqObj "list" #[] 0) }
 generalize ((s.heap.update a (Obj.mapSeq fun _=>(#[]:Array Value))).push (seqObj "tuple" vs.toArray 0)).objs.size=kS at hk3 fk hka
 generalize e3:({ s with heap:=((s.heap.update a (Obj.mapSeq fun _=>(#[]:Array Value))).push (seqObj "tuple" vs.toArray 0)).push (seqObj "list" #[] 0) }:Shared)=s3 at I3
 have ho3:s3.heap.get? a=some (seqObj "list" #[] e1):=by rw[<- e3];exact ho3
 have hk3:s3.heap.get? kS=some (seqObj "list" #[] 0):=by rw[<- e3];exact hk3
 clear e3 I2 I1 ho1 ho
 unfold ksk_rest
 refine zV (wR ?_)
 first
  | rw[List.forIn_toArray]
  | (rw[<- Array.forIn_toList];simp only[List.toList_toArray])
  | rw[<- Array.forIn_toList]
 refine zV (ksk_fold (fun i s'=>∃us H' e,us.length=i/\Inv X pins σ H' s'/\H' a=none/\H' kS=none/\s'.heap.get? a=some (seqObj "list" #[] e1)/\s'.heap.get? kS=some (seqObj "list" us.toArray e)/\J us H') vs 0 s3
  ⟨[],H,0,rfl,I3,fa.1,fk.1,ho3,hk3,j0⟩ ?step ?done)
 case step =>
  rintro j x s' hx ⟨us,H',e,hu,I',ha',hk',hoa,hok,j'⟩
  have hu:us.length=j:=by lia
  have hj:j < vs.length:=(List.getElem?_eq_some_iff.mp hx).1
  have Ip:=I'.pinned (fp:=[a,kS]) (fun b hb=>by
   rcases List.mem_cons.mp hb with rfl|hb
   ·exact cC.at fa ha'
   ·rw[List.mem_singleton.mp hb];exact cC.at fk hk') (fun b hb=>by
   rcases List.mem_cons.mp hb with rfl|hb
   ·exact⟨_,hoa,fun v z=>by cases z⟩
   ·rw[List.mem_singleton.mp hb];exact⟨_,hok,fun v z=>by cases z⟩)
  refine zV (kW (xA (step us x (by rw[hu];exact hx) _ s' H' Ip j') (fun u s'' he=>?_) fun _ _ hF=>hF.elim))
  obtain⟨H'',I'',j''⟩:=he
  try dsimp only
  obtain⟨ga,na⟩:=pin_get I'' (b:=a) zE hoa
  obtain⟨gk,nk⟩:=pin_get I'' (b:=kS) (zC _ zE) hok
  have I4:=I''.unpinned
  obtain⟨c2,hc2⟩:∃c2,(s''.heap.update kS (Obj.mapSeq (·.push u))).get? kS=some (seqObj "list" (us.toArray.push u) c2):=⟨_,kF gk (·.push u)⟩
  refine zV (kC gk rfl ?_ (by rw[zH,qU];lia) (yD (Nat.le_of_eq (Array.size_push ..)) (by rw[zH,qU];lia)))
  refine zW ⟨rfl,us++[u],H'',c2,by rw[zN,hu];simp,upd_inv I4 (cC.at fk nk),na,nk,(xN _ _ hka).trans ga,?_,j''⟩
  rw[hc2]
  simp
 case done =>
  rintro s' ⟨us,H',e,hu,I',ha',hk',hoa,hok,j'⟩
  have hu:us.length=vs.length:=by lia
  try dsimp only
  refine zV (vR hok rfl ?_)
  obtain⟨z,κ,hz,hP⟩:=fin us H' hu j'
  have last:∀st':SortSt,(arrOf st').map (·.2)=(outV z vs).toArray->failedOf st'=none->wpAny (model X.prog X.w) A (ksk_tail a false e1 (.ref kS) st') P E s':=fun st' h1 h2=>by
   unfold ksk_tail
   try dsimp only
   rw[h1,h2]
   have na1:(s'.heap.update kS (Obj.mapSeq fun _=>(#[]:Array Value))).get? a=some (seqObj "list" #[] e1):=(xN _ _ hka).trans hoa
   have I5:=upd_inv (g:=fun _=>(#[]:Array Value)) I' (cC.at fk hk')
   have I6:=upd_inv (s:={ s' with heap:=s'.heap.update kS (Obj.mapSeq fun _=>(#[]:Array Value)) }) (g:=fun _=>(outV z vs).toArray) I5 (cC.at fa ha')
   refine zV (kC hok rfl ?_ (by rw[zH,qU];lia) (xV _))
   refine zV (wpAny_letGo ?_)
   refine zV (seqEpoch_at na1 rfl ?_)
   refine zV (kC na1 rfl ?_ (xV _) (by
    simp only[yO,qP]
    show (outV z vs).toArray.size<=_;rw[zH,outV_len];lia))
   obtain⟨c,hc⟩:∃c,((s'.heap.update kS (Obj.mapSeq fun _=>(#[]:Array Value))).update a (Obj.mapSeq fun _=>(outV z vs).toArray)).get? a=some (seqObj "list" (outV z vs).toArray c):=⟨_,kF na1 fun _=>(outV z vs).toArray⟩
   simp only[bne_self_eq_false,yO,qP]
   exact zW (hP _ c I6 (cC.at fa ha') hc)
  unfold ksk_end
  try dsimp only
  simp only[yO,qP]
  by_cases h2:vs.toArray.size < 2
  ·rw[yL h2,yL h2]
   refine zV (zW ?_)
   rw[StateT.run_pure]
   refine zV (zW (last _ ?_ rfl))
   have h2':vs.length < 2:=by simpa using h2
   unfold outV
   rw[yL h2']
   show ((us.toArray.zip vs.toArray).map (·.2))=vs.toArray
   apply Array.toList_inj.mp
   simp only[Array.toList_map,Array.toList_zip]
   exact List.map_snd_zip (by rw[hu];exact yM _)
  ·rw[yN h2,yN h2]
   have h2':2<=vs.length:=by
    have:¬ vs.length < 2:=by simpa using h2
    lia
   obtain⟨hk,hlt⟩:=hz h2' s' I'
   refine zV (xA (hk (fun κ' s''=>κ'=κ/\s''=s') ⟨rfl,rfl⟩) (fun κ' s'' hs=>?_) fun _ _ x=>x.elim)
   obtain⟨rfl,rfl⟩:=hs
   refine zV (xA (kat_run (Q:=fun st' s2=>s2=s''/\(arrOf st').map (·.2)=(outV z vs).toArray/\failedOf st'=none) (G:=fun p s2=>s2=s''/\p=SP.run (SP.eH z) (kas_sort vs.length))
    hu h2' h64 (fun p st' s2 a1 a2 a3 a4=>⟨a4.1,?_,a3⟩) (SP.wp_run hlt (kas_sort vs.length) (SP.IX (by lia)) ⟨rfl,rfl⟩)) ?_ fun _ _ e=>e)
   ·rw[kat_snds hu a2,a4.2]
    unfold outV
    rw[yN (by lia)]
   ·rintro⟨⟨⟩,st'⟩ s2 ⟨hs,h4,h5⟩
    subst hs
    exact last st' h4 h5
theorem sortedK{l:Value}{f:Addr}{Q:Value->Shared->Prop}(I:Inv X pins σ H s)(h64:vs.length < 64)
  (hcol:∀ {Q':List Value->Shared->Prop},(∀h':Heap,(∀b o,s.heap.get? b=some o->h'.get? b=some o)->Q' vs { s with heap:=h' })->wpAny (model X.prog X.w) A.in1 (collect l) Q' E s)
  (J:List Value->Hp->Prop) (j0:J [] H)
  (step:∀us v,vs[us.length]?=some v->∀pl s' H',Inv X (pins++pl) σ H' s'->J us H'->wpAny (model X.prog X.w) A.in1.in1 (call (.ref f) [v]) (fun u s''=>∃H'',Inv X (pins++pl) σ H'' s''/\J (us++[u]) H'') (fun _ _=>False) s')
  (fin:∀us H',us.length=vs.length->J us H'->∃ (z:Nat->Int) (κ:SortKind),(2<=vs.length->∀s',Inv X pins σ H' s'->(∀Q':SortKind->Shared->Prop,Q' κ s'->wpAny (model X.prog X.w) A.in1.in1 (keyKind' us.toArray) Q' (fun _ _=>False) s') /\
    ∀i j C,i < vs.length->j < vs.length->C (SP.eH z i j) s'->kas_ask X.prog X.w A.in1.in1 κ us i j C s') /\
   ∀s' D c,Inv X pins σ H' s'->cC X pins H' D->s'.heap.get? D=some (seqObj "list" (outV z vs).toArray c)->Q (.ref D) s') :
  wpAny (model X.prog X.w) A (call (.builtin "sorted") [l] [(Str.ofString "key",.ref f)]) Q E s:=by
 have hsl:vs.length<=sizeLine:=by rw[qU];lia
 refine call_function_entry_kw kind_sorted plain_sorted entry_sorted (ksk_s1 _ _) ?_
 unfold Builtin.«sorted»
 refine zV (m:=checkCount "sorted" 1 1 _) (zW (zV (hcol fun h1 kp=>?_)))
 refine zV (kU ?_ (by simpa using hsl))
 have I1:=I.kept (t':=s.toks) kp
 have fD:cC X pins H h1.objs.size:=I1.fpOk (yM _) (I1.hok.fresh (yM _))
 have hoD:(h1.push (seqObj "list" vs.toArray 0)).get? h1.objs.size=some (seqObj "list" vs.toArray 0):=zX _ rfl
 have I2:=I1.kept (t':=s.toks) (h':=h1.push (seqObj "list" vs.toArray 0)) fun b o e=>zU _ e
 show wpAny _ _ _ _ _ { s with heap:=h1.push (seqObj "list" vs.toArray 0) }
 refine zV (xX (wpAny_call_entry_kw slot_list_sort ⟨_,hoD,rfl⟩ entry_list_sort ?body (ksk_l1 _ _)))
 case body =>
  show wpAny (model X.prog X.w) A.in1.in1 (Builtin.«list.sort» ⟨[.ref h1.objs.size],[(Str.ofString "key",.ref f)]⟩) _ _ _
  rw[ksk_t1]
  refine list_sortK I2 hoD fD h64 J j0 step fun us H' hu j'=>?_
  obtain⟨z,κ,hz,hP⟩:=fin us H' hu j'
  exact⟨z,κ,hz,fun s' c I' f' e=>⟨_,rfl,zW ⟨_,rfl,hP s' _ c I' f' e⟩⟩⟩
end
end Srt
namespace Dl
open PySem L2 PySem.Spec PyProof.Rows
variable {σ:L2.St}{H:Hp}{s:Shared}
theorem _root_.L2.Inv.track{X:Cx}{pins:List (Addr×Obj)}{b:Addr}{o:HO}(I:Inv X pins σ H s)(f:cC X pins H b)(ho:et X.prog X.w (upd H b o) s.heap b o):Inv X pins σ (upd H b o) s:=by
 obtain⟨f0,f1,f2,f3,f4,f5⟩:=f
 have up:∀c u,H c=some u->upd H b o c=some u:=fun c u e=>by rw[ay (aN e f0)];exact e
 refine⟨I.ok,I.os,I.bare,⟨I.base.keep,I.base.slot,fun c oc e n hx=>?_,I.base.there,fun c xs e=>up c _ (I.base.tups c xs e),fun c oc u e=>up c _ (I.base.frzs c oc u e),⟨fun c u e t=>up c u (I.base.tbls.st c u e t),I.base.tbls.gr⟩⟩,I.loc,I.cell,?_,fun x c e=>?_,fun p hp=>?_,fun c u e=>?_,I.len⟩
 ·have hne:c≠b:=fun z=>by
   rcases f3 with g|g
   ·exact hx (z ▸ g)
   ·exact absurd (zP (zY e) (z ▸ g)) (qE _)
  rw[ay hne];exact I.base.free c oc e n hx
 ·rw[ay (jN f1)];exact I.free
 ·rw[ay (f4 x c e)];exact I.freeC x c e
 ·obtain⟨e,n,r⟩:=I.pin p hp
  exact⟨e,by rw[ay (f5 p hp)];exact n,r⟩
 ·by_cases hc:c=b
  ·subst hc;rw[aA] at e;cases e;exact ho
  ·rw[ay hc] at e
   exact (I.hok c u e).stay (fun d w _ q=>q) (fun d q=>up d _ q) fun d w q _=>up d _ q
def oX(scope:Scope)(N':List Str)(p:Str):Bool:=scope.names.all (fun q=>!decide (q.2=NameKind.cell))&&decide (N'[0]?=some p)&&decide (scope.names.lookup p=some .local)&&decide (scope.isCoroutine=false)&&decide (scope.isGenerator=false)
section
variable {X:Cx}{N:List Str}{sc:Scope}{k:Nat}
theorem IG{scope:Scope}{N':List Str}{p qual:Str}{A:Around}{f c:Addr}(C:Bk X N sc (k+3))(hA:dZ (k+1) A)(hk:scope.kind=.function)(hnd:N'.Nodup)(hl:oX scope N' p=true):Bk (gO X A qual scope N' f c s H) N' scope k where
 n:=rfl
 nd:=hnd
 tb:=fun x kd hx=>.inl hx
 calm:=rfl
 fn:=fun x hx=>by
  unfold oX at hl
  simp only[zF,xG,yP,xB] at hl
  exact absurd rfl (hl.1.1.1.1 _ (mem_of_lookup hx))
 room:=hA.deeper _
 xe:=rfl
 kd:=hk
structure sD(X:Cx)(qual:Str):Prop where
 ex:∃c P,X.env.code=.ref c/\X.env.qual++"<lambda>"=qual/\W.codeHdIn X.K c P=true/\∀HF,eu X.K HF->HF P=some (.tab qual)
def iC(te:Env->Option D)(ρ:Env):List D->Option (List D)
 | []=>some []
 | d::ds=>(te (ρ.set 0 (some d))).bind fun x=>(iC te ρ ds).map (x::·)
theorem oo{te:Env->Option D}{ρ:Env}:∀ {ds ks:List D},iC te ρ ds=some ks->ks.length=ds.length
 | [],ks,h=>by cases h;rfl
 | d'::ds,ks,h=>by
  unfold iC at h
  obtain⟨y,h1,h⟩:=bs h
  obtain⟨ys,h2,rfl⟩:=ah h
  simp[oo h2]
theorem sG{te:Env->Option D}{ρ:Env}:∀ {ds ks:List D}{i:Nat}{d:D},iC te ρ ds=some ks->ds[i]?=some d->∃x,te (ρ.set 0 (some d))=some x/\ks[i]?=some x
 | [],ks,i,d,h,e=>by simp at e
 | d'::ds,ks,i,d,h,e=>by
  unfold iC at h
  obtain⟨y,h1,h⟩:=bs h
  obtain⟨ys,h2,rfl⟩:=ah h
  cases i with
  | zero=>simp at e;subst e;exact⟨y,h1,rfl⟩
  | succ i=>obtain⟨x,a,b⟩:=sG h2 (by simpa using e);exact⟨x,a,by simpa using b⟩
def oK(cs:List Nat)(fl te:Env->Option D):Env->Option (List D):=fun ρ=>(fl ρ).bind fun l=>match l with
 | .list ds=>(iC te (ej 1 cs ρ) ds).bind fun ks=>(intsOf ks).bind fun zs=>if ds.length < 64 then some (pO (fun i=>zs.getD i 0) ds .none) else none
 | _=>none
theorem Ah{K:W.Frag}{HF:Hp}{ρ:Env}{cs:List Nat}{d:D}{v:V}(eo:cU K HF ρ σ)(r:Rep K HF d v):cU K HF ((ej 1 cs ρ).set 0 (some d)) ((ka 1 cs σ).set 0 (some v)):=jn (DU eo) r
theorem nF{K:W.Frag}{HF:Hp}:∀ {ks:List D}{zs:List Int}{kvs:List V}{us:List Value},intsOf ks=some zs->aw K HF ks kvs->aE kvs us->IntsAre us zs
 | [],zs,kvs,us,h,r,v=>by
  cases h
  rw[r.nil_inv] at v
  cases v
  exact .nil
 | d::ks,zs,kvs,us,h,r,v=>by
  cases d<;>simp only[intsOf] at h<;>try cases h
  rename_i i
  obtain⟨ys,h2,rfl⟩:=ah h
  obtain⟨w,ws,rfl,a,b⟩:=r.cons_inv
  simp only[Rep] at a
  subst a
  cases v with
  | cons r1 r2 =>
   obtain⟨t,rfl⟩:=r1
   exact .cons i t (nF h2 b r2)
theorem jj:∀ {us:List Value}{zs:List Int}{i:Nat},IntsAre us zs->i < us.length->∃t,us.getD i Value.none=.int (zs.getD i 0) t
 | _,_,i,.nil,h=>by simp at h
 | _,_,0,.cons n t r,h=>⟨t,rfl⟩
 | _,_,i+1,.cons n t r,h=>by
  obtain⟨t',e⟩:=jj (i:=i) r (by simpa using h)
  exact⟨t',by simpa using e⟩
variable {l body:Expr}{fl te:Env->Option D}{params:Arguments}{scope:Scope}{lpos pos p0 kpos:Pos}{N':List Str}{cs:List Nat}{p qual:Str}
theorem Bk.sortK(C:Bk X N sc (k+3))(B:pN X "sorted" (.builtin "sorted"))(L:sD X qual)(ok:jq sc scope N N' 1 cs=true)(hl:oX scope N' p=true)
  (hb:∀ (cl:List (Str×Addr)) (pm ctv u:Value) (c:Addr),bindArgs (W.kla_fn "<lambda>" qual params body scope cl pm (.ref c) ctv) ⟨[u],[]⟩=pure [(p,u)]) (hdef:defaultsOf params X.env=([],[])) (h:DE X l fl)
  (hY:∀A f c s H,Bk (gO X A qual scope N' f c s H) N' scope k->DE (gO X A qual scope N' f c s H) body te)
  (hst:starEach [l] X.env=(false,eval l X.env)::starEach [] X.env) (he:backTo pos (starEach [l] X.env)=(false,eval l X.env)::backTo pos (starEach [] X.env)) (hpl:(backTo pos (starEach [l] X.env)).any (·.1)=false) :
  DF X (.Call (.Name "sorted" p0) [l] [⟨some "key",.Lambda params body scope lpos,kpos⟩] pos) (oK cs fl te):=by
 obtain⟨S,_⟩:=C.comp ok
 have hnd:N'.Nodup:=by
  unfold jq at ok
  simp only[zF,zJ] at ok
  exact ok.2
 have hl':=hl
 unfold oX at hl'
 simp only[zF,xG,yP,xB,zJ] at hl'
 obtain⟨⟨⟨⟨hnc,hN0⟩,hp⟩,hco⟩,hgen⟩:=hl'
 obtain⟨cc,P,hcode,hqual,hhd,eV⟩:=L.ex
 intro pins s σ H Q I ⟨HF,ρ,out,sm,eo,hf,q⟩
 obtain⟨ld,hld,hf⟩:=bs hf
 cases ld<;>try cases hf
 rename_i ds
 obtain⟨ks,hks,hf⟩:=bs hf
 obtain⟨zs,hzs,hf⟩:=bs hf
 split at hf<;>cases hf
 rename_i h64
 refine qY (fW I B.gl B.mg B.bt ?_ (by decide) (by decide))
 refine PyProof.Rows.callWith_kw (e:=l) (rest:=[]) (kws:=[⟨some "key",.Lambda params body scope lpos,kpos⟩]) ?_ he hpl rfl rfl
 refine cF (Dp h Ji hst pos pins s σ H _ I ⟨HF,ρ,[.list ds],sm,eo,by simp[aa,af,hld],fun vs H1 HF1 g1 r1=>(⟨HF1,g1,r1⟩:∃HF1,bL HF H HF1 H1/\aw X.K HF1 [.list ds] vs)⟩) fun us s1 ⟨vs,H1,I1,rv,HF1,g1,r1⟩=>?_
 obtain⟨v,vr,rfl,a1,b1⟩:=r1.cons_inv
 rw[b1.nil_inv] at rv
 obtain⟨u,rfl,rx⟩:=vals1 rv
 simp only[Rep] at a1
 obtain⟨la,ws,rfl,hq,rr⟩:=a1
 cases rx
 have hT1:H1 P=some (.tab qual):=g1.fh _ _ (eV HF1 (eo.tb.mono g1.ff))
 show wpAny _ _ (evalAll ((do let v <- eval (.Lambda params body scope lpos) X.env;standAt pos;pure v)::[])) _ _ s1
 refine wpAny_evalAll_cons (zV ?_)
 refine AZ (P:=P) I1 S hqual hcode (W.codeHd_of_K I1.ok.mod.kin hhd) hT1 I1.ok.mod.bmd hdef fun f c' pm ctv s2 H2 I2 hfo hfn hcod s12 fp2 _=>?_
 refine zV (vH (zW (wpAny_evalAll_nil ?_)))
 show wpAny _ _ (call (.builtin "sorted") [.ref la] [(Str.ofString "key",.ref f)]) _ _ s2
 have Ip:=I2.pinned (fp:=[f]) (fun b hb=>by rw[List.mem_singleton.mp hb];exact fp2) (fun b hb=>by rw[List.mem_singleton.mp hb];exact⟨_,hfo,fun v z=>by cases z⟩)
 have g2:bL HF1 H1 HF1 H2:=⟨s12,.refl _,g1.fh.trans s12,fun _ _ e=>.inl e⟩
 obtain⟨its,rvi,pl,hz⟩:=Ip.list (s12.seq (g1.fh.seq hq))
 have hlen:its.length=ds.length:=by rw[<- rvi.length,rr.length]
 have hkl:=oo hks
 have hR:dZ (k+1) X.A.in1.in1:=C.room.in1.in1
 refine Srt.sortedK (vs:=its) Ip (by lia) (fun {Q'} hQ=>?_) (fun us H'=>∃HF' kvs,bL HF1 H2 HF' H'/\aw X.K HF' (ks.take us.length) kvs/\aE kvs us) ⟨HF1,[],.refl g2.fh,by simpa using aw.nil,.nil⟩ (fun us x hx pl' s3 H3 I3 ⟨HF3,kvs,g3,rk,rvk⟩=>?_) fun us H3 hu ⟨HF3,kvs,g3,rk,rvk⟩=>?_
 ·refine collect_list pl.isList (hQ _ fun b o e=>?_) (by rw[qU];lia)
  exact (xN _ _ (jI (zY e))).trans (zU _ e)
 ·have hi:us.length < its.length:=(List.getElem?_eq_some_iff.mp hx).1
  obtain⟨w,hw⟩:∃w,ws[us.length]?=some w:=⟨_,zK (by rw[rvi.length];exact hi)⟩
  obtain⟨x',hx',rw'⟩:=rvi.get hw
  rw[hx] at hx'
  cases hx'
  obtain⟨d,hd,rd⟩:=rr.get hw
  obtain⟨kd,hkd,hki⟩:=sG hks hd
  have hfo3:s3.heap.get? f=some (W.kla_obj "<lambda>" qual params body scope (eB X.env scope.names []) pm c' ctv) :=
   (I3.pin (f,_) (yE _ (qJ _ (yE _ (dE zE hfo))))).1
  refine xA (Ba (Q:=fun v H4=>∃HF4,bL HF3 H3 HF4 H4/\Rep X.K HF4 kd v) (te:=tD X.K te) I3 hR I3.ok.frames S hnc hN0 hp hnd hco hgen hfo3 (g3.hh _ _ hcod) (hb _ _ _ _ _) rw' (hY _ _ _ _ _ (IG C hR S.kind hnd hl))
   ⟨HF3,_,kd,g3.fh,Ah (eo.mono (g1.ff.trans g3.ff)) (rd.mono g3.ff),hkd,fun v H4 HF4 g4 r4=>⟨HF4,g4,r4⟩⟩) (fun u s4 ⟨v4,H4,I4,r4,HF4,g4,rp⟩=>⟨H4,I4,HF4,kvs++[v4],g3.trans g4,?_,rvk.append (.cons r4 .nil)⟩) fun _ _ e=>e
  rw[zN,xC,Zg,hki]
  exact (rk.mono g4.ff).append (aw.cons rp aw.nil)
 ·have hk':ks.take us.length=ks:=kM (by lia)
  rw[hk'] at rk
  have ia:=nF hzs rk rvk
  refine⟨fun i=>zs.getD i 0,oneType',fun h2 s3 I3=>⟨fun Q' q'=>?_,fun i j Cc hi hj q'=>?_⟩,fun s3 Dn c I3 fD e=>?_⟩
  ·rw[PyProof.Rows.ksk_kind (keys:=us.toArray) (kz:=zs) (by simpa using ia) (by simpa [hu] using h2)]
   exact zW q'
  ·obtain⟨t1,e1⟩:=jj ia (i:=i) (by lia)
   obtain⟨t2,e2⟩:=jj ia (i:=j) (by lia)
   unfold W.kas_ask
   rw[e1,e2]
   exact W.kat_lt_int q'
  ·have hv:=qd (fun i=>zs.getD i 0) rvi
   have hr:=qx (fun i=>zs.getD i 0) rr
   have hnD:H3 Dn=none:=fD.1
   have I4:=Inv.track (o:=.lst (pO (fun i=>zs.getD i 0) ws .non)) I3 fD ⟨by rw[(gc _ _ _).length_eq];exact hz,_,c,hv,e⟩
   have G:=(g1.trans g2).trans g3
   refine⟨.ref Dn,_,I4.unpinned,rfl,q Dn _ _ HF3 (G.trans (.own G.fh hnD)) (G.hh.free hnD) (G.fh.free hnD) aA (hr.mono g3.ff)⟩
end
end Dl
namespace Srt
open PySem PySem.W PySem.Calls PyProof.Rows L2
variable {r:Addr}{a b c:Int}{n:Nat}
section
variable {prog:Program}{w:World}{A:Around}{E:Value->Shared->Prop}{s:Shared}
theorem iadd_rng{R:Result->Shared->Prop}{r S:Addr}{t u v:Tok}(hh:A.handled=none)(hr:IsRange s.heap r a b c t u v)(hsmall:Builtin.Range.small a b c=true)(hn:Builtin.Range.rangeSize a b c=n)(hlen:n<=2 ^ 24)
  (hS:s.heap.get? S=some { cls:=.type "list",data:=.seq #[] })
  (hR:∀h' tk acc' c',(∀b o,b≠S->s.heap.get? b=some o->h'.get? b=some o)->h'.get? S=some { cls:=.type "list",dict:=none,data:=.seq acc' c',slots:=#[] } ->
   ItemsOf (fun i v=>∃t,v=.int (a+i * c) t) acc' n->R (.ok (.ret (.ref S))) { s with heap:=h',toks:=tk }):codeAny (model prog w) A (.builtin "list.__iadd__" ⟨[.ref S,.ref r],[]⟩) R s:=by
 refine kG entry_list_iadd' ?_
 rw[Around.under_plainId (by decide +kernel:plainId "list.__iadd__"=true) _]
 exact wpAny_extend_range (A:=A) hh hr hsmall hn hlen S (.ref S) _ hS hR
theorem collect_rng{t u v:Tok}{Q:List Value->Shared->Prop}(hh:A.handled=none)(hr:IsRange s.heap r a b c t u v)(hsmall:Builtin.Range.small a b c=true)(hn:Builtin.Range.rangeSize a b c=n)(hlen:n<=2 ^ 24)
  (h:∀h' tk acc,(∀b o,s.heap.get? b=some o->h'.get? b=some o)->ItemsOf (fun i v=>∃t,v=.int (a+i * c) t) acc n->Q acc.toList { s with heap:=h',toks:=tk }):wpAny (model prog w) A (collect (.ref r)) Q E s:=by
 unfold collect
 refine zV (wpAny_runValue (kG entry_proto_collect' ?_))
 rw[Around.under_plainId (by decide +kernel:plainId "proto.collect"=true) _]
 show wpAny _ A.in1 (newList [] >>= fun l=>again (.builtin "list.__iadd__" ⟨[l,.ref r],[]⟩)) _ _ s
 refine zV (qL ?_)
 have hS:(s.heap.push { cls:=.type "list",data:=.seq #[] }).get? s.heap.objs.size=some { cls:=.type "list",data:=.seq #[] }:=zX _ rfl
 refine zW ⟨plainId_quiet (by decide +kernel) _,iadd_rng (s:={ s with heap:=s.heap.push { cls:=.type "list",data:=.seq #[] } }) hh (zU _ hr) hsmall hn hlen hS fun h' tk acc' c' hk hS' hacc=>?_⟩
 show wpAny _ A (load s.heap.objs.size >>= _) _ _ _
 refine zV (wpAny_load hS' ?_)
 exact zW (h h' tk acc' (fun b o e=>hk b o (yR (zY e)) (zU _ e)) hacc)
end
section
variable {X:Cx}{pins:List (Addr×Obj)}{σ:L2.St}{H:Hp}{s:Shared}{A:Around}{E:Value->Shared->Prop}
theorem sortedR{l:Value}{f:Addr}{PV:List Value->Prop}{Q:Value->Shared->Prop}(I:Inv X pins σ H s)
  (hcol:∀ {Q':List Value->Shared->Prop},(∀ (h':Heap) (tk:Nat) (vs:List Value),PV vs->(∀b o,s.heap.get? b=some o->h'.get? b=some o)->Q' vs { s with heap:=h',toks:=tk })->wpAny (model X.prog X.w) A.in1 (collect l) Q' E s)
  (rest:∀vs,PV vs->vs.length < 64/\∃J:List Value->Hp->Prop,J [] H /\
   (∀us v,vs[us.length]?=some v->∀pl s' H',Inv X (pins++pl) σ H' s'->J us H'->wpAny (model X.prog X.w) A.in1.in1 (call (.ref f) [v]) (fun u s''=>∃H'',Inv X (pins++pl) σ H'' s''/\J (us++[u]) H'') (fun _ _=>False) s') /\
   (∀us H',us.length=vs.length->J us H'->∃ (z:Nat->Int) (κ:SortKind),(2<=vs.length->∀s',Inv X pins σ H' s'->(∀Q':SortKind->Shared->Prop,Q' κ s'->wpAny (model X.prog X.w) A.in1.in1 (keyKind' us.toArray) Q' (fun _ _=>False) s') /\
    ∀i j C,i < vs.length->j < vs.length->C (SP.eH z i j) s'->kas_ask X.prog X.w A.in1.in1 κ us i j C s') /\
   ∀s' D c,Inv X pins σ H' s'->cC X pins H' D->s'.heap.get? D=some (seqObj "list" (outV z vs).toArray c)->Q (.ref D) s')) :
  wpAny (model X.prog X.w) A (call (.builtin "sorted") [l] [(Str.ofString "key",.ref f)]) Q E s:=by
 refine call_function_entry_kw kind_sorted plain_sorted entry_sorted (ksk_s1 _ _) ?_
 unfold Builtin.«sorted»
 refine zV (m:=checkCount "sorted" 1 1 _) (zW (zV (hcol fun h1 tk vs hv kp=>?_)))
 obtain⟨h64,J,j0,step,fin⟩:=rest vs hv
 have hsl:vs.length<=sizeLine:=by rw[qU];lia
 refine zV (kU ?_ (by simpa using hsl))
 have I1:=I.kept (t':=tk) kp
 have fD:cC X pins H h1.objs.size:=I1.fpOk (yM _) (I1.hok.fresh (yM _))
 have hoD:(h1.push (seqObj "list" vs.toArray 0)).get? h1.objs.size=some (seqObj "list" vs.toArray 0):=zX _ rfl
 have I2:=I1.kept (t':=tk) (h':=h1.push (seqObj "list" vs.toArray 0)) fun b o e=>zU _ e
 show wpAny _ _ _ _ _ { s with heap:=h1.push (seqObj "list" vs.toArray 0),toks:=tk }
 refine zV (xX (wpAny_call_entry_kw slot_list_sort ⟨_,hoD,rfl⟩ entry_list_sort ?body (ksk_l1 _ _)))
 case body =>
  show wpAny (model X.prog X.w) A.in1.in1 (Builtin.«list.sort» ⟨[.ref h1.objs.size],[(Str.ofString "key",.ref f)]⟩) _ _ _
  rw[ksk_t1]
  refine list_sortK I2 hoD fD h64 J j0 step fun us H' hu j'=>?_
  obtain⟨z,κ,hz,hP⟩:=fin us H' hu j'
  exact⟨z,κ,hz,fun s' c I' f' e=>⟨_,rfl,zW ⟨_,rfl,hP s' _ c I' f' e⟩⟩⟩
end
end Srt
namespace Dl
open PySem L2 PySem.Spec PyProof.Rows
def sf(n:Nat):List D:=(List.range n).map fun i=>PyData.int ((i:Nat):Int)
def qg(cs:List Nat)(fs:Env->Option (List D))(te:Env->Option D):Env->Option (List D):=fun ρ=>(fs ρ).bind fun l=>match l with
 | [.int n]=>if 0<=n/\n < 64 then (iC te (ej 1 cs ρ) (sf n.toNat)).bind fun ks=>(rowsOf ks).map fun nss=>pO (fun i=>rk nss (nss.getD i [])) (sf n.toNat) .none else none
 | _=>none
theorem ue:∀ {vs:List Value}{k:Nat},(∀i v,vs[i]?=some v->∃t,v=Value.int ((k+i:Nat):Int) t)->aE ((List.range' k vs.length).map fun i=>V.int ((i:Nat):Int)) vs
 | [],k,_=>.nil
 | v::vs,k,h=>by
  rw[zL,vL,zI]
  obtain⟨t,e⟩:=h 0 v rfl
  refine .cons ⟨t,by simpa using e⟩ (ue fun i u hu=>?_)
  obtain⟨t',e'⟩:=h (i+1) u (by simpa using hu)
  exact⟨t',by rw[e'];congr 1;lia⟩
theorem uu{K:W.Frag}{HF:Hp}:∀ (l:List Nat),aw K HF (l.map fun i=>PyData.int ((i:Nat):Int)) (l.map fun i=>V.int ((i:Nat):Int))
 | []=>aw.nil
 | i::l=>aw.cons (by simp[Rep]) (uu l)
section
variable {X:Cx}{N:List Str}{sc:Scope}{k:Nat}
variable {e body:Expr}{fs:Env->Option (List D)}{te:Env->Option D}{params:Arguments}{scope:Scope}{lpos pos p0 kpos rpos p1:Pos}{N':List Str}{cs:List Nat}{p qual:Str}
theorem Bk.sortR(C:Bk X N sc (k+3))(B:pN X "sorted" (.builtin "sorted"))(BR:pN X "range" (.type "range"))(L:sD X qual)(ok:jq sc scope N N' 1 cs=true)(hl:oX scope N' p=true)
  (hb:∀ (cl:List (Str×Addr)) (pm ctv u:Value) (c:Addr),bindArgs (W.kla_fn "<lambda>" qual params body scope cl pm (.ref c) ctv) ⟨[u],[]⟩=pure [(p,u)]) (hdef:defaultsOf params X.env=([],[])) (h:DA X [e] fs)
  (hY:∀A f c s H,Bk (gO X A qual scope N' f c s H) N' scope k->DE (gO X A qual scope N' f c s H) body te)
  (hsR:starEach [e] X.env=[(false,eval e X.env)])
  (hst:starEach [.Call (.Name "range" p1) [e] [] rpos] X.env=(false,eval (.Call (.Name "range" p1) [e] [] rpos) X.env)::starEach [] X.env) (he:backTo pos (starEach [.Call (.Name "range" p1) [e] [] rpos] X.env)=(false,eval (.Call (.Name "range" p1) [e] [] rpos) X.env)::backTo pos (starEach [] X.env)) (hpl:(backTo pos (starEach [.Call (.Name "range" p1) [e] [] rpos] X.env)).any (·.1)=false) :
  DF X (.Call (.Name "sorted" p0) [.Call (.Name "range" p1) [e] [] rpos] [⟨some "key",.Lambda params body scope lpos,kpos⟩] pos) (qg cs fs te):=by
 obtain⟨S,_⟩:=C.comp ok
 have hnd:N'.Nodup:=by
  unfold jq at ok
  simp only[zF,zJ] at ok
  exact ok.2
 have hl':=hl
 unfold oX at hl'
 simp only[zF,xG,yP,xB,zJ] at hl'
 obtain⟨⟨⟨⟨hnc,hN0⟩,hp⟩,hco⟩,hgen⟩:=hl'
 obtain⟨cc,P,hcode,hqual,hhd,eV⟩:=L.ex
 intro pins s σ H Q I ⟨HF,ρ,out,sm,eo,hf,q⟩
 obtain⟨ld,hld,hf⟩:=bs hf
 obtain⟨n,rfl⟩:∃n,ld=[.int n]:=by
  split at hf
  ·exact⟨_,rfl⟩
  ·cases hf
 simp only at hf
 split at hf
 rotate_left
 ·cases hf
 rename_i h64
 obtain⟨ks,hks,hf⟩:=bs hf
 obtain⟨nss,hns,rfl⟩:=ah hf
 obtain⟨hkr,hne⟩:=j6 hns
 refine qY (fW I B.gl B.mg B.bt ?_ (by decide) (by decide))
 refine PyProof.Rows.callWith_kw (e:=.Call (.Name "range" p1) [e] [] rpos) (rest:=[]) (kws:=[⟨some "key",.Lambda params body scope lpos,kpos⟩]) ?_ he hpl rfl rfl
 rw[he]
 refine jJ ?_
 refine Call_ (fW I BR.gl BR.mg boot_range (qS (cF (h rpos pins s σ H _ I ⟨HF,ρ,[.int n],sm,eo,hld,fun vs H1 HF1 g1 r1=>(⟨HF1,g1,r1⟩:∃HF1,bL HF H HF1 H1/\aw X.K HF1 [.int n] vs)⟩) fun us s1 ⟨vs,H1,I1,rv,HF1,g1,r1⟩=>?_) hsR rfl))
 obtain⟨v,vr,rfl,a1,b1⟩:=r1.cons_inv
 rw[b1.nil_inv] at rv
 obtain⟨u,rfl,rx⟩:=vals1 rv
 simp only[Rep] at a1
 subst a1
 obtain⟨t,rfl⟩:=rx
 refine call_range_1 ?_
 refine kK ?_
 obtain⟨hn0,hn64⟩:=h64
 have I1':=I1.kept (t':=s1.toks+1+1) (h':=s1.heap.push { cls:=Value.type "range",data:=Data.fields #[Value.int 0 s1.toks,Value.int n t,Value.int 1 (s1.toks+1)] }) fun b o e=>zU _ e
 have hro:(s1.heap.push { cls:=Value.type "range",data:=Data.fields #[Value.int 0 s1.toks,Value.int n t,Value.int 1 (s1.toks+1)] }).get? s1.heap.objs.size=some { cls:=Value.type "range",data:=Data.fields #[Value.int 0 s1.toks,Value.int n t,Value.int 1 (s1.toks+1)] }:=zX _ rfl
 have Ir:=I1'.pinned (fp:=[s1.heap.objs.size]) (fun b hb=>by rw[List.mem_singleton.mp hb];exact I1.fpOk (yM _) I1.fresh) (fun b hb=>by rw[List.mem_singleton.mp hb];exact⟨_,hro,fun v z=>by cases z⟩)
 have hT1:H1 P=some (.tab qual):=g1.fh _ _ (eV HF1 (eo.tb.mono g1.ff))
 show wpAny _ _ (evalAll ((do let v <- eval (.Lambda params body scope lpos) X.env;standAt pos;pure v)::[])) _ _ _
 refine wpAny_evalAll_cons (zV ?_)
 refine AZ (P:=P) Ir S hqual hcode (W.codeHd_of_K Ir.ok.mod.kin hhd) hT1 Ir.ok.mod.bmd hdef fun f c' pm ctv s2 H2 I2 hfo hfn hcod s12 fp2 _=>?_
 refine zV (vH (zW (wpAny_evalAll_nil ?_)))
 show wpAny _ _ (call (.builtin "sorted") [.ref s1.heap.objs.size] [(Str.ofString "key",.ref f)]) _ _ s2
 have hr2:IsRange s2.heap s1.heap.objs.size 0 n 1 s1.toks t (s1.toks+1):=(Srt.pin_get I2 zE hro).1
 have Ip:=I2.pinned (fp:=[f]) (fun b hb=>by rw[List.mem_singleton.mp hb];exact fp2) (fun b hb=>by rw[List.mem_singleton.mp hb];exact⟨_,hfo,fun v z=>by cases z⟩)
 have g2:bL HF1 H1 HF1 H2:=⟨s12,.refl _,g1.fh.trans s12,fun _ _ e=>.inl e⟩
 have hkl:=oo hks
 have hnl:(sf n.toNat).length=n.toNat:=by simp[sf]
 have hR:dZ (k+1) X.A.in1.in1:=C.room.in1.in1
 refine Srt.sortedR (PV:=fun vs=>vs.length=n.toNat/\∀i v,vs[i]?=some v->∃t,v=Value.int ((i:Nat):Int) t) Ip (fun {Q'} hQ=>?_) fun its ⟨hil,hiv⟩=>⟨by lia,fun us H'=>∃HF' kvs,bL HF1 H2 HF' H'/\aw X.K HF' (ks.take us.length) kvs/\aE kvs us,⟨HF1,[],.refl g2.fh,by simpa using aw.nil,.nil⟩,fun us x hx pl' s3 H3 I3 ⟨HF3,kvs,g3,rk,rvk⟩=>?_,fun us H3 hu ⟨HF3,kvs,g3,rk,rvk⟩=>?_⟩
 ·refine Srt.collect_rng (n:=n.toNat) C.room.in1.hd hr2 (small_one (by lia) (by lia) (by lia) (by lia)) (by rw[rangeSize_one];split<;>lia) (by lia) fun h' tk acc kp ha=>?_
  refine hQ h' tk acc.toList ⟨by have:=ha.1;simpa using this,fun i v hv=>?_⟩ kp
  obtain⟨t',e'⟩:=ha.2 i v (by simpa using hv)
  exact⟨t',by rw[e'];congr 1;lia⟩
 ·have hi:us.length < n.toNat:=by rw[<- hil];exact (List.getElem?_eq_some_iff.mp hx).1
  obtain⟨tx,rfl⟩:=hiv _ _ hx
  have hd:(sf n.toNat)[us.length]?=some (.int ((us.length:Nat):Int)):=by simp[sf,hi]
  obtain⟨kd,hkd,hki⟩:=sG hks hd
  have hfo3:s3.heap.get? f=some (W.kla_obj "<lambda>" qual params body scope (eB X.env scope.names []) pm c' ctv) :=
   (I3.pin (f,_) (yE _ (qJ _ (yE _ (dE zE hfo))))).1
  refine xA (Ba (v:=V.int ((us.length:Nat):Int)) (Q:=fun v H4=>∃HF4,bL HF3 H3 HF4 H4/\Rep X.K HF4 kd v) (te:=tD X.K te) I3 hR I3.ok.frames S hnc hN0 hp hnd hco hgen hfo3 (g3.hh _ _ hcod) (hb _ _ _ _ _) ⟨tx,rfl⟩ (hY _ _ _ _ _ (IG C hR S.kind hnd hl))
   ⟨HF3,_,kd,g3.fh,Ah (eo.mono (g1.ff.trans g3.ff)) (by simp[Rep]),hkd,fun v H4 HF4 g4 r4=>⟨HF4,g4,r4⟩⟩) (fun u s4 ⟨v4,H4,I4,r4,HF4,g4,rp⟩=>⟨H4,I4,HF4,kvs++[v4],g3.trans g4,?_,rvk.append (.cons r4 .nil)⟩) fun _ _ e=>e
  rw[zN,xC,Zg,hki]
  exact (rk.mono g4.ff).append (aw.cons rp aw.nil)
 ·have hk':ks.take us.length=ks:=kM (by lia)
  rw[hk',hkr] at rk
  have hnn:nss.length=n.toNat:=by
   have:=jC List.length hkr
   rw[zD] at this
   lia
  refine⟨fun i=>Dl.rk nss (nss.getD i []),tuples' true,fun h2 s3 I3=>⟨fun Q' q'=>?_,fun i j Cc hi hj q'=>?_⟩,fun s3 Dn c I3 fD e=>?_⟩
  ·obtain⟨fs',tt,hlen,hff⟩:=qc (nM I3 g3.fh rk rvk) hne
   refine W.kat_kind (T:=.type "int") tt (by lia) (fun v hv=>?_) (by decide) q'
   obtain⟨n',t',rfl⟩:=hff v hv
   exact W.Looks.of_pure rfl
  ·have hp3:=nM I3 g3.fh rk rvk
   have ri:=gw (d:=Value.none) (d':=[]) hp3 (show i < us.length by lia)
   have rj:=gw (d:=Value.none) (d':=[]) hp3 (show j < us.length by lia)
   obtain⟨a,o,its1,n1,ea,e1,e2,e3,e4⟩:=ri.ex
   obtain⟨b,o',its',n',eb,f1,f2,f3,f4⟩:=rj.ex
   unfold W.kas_ask
   rw[ea,eb]
   have hmem:nss.getD i []∈nss:=by
    rw[zG,zK (by lia)]
    exact qA _
   have q2:Cc (lexLt (nss.getD i []) (nss.getD j [])) s3:=by
    rw[EB hmem]
    exact q'
   refine W.kat_lt e1 e3 f1 f3 ?_
   have:=qw (prog:=X.prog) (w:=X.w) (A:=X.A.in1.in1) (s:=s3) 0 e4 f4 q2
   have l1:its1.size=(nss.getD i []).length:=by have:=wH e4;simpa using this
   have l2:its'.size=(nss.getD j []).length:=by have:=wH f4;simpa using this
   rw[l1,l2]
   exact this
  ·have rvi:aE ((List.range n.toNat).map fun i=>V.int ((i:Nat):Int)) its:=by
    have:=ue (vs:=its) (k:=0) fun i v hv=>by
     obtain⟨t',e'⟩:=hiv i v hv
     exact⟨t',by rw[e'];congr 1;lia⟩
    rw[hil,<- List.range_eq_range'] at this
    exact this
   have rr:aw X.K HF1 (sf n.toNat) ((List.range n.toNat).map fun i=>V.int ((i:Nat):Int)):=uu _
   have hv:=qd (fun i=>Dl.rk nss (nss.getD i [])) rvi
   have hr:=qx (fun i=>Dl.rk nss (nss.getD i [])) rr
   have hnD:H3 Dn=none:=fD.1
   have I4:=Inv.track (o:=.lst (pO (fun i=>Dl.rk nss (nss.getD i [])) ((List.range n.toNat).map fun i=>V.int ((i:Nat):Int)) .non)) I3 fD ⟨by rw[(gc _ _ _).length_eq,zD,zR,PySem.sizeLine_eq];lia,_,c,hv,e⟩
   have G:=(g1.trans g2).trans g3
   refine⟨.ref Dn,_,I4.unpinned.unpinned,rfl,q Dn _ _ HF3 (G.trans (.own G.fh hnD)) (G.hh.free hnD) (G.fh.free hnD) aA (hr.mono g3.ff)⟩
end
section
variable {X:Cx}{pos:Pos}
def Kq(i j l:Nat):Env->D->Option Env:=fun ρ d=>match d with
 | .tuple [x,y,z]=>if isFree ρ i=true/\isFree ρ j=true/\isFree ρ l=true then some (((ρ.set i (some x)).set j (some y)).set l (some z)) else none
 | _=>none
theorem JJ(i j l:Nat){x y z:Str}{px py pz:Pos}{k:Nat}(hc:X.calm=true)(hN:X.N.Nodup)(hi:X.N[i]?=some x)(hx:Loc X.env.scope x)(hj:X.N[j]?=some y)(hy:Loc X.env.scope y)(hl:X.N[l]?=some z)(hz:Loc X.env.scope z)
  (hf:X.fn x=true\/X.env.scope.names.lookup x=some .local) (hf':X.fn y=true\/X.env.scope.names.lookup y=some .local) (hf'':X.fn z=true\/X.env.scope.names.lookup z=some .local) :
  DG X (.Tuple [.Name x px,.Name y py,.Name z pz] k pos) (Kq i j l) :=
 rg (vt hc (dw (dA hN hi hx hf) (dw (dA hN hj hy hf') (dw (dA hN hl hz hf'') pY)))) fun v σ H Q ⟨HF,ρ,d,ρ',sm,eo,r,hf,q⟩=>by
  unfold Kq at hf
  split at hf
  ·rename_i x' y' z'
   split at hf
   ·rename_i hh
    cases hf
    simp only[Rep] at r
    obtain⟨a,vs,rfl,hs,rr⟩:=r
    obtain⟨v1,r1,rfl,a1,b1⟩:=rr.cons_inv
    obtain⟨v2,r2,rfl,a2,b2⟩:=b1.cons_inv
    obtain⟨v3,r3,rfl,a3,b3⟩:=b2.cons_inv
    rw[b3.nil_inv] at hs
    exact⟨a,_,rfl,aD sm hs,rfl,v1,_,rfl,v2,_,rfl,v3,_,rfl,rfl,q _ (jn (jn (jn eo a1) a2) a3) (lF (lF (lF eo hh.1) hh.2.1) hh.2.2)⟩
   ·cases hf
  ·cases hf
end
section
variable {X:Cx}{a:Expr}{fa:Env->Option D}{pos p1 p2 p3 p4:Pos}{i j:Nat}
end
section
variable {X:Cx}
def AB(d:D):List D->Option Nat
 | []=>none
 | x::xs=>if PyData.eqv x d=true then some 0 else (AB d xs).map (·+1)
theorem u6{d:D}:∀ {xs:List D}{j:Nat},AB d xs=some j->j < xs.length/\(∀x,xs[j]?=some x->PyData.eqv x d=true)/\∀m,m < j->∀x,xs[m]?=some x->PyData.eqv x d=false
 | [],j,h=>by cases h
 | x::xs,j,h=>by
  unfold AB at h
  split at h
  ·cases h
   rename_i e
   exact⟨Nat.succ_pos _,fun y hy=>by cases hy;exact e,fun m hm=>absurd hm (vX _)⟩
  ·rename_i e
   obtain⟨k,hk,rfl⟩:=ah h
   obtain⟨a,b,c⟩:=u6 hk
   refine⟨by simpa using a,fun y hy=>b y (by simpa using hy),fun m hm y hy=>?_⟩
   cases m with
   | zero=>cases hy;simpa using e
   | succ m=>exact c m (by lia) y (by simpa using hy)
theorem FJ(hu:X.A.units+66 < cLine):Pc X "list.index" (fun x vs H Q=>∃ (HF:Hp) (ds:List D) (d:D) (y:V) (j:Nat),aL HF H/\Rep X.K HF (.list ds) x/\vs=[y]/\Rep X.K HF d y/\SeqAt.shaped d=true/\SeqAt.shaped (.list ds)=true/\ds.length<=sizeLine/\AB d ds=some j/\Q (.int j) H):=by
 intro pins s σ H x vs v us Q I rx rv h
 obtain⟨HF,ds,d,y,j,sm,r1,rfl,r2,hd,hl,hz,hj,q⟩:=h
 obtain⟨u,rfl,ru⟩:=rv.one
 obtain⟨as,ra⟩:=dc I sm r1 rx
 obtain⟨bs,rb⟩:=dc I sm r2 ru
 have c1:=kL hd
 have c2:=kL hl
 have d1:=SeqAt.depth_of_shaped hd
 simp only[PyData.canLay0] at c2
 have m:=Nat.min_le_right (PyData.depthAll ds) d.depth
 obtain⟨hj1,hj2,hj3⟩:=u6 hj
 cases ra with
 | list h1 h2 h3 h4 =>
  rename_i l o its n as
  obtain⟨cls,dd,data,sl⟩:=o
  simp only at h2 h3
  subst h2 h3
  have hm:=SeqAt.readsAll_map _ _ _ c2 h4
  have hlen:its.size=ds.length:=by rw[<- hm];simp
  have hs63:(sizeLine:Nat) < 2 ^ 62:=by decide
  have at_:∀m (hm:m < its.size),ds[m]?=some (SeqAt.readOf s.heap its[m]):=fun m hm'=>by
   rw[<- hm,zO,Array.getElem?_toList,jZ hm']
   rfl
  refine qX F.slot_list_index ⟨_,h1,rfl⟩ F.entry_list_index (F.args_list_index_2 _ _) (PySem.SeqAt.list_indexAt l its n dd sl u (fun y=>PyData.eqv (SeqAt.readOf s.heap y) d) j (by rw[hlen];exact hj1) (by lia) ?_ ?_) ⟨h1,?_,?_⟩
  ·exact hj2 _ (at_ j (by rw[hlen];exact hj1))
  ·intro m hm' hmj
   exact hj3 m hmj _ (at_ m hm')
  ·exact SeqAt.items_eqAt h4 rb c2 c1 (by lia)
  ·exact⟨.int j,H,I.tok _,⟨_,rfl⟩,q⟩
variable {HF₀ H₀:Hp}
end
section
variable {X:Cx}{e:Expr}{es:List Expr}{fs:Env->Option (List D)}{pos p:Pos}
def CY:List D->Option D
 | [.int a,.int b]=>some (.int (max a b))
 | _=>none
theorem Jx(hc:X.calm=true):eT X (.builtin "max") (fun xs H Q=>∃a b:Int,xs=[.int a,.int b]/\Q (.int (max a b)) H):=by
 intro pins s σ H xs us Q I r h
 have hh:X.A.handled=none:=I.ok.hd hc
 obtain⟨a,b,rfl,q⟩:=h
 cases r with
 | cons r1 r =>
  cases r with
  | cons r2 r =>
   cases r
   obtain⟨t,rfl⟩:=r1
   obtain⟨u,rfl⟩:=r2
   refine max_two_ints hh fun h' tk kp=>⟨.int (max a b),H,I.kept (t':=tk) kp,?_,q⟩
   by_cases h:b > a
   ·rw[yL h,show max a b=b by lia];exact⟨_,rfl⟩
   ·rw[yN h,show max a b=a by lia];exact⟨_,rfl⟩
theorem Ov(hc:X.calm=true)(B:pN X "max" (.builtin "max"))(he:starEach (e::es) X.env=(false,eval e X.env)::starEach es X.env)(hpl:(backTo pos (starEach es X.env)).any (·.1)=false)(ha:DA X (e::es) fs):DE X (.Call (.Name "max" p) (e::es) [] pos) (bA CY fs) :=
 k8 (Jx hc) (by
  intro HF H ds vs d Q sm r hg q
  unfold CY at hg
  split at hg
  ·cases hg
   obtain⟨v1,r1,rfl,a1,b1⟩:=r.cons_inv
   obtain⟨v2,r2,rfl,a2,b2⟩:=b1.cons_inv
   rw[b2.nil_inv]
   simp only[Rep] at a1 a2
   exact⟨_,_,by rw[a1,a2],q _ H HF (.refl sm) (by simp[Rep])⟩
  ·cases hg) B ha (by decide) (by decide) he hpl
end
section
variable {X:Cx}{N:List Str}{sc:Scope}{k:Nat}{a b e:Expr}{fa fb:Env->Option D}{pos p:Pos}{HF₀ H₀:Hp}
def Re(x y:D):Option Bool:=match y with
 | .tuple ds=>if SeqAt.shaped x=true/\SeqAt.shaped y=true then some (!ds.any fun z=>PyData.eqv z x) else none
 | .list ds=>if SeqAt.shaped x=true/\SeqAt.shaped y=true then some (!ds.any fun z=>PyData.eqv z x) else none
 | _=>none
theorem J3(hu:X.A.units+66 < cLine):hU X (compareOp .NotIn) (Qh X.K Re):=by
 intro pins s σ H v1 v2 u1 u2 Q I rx ry h
 obtain⟨HF,x,y,k,sm,r1,r2,hg,q⟩:=h
 obtain⟨as,ra⟩:=dc I sm r1 rx
 obtain⟨bs,rb⟩:=dc I sm r2 ry
 cases y<;>simp only[Re] at hg<;>try cases hg
 all_goals
  split at hg<;>cases hg
  rename_i ds hh
  have c1:=kL hh.1
  have c2:=kL hh.2
  have d1:=SeqAt.depth_of_shaped hh.1
  simp only[PyData.canLay0] at c2
  have m:=Nat.min_le_right (PyData.depthAll ds) x.depth
  first
   | exact SeqAt.notIn_list_reads rb ra c2 c1 (by lia) ⟨.bl _,H,I,rfl,q⟩
   | exact SeqAt.notIn_tuple_reads rb ra c2 c1 (by lia) ⟨.bl _,H,I,rfl,q⟩
def BP:D->D->Option D:=fun x y=>(Re x y).map PyData.bool
theorem Bk.notin(C:Bk X N sc k)(ha:DE X a fa)(hb:DE X b fb)(hm:behindInMarks .NotIn b=false:=by rfl):DE X (.Compare a [.NotIn] [b] pos) (f2 BP fa fb):=jf (J3 C.u66) lg ha hb hm
theorem Bk.tnin(C:Bk X N sc k)(ha:DE X a fa)(hb:DE X b fb)(hm:behindInMarks .NotIn b=false:=by rfl):DT X (.Compare a [.NotIn] [b] pos) (fB (f2 BP fa fb)):=jl (J3 C.u66) lg ha hb hm
def IW:Expr->Bool
 | .Call ..=>true
 | .Subscript ..=>true
 | _=>false
end
section
variable {X:Cx}{e:Expr}{f:Env->Option D}{pos p p' pos':Pos}
end
section
variable {X:Cx}{a b c e:Expr}{es:List Expr}{fk:Env->Option D}{fs:Env->Option (List D)}{pos p p1 p2 p3:Pos}{x y:Str}
end
section
variable {X:Cx}{HF₀ H₀:Hp}{e:Expr}{pos:Pos}
end
structure Jt(h:Heap)(v:Value)(r:List Int):Prop where
 ex:∃ (a:Addr) (o:Obj) (n:Nat) (p:Value) (x y m:Int) (t:Tok),v=.ref a/\r=[x,y,m]/\h.get? a=some o/\o.cls=.type "tuple"/\o.data=.seq #[p,.int m t] n/\xk h p [x,y]
theorem Jt.keep{h h':Heap}{v:Value}{r:List Int}(q:Jt h v r)(k:∀b o,h.get? b=some o->h'.get? b=some o):Jt h' v r:=by
 obtain⟨a,o,n,p,x,y,m,t,e,e1,e2,e3,e4,e5⟩:=q.ex
 exact⟨a,o,n,p,x,y,m,t,e,e1,k _ _ e2,e3,e4,e5.keep k⟩
section
variable {prog:Program}{w:World}{A:Around}{E:Value->Shared->Prop}{s:Shared}
end
section
variable {X:Cx}{e:Expr}{fs:Env->Option (List D)}{p pos:Pos}
end
end Dl
namespace HT
open PySem PyProof.Rows
section
open PySem.SeqAt
open PySem.AutoSeq1 (wpAny_loadPart')
open PySem.MeetsSeq PySem.MeetsSeq2 PySem.MeetsSeq3
end
end HT
namespace Dl
open PySem L2 PySem.Spec PyProof.Rows
section
variable {prog:Program}{w:World}{A:Around}{E:Value->Shared->Prop}{s:Shared}
end
section
variable {X:Cx}{e:Expr}{fs:Env->Option (List D)}{p pos:Pos}
def jw:List D->Option (List (List Int))
 | []=>some []
 | d::r=>(lN d).bind fun ns=>(jw r).map (ns::·)
end
theorem cC.of{X:Cx}{pins:List (Addr×Obj)}{H H':Hp}{b:Addr}(h:cC X pins H b)(hn:H' b=none):cC X pins H' b:=⟨hn,h.2⟩
section
variable {X:Cx}{pins:List (Addr×Obj)}{σ:L2.St}{A:Around}
end
section
variable {X:Cx}{N:List Str}{sc:Scope}{k:Nat}
variable {l body:Expr}{fl te:Env->Option D}{params:Arguments}{scope:Scope}{lpos pos p0 kpos:Pos}{N':List Str}{cs:List Nat}{p qual:Str}
end
section
variable {X:Cx}{e:Expr}{fs:Env->Option (List D)}{pos p:Pos}
end
section
variable {X:Cx}{e:Expr}{pos:Pos}{HF₀ H₀:Hp}
def oi(i j l:Nat)(fz:List Nat)(f:Env->Option D):ak->Option Out:=fun ρ=>(f (bP (hand fz 0 ρ))).bind fun d=>match d with
 | .tuple [x,y,z]=>some (.nx ((((if iK (.tuple [x,y,z])=true then ρ else hand fz 0 ρ).set i (.val x)).set j (.val y)).set l (.val z)))
 | _=>none
theorem Kb(i j l:Nat)(fz:List Nat){x y z:Str}{px py pz pt:Pos}{m:Nat}{f:Env->Option D}(hc:X.calm=true)(hN:X.N.Nodup)(hi:X.N[i]?=some x)(hx:Loc X.env.scope x)(hj:X.N[j]?=some y)(hy:Loc X.env.scope y)(hl:X.N[l]?=some z)(hz:Loc X.env.scope z)(hp:IW e=true)(he:DE X e f)
  (h1:X.fn x=true\/X.env.scope.names.lookup x=some .local) (h2:X.fn y=true\/X.env.scope.names.lookup y=some .local) (h3:X.fn z=true\/X.env.scope.names.lookup z=some .local):DS X HF₀ H₀ (.Assign [.Tuple [.Name x px,.Name y py,.Name z pz] m pt] e pos) (oi i j l fz f) :=
 cH (Jr he (vt hc (dw (dA hN hi hx h1) (dw (dA hN hj hy h2) (dw (dA hN hl hz h3) pY)))) (by cases e<;>first|rfl|cases hp) (by cases e<;>first|rfl|cases hp)) fun E σ H ⟨HF,ρ,o,S,hg,q⟩=>by
  unfold oi at hg
  obtain⟨d,h,hg⟩:=bs hg
  split at hg
  ·rename_i u v t
   cases hg
   obtain⟨HF1,s1,S1⟩:=S.hand fz
   refine⟨HF1,_,.tuple [u,v,t],S1.gr.fh,S1.frz,h,fun w H' HF' G r=>?_⟩
   simp only[Rep] at r
   obtain⟨a,vs,rfl,hs,rr⟩:=r
   obtain⟨v1,r1,rfl,a1,b1⟩:=rr.cons_inv
   obtain⟨v2,r2,rfl,a2,b2⟩:=b1.cons_inv
   obtain⟨v3,r3,rfl,a3,b3⟩:=b2.cons_inv
   rw[b3.nil_inv] at hs
   refine⟨a,_,rfl,aD G.fh hs,rfl,v1,_,rfl,v2,_,rfl,v3,_,rfl,rfl,?_⟩
   by_cases hn:iK (.tuple [u,v,t])=true
   ·rw[yL hn] at q
    obtain⟨HF2,s2,S2,hb⟩:=S.back S1 s1 G
    simp only[iK,qq,zF,Bool.and_true] at hn
    exact q _ H' HF2 (((S2.setV (hb u v1 hn.1 a1)).setV (hb v v2 hn.2.1 a2)).setV (hb t v3 hn.2.2 a3)) s2
   ·rw[yN hn] at q
    exact q _ H' HF' ((((S1.grow G).setV a1).setV a2).setV a3) (s1.trans G.ff)
  ·cases hg
end
end Dl
namespace Rf
open PySem L2 Dl PySem.Spec PyProof.Rows
variable {x y q:Str}{f:FE}{a b o e tg iter elt:Expr}{g:ak->Option Out}{args ifs:List Expr}{env:PySem.Env}{cpos px:Pos}{m:List D->Option D}{xs N ps:List Str}{blk lmb:Scope->List Str->Tr}{scope:Scope}{lam:Option Str}{n:Nat}{l:List (Str×Nat×(List D->Option D))}{is:List (Str×Int)}{S:Sg}
structure Tr where
 e:Expr->Option (Dl.Env->Option D)
 f:Expr->Option (Dl.Env->Option (List D))
 t:Expr->Option (Dl.Env->Option Bool)
structure Sg where
 fn:List (Str×Nat×(List D->Option D))
 int:List (Str×Int)
abbrev FE:=Dl.Env->Option D
def Cv(G:Sg)(sc:Scope)(N:List Str)(x:Str):Option FE:=match N.idxOf? x with
 | some i=>if GD N sc i x=true then some (ae i) else none
 | none=>if (tP sc x&&!(x == ("__debug__":Str)))=true then (G.int.lookup x).map fun n=>fC (.int n) else none
def DP:Const->Option FE
 | .int i=>some (fC (.int i))
 | .bool b=>some (fC (.bool b))
 | .none=>some (fC .none)
 | .str x=>some (fC (.str x))
 | _=>none
def PZ(T:Tr)(op:UnaryOp)(a:Expr):Option FE:=match op with
 | .Not=>(T.e a).map N2
 | _=>none
def RH:Operator->Option (D->D->Option D)
 | .Add=>some aW
 | .Sub=>some Dl.eX
 | .Mult=>some gy
 | .FloorDiv=>some mO
 | .Mod=>some lO
 | _=>none
def Na:Expr->Bool
 | .List ..=>true
 | .ListComp ..=>true
 | _=>false
def DQ:Expr->Bool
 | .List ..=>true
 | .ListComp ..=>true
 | .BinOp a .Mult _ _=>Na a
 | .BinOp a .Add b _=>DQ a||DQ b
 | .Call (.Name x _) _ _ _=>x == ("sorted":Str)||x == ("list":Str)
 | _=>false
def Il(T:Tr)(whole a:Expr)(op:Operator)(b:Expr):Option FE :=
 if DQ whole=true then (T.f whole).map cn else (RH op).bind fun g=>(T.e a).bind fun x=>(T.e b).map fun y=>f2 g x y
def y0(T:Tr)(op:BoolOp):List Expr->Option FE
 | []=>none
 | [a]=>T.e a
 | a::b::r=>(T.e a).bind fun x=>(y0 T op (b::r)).map fun y=>match op with|.And=>lP x y|.Or=>RA x y
def QJ:CmpOp->Option (D->D->Option D)
 | .Lt=>some GE
 | .LtE=>some EK
 | .Gt=>some vd
 | .GtE=>some RV
 | .Eq=>some aP
 | .NotEq=>some Br
 | .In=>none
 | .NotIn=>some BP
 | .Is=>some Az
 | .IsNot=>some oS
def Sa:CmpOp->Option (D->D->Option D)
 | .Lt=>some GE
 | .LtE=>some EK
 | _=>none
def EE(T:Tr)(a:Expr)(ops:List CmpOp)(cs:List Expr):Option FE:=match ops,cs with
 | [op],[b]=>if behindInMarks op b=false then (QJ op).bind fun g=>(T.e a).bind fun x=>(T.e b).map fun y=>f2 g x y else none
 | [op,op'],[b,c]=>if lastMarks [op,op'] [b,c]=false then (Sa op).bind fun g=>(Sa op').bind fun g'=>(T.e a).bind fun x=>(T.e b).bind fun y=>(T.e c).map fun z=>lb g g' x y z else none
 | _,_=>none
def xu(T:Tr):List Expr->Option (Dl.Env->Option (List D))
 | []=>some af
 | e::es=>if isStar e=false then (T.e e).bind fun x=>(xu T es).map fun r=>aa x r else none
def Sf(T:Tr):Option Expr->Option (Dl.Env->Option (Option Int))
 | none=>some qf
 | some e=>(T.e e).map Hu
def IH:Expr->Bool
 | .Slice ..=>true
 | .Tuple ..=>true
 | .Starred ..=>true
 | _=>false
def Iw(T:Tr)(a b:Expr):Option FE:=match b with
 | .Slice lo hi none _=>(T.e a).bind fun x=>(Sf T lo).bind fun l=>(Sf T hi).map fun h=>pE ke x l h
 | _=>if IH b=false then (T.e a).bind fun x=>(T.e b).map fun y=>f2 av x y else none
def oh:Expr->Option Expr
 | .Call (.Name x _) [e] [] _=>if x="set" then some e else none
 | _=>none
def Of(x:Str):Option String:=if x="int" then some "int" else if x="bool" then some "bool" else if x="tuple" then some "tuple" else if x="list" then some "list" else none
def B3(T:Tr)(x:Str)(args:List Expr):Option FE :=
 if x="max" then (if args.isEmpty=true then none else (xu T args).map fun fs=>bA CY fs)
 else none
def B7(G:Sg)(sc:Scope)(T:Tr)(whole:Expr)(x:Str)(args:List Expr):Option FE :=
 if (tP sc x&&args.all fun e=>!isStar e)=true then
  match G.fn.lookup x with
  | some (n,m)=>if (args.isEmpty||x == ("__debug__":Str))=true then none else (xu T args).map fun fs=>ai n m fs
  | none =>
   if x="len" then (match args with
    | [e]=>(match oh e with
     | some e'=>if (tP sc "set"&&!isStar e')=true then (T.e e').map fun y=>f1 lL y else none
     | none=>(xu T args).map fun fs=>bA bS fs)
    | _=>none)
   else if x="isinstance" then (match args with
    | [e,.Name y _]=>if tP sc y=true then (Of y).bind fun ty=>(T.e e).map fun z=>M1 ty z else none
    | _=>none)
   else if x="tuple" then (if args.length=1 then (xu T args).map fun fs=>bA bw fs else none)
   else if x="all" then (if args.length=1 then (xu T args).map fun fs=>bA m7 fs else none)
   else if x="any" then none
   else if x="sum" then (if args.length=1 then (xu T args).map fun fs=>bA sZ fs else none)
   else if x="min" then (if args.isEmpty=true then none else (xu T args).map fun fs=>bA rH fs)
   else if (x == ("list":Str)||x == ("sorted":Str))=true then (T.f whole).map cn
   else B3 T x args
 else none
def yc:Expr->Bool
 | .Call ..=>true
 | _=>false
def CK(T:Tr)(o:Expr)(m:Str)(apos:Pos)(args:List Expr)(cpos:Pos):Option FE :=
 if (m == ("index":Str)&&apos.endLine == cpos.line&&!yc o)=true then (match args with
  | [e]=>if isStar e=false then (T.e o).bind fun x=>(T.e e).map fun y=>f2 mw x y else none
  | _=>none)
 else none
def GI(G:Sg)(sc:Scope)(N:List Str)(T:Tr)(whole:Expr):Option FE:=match whole with
 | .Name x _=>Cv G sc N x
 | .Constant c _ _=>DP c
 | .UnaryOp op a _=>PZ T op a
 | .BinOp a op b _=>Il T whole a op b
 | .BoolOp op es _=>y0 T op es
 | .Compare a ops cs _=>EE T a ops cs
 | .IfExp c a b _=>(T.t c).bind fun z=>(T.e a).bind fun x=>(T.e b).map fun y=>Bh z x y
 | .Tuple es _ _=>(xu T es).map aJ
 | .Subscript a b _=>Iw T a b
 | .List ..=>(T.f whole).map cn
 | .ListComp ..=>(T.f whole).map cn
 | .Call (.Name x _) args [] _=>B7 G sc T whole x args
 | .Call (.Name _ _) _ (_::_) _=>(T.f whole).map cn
 | .Call (.Attribute o m apos) args [] cpos=>CK T o m apos args cpos
 | _=>none
def Rx(T:Tr)(op:BoolOp):List Expr->Option (Dl.Env->Option Bool)
 | []=>none
 | [a]=>T.t a
 | a::b::r=>(T.t a).bind fun x=>(Rx T op (b::r)).map fun y=>match op with|.And=>dv x y|.Or=>Cj x y
def HI:Expr->Bool
 | .Name ..=>true
 | .Call ..=>true
 | .Subscript ..=>true
 | _=>false
def stepT(T:Tr)(whole:Expr):Option (Dl.Env->Option Bool):=match whole with
 | .Compare a ops cs _=>(EE T a ops cs).map fB
 | .UnaryOp .Not a _=>(T.t a).map cm
 | .BoolOp op es _=>Rx T op es
 | _=>if HI whole=true then (T.e whole).map fB else none
def yo:Expr->Bool
 | .Tuple ..=>true
 | _=>false
def Rw(sc:Scope)(T:Tr)(tg iter:Expr):Option (Dl.Env->Option (List D)):=match iter with
 | .Call (.Name x _) args [] _ =>
  if x="range" then (match args with|[e]=>if (tP sc "range"&&!isStar e)=true then (xu T args).map aZ else none|_=>none)
  else if x="enumerate" then (match args with|[e]=>if (tP sc "enumerate"&&!isStar e&&yo tg)=true then (xu T args).map bH else none|_=>none)
  else if x="zip" then (match args with|[e,e']=>if (tP sc "zip"&&!isStar e&&!isStar e'&&yo tg)=true then (xu T args).map ck else none|_=>none)
  else (T.e iter).map aQ
 | .Set ..=>none
 | _=>(T.e iter).map aQ
def Sv:Expr->Option (List Str)
 | .Name x _=>some [x]
 | .Tuple [.Name x _,.Name y _] _ _=>some [x,y]
 | _=>none
def Sl:Expr->Option (List Str)
 | .Tuple [.Name x _,.Name y _,.Name z _] _ _=>some [x,y,z]
 | tg=>Sv tg
def fA(N:List Str)(scope:Scope):List Nat:=(List.range N.length).filter fun j=>match N[j]? with|some x=>decide (scope.names.lookup x=some .free)|none=>false
def Px:Expr->Bool
 | .Set ..=>false
 | _=>true
def MP(B:Tr)(ifs:List Expr):Option (Dl.Env->Option Bool):=match ifs with
 | []=>some fun _=>some true
 | [c]=>B.t c
 | _=>none
def ze(sc:Scope)(N:List Str)(T:Tr)(blk:Scope->List Str->Tr)(elt:Expr)(gens:List Comprehension)(scope:Scope):Option (Dl.Env->Option (List D)):=match gens with
 | [⟨tg,iter,ifs,as⟩] =>
  if as=0 then (Sl tg).bind fun xs =>
   if (jq sc scope N (xs++(fA N scope).filterMap fun j=>N[j]?) xs.length (fA N scope)&&(List.range xs.length).all fun i=>rE (xs++(fA N scope).filterMap fun j=>N[j]?) scope i (xs.getD i ""))=true then
    (Rw sc T tg iter).bind fun fi=>(MP (blk scope (xs++(fA N scope).filterMap fun j=>N[j]?)) ifs).bind fun tt =>
     ((blk scope (xs++(fA N scope).filterMap fun j=>N[j]?)).e elt).map fun te=>ao xs.length (fA N scope) fi (match xs with|[_]=>fG 0|[_,_]=>ft 0 1|_=>Kq 0 1 2) tt te
   else none
  else none
 | _=>none
def Ec:Arguments->Option Str
 | ⟨[],[⟨x,none,_⟩],none,[],[],none,[]⟩=>if x="number" then some x else if x="plan" then some x else none
 | _=>none
def yw(lam:Option Str)(sc:Scope)(N:List Str)(T:Tr)(lmb:Scope->List Str->Tr)(l:Expr)(params:Arguments)(body:Expr)(scope:Scope):Option (Dl.Env->Option (List D)) :=
 if (lam.isSome&&tP sc "sorted"&&!isStar l)=true then
  (Ec params).bind fun p =>
   if (jq sc scope N (p::(fA N scope).filterMap fun j=>N[j]?) 1 (fA N scope)&&oX scope (p::(fA N scope).filterMap fun j=>N[j]?) p)=true then
    (T.e l).bind fun fl=>((lmb scope (p::(fA N scope).filterMap fun j=>N[j]?)).e body).map fun te=>oK (fA N scope) fl te
   else none
 else none
def zi(lam:Option Str)(sc:Scope)(N:List Str)(T:Tr)(lmb:Scope->List Str->Tr)(l:Expr)(params:Arguments)(body:Expr)(scope:Scope):Option (Dl.Env->Option (List D)):=match l with
 | .Call (.Name r _) [e] [] _ =>
  if (lam.isSome&&tP sc "sorted"&&r == ("range":Str)&&tP sc "range"&&!isStar e)=true then
   (Ec params).bind fun p =>
    if (jq sc scope N (p::(fA N scope).filterMap fun j=>N[j]?) 1 (fA N scope)&&oX scope (p::(fA N scope).filterMap fun j=>N[j]?) p)=true then
     (xu T [e]).bind fun fs=>((lmb scope (p::(fA N scope).filterMap fun j=>N[j]?)).e body).map fun te=>qg (fA N scope) fs te
    else none
  else none
 | _=>none
def D2(lam:Option Str)(sc:Scope)(N:List Str)(T:Tr)(blk lmb:Scope->List Str->Tr)(whole:Expr):Option (Dl.Env->Option (List D)):=match whole with
 | .List es _=>(xu T es).map cD
 | .ListComp elt gens scope _=>ze sc N T blk elt gens scope
 | .BinOp a .Mult b _=>if Na a=true then (T.f a).bind fun x=>(T.e b).map fun y=>m6 x y else none
 | .BinOp a .Add b _=>(T.e a).bind fun x=>(T.e b).map fun y=>PP nO x y
 | .Call (.Name x _) [l] [⟨some ky,.Lambda params body scope _,_⟩] _=>if (x == ("sorted":Str)&&ky == ("key":Str))=true then (match yw lam sc N T lmb l params body scope with|some f=>some f|none=>zi lam sc N T lmb l params body scope) else none
 | .Call (.Name x _) [e] [] _ =>
  if (tP sc x&&!isStar e)=true then
   if x="list" then (xu T [e]).map fun fs=>kn cK fs
   else if x="sorted" then (xu T [e]).map fun fs=>kn gL fs
   else none
  else none
 | _=>none
def tr(G:Sg):Nat->Option Str->Scope->List Str->Tr
 | 0,_,_,_=>⟨fun _=>none,fun _=>none,fun _=>none⟩
 | n+1,lam,sc,N=>⟨GI G sc N (tr G n lam sc N),D2 lam sc N (tr G n lam sc N) (tr G n none) (tr G n none),stepT (tr G n lam sc N)⟩
structure PU(G:Sg)(X:Cx)(j:Nat):Prop where
 fn:∀x n m,G.fn.lookup x=some (n,m)->eM X.prog X.w X.K X.mg X.base j x n m
 int:∀x i,G.int.lookup x=some i->∃t,X.mg x=some (.int i t)
 bn:Bn X
structure qp(X:Cx)(tg iter:Expr)(ifs:List Expr)(elt:Expr)(scope:Scope)(f:Dl.Env->Option (List D)):Prop where
 ex:∃ (N':List Str) (t:Nat) (cs:List Nat) (fi:Dl.Env->Option (List D)) (tgt:Dl.Env->D->Option Dl.Env) (tt:Dl.Env->Option Bool) (te:FE),f=ao t cs fi tgt tt te/\jg X scope N' (ka t cs)/\DI X tg iter fi/\(∀x,foldedSetIterable iter X.env x=pure x) /\
  ∀fp s H,DG (ba X scope N' fp s H) tg tgt/\P3 (ba X scope N' fp s H) ifs tt/\DE (ba X scope N' fp s H) elt te
structure da(X:Cx)(T:Tr):Prop where
 c:∀elt gens scope p f,T.f (.ListComp elt gens scope p)=some f->∃tg iter ifs,gens=[⟨tg,iter,ifs,0⟩]/\qp X tg iter ifs elt scope f
 e:∀e f,T.e e=some f->DE X e f
 f:∀e f,T.f e=some f->DF X e f
 t:∀e f,T.t e=some f->DT X e f
section
variable {G:Sg}{X:Cx}{N:List Str}{sc:Scope}{k j:Nat}{T:Tr}{pos p:Pos}
theorem F1(C:Bk X N sc k)(g:PU G X j)(h:Cv G sc N x=some f):DE X (.Name x pos) f:=by
 unfold Cv at h
 split at h
 ·split at h
  ·cases h;exact C.v _ ‹_›
  ·cases h
 ·split at h
  ·rename_i hg
   obtain⟨n,hn,rfl⟩:=ah h
   obtain⟨t,ht⟩:=g.int x n hn
   simp only[zF,yP] at hg
   exact Mj (C.gl hg.1) ht hg.2
  ·cases h
theorem CD{c:Const}{i:Nat}(h:DP c=some f):DE X (.Constant c i pos) f:=by
 cases c<;>cases h<;>first|exact NW|exact QU|exact Pd|exact OE
theorem La(C:Bk X N sc k)(O:da X T){op:UnaryOp}(h:PZ T op a=some f):DE X (.UnaryOp op a pos) f:=by
 cases op<;>try cases h
 ·obtain⟨x,hx,rfl⟩:=ah h;exact Oq (O.e _ _ hx)
theorem II(C:Bk X N sc k)(O:da X T){op:Operator}(h:Il T (.BinOp a op b pos) a op b=some f):DE X (.BinOp a op b pos) f:=by
 unfold Il at h
 split at h
 ·obtain⟨x,hx,rfl⟩:=ah h;exact DF.de (O.f _ _ hx)
 ·obtain⟨g,hg,h⟩:=bs h
  obtain⟨x,hx,h⟩:=bs h
  obtain⟨y,hy,rfl⟩:=ah h
  cases op<;>cases hg
  ·exact C.add (O.e _ _ hx) (O.e _ _ hy)
  ·exact C.sub (O.e _ _ hx) (O.e _ _ hy)
  ·exact C.mul (O.e _ _ hx) (O.e _ _ hy)
  ·exact C.mod (O.e _ _ hx) (O.e _ _ hy)
  ·exact C.div (O.e _ _ hx) (O.e _ _ hy)
theorem ur(O:da X T){op:BoolOp}:∀ {es:List Expr}{f:FE},y0 T op es=some f->DE X (.BoolOp op es pos) f
 | [],f,h=>by cases h
 | [a],f,h=>OV (O.e _ _ h)
 | a::b::r,f,h=>by
  unfold y0 at h
  obtain⟨x,hx,h⟩:=bs h
  obtain⟨y,hy,rfl⟩:=ah h
  have ih:=ur O hy
  cases op with
  | And=>exact Pj (O.e _ _ hx) ih
  | Or=>exact QD (O.e _ _ hx) ih
theorem Oe(C:Bk X N sc k){op:CmpOp}{g:D->D->Option D}{x y:FE}(hg:QJ op=some g)(hm:behindInMarks op b=false)(ha:DE X a x)(hb:DE X b y):DE X (.Compare a [op] [b] pos) (f2 g x y)/\DT X (.Compare a [op] [b] pos) (fB (f2 g x y)):=by
 cases op<;>cases hg
 ·exact⟨C.eq ha hb,C.teq ha hb⟩
 ·exact⟨C.ne ha hb,C.tne ha hb⟩
 ·exact⟨C.lt ha hb,C.tlt ha hb⟩
 ·exact⟨C.le ha hb,C.tle ha hb⟩
 ·exact⟨C.gt ha hb,C.tgt ha hb⟩
 ·exact⟨C.ge ha hb,C.tge ha hb⟩
 ·exact⟨C.is0 ha hb,C.tis0 ha hb⟩
 ·exact⟨C.not0 ha hb,C.tnot0 ha hb⟩
 ·exact⟨C.notin ha hb hm,C.tnin ha hb hm⟩
theorem M6{op:CmpOp}{g:D->D->Option D}(h:Sa op=some g):∃r,hU X (compareOp op) r/\fM X.K r g:=by
 cases op<;>cases h
 ·exact⟨_,HH,g8⟩
 ·exact⟨_,IE,g8⟩
theorem Aj(C:Bk X N sc k)(O:da X T){ops:List CmpOp}{cs:List Expr}(h:EE T a ops cs=some f):DE X (.Compare a ops cs pos) f/\DT X (.Compare a ops cs pos) (fB f):=by
 unfold EE at h
 split at h
 ·split at h
  ·rename_i hm
   obtain⟨g,hg,h⟩:=bs h
   obtain⟨x,hx,h⟩:=bs h
   obtain⟨y,hy,rfl⟩:=ah h
   exact Oe C hg hm (O.e _ _ hx) (O.e _ _ hy)
  ·cases h
 ·split at h
  ·rename_i hm
   obtain⟨g,hg,h⟩:=bs h
   obtain⟨g',hg',h⟩:=bs h
   obtain⟨x,hx,h⟩:=bs h
   obtain⟨y,hy,h⟩:=bs h
   obtain⟨z,hz,rfl⟩:=ah h
   obtain⟨r,r1,r2⟩:=M6 (X:=X) hg
   obtain⟨r',r1',r2'⟩:=M6 (X:=X) hg'
   exact⟨HC r1 r2 r1' r2' (O.e _ _ hx) (O.e _ _ hy) (O.e _ _ hz) hm,Hx r1 r2 r1' r2' (O.e _ _ hx) (O.e _ _ hy) (O.e _ _ hz) hm⟩
  ·cases h
 ·cases h
theorem cZ(O:da X T):∀ {es:List Expr}{fs:Dl.Env->Option (List D)},xu T es=some fs->DA X es fs
 | [],fs,h=>by cases h;exact Ji
 | e::es,fs,h=>by
  unfold xu at h
  split at h
  ·rename_i hs
   obtain⟨x,hx,h⟩:=bs h
   obtain⟨r,hr,rfl⟩:=ah h
   exact Sw hs (O.e _ _ hx) (cZ O hr)
  ·cases h
theorem Jz(O:da X T){o:Option Expr}{f:Dl.Env->Option (Option Int)}(h:Sf T o=some f):DO X o f:=by
 cases o with
 | none=>cases h;exact Kz
 | some e=>obtain⟨x,hx,rfl⟩:=ah h;exact L9 (O.e _ _ hx)
theorem Dc(h:IH b=false):wx b:=by
 cases b<;>first|(intro _ _;rfl)|cases h
theorem GQ(C:Bk X N sc k)(O:da X T)(h:Iw T a b=some f):DE X (.Subscript a b pos) f:=by
 unfold Iw at h
 split at h
 ·obtain⟨x,hx,h⟩:=bs h
  obtain⟨l,hl,h⟩:=bs h
  obtain⟨u,hu,rfl⟩:=ah h
  exact C.cut (O.e _ _ hx) (Jz O hl) (Jz O hu)
 ·split at h
  ·rename_i hc
   obtain⟨x,hx,h⟩:=bs h
   obtain⟨y,hy,rfl⟩:=ah h
   exact PY (O.e _ _ hx) (O.e _ _ hy) (Dc hc)
  ·cases h
theorem dg{env:PySem.Env}:∀ {es:List Expr},(es.all fun e=>!isStar e)=true->(backTo pos (starEach es env)).any (·.1)=false
 | [],_=>rfl
 | e::es,h=>by
  rw[xS,zF,yP] at h
  rw[bx h.1]
  show (false||(backTo pos (starEach es env)).any (·.1))=false
  rw[dg h.2]
  rfl
theorem G6{e e':Expr}(h:oh e=some e'):∃p q,e=.Call (.Name "set" p) [e'] [] q:=by
 unfold oh at h
 split at h
 ·split at h
  ·rename_i hx;cases h;subst hx;exact⟨_,_,rfl⟩
  ·cases h
 ·cases h
theorem Mu{ty:String}(h:Of y=some ty):y∈cB/\bootBuiltins y=some (.type ty)/\y≠"__name__"/\(y == ("__debug__":Str))=false:=by
 unfold Of at h
 split at h
 ·rename_i e;cases h;subst e;exact⟨by decide +kernel,by decide +kernel,by decide,by decide⟩
 ·split at h
  ·rename_i e;cases h;subst e;exact⟨by decide +kernel,by decide +kernel,by decide,by decide⟩
  ·split at h
   ·rename_i e;cases h;subst e;exact⟨by decide +kernel,by decide +kernel,by decide,by decide⟩
   ·split at h
    ·rename_i e;cases h;subst e;exact⟨by decide +kernel,by decide +kernel,by decide,by decide⟩
    ·cases h
theorem OX:bootBuiltins "sum"=some (.builtin "sum"):=by decide +kernel
theorem NP:bootBuiltins "max"=some (.builtin "max"):=by decide +kernel
theorem NQ:bootBuiltins "min"=some (.builtin "min"):=by decide +kernel
theorem BY{α:Type}{l:List α}(h:l.length=1):∃a,l=[a]:=by
 match l,h with
 | [a],_=>exact⟨a,rfl⟩
theorem E8(C:Bk X N sc k)(g:PU G X j)(O:da X T)(hg:tP sc x=true)(hs:args.all (fun e=>!isStar e)=true)(h:B3 T x args=some f):DE X (.Call (.Name x p) args [] pos) f:=by
 have st1:∀ {e:Expr}{es:List Expr},args=e::es->starEach (e::es) X.env=(false,eval e X.env)::starEach es X.env:=fun {e es} q=>by
  subst q
  rw[xS,zF,yP] at hs
  exact bx hs.1
 have st2:∀ {e:Expr}{es:List Expr},args=e::es->(backTo pos (starEach es X.env)).any (·.1)=false:=fun {e es} q=>by
  subst q
  rw[xS,zF] at hs
  exact dg hs.2
 unfold B3 at h
 split at h
 ·rename_i hx
  subst hx
  split at h
  ·cases h
  ·rename_i hl
   obtain⟨fs,hfs,rfl⟩:=ah h
   cases args with
   | nil=>exact absurd rfl hl
   | cons e es =>
    exact Ov C.calm (C.blt g.bn hg (by decide +kernel) NP) (st1 rfl) (st2 rfl) (cZ O hfs)
 ·cases h
theorem Gw(C:Bk X N sc k)(g:PU G X j)(hjk:j<=k)(O:da X T)(h:B7 G sc T (.Call (.Name x p) args [] pos) x args=some f):DE X (.Call (.Name x p) args [] pos) f:=by
 unfold B7 at h
 split at h
 ·rename_i hg
  rw[zF] at hg
  obtain⟨hg,hs⟩:=hg
  have st1:∀ {e:Expr}{es:List Expr},args=e::es->starEach (e::es) X.env=(false,eval e X.env)::starEach es X.env:=fun {e es} q=>by
   subst q
   rw[xS,zF,yP] at hs
   exact bx hs.1
  have st2:∀ {e:Expr}{es:List Expr},args=e::es->(backTo pos (starEach es X.env)).any (·.1)=false:=fun {e es} q=>by
   subst q
   rw[xS,zF] at hs
   exact dg hs.2
  split at h
  ·rename_i n m hfn
   split at h
   ·cases h
   ·rename_i hne
    obtain⟨fs,hfs,rfl⟩:=ah h
    cases args with
    | nil=>exact absurd (by simp) hne
    | cons e es =>
     have hd:(x == ("__debug__":Str))=false:=by simpa using hne
     exact Mi (g.fn x n m hfn) (C.room.mono hjk) (C.gl hg) (cZ O hfs) hd (st1 rfl) (st2 rfl)
  ·split at h
   ·rename_i hx
    subst hx
    split at h
    ·rename_i e
     split at h
     ·rename_i e' he'
      split at h
      ·rename_i hg2
       rw[zF,yP] at hg2
       obtain⟨y,hy,rfl⟩:=ah h
       obtain⟨p1,p2,rfl⟩:=G6 he'
       exact Ft C.calm (C.blt g.bn hg (by decide +kernel) Jk) (C.blt g.bn hg2.1 (by decide +kernel) Od) (O.e _ _ hy) (bx hg2.2)
      ·cases h
     ·obtain⟨fs,hfs,rfl⟩:=ah h
      exact O3 (C.blt g.bn hg (by decide +kernel) Jk) (cZ O hfs) (st1 rfl)
    ·cases h
   ·split at h
    ·rename_i hx
     subst hx
     split at h
     ·rename_i e y py
      split at h
      ·rename_i hgy
       obtain⟨ty,hty,h⟩:=bs h
       obtain⟨z,hz,rfl⟩:=ah h
       obtain⟨t1,t2,t3,t4⟩:=Mu hty
       exact Q7 (C.blt g.bn hg (by decide +kernel) td) (C.blt g.bn hgy t1 t2) (O.e _ _ hz) t3 t4 (st1 rfl)
      ·cases h
     ·cases h
    ·split at h
     ·rename_i hx
      subst hx
      split at h
      ·rename_i hl
       obtain⟨fs,hfs,rfl⟩:=ah h
       obtain⟨e,rfl⟩:=BY hl
       exact HY (C.blt g.bn hg (by decide +kernel) JD) (cZ O hfs) (st1 rfl)
      ·cases h
     ·split at h
      ·rename_i hx
       subst hx
       split at h
       ·rename_i hl
        obtain⟨fs,hfs,rfl⟩:=ah h
        obtain⟨e,rfl⟩:=BY hl
        exact Po C.calm (C.blt g.bn hg (by decide +kernel) NI) (cZ O hfs) (st1 rfl)
       ·cases h
      ·split at h
       ·cases h
       ·split at h
        ·rename_i hx
         subst hx
         split at h
         ·rename_i hl
          obtain⟨fs,hfs,rfl⟩:=ah h
          obtain⟨e,rfl⟩:=BY hl
          exact Ol C.calm (C.blt g.bn hg (by decide +kernel) OX) (st1 rfl) (cZ O hfs)
         ·cases h
        ·split at h
         ·rename_i hx
          subst hx
          split at h
          ·cases h
          ·rename_i hl
           obtain⟨fs,hfs,rfl⟩:=ah h
           cases args with
           | nil=>exact absurd rfl hl
           | cons e es =>
            exact N1 C.calm (C.blt g.bn hg (by decide +kernel) NQ) (st1 rfl) (st2 rfl) (cZ O hfs)
         ·split at h
          ·obtain⟨y,hy,rfl⟩:=ah h
           exact DF.de (O.f _ _ hy)
          ·exact E8 C g O hg hs h
 ·cases h
end
section
variable {G:Sg}{X:Cx}{N:List Str}{sc:Scope}{k j:Nat}{T:Tr}{pos p:Pos}
theorem RR(h:isStar e=false):((backTo cpos (starEach [e] env)).all (fun x=>!x.1)&&(backToKw cpos (keywordEach [] env)).all (fun x=>x.1.isSome)&&decide ([e].length+([]:List Keyword).length+(if ([]:List Keyword).isEmpty then 0 else 1) < 30))=true:=by
 rw[bx h];rfl
theorem mX{a:Str}{w:Sem Value}(h:yc o=false):attributeBase o a env w=w:=by
 cases o<;>first|rfl|cases h
theorem F9(C:Bk X N sc k)(O:da X T){m:Str}{apos cpos:Pos}(h:CK T o m apos args cpos=some f):DE X (.Call (.Attribute o m apos) args [] cpos) f:=by
 unfold CK at h
 split at h
 ·rename_i hm
  rw[zF,zF,yP] at hm
  obtain⟨⟨hm1,hm⟩,hcl⟩:=hm
  have e1:m="index":=eq_of_beq hm1
  subst e1
  split at h
  ·rename_i e
   split at h
   ·rename_i hs
    obtain⟨x,hx,h⟩:=bs h
    obtain⟨y,hy,rfl⟩:=ah h
    exact Fi (mX hcl) (RR hs) hm (bx hs) (O.e _ _ hx) (O.e _ _ hy)
   ·cases h
  ·cases h
 ·cases h
theorem Io(C:Bk X N sc k)(g:PU G X j)(hjk:j<=k)(O:da X T)(h:GI G sc N T e=some f):DE X e f:=by
 unfold GI at h
 split at h
 ·exact F1 C g h
 ·exact CD h
 ·exact La C O h
 ·exact II C O h
 ·exact ur O h
 ·exact (Aj C O h).1
 ·obtain⟨z,hz,h⟩:=bs h
  obtain⟨x,hx,h⟩:=bs h
  obtain⟨y,hy,rfl⟩:=ah h
  exact QF (O.t _ _ hz) (O.e _ _ hx) (O.e _ _ hy)
 ·obtain⟨x,hx,rfl⟩:=ah h;exact NK (cZ O hx)
 ·exact GQ C O h
 ·obtain⟨x,hx,rfl⟩:=ah h;exact DF.de (O.f _ _ hx)
 ·obtain⟨x,hx,rfl⟩:=ah h;exact DF.de (O.f _ _ hx)
 ·exact Gw C g hjk O h
 ·obtain⟨x,hx,rfl⟩:=ah h;exact DF.de (O.f _ _ hx)
 ·exact F9 C O h
 ·cases h
theorem IV(O:da X T){op:BoolOp}:∀ {es:List Expr}{f:Dl.Env->Option Bool},Rx T op es=some f->DW X (.BoolOp op es pos) f
 | [],f,h=>by cases h
 | [a],f,h=>by
  cases op with
  | And=>exact Kv (O.t _ _ h)
  | Or=>exact OH (O.t _ _ h)
 | a::b::r,f,h=>by
  unfold Rx at h
  obtain⟨x,hx,h⟩:=bs h
  obtain⟨y,hy,rfl⟩:=ah h
  have ih:=IV O hy
  cases op with
  | And=>exact Pf (O.t _ _ hx) ih
  | Or=>exact P0 (O.t _ _ hx) ih
theorem Jb(C:Bk X N sc k)(O:da X T){f:Dl.Env->Option Bool}(h:stepT T e=some f):DT X e f:=by
 unfold stepT at h
 split at h
 ·obtain⟨x,hx,rfl⟩:=ah h;exact (Aj C O hx).2
 ·obtain⟨x,hx,rfl⟩:=ah h;exact Nx (O.t _ _ hx)
 ·exact DW.dt (IV O h)
 ·split at h
  ·rename_i hp
   obtain⟨x,hx,rfl⟩:=ah h
   refine Pm (O.e _ _ hx) ?_
   revert hp
   cases e<;>first|(intro hp;cases hp;done)|(intro hp _;rfl)
  ·cases h
theorem Pk(h:Px e=true):∀x,foldedSetIterable e env x=pure x:=by
 cases e<;>first|(intro _;rfl)|cases h
theorem JB(C:Bk X N sc k)(B:Bn X)(O:da X T){fi:Dl.Env->Option (List D)}(h:Rw sc T tg iter=some fi):DI X tg iter fi/\∀x,foldedSetIterable iter X.env x=pure x:=by
 unfold Rw at h
 split at h
 ·refine⟨?_,fun _=>rfl⟩
  split at h
  ·rename_i hx
   subst hx
   split at h
   ·split at h
    ·rename_i hg
     rw[zF,yP] at hg
     obtain⟨x,hx,rfl⟩:=ah h
     exact Jd (C.blt B hg.1 (by decide +kernel) z7) (cZ O hx) (bx hg.2)
    ·cases h
   ·cases h
  ·split at h
   ·rename_i hx
    subst hx
    split at h
    ·split at h
     ·rename_i hg
      simp only[zF,yP] at hg
      obtain⟨x,hx,rfl⟩:=ah h
      cases tg<;>first|exact Mn (C.blt B hg.1.1 (by decide +kernel) wq) (cZ O hx) (bx hg.1.2)|exact absurd hg.2 (by simp[yo])
     ·cases h
    ·cases h
   ·split at h
    ·rename_i hx
     subst hx
     split at h
     ·split at h
      ·rename_i e e' hg
       simp only[zF,yP] at hg
       obtain⟨x,hx,rfl⟩:=ah h
       cases tg<;>first|exact Mo (C.blt B hg.1.1.1 (by decide +kernel) Ng) (bx hg.1.1.2) (dg (by simp[hg.1.2])) (cZ O hx)|exact absurd hg.2 (by simp[yo])
      ·cases h
     ·cases h
    ·obtain⟨x,hx,rfl⟩:=ah h
     exact GU (O.e _ _ hx)
 ·cases h
 ·rename_i h1 h2
  obtain⟨x,hx,rfl⟩:=ah h
  refine⟨GU (O.e _ _ hx),Pk ?_⟩
  cases iter<;>first|rfl|exact absurd rfl (h2 _ _ _)
theorem Pq(h:Sv tg=some xs):(∃x px,tg=.Name x px/\xs=[x])\/∃x px y py m pt,tg=.Tuple [.Name x px,.Name y py] m pt/\xs=[x,y]:=by
 unfold Sv at h
 split at h
 ·cases h;exact .inl ⟨_,_,rfl,rfl⟩
 ·cases h;exact .inr ⟨_,_,_,_,_,_,rfl,rfl⟩
 ·cases h
theorem Ox(h:Sl tg=some xs):((∃x px,tg=.Name x px/\xs=[x])\/∃x px y py m pt,tg=.Tuple [.Name x px,.Name y py] m pt/\xs=[x,y])\/∃x px y py z pz m pt,tg=.Tuple [.Name x px,.Name y py,.Name z pz] m pt/\xs=[x,y,z]:=by
 unfold Sl at h
 split at h
 ·cases h;exact .inr ⟨_,_,_,_,_,_,_,_,rfl,rfl⟩
 ·exact .inl (Pq h)
theorem uO(C:Bk X N sc k)(B:Bn X)(O:da X T)(OB:∀scope N' fp s H,Bk (ba X scope N' fp s H) N' scope k->da (ba X scope N' fp s H) (blk scope N')){as:Int}{f:Dl.Env->Option (List D)}
  (h:ze sc N T blk elt [⟨tg,iter,ifs,as⟩] scope=some f):as=0/\qp X tg iter ifs elt scope f:=by
 unfold ze at h
 dsimp only at h
 split at h
 ·rename_i has
  refine⟨has,?_⟩
  obtain⟨xs,hxs,h⟩:=bs h
  split at h
  ·rename_i hok
   rw[zF] at hok
   obtain⟨fi,hfi,h⟩:=bs h
   obtain⟨tt,htt,h⟩:=bs h
   obtain⟨te,hte,rfl⟩:=ah h
   obtain⟨S,CB⟩:=C.comp hok.1
   obtain⟨hd,hfold⟩:=JB C B O hfi
   refine⟨_,_,_,_,_,_,_,rfl,S,hd,hfold,fun fp s H=>?_⟩
   have C1:=CB fp s H
   have O1:=OB scope _ fp s H C1
   refine⟨?_,?_,O1.e _ _ hte⟩
   ·rcases Ox hxs with (⟨x,px,rfl,rfl⟩|⟨x,px,y,py,m,pt,rfl,rfl⟩)|⟨x,px,y,py,z,pz,m,pt,htg,rfl⟩
    ·have z:=C1.loc (i:=0) (x:=x) (List.all_eq_true.mp hok.2 0 (by simp))
     exact Lj 0 z.1 z.2.1 z.2.2.1 z.2.2.2
    ·have z:=C1.loc (i:=0) (x:=x) (List.all_eq_true.mp hok.2 0 (by simp))
     have w:=C1.loc (i:=1) (x:=y) (List.all_eq_true.mp hok.2 1 (by simp))
     exact Ph 0 1 C1.calm z.1 z.2.1 z.2.2.1 w.2.1 w.2.2.1 z.2.2.2 w.2.2.2
    ·have z0:=C1.loc (i:=0) (x:=x) (List.all_eq_true.mp hok.2 0 (by simp))
     have w:=C1.loc (i:=1) (x:=y) (List.all_eq_true.mp hok.2 1 (by simp))
     have u:=C1.loc (i:=2) (x:=z) (List.all_eq_true.mp hok.2 2 (by simp))
     subst htg
     exact JJ 0 1 2 C1.calm z0.1 z0.2.1 z0.2.2.1 w.2.1 w.2.2.1 u.2.1 u.2.2.1 z0.2.2.2 w.2.2.2 u.2.2.2
   ·unfold MP at htt
    split at htt
    ·cases htt;exact Me
    ·exact Ms (O1.t _ _ htt)
    ·cases htt
  ·cases h
 ·cases h
theorem qp.df{f:Dl.Env->Option (List D)}(hc:X.calm=true)(h:qp X tg iter ifs elt scope f):DF X (.ListComp elt [⟨tg,iter,ifs,0⟩] scope pos) f:=by
 obtain⟨N',t,cs,fi,tgt,tt,te,rfl,S,hd,hfold,hY⟩:=h.ex
 exact Li hc S hd hY hfold
theorem Ak{a:Arguments}(h:Ec a=some x):∃px,a=⟨[],[⟨x,none,px⟩],none,[],[],none,[]⟩/\(x="number"\/x="plan"):=by
 unfold Ec at h
 split at h
 ·split at h
  ·cases h;exact⟨_,rfl,.inl ‹_›⟩
  ·split at h
   ·cases h;exact⟨_,rfl,.inr ‹_›⟩
   ·cases h
 ·cases h
theorem bind1{body:Expr}{cl:List (Str×Addr)}{pm ctv u:Value}{c:Addr}(h:x="number"\/x="plan") :
  bindArgs (W.kla_fn "<lambda>" q ⟨[],[⟨x,none,px⟩],none,[],[],none,[]⟩ body scope cl pm (.ref c) ctv) ⟨[u],[]⟩=pure [(x,u)]:=by
 rcases h with rfl|rfl<;>rfl
theorem BH(C:Bk X N sc k)(B:Bn X)(hlam:∀q,lam=some q->sD X q/\j+3<=k)(O:da X T)
  (OL:∀scope N' qual A f c s H,Bk (gO X A qual scope N' f c s H) N' scope (k - 3)->j<=k - 3->da (gO X A qual scope N' f c s H) (lmb scope N')) {l body:Expr}{params:Arguments}{scope:Scope}{p0 lpos kpos:Pos}{f:Dl.Env->Option (List D)}
  (h:yw lam sc N T lmb l params body scope=some f):DF X (.Call (.Name "sorted" p0) [l] [⟨some "key",.Lambda params body scope lpos,kpos⟩] pos) f:=by
 unfold yw at h
 split at h
 ·rename_i hg
  simp only[zF,yP] at hg
  obtain⟨⟨hl,hg⟩,hs⟩:=hg
  obtain⟨q,rfl⟩:=Option.isSome_iff_exists.mp hl
  obtain⟨L,hk⟩:=hlam q rfl
  obtain⟨x,hx,h2⟩:=bs h
  clear h
  obtain⟨px,rfl,hpx⟩:=Ak hx
  split at h2
  ·rename_i hok
   rw[zF] at hok
   obtain⟨fl,hfl,h⟩:=bs h2
   obtain⟨te,hte,rfl⟩:=ah h
   obtain⟨k',rfl⟩:∃k',k=k'+3:=⟨k - 3,by lia⟩
   exact Bk.sortK (p:=x) C (C.blt B hg (by decide +kernel) og) L hok.1 hok.2 (fun _ _ _ _ _=>bind1 hpx) rfl (O.e _ _ hfl) (fun A f c s H C'=>(OL scope _ q A f c s H C' (by lia)).e _ _ hte) (bx hs) (by rw[bx hs];rfl) (dg (by simp[hs]))
  ·cases h2
 ·cases h
theorem Ci(C:Bk X N sc k)(B:Bn X)(hlam:∀q,lam=some q->sD X q/\j+3<=k)(O:da X T)
  (OL:∀scope N' qual A f c s H,Bk (gO X A qual scope N' f c s H) N' scope (k - 3)->j<=k - 3->da (gO X A qual scope N' f c s H) (lmb scope N')) {l body:Expr}{params:Arguments}{scope:Scope}{p0 lpos kpos:Pos}{f:Dl.Env->Option (List D)}
  (h:zi lam sc N T lmb l params body scope=some f):DF X (.Call (.Name "sorted" p0) [l] [⟨some "key",.Lambda params body scope lpos,kpos⟩] pos) f:=by
 unfold zi at h
 split at h
 ·split at h
  ·rename_i hg
   simp only[zF,yP] at hg
   obtain⟨⟨⟨⟨hl,hg⟩,hr⟩,hgr⟩,hs⟩:=hg
   have er:=eq_of_beq hr
   subst er
   obtain⟨q,rfl⟩:=Option.isSome_iff_exists.mp hl
   obtain⟨L,hk⟩:=hlam q rfl
   obtain⟨x,hx,h2⟩:=bs h
   clear h
   obtain⟨px,rfl,hpx⟩:=Ak hx
   split at h2
   ·rename_i hok
    rw[zF] at hok
    obtain⟨fl,hfl,h⟩:=bs h2
    obtain⟨te,hte,rfl⟩:=ah h
    obtain⟨k',rfl⟩:∃k',k=k'+3:=⟨k - 3,by lia⟩
    exact Bk.sortR (p:=x) C (C.blt B hg (by decide +kernel) og) (C.blt B hgr (by decide +kernel) z7) L hok.1 hok.2 (fun _ _ _ _ _=>bind1 hpx) rfl (cZ O hfl) (fun A f c s H C'=>(OL scope _ q A f c s H C' (by lia)).e _ _ hte) (bx hs) (bx rfl) (by rw[bx rfl];rfl) (dg (by rfl))
   ·cases h2
  ·cases h
 ·cases h
theorem G0(C:Bk X N sc k)(B:Bn X)(hlam:∀q,lam=some q->sD X q/\j+3<=k)(O:da X T)
  (OB:∀scope N' fp s H,Bk (ba X scope N' fp s H) N' scope k->da (ba X scope N' fp s H) (blk scope N'))
  (OL:∀scope N' qual A f c s H,Bk (gO X A qual scope N' f c s H) N' scope (k - 3)->j<=k - 3->da (gO X A qual scope N' f c s H) (lmb scope N')) {e:Expr}{f:Dl.Env->Option (List D)}(h:D2 lam sc N T blk lmb e=some f):DF X e f:=by
 unfold D2 at h
 split at h
 ·obtain⟨x,hx,rfl⟩:=ah h;exact NM (cZ O hx)
 ·rename_i elt gens scope ps
  match gens,h with
  | [⟨tg,iter,ifs,as⟩],h =>
   obtain⟨rfl,q⟩:=uO C B O OB h
   exact q.df C.calm
 ·split at h
  ·obtain⟨x,hx,h⟩:=bs h
   obtain⟨y,hy,rfl⟩:=ah h
   exact OS (O.f _ _ hx) (O.e _ _ hy)
  ·cases h
 ·obtain⟨x,hx,h⟩:=bs h
  obtain⟨y,hy,rfl⟩:=ah h
  exact OY (O.e _ _ hx) (O.e _ _ hy)
 ·split at h
  ·rename_i hk
   rw[zF] at hk
   have e1:=eq_of_beq hk.1
   have e2:=eq_of_beq hk.2
   subst e1 e2
   split at h
   ·cases h;exact BH C B hlam O OL ‹_›
   ·exact Ci C B hlam O OL h
  ·cases h
 ·split at h
  ·rename_i hg
   rw[zF,yP] at hg
   split at h
   ·rename_i hx
    subst hx
    obtain⟨x,hx,rfl⟩:=ah h
    exact L7 (C.blt B hg.1 (by decide +kernel) KP) (cZ O hx) (bx hg.2)
   ·split at h
    ·rename_i hx
     subst hx
     obtain⟨x,hx,rfl⟩:=ah h
     exact FN (C.blt B hg.1 (by decide +kernel) og) (cZ O hx) (bx hg.2)
    ·cases h
  ·cases h
 ·cases h
theorem Lk(C:Bk X N sc k)(B:Bn X)(O:da X T)(OB:∀scope N' fp s H,Bk (ba X scope N' fp s H) N' scope k->da (ba X scope N' fp s H) (blk scope N'))
  {elt:Expr}{gens:List Comprehension}{scope:Scope}{p:Pos}{f:Dl.Env->Option (List D)}(h:D2 lam sc N T blk lmb (.ListComp elt gens scope p)=some f):∃tg iter ifs,gens=[⟨tg,iter,ifs,0⟩]/\qp X tg iter ifs elt scope f:=by
 have h:ze sc N T blk elt gens scope=some f:=h
 match gens,h with
 | [⟨tg,iter,ifs,as⟩],h =>
  obtain⟨rfl,q⟩:=uO C B O OB h
  exact⟨tg,iter,ifs,rfl,q⟩
theorem EY(n:Nat):∀ {lam:Option Str}{X:Cx}{N:List Str}{sc:Scope}{k:Nat},Bk X N sc k->PU G X j->j<=k->(∀q,lam=some q->sD X q/\j+3<=k)->da X (tr G n lam sc N):=by
 induction n with
 | zero=>intro lam X N sc k C g hjk hlam;exact⟨fun _ _ _ _ _ h=>(by cases h),fun _ _ h=>(by cases h),fun _ _ h=>(by cases h),fun _ _ h=>(by cases h)⟩
 | succ n ih =>
  intro lam X N sc k C g hjk hlam
  have O:=ih C g hjk hlam
  exact⟨fun elt gens scope p f h=>Lk (lam:=lam) (lmb:=tr G n none) (p:=p) C g.bn O (fun scope N' fp s H C'=>ih C' ⟨g.fn,g.int,g.bn⟩ hjk fun q z=>by cases z) h,fun e f h=>Io C g hjk O h,
   fun e f h=>G0 C g.bn hlam O (fun scope N' fp s H C'=>ih C' ⟨g.fn,g.int,g.bn⟩ hjk fun q z=>by cases z) (fun scope N' qual A f c s H C' hk=>ih C' ⟨g.fn,g.int,g.bn⟩ hk fun q z=>by cases z) h,
   fun e f h=>Jb C O h⟩
end
def rM:Nat->Expr->List Str
 | 0,_=>[]
 | n+1,e=>match e with
  | .Name x _=>[x]
  | .UnaryOp _ a _=>rM n a
  | .BinOp a _ b _=>rM n a++rM n b
  | .BoolOp _ es _=>es.flatMap (rM n)
  | .Compare a _ cs _=>rM n a++cs.flatMap (rM n)
  | .IfExp c a b _=>rM n c++(rM n a++rM n b)
  | .Tuple es _ _=>es.flatMap (rM n)
  | .List es _=>es.flatMap (rM n)
  | .Subscript a b _=>rM n a++rM n b
  | .Slice lo hi st _=>(lo.toList++(hi.toList++st.toList)).flatMap (rM n)
  | .Call f args kws _=>rM n f++(args.flatMap (rM n)++kws.flatMap fun k=>rM n k.value)
  | .Attribute o _ _=>rM n o
  | .ListComp elt gens _ _=>rM n elt++gens.flatMap fun g=>rM n g.iter++g.ifs.flatMap (rM n)
  | .Lambda _ b _ _=>rM n b
  | _=>[]
def rh(N:List Str)(e:Expr):List Nat:=let ns:=rM 60 e;(List.range N.length).filter fun j=>match N[j]? with|some x=>ns.contains x|none=>false
abbrev GS:=ak->Option Out
def turns:Nat:=1000000
def B9:Expr->Bool
 | .ListComp ..=>true
 | .SetComp ..=>true
 | .DictComp ..=>true
 | _=>false
def Jo(sc:Scope)(N:List Str)(T:Tr)(x:Str)(px:Pos)(e:Expr):Option GS :=
 (N.idxOf? x).bind fun i=>if rE N sc i x=true then
  (if DQ e=true then (match e with
   | .ListComp _ _ scope lp =>
    if (decide (sc.names.lookup x=some .local)&&(px.line == lp.line&&!(scope.names.any fun (n,k)=>n == x&&(k == .local || k == .cell))))=true then (T.f e).map fun f=>aG i (rh N e) f
    else if decide (sc.names.lookup x=some .cell)=true then (T.f e).map fun f=>aG i (rh N e) f
    else if (px.line == lp.line)=false then (T.f e).map fun f=>aG i (rh N e) f
    else none
   | _=>(T.f e).map fun f=>aG i (rh N e) f)
  else if B9 e=false then (T.e e).map fun f=>aF i (rh N e) f else none) else none
def JG(N:List Str)(sc:Scope)(T:Tr)(e:Expr):Option GS:=match e with
 | .Constant (.str _) _ _=>some gH
 | .Call (.Attribute (.Name x _) m apos) args [] cpos =>
  (N.idxOf? x).bind fun i=>if (GD N sc i x&&apos.endLine == cpos.line&&args.all fun e=>!isStar e)=true then
   (if m="append" then (match args with
    | [a]=>(T.e a).map fun f=>mq i (rh N a) f
    | _=>none)
   else if m="extend" then (match args with
    | [a]=>(T.f a).map fun f=>E7 i (rh N a) f
    | _=>none)
   else if m="insert" then (match args with
    | [a,b]=>(T.e a).bind fun fk=>(T.e b).map fun f=>GY i (rh N b) fk f
    | _=>none)
   else none) else none
 | .Call (.Name _ _) _ _ _=>(T.e e).map rP
 | _=>none
def RX(sc:Scope)(N:List Str)(tg:Expr):Option (ak->D->Option ak):=match tg with
 | .Name x _=>(N.idxOf? x).bind fun i=>if rE N sc i x=true then some (kh i) else none
 | .Tuple [.Name x _,.Name y _] _ _=>(N.idxOf? x).bind fun i=>(N.idxOf? y).bind fun j=>if (rE N sc i x&&rE N sc j y)=true then some (fJ i j) else none
 | _=>none
def IL(sc:Scope)(N:List Str)(T:Tr)(x:Str)(kx e:Expr):Option GS :=
 (N.idxOf? x).bind fun i=>if (GD N sc i x&&!IH kx)=true then (T.e kx).bind fun fk=>(T.e e).map fun f=>vq i (rh N e) fk f else none
def w8(sc:Scope)(N:List Str)(T:Tr)(x y z:Str)(e:Expr):Option GS :=
 (N.idxOf? x).bind fun i=>(N.idxOf? y).bind fun j=>(N.idxOf? z).bind fun l=>if (((rE N sc i x&&rE N sc j y)&&rE N sc l z)&&IW e)=true then (T.e e).map fun f=>oi i j l (rh N e) f else none
def pJ(f:Stmt->Option GS):List Stmt->Option GS
 | []=>some gH
 | [s]=>f s
 | s::r=>(f s).bind fun g=>(pJ f r).map fun h=>ax g h
def um(sc:Scope)(N:List Str)(T:Tr):Nat->Stmt->Option GS
 | 0,_=>none
 | n+1,st=>match st with
  | .Return (some e) _=>(T.e e).map aK
  | .If c a b _=>(T.t c).bind fun t=>(pJ (um sc N T n) a).bind fun g=>(pJ (um sc N T n) b).map fun h=>ij t g h
  | .Assign [.Name x px] e _=>Jo sc N T x px e
  | .Assign [.Subscript (.Name x _) kx _] e _=>IL sc N T x kx e
  | .Assign [.Tuple [.Name x _,.Name y _,.Name z _] _ _] e _=>w8 sc N T x y z e
  | .For tg iter body [] _=>(Rw sc T tg iter).bind fun fi=>(RX sc N tg).bind fun t=>(pJ (um sc N T n) body).map fun g=>cX (rh N iter) fi t g
  | .While c body [] _=>(T.t c).bind fun t=>(pJ (um sc N T n) body).map fun g=>K7 t g turns
  | .Expr e _=>JG N sc T e
  | .Raise ..=>some Rt
  | .Pass _=>some gH
  | _=>none
section
variable {X:Cx}{N:List Str}{sc:Scope}{k:Nat}{T:Tr}{HF₀ H₀:Hp}{pos:Pos}
theorem gF{f:Stmt->Option GS}(H:∀s g,f s=some g->DS X HF₀ H₀ s g):∀ {l:List Stmt}{g:GS},pJ f l=some g->DV X HF₀ H₀ l g
 | [],g,h=>by cases h;exact My
 | [s],g,h=>Eo (H _ _ h)
 | s::t::r,g,h=>by
  unfold pJ at h
  obtain⟨x,hx,h⟩:=bs h
  obtain⟨y,hy,rfl⟩:=ah h
  exact Ja (H _ _ hx) (gF H hy)
theorem nZ{line:Nat}(h:B9 e=false):swapsWith e (some (.Name x px)) line env=pure false:=by
 cases e<;>first|rfl|cases h
theorem Jf(C:Bk X N sc k)(O:da X T){g:GS}(h:Jo sc N T x px e=some g):DS X HF₀ H₀ (.Assign [.Name x px] e pos) g:=by
 unfold Jo at h
 obtain⟨i,hi,h⟩:=bs h
 split at h
 ·rename_i hloc
  obtain⟨z1,z2,z3,z4⟩:=C.loc hloc
  split at h
  ·split at h
   ·rename_i elt gens scope lp hl
    split at h
    ·rename_i hc
     rw[zF] at hc
     obtain⟨f,hf,rfl⟩:=ah h
     obtain⟨tg,iter,ifs,rfl,q⟩:=O.c _ _ _ _ _ hf
     obtain⟨N',t,cs,fi,tgt,tt,te,rfl,S,hd,hfold,hY⟩:=q.ex
     exact Md i _ C.calm S hd hY z1 z2 (C.locl hc.1) (C.swap hc.1 hc.2) hfold
    ·split at h
     ·rename_i hc
      obtain⟨f,hf,rfl⟩:=ah h
      exact vi i _ z1 z2 z3 (O.f _ _ hf) (C.noswap hc) z4
     ·split at h
      ·rename_i hc
       obtain⟨f,hf,rfl⟩:=ah h
       refine vi i _ z1 z2 z3 (O.f _ _ hf) ?_ z4
       rw[qo,hc]
       simp
      ·cases h
   ·rename_i hl hn
    obtain⟨f,hf,rfl⟩:=ah h
    refine vi i _ z1 z2 z3 (O.f _ _ hf) (nZ ?_) z4
    cases e<;>first|rfl|exact absurd rfl (hn _ _ _ _)|(rename_i hl _;cases hl;done)
  ·split at h
   ·rename_i hc
    obtain⟨f,hf,rfl⟩:=ah h
    exact Nj i _ z1 z2 z3 (O.e _ _ hf) (nZ hc) z4
   ·cases h
 ·cases h
theorem Cq{es:List Expr}(h:(es.all fun e=>!isStar e)=true)(hl:es.length < 20):((backTo cpos (starEach es env)).all (fun x=>!x.1)&&(backToKw cpos (keywordEach [] env)).all (fun x=>x.1.isSome)&&decide (es.length+([]:List Keyword).length+(if ([]:List Keyword).isEmpty then 0 else 1) < 30))=true:=by
 have h1:(backTo cpos (starEach es env)).all (fun x=>!x.1)=true:=by
  have:=dg (pos:=cpos) (env:=env) h
  rw[List.all_eq_not_any_not]
  simpa using this
 rw[h1]
 simp[backToKw,keywordEach]
 lia
theorem J4(C:Bk X N sc k)(O:da X T){g:GS}(h:JG N sc T e=some g):DS X HF₀ H₀ (.Expr e pos) g:=by
 unfold JG at h
 split at h
 ·cases h;exact NF
 ·rename_i x px m apos args cpos
  replace h:=bs h
  obtain⟨i,hi,h⟩:=h
  split at h
  ·rename_i hv
   simp only[zF] at hv
   obtain⟨⟨hv,hline⟩,hs⟩:=hv
   obtain⟨z1,z2,z3,z4⟩:=C.vis hv
   split at h
   ·rename_i hm
    subst hm
    split at h
    ·obtain⟨f,hf,rfl⟩:=ah h
     exact GC i _ z1 z2 (O.e _ _ hf) z3 z4 (Cq hs (by simp)) hline (bx (by simpa using hs))
    ·cases h
   ·split at h
    ·rename_i hm
     subst hm
     split at h
     ·obtain⟨f,hf,rfl⟩:=ah h
      exact Fp i _ z1 z2 (O.f _ _ hf) z3 z4 (Cq hs (by simp)) hline (bx (by simpa using hs))
     ·cases h
    ·split at h
     ·rename_i hm
      subst hm
      split at h
      ·obtain⟨fk,hfk,h⟩:=bs h
       obtain⟨f,hf,rfl⟩:=ah h
       have hs':=hs
       simp only[xS,List.all_nil,Bool.and_true,zF,yP] at hs'
       exact Gh i _ z1 z2 (O.e _ _ hfk) (O.e _ _ hf) z3 z4 (Cq hs (by simp)) hline (bx hs'.1) (bx hs'.2)
      ·cases h
     ·cases h
  ·cases h
 ·obtain⟨f,hf,rfl⟩:=ah h
  exact Lq rfl (O.e _ _ hf)
 ·cases h
theorem Nl(C:Bk X N sc k){t:ak->D->Option ak}(h:RX sc N tg=some t):Rj X HF₀ H₀ tg t:=by
 unfold RX at h
 split at h
 ·obtain⟨i,hi,h⟩:=bs h
  split at h
  ·rename_i hl
   cases h
   have z:=C.loc hl
   exact Iv i z.1 z.2.1 z.2.2.1 z.2.2.2
  ·cases h
 ·obtain⟨i,hi,h⟩:=bs h
  obtain⟨j,hj,h⟩:=bs h
  split at h
  ·rename_i hl
   rw[zF] at hl
   cases h
   have z:=C.loc hl.1
   have w:=C.loc hl.2
   exact KU i j C.calm z.1 z.2.1 z.2.2.1 w.2.1 w.2.2.1 z.2.2.2 w.2.2.2
  ·cases h
 ·cases h
theorem Cm(C:Bk X N sc k)(O:da X T){x y z:Str}{px py pz pt:Pos}{m:Nat}{g:GS}(h:w8 sc N T x y z e=some g):DS X HF₀ H₀ (.Assign [.Tuple [.Name x px,.Name y py,.Name z pz] m pt] e pos) g:=by
 unfold w8 at h
 obtain⟨i,hi,h⟩:=bs h
 obtain⟨j,hj,h⟩:=bs h
 obtain⟨l,hl',h⟩:=bs h
 split at h
 ·rename_i hl
  rw[zF,zF,zF] at hl
  obtain⟨f,hf,rfl⟩:=ah h
  have z:=C.loc hl.1.1.1
  have w:=C.loc hl.1.1.2
  have u:=C.loc hl.1.2
  exact Kb i j l _ C.calm z.1 z.2.1 z.2.2.1 w.2.1 w.2.2.1 u.2.1 u.2.2.1 hl.2 (O.e _ _ hf) z.2.2.2 w.2.2.2 u.2.2.2
 ·cases h
theorem HL(C:Bk X N sc k)(O:da X T){px spos:Pos}{kx e:Expr}{g:GS}(h:IL sc N T x kx e=some g):DS X HF₀ H₀ (.Assign [.Subscript (.Name x px) kx spos] e pos) g:=by
 unfold IL at h
 obtain⟨i,hi,h⟩:=bs h
 split at h
 ·rename_i hv
  simp only[zF,yP] at hv
  obtain⟨hv,hc⟩:=hv
  obtain⟨z1,z2,z3,z4⟩:=C.vis hv
  obtain⟨fk,hfk,h⟩:=bs h
  obtain⟨f,hf,rfl⟩:=ah h
  refine Js i _ z1 z2 (O.e _ _ hfk) (O.e _ _ hf) z3 z4 (fun v=>?_) ?_ ?_ rfl
  ·cases kx<;>first|rfl|cases hc
  ·cases e<;>rfl
  ·rfl
 ·cases h
theorem sF(C:Bk X N sc k)(B:Bn X)(O:da X T):∀ (n:Nat) {st:Stmt}{g:GS},um sc N T n st=some g->DS X HF₀ H₀ st g
 | 0,st,g,h=>by cases h
 | n+1,st,g,h=>by
  have ih:=fun s g h=>sF C B O n (st:=s) (g:=g) h
  unfold um at h
  split at h
  ·obtain⟨f,hf,rfl⟩:=ah h;exact OR (O.e _ _ hf)
  ·obtain⟨t,ht,h⟩:=bs h
   obtain⟨a,ha,h⟩:=bs h
   obtain⟨b,hb,rfl⟩:=ah h
   exact Qo (O.t _ _ ht) (gF ih ha) (gF ih hb)
  ·exact Jf C O h
  ·exact HL C O h
  ·exact Cm C O h
  ·obtain⟨fi,hfi,h⟩:=bs h
   obtain⟨t,ht,h⟩:=bs h
   obtain⟨b,hb,rfl⟩:=ah h
   obtain⟨hd,hfold⟩:=JB C B O hfi
   exact N8 _ C.pass C.calm hd (Nl C ht) (gF ih hb) hfold
  ·obtain⟨t,ht,h⟩:=bs h
   obtain⟨b,hb,rfl⟩:=ah h
   exact Hn _ C.pass (O.t _ _ ht) (gF ih hb)
  ·exact J4 C O h
  ·cases h;exact Qn
  ·cases h;exact LG
  ·cases h
end
section
variable {P:Program}{w:World}{K:W.Frag}{mg:Str->Option Value}{base:Heap}{j:Nat}
def iD(P:Program)(w:World)(K:W.Frag)(mg:Str->Option Value)(base:Heap)(j:Nat)(l:List (Str×Nat×(List D->Option D))):Prop:=∀x n m,l.lookup x=some (n,m)->eM P w K mg base j x n m
def gu(mg:Str->Option Value)(l:List (Str×Int)):Prop:=∀x i,l.lookup x=some i->∃t,mg x=some (.int i t)
theorem bQ:iD P w K mg base j []:=fun _ _ _ h=>by cases h
theorem QP(F:eM P w K mg base j x n m)(h:iD P w K mg base j l):iD P w K mg base j ((x,n,m)::l):=fun y n' m' e=>by
 rw[yB] at e
 cases q:y == x with
 | true=>rw[q] at e;cases e;rw[eq_of_beq q];exact F
 | false=>rw[q] at e;exact h y n' m' e
theorem bR:gu mg []:=fun _ _ h=>by cases h
theorem HX{i:Int}{l:List (Str×Int)}(F:∃t,mg x=some (.int i t))(h:gu mg l):gu mg ((x,i)::l):=fun y i' e=>by
 rw[yB] at e
 cases q:y == x with
 | true=>rw[q] at e;cases e;rw[eq_of_beq q];exact F
 | false=>rw[q] at e;exact h y i' e
theorem MU{X:Cx}{st:Stmt}{fs:List (Str×Nat×(List D->Option D))}{HF₀ H₀:Hp}(C:Bk X N (aj st) j)(B:Bn X)(hf:iD X.prog X.w X.K X.mg X.base j fs)(hi:gu X.mg is)
  (t:pJ (um (aj st) N (tr ⟨fs,is⟩ 40 none (aj st) N) 40) (bB st)=some g):DV X HF₀ H₀ (bB st) g :=
 gF (fun s g h=>sF C B (EY (G:=⟨fs,is⟩) 40 C ⟨hf,hi,B⟩ (yM j) fun q z=>by cases z) 40 h) t
theorem SW{st:Stmt}{fs:List (Str×Nat×(List D->Option D))}(D:bO K mg x st ps)(S:cT N ps (aj st))(B:∀x∈cB,mg x=none)(hf:iD P w K mg base j fs)(hi:gu mg is)
  (t:pJ (um (aj st) N (tr ⟨fs,is⟩ 40 none (aj st) N) 40) (bB st)=some g):eM P w K mg base (j+1) x ps.length (bF g N.length):=by
 obtain⟨f,fd,hm,F,hb⟩:=D.ex
 exact SF F S hb hm fun X hP hw hK hm' hb' C _ _ HF H=>by subst hP;subst hw;subst hK;subst hm';subst hb';exact MU C B hf hi t
theorem Te{st:Stmt}{fs:List (Str×Nat×(List D->Option D))}(D:Hq K mg x st ps)(S:cT N ps (aj st))(B:∀x∈cB,mg x=none)(hf:iD P w K mg base j fs)(hi:gu mg is)
  (hq:x∈ko/\x++".<locals>."++"<lambda>"=q) (t:pJ (um (aj st) N (tr ⟨fs,is⟩ 40 (some q) (aj st) N) 40) (bB st)=some g):eM P w K mg base (j+4) x ps.length (bF g N.length):=by
 obtain⟨f,fd,c,P',hm,F,hb,hc,hh⟩:=D.ex
 refine SF (k:=j+3) F S hb hm fun X hP hw hK hm' hb' C h1 h2 HF H=>?_
 subst hP;subst hw;subst hK;subst hm';subst hb'
 have L:sD X q:=by
  refine⟨c,P',by rw[h1,hc],by rw[h2];exact hq.2,hh,fun HF tb=>?_⟩
  obtain⟨oc,od,kV,doc,pm,an,cdv,ct,osl,rfl,lk,_⟩:=F.ex
  have:=tb f oc od _ osl c P' lk hq.1 hc hh
  rw[<- hq.2]
  exact this
 exact gF (fun s g h=>sF C B (EY (G:=⟨fs,is⟩) (j:=j) 40 C ⟨hf,hi,B⟩ (jV _ _) fun q' z=>by cases z;exact⟨L,yM _⟩) 40 h) t
end
abbrev tW(s:Stmt)(N:List Str)(S:Sg)(l:Option Str):Option GS:=pJ (um (aj s) N (tr S 40 l (aj s) N) 40) (bB s)
theorem PM{N P:List Str}{sc:Scope}(a:sc.kind=.function:=by rfl)(b:sc.isCoroutine=false:=by rfl)(c:sc.isGenerator=false:=by rfl)(d:N.Nodup:=by decide +kernel)(e:N.take P.length=P:=by rfl)(f:∀x∈P,sc.names.lookup x=some .local \/ sc.names.lookup x=some .cell:=by decide +kernel)(g:∀y∈sc.names,y.2≠.free:=by decide +kernel):cT N P sc:=⟨a,b,c,d,e,f,g⟩
section
variable {P:Program}{w:World}{K:W.Frag}{mg:Str->Option Value}{base:Heap}{i j:Nat}
theorem fm(F:eM P w K mg base i x n m)(h:iD P w K mg base j l)(e:i<=j:=by decide):iD P w K mg base j ((x,n,m)::l):=QP (F.mono e) h
theorem j3{st:Stmt}(D:bO K mg x st ps)(B:∀x∈cB,mg x=none)(hf:iD P w K mg base j S.fn)(hi:gu mg S.int)(t:tW st N S none=some g)(F:cT N ps (aj st):=by exact Rf.PM):eM P w K mg base (j+1) x ps.length (bF g N.length):=SW D F B hf hi t
theorem SI{st:Stmt}(D:Hq K mg x st ps)(B:∀x∈cB,mg x=none)(hf:iD P w K mg base j S.fn)(hi:gu mg S.int)(t:tW st N S (some q)=some g)(F:cT N ps (aj st):=by exact Rf.PM)(hq:x∈ko/\x++".<locals>."++"<lambda>"=q:=by decide +kernel):eM P w K mg base (j+4) x ps.length (bF g N.length):=Te D F B hf hi hq t
end
end Rf
namespace Ex
open PySem L2 PySem.Spec PyProof.Rows
variable {P:Program}{w:World}{H HF₀ H₀:Hp}{h h' B:Heap}{a e c:Expr}{a0:Value}{E':XK}{C f ea F:Addr}{Q:VK}{np cpos pos p:Pos}{t n qual y:Str}{i k i1 i2 i3 i4 k1:Nat}{X:Cx}{es:List Expr}{b:Bool}{xf:Dl.Env->Option Str}{rest suite:List Stmt}{xg:ak->Option Str}{g:GS}{N ps cl:List Str}{fd:FuncData}{A' A:Around}{b₀:Stmt}{pn pins':List (Addr×Obj)}{xe:Value->Shared->Prop}{ob:Obj}{sc:Scope}{fx:XT}{S:Sg}{cs:List (Str×Addr)}
theorem uS{a:Addr}{o:HO}(x:et P w H h a o):∃ob,h.get? a=some ob:=by
 cases o with
 | lst xs=>obtain⟨_,_,_,_,e⟩:=x;exact⟨_,e⟩
 | tup xs=>obtain⟨_,_,_,⟨_,e,_⟩,_⟩:=x;exact⟨_,e⟩
 | dK kvs=>obtain⟨_,_,_,_,o,_,_,e,_⟩:=x;exact⟨_,e⟩
 | dT kvs=>obtain⟨_,_,_,_,o,_,_,e,_⟩:=x;exact⟨_,e⟩
 | set S n=>obtain⟨o,_,_,_,e,_⟩:=x;exact⟨_,e⟩
 | ins C dx fs=>obtain⟨_,_,_,e,_⟩:=x;exact⟨_,e⟩
 | own y=>obtain⟨_,e⟩:=x;exact⟨_,e⟩
 | xd fs=>obtain⟨_,⟨_,_,_,e,_⟩,_⟩:=x;exact⟨_,e⟩
 | rng lo hi=>obtain⟨_,_,_,e⟩:=x;exact⟨_,e⟩
 | frz ob u=>obtain⟨e,_⟩:=x;exact⟨_,e⟩
 | tab q=>obtain⟨_,e,_⟩:=x;exact⟨_,e⟩
 | cod q=>obtain⟨_,_,_,_,e0,e,_⟩:=x;cases e0;exact⟨_,e⟩
 | met f y=>exact⟨_,(show h.get? a=some _ from x)⟩
 | ext φ=>obtain⟨_,⟨_,e⟩,_⟩:=x;exact⟨_,e⟩
structure Fy(P:Program)(w:World)(l:List Env)(H:Hp)(s:Shared)(cls:Value)(ea:Addr)(H':Hp)(s':Shared):Prop where
 os:s'.os=s.os
 bare:AllBare s'.gens
 un:Un (ie l) [] H H' s.heap s'.heap
 hok:nV P w H' s'.heap
 fly:∃B a0,Heap.FlyingW B l ea cls a0 s'.heap/\∀b,b∉ie l->(H' b≠none\/∃o,s.heap.get? b=some o)->∃o,B.get? b=some o
def CW(P:Program)(w:World):FR:=fun l H s E e s'=>∃ea cls H',e=.ref ea/\Fy P w l H s cls ea H' s'/\E cls none H'
section
variable {X:Cx}{pins:List (Addr×Obj)}{σ:L2.St}{H H':Hp}{s s':Shared}{cls:Value}{ea:Addr}
theorem D4(I:Inv X pins σ H s)(hs:X.stack=X.env::X.outer)(hf:X.env.frame=some X.env.locals)(hex:X.ex=[])(hos:s'.os=s.os)(hbr:AllBare s'.gens)(hun:Un (ie X.stack) [] H H' s.heap s'.heap)(hok:nV X.prog X.w H' s'.heap)
  (hst:B.StaysIn s'.heap) (hff:s'.heap.FunFrames B X.stack) (hB:∀b,b∉ie X.stack->(H' b≠none\/∃o,s.heap.get? b=some o)->∃o,B.get? b=some o) (x1:Heap.FlyingW B X.outer ea cls a0 h') (x2:s'.heap.UpToSlots h') :
  Fy X.prog X.w X.outer X.H₀ X.s₀ cls ea H' { s' with heap:=h' }:=by
 have nx:∀b:Addr,b∉X.ex:=fun b=>by rw[hex];simp
 have fs:ie X.stack=X.env.locals::ie X.outer:=by rw[hs];unfold ie;rw[jG,hf]
 have neL:∀b o,X.s₀.heap.get? b=some o->b≠X.env.locals:=fun b o e=>yR (zP (zY e) I.ok.above)
 have out:∀b o,X.s₀.heap.get? b=some o->b∉ie X.outer->b∉ie X.stack:=fun b o e hb z=>by
  rw[fs] at z
  rcases List.mem_cons.mp z with z|z
  ·exact neL b o e z
  ·exact hb z
 have stk:∀b∈ie X.stack,H' b=none:=fun b hb=>by
  obtain⟨_,o,ho,_⟩:=I.stack.mem hb
  exact hun.free b o ho (I.stkFree b hb) (by simp)
 have Kr:∀b u,H' b≠none->s'.heap.get? b=some u->h'.get? b=some u:=fun b u hn e=>by
  obtain⟨o,eo⟩:=hB b (fun z=>hn (stk b z)) (.inl hn)
  have:=hst b o eo
  rw[e] at this
  cases this
  exact x1.1 b u eo
 have old:∀b o o2,b∉ie X.stack->s.heap.get? b=some o->s'.heap.get? b=some o2->h'.get? b=some o2:=fun b o o2 hb e e2=>by
  obtain⟨o3,eo⟩:=hB b hb (.inr ⟨o,e⟩)
  have:=hst b o3 eo
  rw[e2] at this
  cases this
  exact x1.1 b o2 eo
 have inO:∀b,b∈ie X.outer->b∈ie X.stack:=fun b hb=>by rw[fs];exact zC _ hb
 have slotS:∀b∈ie X.outer,∀o,s'.heap.get? b=some o->∃sl,h'.get? b=some { o with slots:=sl }:=fun b hb o e=>by
  obtain⟨_,o2,e2,d2⟩:=hff.mem (inO b hb)
  rw[e] at e2
  cases e2
  exact x2 b o e d2
 refine⟨hos.trans I.os,hbr,⟨fun b o e n hb _=>?_,fun b o e n hb _=>?_,fun b o e n _=>?_,fun b o e _=>?_,fun b xs e=>hun.tups b xs (I.base.tups b xs e),fun b o u e=>hun.frzs b o u (I.base.frzs b o u e),?_⟩,fun a o e=>?_,B,a0,x1,fun b hb hh=>?_⟩
 ·have e1:=I.base.keep b o e n hb (nx b)
  have n1:=I.base.free b o e n (nx b)
  have hb':=out b o e hb
  exact old b o o hb' e1 (hun.keep b o e1 n1 hb' (by simp))
 ·obtain⟨sl,e1⟩:=I.base.slot b o e n hb (nx b)
  have n1:=I.base.free b o e n (nx b)
  obtain⟨sl2,e2⟩:=hun.slot b _ e1 n1 (inO b hb) (by simp)
  obtain⟨sl3,e3⟩:=slotS b hb _ e2
  exact⟨sl3,e3⟩
 ·obtain⟨o1,e1⟩:=I.base.there b o e (nx b)
  exact hun.free b o1 e1 (I.base.free b o e n (nx b)) (by simp)
 ·obtain⟨o1,e1⟩:=I.base.there b o e (nx b)
  obtain⟨o2,e2⟩:=hun.there b o1 e1 (by simp)
  by_cases hb:b∈ie X.outer
  ·obtain⟨sl,e3⟩:=slotS b hb o2 e2
   exact⟨_,e3⟩
  ·exact⟨o2,old b o1 o2 (out b o e hb) e1 e2⟩
 ·exact I.base.tbls.trans (hun.tbls.trans (.kept (fun b u ⟨q,z⟩ e=>Kr b u (by rw[z];simp) e) fun _ _ e _=>e))
 ·refine (hok a o e).stay (fun b u hb q=>Kr b u ?_ q) (fun _ q=>q) fun _ _ q _=>q
  rcases hb with rfl|z
  ·rw[e];simp
  ·rw[z];simp
 ·refine hB b (fun z=>?_) (hh.imp id fun ⟨o,e⟩=>I.base.there b o e (nx b))
  rw[fs] at z
  rcases List.mem_cons.mp z with z|z
  ·subst z
   rcases hh with hn|⟨o,e⟩
   ·exact hn (stk _ (by rw[fs];exact zE))
   ·exact neL _ o e rfl
  ·exact hb z
theorem QQ{E E':XK}(hs:X.stack=X.env::X.outer)(hf:X.env.frame=some X.env.locals)(hex:X.ex=[])
  (hxe:∀e s',wpAny (model X.prog X.w) X.A (leaving X.env e) (fun _ s''=>CW X.prog X.w X.outer X.H₀ X.s₀ E' e s'') (fun _ _=>False) s'->X.xe e s') (hE:∀cls H',E cls none H'->E' cls none H'):fj (CW X.prog X.w) X E:=by
 intro pins σ H s e s' I h
 obtain⟨ea,cls,H',rfl,F,hc⟩:=h
 obtain⟨B,a0,hfl,hB⟩:=F.fly
 refine hxe _ _ ?_
 refine wpAny_leaves_onW (base:=B) (a0:=a0) (cls:=cls) (by rw[I.ok.frames,hs]) hf (by rw[<- hs];exact hfl) fun h' x1 x2=>⟨ea,cls,H',rfl,D4 I hs hf hex F.os F.bare F.un F.hok hfl.1 hfl.2.2.1 hB x1 x2,hE _ _ hc⟩
theorem BE{args:List Value}(I:Inv X pins σ H s)(hs:X.stack=X.env::X.outer)(hf:X.env.frame=some X.env.locals)(hex:X.ex=[])
  (hxe:∀e s',wpAny (model X.prog X.w) X.A (leaving X.env e) (fun _ s''=>CW X.prog X.w X.outer X.H₀ X.s₀ E' e s'') (fun _ _=>False) s'->X.xe e s') (hm:Heap.MadeExcOf s.heap s'.heap ea cls args) (ho:s'.os=s.os) (hg:AllBare s'.gens) (hE:E' cls none H):X.xe (.ref ea) s':=by
 have fs:ie X.stack=X.env.locals::ie X.outer:=by rw[hs];unfold ie;rw[jG,hf]
 have hfun:=I.stack
 refine hxe _ _ ?_
 have hin:∀env∈X.stack,∀b,env.frame=some b->b∈ie X.stack:=fun env he b hb=>List.mem_filterMap.mpr ⟨env,he,hb⟩
 refine wpAny_leaves_madeW (base:=W.hideAll s.heap (ie X.stack)) (h:=s.heap) (cls:=cls) (args:=args) (by rw[I.ok.frames,hs]) hf (fun b o q=>W.of_hideAll _ q) (by rw[<- hs];exact W.funFrames_hide hfun hin) hm fun h' t x1 x2 x3 x4=>⟨ea,cls,H,rfl,?_,hE⟩
 refine D4 I hs hf hex ho hg (Un.kept hm.keeps) (I.hok.kept hm.keeps) (fun b o q=>hm.keeps b o (W.of_hideAll _ q)) ((W.funFrames_hide hfun hin).of_keeps fun b o q _=>⟨o,hm.keeps b o q,rfl⟩) (fun b hb hh=>?_) x1 x4
 have ⟨o,e⟩:∃o,s.heap.get? b=some o:=by
  rcases hh with hn|h
  ·obtain⟨u,hu⟩:=Option.ne_none_iff_exists'.mp hn
   exact uS (I.hok b u hu)
  ·exact h
 exact⟨o,W.hideAll_get _ e hb⟩
end
abbrev OW:List Value:=[.type "ValueError",.type "Exception",.type "BaseException",.type "object"]
theorem LJ{K:W.Frag}(X:K.In h)(q:W.excIn K C OW "ValueError.__new__"=true) :
  ∃bm N nm qn bs hd sn sub ab col dd k0 k1 k2 k3 k5 mN,h.get? C=some (excClassObj nm qn C N bs bm hd sn sub ab col dd k0 k1 k2 k3 k5 "ValueError.__new__")/\h.Ns N mN/\mN "__init__"=none/\OwnTail h OW bm:=by
 unfold W.excIn at q
 split at q
 ·rename_i dd cd sl ho
  split at q
  ·rename_i C' bm k0 k1 k2 k3 n k5 hm hsl
   simp only[zF,vQ,yP] at q
   obtain⟨⟨⟨⟨⟨rfl,rfl⟩,hdel⟩,ht⟩,hok⟩,hni⟩:=q
   cases cd with
   | mk nm bs mro ns qn hd sn sub ab col del =>
    simp only at hm hdel hok hni
    subst hm hdel
    cases sl with
    | mk l =>
     simp only at hsl
     subst hsl
     exact⟨bm,ns,nm,qn,bs,hd,sn,sub,ab,col,dd,k0,k1,k2,k3,k5,_,X _ _ ho,.of_isNs (W.isNs_of_in X hok),W.nsMap_none_of_in X hok hni,W.tail_of_in X ht⟩
  ·cases q
 ·cases q
section
variable {X:Cx}{pins:List (Addr×Obj)}{σ:L2.St}{H:Hp}{s:Shared}
theorem HB{Q:Flow->Shared->Prop}{x:Str}(I:Inv X pins σ H s)(hc:X.calm=true)(hg:Gl X x)(hm:X.mg x=some (.ref C))(q:W.excIn X.K C OW "ValueError.__new__"=true)
  (hs:X.stack=X.env::X.outer) (hf:X.env.frame=some X.env.locals) (hex:X.ex=[])
  (hxe:∀e s',wpAny (model X.prog X.w) X.A (leaving X.env e) (fun _ s''=>CW X.prog X.w X.outer X.H₀ X.s₀ E' e s'') (fun _ _=>False) s'->X.xe e s') (hE:E' (.ref C) none H) (hdb:(x == ("__debug__":Str))=false) :
  wpAny (model X.prog X.w) X.A (exec (.Raise (some (.Call (.Name x np) [.Constant (.str t) i p] [] cpos)) none pos) X.env) Q X.xe s:=by
 obtain⟨bm,N,nm,qn,bs,hd,sn,sub,ab,col,dd,k0,k1,k2,k3,k5,mN,hC,hN,hni,T⟩:=LJ I.kIn q
 refine wpAny_Raise_call_subT (C:=C) (nm:=nm) (q:=qn) (N:=N) (bs:=bs) (bm:=bm) (hdct:=hd) (sn:=sn) (sub:=sub) (ab:=ab) (col:=col) (dd:=dd) (k0:=k0) (k1:=k1) (k2:=k2) (k3:=k3) (k5:=k5)
  F.excBase_ValueError (mN:=mN) (T.hasType F.excBase_ValueError.hasBase) (I.ok.hd hc) rfl hni (lH I hg hm ⟨rfl,?_⟩ hdb)
 refine Calls.evalArgs_plain (jJ (Za (k:=i) (pos:=p) (kK ⟨rfl,?_,hC,hN,T,fun h' e hme=>?_⟩)))
 ·exact yD (show 1<=4000 by lia) (by decide)
 ·exact BE (s:={ s with toks:=s.toks+1 }) (I.tok _) hs hf hex hxe hme rfl I.bare hE
end
open PySem L2 Dl PySem.Spec PyProof.Rows
def Tc(K:W.Frag)(mg:Str->Option Value)(n:Nat)(xm:List D->Option Str):Sp:=fun vs H _ E=>∃HF ds c C,aL HF H/\eu K HF/\aw K HF ds vs/\ds.length=n/\xm ds=some c/\mg c=some (.ref C)/\∀H' HF',bL HF H HF' H'->E (.ref C) none H'
structure El(P:Program)(w:World)(K:W.Frag)(mg:Str->Option Value)(base:Heap)(k:Nat)(x:Str)(n:Nat)(xm:List D->Option Str):Prop where
 ex:∃ (f:Addr) (fd:FuncData) (ps:List Str),pH P w K mg base (CW P w) k f fd ps (Tc K mg n xm)/\mg x=some (.ref f)/\W.keepIn K (.ref f)=true/\Binds K fd ps []
theorem El.mono{P:Program}{w:World}{K:W.Frag}{mg:Str->Option Value}{base:Heap}{k j:Nat}{x:Str}{n:Nat}{xm:List D->Option Str}(F:El P w K mg base k x n xm)(h:k<=j):El P w K mg base j x n xm:=by
 obtain⟨f,fd,ps,a,b,c,d⟩:=F.ex
 exact⟨f,fd,ps,a.mono h,b,c,d⟩
structure Xk(X:Cx)(E:XK):Prop where
 hs:X.stack=X.env::X.outer
 hf:X.env.frame=some X.env.locals
 hex:X.ex=[]
 hxe:∀e s',wpAny (model X.prog X.w) X.A (leaving X.env e) (fun _ s''=>CW X.prog X.w X.outer X.H₀ X.s₀ E e s'') (fun _ _=>False) s'->X.xe e s'
theorem Xk.pass{E:XK}(hx:Xk X E):fj (CW X.prog X.w) X E:=QQ hx.hs hx.hf hx.hex hx.hxe fun _ _ h=>h
section
variable {X:Cx}{E:XK}{HF₀ H₀:Hp}
def SC(K:W.Frag)(mg:Str->Option Value)(E:XK)(xf:Dl.Env->Option Str):TE:=fun σ H _=>∃HF ρ c C,aL HF H/\cU K HF ρ σ/\xf ρ=some c/\mg c=some (.ref C)/\∀H' HF',bL HF H HF' H'->E (.ref C) none H'
def Kn(X:Cx)(E:XK)(e:Expr)(xf:Dl.Env->Option Str):Prop:=PE X e (SC X.K X.mg E xf)
def tX(K:W.Frag)(mg:Str->Option Value)(HF₀ H₀:Hp)(E:XK)(xg:ak->Option Str):TS:=fun _ σ H=>∃HF ρ c C,jt K HF₀ H₀ HF H ρ σ/\xg ρ=some c/\mg c=some (.ref C)/\∀H' HF',bL HF₀ H₀ HF' H'->E (.ref C) none H'
def DX(X:Cx)(E:XK)(HF₀ H₀:Hp)(st:Stmt)(xg:ak->Option Str):Prop:=PS X st (tX X.K X.mg HF₀ H₀ E xg)
def Fh(X:Cx)(E:XK)(HF₀ H₀:Hp)(st:List Stmt)(xg:ak->Option Str):Prop:=v5 X st (tX X.K X.mg HF₀ H₀ E xg)
theorem Oa{t:TA}(h:PA X.nox es t):PA X es t:=fun pos pins s σ H Q I hw =>
 xA (h pos pins s σ H Q (I.wish _) hw) (fun _ _ ⟨v,H',I',r,q⟩=>⟨v,H',I'.unwish,r,q⟩) fun _ _ z=>False.elim z
theorem Nw{st:Stmt}{t:TS}(h:PS X.nox st t):PS X st t:=fun pins s σ H D I hw =>
 xA (h pins s σ H D (I.wish _) hw) (fun _ _ q=>q.unwish) fun _ _ z=>False.elim z
def uN(n:Nat)(xm:List D->Option Str)(fs:Dl.Env->Option (List D)):Dl.Env->Option Str:=fun ρ=>(fs ρ).bind fun ds=>if ds.length=n then xm ds else none
theorem ME{k n:Nat}{xm:List D->Option Str}{x:Str}{fs:Dl.Env->Option (List D)}{p pos:Pos}(F:El X.prog X.w X.K X.mg X.base k x n xm)(hr:dZ k X.A)(hx:fj (CW X.prog X.w) X E)(hg:Gl X x)(ha:DA X.nox (e::es) fs)(hdb:(x == ("__debug__":Str))=false:=by decide)
  (he:starEach (e::es) X.env=(false,eval e X.env)::starEach es X.env:=by rfl) (hpl:(backTo pos (starEach es X.env)).any (·.1)=false:=by rfl):Kn X E (.Call (.Name x p) (e::es) [] pos) (uN n xm fs):=by
 obtain⟨f,fd,ps,ok,hm,hk,hb⟩:=F.ex
 refine bf (Et (E:=E) ok hr hg hm hk hb .nil hx (Oa ha) hdb he hpl) fun σ H Q ⟨HF,ρ,c,C,sm,eo,hf,hc,q⟩=>?_
 obtain⟨ds,hds,hf⟩:=bs hf
 split at hf
 ·rename_i hl
  exact⟨HF,ρ,ds,sm,eo,hds,fun vs H1 HF1 g1 r1=>⟨HF1,ds,c,C,g1.fh,eo.tb.mono g1.ff,by rw[qF];exact r1,hl,hf,hc,fun H' HF' g=>q H' HF' (g1.trans g)⟩⟩
 ·cases hf
def BZ(t:Dl.Env->Option Bool)(xa xb:Dl.Env->Option Str):Dl.Env->Option Str:=fun ρ=>(t ρ).bind fun b=>if b=true then xa ρ else xb ρ
theorem Qt{c a b:Expr}{t:Dl.Env->Option Bool}{xa xb:Dl.Env->Option Str}(hc:DT X.nox c t)(ha:Kn X E a xa)(hb:Kn X E b xb):Kn X E (.IfExp c a b pos) (BZ t xa xb) :=
 bf (zl (PT.nox hc) ha hb) fun σ H Q ⟨HF,ρ,c,C,sm,eo,hf,hc,q⟩=>by
  obtain⟨b,h,hf⟩:=bs hf
  refine⟨HF,ρ,b,sm,eo,h,fun H' HF' G=>?_⟩
  cases b with
  | true=>exact tY ⟨HF',ρ,c,C,G.fh,eo.mono G.ff,hf,hc,fun H2 HF2 G2=>q H2 HF2 (G.trans G2)⟩
  | false=>exact pI ⟨HF',ρ,c,C,G.fh,eo.mono G.ff,hf,hc,fun H2 HF2 G2=>q H2 HF2 (G.trans G2)⟩
theorem JU{K:W.Frag}{mg:Str->Option Value}{D:Ends}{σ:L2.St}(h:tX K mg HF₀ H₀ E (fun ρ=>xf (aI ρ)) D σ H):SC K mg E xf σ H Q:=by
 obtain⟨HF,ρ,c,C,S,hx,hc,q⟩:=h
 exact⟨H,aI ρ,c,C,.refl _,S.all,hx,hc,fun H' HF' G=>q H' HF (S.step G.hh).gr⟩
theorem Nm(h:Kn X E e xf)(hs:swapsWith e none pos.line X.env=pure false:=by rfl):DX X E HF₀ H₀ (.Expr e pos) (fun ρ=>xf (aI ρ)):=cH (mL h hs) fun D σ H q=>JU q
theorem Nz(h:Kn X E e xf):DX X E HF₀ H₀ (.Return (some e) pos) (fun ρ=>xf (aI ρ)):=cH (Cr h) fun D σ H q=>JU q
theorem qa{st:Stmt}(h:DX X E HF₀ H₀ st xg):Fh X E HF₀ H₀ (st::rest) xg:=fun pins s σ H D I q=>by
 refine vK (cF (h pins s σ H ⟨fun _ _=>False,fun _ _=>False,fun _ _=>False,fun _ _=>False⟩ I q) fun f s1 z=>?_)
 cases f with
 | next=>obtain⟨_,_,_,z⟩:=z;exact z.elim
 | brk=>obtain⟨_,_,_,z⟩:=z;exact z.elim
 | cont=>obtain⟨_,_,_,z⟩:=z;exact z.elim
 | ret u=>obtain⟨_,_,_,_,_,z⟩:=z;exact z.elim
def OJ(g:ak->Option Out)(xg:ak->Option Str):ak->Option Str:=fun ρ=>(g ρ).bind fun o=>match o with|.nx ρ'=>xg ρ'|.rt _=>none
theorem AX{st:Stmt}{g:ak->Option Out}(h:DS X.nox HF₀ H₀ st g)(hr:Fh X E HF₀ H₀ rest xg):Fh X E HF₀ H₀ (st::rest) (OJ g xg) :=
 p8 (iM (Nw h) hr) fun D σ H ⟨HF,ρ,c,C,S,hx,hc,q⟩=>by
  obtain⟨o,ho,hx⟩:=bs hx
  cases o with
  | rt d=>cases hx
  | nx ρ'=>exact⟨HF,ρ,.nx ρ',S,ho,fun σ' H' HF' S' _=>⟨HF',ρ',c,C,S',hx,hc,q⟩⟩
def Rp(t:Dl.Env->Option Bool)(xa xb:ak->Option Str):ak->Option Str:=fun ρ=>(t (aI ρ)).bind fun b=>if b=true then xa ρ else xb ρ
theorem QC{a b:List Stmt}{t:Dl.Env->Option Bool}{xa xb:ak->Option Str}(hc:DT X.nox c t)(ha:Fh X E HF₀ H₀ a xa)(hb:Fh X E HF₀ H₀ b xb):DX X E HF₀ H₀ (.If c a b pos) (Rp t xa xb) :=
 cH (Im (PT.nox hc) ha hb) fun D σ H ⟨HF,ρ,c,C,S,hx,hc,q⟩=>by
  obtain⟨b,h,hx⟩:=bs hx
  refine⟨H,aI ρ,b,.refl _,S.all,h,fun H' HF' G=>?_⟩
  cases b with
  | true=>exact tY ⟨HF,ρ,c,C,S.step G.hh,hx,hc,q⟩
  | false=>exact pI ⟨HF,ρ,c,C,S.step G.hh,hx,hc,q⟩
theorem Ih{x:Str}(hk:Xk X E)(hc:X.calm=true)(hg:Gl X x)(hm:X.mg x=some (.ref C))(q:W.excIn X.K C OW "ValueError.__new__"=true)(hdb:(x == ("__debug__":Str))=false:=by decide) :
  DX X E HF₀ H₀ (.Raise (some (.Call (.Name x np) [.Constant (.str t) i p] [] cpos)) none pos) (fun _=>some x):=fun pins s σ H D I ⟨HF,ρ,c,C',S,hx,hc',z⟩=>by
 cases hx
 rw[hm] at hc'
 cases hc'
 exact HB I hc hg hm q hk.hs hk.hf hk.hex hk.hxe (z H HF S.gr) hdb
end
def zx(xg:ak->Option Str)(n:Nat)(args:List D):Option Str:=xg (args.map Slot.val++List.replicate (n - args.length) .non)
theorem AW{K:W.Frag}{HF H:Hp}{ds:List D}{vs:List V}(sm:aL HF H)(tb:eu K HF)(rr:aw K HF ds vs):jt K HF H HF H (ds.map Slot.val++List.replicate (N.length - ds.length) .non) (L2.start N vs):=by
 refine⟨.refl sm,fun i e h=>?_,fun i es h=>?_,fun i j es fs a h=>?_,?_,tb⟩
 ·have hi:i < ds.length:=by
   by_cases hi:i < ds.length
   ·exact hi
   ·rw[yT (by simpa using hi),yX] at h
    split at h<;>cases h
  rw[yS (by simpa using hi),zO] at h
  obtain⟨d',hd',h⟩:=ah h
  cases h
  obtain⟨v,hv,rv⟩:=rr.getD hd'
  refine⟨v,?_,rv⟩
  unfold L2.start
  rw[yS (by simpa [rr.length] using hi),zO,hv]
  rfl
 ·exfalso
  by_cases hi:i < ds.length
  ·rw[yS (by simpa using hi),zO] at h
   obtain⟨d',hd',h⟩:=ah h
   cases h
  ·rw[yT (by simpa using hi),yX] at h
   split at h<;>cases h
 ·exfalso
  by_cases hi:i < ds.length
  ·rw[yS (by simpa using hi),zO] at h
   obtain⟨d',hd',h⟩:=ah h
   cases h
  ·rw[yT (by simpa using hi),yX] at h
   split at h<;>cases h
 ·unfold L2.start
  rw[zN,zN,zD,zD,xM,xM,rr.length]
  exact yM _
theorem fnX{K:W.Frag}{mg:Str->Option Value}{base:Heap}{x qual:Str}{st:Stmt}(F:Ie K x qual st f fd)(S:cT N ps (aj st))(hb:Binds K fd ps [])(hm:mg x=some (.ref f))
  (body:∀ (X:Cx) (E:XK),X.prog=P->X.w=w->X.K=K->X.mg=mg->X.base=base->Bk X.nox N (aj st) k->X.calm=true->Xk X E->∀HF₀ H₀,Fh X E HF₀ H₀ (bB st) xg):El P w K mg base (k+1) x ps.length (zx xg N.length):=by
 refine⟨f,fd,ps,?_,hm,F.kp,hb⟩
 obtain⟨oc,od,kV,doc,pm,an,cdv,ct,osl,rfl,lk,hcd⟩:=F.ex
 refine JV lk hcd S (fun vs H Q E ⟨HF,ds,c,C,h1,_,h2,h3,_⟩=>by rw[h2.length,h3]) fun A outer s H vs Q E hr ⟨HF,ds,c,C,sm,tb,rr,hl,hd,hc,q⟩=>?_
 refine⟨_,body (rT (CW P w) P w K mg base N qual (aj st) f cdv A outer s H E) E rfl rfl rfl rfl rfl ⟨rfl,S.nd,fun y kd hy=>.inl hy,rfl,fun _ _=>rfl,hr,rfl,S.kind⟩ rfl ⟨rfl,rfl,rfl,fun e s' z=>xA z (fun _ _ h=>h) fun _ _ h=>h.elim⟩ HF H,?_⟩
 exact⟨HF,_,c,C,AW sm tb rr,hd,hc,q⟩
section
variable {X:Cx}{pins:List (Addr×Obj)}{σ:L2.St}{H H':Hp}{s s':Shared}{cls:Value}{ea:Addr}
theorem Hy(I:Inv X pins σ H s)(hun:Un (ie X.stack) [] H H' s.heap s'.heap)(hok:nV X.prog X.w H' s'.heap)
  (hst:B.StaysIn s'.heap) (hff:s'.heap.FunFrames B X.stack) (hB:∀b,b∉ie X.stack->(H' b≠none\/∃o,s.heap.get? b=some o)->∃o,B.get? b=some o) (x1:B.StaysIn h') (x2:s'.heap.UpToSlots h') :
  Un (ie X.stack) [] H H' s.heap h'/\nV X.prog X.w H' h':=by
 have stk:∀b∈ie X.stack,H' b=none:=fun b hb=>by
  obtain⟨_,o,ho,_⟩:=I.stack.mem hb
  exact hun.free b o ho (I.stkFree b hb) (by simp)
 have Kr:∀b u,H' b≠none->s'.heap.get? b=some u->h'.get? b=some u:=fun b u hn e=>by
  obtain⟨o,eo⟩:=hB b (fun z=>hn (stk b z)) (.inl hn)
  have:=hst b o eo
  rw[e] at this
  cases this
  exact x1 b u eo
 have old:∀b o o2,b∉ie X.stack->s.heap.get? b=some o->s'.heap.get? b=some o2->h'.get? b=some o2:=fun b o o2 hb e e2=>by
  obtain⟨o3,eo⟩:=hB b hb (.inr ⟨o,e⟩)
  have:=hst b o3 eo
  rw[e2] at this
  cases this
  exact x1 b o2 eo
 have slotS:∀b∈ie X.stack,∀o,s'.heap.get? b=some o->∃sl,h'.get? b=some { o with slots:=sl }:=fun b hb o e=>by
  obtain⟨_,o2,e2,d2⟩:=hff.mem hb
  rw[e] at e2
  cases e2
  exact x2 b o e d2
 refine⟨⟨fun b o e n hb _=>?_,fun b o e n hb _=>?_,fun b o e n _=>hun.free b o e n (by simp),fun b o e _=>?_,hun.tups,hun.frzs,?_⟩,fun a o e=>?_⟩
 ·exact old b o o hb e (hun.keep b o e n hb (by simp))
 ·obtain⟨sl2,e2⟩:=hun.slot b o e n hb (by simp)
  obtain⟨sl3,e3⟩:=slotS b hb _ e2
  exact⟨sl3,e3⟩
 ·obtain⟨o2,e2⟩:=hun.there b o e (by simp)
  by_cases hb:b∈ie X.stack
  ·obtain⟨sl,e3⟩:=slotS b hb o2 e2
   exact⟨_,e3⟩
  ·exact⟨o2,old b o o2 hb e e2⟩
 ·exact hun.tbls.trans (.kept (fun b u ⟨q,z⟩ e=>Kr b u (by rw[z];simp) e) fun _ _ e _=>e)
 ·refine (hok a o e).stay (fun b u hb q=>Kr b u ?_ q) (fun _ q=>q) fun _ _ q _=>q
  rcases hb with rfl|z
  ·rw[e];simp
  ·rw[z];simp
theorem Fy.inv(I:Inv X pins σ H s)(F:Fy X.prog X.w X.stack H s cls ea H' s'):Inv X pins σ H' s':=I.call' F.os F.un F.hok F.bare (fun b hb=>absurd hb (by simp))
theorem Fy.stay(I:Inv X pins σ H s)(F:Fy X.prog X.w X.stack H s cls ea H' s')(hfl:Heap.FlyingW B X.stack ea cls a0 s'.heap)(hB:∀b,b∉ie X.stack->(H' b≠none\/∃o,s.heap.get? b=some o)->∃o,B.get? b=some o)
  (x1:Heap.FlyingW B X.stack ea cls a0 h') (x2:s'.heap.UpToSlots h'):Fy X.prog X.w X.stack H s cls ea H' { s' with heap:=h' }:=by
 obtain⟨u,k⟩:=Hy I F.un F.hok hfl.1 hfl.2.2.1 hB x1.1 x2
 exact⟨F.os,F.bare,u,k,B,a0,x1,hB⟩
theorem land{M:Model}{E:Value->Shared->Prop}{Q:Unit->Shared->Prop}(I:Inv X pins σ H s)(hs:X.stack=X.env::X.outer)(hf:X.env.frame=some X.env.locals)(F:Fy X.prog X.w X.stack H s cls ea H' s')
  (k:∀h',Fy X.prog X.w X.stack H s cls ea H' { s' with heap:=h' }->Q () { s' with heap:=h' }) :
  wpAny M X.A (noteFrame (.ref ea) X.env) (fun _ s2=>wpAny M X.A (setFlight (.ref ea) none) Q E s2) E s':=by
 obtain⟨B,a0,hfl,hB⟩:=F.fly
 refine wpAny_looks_onW (base:=B) (a0:=a0) (cls:=cls) (by rw[I.ok.frames,hs]) hf (by rw[<- hs];exact hfl) fun h4 hh x2=>?_
 refine wpAny_landsW (s:={ s' with heap:=h4 }) hh fun h5 y1 y2=>k h5 ?_
 exact F.stay I hfl hB (by rw[hs];exact y1) (x2.trans y2)
theorem again{M:Model}{A:Around}{E:Value->Shared->Prop}{Q:Unit->Shared->Prop}(I:Inv X pins σ H s)(F:Fy X.prog X.w X.stack H s cls ea H' s')
  (k:∀h',Fy X.prog X.w X.stack H s cls ea H' { s' with heap:=h' }->Q () { s' with heap:=h' }):wpAny M A (setFlight (.ref ea) none) Q E s':=by
 obtain⟨B,a0,hfl,hB⟩:=F.fly
 exact lands_againW hfl fun h5 y1 y2=>k h5 (F.stay I hfl hB y1 y2)
end
section
variable {X:Cx}{pins:List (Addr×Obj)}{σ:L2.St}{H H':Hp}{s s':Shared}{cls:Value}{ea:Addr}
abbrev jo(X:Cx)(A':Around):Cx:={ X with A:=A',calm:=false }
theorem rA(I:Inv X pins σ H s)(hfr:A'.frames=X.A.frames):Inv (jo X A') pins σ H s :=
 let ok:=I.ok
 ⟨⟨ok.mod,ok.kind,ok.glob,ok.blt,ok.above,ok.inj,ok.has,ok.cab,fun z=>(by cases z),hfr.trans ok.frames,ok.stk,ok.exf,ok.bs,ok.bsz,ok.noex,ok.exfs,ok.funs,ok.frf⟩,I.os,I.bare,I.base,I.loc,I.cell,I.free,I.freeC,I.pin,I.hok,I.len⟩
theorem BK(ok:X.Ok)(I:Inv (jo X A') pins σ H s):Inv X pins σ H s:=⟨ok,I.os,I.bare,I.base,I.loc,I.cell,I.free,I.freeC,I.pin,I.hok,I.len⟩
theorem Ct{m':Str->Option Value}{t':Nat}(I:Inv X pins σ H s)(hn:h'.Ns X.env.locals m')(hs:Heap.SameBut X.env.locals s.heap h'):Inv X pins (List.replicate X.N.length none) H { s with heap:=h',toks:=t' }:=by
 have neL:∀b o,X.s₀.heap.get? b=some o->b≠X.env.locals:=fun b o e=>yR (zP (zY e) I.ok.above)
 have kp:∀b o,b≠X.env.locals->s.heap.get? b=some o->h'.get? b=some o:=fun b o ne e=>(hs.2 b ne).trans e
 have tr:∀b u,H b=some u->b≠X.env.locals:=fun b u e z=>by rw[z,I.free] at e;cases e
 refine⟨I.ok,I.os,I.bare,⟨fun b o e n hb hx=>kp b o (neL b o e) (I.base.keep b o e n hb hx),fun b o e n hb hx=>?_,I.base.free,fun b o e hx=>?_,I.base.tups,I.base.frzs,?_⟩,⟨m',hn,fun i x v _ h2 _=>?_⟩,fun x c e=>?_,I.free,I.freeC,fun p hp=>?_,fun a o e=>?_,?_⟩
 ·obtain⟨sl,e1⟩:=I.base.slot b o e n hb hx
  exact⟨sl,kp b _ (neL b o e) e1⟩
 ·obtain⟨o',e1⟩:=I.base.there b o e hx
  exact⟨o',kp b _ (neL b o e) e1⟩
 ·exact I.base.tbls.trans (.kept (fun b u ⟨q,z⟩ e=>kp b u (tr b _ z) e) fun _ _ e _=>e)
 ·rw[yX] at h2
  split at h2<;>cases h2
 ·obtain⟨v,o,ho,hd⟩:=I.cell x c e
  exact⟨v,o,kp c o (I.cne x c e) ho,hd⟩
 ·obtain⟨e,n,ne,r⟩:=I.pin p hp
  exact⟨kp _ _ ne e,n,ne,r⟩
 ·refine (I.hok a o e).stay (fun b u hb q=>kp b u ?_ q) (fun _ q=>q) fun _ _ q _=>q
  rcases hb with rfl|z
  ·exact tr b _ e
  ·exact tr b _ z
 ·simp
def ExcAt(l:List PySem.Env)(H:Hp)(h:Heap)(ea:Addr)(cls:Value):Prop:=(∃ob vs,h.get? ea=some ob/\ob.cls=cls/\ob.data=.fields vs)/\H ea=none/\ea∉ie l
theorem O6{x n:Str}{rest:List ExceptHandler}{D:Ends}(I:Inv X pins σ H s)(F:Fy X.prog X.w X.stack H s cls ea H' s')(hg:Gl X x)(hm:X.mg x=some (.ref C))(hdb:(x == ("__debug__":Str))=false)
  (hx:W.exmOne X.K cls (.ref C)=some true) (hN:X.N.Nodup) (hi:X.N[i]?=some n) (hl:X.env.kindOf n=some .local) (hsc:X.env.scope.names.lookup n=some .local) (hcl:X.env.cells.lookup n=none)
  (k:∀s2,Inv (jo X (X.A.mark (some (.ref ea)))) pins (σ.set i (some (.ref ea))) H' s2->ExcAt X.stack H' s2.heap ea cls ->
   wpAny (model X.prog X.w) (X.A.mark (some (.ref ea))) (execs (b₀::suite) X.env) (fun f s3=>∃u v σ' H3,f=.ret u/\Inv (jo X (X.A.mark (some (.ref ea)))) pins σ' H3 s3/\RelV v u/\D.rt v H3) (fun _ _=>False) s2) :
  wpAny (model X.prog X.w) X.A (handleBy (.ref ea) X.env (.ExceptHandler (some (.Name x np)) (some n) (b₀::suite) pos::rest)) (SP X pins D) X.xe s':=by
 have hfr:(X.A.mark (some (.ref ea))).frames=X.A.frames:=rfl
 have I1:=F.inv I
 obtain⟨B,a0,hfl,hB⟩:=F.fly
 obtain⟨ob,hob,hobc⟩:=hfl.there
 refine wpAny_handleBy_cons (codeAny_handlers_test ?_) (by intro q;cases q)
 refine lH (X:=jo X (X.A.mark (some (.ref ea)))) (rA I1 hfr) hg hm ?_ hdb
 have LT:W.Looks (model X.prog X.w) s'.heap (typeOf (.ref ea)) cls:=fun A Q E s2 k2 q=>wpAny_typeOf_ref (k2 _ _ hob) (by rw[hobc];exact q)
 refine (W.exm_one I1.kIn LT hx).here ?_
 refine codeAny_handlers_suite_as ?_
 refine again I F fun h2 F2=>?_
 obtain⟨B2,a2,hfl2,hB2⟩:=F2.fly
 obtain⟨oe,vs,T,oT,ts,he,⟨hec,_⟩,hed,_⟩:=hfl2.2.2.2
 refine oa (X:=X) (i:=i) (v:=.ref ea) (F2.inv I) hN hi (.inl hsc) rfl (fun s2 I2 hsb=>?_) (.inr hsc)
 obtain⟨a,hsb,ha⟩:=hsb
 have hal:a=X.env.locals:=by
  rcases ha with h|h
  ·exact h
  ·rw[hcl] at h;cases h
 subst hal
 have hne:ea≠X.env.locals:=fun z=>by
  obtain⟨m,⟨o,es,ep,ho,hd,_⟩,_⟩:=(F2.inv I).loc
  rw[<- z] at ho
  have:oe=o:=by rw[he] at ho;exact xD ho
  rw[<- this,hed] at hd
  cases hd
 have hnf:ea∉ie X.stack:=fun z=>by
  obtain⟨_,o2,e2,d2⟩:=hfl2.2.2.1.mem z
  have:oe=o2:=by rw[he] at e2;exact xD e2
  exact d2 vs (this ▸ hed)
 have hno:H' ea=none:=by
  cases q:H' ea with
  | none=>rfl
  | some u =>
   obtain⟨o,eo⟩:=hB2 ea hnf (.inl (by rw[q];simp))
   rw[hfl2.2.1] at eo
   cases eo
 refine xA (k s2 (rA I2 hfr) ⟨⟨oe,vs,(hsb.2 ea hne).trans he,hec,hed⟩,hno,hnf⟩) (fun f s3 hz=>?_) fun _ _ z=>z.elim
 obtain⟨u,v,σ',H3,rfl,I3,r,d⟩:=hz
 have I4:=BK I1.ok I3
 obtain⟨m3,hn3,_⟩:=id I4.loc
 exact wpAny_nameGoes hl hn3 (by rw[I4.ok.kind];rfl) fun h' m' hns hsb'=>⟨v,_,H3,Ct I4 hns hsb',r,d⟩
end
abbrev gn(X:Cx)(pn:List (Addr×Obj))(xe:Value->Shared->Prop):Cx:={ X with pn:=pn,xe:=xe }
section
variable {X:Cx}{pins:List (Addr×Obj)}{σ:L2.St}{H H':Hp}{s s':Shared}
theorem JN(ok:X.Ok):(gn X pn xe).Ok :=
 ⟨ok.mod,ok.kind,ok.glob,ok.blt,ok.above,ok.inj,ok.has,ok.cab,ok.hd,ok.frames,ok.stk,ok.exf,ok.bs,ok.bsz,ok.noex,ok.exfs,ok.funs,ok.frf⟩
theorem Er(I:Inv X pins σ H s)(h:∀p∈pn++pins',p∈X.pn++pins):Inv (gn X pn xe) pins' σ H s :=
 ⟨JN I.ok,I.os,I.bare,I.base,I.loc,I.cell,I.free,I.freeC,fun p hp=>I.pin p (h p hp),I.hok,I.len⟩
theorem Gz(ok:X.Ok)(I:Inv (gn X pn xe) pins' σ H s)(h:∀p∈X.pn++pins,p∈pn++pins'):Inv X pins σ H s :=
 ⟨ok,I.os,I.bare,I.base,I.loc,I.cell,I.free,I.freeC,fun p hp=>I.pin p (h p hp),I.hok,I.len⟩
def ES(X:Cx)(i:Nat)(ss:List Stmt)(c:Str)(d:D):Prop:=∀ (pn pins:List (Addr×Obj)) (xe:Value->Shared->Prop) (σ:L2.St) (H:Hp) (s:Shared) (ea C:Addr),X.mg c=some (.ref C)->Inv (jo (gn X pn xe) (X.A.mark (some (.ref ea)))) pins σ H s->σ[i]?=some (some (.ref ea)) ->
 ExcAt X.stack H s.heap ea (.ref C)->wpAny (model X.prog X.w) (X.A.mark (some (.ref ea))) (execs ss X.env) (fun f s3=>∃u v σ' H3,f=.ret u/\Inv (jo (gn X pn xe) (X.A.mark (some (.ref ea)))) pins σ' H3 s3/\RelV v u/\∀HF,aL HF H->∃HF3,bL HF H HF3 H3/\Rep X.K HF3 d v) (fun _ _=>False) s
def Fz(gb:ak->Option Out)(xg:ak->Option Str)(fin:Str->Option D):ak->Option Out:=fun ρ=>match gb ρ with
 | some (.rt d)=>some (.rt d)
 | some (.nx _)=>none
 | none=>(xg ρ).bind fun c=>(fin c).map Out.rt
theorem Nh{x n:Str}{CF:Addr}{np hpos pos:Pos}{body:List Stmt}{gb:ak->Option Out}{fin:Str->Option D}(hs:X.stack=X.env::X.outer)(hf:X.env.frame=some X.env.locals)
  (hg:Gl X x) (hm:X.mg x=some (.ref CF)) (hdb:(x == ("__debug__":Str))=false) (hN:X.N.Nodup) (hi:X.N[i]?=some n) (hl:X.env.kindOf n=some .local) (hsc:X.env.scope.names.lookup n=some .local) (hcl:X.env.cells.lookup n=none)
  (hok:DV X.nox HF₀ H₀ body gb) (hx:∀pn xe E,fj (CW X.prog X.w) (gn X pn xe) E->Fh (gn X pn xe) E HF₀ H₀ body xg)
  (hfin:∀c d,fin c=some d->(∀C,X.mg c=some (.ref C)->W.exmOne X.K (.ref C) (.ref CF)=some true)/\(∃C,X.mg c=some (.ref C))/\ES X i (b₀::suite) c d) :
  DS X HF₀ H₀ (.Try body [.ExceptHandler (some (.Name x np)) (some n) (b₀::suite) hpos] [] [] pos) (Fz gb xg fin):=by
 intro pins s σ H D I ⟨HF,ρ,o,S,hgo,q⟩
 refine wpAny_Try_except ?_
 unfold Fz at hgo
 split at hgo
 ·rename_i d hgb
  cases hgo
  refine xA (v5.nox hok pins s σ H { D with nx:=fun _ _=>False,bk:=fun _ _=>False,ct:=fun _ _=>False } I ⟨HF,ρ,.rt d,S,hgb,q⟩ |> fun _=>hok pins s σ H { D with nx:=fun _ _=>False,bk:=fun _ _=>False,ct:=fun _ _=>False } (I.wish _) ⟨HF,ρ,.rt d,S,hgb,q⟩) (fun f s1 z=>?_) fun _ _ z=>z.elim
  cases f with
  | next=>obtain⟨_,_,_,z⟩:=z;exact z.elim
  | brk=>obtain⟨_,_,_,z⟩:=z;exact z.elim
  | cont=>obtain⟨_,_,_,z⟩:=z;exact z.elim
  | ret u=>exact SP.unwish (D:=D) z
 ·cases hgo
 ·obtain⟨c,hc,hgo⟩:=bs hgo
  obtain⟨d,hd,rfl⟩:=ah hgo
  obtain⟨hex,⟨C,hC⟩,hsu⟩:=hfin c d hd
  have hxm:=hex C hC
  let E1:XK:=fun cls _ H'=>cls=.ref C/\∃HF',bL HF₀ H₀ HF' H'
  let xeT:Value->Shared->Prop:=fun e s1=>∃pins' σ' Hc s0 ea H',e=.ref ea/\Inv (gn X (X.pn++pins) X.xe) pins' σ' Hc s0/\Fy X.prog X.w X.stack Hc s0 (.ref C) ea H' s1/\∃HF',bL HF₀ H₀ HF' H'
  have hp:fj (CW X.prog X.w) (gn X (X.pn++pins) xeT) E1:=fun pins' σ' Hc s0 e s1 Ic hcx=>by
   obtain⟨ea,cls,H',rfl,F,rfl,HF',G⟩:=hcx
   exact⟨pins',σ',Hc,s0,ea,H',rfl,⟨JN I.ok,Ic.os,Ic.bare,Ic.base,Ic.loc,Ic.cell,Ic.free,Ic.freeC,Ic.pin,Ic.hok,Ic.len⟩,F,HF',G⟩
  have hI:Inv (gn X (X.pn++pins) xeT) [] σ H s:=Er I fun p hp=>by rw[qF] at hp;exact hp
  refine xA (hx _ _ E1 hp [] s σ H ⟨fun _ _=>False,fun _ _=>False,fun _ _=>False,fun _ _=>False⟩ hI ⟨HF,ρ,c,C,S,hc,hC,fun H' HF' G=>⟨rfl,HF',G⟩⟩) (fun f s1 z=>?_) fun e s1 z=>?_
  ·exfalso
   cases f with
   | next=>obtain⟨_,_,_,z⟩:=z;exact z
   | brk=>obtain⟨_,_,_,z⟩:=z;exact z
   | cont=>obtain⟨_,_,_,z⟩:=z;exact z
   | ret u=>obtain⟨_,_,_,_,_,z⟩:=z;exact z
  ·obtain⟨pins',σ',Hc,s0,ea,H',rfl,Ic,F,HF',G⟩:=z
   refine land (X:=gn X (X.pn++pins) X.xe) Ic hs hf F fun h' F'=>?_
   refine cF (O6 (X:=gn X (X.pn++pins) X.xe) (D:=⟨fun _ _=>False,fun v H3=>D.rt v H3,fun _ _=>False,fun _ _=>False⟩) Ic F' hg hm hdb hxm hN hi hl hsc hcl fun s2 I2 hob=>?_) fun f s3 z=>?_
   ·have hlen:i < σ'.length:=by rw[Ic.len];exact (List.getElem?_eq_some_iff.mp hi).1
    refine xA (hsu _ _ _ _ _ _ _ C hC I2 (by simp[hlen]) hob) (fun f s3 z=>?_) fun _ _ z=>z
    obtain⟨u,v,σ3,H3,rfl,I3,r,z⟩:=z
    obtain⟨HF3,g3,rp⟩:=z HF' G.fh
    exact⟨u,v,σ3,H3,rfl,I3,r,q v H3 HF3 (G.trans g3) rp⟩
   ·cases f with
    | next=>obtain⟨_,_,_,z⟩:=z;exact z.elim
    | brk=>obtain⟨_,_,_,z⟩:=z;exact z.elim
    | cont=>obtain⟨_,_,_,z⟩:=z;exact z.elim
    | ret u =>
     obtain⟨v,σ3,H3,I3,r,z⟩:=z
     exact⟨v,σ3,H3,Gz I.ok I3 fun p hp=>qJ _ hp,r,z⟩
end
structure DL(P:Program)(w:World)(K:W.Frag)(mg:Str->Option Value)(base:Heap)(k:Nat)(x c:Str)(d:D):Prop where
 ex:∃ (f:Addr) (fd:FuncData) (ps:List Str),mg x=some (.ref f)/\W.keepIn K (.ref f)=true/\Binds K fd ps []/\ps.length=1 /\
  ∀ (A:Around) (outer:List PySem.Env) (s:Shared) (H:Hp) (args:Args) (ea C:Addr),A.depth+3 * k+5 < recursionLimit->A.units+16 * k+200 < cLine->C8 P w K mg base A outer s H->BindsTo s fd args (ps.zip [.ref ea])->mg c=some (.ref C)->ExcAt outer H s.heap ea (.ref C) ->
   codeAny (model P w) A (.call (.ref f) args) (fun r s'=>∃u,r=.ok (.ret u)/\CE outer P w H s (fun v H'=>∀HF,aL HF H->∃HF',bL HF H HF' H'/\Rep K HF' d v) u s') s
section
variable {X:Cx}
theorem Fb{x n c:Str}{d:D}{p pe cpos pos:Pos}(R:DL X.prog X.w X.K X.mg X.base k x c d)(hr:dZ k X.A)(hg:Gl X x)(hdb:(x == ("__debug__":Str))=false)(hi:X.N[i]?=some n)(hl:X.env.kindOf n=some .local)(hsc:X.env.scope.names.lookup n=some .local)(hnd:(n == ("__debug__":Str))=false) :
  ES X i [.Return (some (.Call (.Name x p) [.Name n pe] [] cpos)) pos] c d:=by
 obtain⟨f,fd,ps,hm,hk,hb,hpl,run⟩:=R.ex
 intro pn pins xe σ H s ea C hC I hσ hob
 have ev:∀ {Q:Value->Shared->Prop},Q (.ref ea) s->wpAny (model X.prog X.w) (X.A.mark (some (.ref ea))) (eval (.Name n pe) X.env) Q (fun _ _=>False) s:=fun {Q} q=>by
  obtain⟨m,hn,hlo⟩:=I.loc
  obtain⟨u,r,l⟩:=hlo i n (.ref ea) hi hσ (.inl hsc)
  have r:u=.ref ea:=r
  subst r
  rcases l with ⟨hk,hm⟩|⟨hk,_⟩
  ·exact wU (wJ I.ok.kind hk hn hm q) hnd
  ·have hk:X.env.kindOf n=some .cell\/X.env.kindOf n=some .free:=hk
   rw[hl] at hk
   rcases hk with hk|hk<;>cases hk
 have key:wpAny (model X.prog X.w) (X.A.mark (some (.ref ea))) (eval (.Call (.Name x p) [.Name n pe] [] cpos) X.env) (EP (jo (gn X pn xe) (X.A.mark (some (.ref ea)))) pins σ (fun v H'=>∀HF,aL HF H->∃HF',bL HF H HF' H'/\Rep X.K HF' d v)) (fun _ _=>False) s:=by
  refine qY (lH I hg hm ?_ hdb)
  refine W.callWith_K (h₀:=X.base) I.ok.mod.kin hk (jJ (ev (kK ⟨I.kIn,?_⟩))) rfl rfl
  refine vP (jS (run _ X.stack s H ⟨[.ref ea],[]⟩ ea C hr.dp hr.un I.env0 (by have:=hb s [.ref ea] I.kIn (by simp[hpl]);simpa using this) hC hob) fun r s' hq=>?_)
  obtain⟨u,rfl,hq⟩:=hq
  exact I.after hq
 refine vK (wpAny_Return_some (xA key (fun u s3 z=>?_) fun _ _ z=>z))
 obtain⟨v,H3,I3,r,z⟩:=z
 exact⟨u,v,σ,H3,rfl,I3,r,z⟩
end
open PySem PySem.W PySem.Spec PySem.Calls PyProof.Rows
section
variable {prog:Program}{w:World}{A:Around}{E:Value->Shared->Prop}{s:Shared}{K:Frag}{x D:Addr}{ox:Obj}
theorem E5{M:Model}{self a g:Value}{name:Str}(X:K.In h)(ha:findIn K (.ref D) name=some (some a))(hg:specialIn K a "__get__"=some (some g))(ht:takesIn K a=some true):Looks M h (Builtin.ObjectAttr.find self (.ref D) name) (.bind g a):=by
 refine (looks_findIn X ha).andThen ?_
 refine (show Looks M h (Builtin.ObjectAttr.getOf (some a)) (some g) from looks_specialIn X hg).andThen ?_
 refine (show Looks M h (Builtin.ObjectAttr.dataDescriptor? (some a) (some g)) (some (g,a)) from (looks_takesIn X ht).andThen .now).andThen ?_
 exact Looks.tag .now
theorem JQ{tp:Value}{R:Result->Shared->Prop}(X:K.In s.heap)(L0:Looks (model prog w) s.heap (typeOf (.ref x)) (.ref D))(hm:mroIn K D (.type "object")=some true)
  (h:R (.ok (.ret (.ref D))) s):codeAny (model prog w) A (.call (.builtin "getset_descriptor.__get__") ⟨[.builtin "object.__class__",.ref x,tp],[]⟩) R s:=by
 have LI:Looks (model prog w) s.heap (isInstance (.ref x) (.type "object")) true:=L0.andThen (looks_mroIn X hm)
 obtain⟨hh,g,dr,t,os⟩:=s
 refine wK KF.slot_gs.plain KF.entry_gs (KF.slot_gs.check _ _ _ _ _ _ _ _ KF.type_class (KF.args_gs _ _ _) ?_)
 unfold Builtin.«getset_descriptor.__get__» Builtin.Getset_descriptor.descrGet
 rw[dga_obj]
 refine zV (zW ?_)
 unfold Builtin.Getset_descriptor.descrGetter Builtin.Getset_descriptor.descrCheckInstance Builtin.Getset_descriptor.descrNameAndClass
 simp only[KF.owner_class]
 repeat lk
 refine⟨wZ _ (by decide +kernel),kG KF.entry_class ?_⟩
 unfold Builtin.«object.__class__» shownTypeOf
 repeat lk
 exact h
theorem F8{Q:Option Value->Shared->Prop}(X:K.In s.heap)(ho:s.heap.get? x=some ox)(hcl:ox.cls=.ref D)(hga:findIn K (.ref D) "__getattribute__"=some (some (.builtin "BaseException.__getattribute__")))(hno:findIn K (.ref D) "__getattr__"=some none)
  (ha:findIn K (.ref D) "__class__"=some (some (.builtin "object.__class__"))) (hn:specialIn K (.builtin "object.__class__") "__get__"=some (some (.builtin "getset_descriptor.__get__"))) (htk:takesIn K (.builtin "object.__class__")=some true) (hm:mroIn K D (.type "object")=some true) (hb:subIn K (.ref D) (.type "BaseException")=some true)
  (h:Q (some (.ref D)) { s with toks:=s.toks+1 }):wpAny (model prog w) A (getAttr? (.ref x) "__class__") Q E s:=by
 obtain⟨hh,g,d,t,os⟩:=s
 have L0:Looks (model prog w) hh (typeOf (.ref x)) (.ref D):=hcl ▸ (Looks.ld ho).andThen .now
 have L1:=looks_findIn (M:=model prog w) X hga
 have L2:=looks_findIn (M:=model prog w) X hno
 have LF:=E5 (M:=model prog w) (self:=.ref x) X ha hn htk
 have LI:Looks (model prog w) hh (isInstance (.ref x) (.type "BaseException")) true:=L0.andThen (looks_subIn X hb)
 unfold getAttr? getAttrBy? getAttrBy
 refine zV (wpAny_mkText (zV (kW (xX (zV (L0.at (zV (L1.at ?_))))))))
 have hx2:(Value.builtin "BaseException.__getattribute__" == Value.builtin "object.__getattribute__")=false:=by decide +kernel
 simp only[hx2,vB,yO,qP]
 unfold getAttrByItsOwn hookBefore
 refine zV ?_
 show wpAny _ _ (typeLookup (.ref D) "__getattr__") _ _ _
 refine L2.at ?_
 refine zV (kW (xX ?_))
 show wpAny _ _ (boundAndCalled (.builtin "BaseException.__getattribute__") (.ref x) (.str "__class__" t)) _ _ _
 unfold boundAndCalled
 refine zV (wpAny_of_eq (F.attr_ValueError.ga.bind (.ref x)) ?_)
 refine vP (wK F.attr_ValueError.ga.plain F.entry_bexc_ga ?_)
 have hk:builtinKind "BaseException.__getattribute__"=some .slot:=by decide +kernel
 have hsplit:splitId "BaseException.__getattribute__"=some ("BaseException","__getattribute__"):=by decide +kernel
 simp only[checkBuiltinCall,hk,hsplit]
 refine zV (LI.at ?_)
 simp only[xY,yO,qP]
 have hargs:argsOk "BaseException.__getattribute__" ⟨[.ref x]++[.str (Str.ofString "__class__") t],[]⟩:=F.args_bexc_ga _ _
 have body:∀ {P:Fin->Shared->Prop}{E':Value->Shared->Prop},P (.done (.ret (.ref D))) ⟨hh,g,d,t+1,os⟩->wpAny (model prog w) A.in1 (Builtin.«object.__getattribute__» ⟨[.ref x]++[.str (Str.ofString "__class__") t],[]⟩) P E' ⟨hh,g,d,t+1,os⟩:=fun {P E'} q=>by
  unfold Builtin.«object.__getattribute__»
  refine zV (zW ?_)
  refine zV (zW ?_)
  refine zV (L0.at ?_)
  refine zV (LF.at ?_)
  show wpAny _ _ (holding [.builtin "object.__class__"] (call (.builtin "getset_descriptor.__get__") [.builtin "object.__class__",.ref x,.ref D]) >>= ret) _ _ _
  exact zV (xX (vP (JQ (s:=⟨hh,g,d,t+1,os⟩) X L0 hm (zW q))))
 cases hsig:Manifest.signature? "BaseException.__getattribute__" with
 | none=>exact zW (body (handed_on rfl (zW h)))
 | some sig =>
  have ha':Bind.checkArgs "BaseException.__getattribute__" sig ⟨[.ref x]++[.str (Str.ofString "__class__") t],[]⟩=pure ():=by simpa only[argsOk,hsig] using hargs
  simp only[ha']
  exact zW (body (handed_on rfl (zW h)))
structure Ly(K:Frag)(C:Addr):Prop where
 ga:findIn K (.ref C) "__getattribute__"=some (some (.builtin "BaseException.__getattribute__"))
 no:findIn K (.ref C) "__getattr__"=some none
 cl:findIn K (.ref C) "__class__"=some (some (.builtin "object.__class__"))
 hn:specialIn K (.builtin "object.__class__") "__get__"=some (some (.builtin "getset_descriptor.__get__"))
 tk:takesIn K (.builtin "object.__class__")=some true
 ob:mroIn K C (.type "object")=some true
 be:subIn K (.ref C) (.type "BaseException")=some true
 ci:(clsIn K C).isSome=true
theorem GP(k:Ly K D):KitX K (.ref x) (.ref D) (fun h=>h.get? x=some ox/\ox.cls=.ref D) where
 ty:=fun _ _ _ p=>p.2 ▸ (Looks.ld p.1).andThen .now
 it:=fun _ _ X _=>by
  have hc:=k.ci
  unfold clsIn at hc
  split at hc
  ·rename_i ho
   intro A' Q' E' s' kp q
   unfold isType loadHead
   exact zV (wpAny_loadPart (kp _ _ (X _ _ ho)) (zW q))
  ·cases hc
 ne:=fun h tp dd its n sl X htp=>by
  have hc:=k.ci
  refine Bool.eq_false_iff.mpr fun q=>?_
  have e:D=tp:=Value.ref.inj (beq_iff_eq.mp q)
  subst e
  unfold clsIn at hc
  split at hc
  ·rename_i ho
   have z:=(X _ _ ho).symm.trans htp
   cases z
  ·cases hc
 ca:=fun X p q=>F8 X p.1 p.2 k.ga k.no k.cl k.hn k.tk k.ob k.be q
theorem CZ{c:Value}{Q:Value->Shared->Prop}(k:Ly K D)(X:K.In s.heap)(ho:s.heap.get? x=some ox)(hc:ox.cls=.ref D)(e:kitOne K (.ref D) c=some b)(h:∀tk,Q (.bool b) { s with toks:=tk }) :
  wpAny (model prog w) A (call (.builtin "isinstance") [.ref x,c]) Q E s:=kia_one (GP k) X ⟨ho,hc⟩ e (fun z=>nomatch z) h
end
abbrev BV(A:Around):Around:={ A with handled:=none }
abbrev Dk(P:Program)(w:World)(K:W.Frag)(mg:Str->Option Value)(base:Heap)(N:List Str)(qual:Str)(scope:Scope)(f:Addr)(cdv:Value)(A:Around)(outer:List PySem.Env)(s:Shared)(H:Hp)(pn:List (Addr×Obj)):Cx :=
 gn (jo (rT Ko P w K mg base N qual scope f cdv (BV A) outer s H E0) (A.deeper (envOfC qual scope s.heap.objs.size f cdv))) pn fun _ _=>False
section
variable {P:Program}{w:World}{K:W.Frag}{mg:Str->Option Value}{base:Heap}
theorem Gp{outer:List PySem.Env}{s:Shared}{args:Args}{ea C:Addr}{vs:Array Value}{x qual:Str}{st:Stmt}(F:Ie K x qual st f fd)(S:cT N ps (aj st))(h1:ps.length=1)
  (hdp:A.depth < recursionLimit) (e0:C8 P w K mg base A outer s H) (hb:BindsTo s fd args (ps.zip [.ref ea])) (ho:s.heap.get? ea=some ob) (hd:ob.data=.fields vs) (hn:H ea=none) (hf:ea∉ie outer)
  (body:∀ (cdv:Value) (s1:Shared),Inv (Dk P w K mg base N qual (aj st) f cdv A outer s H [(ea,ob)]) [] (L2.start N [.ref ea]) H s1 ->
   wpAny (model P w) (A.deeper (envOfC qual (aj st) s.heap.objs.size f cdv)) (execs (bB st) (envOfC qual (aj st) s.heap.objs.size f cdv)) (fun fl s'=>∃u v σ' H',fl=.ret u/\Inv (Dk P w K mg base N qual (aj st) f cdv A outer s H [(ea,ob)]) [] σ' H' s'/\RelV v u/\Q v H') (fun _ _=>False) s1) :
  codeAny (model P w) A (.call (.ref f) args) (fun r s'=>∃u,r=.ok (.ret u)/\CE outer P w H s Q u s') s:=by
 obtain⟨oc,od,kV,doc,pm,an,cdv,ct,osl,rfl,lk,hcd⟩:=F.ex
 have KX:K.In s.heap:=e0.mod.kin.keeps fun b o e=>(e0.bs b o e).1
 have lim:s.heap.NoLimit:=e0.mod.nolimit.keeps fun b o e=>(e0.bs b o e).1
 have hkind:∀y∈ps.zip [Value.ref ea],(aj st).names.lookup y.1=some .local \/ ((aj st).names.lookup y.1=some .cell/\((cellsFrom (s.heap.objs.size+1) (aj st).names []).lookup y.1).isSome=true):=fun ⟨n,v⟩ hy=>by
  rcases S.par n (vZ hy).1 with q|q
  ·exact .inl q
  ·exact .inr ⟨q,W.cellsFrom_some _ _ _ (.inl q)⟩
 refine codeAny_call_function hdp (KX _ _ lk) rfl S.co S.gen rfl (W.codeRec_of KX hcd) (hb _ _ _ _ ?_)
 refine wpAny_newFunctionEnv_cells S.kind hkind fun env he s1 x=>?_
 subst he
 refine⟨lim.keeps x.toInCall.keep,codeAny_func ?_⟩
 have e0':C8 P w K mg base (BV A) outer s H:=⟨e0.frames,e0.mod,e0.bs,e0.bsz,e0.funs,e0.frf,e0.hok,e0.bare⟩
 have I0:Inv (rT Ko P w K mg base N qual (aj st) f cdv (BV A) outer s H E0) [] (L2.start N [.ref ea]) H s1:=u9 S rfl e0' (by simp[h1]) (.cons rfl .nil) x
 have hlt:ea < s.heap.objs.size:=zY ho
 have I1:=I0.pins_of (pins':=[(ea,ob)]) fun p hp=>by
  have hp:p=(ea,ob):=by simpa using hp
  subst hp
  exact⟨x.toInCall.keep _ _ ho,hn,yR hlt,hf,fun v z=>by rw[hd] at z;cases z⟩
 have I2:Inv (Dk P w K mg base N qual (aj st) f cdv A outer s H [(ea,ob)]) [] (L2.start N [.ref ea]) H s1:=Er (rA I1 rfl) fun p hp=>yE _ (by simpa using hp)
 refine xA (body cdv s1 I2) (fun fl s' z=>?_) fun _ _ z=>z.elim
 obtain⟨u,v,σ',H',rfl,J,r,q⟩:=z
 exact⟨u,rfl,v,H',J.os,J.bare,J.base,J.hok,r,q⟩
end
section
variable {X:Cx}
theorem Pb{c:Value}{p p1 p2 pos:Pos}(k:Ly X.K C)(hpn:(ea,ob)∈X.pn)(hcls:ob.cls=.ref C)(hgi:Gl X "isinstance")(hmi:X.mg "isinstance"=none)(hi:X.N[i]?=some n)(hl:X.env.kindOf n=some .local)(hsc:X.env.scope.names.lookup n=some .local)(hnd:(n == ("__debug__":Str))=false)
  (hy:∀ {pins:List (Addr×Obj)}{σ:L2.St}{H:Hp}{s:Shared}{Q:Value->Shared->Prop},Inv X pins σ H s->Q c s->wpAny (model X.prog X.w) X.A (eval (.Name y p2) X.env) Q X.xe s) (e:W.kitOne X.K (.ref C) c=some b) :
  PE X (.Call (.Name "isinstance" p) [.Name n p1,.Name y p2] [] pos) (fun σ H Q=>σ[i]?=some (some (.ref ea))/\Q (.bl b) H):=by
 intro pins s σ H Q I ⟨hσ,q⟩
 have ev:∀ {Q:Value->Shared->Prop},Q (.ref ea) s->wpAny (model X.prog X.w) X.A (eval (.Name n p1) X.env) Q X.xe s:=fun {Q} q=>by
  obtain⟨m,hn,hlo⟩:=I.loc
  obtain⟨u,r,l⟩:=hlo i n (.ref ea) hi hσ (.inl hsc)
  have r:u=.ref ea:=r
  subst r
  rcases l with ⟨hk,hm⟩|⟨hk,_⟩
  ·exact wU (wJ I.ok.kind hk hn hm q) hnd
  ·have hk:X.env.kindOf n=some .cell\/X.env.kindOf n=some .free:=hk
   rw[hl] at hk
   rcases hk with hk|hk<;>cases hk
 have ho:=(I.pin (ea,ob) (qJ _ hpn)).1
 refine qY (fW I hgi hmi (u:=.builtin "isinstance") (by decide +kernel) ?_)
 refine PyProof.Rows.callWith_builtin1 (jJ (ev (jJ (hy I (kK ?_))))) rfl rfl
 exact CZ k I.kIn ho hcls e fun tk=>⟨.bl b,H,I.tok tk,rfl,q⟩
end
section
variable {X:Cx}
def J2(d:D)(xs:List D):Nat:=xs.countP fun x=>PyData.eqv x d
theorem Gd(hu:X.A.units+66 < cLine):Pc X "list.count" (fun x vs H Q=>∃ (HF:Hp) (ds:List D) (d:D) (y:V),aL HF H/\Rep X.K HF (.list ds) x/\vs=[y]/\Rep X.K HF d y/\SeqAt.shaped d=true/\SeqAt.shaped (.list ds)=true/\Q (.int (J2 d ds)) H):=by
 intro pins s σ H x vs v us Q I rx rv h
 obtain⟨HF,ds,d,y,sm,r1,rfl,r2,hd,hl,q⟩:=h
 obtain⟨u,rfl,ru⟩:=rv.one
 obtain⟨as,ra⟩:=dc I sm r1 rx
 obtain⟨bs,rb⟩:=dc I sm r2 ru
 have c1:=kL hd
 have c2:=kL hl
 have d1:=SeqAt.depth_of_shaped hd
 simp only[PyData.canLay0] at c2
 have m:=Nat.min_le_right (PyData.depthAll ds) d.depth
 cases ra with
 | list h1 h2 h3 h4 =>
  rename_i l o its n as
  obtain⟨cls,dd,data,sl⟩:=o
  simp only at h2 h3
  subst h2 h3
  have hm:=SeqAt.readsAll_map _ _ _ c2 h4
  refine qX F.slot_list_count ⟨_,h1,rfl⟩ F.entry_list_count (F.args_list_count_2 _ _) (PySem.SeqAt.list_countAt l its n dd sl u (fun y=>PyData.eqv (SeqAt.readOf s.heap y) d)) ⟨h1,?_,?_⟩
  ·exact SeqAt.items_eqAt h4 rb c2 c1 (by lia)
  ·refine⟨.int (J2 d ds),H,I.tok _,⟨s.toks,?_⟩,q⟩
   rw[J2,<- hm,List.countP_map]
   rfl
def lD(X:Cx)(ea:Addr)(es:List Expr)(bs:List Bool):Prop:=PA X es (fun σ H Q=>σ[0]?=some (some (.ref ea))/\Q (bs.map V.bl) H)
theorem Pt:lD X ea [] []:=fun pos pins s σ H Q I ⟨_,q⟩=>eG pos pins s σ H Q I q
theorem KM{bs:List Bool}(h:PE X e (fun σ H Q=>σ[0]?=some (some (.ref ea))/\Q (.bl b) H))(hr:lD X ea es bs)(hs:starEach (e::es) X.env=(false,eval e X.env)::starEach es X.env:=by rfl):lD X ea (e::es) (b::bs) :=
 Ce (cq h hr hs) fun σ H Q ⟨h0,q⟩=>⟨h0,h0,q⟩
theorem gg{K:W.Frag}{H:Hp}:∀bs:List Bool,aw K H (bs.map PyData.bool) (bs.map V.bl)
 | []=>rfl
 | b::bs=>⟨_,_,rfl,rfl,gg bs⟩
theorem mW(bs:List Bool):SeqAt.shaped (.list (bs.map PyData.bool))=true:=by
 have h:∀bs:List Bool,PyData.canLayAll0 (bs.map PyData.bool)=true/\PyData.depthAll (bs.map PyData.bool)<=1:=fun bs=>by
  induction bs with
  | nil=>exact⟨by simp[PyData.canLayAll0],by simp[PyData.depthAll]⟩
  | cons b bs ih=>exact⟨by simp[PyData.canLayAll0,PyData.canLay0,ih.1],by simp[PyData.depthAll,PyData.depth];lia⟩
 have:=h bs
 unfold SeqAt.shaped
 rw[zF]
 exact⟨by simp[PyData.canLay0,this.1],by simp[PyData.depth];lia⟩
variable {ea:Addr}{es1 es2:List Expr}{bs1 bs2:List Bool}{j:Nat}{e6:Expr}{bad:List Stmt}
theorem Ju{a1 a2 a3 b1 b2 b3 b4 b5 b6 c1 c2 c3 c4 c5 c6 c7 c8 c9 d1 d2 d3 d4 d5 d6 d7:Pos}(hu:X.A.units+66 < cLine)(hN:X.N=[("_law_e":Str),("_law_flags":Str)])(hl:X.env.scope.names.lookup ("_law_flags":Str)=some .local)
  (h1:lD X ea es1 bs1) (h2:lD X ea es2 bs2) (h6:PE X e6 (fun σ H Q=>σ[0]?=some (some (.ref ea))/\Q (.bl true) H)) (w6:∀whole,isTrue e6 X.env whole=(do let v <- whole;standAt e6.pos;holding [v] (truthy v)))
  (hc:J2 (.bool true) ((bs1++bs2).map PyData.bool)=1) (hj:AB (.bool true) ((bs1++bs2).map PyData.bool)=some j) (hz:bs1.length+bs2.length<=sizeLine) (l1:(c2.endLine == c4.line)=true) (l2:(d2.endLine == d4.line)=true) :
  v5 X [.Assign [.Name "_law_flags" a1] (.List es1 a2) a3,.Assign [.Name "_law_flags" b1] (.BinOp (.Name "_law_flags" b2) .Add (.List es2 b3) b4) b5,
   .If (.BoolOp .Or [.Compare (.Call (.Attribute (.Name "_law_flags" c1) "count" c2) [.Constant (.bool true) i1 c3] [] c4) [.NotEq] [.Constant (.int 1) i2 c5] c6,.UnaryOp .Not e6 c7] c8) bad [] c9,
   .Return (some (.Tuple [.Constant (.str "refused") i3 d1,.Call (.Attribute (.Name "_law_flags" d3) "index" d2) [.Constant (.bool true) i4 d5] [] d4] k1 d6)) d7]
   (fun D σ H=>σ.length=2/\σ[0]?=some (some (.ref ea))/\∀v H',(∀HF,aL HF H->∃HF',bL HF H HF' H'/\Rep X.K HF' (.tuple [.str "refused",.int j]) v)->D.rt v H'):=by
 have hnd:X.N.Nodup:=by rw[hN];decide
 have hi:X.N[1]?=some ("_law_flags":Str):=by rw[hN];rfl
 have hlc:Loc X.env.scope ("_law_flags":Str):=.inl hl
 have hv:Mv X.env.scope ("_law_flags":Str):=.inl hl
 have hbad:v5 X bad (fun _ _ _=>False):=fun _ _ _ _ _ _ z=>z.elim
 have p1:=rl (pos':=a1) (pos:=a3) hnd hi hlc (De (pos:=a2) h1) rfl (.inr hl)
 have p2:=rl (pos':=b1) (pos:=b5) hnd hi hlc (ET (pos:=b4) rL (kg (pos:=b2) hi hv) (De (pos:=b3) h2)) rfl (.inr hl)
 have p3:=Im (pos:=c9) (PW.pt (MK (pos:=c8) (Ek (pos:=c6) Qb (so (apos:=c2) (cpos:=c4) qN PySem.F.slot_list_count PySem.F.type_list_count (Gd hu) (kg (pos:=c1) hi hv) (cq (Hz (b:=true) (j:=i1) (pos:=c3)) eG) rfl rfl l1) (Hg (i:=1) (j:=i2) (pos:=c5)) (Kj _ (by decide) (by decide))) (JS (pos:=c8) (JI (pos:=c7) (HE h6 w6))))) hbad xw
 have p4:=Cr (pos:=d7) (Hi (x1:=k1) (pos:=d6) (cq (HQ (x:="refused") (j:=i3) (pos:=d1)) (cq (so (apos:=d2) (cpos:=d4) qN PySem.F.slot_list_index PySem.F.type_list_index (FJ hu) (kg (pos:=d3) hi hv) (cq (Hz (b:=true) (j:=i4) (pos:=d5)) eG) rfl rfl l2) eG)))
 refine p8 (iM p1 (iM p2 (iM p3 (iM p4 xw)))) fun D σ H ⟨hlen,h0,q⟩=>?_
 refine⟨h0,by rw[zD];lia,fun p hp=>?_⟩
 have s1:∀v:V,(σ.set 1 (some v))[1]?=some (some v):=fun v=>by simp[hlen]
 have s0:∀v:V,(σ.set 1 (some v))[0]?=some (some (.ref ea)):=fun v=>by simp[h0]
 refine⟨.ref p,s1 _,s0 _,by rw[zD];lia,fun p2 hp2=>⟨p,p2,bs1.map V.bl,bs2.map V.bl,rfl,rfl,.inl (.inl ?_),.inl (.inl aA),by rw[zD,zD];exact hz,fun p3 hp3=>?_⟩⟩
 ·rw[ay (fun z=>by rw[z] at hp2 ;rw[aA] at hp2;cases hp2)]
  exact aA
 have t1:∀v w:V,((σ.set 1 (some w)).set 1 (some v))[1]?=some (some v):=fun v w=>by simp[hlen]
 have t0:∀v w:V,((σ.set 1 (some w)).set 1 (some v))[0]?=some (some (.ref ea)):=fun v w=>by simp[h0]
 let H3:Hp:=upd (upd (upd H p (.lst (bs1.map V.bl))) p2 (.lst (bs2.map V.bl))) p3 (.lst (bs1.map V.bl++bs2.map V.bl))
 have hsm:aL H H3:=fun b o e=>by
  have n1:b≠p:=fun z=>by rw[z,hp] at e;cases e
  have e1:upd H p (.lst (bs1.map V.bl)) b=some o:=by rw[ay n1];exact e
  have n2:b≠p2:=fun z=>by rw[z,hp2] at e1;cases e1
  have e2:upd (upd H p (.lst (bs1.map V.bl))) p2 (.lst (bs2.map V.bl)) b=some o:=by rw[ay n2];exact e1
  have n3:b≠p3:=fun z=>by rw[z,hp3] at e2;cases e2
  show upd _ p3 _ b=some o
  rw[ay n3];exact e2
 have hls:ig X.K H3 p3 ((bs1++bs2).map V.bl):=by
  rw[jA]
  exact .inl (.inl aA)
 have hrp:Rep X.K H3 (.list ((bs1++bs2).map PyData.bool)) (.ref p3):=⟨p3,_,rfl,hls,gg _⟩
 have hst:SeqAt.shaped (.bool true)=true:=by decide
 refine⟨.ref p3,t1 _ _,.inl ⟨rfl,_,hls⟩,H3,_,.bool true,.bl true,.refl _,hrp,rfl,rfl,hst,mW _,?_⟩
 rw[hc]
 refine⟨rfl,?_⟩
 refine⟨false,rfl,?_⟩
 refine pI ?_
 refine⟨t0 _ _,true,rfl,?_⟩
 refine pI ?_
 refine⟨.ref p3,t1 _ _,.inl ⟨rfl,_,hls⟩,H3,_,.bool true,.bl true,j,.refl _,hrp,rfl,rfl,hst,mW _,by rw[zD,zN];exact hz,hj,(show 2<=sizeLine by decide),fun p4 hp4=>?_⟩
 have hp4:H3 p4=none:=hp4
 refine q (.ref p4) _ fun HF sm=>⟨upd HF p4 (.tup [.str "refused",.int j]),⟨fun b o e=>?_,fun b o e=>?_,fun b o e=>?_,fun b o e=>?_⟩,p4,_,rfl,.inl (.inl aA),?_⟩
 ·have e3:=hsm b o e
  rw[ay (fun z=>by rw[z,hp4] at e3;cases e3)]
  exact e3
 ·have e3:=hsm b o (sm b o e)
  rw[ay (fun z=>by rw[z,hp4] at e3;cases e3)]
  exact e
 ·by_cases z:b=p4
  ·subst z
   rw[aA] at e ⊢
   exact e
  ·rw[ay z] at e ⊢
   exact hsm b o (sm b o e)
 ·by_cases z:b=p4
  ·subst z
   refine .inr ?_
   cases w:H b with
   | none=>rfl
   | some u=>have:=hsm b u w;rw[hp4] at this;cases this
  ·rw[ay z] at e
   exact .inl e
 ·exact⟨_,_,rfl,rfl,_,_,rfl,rfl,rfl⟩
end
open PySem L2 Dl PySem.Spec PyProof.Rows Rf
abbrev XE:=Dl.Env->Option Str
abbrev XS:=ak->Option Str
abbrev XT:=List (Str×Nat×(List D->Option Str))
def K3:XE:=fun _=>none
def Cs:XS:=fun _=>none
def ml(x:XE):XS:=fun ρ=>x (aI ρ)
def Rn(c:Str):XS:=fun _=>some c
def uf(xh:XS)(g:GS)(xr:XS):XS:=fun ρ=>match xh ρ with
 | some c=>some c
 | none=>OJ g xr ρ
def yp(P:Program)(w:World)(K:W.Frag)(mg:Str->Option Value)(base:Heap)(j:Nat)(l:XT):Prop:=∀x n m,l.lookup x=some (n,m)->El P w K mg base j x n m
def RG(fx:XT)(sc:Scope)(T:Tr)(x:Str)(a:Expr)(as:List Expr):Option XE:=match fx.lookup x with
 | some (m,xm)=>if (tP sc x&&((a::as).all fun e=>!isStar e)&&!(x == ("__debug__":Str)))=true then (xu T (a::as)).map fun fs=>uN m xm fs else none
 | none=>none
def MJ(fx:XT)(sc:Scope)(T:Tr):Nat->Expr->Option XE
 | 0,_=>none
 | n+1,e=>match e with
  | .Call (.Name x _) (a::as) [] _=>RG fx sc T x a as
  | .IfExp c a b _=>(T.t c).bind fun t=>match MJ fx sc T n a,MJ fx sc T n b with
   | none,none=>none
   | xa,xb=>some (BZ t (xa.getD K3) (xb.getD K3))
  | _=>none
def tV(f:Stmt->Option XS)(tS:Stmt->Option GS):List Stmt->Option XS
 | []=>none
 | s::r=>match f s,tV f tS r with
  | none,none=>none
  | some xh,none=>some xh
  | none,some xr=>(tS s).map fun g=>OJ g xr
  | some xh,some xr=>match tS s with
   | some g=>some (uf xh g xr)
   | none=>some xh
def Ma(cl:List Str)(fx:XT)(sc:Scope)(N:List Str)(T:Tr)(tS:Stmt->Option GS):Nat->Stmt->Option XS
 | 0,_=>none
 | n+1,st=>match st with
  | .Return (some e) _=>(MJ fx sc T 4 e).map ml
  | .Expr e _=>if yc e=true then (MJ fx sc T 4 e).map ml else none
  | .Assign [.Name x _] e _=>(N.idxOf? x).bind fun i=>if (rE N sc i x&&!B9 e)=true then (MJ fx sc T 4 e).map ml else none
  | .If c a b _=>(T.t c).bind fun t=>match tV (Ma cl fx sc N T tS n) tS a,tV (Ma cl fx sc N T tS n) tS b with
   | none,none=>none
   | xa,xb=>some (Rp t (xa.getD Cs) (xb.getD Cs))
  | .Raise (some (.Call (.Name x _) [.Constant (.str _) _ _] [] _)) none _=>if (cl.contains x&&tP sc x&&!(x == ("__debug__":Str)))=true then some (Rn x) else none
  | _=>none
section
variable {X:Cx}{E:XK}{N:List Str}{sc:Scope}{k j:Nat}{T:Tr}{fx:XT}{cl:List Str}{HF₀ H₀:Hp}{tS:Stmt->Option GS}
theorem Qy:Kn X E e K3:=fun pins s σ H Q I ⟨HF,ρ,c,C,_,_,h,_⟩=>by cases h
theorem MQ{st:List Stmt}:Fh X E HF₀ H₀ st Cs:=fun pins s σ H Q I ⟨HF,ρ,c,C,_,h,_⟩=>by cases h
theorem NG(C:Bk X.nox N sc k)(O:da X.nox T)(hx:yp X.prog X.w X.K X.mg X.base k fx)(hp:fj (CW X.prog X.w) X E){x:Str}{as:List Expr}{xf:XE}(h:RG fx sc T x a as=some xf):Kn X E (.Call (.Name x p) (a::as) [] pos) xf:=by
 unfold RG at h
 split at h
 ·rename_i m xm hl
  split at h
  ·rename_i hc
   simp only[zF] at hc
   obtain⟨fs,hfs,rfl⟩:=ah h
   have hst:isStar a=false/\(as.all fun e=>!isStar e)=true:=by
    have:=hc.1.2
    rw[xS,zF] at this
    exact⟨by simpa using this.1,this.2⟩
   exact ME (hx x m xm hl) C.room hp (C.gl hc.1.1) (cZ O hfs) (by simpa using hc.2) (bx (by simpa using hst.1)) (dg hst.2)
  ·cases h
 ·cases h
theorem yh(C:Bk X.nox N sc k)(O:da X.nox T)(hx:yp X.prog X.w X.K X.mg X.base k fx)(hp:fj (CW X.prog X.w) X E):∀ (n:Nat) {e:Expr}{xf:XE},MJ fx sc T n e=some xf->Kn X E e xf
 | 0,e,xf,h=>by cases h
 | n+1,e,xf,h=>by
  have ih:∀ {e:Expr}{o:Option XE},MJ fx sc T n e=o->Kn X E e (o.getD K3):=fun {e o} h=>by
   cases o with
   | none=>exact Qy
   | some x=>exact yh C O hx hp n h
  unfold MJ at h
  split at h
  ·exact NG C O hx hp h
  ·obtain⟨t,ht,h⟩:=bs h
   split at h
   ·cases h
   ·cases h
    exact Qt (O.t _ _ ht) (ih rfl) (ih rfl)
  ·cases h
theorem Lg{st:Stmt}{xh xr:XS}(h1:DX X E HF₀ H₀ st xh)(h2:DS X.nox HF₀ H₀ st g)(h3:Fh X E HF₀ H₀ rest xr):Fh X E HF₀ H₀ (st::rest) (uf xh g xr):=fun pins s σ H D I ⟨HF,ρ,c,C,S,hx,hc,q⟩=>by
 unfold uf at hx
 split at hx
 ·rename_i c' hh
  cases hx
  exact qa h1 pins s σ H D I ⟨HF,ρ,c,C,S,hh,hc,q⟩
 ·exact AX h2 h3 pins s σ H D I ⟨HF,ρ,c,C,S,hx,hc,q⟩
theorem vz{f:Stmt->Option XS}(hf:∀s x,f s=some x->DX X E HF₀ H₀ s x)(ht:∀s g,tS s=some g->DS X.nox HF₀ H₀ s g):∀ {l:List Stmt}{x:XS},tV f tS l=some x->Fh X E HF₀ H₀ l x
 | [],x,h=>by cases h
 | s::r,x,h=>by
  have ih:=fun x=>vz hf ht (l:=r) (x:=x)
  unfold tV at h
  split at h
  ·cases h
  ·rename_i h1 h2
   cases h
   exact qa (hf _ _ h1)
  ·rename_i h1 h2
   obtain⟨g,hg,rfl⟩:=ah h
   exact AX (ht _ _ hg) (ih _ h2)
  ·rename_i h1 h2
   split at h
   ·rename_i g hg
    cases h
    exact Lg (hf _ _ h1) (ht _ _ hg) (ih _ h2)
   ·cases h
    exact qa (hf _ _ h1)
def Sy(X:Cx)(E:XK)(HF₀ H₀:Hp)(cl:List Str):Prop:=∀x∈cl,Gl X x->(x == ("__debug__":Str))=false->∀ (np cpos pos p:Pos) (t:Str) (i:Nat),DX X E HF₀ H₀ (.Raise (some (.Call (.Name x np) [.Constant (.str t) i p] [] cpos)) none pos) (Rn x)
theorem GF(C:Bk X.nox N sc k)(O:da X.nox T)(hx:yp X.prog X.w X.K X.mg X.base k fx)(hp:fj (CW X.prog X.w) X E)(hr:Sy X E HF₀ H₀ cl)(ht:∀s g,tS s=some g->DS X.nox HF₀ H₀ s g):∀ (n:Nat) {st:Stmt}{x:XS},Ma cl fx sc N T tS n st=some x->DX X E HF₀ H₀ st x
 | 0,st,x,h=>by cases h
 | n+1,st,x,h=>by
  have ih:∀ {l:List Stmt}{o:Option XS},tV (Ma cl fx sc N T tS n) tS l=o->Fh X E HF₀ H₀ l (o.getD Cs):=fun {l o} h=>by
   cases o with
   | none=>exact MQ
   | some x=>exact vz (fun s x h=>GF C O hx hp hr ht n h) ht h
  unfold Ma at h
  split at h
  ·obtain⟨xf,hf,rfl⟩:=ah h
   exact Nz (yh C O hx hp 4 hf)
  ·split at h
   ·rename_i hc
    obtain⟨xf,hf,rfl⟩:=ah h
    refine Nm (yh C O hx hp 4 hf) ?_
    rename_i e pos
    cases e<;>first|rfl|cases hc
   ·cases h
  ·obtain⟨i,hi,h⟩:=bs h
   split at h
   ·rename_i hl
    simp only[zF,yP] at hl
    obtain⟨xf,hf,rfl⟩:=ah h
    obtain⟨z1,z2,z3,z4⟩:=C.loc hl.1
    exact cH (rl z1 z2 z3 (yh C O hx hp 4 hf) (nZ hl.2) z4) fun D σ H q=>JU q
   ·cases h
  ·obtain⟨t,ht',h⟩:=bs h
   split at h
   ·cases h
   ·cases h
    exact QC (O.t _ _ ht') (ih rfl) (ih rfl)
  ·split at h
   ·rename_i hc
    simp only[zF,yP] at hc
    cases h
    exact hr _ (List.contains_iff_mem.mp hc.1.1) (C.gl hc.1.2) hc.2 _ _ _ _ _ _
   ·cases h
  ·cases h
end
abbrev NO(st:Stmt)(N:List Str)(S:Sg)(fx:XT)(cl:List Str):Option XS:=tV (Ma cl fx (aj st) N (tr S 40 none (aj st) N) (um (aj st) N (tr S 40 none (aj st) N) 40) 10) (um (aj st) N (tr S 40 none (aj st) N) 40) (bB st)
def MW(K:W.Frag)(mg:Str->Option Value)(cl:List Str):Prop:=∀c∈cl,∃C:Addr,mg c=some (.ref C)/\W.excIn K C OW "ValueError.__new__"=true
section
variable {P:Program}{w:World}{K:W.Frag}{mg:Str->Option Value}{base:Heap}{j:Nat}
theorem MM{E:XK}{fs:List (Str×Nat×(List D->Option D))}{is:List (Str×Int)}{l:List Stmt}{xg:XS}(C:Bk X.nox N sc j)(B:Bn X)(hf:iD X.prog X.w X.K X.mg X.base j fs)(hi:gu X.mg is)(hx:yp X.prog X.w X.K X.mg X.base j fx)(hp:fj (CW X.prog X.w) X E)(hr:Sy X E HF₀ H₀ cl)
  (t:tV (Ma cl fx sc N (tr ⟨fs,is⟩ 40 none sc N) (um sc N (tr ⟨fs,is⟩ 40 none sc N) 40) 10) (um sc N (tr ⟨fs,is⟩ 40 none sc N) 40) l=some xg):Fh X E HF₀ H₀ l xg:=by
 have O:da X.nox (tr ⟨fs,is⟩ 40 none sc N):=EY (G:=⟨fs,is⟩) 40 C ⟨hf,hi,B⟩ (yM j) fun q z=>by cases z
 have ht:∀s g,um sc N (tr ⟨fs,is⟩ 40 none sc N) 40 s=some g->DS X.nox HF₀ H₀ s g:=fun s g h=>sF C B O 40 h
 exact vz (fun s x h=>GF C O hx hp hr ht 10 h) ht t
theorem Gu{x:Str}{st:Stmt}{xg:XS}(D:bO K mg x st ps)(B:∀x∈cB,mg x=none)(hf:iD P w K mg base j S.fn)(hi:gu mg S.int)(hx:yp P w K mg base j fx)(hc:MW K mg cl)(t:NO st N S fx cl=some xg)(F:cT N ps (aj st):=by exact Rf.PM):El P w K mg base (j+1) x ps.length (zx xg N.length):=by
 obtain⟨f,fd,hm,Fu,hb⟩:=D.ex
 refine fnX Fu F hb hm fun X E hP hw hK hm' hb' C hcalm hk HF H=>?_
 subst hP;subst hw;subst hK;subst hm';subst hb'
 exact MM C B hf hi hx hk.pass (fun c hcl hg hd np cpos pos p t i=>by
  obtain⟨Ca,h1,h2⟩:=hc c hcl
  exact Ih hk hcalm hg h1 h2 hd) t
theorem CT:yp P w K mg base j []:=fun _ _ _ h=>by cases h
theorem xm{x:Str}{n:Nat}{m:List D->Option Str}{l:XT}(F:El P w K mg base i x n m)(h:yp P w K mg base j l)(e:i<=j:=by decide):yp P w K mg base j ((x,n,m)::l):=fun y n' m' e'=>by
 rw[yB] at e'
 cases q:y == x with
 | true=>rw[q] at e';cases e';rw[eq_of_beq q];exact F.mono e
 | false=>rw[q] at e';exact h y n' m' e'
end
def Qz(K:W.Frag)(C:Addr):Bool:=W.findIn K (.ref C) "__getattribute__" == some (some (.builtin "BaseException.__getattribute__"))&&(W.findIn K (.ref C) "__getattr__" == some none)&&(W.findIn K (.ref C) "__class__" == some (some (.builtin "object.__class__")))&&(W.specialIn K (.builtin "object.__class__") "__get__" == some (some (.builtin "getset_descriptor.__get__")))&&(W.takesIn K (.builtin "object.__class__") == some true)&&(W.mroIn K C (.type "object") == some true)&&(W.subIn K (.ref C) (.type "BaseException") == some true)&&(W.clsIn K C).isSome
def PX(K:W.Frag)(F:Addr)(cs:List (Str×Addr)):Bool:=(W.nsIn K mainGlobals "FlowError" == some (some (.ref F)))&&(W.nsIn K mainGlobals "ValueError" == some none)&&cs.all fun c=>(W.nsIn K mainGlobals c.1 == some (some (.ref c.2)))&&W.excIn K c.2 OW "ValueError.__new__"&&Qz K c.2&&(W.exmOne K (.ref c.2) (.ref F) == some true)&&(W.kitOne K (.ref c.2) (.type "ValueError") == some true)&&cs.all fun d=>W.kitOne K (.ref c.2) (.ref d.2) == some (c.1 == d.1)
structure AD(K:W.Frag)(mg:Str->Option Value)(F:Addr)(cs:List (Str×Addr)):Prop where
 fe:mg "FlowError"=some (.ref F)
 ve:mg "ValueError"=none
 at_:∀c∈cs,mg c.1=some (.ref c.2)
 ex:∀c∈cs,W.excIn K c.2 OW "ValueError.__new__"=true
 ek:∀c∈cs,Ly K c.2
 xm:∀c∈cs,W.exmOne K (.ref c.2) (.ref F)=some true
 kv:∀c∈cs,W.kitOne K (.ref c.2) (.type "ValueError")=some true
 kt:∀c∈cs,∀d∈cs,W.kitOne K (.ref c.2) (.ref d.2)=some (c.1 == d.1)
theorem MB{K:W.Frag}{mg:Str->Option Value}(X:K.In h)(G:h.Ns mainGlobals mg)(e:PX K F cs=true):AD K mg F cs:=by
 unfold PX at e
 simp only[zF,xG,vQ] at e
 obtain⟨⟨e1,e2⟩,e3⟩:=e
 refine⟨W.mg_of X G e1,W.mg_none_of X G e2,fun c hc=>W.mg_of X G (e3 c hc).1.1.1.1.1,fun c hc=>(e3 c hc).1.1.1.1.2,fun c hc=>?_,fun c hc=>(e3 c hc).1.1.2,fun c hc=>(e3 c hc).1.2,fun c hc d hd=>(e3 c hc).2 d hd⟩
 have q:=(e3 c hc).1.1.1.2
 unfold Qz at q
 simp only[zF,vQ] at q
 exact⟨q.1.1.1.1.1.1.1,q.1.1.1.1.1.1.2,q.1.1.1.1.1.2,q.1.1.1.1.2,q.1.1.1.2,q.1.1.2,q.1.2,q.2⟩
theorem AD.ok{K:W.Frag}{mg:Str->Option Value}(M:AD K mg F cs)(h:(cl.all fun c=>(cs.map Prod.fst).contains c)=true):MW K mg cl:=fun c hc=>by
 have:=List.contains_iff_mem.mp (List.all_eq_true.mp h c hc)
 obtain⟨q,hq,rfl⟩:=List.mem_map.mp this
 exact⟨q.2,M.at_ q hq,M.ex q hq⟩
def Ri(sc:Scope):Expr->Option Str
 | .Call (.Name f _) [.Name n _,.Name y _] [] _=>if (f == ("isinstance":Str)&&n == ("_law_e":Str)&&tP sc "isinstance"&&tP sc y)=true then some y else none
 | _=>none
def J5(sc:Scope):List Expr->Option (List Str)
 | []=>some []
 | e::r=>(Ri sc e).bind fun y=>(J5 sc r).map fun ys=>y::ys
def xt(ns:List Str)(c:Str):Option D:=if ns.contains c=true then (AB (.bool true) (ns.map fun n=>.bool (c == n))).map fun j=>.tuple [.str "refused",.int ((j:Nat):Int)] else none
section
variable {P:Program}{w:World}{K:W.Frag}{mg:Str->Option Value}{base:Heap}{F:Addr}{cs:List (Str×Addr)}
theorem IY{c:Str×Addr}{v:Value}(M:AD X.K X.mg F cs)(hc:c∈cs)(hpn:(ea,ob)∈X.pn)(hcls:ob.cls=.ref c.2)(hsc:Ll X sc)(hmi:X.mg "isinstance"=none)(hN:X.N[0]?=some ("_law_e":Str))(hl:X.env.kindOf ("_law_e":Str)=some .local)(hs:X.env.scope.names.lookup ("_law_e":Str)=some .local)
  (hr:Ri sc e=some y) (hy:∀ {p2:Pos}{pins:List (Addr×Obj)}{σ:L2.St}{H:Hp}{s:Shared}{Q:Value->Shared->Prop},Gl X y->Inv X pins σ H s->Q v s->wpAny (model X.prog X.w) X.A (eval (.Name y p2) X.env) Q X.xe s) (hk:W.kitOne X.K (.ref c.2) v=some b) :
  PE X e (fun σ H Q=>σ[0]?=some (some (.ref ea))/\Q (.bl b) H)/\(∀env whole,isTrue e env whole=(do let v <- whole;standAt e.pos;holding [v] (truthy v)))/\∀es:List Expr,starEach (e::es) X.env=(false,eval e X.env)::starEach es X.env:=by
 unfold Ri at hr
 split at hr
 ·rename_i f pf n pn y' py pos
  split at hr
  ·rename_i hh
   cases hr
   simp only[zF,vQ] at hh
   obtain⟨⟨⟨rfl,rfl⟩,hg⟩,hgy⟩:=hh
   have gl:∀ {x:Str},tP sc x=true->Gl X x:=fun h=>by
    rcases hsc _ _ (yQ h) with q|⟨q,_⟩
    ·exact q
    ·cases q
   exact⟨Pb (M.ek c hc) hpn hcls (gl hg) hmi hN hl hs (by decide) (fun {pins σ H s Q} I q=>hy (gl hgy) I q) hk,fun env whole=>rfl,fun es=>rfl⟩
  ·cases hr
 ·cases hr
theorem v7{X:Cx}{sc:Scope}{ea:Addr}{ob:Obj}{c:Str×Addr}(M:AD X.K X.mg F cs)(hc:c∈cs)(hpn:(ea,ob)∈X.pn)(hcls:ob.cls=.ref c.2)(hsc:Ll X sc)(hmi:X.mg "isinstance"=none)(hN:X.N[0]?=some ("_law_e":Str))(hl:X.env.kindOf ("_law_e":Str)=some .local)(hs:X.env.scope.names.lookup ("_law_e":Str)=some .local)(hd:(cs.all fun d=>!(d.1 == ("__debug__":Str)))=true) :
  ∀ {es:List Expr}{ns:List Str},J5 sc es=some ns->(ns.all fun c=>(cs.map Prod.fst).contains c)=true->lD X ea es (ns.map fun n=>c.1 == n)
 | [],ns,h,_=>by cases h;exact Pt
 | e::es,ns,h,ha=>by
  unfold J5 at h
  obtain⟨y,hy,h⟩:=bs h
  obtain⟨ys,hys,rfl⟩:=ah h
  rw[xS,zF] at ha
  obtain⟨d,hdm,rfl⟩:=List.mem_map.mp (List.contains_iff_mem.mp ha.1)
  have hdb:(d.1 == ("__debug__":Str))=false:=by simpa using List.all_eq_true.mp hd d hdm
  obtain⟨h1,_,h3⟩:=IY (v:=.ref d.2) M hc hpn hcls hsc hmi hN hl hs hy (fun {p2 pins σ H s Q} hg I q=>lH I hg (M.at_ d hdm) q hdb) (M.kt c hc d hdm)
  exact KM h1 (v7 M hc hpn hcls hsc hmi hN hl hs hd hys ha.2) (h3 es)
theorem FV{env:PySem.Env}(h:A.units+200 < cLine):(A.deeper env).units+66 < cLine:=by
 have:(A.deeper env).units<=A.units+16:=by simp[Around.deeper]
 lia
theorem Qj{st:Stmt}{es1 es2:List Expr}{e6:Expr}{bad:List Stmt}{a1 a2 a3 b1 b2 b3 b4 b5 c1 c2 c3 c4 c5 c6 c7 c8 c9 d1 d2 d3 d4 d5 d6 d7:Pos}{ns1 ns2:List Str}(D:bO K mg "_law_refused" st ["_law_e"])(M:AD K mg F cs)(B:∀x∈cB,mg x=none)
  (hb:bB st=[.Assign [.Name "_law_flags" a1] (.List es1 a2) a3,.Assign [.Name "_law_flags" b1] (.BinOp (.Name "_law_flags" b2) .Add (.List es2 b3) b4) b5,
   .If (.BoolOp .Or [.Compare (.Call (.Attribute (.Name "_law_flags" c1) "count" c2) [.Constant (.bool true) i1 c3] [] c4) [.NotEq] [.Constant (.int 1) i2 c5] c6,.UnaryOp .Not e6 c7] c8) bad [] c9,
   .Return (some (.Tuple [.Constant (.str "refused") i3 d1,.Call (.Attribute (.Name "_law_flags" d3) "index" d2) [.Constant (.bool true) i4 d5] [] d4] k1 d6)) d7])
  (S:cT [("_law_e":Str),("_law_flags":Str)] ["_law_e"] (aj st)) (r1:J5 (aj st) es1=some ns1) (r2:J5 (aj st) es2=some ns2) (r6:Ri (aj st) e6=some "ValueError")
  (s1:(aj st).names.lookup ("_law_e":Str)=some .local) (s2:(aj st).names.lookup ("_law_flags":Str)=some .local) (Rv:((ns1++ns2).all fun c=>(cs.map Prod.fst).contains c&&decide (J2 (.bool true) ((ns1++ns2).map fun n=>.bool (c == n))=1))=true) (hdb:(cs.all fun d=>!(d.1 == ("__debug__":Str)))=true) (hz:ns1.length+ns2.length<=sizeLine) (l1:(c2.endLine == c4.line)=true) (l2:(d2.endLine == d4.line)=true) :
  ∀c d,xt (ns1++ns2) c=some d->DL P w K mg base k "_law_refused" c d:=fun c d h=>by
 unfold xt at h
 split at h
 ·rename_i hc
  have hcm:=List.contains_iff_mem.mp hc
  obtain⟨j,hj,rfl⟩:=ah h
  have hcc:=List.all_eq_true.mp Rv c hcm
  rw[zF] at hcc
  obtain⟨q,hq,rfl⟩:=List.mem_map.mp (List.contains_iff_mem.mp hcc.1)
  have hcnt:=yQ hcc.2
  obtain⟨f,fd,hm,Fu,hbd⟩:=D.ex
  refine⟨f,fd,["_law_e"],hm,Fu.kp,hbd,rfl,fun A outer s H args ea C hdp hun e0 hbt hC hex=>?_⟩
  obtain⟨⟨ob,vs,ho,hcl,hd⟩,hn,hf⟩:=hex
  have hCq:C=q.2:=by
   have:=M.at_ q hq
   rw[hC] at this
   cases this
   rfl
  subst hCq
  refine Gp (C:=q.2) Fu S rfl (by lia) e0 hbt ho hd hn hf fun cdv t1 I=>?_
  rw[hb]
  have hall:∀ {l:List Str},(∀n∈l,n∈ns1++ns2)->(l.all fun c=>(cs.map Prod.fst).contains c)=true:=fun hl=>by
   rw[xG]
   intro n hn
   have:=List.all_eq_true.mp Rv n (hl n hn)
   rw[zF] at this
   exact this.1
  let X:Cx:=Dk P w K mg base [("_law_e":Str),("_law_flags":Str)] "_law_refused" (aj st) f cdv A outer s H [(ea,ob)]
  have hpn:(ea,ob)∈X.pn:=List.mem_singleton.mpr rfl
  have hsc:Ll X (aj st):=fun y kd hy=>.inl hy
  have hmi:X.mg "isinstance"=none:=B _ (by decide)
  have f1:=v7 (X:=X) (sc:=aj st) M hq hpn hcl hsc hmi rfl s1 s1 hdb r1 (hall fun n hn=>qJ _ hn)
  have f2:=v7 (X:=X) (sc:=aj st) M hq hpn hcl hsc hmi rfl s1 s1 hdb r2 (hall fun n hn=>yE _ hn)
  obtain⟨f6,w6,_⟩:=IY (X:=X) (sc:=aj st) (v:=.type "ValueError") M hq hpn hcl hsc hmi rfl s1 s1 r6 (fun {p2 pins σ H s Q} hg I q=>fW I hg M.ve (by decide +kernel) q) (M.kv q hq)
  have main:=Ju (X:=X) (bad:=bad) (j:=j) (a1:=a1) (a2:=a2) (a3:=a3) (b1:=b1) (b2:=b2) (b3:=b3) (b4:=b4) (b5:=b5) (b6:=b5) (c1:=c1) (c2:=c2) (c3:=c3) (c4:=c4) (c5:=c5) (c6:=c6) (c7:=c7) (c8:=c8) (c9:=c9) (d1:=d1) (d2:=d2) (d3:=d3) (d4:=d4) (d5:=d5) (d6:=d6) (d7:=d7) (i1:=i1) (i2:=i2) (i3:=i3) (i4:=i4) (k1:=k1) (FV (by lia)) rfl s2 f1 f2 f6 (fun whole=>w6 _ whole)
   (by rw[<- jA,zM];exact hcnt) (by rw[<- jA,zM];exact hj) (by rw[zD,zD];exact hz) l1 l2
   [] t1 (L2.start [("_law_e":Str),("_law_flags":Str)] [.ref ea]) H ⟨fun _ _=>False,fun v H'=>∀HF,aL HF H->∃HF',bL HF H HF' H'/\Rep K HF' (.tuple [.str "refused",.int ((j:Nat):Int)]) v,fun _ _=>False,fun _ _=>False⟩ I ⟨rfl,rfl,fun v H' z=>z⟩
  refine cF main fun fl s' z=>?_
  cases fl with
  | next=>obtain⟨_,_,_,z⟩:=z;exact z.elim
  | brk=>obtain⟨_,_,_,z⟩:=z;exact z.elim
  | cont=>obtain⟨_,_,_,z⟩:=z;exact z.elim
  | ret u =>
   obtain⟨v,σ',H',J,r,z⟩:=z
   exact⟨u,v,σ',H',rfl,J,r,z⟩
 ·cases h
theorem uj:∀ (names:List (Str×NameKind)) (n:Nat),(names.all fun y=>!(y.2 == NameKind.cell))=true->cellsFrom n names []=[]
 | [],_,_=>rfl
 | (x,k)::r,n,h=>by
  rw[xS,zF] at h
  unfold cellsFrom
  rw[yN (by simpa using h.1)]
  exact uj r n h.2
def Qf(st:Stmt)(N:List Str)(S:Sg)(fx:XT)(ns:List Str):List Stmt->Option GS
 | [.Try body [.ExceptHandler (some (.Name e _)) (some n) [.Return (some (.Call (.Name r _) [.Name m _] [] _)) _] _] [] [] _] =>
  if (e == ("FlowError":Str)&&r == ("_law_refused":Str)&&m == n&&!(n == ("__debug__":Str))&&tP (aj st) "FlowError"&&tP (aj st) "_law_refused"&&decide ((aj st).names.lookup n=some .local)&&(aj st).names.all (fun y=>!(y.2 == NameKind.cell))&&N.contains n)=true then
   (pJ (um (aj st) N (tr S 40 none (aj st) N) 40) body).map fun gb=>Fz gb ((tV (Ma [] fx (aj st) N (tr S 40 none (aj st) N) (um (aj st) N (tr S 40 none (aj st) N) 40) 10) (um (aj st) N (tr S 40 none (aj st) N) 40) body).getD Cs) (xt ns)
  else none
 | _=>none
abbrev RP(st:Stmt)(N:List Str)(S:Sg)(fx:XT)(ns:List Str):Option GS:=Qf st N S fx ns (bB st)
theorem Qv{j:Nat}{x:Str}{st:Stmt}{ps N ns:List Str}(D:bO K mg x st ps)(B:∀x∈cB,mg x=none)(M:AD K mg F cs)(hf:iD P w K mg base j S.fn)(hi:gu mg S.int)(hx:yp P w K mg base j fx)(R:∀c d,xt ns c=some d->DL P w K mg base j "_law_refused" c d)(hns:(ns.all fun c=>(cs.map Prod.fst).contains c)=true)(t:RP st N S fx ns=some g)(FS:cT N ps (aj st):=by exact Rf.PM):eM P w K mg base (j+1) x ps.length (bF g N.length):=by
 obtain⟨f,fd,hm,Fu,hb⟩:=D.ex
 refine⟨f,fd,ps,?_,hm,Fu.kp,hb⟩
 obtain⟨oc,od,kV,doc,pm,an,cdv,ct,osl,rfl,lk,hcd⟩:=Fu.ex
 refine JV lk hcd FS (fun vs H Q E ⟨HF,ds,d,h1,_,h2,h3,_⟩=>by rw[h2.length,h3]) fun A outer s H vs Q E hr ⟨HF,ds,d,sm,tb,rr,hl,hd,q⟩=>?_
 have key:∀X:Cx,X=(rT Ko P w K mg base N x (aj st) f cdv A outer s H E).nox->Bk X N (aj st) j->∀HF1 H1,DV X HF1 H1 (bB st) g:=fun X hX C HF1 H1=>by
  unfold RP at t
  generalize bB st=bd at t
  unfold Qf at t
  split at t
  ·rename_i body e pe n r pr m pm' pc prt ph pt
   split at t
   ·rename_i hh
    simp only[zF,vQ,yP,zJ] at hh
    obtain⟨⟨⟨⟨⟨⟨⟨⟨rfl,rfl⟩,rfl⟩,hnd⟩,hgF⟩,hgR⟩,hloc⟩,hnc⟩,hNn⟩:=hh
    obtain⟨gb,hgb,rfl⟩:=ah t
    obtain⟨i,hi',hiN⟩:=qQ (List.contains_iff_mem.mp hNn)
    have hiN':N[i]?=some m:=by rw[zK hi',hiN]
    subst hX
    refine Eo (Nh (i:=i) rfl rfl (C.gl hgF) M.fe (by decide) C.nd hiN' hloc hloc ?_ ?_ ?_ ?_)
    ·show List.lookup m (cellsFrom _ _ [])=none
     rw[uj _ _ hnc]
     rfl
    ·exact Rf.gF (fun s g h=>sF C B (EY (G:=S) 40 C ⟨hf,hi,B⟩ (yM j) fun q z=>by cases z) 40 h) hgb
    ·intro pn xe E' hp
     have C':Bk (gn (rT Ko P w K mg base N x (aj st) f cdv A outer s H E).nox pn xe).nox N (aj st) j:=⟨rfl,FS.nd,fun y kd hy=>.inl hy,rfl,fun _ _=>rfl,hr,rfl,FS.kind⟩
     cases hq:tV (Ma [] fx (aj st) N (tr S 40 none (aj st) N) (um (aj st) N (tr S 40 none (aj st) N) 40) 10) (um (aj st) N (tr S 40 none (aj st) N) 40) body with
     | none=>exact MQ
     | some xg=>exact MM C' B hf hi hx hp (fun c hcl=>by cases hcl) hq
    ·intro c d hcd
     have hcd':=hcd
     unfold xt at hcd'
     split at hcd'
     ·rename_i hc
      obtain⟨z,hz,rfl⟩:=List.mem_map.mp (List.contains_iff_mem.mp (List.all_eq_true.mp hns c (List.contains_iff_mem.mp hc)))
      refine⟨fun C hC=>?_,⟨z.2,M.at_ z hz⟩,Fb (R z.1 d hcd) C.room (C.gl hgR) (by decide) hiN' hloc hloc hnd⟩
      have:=M.at_ z hz
      rw[show mg z.1=some (.ref C) from hC] at this
      cases this
      exact M.xm z hz
     ·cases hcd'
   ·cases t
  ·cases t
 unfold bF at hd
 obtain⟨o,ho,hd⟩:=ah hd
 refine⟨_,(key _ rfl ⟨rfl,FS.nd,fun y kd hy=>.inl hy,rfl,fun _ _=>rfl,hr,rfl,FS.kind⟩ HF H).nox,HF,_,o,AW sm tb rr,ho,?_⟩
 cases o with
 | rt d'=>cases hd;exact fun v H' HF' G r=>q v H' HF' G r
 | nx ρ'=>cases hd;exact fun σ' H' HF' S' _=>q .non H' HF' S'.gr (by simp[Rep])
end
end Ex
namespace Hd
open PySem L2 Dl PySem.Spec PyProof.Rows
variable {x:Str}{ps:List Str}{f c:Addr}{pm:Value}
section
variable {K:W.Frag}
theorem Qd{st:Stmt}(hb:fY st ps)(a:W.nsIn K mainGlobals x=some (some (.ref f)))(l:K.lookup f=some (fo x st pm c))(d:W.codeIn K (.ref c) x=true)(k:W.keepIn K (.ref f)=true):aM K x st ps:=Q5 hb a l d k
theorem SD{st:Stmt}(hb:fY st ps)(a:W.nsIn K mainGlobals x=some (some (.ref f)))(l:K.lookup f=some (fo x st pm c))(d:W.codeIn K (.ref c) x=true)(k:W.keepIn K (.ref f)=true)(hh:W.codeHdIn K c (G9 K c)=true):pb K x st ps:=Qi hb a l d k hh
end
section
variable {α:Type}{R:List α->Prop}
theorem BY(h:∀a,R [a])(us:List α)(e:us.length=1):R us:=by
 obtain⟨a,rfl⟩:=List.length_eq_one_iff.mp e;exact h a
theorem Ln{n:Nat}(us:List α)(e:us.length=n+1):∃a r,us=a::r/\r.length=n:=by
 cases us with
 | nil=>cases e
 | cons a r=>exact⟨a,r,rfl,by simpa using e⟩
theorem QH(h:∀a b,R [a,b])(us:List α)(e:us.length=2):R us:=by
 obtain⟨a,r,rfl,e'⟩:=Ln us e;exact BY (R:=fun r=>R (a::r)) (h a) r e'
theorem On(h:∀a b c,R [a,b,c])(us:List α)(e:us.length=3):R us:=by
 obtain⟨a,r,rfl,e'⟩:=Ln us e;exact QH (R:=fun r=>R (a::r)) (h a) r e'
theorem Qp(h:∀a b c d,R [a,b,c,d])(us:List α)(e:us.length=4):R us:=by
 obtain⟨a,r,rfl,e'⟩:=Ln us e;exact On (R:=fun r=>R (a::r)) (h a) r e'
theorem R8(h:∀a b c d f,R [a,b,c,d,f])(us:List α)(e:us.length=5):R us:=by
 obtain⟨a,r,rfl,e'⟩:=Ln us e;exact Qp (R:=fun r=>R (a::r)) (h a) r e'
end
section
variable {K:W.Frag}
theorem f1(f c:Addr)(pm:Value){st:Stmt}(hb:fY st ps:=by exact fun _ _ _ _ _ _ _ _ us hl=>BY (R:=fun us=>bindArgs _ ⟨us,[]⟩=pure (List.zip _ us)) (fun _=>rfl) us hl)(a:W.nsIn K mainGlobals x=some (some (.ref f)):=by kernel_rfl)(l:K.lookup f=some (fo x st pm c):=by kernel_rfl)(d:W.codeIn K (.ref c) x=true:=by kernel_rfl)(k:W.keepIn K (.ref f)=true:=by kernel_rfl):aM K x st ps:=Qd hb a l d k
theorem l1(f c:Addr)(pm:Value){st:Stmt}(hb:fY st ps:=by exact fun _ _ _ _ _ _ _ _ us hl=>BY (R:=fun us=>bindArgs _ ⟨us,[]⟩=pure (List.zip _ us)) (fun _=>rfl) us hl)(a:W.nsIn K mainGlobals x=some (some (.ref f)):=by kernel_rfl)(l:K.lookup f=some (fo x st pm c):=by kernel_rfl)(d:W.codeIn K (.ref c) x=true:=by kernel_rfl)(k:W.keepIn K (.ref f)=true:=by kernel_rfl)(hh:W.codeHdIn K c (G9 K c)=true:=by kernel_rfl):pb K x st ps:=SD hb a l d k hh
theorem f2(f c:Addr)(pm:Value){st:Stmt}(hb:fY st ps:=by exact fun _ _ _ _ _ _ _ _ us hl=>QH (R:=fun us=>bindArgs _ ⟨us,[]⟩=pure (List.zip _ us)) (fun _ _=>rfl) us hl)(a:W.nsIn K mainGlobals x=some (some (.ref f)):=by kernel_rfl)(l:K.lookup f=some (fo x st pm c):=by kernel_rfl)(d:W.codeIn K (.ref c) x=true:=by kernel_rfl)(k:W.keepIn K (.ref f)=true:=by kernel_rfl):aM K x st ps:=Qd hb a l d k
theorem f3(f c:Addr)(pm:Value){st:Stmt}(hb:fY st ps:=by exact fun _ _ _ _ _ _ _ _ us hl=>On (R:=fun us=>bindArgs _ ⟨us,[]⟩=pure (List.zip _ us)) (fun _ _ _=>rfl) us hl)(a:W.nsIn K mainGlobals x=some (some (.ref f)):=by kernel_rfl)(l:K.lookup f=some (fo x st pm c):=by kernel_rfl)(d:W.codeIn K (.ref c) x=true:=by kernel_rfl)(k:W.keepIn K (.ref f)=true:=by kernel_rfl):aM K x st ps:=Qd hb a l d k
theorem l3(f c:Addr)(pm:Value){st:Stmt}(hb:fY st ps:=by exact fun _ _ _ _ _ _ _ _ us hl=>On (R:=fun us=>bindArgs _ ⟨us,[]⟩=pure (List.zip _ us)) (fun _ _ _=>rfl) us hl)(a:W.nsIn K mainGlobals x=some (some (.ref f)):=by kernel_rfl)(l:K.lookup f=some (fo x st pm c):=by kernel_rfl)(d:W.codeIn K (.ref c) x=true:=by kernel_rfl)(k:W.keepIn K (.ref f)=true:=by kernel_rfl)(hh:W.codeHdIn K c (G9 K c)=true:=by kernel_rfl):pb K x st ps:=SD hb a l d k hh
theorem f4(f c:Addr)(pm:Value){st:Stmt}(hb:fY st ps:=by exact fun _ _ _ _ _ _ _ _ us hl=>Qp (R:=fun us=>bindArgs _ ⟨us,[]⟩=pure (List.zip _ us)) (fun _ _ _ _=>rfl) us hl)(a:W.nsIn K mainGlobals x=some (some (.ref f)):=by kernel_rfl)(l:K.lookup f=some (fo x st pm c):=by kernel_rfl)(d:W.codeIn K (.ref c) x=true:=by kernel_rfl)(k:W.keepIn K (.ref f)=true:=by kernel_rfl):aM K x st ps:=Qd hb a l d k
theorem f5(f c:Addr)(pm:Value){st:Stmt}(hb:fY st ps:=by exact fun _ _ _ _ _ _ _ _ us hl=>R8 (R:=fun us=>bindArgs _ ⟨us,[]⟩=pure (List.zip _ us)) (fun _ _ _ _ _=>rfl) us hl)(a:W.nsIn K mainGlobals x=some (some (.ref f)):=by kernel_rfl)(l:K.lookup f=some (fo x st pm c):=by kernel_rfl)(d:W.codeIn K (.ref c) x=true:=by kernel_rfl)(k:W.keepIn K (.ref f)=true:=by kernel_rfl):aM K x st ps:=Qd hb a l d k
end
end Hd
namespace Pg
open PySem L2 Dl PySem.Spec PyProof.Rows
abbrev CO:List Str:=["thing","least","most"]
def mn:ak->Option Out:=(ax (ij (Cj (cm (fB (M1 "int" (ae 0)))) (fB (M1 "bool" (ae 0)))) (aK (fC (.bool false))) gH) (aK (lb EK EK (ae 1) (ae 0) (ae 2))))
def bC:List D->Option D:=bF mn 3
abbrev Ay:List Str:=["thing","many"]
def k9:ak->Option Out:=(aK (ai 3 bC (aa (ae 0) (aa (fC (.int 0)) (aa (f2 Dl.eX (ae 1) (fC (.int 1))) af)))))
def bZ:List D->Option D:=bF k9 2
abbrev Fn:List Str:=["thing","least","most"]
def oD:ak->Option Out:=(aK (lP (M1 "tuple" (ae 0)) (lb EK EK (ae 1) (bA bS (aa (ae 0) af)) (ae 2))))
def bo:List D->Option D:=bF oD 3
abbrev AJ:List Str:=["thing","many"]
def lj:ak->Option Out:=(ax (ij (cm (fB (M1 "tuple" (ae 0)))) (aK (fC (.bool false))) gH) (ax (ij (cm (fB (bA m7 (aa (cn (ao 1 [1] (aQ (ae 0)) (fG 0) (fun _=>some true) (ai 2 bZ (aa (ae 0) (aa (ae 1) af))))) af)))) (aK (fC (.bool false))) gH) (aK (f2 aP (f1 lL (ae 0)) (bA bS (aa (ae 0) af))))))
def eR:List D->Option D:=bF lj 2
abbrev Jv:List Str:=["thing","many"]
def rO:ak->Option Out:=(aK (lP (ai 3 bo (aa (ae 0) (aa (fC (.int 2)) (aa (fC (.int 2)) af)))) (lP (ai 3 bC (aa (f2 av (ae 0) (fC (.int 0))) (aa (fC (.int 0)) (aa (fC (.int 9)) af)))) (ai 2 eR (aa (f2 av (ae 0) (fC (.int 1))) (aa (ae 1) af))))))
def eP:List D->Option D:=bF rO 2
abbrev HU:List Str:=["thing","givers","takers"]
def r9:ak->Option Out:=(ax (ij (cm (fB (ai 3 bo (aa (ae 0) (aa (fC (.int 3)) (aa (fC (.int 3)) af)))))) (aK (fC (.bool false))) gH) (aK (lP (ai 2 bZ (aa (f2 av (ae 0) (fC (.int 0))) (aa (ae 1) af))) (lP (ai 2 bZ (aa (f2 av (ae 0) (fC (.int 1))) (aa (ae 2) af))) (ai 3 bC (aa (f2 av (ae 0) (fC (.int 2))) (aa (fC (.int 1)) (aa (fC (.int 9)) af))))))))
def ir:List D->Option D:=bF r9 3
abbrev AH:List Str:=["givers","takers","ways"]
def kr:ak->Option Out:=(ax (ij (Cj (cm (fB (ai 3 bo (aa (ae 0) (aa (fC (.int 1)) (aa (fC (.int 4)) af)))))) (cm (fB (ai 3 bo (aa (ae 1) (aa (fC (.int 1)) (aa (fC (.int 4)) af))))))) (aK (fC (.bool false))) gH) (ax (ij (cm (fB (bA m7 (aa (cn (ao 1 [1] (aQ (ae 0)) (fG 0) (fun _=>some true) (ai 2 eP (aa (ae 0) (aa (bA bS (aa (ae 1) af)) af))))) af)))) (aK (fC (.bool false))) gH) (ax (ij (cm (fB (bA m7 (aa (cn (ao 1 [0] (aQ (ae 1)) (fG 0) (fun _=>some true) (ai 2 eP (aa (ae 0) (aa (bA bS (aa (ae 1) af)) af))))) af)))) (aK (fC (.bool false))) gH) (aK (lP (M1 "tuple" (ae 2)) (bA m7 (aa (cn (ao 1 [0,1] (aQ (ae 2)) (fG 0) (fun _=>some true) (ai 3 ir (aa (ae 0) (aa (bA bS (aa (ae 1) af)) (aa (bA bS (aa (ae 2) af)) af)))))) af)))))))
def eS:List D->Option D:=bF kr 3
abbrev tm:List Str:=["places","pairs","number","place"]
def gY:ak->Option Out:=(ax (aG 1 [] (cD af)) (ax (cX [0] (bH (aa (ae 0) af)) (fJ 2 3) (E7 1 [2,3] (ao 1 [2] (aQ (f2 av (ae 3) (fC (.int 1)))) (fG 0) (fun _=>some true) (aJ (aa (ae 1) (aa (ae 0) af)))))) (aK (ae 1))))
def bD:List D->Option D:=bF gY 4
abbrev CA:List Str:=["thing","joined","by_givers","by_takers"]
def gf:ak->Option Out:=(ax (ij (Cj (cm (fB (ai 3 bo (aa (ae 0) (aa (fC (.int 3)) (aa (fC (.int 3)) af)))))) (cm (fB (ai 3 eS (aa (f2 av (ae 0) (fC (.int 0))) (aa (f2 av (ae 0) (fC (.int 1))) (aa (f2 av (ae 0) (fC (.int 2))) af))))))) (aK (fC (.bool false))) gH) (ax (aG 1 [0] (ao 1 [] (aQ (f2 av (ae 0) (fC (.int 2)))) (fG 0) (fun _=>some true) (aJ (aa (f2 av (ae 0) (fC (.int 0))) (aa (f2 av (ae 0) (fC (.int 1))) af))))) (ax (aG 2 [0] (kn gL (aa (ai 1 bD (aa (f2 av (ae 0) (fC (.int 0))) af)) af))) (ax (aG 3 [0] (kn gL (aa (cn (ao 2 [] (aQ (ai 1 bD (aa (f2 av (ae 0) (fC (.int 1))) af))) (ft 0 1) (fun _=>some true) (aJ (aa (ae 1) (aa (ae 0) af))))) af))) (aK (lP (f2 aP (ae 1) (ae 2)) (f2 aP (ae 1) (ae 3))))))))
def aO:List D->Option D:=bF gf 4
abbrev me:List Str:=["world"]
def b8:ak->Option Out:=(ij (cm (fB (ai 1 aO (aa (ae 0) af)))) Rt gH)
def aV:List D->Option D:=bF b8 1
abbrev CL:List Str:=["parts","number","part"]
def mG:ak->Option Out:=(aK (f2 aW (f2 aW (pE ke (ae 0) qf (Hu (ae 1))) (aJ (aa (ae 2) af))) (pE ke (ae 0) (Hu (f2 aW (ae 1) (fC (.int 1)))) qf)))
def iS:List D->Option D:=bF mG 3
abbrev E4:List Str:=["world","side","place","ways","likes","own"]
def lz:ak->Option Out:=(ax (aF 3 [0] (f2 av (ae 0) (fC (.int 2)))) (ax (aF 4 [0,1,2] (f2 av (f2 av (f2 av (ae 0) (ae 1)) (ae 2)) (fC (.int 1)))) (ax (aG 5 [1,2,3] (ao 2 [1,2] (bH (aa (ae 3) af)) (ft 0 1) (fB (f2 aP (f2 av (ae 1) (ae 2)) (ae 3))) (ae 0))) (aK (cn (oK [1,3,4] (ae 5) (f2 mw (ae 3) (f2 av (f2 av (ae 2) (ae 0)) (f2 Dl.eX (fC (.int 1)) (ae 1))))))))))
def lC:List D->Option D:=bF lz 6
abbrev Al:List Str:=["world","side","place","offers","chosen","left","number"]
def gR:ak->Option Out:=(ax (aG 4 [0] (ao 1 [] (aQ (f2 av (ae 0) (fC (.int 2)))) (fG 0) (fun _=>some true) (fC (.int 0)))) (ax (aF 5 [0,1,2] (f2 av (f2 av (f2 av (ae 0) (ae 1)) (ae 2)) (fC (.int 0)))) (ax (cX [0,1,2] (aQ (ai 3 lC (aa (ae 0) (aa (ae 1) (aa (ae 2) af))))) (kh 6) (ax (vq 4 [0,3,5,6] (ae 6) (bA rH (aa (f2 av (ae 3) (ae 6)) (aa (f2 av (f2 av (f2 av (ae 0) (fC (.int 2))) (ae 6)) (fC (.int 2))) (aa (ae 5) af))))) (aF 5 [4,5,6] (f2 Dl.eX (ae 5) (f2 av (ae 4) (ae 6)))))) (aK (bA bw (aa (ae 4) af))))))
def dJ:List D->Option D:=bF gR 7
abbrev pM:List Str:=["world","side","offers","sums","place","chosen"]
def dz:ak->Option Out:=(ax (aG 3 [0] (ao 1 [] (aQ (f2 av (ae 0) (fC (.int 2)))) (fG 0) (fun _=>some true) (fC (.int 0)))) (ax (cX [0,1] (aZ (aa (bA bS (aa (f2 av (ae 0) (ae 1)) af)) af)) (kh 4) (ax (aF 5 [0,1,2,4] (ai 4 dJ (aa (ae 0) (aa (ae 1) (aa (ae 4) (aa (ae 2) af)))))) (aG 3 [3,5] (ao 2 [] (ck (aa (ae 3) (aa (ae 5) af))) (ft 0 1) (fun _=>some true) (f2 aW (ae 0) (ae 1)))))) (aK (bA bw (aa (ae 3) af)))))
def bh:List D->Option D:=bF dz 6
abbrev Ha:List Str:=["world"]
def sC:ak->Option Out:=(aK (bA bw (aa (cn (ao 1 [] (aQ (f2 av (ae 0) (fC (.int 2)))) (fG 0) (fun _=>some true) (f2 av (ae 0) (fC (.int 2))))) af)))
def eW:List D->Option D:=bF sC 1
abbrev Gs:List Str:=["caps","way","cap"]
def ou:ak->Option Out:=(aK (ai 3 iS (aa (ae 0) (aa (ae 1) (aa (ae 2) af)))))
def cA:List D->Option D:=bF ou 3
abbrev Gn:List Str:=["world","caps","given","kept","way","many"]
def lr:ak->Option Out:=(ax (aF 2 [0,1] (ai 3 bh (aa (ae 0) (aa (fC (.int 0)) (aa (ae 1) af))))) (ax (aF 3 [0,2] (ai 3 bh (aa (ae 0) (aa (fC (.int 1)) (aa (ae 2) af))))) (ax (cX [3] (bH (aa (ae 3) af)) (fJ 4 5) (ij (fB (f2 GE (ae 5) (f2 av (ae 2) (ae 4)))) (aK (aJ (aa (ae 4) (aa (ae 5) af)))) gH)) (aK (fC .none)))))
def dM:List D->Option D:=bF lr 6
abbrev K9:List Str:=["world","rows","caps","row"]
def p5:ak->Option Out:=(ax (aG 1 [] (cD af)) (ax (aF 2 [0] (ai 1 eW (aa (ae 0) af))) (ax (aF 3 [0,2] (ai 2 dM (aa (ae 0) (aa (ae 2) af)))) (ax (K7 (fB (f2 oS (ae 3) (fC .none))) (ax (mq 1 [3] (ae 3)) (ax (aF 2 [2,3] (ai 3 cA (aa (ae 2) (aa (f2 av (ae 3) (fC (.int 0))) (aa (f2 av (ae 3) (fC (.int 1))) af))))) (aF 3 [0,2] (ai 2 dM (aa (ae 0) (aa (ae 2) af)))))) Rf.turns) (aK (ae 1))))))
def p6:List D->Option D:=bF p5 4
abbrev G8:List Str:=["world","rows","caps","way","cap"]
def nu:ak->Option Out:=(ax (aF 2 [0] (ai 1 eW (aa (ae 0) af))) (ax (cX [1] (aQ (ae 1)) (fJ 3 4) (aF 2 [2,3,4] (ai 3 cA (aa (ae 2) (aa (ae 3) (aa (ae 4) af)))))) (aK (ae 2))))
def nN:List D->Option D:=bF nu 5
abbrev l0:List Str:=["world"]
def cQ:ak->Option Out:=(ax (rP (ai 1 aV (aa (ae 0) af))) (aK (ai 3 bh (aa (ae 0) (aa (fC (.int 0)) (aa (ai 2 nN (aa (ae 0) (aa (ai 1 p6 (aa (ae 0) af)) af))) af))))))
def aH:List D->Option D:=bF cQ 1
abbrev Bp:List Str:=["_law_script","_law_k"]
def gz:ak->Option Out:=(ax (ij (fB (f2 aP (ae 0) (cn (cD af)))) (aK (f2 gy (fC (.int 7)) (ae 1))) gH) (aK (f2 aW (f2 av (ae 0) (f2 lO (ae 1) (bA bS (aa (ae 0) af)))) (f2 gy (fC (.int 6553)) (f2 mO (ae 1) (bA bS (aa (ae 0) af)))))))
def dH:List D->Option D:=bF gz 2
abbrev wb:List Str:=["_law_script","_law_k","_law_many","_law_cell_here"]
def jd:ak->Option Out:=(ax (aF 3 [0,1] (f2 lO (f2 aW (f2 gy (f2 lO (ai 2 dH (aa (ae 0) (aa (ae 1) af))) (fC (.int 2147483563))) (fC (.int 69069))) (f2 gy (fC (.int 104723)) (f2 aW (ae 1) (fC (.int 1))))) (fC (.int 2147483563)))) (ax (aF 3 [3] (f2 lO (f2 aW (f2 gy (ae 3) (ae 3)) (f2 mO (ae 3) (fC (.int 3)))) (fC (.int 2147483399)))) (aK (f2 lO (f2 mO (f2 lO (f2 aW (f2 gy (ae 3) (ae 3)) (f2 mO (ae 3) (fC (.int 7)))) (fC (.int 2147483647))) (fC (.int 11))) (ae 2)))))
def au:List D->Option D:=bF jd 4
abbrev sT:List Str:=["_law_script","_law_at","_law_rows","_law_found","_law_k","_law_row","_law_order","_law_j","_law_one"]
def g0:ak->Option Out:=(ax (aG 3 [] (cD af)) (ax (cX [2] (bH (aa (ae 2) af)) (fJ 4 5) (ax (aG 6 [] (cD af)) (ax (cX [5] (bH (aa (ae 5) af)) (fJ 7 8) (GY 6 [8] (ai 3 au (aa (ae 0) (aa (f2 aW (f2 aW (ae 1) (f2 gy (fC (.int 4)) (ae 4))) (ae 7)) (aa (f2 aW (bA bS (aa (ae 6) af)) (fC (.int 1))) af)))) (ae 8))) (mq 3 [6] (bA bw (aa (ae 6) af)))))) (aK (ae 3))))
def bM:List D->Option D:=bF g0 9
abbrev vj:List Str:=["_law_script","_law_at","_law_most","_law_each","_law_takers","_law_many","_law_size","_law_ways","_law_k","_law_mine","_law_yours","_law_givers"]
def dY:ak->Option Out:=(ax (ij (dv (fB (f2 vd (ae 2) (fC (.int 3)))) (fB (f2 aP (ai 3 au (aa (ae 0) (aa (f2 aW (ae 1) (fC (.int 64))) (aa (fC (.int 4)) af)))) (fC (.int 0))))) (ax (aF 3 [0,1] (f2 aW (fC (.int 1)) (ai 3 au (aa (ae 0) (aa (f2 aW (ae 1) (fC (.int 65))) (aa (fC (.int 2)) af)))))) (ax (aF 4 [3] (aJ (aa (aJ (aa (ae 3) (aa (aJ (aa (fC (.int 1)) (aa (fC (.int 0)) af))) af))) (aa (aJ (aa (ae 3) (aa (aJ (aa (fC (.int 0)) (aa (fC (.int 1)) af))) af))) af)))) (aK (aJ (aa (aJ (aa (aJ (aa (ae 3) (aa (aJ (aa (fC (.int 0)) (aa (fC (.int 1)) af))) af))) (aa (aJ (aa (ae 3) (aa (aJ (aa (fC (.int 1)) (aa (fC (.int 0)) af))) af))) af))) (aa (ae 4) (aa (aJ (aa (aJ (aa (fC (.int 0)) (aa (fC (.int 0)) (aa (fC (.int 2)) af)))) (aa (aJ (aa (fC (.int 0)) (aa (fC (.int 1)) (aa (fC (.int 2)) af)))) (aa (aJ (aa (fC (.int 1)) (aa (fC (.int 0)) (aa (fC (.int 2)) af)))) (aa (aJ (aa (fC (.int 1)) (aa (fC (.int 1)) (aa (fC (.int 2)) af)))) af))))) af))))))) gH) (ax (aF 5 [0,1] (f2 aW (fC (.int 1)) (ai 3 au (aa (ae 0) (aa (ae 1) (aa (fC (.int 3)) af)))))) (ax (aF 6 [0,1] (f2 aW (fC (.int 1)) (ai 3 au (aa (ae 0) (aa (f2 aW (ae 1) (fC (.int 1))) (aa (fC (.int 3)) af)))))) (ax (aG 7 [] (cD af)) (ax (cX [5,6] (aZ (aa (f2 gy (ae 5) (ae 6)) af)) (kh 8) (ij (dv (fB (f2 GE (bA bS (aa (ae 7) af)) (ae 2))) (fB (f2 vd (ai 3 au (aa (ae 0) (aa (f2 aW (f2 aW (ae 1) (fC (.int 2))) (ae 8)) (aa (fC (.int 4)) af)))) (fC (.int 0))))) (mq 7 [0,1,6,8] (aJ (aa (f2 mO (ae 8) (ae 6)) (aa (f2 lO (ae 8) (ae 6)) (aa (f2 aW (fC (.int 1)) (ai 3 au (aa (ae 0) (aa (f2 aW (f2 aW (ae 1) (fC (.int 12))) (ae 8)) (aa (fC (.int 2)) af))))) af))))) gH)) (ax (aF 9 [0,1,5,7] (ai 3 bM (aa (ae 0) (aa (f2 aW (ae 1) (fC (.int 24))) (aa (cn (ao 1 [7] (aZ (aa (ae 5) af)) (fG 0) (fun _=>some true) (cn (ao 1 [0] (aQ (ae 1)) (fG 0) (fB (f2 aP (f2 av (ae 0) (fC (.int 0))) (ae 1))) (f2 av (ae 0) (fC (.int 1))))))) af))))) (ax (aF 10 [0,1,6,7] (ai 3 bM (aa (ae 0) (aa (f2 aW (ae 1) (fC (.int 40))) (aa (cn (ao 1 [7] (aZ (aa (ae 6) af)) (fG 0) (fun _=>some true) (cn (ao 1 [0] (aQ (ae 1)) (fG 0) (fB (f2 aP (f2 av (ae 0) (fC (.int 1))) (ae 1))) (f2 av (ae 0) (fC (.int 0))))))) af))))) (ax (aF 11 [0,1,8,9] (bA bw (aa (cn (ao 2 [0,1] (bH (aa (ae 9) af)) (ft 0 1) (fun _=>some true) (aJ (aa (ai 3 au (aa (ae 2) (aa (f2 aW (f2 aW (ae 3) (fC (.int 56))) (ae 0)) (aa (fC (.int 4)) af)))) (aa (ae 1) af))))) af))) (ax (aF 4 [0,1,8,10] (bA bw (aa (cn (ao 2 [0,1] (bH (aa (ae 10) af)) (ft 0 1) (fun _=>some true) (aJ (aa (ai 3 au (aa (ae 2) (aa (f2 aW (f2 aW (ae 3) (fC (.int 60))) (ae 0)) (aa (fC (.int 4)) af)))) (aa (ae 1) af))))) af))) (aK (aJ (aa (ae 11) (aa (ae 4) (aa (bA bw (aa (ae 7) af)) af))))))))))))))
def bX:List D->Option D:=bF dY 12
abbrev tR:List Str:=["_law_world_here","_law_side","_law_place","_law_offers","_law_found","_law_left","_law_other","_law_way"]
def eL:ak->Option Out:=(ax (aG 4 [3] (m6 (cD (aa (fC (.int 0)) af)) (bA bS (aa (ae 3) af)))) (ax (aF 5 [0,1,2] (f2 av (f2 av (f2 av (ae 0) (ae 1)) (ae 2)) (fC (.int 0)))) (ax (cX [0,1,2] (aQ (f2 av (f2 av (f2 av (ae 0) (ae 1)) (ae 2)) (fC (.int 1)))) (kh 6) (cX [3] (aZ (aa (bA bS (aa (ae 3) af)) af)) (kh 7) (ij (dv (fB (f2 aP (f2 av (f2 av (f2 av (ae 0) (fC (.int 2))) (ae 7)) (ae 1)) (ae 2))) (fB (f2 aP (f2 av (f2 av (f2 av (ae 0) (fC (.int 2))) (ae 7)) (f2 Dl.eX (fC (.int 1)) (ae 1))) (ae 6)))) (ax (vq 4 [0,3,5,7] (ae 7) (bA rH (aa (ae 5) (aa (f2 av (ae 3) (ae 7)) (aa (f2 av (f2 av (f2 av (ae 0) (fC (.int 2))) (ae 7)) (fC (.int 2))) af))))) (aF 5 [4,5,7] (f2 Dl.eX (ae 5) (f2 av (ae 4) (ae 7))))) gH))) (aK (bA bw (aa (ae 4) af))))))
def dy:List D->Option D:=bF eL 8
abbrev Gj:List Str:=["world","plan","side","place"]
def n6:ak->Option Out:=(aK (bA sZ (aa (cn (ao 2 [2,3] (ck (aa (f2 av (ae 0) (fC (.int 2))) (aa (ae 1) af))) (ft 0 1) (fB (f2 aP (f2 av (ae 0) (ae 2)) (ae 3))) (ae 1))) af)))
def fU:List D->Option D:=bF n6 4
abbrev pG:List Str:=["world","plan","side"]
def e9:ak->Option Out:=(aK (bA m7 (aa (cn (ao 2 [0,1,2] (bH (aa (f2 av (ae 0) (ae 2)) af)) (ft 0 1) (fun _=>some true) (f2 EK (ai 4 fU (aa (ae 2) (aa (ae 3) (aa (ae 4) (aa (ae 0) af))))) (f2 av (ae 1) (fC (.int 0)))))) af)))
def cN:List D->Option D:=bF e9 3
abbrev Gq:List Str:=["world","thing","ways"]
def lJ:ak->Option Out:=(ax (aF 2 [0] (f2 av (ae 0) (fC (.int 2)))) (ax (ij (cm (fB (ai 3 bo (aa (ae 1) (aa (bA bS (aa (ae 2) af)) (aa (bA bS (aa (ae 2) af)) af)))))) (aK (fC (.bool false))) gH) (ax (ij (cm (fB (bA m7 (aa (cn (ao 2 [] (ck (aa (ae 2) (aa (ae 1) af))) (ft 0 1) (fun _=>some true) (ai 3 bC (aa (ae 1) (aa (fC (.int 0)) (aa (f2 av (ae 0) (fC (.int 2))) af)))))) af)))) (aK (fC (.bool false))) gH) (aK (lP (ai 3 cN (aa (ae 0) (aa (ae 1) (aa (fC (.int 0)) af)))) (ai 3 cN (aa (ae 0) (aa (ae 1) (aa (fC (.int 1)) af)))))))))
def fV:List D->Option D:=bF lJ 3
abbrev mV:List Str:=["world","plan"]
def dR:ak->Option Out:=(ax (rP (ai 1 aV (aa (ae 0) af))) (ij (cm (fB (ai 2 fV (aa (ae 0) (aa (ae 1) af))))) Rt gH))
def fN:List D->Option D:=bF dR 2
abbrev rZ:List Str:=["world","ways"]
def ee:ak->Option Out:=(ax (aF 1 [0] (f2 av (ae 0) (fC (.int 2)))) (aK (cn (qg [1] (aa (bA bS (aa (ae 1) af)) af) (aJ (aa (f2 av (f2 av (ae 1) (ae 0)) (fC (.int 1))) (aa (f2 av (f2 av (ae 1) (ae 0)) (fC (.int 0))) af)))))))
def bg:List D->Option D:=bF ee 2
abbrev A8:List Str:=["world","ways"]
def iG:ak->Option Out:=(ax (rP (ai 1 aV (aa (ae 0) af))) (ax (aG 1 [0] (ao 1 [0] (aQ (ai 1 bg (aa (ae 0) af))) (fG 0) (fun _=>some true) (f2 av (f2 av (ae 1) (fC (.int 2))) (ae 0)))) (aK (aJ (aa (f2 av (ae 0) (fC (.int 1))) (aa (f2 av (ae 0) (fC (.int 0))) (aa (bA bw (aa (cn (ao 3 [] (aQ (ae 1)) (Kq 0 1 2) (fun _=>some true) (aJ (aa (ae 1) (aa (ae 0) (aa (ae 2) af)))))) af)) af)))))))
def eU:List D->Option D:=bF iG 2
abbrev lX:List Str:=["world","plan"]
def eI:ak->Option Out:=(ax (rP (ai 2 fN (aa (ae 0) (aa (ae 1) af)))) (aK (bA bw (aa (cn (ao 1 [1] (aQ (ai 1 bg (aa (ae 0) af))) (fG 0) (fun _=>some true) (f2 av (ae 1) (ae 0)))) af))))
def eK:List D->Option D:=bF eI 2
abbrev lR:List Str:=["world","other"]
def cR:ak->Option Out:=(ax (aF 1 [0] (ai 1 eU (aa (ae 0) af))) (aK (ai 2 eK (aa (ae 1) (aa (ai 1 aH (aa (ae 1) af)) af)))))
def bq:List D->Option D:=bF cR 2
abbrev z8:List Str:=["_law_world_here","_law_plan_here","_law_side","_law_place"]
def ku:ak->Option Out:=(aK (bA sZ (aa (cn (ao 2 [2,3] (ck (aa (ae 1) (aa (f2 av (ae 0) (fC (.int 2))) af))) (ft 0 1) (fB (f2 aP (f2 av (ae 1) (ae 2)) (ae 3))) (ae 0))) af)))
def bN:List D->Option D:=bF ku 4
abbrev By:List Str:=["_law_world_here","_law_plan_here","_law_side","_law_place","_law_row"]
def gE:ak->Option Out:=(ax (cX [] (aZ (aa (fC (.int 2)) af)) (kh 2) (cX [0,2] (bH (aa (f2 av (ae 0) (ae 2)) af)) (fJ 3 4) (ij (fB (f2 vd (ai 4 bN (aa (ae 0) (aa (ae 1) (aa (ae 2) (aa (ae 3) af))))) (f2 av (ae 4) (fC (.int 0))))) (aK (fC (.bool false))) gH))) (aK (fC (.bool true))))
def gN:List D->Option D:=bF gE 5
abbrev zg:List Str:=["_law_world_here","_law_found","_law_way","_law_longer","_law_row"]
def fL:ak->Option Out:=(ax (aG 1 [] (cD (aa (aJ af) af))) (ax (cX [0] (aQ (f2 av (ae 0) (fC (.int 2)))) (kh 2) (ax (aG 3 [] (cD af)) (ax (cX [1] (aQ (ae 1)) (kh 4) (aG 3 [2,3,4] (PP nO (ae 3) (cn (ao 1 [4] (aZ (aa (f2 aW (f2 av (ae 2) (fC (.int 2))) (fC (.int 1))) af)) (fG 0) (fun _=>some true) (f2 aW (ae 1) (aJ (aa (ae 0) af)))))))) (aF 1 [3] (ae 3))))) (aK (cn (ao 1 [0] (aQ (ae 1)) (fG 0) (fB (ai 2 gN (aa (ae 1) (aa (ae 0) af)))) (ae 0))))))
def dk:List D->Option D:=bF fL 5
open PySem L2 Dl PySem.Spec PyProof.Rows Ex
def gh:XS:=(Rp (cm (fB (ai 1 aO (aa (ae 0) af)))) (Rn "NoWorld") Cs)
def br:List D->Option Str:=zx gh 1
def lU:XS:=(uf (ml (uN 1 br (aa (ae 0) af))) (rP (ai 1 aV (aa (ae 0) af))) (Rp (cm (fB (ai 2 fV (aa (ae 0) (aa (ae 1) af))))) (Rn "NoPlan") Cs))
def iZ:List D->Option Str:=zx lU 2
def ug:XS:=(ml (uN 1 br (aa (ae 0) af)))
def iL:List D->Option Str:=zx ug 2
def j7:XS:=(ml (uN 2 iZ (aa (ae 0) (aa (ae 1) af))))
def hZ:List D->Option Str:=zx j7 2
def kf:XS:=(ml (uN 1 br (aa (ae 0) af)))
def b9:List D->Option Str:=zx kf 1
def dQ:XS:=(uf (ml (uN 1 iL (aa (ae 0) af))) (aF 1 [0] (ai 1 eU (aa (ae 0) af))) (ml (uN 2 hZ (aa (ae 1) (aa (ai 1 aH (aa (ae 1) af)) af)))))
def cS:List D->Option Str:=zx dQ 2
abbrev xx:List Str:=["_law_world_here","_law_plan_here","_law_side","_law_place","_law_other","_law_row","_law_many","_law_way"]
def fO:ak->Option Out:=(ax (ij (fB (f2 GE (ai 4 bN (aa (ae 0) (aa (ae 1) (aa (ae 2) (aa (ae 3) af))))) (f2 av (f2 av (f2 av (ae 0) (ae 2)) (ae 3)) (fC (.int 0))))) (aK (fC (.bool true))) gH) (ax (aF 5 [0,2,3] (f2 av (f2 av (f2 av (ae 0) (ae 2)) (ae 3)) (fC (.int 1)))) (ax (cX [0,1] (ck (aa (ae 1) (aa (f2 av (ae 0) (fC (.int 2))) af))) (fJ 6 7) (ij (dv (fB (f2 aP (f2 av (ae 7) (ae 2)) (ae 3))) (dv (fB (f2 vd (ae 6) (fC (.int 0)))) (fB (f2 vd (f2 mw (ae 5) (f2 av (ae 7) (f2 Dl.eX (fC (.int 1)) (ae 2)))) (f2 mw (ae 5) (ae 4)))))) (aK (fC (.bool true))) gH)) (aK (fC (.bool false))))))
def cJ:List D->Option D:=bF fO 8
abbrev CM:List Str:=["_law_world_here","_law_plan_here","_law_way","_law_giver","_law_taker","_law_limit"]
def ja:ak->Option Out:=(ax (oi 3 4 5 [0,2] (f2 av (f2 av (ae 0) (fC (.int 2))) (ae 2))) (ax (ij (fB (f2 aP (f2 av (ae 1) (ae 2)) (ae 5))) (aK (fC (.str "full"))) gH) (ax (ij (cm (fB (ai 5 cJ (aa (ae 0) (aa (ae 1) (aa (fC (.int 0)) (aa (ae 3) (aa (ae 4) af)))))))) (aK (fC (.str "giver"))) gH) (aK (Bh (fB (ai 5 cJ (aa (ae 0) (aa (ae 1) (aa (fC (.int 1)) (aa (ae 4) (aa (ae 3) af))))))) (fC .none) (fC (.str "taker")))))))
def gm:List D->Option D:=bF ja 6
abbrev wu:List Str:=["_law_world_here","_law_plan_here"]
def fQ:ak->Option Out:=(aK (f2 aP (cn (ao 1 [0,1] (aZ (aa (bA bS (aa (ae 1) af)) af)) (fG 0) (fB (f2 Az (ai 3 gm (aa (ae 1) (aa (ae 2) (aa (ae 0) af)))) (fC .none))) (ae 0))) (cn (cD af))))
def dm:List D->Option D:=bF fQ 2
abbrev pL:List Str:=["_law_side","_law_world_here","_law_e"]
def bV:ak->Option Out:=(Fz (aK (Bh (fB (f2 aP (ae 0) (fC (.int 0)))) (ai 1 aH (aa (ae 1) af)) (ai 1 bq (aa (ae 1) af)))) (ml (BZ (fB (f2 aP (ae 0) (fC (.int 0)))) (uN 1 b9 (aa (ae 1) af)) (uN 1 cS (aa (ae 1) af)))) (xt ["NoWorld","NoPlan","NoPlace","TooMany","Nothing"]))
def aU:List D->Option D:=bF bV 3
abbrev uB:List Str:=["_law_script","_law_world_here","_law_rows","_law_side","_law_told_here","_law_other","_law_offers","_law_place","_law_own","_law_bad"]
def u4:ak->Option Out:=(ax (aF 1 [0] (ai 3 bX (aa (ae 0) (aa (fC (.int 0)) (aa (fC (.int 4)) af))))) (ax (aG 2 [1] (ao 1 [1] (aQ (ai 1 dk (aa (ae 1) af))) (fG 0) (fB (ai 2 dm (aa (ae 1) (aa (ae 0) af)))) (ae 0))) (ax (ij (fB (f2 aP (ae 2) (cn (cD af)))) (aK (fC (.bool false))) gH) (ax (cX [] (aZ (aa (fC (.int 2)) af)) (kh 3) (ax (aF 4 [1,3] (ai 2 aU (aa (ae 3) (aa (ae 1) af)))) (ax (ij (fB (f2 BP (ae 4) (ae 2))) (aK (fC (.bool false))) gH) (cX [2] (aQ (ae 2)) (kh 5) (ax (aF 6 [4,5] (bA bw (aa (cn (ao 2 [] (ck (aa (ae 4) (aa (ae 5) af))) (ft 0 1) (fun _=>some true) (bA CY (aa (ae 0) (aa (ae 1) af))))) af))) (cX [1,3] (aZ (aa (bA bS (aa (f2 av (ae 1) (ae 3)) af)) af)) (kh 7) (ax (aG 8 [1,3,4,7] (ao 2 [3,7] (ck (aa (ae 4) (aa (f2 av (ae 1) (fC (.int 2))) af))) (ft 0 1) (fun _=>some true) (Bh (fB (f2 aP (f2 av (ae 1) (ae 2)) (ae 3))) (ae 0) (fC (.int 0))))) (ij (fB (f2 Br (ai 4 dy (aa (ae 1) (aa (ae 3) (aa (ae 7) (aa (ae 6) af))))) (bA bw (aa (ae 8) af)))) (aK (fC (.bool false))) gH)))))))) (ax (aF 9 [0,1] (f2 av (cn (cD (aa (fC .none) (aa (aJ af) (aa (pE ke (ae 1) qf (Hu (fC (.int 2)))) (aa (aJ (aa (f2 av (ae 1) (fC (.int 0))) (aa (f2 av (ae 1) (fC (.int 1))) (aa (cn (kn cK (aa (f2 av (ae 1) (fC (.int 2))) af))) af)))) (aa (f2 aW (ae 1) (aJ (aa (fC (.int 1)) af))) af))))))) (ai 3 au (aa (ae 0) (aa (fC (.int 70)) (aa (fC (.int 5)) af)))))) (aK (f2 aP (cn (ao 1 [9] (aZ (aa (fC (.int 2)) af)) (fG 0) (fun _=>some true) (ai 2 aU (aa (ae 0) (aa (ae 1) af))))) (cn (m6 (cD (aa (aJ (aa (fC (.str "refused")) (aa (fC (.int 0)) af))) af)) (fC (.int 2)))))))))))
def ik:List D->Option D:=bF u4 10
end Pg
namespace K20
open PySem L2 Dl PySem.Spec PyProof.Rows
open Pg Ex
abbrev Sj:List Str:=["NoWorld","NoPlan","NoPlace","TooMany","Nothing"]
abbrev sk:Stmt:=top 10
theorem Ck:Rf.tW sk CO ⟨[],[]⟩ none=some mn:=by kernel_rfl
abbrev o9:Stmt:=top 11
theorem Aa:Rf.tW o9 Ay ⟨[("is_whole",3,bC)],[]⟩ none=some k9:=by kernel_rfl
abbrev ux:Stmt:=top 12
theorem Fo:Rf.tW ux Fn ⟨[],[]⟩ none=some oD:=by kernel_rfl
abbrev o5:Stmt:=top 13
theorem Bm:Rf.tW o5 AJ ⟨[("is_number",2,bZ)],[]⟩ none=some lj:=by kernel_rfl
abbrev Bz:Stmt:=top 14
theorem HP:Rf.tW Bz Jv ⟨[("is_long",3,bo),("is_whole",3,bC),("are_likes",2,eR)],[("MOST",9)]⟩ none=some rO:=by kernel_rfl
abbrev zy:Stmt:=top 15
theorem Ia:Rf.tW zy HU ⟨[("is_long",3,bo),("is_number",2,bZ),("is_whole",3,bC)],[("MOST",9)]⟩ none=some r9:=by kernel_rfl
abbrev o6:Stmt:=top 16
theorem Bx:Rf.tW o6 AH ⟨[("is_long",3,bo),("is_end",2,eP),("is_way",3,ir)],[("MOST_PLACES",4)]⟩ none=some kr:=by kernel_rfl
abbrev md:Stmt:=top 17
theorem uc:Rf.tW md tm ⟨[],[]⟩ none=some gY:=by kernel_rfl
abbrev rV:Stmt:=top 18
theorem BU:Rf.tW rV CA ⟨[("liked_pairs",1,bD),("is_long",3,bo),("are_parts",3,eS)],[]⟩ none=some gf:=by kernel_rfl
abbrev u5:Stmt:=top 19
theorem FP:Rf.tW u5 Gj ⟨[],[]⟩ none=some n6:=by kernel_rfl
abbrev jv:Stmt:=top 20
theorem pC:Rf.tW jv pG ⟨[("through",4,fU)],[]⟩ none=some e9:=by kernel_rfl
abbrev uv:Stmt:=top 21
theorem Gv:Rf.tW uv Gq ⟨[("is_long",3,bo),("keeps_amounts",3,cN),("is_whole",3,bC)],[]⟩ none=some lJ:=by kernel_rfl
abbrev hV:Stmt:=top 22
abbrev lS:Rf.Sg:=⟨[("is_world",1,aO)],[]⟩
theorem tU:Rf.tW hV me lS none=some b8:=by kernel_rfl
theorem si:Ex.NO hV me lS [] ["NoWorld"]=some gh:=by kernel_rfl
abbrev iR:Stmt:=top 23
abbrev nJ:Rf.Sg:=⟨[("check_world",1,aV),("is_plan",2,fV)],[]⟩
theorem vp:Rf.tW iR mV nJ none=some dR:=by kernel_rfl
theorem tw:Ex.NO iR mV nJ [("check_world",1,br)] ["NoPlan"]=some lU:=by kernel_rfl
abbrev sM:Stmt:=top 24
theorem CP:Rf.tW sM CL ⟨[],[]⟩ none=some mG:=by kernel_rfl
abbrev j8:Stmt:=top 25
theorem rX:Rf.tW j8 rZ ⟨[],[]⟩ (some "turned_order.<locals>.<lambda>")=some ee:=by kernel_rfl
abbrev qr:Stmt:=top 26
abbrev AO:Rf.Sg:=⟨[("check_world",1,aV),("turned_order",1,bg)],[]⟩
theorem JW:Rf.tW qr A8 AO none=some iG:=by kernel_rfl
theorem E2:Ex.NO qr A8 AO [("check_world",1,br)] []=some ug:=by kernel_rfl
abbrev gS:Stmt:=top 27
abbrev l7:Rf.Sg:=⟨[("check_plan",2,fN),("turned_order",1,bg)],[]⟩
theorem tI:Rf.tW gS lX l7 none=some eI:=by kernel_rfl
theorem rN:Ex.NO gS lX l7 [("check_plan",2,iZ)] []=some j7:=by kernel_rfl
abbrev uE:Stmt:=top 29
theorem FK:Rf.tW uE E4 ⟨[],[]⟩ (some "ways_of.<locals>.<lambda>")=some lz:=by kernel_rfl
abbrev pA:Stmt:=top 30
theorem AY:Rf.tW pA Al ⟨[("ways_of",3,lC)],[]⟩ none=some gR:=by kernel_rfl
abbrev jx:Stmt:=top 32
theorem pF:Rf.tW jx pM ⟨[("chosen_by",4,dJ)],[]⟩ none=some dz:=by kernel_rfl
abbrev AR:Stmt:=top 33
theorem JH:Rf.tW AR Ha ⟨[],[]⟩ none=some sC:=by kernel_rfl
abbrev uD:Stmt:=top 34
theorem F7:Rf.tW uD Gs ⟨[("replaced",3,iS)],[]⟩ none=some ou:=by kernel_rfl
abbrev vb:Stmt:=top 35
theorem Fx:Rf.tW vb Gn ⟨[("chosen_by_all",3,bh)],[]⟩ none=some lr:=by kernel_rfl
abbrev Ea:Stmt:=top 36
theorem LK:Rf.tW Ea K9 ⟨[("limits",1,eW),("refused",2,dM),("lowered",3,cA)],[]⟩ none=some p5:=by kernel_rfl
abbrev Ax:Stmt:=top 37
theorem IB:Rf.tW Ax G8 ⟨[("limits",1,eW),("lowered",3,cA)],[]⟩ none=some nu:=by kernel_rfl
abbrev g9:Stmt:=top 38
abbrev l4:Rf.Sg:=⟨[("check_world",1,aV),("chosen_by_all",3,bh),("capped",2,nN),("steps",1,p6)],[]⟩
theorem tK:Rf.tW g9 l0 l4 none=some cQ:=by kernel_rfl
theorem sy:Ex.NO g9 l0 l4 [("check_world",1,br)] []=some kf:=by kernel_rfl
abbrev gU:Stmt:=top 39
abbrev l8:Rf.Sg:=⟨[("turned",1,eU),("turned_plan",2,eK),("givers_best",1,aH)],[]⟩
theorem tE:Rf.tW gU lR l8 none=some cR:=by kernel_rfl
theorem rF:Ex.NO gU lR l8 [("turned",1,iL),("turned_plan",2,hZ),("givers_best",1,b9)] []=some dQ:=by kernel_rfl
abbrev o4:Stmt:=top 41
theorem AN:Rf.tW o4 Bp ⟨[],[]⟩ none=some gz:=by kernel_rfl
abbrev m5:Stmt:=top 42
theorem wz:Rf.tW m5 wb ⟨[("_law_cell",2,dH)],[]⟩ none=some jd:=by kernel_rfl
abbrev lQ:Stmt:=top 43
theorem sV:Rf.tW lQ sT ⟨[("_law_drawn",3,au)],[]⟩ none=some g0:=by kernel_rfl
abbrev nI:Stmt:=top 44
theorem v8:Rf.tW nI vj ⟨[("_law_orders",3,bM),("_law_drawn",3,au)],[]⟩ none=some dY:=by kernel_rfl
abbrev oV:Stmt:=top 45
theorem zw:Rf.tW oV z8 ⟨[],[]⟩ none=some ku:=by kernel_rfl
abbrev oO:Stmt:=top 46
theorem Ai:Rf.tW oO By ⟨[("_law_used",4,bN)],[]⟩ none=some gE:=by kernel_rfl
abbrev mT:Stmt:=top 47
theorem wk:Rf.tW mT zg ⟨[("_law_fits",2,gN)],[]⟩ none=some fL:=by kernel_rfl
abbrev Bj:Stmt:=top 48
abbrev nL:Stmt:=top 49
theorem yl:Rf.tW nL xx ⟨[("_law_used",4,bN)],[]⟩ none=some fO:=by kernel_rfl
abbrev rz:Stmt:=top 50
theorem Cf:Rf.tW rz CM ⟨[("_law_wants",5,cJ)],[]⟩ none=some ja:=by kernel_rfl
abbrev mP:Stmt:=top 51
theorem ye:Rf.tW mP wu ⟨[("_law_why",3,gm)],[]⟩ none=some fQ:=by kernel_rfl
abbrev lZ:Stmt:=top 52
theorem sX:Rf.tW lZ tR ⟨[],[]⟩ none=some eL:=by kernel_rfl
abbrev Bi:Stmt:=top 53
abbrev sO:Stmt:=top 54
abbrev oW:Stmt:=top 55
theorem Bb:Ex.RP oW pL ⟨[("givers_best",1,aH),("takers_best",1,bq)],[]⟩ [("givers_best",1,b9),("takers_best",1,cS)] Sj=some bV:=by kernel_rfl
abbrev ML:Stmt:=top 56
theorem QY:Rf.tW ML uB ⟨[("_law_world",3,bX),("_law_told",2,aU),("_law_drawn",3,au),("_law_plans",1,dk),("_law_rests",2,dm),("_law_choice",4,dy)],[]⟩ none=some u4:=by kernel_rfl
structure bI(K:W.Frag)(mg:Str->Option Value):Prop where
 c0:bO K mg "is_whole" sk ["thing","least","most"]
 c1:bO K mg "is_number" o9 ["thing","many"]
 c2:bO K mg "is_long" ux ["thing","least","most"]
 c3:bO K mg "are_likes" o5 ["thing","many"]
 c4:bO K mg "is_end" Bz ["thing","many"]
 c5:bO K mg "is_way" zy ["thing","givers","takers"]
 c6:bO K mg "are_parts" o6 ["givers","takers","ways"]
 c7:bO K mg "liked_pairs" md ["places"]
 c8:bO K mg "is_world" rV ["thing"]
 c9:bO K mg "through" u5 ["world","plan","side","place"]
 c10:bO K mg "keeps_amounts" jv ["world","plan","side"]
 c11:bO K mg "is_plan" uv ["world","thing"]
 c12:bO K mg "check_world" hV ["world"]
 c13:bO K mg "check_plan" iR ["world","plan"]
 c14:bO K mg "replaced" sM ["parts","number","part"]
 c15:Hq K mg "turned_order" j8 ["world"]
 c16:bO K mg "turned" qr ["world"]
 c17:bO K mg "turned_plan" gS ["world","plan"]
 c18:Hq K mg "ways_of" uE ["world","side","place"]
 c19:bO K mg "chosen_by" pA ["world","side","place","offers"]
 c20:bO K mg "chosen_by_all" jx ["world","side","offers"]
 c21:bO K mg "limits" AR ["world"]
 c22:bO K mg "lowered" uD ["caps","way","cap"]
 c23:bO K mg "refused" vb ["world","caps"]
 c24:bO K mg "steps" Ea ["world"]
 c25:bO K mg "capped" Ax ["world","rows"]
 c26:bO K mg "givers_best" g9 ["world"]
 c27:bO K mg "takers_best" gU ["world"]
 c28:bO K mg "_law_cell" o4 ["_law_script","_law_k"]
 c29:bO K mg "_law_drawn" m5 ["_law_script","_law_k","_law_many"]
 c30:bO K mg "_law_orders" lQ ["_law_script","_law_at","_law_rows"]
 c31:bO K mg "_law_world" nI ["_law_script","_law_at","_law_most"]
 c32:bO K mg "_law_used" oV ["_law_world_here","_law_plan_here","_law_side","_law_place"]
 c33:bO K mg "_law_fits" oO ["_law_world_here","_law_plan_here"]
 c34:bO K mg "_law_plans" mT ["_law_world_here"]
 c35:bO K mg "_law_plan" Bj ["_law_script","_law_at","_law_world_here"]
 c36:bO K mg "_law_wants" nL ["_law_world_here","_law_plan_here","_law_side","_law_place","_law_other"]
 c37:bO K mg "_law_why" rz ["_law_world_here","_law_plan_here","_law_way"]
 c38:bO K mg "_law_rests" mP ["_law_world_here","_law_plan_here"]
 c39:bO K mg "_law_choice" lZ ["_law_world_here","_law_side","_law_place","_law_offers"]
 c40:bO K mg "_law_ends" Bi ["_law_world_here","_law_side","_law_offers"]
 c41:bO K mg "_law_refused" sO ["_law_e"]
 c42:bO K mg "_law_told" oW ["_law_side","_law_world_here"]
 c43:bO K mg "law" ML ["_law_script"]
 i_MOST_PLACES:∃t,mg "MOST_PLACES"=some (.int 4 t)
 i_MOST:∃t,mg "MOST"=some (.int 9 t)
 m:Ex.AD K mg SQ SL
 b:∀x∈cB,mg x=none
section
variable {P:Program}{w:World}{K:W.Frag}{mg:Str->Option Value}{base:Heap}
theorem jc(D:bI K mg):eM P w K mg base 1 "is_whole" 3 bC:=Rf.j3 (j:=0) D.c0 D.b Rf.bQ Rf.bR Ck
theorem oZ(D:bI K mg):eM P w K mg base 2 "is_number" 2 bZ:=Rf.j3 (j:=1) D.c1 D.b (Rf.fm (jc D) Rf.bQ) Rf.bR Aa
theorem iF(D:bI K mg):eM P w K mg base 1 "is_long" 3 bo:=Rf.j3 (j:=0) D.c2 D.b Rf.bQ Rf.bR Fo
theorem Ao(D:bI K mg):eM P w K mg base 3 "are_likes" 2 eR:=Rf.j3 (j:=2) D.c3 D.b (Rf.fm (oZ D) Rf.bQ) Rf.bR Bm
theorem IQ(D:bI K mg):eM P w K mg base 4 "is_end" 2 eP:=Rf.j3 (j:=3) D.c4 D.b (Rf.fm (iF D) (Rf.fm (jc D) (Rf.fm (Ao D) Rf.bQ))) (Rf.HX D.i_MOST Rf.bR) HP
theorem IU(D:bI K mg):eM P w K mg base 3 "is_way" 3 ir:=Rf.j3 (j:=2) D.c5 D.b (Rf.fm (iF D) (Rf.fm (oZ D) (Rf.fm (jc D) Rf.bQ))) (Rf.HX D.i_MOST Rf.bR) Ia
theorem AV(D:bI K mg):eM P w K mg base 5 "are_parts" 3 eS:=Rf.j3 (j:=4) D.c6 D.b (Rf.fm (iF D) (Rf.fm (IQ D) (Rf.fm (IU D) Rf.bQ))) (Rf.HX D.i_MOST_PLACES Rf.bR) Bx
theorem tH(D:bI K mg):eM P w K mg base 1 "liked_pairs" 1 bD:=Rf.j3 (j:=0) D.c7 D.b Rf.bQ Rf.bR uc
theorem qh(D:bI K mg):eM P w K mg base 6 "is_world" 1 aO:=Rf.j3 (j:=5) D.c8 D.b (Rf.fm (tH D) (Rf.fm (iF D) (Rf.fm (AV D) Rf.bQ))) Rf.bR BU
theorem Gm(D:bI K mg):eM P w K mg base 1 "through" 4 fU:=Rf.j3 (j:=0) D.c9 D.b Rf.bQ Rf.bR FP
theorem pK(D:bI K mg):eM P w K mg base 2 "keeps_amounts" 3 cN:=Rf.j3 (j:=1) D.c10 D.b (Rf.fm (Gm D) Rf.bQ) Rf.bR pC
theorem uR(D:bI K mg):eM P w K mg base 3 "is_plan" 2 fV:=Rf.j3 (j:=2) D.c11 D.b (Rf.fm (iF D) (Rf.fm (pK D) (Rf.fm (jc D) Rf.bQ))) Rf.bR Gv
theorem gW(D:bI K mg):Ex.El P w K mg base 7 "check_world" 1 br:=Ex.Gu (j:=6) D.c12 D.b (Rf.fm (qh D) Rf.bQ) Rf.bR Ex.CT (D.m.ok (by decide +kernel)) si
theorem cP(D:bI K mg):eM P w K mg base 7 "check_world" 1 aV:=Rf.j3 (j:=6) D.c12 D.b (Rf.fm (qh D) Rf.bQ) Rf.bR tU
theorem xl(D:bI K mg):Ex.El P w K mg base 8 "check_plan" 2 iZ:=Ex.Gu (j:=7) D.c13 D.b (Rf.fm (cP D) (Rf.fm (uR D) Rf.bQ)) Rf.bR (Ex.xm (gW D) Ex.CT) (D.m.ok (by decide +kernel)) tw
theorem m9(D:bI K mg):eM P w K mg base 8 "check_plan" 2 fN:=Rf.j3 (j:=7) D.c13 D.b (Rf.fm (cP D) (Rf.fm (uR D) Rf.bQ)) Rf.bR vp
theorem BI(D:bI K mg):eM P w K mg base 1 "replaced" 3 iS:=Rf.j3 (j:=0) D.c14 D.b Rf.bQ Rf.bR CP
theorem dU(D:bI K mg):eM P w K mg base 4 "turned_order" 1 bg:=Rf.SI (j:=0) D.c15 D.b Rf.bQ Rf.bR rX
theorem JT(D:bI K mg):Ex.El P w K mg base 8 "turned" 1 iL:=Ex.Gu (j:=7) D.c16 D.b (Rf.fm (cP D) (Rf.fm (dU D) Rf.bQ)) Rf.bR (Ex.xm (gW D) Ex.CT) (D.m.ok (by decide +kernel)) E2
theorem zq(D:bI K mg):eM P w K mg base 8 "turned" 1 eU:=Rf.j3 (j:=7) D.c16 D.b (Rf.fm (cP D) (Rf.fm (dU D) Rf.bQ)) Rf.bR JW
theorem tM(D:bI K mg):Ex.El P w K mg base 9 "turned_plan" 2 hZ:=Ex.Gu (j:=8) D.c17 D.b (Rf.fm (m9 D) (Rf.fm (dU D) Rf.bQ)) Rf.bR (Ex.xm (xl D) Ex.CT) (D.m.ok (by decide +kernel)) rN
theorem lT(D:bI K mg):eM P w K mg base 9 "turned_plan" 2 eK:=Rf.j3 (j:=8) D.c17 D.b (Rf.fm (m9 D) (Rf.fm (dU D) Rf.bQ)) Rf.bR tI
theorem GA(D:bI K mg):eM P w K mg base 4 "ways_of" 3 lC:=Rf.SI (j:=0) D.c18 D.b Rf.bQ Rf.bR FK
theorem AI(D:bI K mg):eM P w K mg base 5 "chosen_by" 4 dJ:=Rf.j3 (j:=4) D.c19 D.b (Rf.fm (GA D) Rf.bQ) Rf.bR AY
theorem fg(D:bI K mg):eM P w K mg base 6 "chosen_by_all" 3 bh:=Rf.j3 (j:=5) D.c20 D.b (Rf.fm (AI D) Rf.bQ) Rf.bR pF
theorem Au(D:bI K mg):eM P w K mg base 1 "limits" 1 eW:=Rf.j3 (j:=0) D.c21 D.b Rf.bQ Rf.bR JH
theorem uA(D:bI K mg):eM P w K mg base 2 "lowered" 3 cA:=Rf.j3 (j:=1) D.c22 D.b (Rf.fm (BI D) Rf.bQ) Rf.bR F7
theorem E6(D:bI K mg):eM P w K mg base 7 "refused" 2 dM:=Rf.j3 (j:=6) D.c23 D.b (Rf.fm (fg D) Rf.bQ) Rf.bR Fx
theorem Ez(D:bI K mg):eM P w K mg base 8 "steps" 1 p6:=Rf.j3 (j:=7) D.c24 D.b (Rf.fm (Au D) (Rf.fm (E6 D) (Rf.fm (uA D) Rf.bQ))) Rf.bR LK
theorem Bq(D:bI K mg):eM P w K mg base 3 "capped" 2 nN:=Rf.j3 (j:=2) D.c25 D.b (Rf.fm (Au D) (Rf.fm (uA D) Rf.bQ)) Rf.bR IB
theorem l5(D:bI K mg):Ex.El P w K mg base 9 "givers_best" 1 b9:=Ex.Gu (j:=8) D.c26 D.b (Rf.fm (cP D) (Rf.fm (fg D) (Rf.fm (Bq D) (Rf.fm (Ez D) Rf.bQ)))) Rf.bR (Ex.xm (gW D) Ex.CT) (D.m.ok (by decide +kernel)) sy
theorem hJ(D:bI K mg):eM P w K mg base 9 "givers_best" 1 aH:=Rf.j3 (j:=8) D.c26 D.b (Rf.fm (cP D) (Rf.fm (fg D) (Rf.fm (Bq D) (Rf.fm (Ez D) Rf.bQ)))) Rf.bR tK
theorem ua(D:bI K mg):Ex.El P w K mg base 10 "takers_best" 1 cS:=Ex.Gu (j:=9) D.c27 D.b (Rf.fm (zq D) (Rf.fm (lT D) (Rf.fm (hJ D) Rf.bQ))) Rf.bR (Ex.xm (JT D) (Ex.xm (tM D) (Ex.xm (l5 D) Ex.CT))) (D.m.ok (by decide +kernel)) rF
theorem tL(D:bI K mg):eM P w K mg base 10 "takers_best" 1 bq:=Rf.j3 (j:=9) D.c27 D.b (Rf.fm (zq D) (Rf.fm (lT D) (Rf.fm (hJ D) Rf.bQ))) Rf.bR tE
theorem A3(D:bI K mg):eM P w K mg base 1 "_law_cell" 2 dH:=Rf.j3 (j:=0) D.c28 D.b Rf.bQ Rf.bR AN
theorem jm(D:bI K mg):eM P w K mg base 2 "_law_drawn" 3 au:=Rf.j3 (j:=1) D.c29 D.b (Rf.fm (A3 D) Rf.bQ) Rf.bR wz
theorem tj(D:bI K mg):eM P w K mg base 3 "_law_orders" 3 bM:=Rf.j3 (j:=2) D.c30 D.b (Rf.fm (jm D) Rf.bQ) Rf.bR sV
theorem xy(D:bI K mg):eM P w K mg base 4 "_law_world" 3 bX:=Rf.j3 (j:=3) D.c31 D.b (Rf.fm (tj D) (Rf.fm (jm D) Rf.bQ)) Rf.bR v8
theorem pw(D:bI K mg):eM P w K mg base 1 "_law_used" 4 bN:=Rf.j3 (j:=0) D.c32 D.b Rf.bQ Rf.bR zw
theorem AG(D:bI K mg):eM P w K mg base 2 "_law_fits" 2 gN:=Rf.j3 (j:=1) D.c33 D.b (Rf.fm (pw D) Rf.bQ) Rf.bR Ai
theorem vc(D:bI K mg):eM P w K mg base 3 "_law_plans" 1 dk:=Rf.j3 (j:=2) D.c34 D.b (Rf.fm (AG D) Rf.bQ) Rf.bR wk
theorem xc(D:bI K mg):eM P w K mg base 2 "_law_wants" 5 cJ:=Rf.j3 (j:=1) D.c36 D.b (Rf.fm (pw D) Rf.bQ) Rf.bR yl
theorem CC(D:bI K mg):eM P w K mg base 3 "_law_why" 3 gm:=Rf.j3 (j:=2) D.c37 D.b (Rf.fm (xc D) Rf.bQ) Rf.bR Cf
theorem vf(D:bI K mg):eM P w K mg base 4 "_law_rests" 2 dm:=Rf.j3 (j:=3) D.c38 D.b (Rf.fm (CC D) Rf.bQ) Rf.bR ye
theorem tq(D:bI K mg):eM P w K mg base 1 "_law_choice" 4 dy:=Rf.j3 (j:=0) D.c39 D.b Rf.bQ Rf.bR sX
theorem FF{k:Nat}(D:bI K mg):∀c d,Ex.xt Sj c=some d->Ex.DL P w K mg base k "_law_refused" c d:=Ex.Qj D.c41 D.m D.b rfl Rf.PM rfl rfl rfl rfl rfl (by decide +kernel) (by decide +kernel) (by decide) rfl rfl
theorem A5(D:bI K mg):eM P w K mg base 11 "_law_told" 2 aU:=Ex.Qv (j:=10) (ns:=Sj) D.c42 D.b D.m (Rf.fm (hJ D) (Rf.fm (tL D) Rf.bQ)) Rf.bR (Ex.xm (l5 D) (Ex.xm (ua D) Ex.CT)) (FF D) (by decide +kernel) Bb
end
theorem Nr{P:Program}{w:World}{K:W.Frag}{mg:Str->Option Value}{fa:Addr}(D:bI K mg)(hfa:mg "law"=some (.ref fa)):∃fd:FuncData,(∀ (s:Shared) (v:Value),BindsTo s fd ⟨[v],[]⟩ [("_law_script",v)])/\∀base:Heap,K.In base->base.Ns mainGlobals mg->pH P w K mg base Ko 12 fa fd ["_law_script"] (P9 K 1 ik):=by
 obtain⟨f,fd,hm,F,hb⟩:=D.c43.ex
 rw[hfa] at hm;cases hm
 refine⟨fd,fun s v=>?_,fun base _ _=>MT F (Rf.PM (N:=uB)) fun X hP hw hK hm' hb' C _ _ HF H=>by subst hP;subst hw;subst hK;subst hm';subst hb';exact Rf.MU (j:=11) C D.b (Rf.fm (xy D) (Rf.fm (A5 D) (Rf.fm (jm D) (Rf.fm (vc D) (Rf.fm (vf D) (Rf.fm (tq D) Rf.bQ)))))) Rf.bR QY⟩
 obtain⟨oc,od,kV,doc,pm,an,cdv,ct,osl,rfl,lk,hcd⟩:=F.ex
 exact .of_eq rfl
theorem walk{l:W.OpenLaw}{q:Program}{loose:List Str}{XP:(Str->Option Value)->Heap->Prop}{YP:World->Heap->Prop}{d:DefRec}{K:Params->W.Frag}{ts:List Addr}(hn:l.most=some 63)(hdf:d.params.defaults=[])(hname:d.name="law")
  (hY:∀ (w:World) (h:Heap),YP w h->(K w.params).In h/\∀P∈ts,h.get? P=some (W.tabObj #[])) (ht:∀w:World,nq (K w.params) ts=true) (hI:∀ (w:World) {h:Heap}{mg:Str->Option Value},(K w.params).In h->h.Ns mainGlobals mg->bI (K w.params) mg) (main:∀ns:List Int,ns.length<=63->ik [.list (ns.map PyData.int)]=some (.bool true)) :
  W.WalkO q loose XP YP l.row.toRowW d [] (fun f vs=>PySem.call f vs) :=
 GN (n:=63) (k:=12) (x:="_law_script") (CX:=fun _=>Ko) (sp:=fun w=>P9 (K w.params) 1 ik) hn (by decide) hdf ⟨rfl,by decide,by decide⟩ hY ht (fun w mg fa h KX G hmg=>Nr (hI w KX G) (by rw[<- hname];exact hmg)) (fun _ _ a ns hl hT hS=>CN hS hT (main ns hl)) fun _ _ _ _ _ z=>z
end K20
namespace Dl
open PySem L2 PySem.Spec PyProof.Rows
variable {b k:Nat}{d:D}{xs ds:List D}
def AU:D->Prop|.none=>True|.bool _=>True|.int _=>True|.str x=>PyData.canLay0 (.str x)=true|_=>False
def fS(b:Nat):Nat->D->Prop
 | 0,d=>AU d
 | k+1,d=>AU d\/(∃xs,(d=.list xs\/d=.tuple xs)/\xs.length<=b/\∀x∈xs,fS b k x)
theorem fS.leaf(h:AU d):fS b k d:=by
 cases k with
 | zero=>exact h
 | succ k=>exact .inl h
theorem fS.tup(hb:xs.length<=b)(h:∀x∈xs,fS b k x):fS b (k+1) (.tuple xs):=.inr ⟨xs,.inr rfl,hb,h⟩
theorem fS.lst(hb:xs.length<=b)(h:∀x∈xs,fS b k x):fS b (k+1) (.list xs):=.inr ⟨xs,.inl rfl,hb,h⟩
theorem fS.of_tup(h:fS b k (.tuple xs)):∃j,k=j+1/\xs.length<=b/\∀x∈xs,fS b j x:=by
 cases k with
 | zero=>cases h
 | succ k =>
  rcases h with h|⟨ys,h|h,h1,h2⟩
  ·cases h
  ·cases h
  ·cases h;exact⟨k,rfl,h1,h2⟩
theorem fS.mono{b b':Nat}(hb:b<=b'):∀ {k k':Nat}{d:D},k<=k'->fS b k d->fS b' k' d
 | 0,k',d,_,h=>.leaf h
 | k+1,0,d,hk,h=>by lia
 | k+1,k'+1,d,hk,h=>by
  rcases h with h|⟨xs,h,h1,h2⟩
  ·exact .inl h
  ·exact .inr ⟨xs,h,yD h1 hb,fun x hx=>(h2 x hx).mono hb (by lia)⟩
theorem ED{b k:Nat}:∀ {xs:List D},(∀x∈xs,PyData.canLay0 x=true/\x.depth<=k)->PyData.canLayAll0 xs=true/\PyData.depthAll xs<=k
 | [],_=>⟨by simp[PyData.canLayAll0],by simp[PyData.depthAll]⟩
 | x::xs,h=>by
  obtain⟨a,c⟩:=ED (b:=b) (xs:=xs) fun y hy=>h y (zC _ hy)
  obtain⟨a',c'⟩:=h x zE
  exact⟨by simp[PyData.canLayAll0,a,a'],by simp[PyData.depthAll];lia⟩
theorem fS.lay:∀ {k:Nat}{d:D},fS b k d->PyData.canLay0 d=true/\d.depth<=k:=by
 have lf:∀ {k:Nat}{d:D},AU d->PyData.canLay0 d=true/\d.depth<=k:=fun {k d} h=>by
  cases d<;>simp only[AU] at h<;>first|exact⟨h,by simp[PyData.depth]⟩|exact⟨by simp[PyData.canLay0],by simp[PyData.depth]⟩
 intro k
 induction k with
 | zero=>exact fun h=>lf h
 | succ k ih =>
  intro d h
  rcases h with h|⟨xs,h,h1,h2⟩
  ·exact lf h
  ·obtain⟨a,c⟩:=ED (b:=b) (xs:=xs) fun y hy=>ih (h2 y hy)
   rcases h with rfl|rfl
   ·exact⟨by simp[PyData.canLay0,a],by simp[PyData.depth];lia⟩
   ·exact⟨by simp[PyData.canLay0,a],by simp[PyData.depth];lia⟩
theorem fS.shaped{b k:Nat}{d:D}(h:fS b k d)(hk:k<=64):SeqAt.shaped d=true:=by
 obtain⟨a,c⟩:=h.lay
 simp[SeqAt.shaped,a];lia
theorem fS.noDict(h:fS b k d):∀kv,d≠.dict kv:=by
 rintro kv rfl
 have:=h.lay.1
 simp[PyData.canLay0] at this
def pq:D->Bool|.dict _=>false|_=>true
theorem fS.nd(h:fS b k d):pq d=true:=by
 cases d<;>first|rfl|exact absurd rfl (h.noDict _)
def SK:D->Bool|.int _=>true|.bool _=>true|_=>false
def SJ:D->Bool|.bool _=>true|_=>false
def Ml:D->Bool|.tuple _=>true|_=>false
theorem kI(h:pq d=true):wy (gX d) "int"=some (SK d):=by cases d<;>first|cases h;done|exact K1 _ (by simp[gX])
theorem kB(h:pq d=true):wy (gX d) "bool"=some (SJ d):=by cases d<;>first|cases h;done|exact JA _ (by simp[gX])
theorem kT(h:pq d=true):wy (gX d) "tuple"=some (Ml d):=by cases d<;>first|cases h;done|exact kit_tuple _ (by simp[gX])
def whole(a b:Int):D->Bool|.int i=>decide (a<=i)&&decide (i<=b)|_=>false
theorem uy{tgt:Env->D->Option Env}{te:Env->Option D}{ρ:Env}{h:D->D}:∀ {ds:List D},(∀d∈ds,∃ρ',tgt ρ d=some ρ'/\te ρ'=some (h d))->cG tgt (fun _=>some true) te ρ ds=some (ds.map h)
 | [],_=>rfl
 | d::ds,hh=>by
  obtain⟨ρ',h1,h2⟩:=hh d zE
  have ih:=uy (ds:=ds) fun y hy=>hh y (zC _ hy)
  unfold cG
  rw[h1]
  simp[h2,ih]
theorem nA{tgt:Env->D->Option Env}{tt:Env->Option Bool}{te:Env->Option D}{ρ:Env}{p:D->Bool}{h:D->D}:∀ {ds:List D},(∀d∈ds,∃ρ',tgt ρ d=some ρ'/\tt ρ'=some (p d)/\(p d=true->te ρ'=some (h d)))->cG tgt tt te ρ ds=some ((ds.filter p).map h)
 | [],_=>rfl
 | d::ds,hh=>by
  obtain⟨ρ',h1,h2,h3⟩:=hh d zE
  have ih:=nA (ds:=ds) fun y hy=>hh y (zC _ hy)
  unfold cG
  rw[h1]
  simp only[zA,h2]
  cases hp:p d with
  | true=>rw[yL rfl,h3 hp];simp[ih,jX,hp]
  | false=>simp[ih,jX,hp]
theorem oQ{p:D->Bool}:∀ds:List D,boolsOf (ds.map fun d=>.bool (p d))=some (ds.map p)
 | []=>rfl
 | d::ds=>by simp[boolsOf,oQ ds]
theorem nC{p:D->Bool}(ds:List D):m7 [.list (ds.map fun d=>.bool (p d))]=some (.bool (ds.all p)):=by
 simp only[m7,oneOf,zA,oQ,zB,List.all_map]
 rfl
theorem bj(h:ds.length<=4000):small ds=some ds:=yL (yD h (by decide))
theorem mQ{i:Nat}(h:i < ds.length):zh ds (i:Nat)=some (ds.getD i .none):=by
 have:=zf (xs:=ds) (j:=i) (v:=ds[i]) (List.getElem?_eq_some_iff.mpr ⟨h,rfl⟩)
 rw[this]
 simp[List.getD,h]
theorem Ey(h:0 < ds.length):zh ds 0=some (ds.getD 0 .none):=mQ (i:=0) h
theorem Am(h:1 < ds.length):zh ds 1=some (ds.getD 1 .none):=mQ (i:=1) h
theorem MG(h:2 < ds.length):zh ds 2=some (ds.getD 2 .none):=mQ (i:=2) h
end Dl
namespace Wm
open PySem L2 Dl PySem.Spec PyProof.Rows Pg
variable {fa fb te g f fp:Dl.Env->Option D}{ρ:Dl.Env}{a x s mo o:Int}{i k n j m i7 i5 q:Nat}{b:Bool}{cs fz is l:List Nat}{fi:Dl.Env->Option (List D)}{ds xs:List D}{h:D->D}{tt t tc u:Dl.Env->Option Bool}{p:Pl}{w:Wy}{r ns c off P L:List Int}{s2 x4 x8 x9 x6 x7:Slot}{W:List Wy}{G T:List Pl}{mine:List (List Int)}{ρ':ak}{g1 g2:ak->Option Out}{d1 d2:D}
theorem zz{fa fb fc:Dl.Env->Option D}{a i b:Int}(ha:fa ρ=some (.int a))(hb:fb ρ=some (.int i))(hc:fc ρ=some (.int b)):lb EK EK fa fb fc ρ=some (.bool (decide (a<=i)&&decide (i<=b))):=by
 simp only[lb,ha,hb,hc,zA,EK,zk,xH]
 by_cases h:a<=i<;>simp[h]
theorem qv(i j:Int):Dl.eX (.int i) (.int j)=some (.int (i - j)):=rfl
theorem mS(i j:Int):Dl.aW (.int i) (.int j)=some (.int (i+j)):=rfl
theorem y9(d:D):Slot.all (.val d)=some d:=rfl
theorem zc(ds:List D):Slot.all (.own ds)=some (.list ds):=rfl
theorem Ei:Slot.all .non=none:=rfl
theorem Dt(d:D):Slot.frz (.val d)=some d:=rfl
theorem EH(ds:List D):Slot.frz (.own ds)=none:=rfl
theorem Ed:Slot.frz .non=none:=rfl
local macro_rules|`(tactic| simp! [$ts,*])=>`(tactic| simp only[bF,ax,ij,aK,gH,Cj,dv,cm,fB,gB,M1,ae,fC,lP,RA,N2,Q8,f1,f2,qv,mS,aa,af,ai,bA,kn,bS,cK,oneOf,fE,aI,y9,zc,Ei,Dt,EH,Ed,aQ,cn,bw,aJ,cD,av,  zI,yU,xF,xO,zL,xK,List.replicate,xQ,yY,qG,kP,zA,Option.bind_none,zB,Option.map_none,Nat.reduceAdd,Nat.reduceSub,jD,Nat.sub_self,xH,reduceIte,$ts,*])
theorem iX{d:D}(h:pq d=true)(a b:Int):bC [d,.int a,.int b]=some (.bool (whole a b d)):=by
 simp! [bC,mn,kI h,kB h]
 cases d<;>simp[SK,SJ,whole]
 rw[zz rfl rfl rfl]
theorem kc{d:D}(h:pq d=true)(n:Int):bZ [d,.int n]=some (.bool (whole 0 (n - 1) d)):=by
 simp! [bZ,k9,iX h]
def long(a b:Int):D->Bool|.tuple ds=>decide (a<=(ds.length:Int))&&decide ((ds.length:Int)<=b)|_=>false
theorem eC{d:D}(h:pq d=true)(a b:Int):bo [d,.int a,.int b]=some (.bool (long a b d)):=by
 simp! [bo,oD,kT h]
 cases d<;>simp[Ml,long]
 rw[zz rfl (i:=_) rfl rfl]
def iO:D->Int|.int i=>i|_=>0
theorem fR{a b:Int}{d:D}(h:whole a b d=true):d=.int (iO d)/\a<=iO d/\iO d<=b:=by
 cases d<;>simp[whole] at h
 exact⟨rfl,h⟩
theorem mv{a b:Int}:∀ {ls:List D},ls.all (whole a b)=true->ls=(ls.map iO).map PyData.int
 | [],_=>rfl
 | d::ls,h=>by
  rw[xS,zF] at h
  rw[zI,zI,<- (fR h.1).1,<- mv h.2]
def iU(n:Int):D->Bool|.tuple ls=>ls.all (whole 0 (n - 1))&&decide ((ls.map iO).Nodup)|_=>false
theorem bE(i j:Int):aP (.int i) (.int j)=some (.bool (decide (i=j))):=by
 simp[aP,Lo,SeqAt.shaped,PyData.canLay0,PyData.depth,PyData.eqv]
 rfl
theorem Fm{ls:List D}{a b:Int}(h:ls.all (whole a b)=true)(hl:ls.length<=100):f2 aP (f1 lL (fun _=>some (.tuple ls))) (bA bS (aa (fun _=>some (.tuple ls)) af)) []=some (.bool (decide ((ls.map iO).Nodup))):=by
 have e:=mv h
 have e1:lL (.tuple ls)=some (.int (many (ls.map iO))):=by
  simp only[lL,lN]
  conv=>lhs;rw[e]
  rw[di,zA,yL]
  rw[zD]
  exact qZ (Nat.add_le_add_right hl 1) (by decide)
 simp! [e1,bE]
 have:=C6 (ls.map iO)
 rw[zD] at this
 simp only[<- this,Int.ofNat_inj,yK,PyData.bool.injEq]
theorem QN(r:Dl.Env)(d:D):fG 0 (none::r) d=some (some d::r):=by simp[fG,isFree]
theorem cx(hfi:fi ρ=some ds)(hl:ds.length<=4000)(hh:∀d∈ds,te (some d::cs.map fun j=>(ρ[j]?).getD none)=some (h d)):ao 1 cs fi (fG 0) (fun _=>some true) te ρ=some (ds.map h):=by
 simp only[ao,hfi,zA,ej,List.replicate,xF,xO]
 rw[uy (h:=h) fun d hd=>⟨_,QN _ d,hh d hd⟩,zA,bj (by rw[zD];exact hl)]
theorem nh{p:D->Bool}(hfi:fi ρ=some ds)(hl:ds.length<=4000)
  (hp:∀d∈ds,tt (some d::cs.map fun j=>(ρ[j]?).getD none)=some (p d)) (hh:∀d∈ds,p d=true->te (some d::cs.map fun j=>(ρ[j]?).getD none)=some (h d)):ao 1 cs fi (fG 0) tt te ρ=some ((ds.filter p).map h):=by
 simp only[ao,hfi,zA,ej,List.replicate,xF,xO]
 rw[nA (p:=p) (h:=h) fun d hd=>⟨_,QN _ d,hp d hd,hh d hd⟩,zA,bj (by rw[zD];exact yD (xP _ _) hl)]
theorem zt{b k:Nat}{d:D}(h:fS b k d)(hb:b<=100)(n:Int):eR [d,.int n]=some (.bool (iU n d)):=by
 simp! [eR,lj,kT h.nd]
 cases d<;>try (simp[Ml,iU];done)
 rename_i ls
 obtain⟨j,rfl,hl,hf⟩:=h.of_tup
 have c:=cx (cs:=[1]) (fi:=aQ (ae 0)) (te:=(ai 2 bZ (aa (ae 0) (aa (ae 1) af)))) (h:=fun x=>.bool (whole 0 (n - 1) x)) (ρ:=[some (.tuple ls),some (.int n)]) rfl (by lia) fun x hx=>by simp! [kc (hf x hx).nd]
 simp! [Ml,xY,yO,c,nC]
 cases e:ls.all (whole 0 (n - 1)) with
 | false=>simp[iU,e]
 | true =>
  have:=Fm e (yD hl hb)
  simp only[f2,f1,bA,aa,af,zA,zB] at this
  simp! [iU,e,xY,yO,jL]
  simp only[bS,cK,oneOf,zA,fE,zB] at this
  simp! [this]
def placeOk(n:Int):D->Bool|.tuple ds=>decide (ds.length=2)&&(whole 0 9 (ds.getD 0 .none)&&iU n (ds.getD 1 .none))|_=>false
def j1(g t:Int):D->Bool|.tuple ds=>decide (ds.length=3)&&(whole 0 (g - 1) (ds.getD 0 .none)&&(whole 0 (t - 1) (ds.getD 1 .none)&&whole 1 9 (ds.getD 2 .none)))|_=>false
theorem yb(n:Nat)(ds:List D):long (n:Int) (n:Int) (.tuple ds)=decide (ds.length=n):=by
 simp only[long]
 by_cases h:ds.length=n
 ·simp[h]
 ·rw[zZ h,Bool.and_eq_false_iff,xB,xB];lia
theorem getD_mem(h:i < ds.length):ds.getD i .none∈ds:=by simp[List.getD,h]
theorem AF{b k:Nat}{d:D}(h:fS b k d)(hb:b<=100)(n:Int):eP [d,.int n]=some (.bool (placeOk n d)):=by
 simp! [eP,rO,eC h.nd]
 cases d<;>try (simp[long,placeOk];done)
 rename_i ds
 obtain⟨j,rfl,hl,hf⟩:=h.of_tup
 rw[show long 2 2 (.tuple ds)=decide (ds.length=2) from yb 2 ds]
 by_cases e:ds.length=2
 ·have f0:=hf _ (getD_mem (i:=0) (by lia))
  have f1:=hf _ (getD_mem (i:=1) (by lia))
  simp! [e,jQ,Ey (show 0 < ds.length by lia),Am (show 1 < ds.length by lia),iX f0.nd,zt f1 hb,placeOk]
  cases whole 0 9 (ds.getD 0 .none)<;>simp
 ·simp[e,placeOk]
theorem HR{b k:Nat}{d:D}(h:fS b k d)(hb:b<=100)(g t:Int):ir [d,.int g,.int t]=some (.bool (j1 g t d)):=by
 simp! [ir,r9,eC h.nd]
 cases d<;>try (simp[long,j1];done)
 rename_i ds
 obtain⟨j,rfl,hl,hf⟩:=h.of_tup
 rw[show long 3 3 (.tuple ds)=decide (ds.length=3) from yb 3 ds]
 by_cases e:ds.length=3
 ·have f0:=hf _ (getD_mem (i:=0) (by lia))
  have f1:=hf _ (getD_mem (i:=1) (by lia))
  have f2':=hf _ (getD_mem (i:=2) (by lia))
  simp! [e,jQ,xY,yO,Ey (show 0 < ds.length by lia),Am (show 1 < ds.length by lia),MG (show 2 < ds.length by lia),iX f2'.nd,kc f0.nd,kc f1.nd,j1]
  cases whole 0 (g - 1) (ds.getD 0 .none)<;>cases whole 0 (t - 1) (ds.getD 1 .none)<;>simp
 ·simp[e,j1]
def cW:D->List D|.tuple ds=>ds|_=>[]
def oJ(d:D):Bool:=long 1 4 d
def eJ(g t w:D):Bool:=oJ g&&(oJ t&&((cW g).all (placeOk (cW t).length)&&((cW t).all (placeOk (cW g).length)&&(Ml w&&(cW w).all (j1 (cW g).length (cW t).length)))))
theorem k6{a b:Int}{d:D}(h:long a b d=true):d=.tuple (cW d):=by cases d<;>first|rfl|cases h
theorem o7{b k:Nat}{g t w:D}(hg:fS b k g)(ht:fS b k t)(hw:fS b k w)(hb:b<=100):eS [g,t,w]=some (.bool (eJ g t w)):=by
 simp! [eS,kr,eC hg.nd,eC ht.nd,kT hw.nd]
 unfold eJ oJ
 cases e1:long 1 4 g with
 | false=>simp
 | true =>
  cases e2:long 1 4 t with
  | false=>simp
  | true =>
   obtain⟨gs,rfl⟩:∃gs,g=.tuple gs:=⟨_,k6 e1⟩
   obtain⟨ts,rfl⟩:∃ts,t=.tuple ts:=⟨_,k6 e2⟩
   obtain⟨j,rfl,hgl,hgf⟩:=hg.of_tup
   obtain⟨j',hj,htl,htf⟩:=ht.of_tup
   have c1:=cx (cs:=[1]) (fi:=aQ (ae 0)) (te:=(ai 2 eP (aa (ae 0) (aa (bA bS (aa (ae 1) af)) af)))) (h:=fun x=>.bool (placeOk ts.length x)) (ρ:=[some (.tuple gs),some (.tuple ts),some w]) rfl (by lia) fun x hx=>by simp! [AF (hgf x hx) hb]
   have c2:=cx (cs:=[0]) (fi:=aQ (ae 1)) (te:=(ai 2 eP (aa (ae 0) (aa (bA bS (aa (ae 1) af)) af)))) (h:=fun x=>.bool (placeOk gs.length x)) (ρ:=[some (.tuple gs),some (.tuple ts),some w]) rfl (by lia) fun x hx=>by simp! [AF (htf x hx) hb]
   simp! [xY,yO,c1,nC,cW,jL]
   cases e3:gs.all (placeOk ts.length) with
   | false=>simp
   | true =>
    simp! [xY,yO,c2,nC,jL]
    cases e4:ts.all (placeOk gs.length) with
    | false=>simp
    | true =>
     cases hT:Ml w with
     | false=>simp! [xY,yO,kT hw.nd,hT,wI,vB]
     | true =>
     obtain⟨ws,rfl⟩:∃ws,w=.tuple ws:=by cases w<;>first|exact⟨_,rfl⟩|cases hT
     obtain⟨j2,hj2,hwl,hwf⟩:=hw.of_tup
     have c3:=cx (cs:=[0,1]) (fi:=aQ (ae 2)) (te:=(ai 3 ir (aa (ae 0) (aa (bA bS (aa (ae 1) af)) (aa (bA bS (aa (ae 2) af)) af))))) (h:=fun x=>.bool (j1 gs.length ts.length x)) (ρ:=[some (.tuple gs),some (.tuple ts),some (.tuple ws)]) rfl (by lia) fun x hx=>by simp! [HR (hwf x hx) hb]
     simp! [xY,yO,c3,nC,jL,kT hw.nd,Ml]
theorem nS:∀ (a b:List Int),PyData.eqvAll (a.map PyData.int) (b.map PyData.int)=decide (a=b)
 | [],[]=>by simp[PyData.eqvAll]
 | [],_::_=>by simp[PyData.eqvAll]
 | _::_,[]=>by simp[PyData.eqvAll]
 | i::a,j::b=>by
  rw[zI,zI,PyData.eqvAll,nS a b]
  by_cases h:i=j
  ·subst h;simp[PyData.eqv]
  ·simp[PyData.eqv,h]
theorem A9:∀ (a b:List (List Int)),PyData.eqvAll (a.map ag) (b.map ag)=decide (a=b)
 | [],[]=>by simp[PyData.eqvAll]
 | [],_::_=>by simp[PyData.eqvAll]
 | _::_,[]=>by simp[PyData.eqvAll]
 | x::a,y::b=>by
  rw[zI,zI,PyData.eqvAll,A9 a b,ag,ag,PyData.eqv,nS]
  by_cases h:x=y
  ·subst h;simp
  ·simp[h]
theorem je{b k:Nat}(i:Int):fS b k (.int i):=.leaf trivial
theorem Em{b k:Nat}(h:r.length<=b):fS b (k+1) (ag r):=.tup (by rw[zD];exact h) fun x hx=>by
 obtain⟨i,_,rfl⟩:=List.mem_map.mp hx
 exact je i
theorem IZ{b k:Nat}{a:List (List Int)}(h:a.length<=b)(hr:∀r∈a,r.length<=b):fS b (k+2) (.list (a.map ag)):=.lst (by rw[zD];exact h) fun x hx=>by
 obtain⟨r,hr',rfl⟩:=List.mem_map.mp hx
 exact Em (hr r hr')
theorem Fe(a:List (List Int)):∃b,a.length<=b/\∀r∈a,r.length<=b:=by
 induction a with
 | nil=>exact⟨0,yM _,fun r h=>by cases h⟩
 | cons x a ih =>
  obtain⟨b,h1,h2⟩:=ih
  refine⟨b+1+x.length,by rw[zL];lia,fun r hr=>?_⟩
  rcases List.mem_cons.mp hr with rfl|hr
  ·lia
  ·have:=h2 r hr;lia
theorem kj(a:List (List Int)):SeqAt.shaped (.list (a.map ag))=true:=by
 obtain⟨b,h1,h2⟩:=Fe a
 exact (IZ (b:=b) (k:=0) h1 h2).shaped (by decide)
theorem FL(a b:List (List Int)):aP (.list (a.map ag)) (.list (b.map ag))=some (.bool (decide (a=b))):=by
 simp only[aP,Lo,kj,jP,xH,PyData.eqv,A9,zB]
def k7(d:D):List Int:=(cW ((cW d).getD 1 .none)).map iO
theorem jr{n:Int}{d:D}(h:placeOk n d=true):∃a ds,d=.tuple ds/\ds.length=2/\ds.getD 0 .none=.int a/\0<=a/\a<=9/\ds.getD 1 .none=.tuple ((k7 d).map PyData.int)/\(k7 d).Nodup/\∀j∈k7 d,0<=j/\j<=n - 1:=by
 cases d<;>simp only[placeOk] at h<;>try cases h
 rename_i ds
 simp only[zF,zJ] at h
 obtain⟨h1,h2,h3⟩:=h
 have e:k7 (.tuple ds)=(cW (ds.getD 1 .none)).map iO:=rfl
 rw[e]
 generalize hl:ds.getD 1 .none=l at h3
 cases l<;>simp only[iU] at h3<;>try cases h3
 rename_i ls
 simp only[zF,zJ] at h3
 obtain⟨w1,w2,w3⟩:=fR h2
 refine⟨_,ds,rfl,h1,w1,w2,w3,?_,h3.2,fun j hj=>?_⟩
 ·rw[show cW (.tuple ls)=ls from rfl,<- mv h3.1];exact hl
 ·obtain⟨x,hx,rfl⟩:=List.mem_map.mp hj
  exact (fR (List.all_eq_true.mp h3.1 x hx)).2
def mJ(k:Nat):List D->List (List Int)|[]=>[]|p::ps=>(k7 p).map (fun j=>[((k:Nat):Int),j])++mJ (k+1) ps
theorem qt:∀ (n:Nat) {l:List Int},l.Nodup->(∀j∈l,0<=j/\j<=(n:Int) - 1)->l.length<=n:=by
 intro n l hn h
 have hs:l.map Int.toNat ⊆ List.range n:=fun x hx=>by
  obtain⟨j,hj,rfl⟩:=List.mem_map.mp hx
  have:=h j hj
  exact List.mem_range.mpr (by lia)
 have hnd:(l.map Int.toNat).Nodup:=by
  refine List.pairwise_map.mpr (hn.imp_of_mem fun {x y} hx hy hne e=>hne ?_)
  have:=h x hx;have:=h y hy;lia
 have:=List.Nodup.length_le_of_subset hnd hs
 simpa using this
theorem xj{n:Nat}:∀ {ps:List D}{k:Nat},(∀p∈ps,placeOk n p=true)->(mJ k ps).length<=ps.length * n
 | [],k,_=>xV _
 | p::ps,k,h=>by
  obtain⟨_,_,_,_,_,_,_,_,hn,hr⟩:=jr (h p zE)
  have h1:=qt n hn hr
  have h2:=xj (ps:=ps) (k:=k+1) fun q hq=>h q (zC _ hq)
  rw[mJ,zN,zD,zL,Nat.succ_mul]
  lia
def pB:ak->Option Out:=E7 1 [2,3] (ao 1 [2] (aQ (f2 av (ae 3) (fC (.int 1)))) (fG 0) (fun _=>some true) (aJ (aa (ae 1) (aa (ae 0) af))))
theorem BJ{p x:D}{acc:List D}(hp:placeOk n p=true)(hn:n<=100)(ha:acc.length<=1000):pB [.val x,.own acc,.val (.int (k:Nat)),.val p]=some (.nx [.val x,.own (acc++((k7 p).map fun j=>ag [((k:Nat):Int),j])),.val (.int (k:Nat)),.val p]):=by
 obtain⟨a,ds,rfl,hl,_,_,_,h1,hnd,hr⟩:=jr hp
 have hb:=qt n hnd hr
 generalize k7 (.tuple ds)=ls at *
 have c:=cx (cs:=[2]) (fi:=aQ (f2 av (ae 3) (fC (.int 1)))) (te:=aJ (aa (ae 1) (aa (ae 0) af))) (h:=fun y=>.tuple [.int (k:Nat),y]) (ρ:=[some x,none,some (.int (k:Nat)),some (.tuple ds)]) (ds:=ls.map PyData.int)
  (by simp! [Am (show 1 < ds.length by lia),h1]) (by rw[zD];lia) fun y hy=>by
   simp! [bj (show [PyData.int (k:Nat),y].length<=4000 by simp)]
 have hh:hand [2,3] 0 [Slot.val x,.own acc,.val (.int (k:Nat)),.val (.tuple ds)]=[Slot.val x,.own acc,.val (.int (k:Nat)),.val (.tuple ds)]:=rfl
 simp only[pB,E7,hh,bP,zI,yU,Slot.frz,c,zA,pD,yY,xQ]
 rw[yL]
 ·simp only[zB,yW,yV,zM]
  rfl
 ·simp only[zD]
  exact yD (show acc.length+ls.length<=1100 by lia) (by decide)
theorem uF{n:Nat}{x:D}(hn:n<=100):∀ {ps:List D}{k:Nat}{acc:List D}{s2 s3:Slot},(∀p∈ps,placeOk n p=true)->acc.length+ps.length * n<=1000 ->
  ∃t2 t3,dX (fJ 2 3) pB (bG k ps) [.val x,.own acc,s2,s3]=some (.nx [.val x,.own (acc++(mJ k ps).map ag),t2,t3])
 | [],k,acc,s2,s3,_,_=>⟨s2,s3,by simp[bG,dX,mJ]⟩
 | p::ps,k,acc,s2,s3,h,hl=>by
  have hp:=h p zE
  obtain⟨_,_,_,_,_,_,_,_,hnd,hr⟩:=jr hp
  have hb:=qt n hnd hr
  rw[zL,Nat.succ_mul] at hl
  obtain⟨t2,t3,e⟩:=uF hn (x:=x) (ps:=ps) (k:=k+1) (acc:=acc++((k7 p).map fun j=>ag [((k:Nat):Int),j])) (s2:=.val (.int (k:Nat))) (s3:=.val p) (fun q hq=>h q (zC _ hq)) (by rw[zN,zD];lia)
  refine⟨t2,t3,?_⟩
  have hs:fJ 2 3 [.val x,.own acc,s2,s3] (.tuple [.int (k:Nat),p])=some [.val x,.own acc,.val (.int (k:Nat)),.val p]:=rfl
  simp only[bG,dX,hs,zA,BJ hp hn (show acc.length<=1000 by lia)]
  rw[e]
  simp[mJ,zM,Function.comp_def]
theorem DC{ps:List D}(h:∀p∈ps,placeOk n p=true)(hn:n<=100)(hl:ps.length * n<=1000):bD [.tuple ps]=some (.list ((mJ 0 ps).map ag)):=by
 obtain⟨t2,t3,e⟩:=uF hn (x:=.tuple ps) (k:=0) (acc:=[]) (s2:=.non) (s3:=.non) h (by simpa using hl)
 have hs:aG 1 [] (cD af) [Slot.val (.tuple ps),.non,.non,.non]=some (.nx [.val (.tuple ps),.own [],.non,.non]):=rfl
 have hh:hand [0] 0 [Slot.val (.tuple ps),.own [],.non,.non]=[Slot.val (.tuple ps),.own [],.non,.non]:=rfl
 have hf:bH (aa (ae 0) af) (bP [Slot.val (.tuple ps),.own [],.non,.non])=some (bG 0 ps):=rfl
 simp! [bD,gY,hs,cX,hh,hf]
 rw[show E7 1 [2,3] (ao 1 [2] (aQ (f2 av (ae 3) (fC (.int 1)))) (fG 0) (fun _=>some true) (aJ (aa (ae 1) (aa (ae 0) af))))=pB from rfl,e]
 simp! []
def fy(d:D):List Int:=[iO ((cW d).getD 0 .none),iO ((cW d).getD 1 .none)]
theorem C3{g t:Int}{d:D}(h:j1 g t d=true):∃ds c,d=.tuple ds/\ds.length=3/\ds.getD 0 .none=.int (iO (ds.getD 0 .none))/\ds.getD 1 .none=.int (iO (ds.getD 1 .none))/\ds.getD 2 .none=.int c/\1<=c/\c<=9 /\
  0<=iO (ds.getD 0 .none)/\iO (ds.getD 0 .none)<=g - 1/\0<=iO (ds.getD 1 .none)/\iO (ds.getD 1 .none)<=t - 1:=by
 cases d<;>simp only[j1] at h<;>try cases h
 rename_i ds
 simp only[zF,zJ] at h
 obtain⟨h1,h2,h3,h4⟩:=h
 have a:=fR h2
 have b:=fR h3
 have c:=fR h4
 exact⟨ds,_,rfl,h1,a.1,b.1,c.1,c.2.1,c.2.2,a.2.1,a.2.2,b.2.1,b.2.2⟩
def BN(g t w:D):Bool:=decide ((cW w).map fy=sS (mJ 0 (cW g)))&&decide ((cW w).map fy=sS ((mJ 0 (cW t)).map List.reverse))
def P6(d:D):Bool:=long 3 3 d&&(eJ ((cW d).getD 0 .none) ((cW d).getD 1 .none) ((cW d).getD 2 .none)&&BN ((cW d).getD 0 .none) ((cW d).getD 1 .none) ((cW d).getD 2 .none))
theorem lx:∀ {ps:List D}{k:Nat},∀r∈mJ k ps,∃i j,r=[i,j]
 | [],k,r,h=>by cases h
 | p::ps,k,r,h=>by
  rcases List.mem_append.mp h with h|h
  ·obtain⟨j,_,rfl⟩:=List.mem_map.mp h;exact⟨_,_,rfl⟩
  ·exact lx r h
theorem nU{a:List (List Int)}(h:∀r∈a,∃i j,r=[i,j])(hl:a.length < 64):gL [.list (a.map ag)]=some ((sS a).map ag):=by
 have:∀ns∈a,ns≠[]:=fun ns hn=>by obtain⟨i,j,rfl⟩:=h ns hn;exact List.cons_ne_nil _ _
 simp only[gL,oneOf,zA,my this,yL hl]
theorem uC:∀ {a:List (List Int)},(∀r∈a,∃i j,r=[i,j])->cG (ft 0 1) (fun _=>some true) (aJ (aa (ae 1) (aa (ae 0) af))) [none,none] (a.map ag)=some ((a.map List.reverse).map ag)
 | [],_=>rfl
 | r::a,h=>by
  obtain⟨i,j,rfl⟩:=h r zE
  have ih:=uC (a:=a) fun q hq=>h q (zC _ hq)
  have e:ft 0 1 [none,none] (ag [i,j])=some [some (.int i),some (.int j)]:=rfl
  rw[zI,cG,e,zA,zA,yL rfl,ih]
  simp! [bj (show [PyData.int j,.int i].length<=4000 by simp)]
  rfl
theorem F6{a:List (List Int)}(hfi:fi ρ=some (a.map ag))(hl:a.length<=4000)(h:∀r∈a,∃i j,r=[i,j]):ao 2 [] fi (ft 0 1) (fun _=>some true) (aJ (aa (ae 1) (aa (ae 0) af))) ρ=some ((a.map List.reverse).map ag):=by
 simp only[ao,hfi,zA,ej,List.replicate,xF,xO,yU]
 rw[uC h,zA,bj (by rw[zD,zD];exact hl)]
theorem A0{g t w:D}(h:eJ g t w=true):∃gs ts ws,g=.tuple gs/\t=.tuple ts/\w=.tuple ws/\1<=gs.length/\gs.length<=4/\1<=ts.length/\ts.length<=4/\(∀p∈gs,placeOk ts.length p=true)/\(∀p∈ts,placeOk gs.length p=true)/\∀x∈ws,j1 gs.length ts.length x=true:=by
 simp only[eJ,oJ,zF] at h
 obtain⟨h1,h2,h3,h4,h5,h6⟩:=h
 cases w<;>try cases h5
 rename_i ws
 have e1:=k6 h1
 have e2:=k6 h2
 generalize cW g=gs at *
 generalize cW t=ts at *
 subst e1 e2
 simp only[long,zF,zJ] at h1 h2
 exact⟨gs,ts,ws,rfl,rfl,rfl,by lia,by lia,by lia,by lia,List.all_eq_true.mp h3,List.all_eq_true.mp h4,List.all_eq_true.mp h6⟩
theorem rC{b k:Nat}{d:D}(h:fS b k d)(hb:b<=100):aO [d]=some (.bool (P6 d)):=by
 unfold P6
 cases e1:long 3 3 d with
 | false=>simp! [aO,gf,eC h.nd,e1,Bool.not_false,wI]
 | true =>
  obtain⟨ds,rfl⟩:∃ds,d=.tuple ds:=⟨_,k6 e1⟩
  obtain⟨j,rfl,hl,hf⟩:=h.of_tup
  rw[show long 3 3 (.tuple ds)=decide (ds.length=3) from yb 3 ds,zJ] at e1
  have f0:=hf _ (getD_mem (i:=0) (by lia))
  have f1:=hf _ (getD_mem (i:=1) (by lia))
  have f2':=hf _ (getD_mem (i:=2) (by lia))
  have i0:=Ey (show 0 < ds.length by lia)
  have i1:=Am (show 1 < ds.length by lia)
  have i2:=MG (show 2 < ds.length by lia)
  have el:bo [.tuple ds,.int 3,.int 3]=some (.bool true):=by rw[eC rfl,show long 3 3 (.tuple ds)=decide (ds.length=3) from yb 3 ds,yA e1]
  rw[show cW (.tuple ds)=ds from rfl,jL]
  generalize hg:ds.getD 0 .none=g at *
  generalize ht:ds.getD 1 .none=t at *
  generalize hw:ds.getD 2 .none=w at *
  cases e2:eJ g t w with
  | false=>simp! [aO,gf,el,i0,i1,i2,o7 f0 f1 f2' hb,e2,Bool.not_false,xY,wI]
  | true =>
   obtain⟨gs,ts,ws,rfl,rfl,rfl,g1,g4,t1,t4,hG,hT,hW⟩:=A0 e2
   have hfw:=f2'.of_tup
   obtain⟨j2,_,hwl,_⟩:=hfw
   have q1:=xj (k:=0) hG
   have q2:=xj (k:=0) hT
   have m1:gs.length * ts.length<=16:=wG g4 t4
   have m2:ts.length * gs.length<=16:=wG t4 g4
   have l1:=DC hG (by lia) (by lia)
   have l2:=DC hT (by lia) (by lia)
   have s1:=nU (a:=mJ 0 gs) lx (by lia)
   have s2:=nU (a:=(mJ 0 ts).map List.reverse) (fun r hr=>by
    obtain⟨q,hq,rfl⟩:=List.mem_map.mp hr
    obtain⟨i,j,rfl⟩:=lx q hq
    exact⟨j,i,rfl⟩) (by rw[zD];lia)
   have c1:ao 1 [] (aQ (f2 av (ae 0) (fC (.int 2)))) (fG 0) (fun _=>some true) (aJ (aa (f2 av (ae 0) (fC (.int 0))) (aa (f2 av (ae 0) (fC (.int 1))) af))) [some (.tuple ds),none,none,none]=some ((ws.map fy).map ag):=by
    rw[cx (ds:=ws) (h:=fun x=>ag (fy x)) (by simp! [i2]) (by lia) fun x hx=>?_,zM]
    ·rfl
    ·obtain⟨vs,c,rfl,v3,v0,v1,_⟩:=C3 (hW x hx)
     simp! [Ey (show 0 < vs.length by lia),Am (show 1 < vs.length by lia),bj (show [vs.getD 0 PyData.none,vs.getD 1 .none].length<=4000 by simp),ag,fy,cW]
     rw[<- v0,<- v1]
   have c2:∀x y z,ao 2 [] (aQ (ai 1 bD (aa (f2 av (ae 0) (fC (.int 1))) af))) (ft 0 1) (fun _=>some true) (aJ (aa (ae 1) (aa (ae 0) af))) [some (.tuple ds),x,y,z]=some (((mJ 0 ts).map List.reverse).map ag):=fun x y z =>
    F6 (by simp! [i1,l2]) (by lia) lx
   have st1:aG 1 [0] (ao 1 [] (aQ (f2 av (ae 0) (fC (.int 2)))) (fG 0) (fun _=>some true) (aJ (aa (f2 av (ae 0) (fC (.int 0))) (aa (f2 av (ae 0) (fC (.int 1))) af)))) [Slot.val (.tuple ds),.non,.non,.non]=some (.nx [.val (.tuple ds),.own ((ws.map fy).map ag),.non,.non]):=by
    have hh:hand [0] 0 [Slot.val (.tuple ds),.non,.non,.non]=[Slot.val (.tuple ds),.non,.non,.non]:=rfl
    simp only[aG,hh,bP,zI,yU,Slot.frz,c1,zB,yW,yV]
   have st2:aG 2 [0] (kn gL (aa (ai 1 bD (aa (f2 av (ae 0) (fC (.int 0))) af)) af)) [Slot.val (.tuple ds),.own ((ws.map fy).map ag),.non,.non]=some (.nx [.val (.tuple ds),.own ((ws.map fy).map ag),.own ((sS (mJ 0 gs)).map ag),.non]):=by
    have hh:hand [0] 0 [Slot.val (.tuple ds),.own ((ws.map fy).map ag),.non,.non]=[Slot.val (.tuple ds),.own ((ws.map fy).map ag),.non,.non]:=rfl
    simp only[aG,hh,bP,zI,yU,Slot.frz]
    simp! [i0,l1,s1,yW,yV]
   have st3:aG 3 [0] (kn gL (aa (cn (ao 2 [] (aQ (ai 1 bD (aa (f2 av (ae 0) (fC (.int 1))) af))) (ft 0 1) (fun _=>some true) (aJ (aa (ae 1) (aa (ae 0) af))))) af)) [Slot.val (.tuple ds),.own ((ws.map fy).map ag),.own ((sS (mJ 0 gs)).map ag),.non]
      =some (.nx [.val (.tuple ds),.own ((ws.map fy).map ag),.own ((sS (mJ 0 gs)).map ag),.own ((sS ((mJ 0 ts).map List.reverse)).map ag)]):=by
    have hh:hand [0] 0 [Slot.val (.tuple ds),.own ((ws.map fy).map ag),.own ((sS (mJ 0 gs)).map ag),.non]=[Slot.val (.tuple ds),.own ((ws.map fy).map ag),.own ((sS (mJ 0 gs)).map ag),.non]:=rfl
    simp only[aG,hh,bP,zI,yU,Slot.frz]
    simp! [c2,s2,yW,yV]
   simp! [aO,gf,el,i0,i1,i2,o7 f0 f1 f2' hb,e2,xY,yO,st1,st2,st3,FL,BN,cW,jL]
   by_cases hq:List.map fy ws=sS (mJ 0 gs)<;>simp[hq]
theorem mC(xs:List D):PyData.eqvAll xs []=xs.isEmpty:=by cases xs<;>simp[PyData.eqvAll]
theorem Cy:SeqAt.shaped (.list [])=true:=by simp[SeqAt.shaped,PyData.canLay0,PyData.canLayAll0,PyData.depth,PyData.depthAll]
theorem GR{b k:Nat}(h:∀x∈xs,fS b k x)(hk:k<=60):aP (.list xs) (.list [])=some (.bool xs.isEmpty):=by
 have hs:SeqAt.shaped (.list xs)=true:=(fS.lst (b:=max b xs.length) (k:=k) (Nat.le_max_right _ _) fun x hx=>(h x hx).mono (Nat.le_max_left _ _) (yM _)).shaped (by lia)
 simp only[aP,Lo,hs,Cy,jP,xH,PyData.eqv,mC,zB]
theorem iw:small []=some []:=rfl
theorem GK{α:Type}(xs:List α)(k:Nat):cut xs none (some (k:Int))=xs.take k:=by
 simp only[cut,HT.Bv,HT.DR,List.drop_zero,Nat.sub_zero]
 rw[List.take_eq_take_iff];lia
theorem Ik{α:Type}(xs:List α)(k:Nat):cut xs (some (k:Int)) none=xs.drop k:=by
 simp only[cut,HT.Bv,HT.DR]
 rw[kM (by rw[qH];lia)]
 by_cases h:k<=xs.length
 ·rw[Nat.min_eq_left h]
 ·rw[Nat.min_eq_right (by lia),List.drop_of_length_le (yM _),List.drop_of_length_le (by lia)]
theorem gD(b:Bool):gB (.bool b)=some b:=rfl
theorem LL(a b:List Int):PyData.eqv (ag a) (ag b)=decide (a=b):=by rw[ag,ag,PyData.eqv,nS]
theorem MC(P:List (List Int))(a:List Int):((P.map ag).any fun z=>PyData.eqv z (ag a))=decide (a∈P):=by
 rw[List.any_map]
 induction P with
 | nil=>simp
 | cons r P ih =>
  rw[vI,ih,Function.comp_apply,LL]
  by_cases h:r=a
  ·subst h;simp
  ·simp[h,jN h]
theorem Dd(a b:D):small [a,b]=some [a,b]:=rfl
theorem mR:∀ (ρ:ak) (k:Nat),hand [] k ρ=ρ
 | [],k=>rfl
 | s::r,k=>by simp[hand,mR r]
theorem p9:∀ {ps:List D}{k:Nat}{i j:Int},[i,j]∈mJ k ps↔∃m p,ps[m]?=some p/\i=((k+m:Nat):Int)/\j∈k7 p
 | [],k,i,j=>by simp[mJ]
 | p::ps,k,i,j=>by
  rw[mJ,List.mem_append,p9 (ps:=ps)]
  constructor
  ·rintro (h|⟨m,q,h1,h2,h3⟩)
   ·obtain⟨y,hy,e⟩:=List.mem_map.mp h
    injection e with e1 e2
    injection e2 with e2 _
    exact⟨0,p,rfl,by simpa using e1.symm,e2 ▸ hy⟩
   ·exact⟨m+1,q,by simpa using h1,by rw[h2];congr 1;lia,h3⟩
  ·rintro⟨m,q,h1,h2,h3⟩
   cases m with
   | zero =>
    simp at h1
    subst h1
    exact .inl (List.mem_map.mpr ⟨j,h3,by rw[h2];rfl⟩)
   | succ m=>exact .inr ⟨m,q,by simpa using h1,by rw[h2];congr 1;lia,h3⟩
theorem ui:∀ {ps:List D}{k:Nat},(∀p∈ps,(k7 p).Nodup)->(mJ k ps).Nodup
 | [],k,_=>List.nodup_nil
 | p::ps,k,h=>by
  rw[mJ,Zh]
  refine⟨List.pairwise_map.mpr ((h p zE).imp fun hne e=>hne ?_),ui fun q hq=>h q (zC _ hq),?_⟩
  rotate_left
  ·injection e with _ e2
   injection e2
  ·rintro a ha b hb rfl
   obtain⟨y,hy,rfl⟩:=List.mem_map.mp ha
   obtain⟨m,q,h1,h2,h3⟩:=p9.mp hb
   lia
theorem Qa{a b:List Int}(h:Dl.lexLt a b=true):lexLe a b=true:=by
 unfold lexLe
 cases e:Dl.lexLt b a with
 | false=>rfl
 | true=>have:=eE h e;rw[gq] at this;cases this
theorem eQ{i j:Int}(h:vo i j):Dl.gy (.int i) (.int j)=some (.int (i * j)):=by
 simp only[Dl.gy,zk,yL h,Option.some_or]
theorem ix{i j:Int}(h:0 < j):Dl.lO (.int i) (.int j)=some (.int (i % j)):=yL h
theorem kl{i j:Int}(h:0 < j/\j < 1073741824):Dl.mO (.int i) (.int j)=some (.int (i / j)):=yL h
theorem fP(i j:Int):Dl.vd (.int i) (.int j)=some (.bool (decide (j < i))):=rfl
theorem nj(i j:Int):Dl.GE (.int i) (.int j)=some (.bool (decide (i < j))):=rfl
theorem mz{i j:Int}(h:-(2 ^ 64) < i/\i < 2 ^ 64):vo i j:=.inl h
theorem O2{i j:Int}(h:-(2 ^ 64) < j/\j < 2 ^ 64):vo i j:=.inr h
theorem Bl(i:Int):Dl.oA (.int i)=true:=rfl
theorem z9(i:List D):Dl.oA (.tuple i)=false:=rfl
def du(ns:List Int):D:=.list (ns.map PyData.int)
theorem Om(k:Int)(hl:ns.length<=63):∃c,dH [du ns,.int k]=some (.int c):=by
 have heq:aP (.list (ns.map PyData.int)) (.list [])=some (.bool ns.isEmpty):=by
  have:=GR (b:=0) (k:=0) (xs:=ns.map PyData.int) (fun x hx=>by obtain⟨i,_,rfl⟩:=List.mem_map.mp hx;exact je i) (by decide)
  rw[this];cases ns<;>rfl
 by_cases hn:ns=[]
 ·subst hn
  refine⟨7 * k,?_⟩
  rw[yU,List.isEmpty_nil] at heq
  simp! [dH,gz,du,iw,heq,List.isEmpty_nil,eQ (mz (i:=7) (j:=k) (by decide))]
 ·have hpos:(0:Int) < (ns.length:Int):=by have:=List.length_pos_iff.mpr hn;lia
  have he:ns.isEmpty=false:=by cases ns<;>first|rfl|exact absurd rfl hn
  obtain⟨j,hj⟩:=vO (wC k (show (ns.length:Int)≠0 by lia))
  have hlt:=vD k hpos
  have hx:zh (ns.map PyData.int) (k % (ns.length:Int))=some (.int (ns.getD j 0)):=by
   rw[hj]
   have:j < (ns.map PyData.int).length:=by rw[zD];lia
   rw[mQ this,zG,zO,zG]
   rw[zK (by lia)]
   rfl
  refine⟨ns.getD j 0+6553 * (k / (ns.length:Int)),?_⟩
  simp! [dH,gz,du,iw,heq,he,yO,zD,ix hpos,hx,kl (i:=k) (j:=(ns.length:Int)) ⟨hpos,by lia⟩,eQ (mz (i:=6553) (j:=k / (ns.length:Int)) (by decide))]
theorem K0(k many:Int)(hl:ns.length<=63)(hm:0 < many):∃r,au [du ns,.int k,.int many]=some (.int r)/\0<=r/\r < many:=by
 obtain⟨c,hc⟩:=Om k hl
 have m1:∀i:Int,Dl.lO (.int i) (.int 2147483563)=some (.int (i % 2147483563)):=fun i=>ix (by decide)
 have m2:∀i:Int,Dl.lO (.int i) (.int 2147483399)=some (.int (i % 2147483399)):=fun i=>ix (by decide)
 have m3:∀i:Int,Dl.lO (.int i) (.int 2147483647)=some (.int (i % 2147483647)):=fun i=>ix (by decide)
 have d1:∀i:Int,Dl.mO (.int i) (.int 3)=some (.int (i / 3)):=fun i=>kl (by decide)
 have d2:∀i:Int,Dl.mO (.int i) (.int 7)=some (.int (i / 7)):=fun i=>kl (by decide)
 have d3:∀i:Int,Dl.mO (.int i) (.int 11)=some (.int (i / 11)):=fun i=>kl (by decide)
 have u1:∀i:Int,Dl.gy (.int i) (.int 69069)=some (.int (i * 69069)):=fun i=>eQ (O2 (by decide))
 have u2:∀i:Int,Dl.gy (.int 104723) (.int i)=some (.int (104723 * i)):=fun i=>eQ (mz (by decide))
 have b1:∀x:Int,Dl.gy (.int (x % 2147483563)) (.int (x % 2147483563))=some (.int (x % 2147483563 * (x % 2147483563))):=fun x=>eQ (mz (by
  have:=wC x (show (2147483563:Int)≠0 by decide)
  have:=vD x (show (0:Int) < 2147483563 by decide)
  lia))
 have b2:∀x:Int,Dl.gy (.int (x % 2147483399)) (.int (x % 2147483399))=some (.int (x % 2147483399 * (x % 2147483399))):=fun x=>eQ (mz (by
  have:=wC x (show (2147483399:Int)≠0 by decide)
  have:=vD x (show (0:Int) < 2147483399 by decide)
  lia))
 suffices h:∃x,au [du ns,.int k,.int many]=some (.int (x % many)) by
  obtain⟨x,hx⟩:=h
  exact⟨_,hx,wC x (show many≠0 by lia),vD x hm⟩
 ·refine⟨(((((c % 2147483563 * 69069+104723 * (k+1)) % 2147483563) * ((c % 2147483563 * 69069+104723 * (k+1)) % 2147483563)+((c % 2147483563 * 69069+104723 * (k+1)) % 2147483563) / 3) % 2147483399) * ((((c % 2147483563 * 69069+104723 * (k+1)) % 2147483563) * ((c % 2147483563 * 69069+104723 * (k+1)) % 2147483563)+((c % 2147483563 * 69069+104723 * (k+1)) % 2147483563) / 3) % 2147483399)+((((c % 2147483563 * 69069+104723 * (k+1)) % 2147483563) * ((c % 2147483563 * 69069+104723 * (k+1)) % 2147483563)+((c % 2147483563 * 69069+104723 * (k+1)) % 2147483563) / 3) % 2147483399) / 7) % 2147483647 / 11,?_⟩
  simp! [au,jd,hc,m1,u1,u2,Dl.aF,Bl,yW,yV,b1,d1,m2,b2,d2,m3,d3,ix (j:=many) hm]
def dr(ns:List Int)(k many:Int):Int:=iO ((au [du ns,.int k,.int many]).getD .none)
theorem eZ(k many:Int)(hl:ns.length<=63)(hm:0 < many):au [du ns,.int k,.int many]=some (.int (dr ns k many))/\0<=dr ns k many/\dr ns k many < many:=by
 obtain⟨r,h1,h2⟩:=K0 k many hl hm
 have:dr ns k many=r:=by simp only[dr,h1,qG,iO]
 rw[this];exact⟨h1,h2⟩
theorem A4(k many:Int)(hl:ns.length<=63)(hm:0 < many):au [du ns,.int k,.int many]=some (.int (dr ns k many)):=(eZ k many hl hm).1
theorem Q1(k many:Int)(hl:ns.length<=63)(hm:0 < many):0<=dr ns k many:=(eZ k many hl hm).2.1
theorem P4(k many:Int)(hl:ns.length<=63)(hm:0 < many):dr ns k many < many:=(eZ k many hl hm).2.2
def cE(r:List Int):D:=.list (r.map PyData.int)
def insI(ds:List Int)(k:Int)(d:Int):List Int:=let j:=if k < 0 then (k+(ds.length:Int)).toNat else min k.toNat ds.length;ds.take j++d::ds.drop j
theorem Gg(ds:List Int)(k d:Int):Ds (ds.map PyData.int) k (.int d)=(insI ds k d).map PyData.int:=by
 simp only[Ds,insI,zD,jA,zI,List.map_take,List.map_drop]
theorem insI_perm(ds:List Int)(k d:Int):(insI ds k d).Perm (d::ds):=by
 simp only[insI]
 refine List.perm_middle.trans ?_
 rw[List.take_append_drop]
def oB:ak->Option Out:=(GY 6 [8] (ai 3 au (aa (ae 0) (aa (f2 aW (f2 aW (ae 1) (f2 gy (fC (.int 4)) (ae 4))) (ae 7)) (aa (f2 aW (bA bS (aa (ae 6) af)) (fC (.int 1))) af)))) (ae 8))
theorem B0{ns order:List Int}{a k j x:Int}{s2 s3 s5:Slot}(hl:ns.length<=63)(ho:order.length<=1000) :
  oB [.val (du ns),.val (.int a),s2,s3,.val (.int k),s5,.own (order.map PyData.int),.val (.int j),.val (.int x)] =
   some (.nx [.val (du ns),.val (.int a),s2,s3,.val (.int k),s5,.own ((insI order (dr ns (a+4 * k+j) ((order.length:Int)+1)) x).map PyData.int),.val (.int j),.val (.int x)]):=by
 have h4:Dl.gy (.int 4) (.int k)=some (.int (4 * k)):=eQ (mz (by decide))
 have hd:=eZ (ns:=ns) (a+4 * k+j) ((order.length:Int)+1) hl (by lia)
 have hr:BD (dr ns (a+4 * k+j) ((order.length:Int)+1))=true:=by
  simp only[BD,zF,zJ]
  lia
 have hz:(order.map PyData.int).length < sizeLine:=by rw[zD];exact qZ ho (by decide)
 simp! [oB,GY,l9,Bl,pD,zD,h4,hd.1]
 rw[zD] at hz
 simp only[hr,hz,jP,xH,zB,Gg,yW,yV]
theorem Kg{ns:List Int}{a k:Int}{s2 s3 s5:Slot}(hl:ns.length<=63):∀ {row order:List Int}{j:Nat}{s7 s8:Slot},order.length+row.length<=1000 ->
  ∃ (o:List Int) (t7 t8:Slot),dX (fJ 7 8) oB (bG j (row.map PyData.int)) [.val (du ns),.val (.int a),s2,s3,.val (.int k),s5,.own (order.map PyData.int),s7,s8] =
   some (.nx [.val (du ns),.val (.int a),s2,s3,.val (.int k),s5,.own (o.map PyData.int),t7,t8])/\o.Perm (row++order)
 | [],order,j,s7,s8,_=>⟨order,s7,s8,by simp[bG,dX],by simp⟩
 | x::row,order,j,s7,s8,h=>by
  rw[zL] at h
  have hp:=insI_perm order (dr ns (a+4 * k+((j:Nat):Int)) ((order.length:Int)+1)) x
  have hlen:=hp.length_eq
  rw[zL] at hlen
  obtain⟨o,t7,t8,e,p⟩:=Kg (s2:=s2) (s3:=s3) (s5:=s5) (a:=a) (k:=k) hl (row:=row) (order:=insI order (dr ns (a+4 * k+((j:Nat):Int)) ((order.length:Int)+1)) x) (j:=j+1) (s7:=.val (.int (j:Nat))) (s8:=.val (.int x)) (by lia)
  refine⟨o,t7,t8,?_,p.trans ?_⟩
  ·have hs:fJ 7 8 [.val (du ns),.val (.int a),s2,s3,.val (.int k),s5,.own (order.map PyData.int),s7,s8] (.tuple [.int (j:Nat),.int x])=some [.val (du ns),.val (.int a),s2,s3,.val (.int k),s5,.own (order.map PyData.int),.val (.int (j:Nat)),.val (.int x)]:=rfl
   simp only[zI,bG,dX,hs,zA,B0 hl (show order.length<=1000 by lia),e]
  ·refine (hp.append_left row).trans ?_
   rw[xF]
   exact List.perm_middle
def sH:List (List Int)->List (List Int)->Prop|[],[]=>True|a::l,b::m=>a.Perm b/\sH l m|_,_=>False
def rB:ak->Option Out:=(ax (aG 6 [] (cD af)) (ax (cX [5] (bH (aa (ae 5) af)) (fJ 7 8) oB) (mq 3 [6] (bA bw (aa (ae 6) af)))))
theorem PD{ns row:List Int}{a k:Int}{rows:D}{found:List D}{s6 s7 s8:Slot}(hl:ns.length<=63)(hr:row.length<=1000)(hf:found.length<=1000) :
  ∃ (o:List Int) (t7 t8:Slot),rB [.val (du ns),.val (.int a),.val rows,.own found,.val (.int k),.val (cE row),s6,s7,s8]=some (.nx [.val (du ns),.val (.int a),.val rows,.own (found++[ag o]),.val (.int k),.val (cE row),.val (cE o),t7,t8])/\o.Perm row:=by
 obtain⟨o,t7,t8,e,p⟩:=Kg (s2:=.val rows) (s3:=.own found) (s5:=.val (cE row)) (a:=a) (k:=k) hl (row:=row) (order:=[]) (j:=0) (s7:=s7) (s8:=s8) (by simpa using hr)
 rw[qF] at p
 refine⟨o,t7,t8,?_,p⟩
 have h1:aG 6 [] (cD af) [.val (du ns),.val (.int a),.val rows,.own found,.val (.int k),.val (cE row),s6,s7,s8]=some (.nx [.val (du ns),.val (.int a),.val rows,.own found,.val (.int k),.val (cE row),.own [],s7,s8]):=by
  simp only[aG,mR,cD,af,zA,iw,zB,yW,yV]
 have h2:cX [5] (bH (aa (ae 5) af)) (fJ 7 8) oB [.val (du ns),.val (.int a),.val rows,.own found,.val (.int k),.val (cE row),.own [],s7,s8]=some (.nx [.val (du ns),.val (.int a),.val rows,.own found,.val (.int k),.val (cE row),.own (o.map PyData.int),t7,t8]):=by
  have hh:hand [5] 0 [Slot.val (du ns),.val (.int a),.val rows,.own found,.val (.int k),.val (cE row),.own [],s7,s8]=[Slot.val (du ns),.val (.int a),.val rows,.own found,.val (.int k),.val (cE row),.own [],s7,s8]:=rfl
  have hq:bH (aa (ae 5) af) (bP [Slot.val (du ns),.val (.int a),.val rows,.own found,.val (.int k),.val (cE row),.own [],s7,s8])=some (bG 0 (row.map PyData.int)):=by
   simp only[bP,zI,yU]
   simp! [bH,cE]
  simp only[cX,hh,hq,zA]
  exact e
 have h3:mq 3 [6] (bA bw (aa (ae 6) af)) [.val (du ns),.val (.int a),.val rows,.own found,.val (.int k),.val (cE row),.own (o.map PyData.int),t7,t8]=some (.nx [.val (du ns),.val (.int a),.val rows,.own (found++[ag o]),.val (.int k),.val (cE row),.val (cE o),t7,t8]):=by
  have hz:found.length < sizeLine:=qZ hf (by decide)
  have hh:hand [6] 0 [Slot.val (du ns),.val (.int a),.val rows,.own found,.val (.int k),.val (cE row),.own (o.map PyData.int),t7,t8]=[Slot.val (du ns),.val (.int a),.val rows,.own found,.val (.int k),.val (cE row),.val (cE o),t7,t8]:=rfl
  simp only[mq,l9,hh,bP,zI,yU]
  simp! [z9,yO,pD,hz,yW,yV,cE,ag]
 simp only[rB,ax,h1,h2,h3,zA]
theorem GX{ns:List Int}{a:Int}{rws:D}(hl:ns.length<=63):∀ {rows:List (List Int)}{found:List D}{k:Nat}{s4 s5 s6 s7 s8:Slot},(∀r∈rows,r.length<=1000)->found.length+rows.length<=1000 ->
  ∃ (os:List (List Int)) (t4 t5 t6 t7 t8:Slot),dX (fJ 4 5) rB (bG k (rows.map cE)) [.val (du ns),.val (.int a),.val rws,.own found,s4,s5,s6,s7,s8]=some (.nx [.val (du ns),.val (.int a),.val rws,.own (found++os.map ag),t4,t5,t6,t7,t8])/\sH os rows
 | [],found,k,s4,s5,s6,s7,s8,_,_=>⟨[],s4,s5,s6,s7,s8,by simp[bG,dX],trivial⟩
 | r::rows,found,k,s4,s5,s6,s7,s8,h,hf=>by
  rw[zL] at hf
  obtain⟨o,u7,u8,e1,p1⟩:=PD (rows:=rws) (a:=a) (k:=((k:Nat):Int)) (s6:=s6) (s7:=s7) (s8:=s8) hl (h r zE) (show found.length<=1000 by lia)
  obtain⟨os,t4,t5,t6,t7,t8,e,p⟩:=GX hl (rws:=rws) (a:=a) (rows:=rows) (found:=found++[ag o]) (k:=k+1) (s4:=.val (.int (k:Nat))) (s5:=.val (cE r)) (s6:=.val (cE o)) (s7:=u7) (s8:=u8) (fun r' hr'=>h r' (zC _ hr')) (by rw[zN,xC];lia)
  refine⟨o::os,t4,t5,t6,t7,t8,?_,p1,p⟩
  have hs:fJ 4 5 [.val (du ns),.val (.int a),.val rws,.own found,s4,s5,s6,s7,s8] (.tuple [.int (k:Nat),cE r])=some [.val (du ns),.val (.int a),.val rws,.own found,.val (.int (k:Nat)),.val (cE r),s6,s7,s8]:=rfl
  simp only[zI,bG,dX,hs,zA,e1]
  rw[e,List.append_assoc]
  rfl
theorem Ac{rows:List (List Int)}(hl:ns.length<=63)(hr:∀r∈rows,r.length<=1000)(hn:rows.length<=1000):∃os:List (List Int),bM [du ns,.int a,.list (rows.map cE)]=some (.list (os.map ag))/\sH os rows:=by
 obtain⟨os,t4,t5,t6,t7,t8,e,p⟩:=GX hl (rws:=.list (rows.map cE)) (a:=a) (rows:=rows) (found:=[]) (k:=0) (s4:=.non) (s5:=.non) (s6:=.non) (s7:=.non) (s8:=.non) hr (by simpa using hn)
 refine⟨os,?_,p⟩
 rw[xO] at e
 have h1:aG 3 [] (cD af) [.val (du ns),.val (.int a),.val (.list (rows.map cE)),.non,.non,.non,.non,.non,.non]=some (.nx [.val (du ns),.val (.int a),.val (.list (rows.map cE)),.own [],.non,.non,.non,.non,.non]):=by
  simp only[aG,mR,cD,af,zA,iw,zB,yW,yV]
 have h2:cX [2] (bH (aa (ae 2) af)) (fJ 4 5) rB [.val (du ns),.val (.int a),.val (.list (rows.map cE)),.own [],.non,.non,.non,.non,.non]=some (.nx [.val (du ns),.val (.int a),.val (.list (rows.map cE)),.own (os.map ag),t4,t5,t6,t7,t8]):=by
  have hh:hand [2] 0 [Slot.val (du ns),.val (.int a),.val (.list (rows.map cE)),.own [],.non,.non,.non,.non,.non]=[Slot.val (du ns),.val (.int a),.val (.list (rows.map cE)),.own [],.non,.non,.non,.non,.non]:=rfl
  have hq:bH (aa (ae 2) af) (bP [Slot.val (du ns),.val (.int a),.val (.list (rows.map cE)),.own [],.non,.non,.non,.non,.non])=some (bG 0 (rows.map cE)):=by
   simp only[bP,zI,yU]
   simp! [bH]
  simp only[cX,hh,hq,zA]
  exact e
 unfold rB oB at h2
 simp! [bM,g0,h1,h2]
abbrev Pl:=Int×List Int
abbrev Wy:=Int×Int×Int
def bc(p:Pl):D:=.tuple [.int p.1,ag p.2]
def ar(w:Wy):D:=.tuple [.int w.1,.int w.2.1,.int w.2.2]
def aB(G T:List Pl)(W:List Wy):D:=.tuple [.tuple (G.map bc),.tuple (T.map bc),.tuple (W.map ar)]
def D5(W:List Wy)(i:Int):List Int:=(W.filter fun w=>decide (w.1=i)).map fun w=>w.2.1
def ofT(W:List Wy)(j:Int):List Int:=(W.filter fun w=>decide (w.2.1=j)).map fun w=>w.1
abbrev uh(W:List Wy):Prop:=W.Pairwise fun a b=>a.1 < b.1\/(a.1=b.1/\a.2.1 < b.2.1)
structure Wd(G T:List Pl)(W:List Wy):Prop where
 g1:1<=G.length
 g4:G.length<=4
 t1:1<=T.length
 t4:T.length<=4
 ga:∀p∈G,0<=p.1/\p.1<=9
 ta:∀p∈T,0<=p.1/\p.1<=9
 gl:∀ (i:Nat) (p:Pl),G[i]?=some p->p.2.Perm (D5 W i)
 tl:∀ (j:Nat) (p:Pl),T[j]?=some p->p.2.Perm (ofT W j)
 wr:∀w∈W,(0<=w.1/\w.1 < G.length)/\(0<=w.2.1/\w.2.1 < T.length)/\1<=w.2.2/\w.2.2<=9
 wp:uh W
 wl:W.length<=16
theorem xn{i j:Int}:j∈D5 W i↔[i,j]∈W.map fun w=>[w.1,w.2.1]:=by
 simp only[D5,List.mem_map,List.mem_filter,zJ,kZ,and_true]
 constructor
 ·rintro⟨w,⟨h1,h2⟩,h3⟩;exact⟨w,h1,h2,h3⟩
 ·rintro⟨w,h1,h2,h3⟩;exact⟨w,⟨h1,h2⟩,h3⟩
theorem yt{i j:Int}:i∈ofT W j↔[i,j]∈W.map fun w=>[w.1,w.2.1]:=by
 simp only[ofT,List.mem_map,List.mem_filter,zJ,kZ,and_true]
 constructor
 ·rintro⟨w,⟨h1,h2⟩,h3⟩;exact⟨w,h1,h3,h2⟩
 ·rintro⟨w,h1,h2,h3⟩;exact⟨w,⟨h1,h3⟩,h2⟩
theorem n9(h:uh W)(i:Int):(D5 W i).Nodup:=by
 unfold D5 List.Nodup
 rw[jE,List.pairwise_filter]
 refine h.imp fun hab ha hb=>?_
 rw[zJ] at ha hb
 lia
theorem oH(h:uh W)(i:Int):(ofT W i).Nodup:=by
 unfold ofT List.Nodup
 rw[jE,List.pairwise_filter]
 refine h.imp fun hab ha hb=>?_
 rw[zJ] at ha hb
 lia
theorem fT(p:Pl):k7 (bc p)=p.2:=by
 show ((p.2.map PyData.int).map iO)=p.2
 rw[zM]
 exact List.map_id _
theorem pk{n:Int}(ha:0<=p.1/\p.1<=9)(hn:p.2.Nodup)(hr:∀j∈p.2,0<=j/\j < n):placeOk n (bc p)=true:=by
 have e:(p.2.map PyData.int).map iO=p.2:=fT p
 have e2:(p.2.map PyData.int).all (whole 0 (n - 1))=true:=by
  rw[xG]
  intro x hx
  obtain⟨j,hj,rfl⟩:=List.mem_map.mp hx
  have:=hr j hj
  simp only[whole,zF,zJ]
  lia
 simp only[placeOk,bc,ag,zL,xK,wM,wN,iU,whole,e,e2,ha.1,ha.2,hn,jQ,Bool.and_self]
theorem FI{g t:Int}(h:(0<=w.1/\w.1 < g)/\(0<=w.2.1/\w.2.1 < t)/\1<=w.2.2/\w.2.2<=9):j1 g t (ar w)=true:=by
 obtain⟨⟨a,b⟩,⟨c,d⟩,e,f⟩:=h
 have b':w.1<=g - 1:=by lia
 have d':w.2.1<=t - 1:=by lia
 simp only[j1,ar,zL,xK,wM,wN,whole,a,b',c,d',e,f,jQ,Bool.and_self]
theorem R3{a b c d:Int}(h:a < c\/(a=c/\b < d)):Dl.lexLt [a,b] [c,d]=true:=by
 show HT.lexLt [a,b] [c,d]=true
 rw[HT.dD]
 by_cases e:a=c
 ·rw[yL e,HT.dD,yN (by lia)]
  simp only[zJ];lia
 ·rw[yN e];simp only[zJ];lia
theorem Wd.glike(h:Wd G T W)(hp:p∈G):∃i:Nat,i < G.length/\p.2.Perm (D5 W i):=by
 obtain⟨i,hi,e⟩:=qQ hp
 exact⟨i,hi,h.gl i p (by rw[zK hi,e])⟩
theorem Wd.tlike(h:Wd G T W)(hp:p∈T):∃i:Nat,i < T.length/\p.2.Perm (ofT W i):=by
 obtain⟨i,hi,e⟩:=qQ hp
 exact⟨i,hi,h.tl i p (by rw[zK hi,e])⟩
theorem Wd.gok(h:Wd G T W):(G.map bc).all (placeOk T.length)=true:=by
 rw[xG]
 intro x hx
 obtain⟨p,hp,rfl⟩:=List.mem_map.mp hx
 obtain⟨i,hi,q⟩:=h.glike hp
 refine pk (h.ga p hp) (q.nodup_iff.mpr (n9 h.wp _)) fun j hj=>?_
 obtain⟨w,hw,e⟩:=List.mem_map.mp (xn.mp (q.mem_iff.mp hj))
 injection e with e1 e2
 injection e2 with e2 _
 have:=(h.wr w hw).2.1
 rw[e2] at this;exact this
theorem Wd.tok(h:Wd G T W):(T.map bc).all (placeOk G.length)=true:=by
 rw[xG]
 intro x hx
 obtain⟨p,hp,rfl⟩:=List.mem_map.mp hx
 obtain⟨i,hi,q⟩:=h.tlike hp
 refine pk (h.ta p hp) (q.nodup_iff.mpr (oH h.wp _)) fun j hj=>?_
 obtain⟨w,hw,e⟩:=List.mem_map.mp (yt.mp (q.mem_iff.mp hj))
 injection e with e1 e2
 have:=(h.wr w hw).1
 rw[e1] at this;exact this
theorem r8{p:Wy->Bool}(h:W.length<=16):(W.filter p).length<=16:=yD (xP _ _) h
theorem Dj(h:p.2.length<=16):fS 16 2 (bc p):=.tup (by simp only[zL,xK];lia) fun x hx=>by
 rcases List.mem_cons.mp hx with rfl|hx
 ·exact je _
 ·rw[yJ] at hx
  subst hx
  exact Em h
theorem D1(w:Wy):fS 16 1 (ar w):=.tup (by simp only[zL,xK];lia) fun x hx=>by
 simp only[zQ,yF,xU] at hx
 rcases hx with rfl|rfl|rfl<;>exact je _
theorem Wd.fit(h:Wd G T W):fS 16 4 (aB G T W):=by
 refine .tup (by simp only[zL,xK];lia) fun x hx=>?_
 simp only[zQ,yF,xU] at hx
 have h4:=h.g4
 have h5:=h.t4
 have h6:=h.wl
 rcases hx with rfl|rfl|rfl
 ·refine .tup (by rw[zD];lia) fun x hx=>?_
  obtain⟨p,hp,rfl⟩:=List.mem_map.mp hx
  obtain⟨i,hi,q⟩:=h.glike hp
  exact Dj (by rw[q.length_eq,D5,zD];exact r8 h.wl)
 ·refine .tup (by rw[zD];lia) fun x hx=>?_
  obtain⟨p,hp,rfl⟩:=List.mem_map.mp hx
  obtain⟨i,hi,q⟩:=h.tlike hp
  exact Dj (by rw[q.length_eq,ofT,zD];exact r8 h.wl)
 ·refine .tup (by rw[zD];lia) fun x hx=>?_
  obtain⟨p,hp,rfl⟩:=List.mem_map.mp hx
  exact (D1 p).mono (yM _) (by decide)
theorem FY{c:Int}(h0:0<=c)(h9:c<=9):Wd [(c,[0,1]),(c,[1,0])] [(c,[1,0]),(c,[0,1])] [(0,0,2),(0,1,2),(1,0,2),(1,1,2)] where
 g1:=by simp only[zL,xK];lia
 g4:=by simp only[zL,xK];lia
 t1:=by simp only[zL,xK];lia
 t4:=by simp only[zL,xK];lia
 ga:=by intro p hp;simp only[zQ,yF,xU] at hp;rcases hp with rfl|rfl<;>exact⟨h0,h9⟩
 ta:=by intro p hp;simp only[zQ,yF,xU] at hp;rcases hp with rfl|rfl<;>exact⟨h0,h9⟩
 gl:=by
  intro i p hp
  match i,hp with
  | 0,hp=>injection hp with hp;subst hp;exact (show List.Perm ([0,1]:List Int) (D5 [(0,0,2),(0,1,2),(1,0,2),(1,1,2)] ((0:Nat):Int)) by decide)
  | 1,hp=>injection hp with hp;subst hp;exact (show List.Perm ([1,0]:List Int) (D5 [(0,0,2),(0,1,2),(1,0,2),(1,1,2)] ((1:Nat):Int)) by decide)
 tl:=by
  intro i p hp
  match i,hp with
  | 0,hp=>injection hp with hp;subst hp;exact (show List.Perm ([1,0]:List Int) (ofT [(0,0,2),(0,1,2),(1,0,2),(1,1,2)] ((0:Nat):Int)) by decide)
  | 1,hp=>injection hp with hp;subst hp;exact (show List.Perm ([0,1]:List Int) (ofT [(0,0,2),(0,1,2),(1,0,2),(1,1,2)] ((1:Nat):Int)) by decide)
 wr:=show ∀w∈([(0,0,2),(0,1,2),(1,0,2),(1,1,2)]:List Wy),(0<=w.1/\w.1 < ((2:Nat):Int))/\(0<=w.2.1/\w.2.1 < ((2:Nat):Int))/\1<=w.2.2/\w.2.2<=9 by decide
 wp:=by decide
 wl:=by decide
def j4(f:Nat->Int):Nat->List (List Int)->List Pl|_,[]=>[]|k,r::rs=>(f k,r)::j4 f (k+1) rs
theorem il(f:Nat->Int):∀ (rs:List (List Int)) (k:Nat),(j4 f k rs).length=rs.length
 | [],k=>rfl
 | r::rs,k=>by rw[j4,zL,zL,il f rs]
theorem iB(f:Nat->Int):∀ {rs:List (List Int)}{k i:Nat}{p:Pl},(j4 f k rs)[i]?=some p->∃r,rs[i]?=some r/\p=(f (k+i),r)
 | [],k,i,p,h=>by simp[j4] at h
 | r::rs,k,0,p,h=>by simp[j4] at h;exact⟨r,rfl,h.symm⟩
 | r::rs,k,i+1,p,h=>by
  simp only[j4,yY] at h
  obtain⟨y,h1,h2⟩:=iB f h
  exact⟨y,by simpa using h1,by rw[h2];congr 2;lia⟩
theorem eD:∀ {a b:List (List Int)},sH a b->a.length=b.length
 | [],[],_=>rfl
 | x::a,y::b,h=>by rw[zL,zL,eD h.2]
 | [],_::_,h=>h.elim
 | _::_,[],h=>h.elim
theorem nY:∀ {a b:List (List Int)}{i:Nat}{r:List Int},sH a b->a[i]?=some r->∃s,b[i]?=some s/\r.Perm s
 | [],[],i,r,_,h=>by simp at h
 | x::a,y::b,0,r,h,e=>by
  simp only[xQ,yK] at e
  subst e
  exact⟨y,rfl,h.1⟩
 | x::a,y::b,i+1,r,h,e=>by
  simp only[yY] at e
  obtain⟨s,h1,h2⟩:=nY h.2 e
  exact⟨s,by simpa using h1,h2⟩
 | [],_::_,i,r,h,_=>h.elim
 | _::_,[],i,r,h,_=>h.elim
def lY(W:List Wy)(m:Nat):List (List Int):=(List.range m).map fun i=>D5 W ((i:Nat):Int)
def jw(W:List Wy)(m:Nat):List (List Int):=(List.range m).map fun i=>ofT W ((i:Nat):Int)
theorem Kx{m s:Nat}{mine yours:List (List Int)}{f g:Nat->Int}(m1:1<=m)(m4:m<=4)(s1:1<=s)(s4:s<=4)(hf:∀k,0<=f k/\f k<=9)(hg:∀k,0<=g k/\g k<=9)
  (hm:sH mine (lY W m)) (hy:sH yours (jw W s)) (wr:∀w∈W,(0<=w.1/\w.1 < m)/\(0<=w.2.1/\w.2.1 < s)/\1<=w.2.2/\w.2.2<=9) (wp:uh W) (wl:W.length<=16):Wd (j4 f 0 mine) (j4 g 0 yours) W:=by
 have lm:(j4 f 0 mine).length=m:=by rw[il,eD hm,lY,zD,zR]
 have ly:(j4 g 0 yours).length=s:=by rw[il,eD hy,jw,zD,zR]
 have am:∀ {h:Nat->Int}{rs:List (List Int)},(∀k,0<=h k/\h k<=9)->∀p∈j4 h 0 rs,0<=p.1/\p.1<=9:=fun {h rs} hh p hp=>by
  obtain⟨i,hi⟩:=List.mem_iff_getElem?.mp hp
  obtain⟨r,_,rfl⟩:=iB h hi
  exact hh _
 refine⟨by lia,by lia,by lia,by lia,am hf,am hg,fun i p hp=>?_,fun i p hp=>?_,by rw[lm,ly];exact wr,wp,wl⟩
 ·obtain⟨r,h1,rfl⟩:=iB f hp
  obtain⟨t,h2,h3⟩:=nY hm h1
  rw[lY,zO] at h2
  obtain⟨k,hk,rfl⟩:=Option.map_eq_some_iff.mp h2
  have:k=i:=by
   rw[zT] at hk
   obtain⟨h,e⟩:=hk
   rw[List.getElem_range] at e
   exact e.symm
  subst this
  exact h3
 ·obtain⟨r,h1,rfl⟩:=iB g hp
  obtain⟨t,h2,h3⟩:=nY hy h1
  rw[jw,zO] at h2
  obtain⟨k,hk,rfl⟩:=Option.map_eq_some_iff.mp h2
  have:k=i:=by
   rw[zT] at hk
   obtain⟨h,e⟩:=hk
   rw[List.getElem_range] at e
   exact e.symm
  subst this
  exact h3
theorem cw{ρ ρ':ak}{d:D}(hf:f (aI ρ)=some d)(hs:Dl.oA d=false)(hh:hand fz 0 ρ=ρ')(hv:bP ρ'=aI ρ)(hr:iK d=false\/ρ'=ρ:=by first|exact .inr rfl|exact .inl rfl):Dl.aF i fz f ρ=some (.nx (ρ'.set i (.val d))):=by
 rcases hr with hr|hr
 ·simp only[Dl.aF,hf,zA,hs,yO,qP,hh,hv,zB,hr]
 ·subst hr
  simp only[Dl.aF,hf,zA,hs,yO,qP,hh,hv,zB,ite_self]
theorem dG{ρ:ak}{d:D}(hf:f (aI ρ)=some d)(hs:Dl.oA d=true):Dl.aF i fz f ρ=some (.nx (ρ.set i (.val d))):=by
 simp only[Dl.aF,hf,zA,hs,xH]
theorem MR(w:Wy):av (ar w) (.int 0)=some (.int w.1):=rfl
theorem M3(w:Wy):av (ar w) (.int 1)=some (.int w.2.1):=rfl
theorem BL(a b c:D):small [a,b,c]=some [a,b,c]:=rfl
theorem QZ{a b s:Int}(hs:s=1\/s=2\/s=3)(h:a < b):a / s < b / s\/(a / s=b / s/\a % s < b % s):=by rcases hs with rfl|rfl|rfl<;>lia
theorem NX{k m s:Int}(hs:s=1\/s=2\/s=3)(hm:m=1\/m=2\/m=3)(h0:0<=k)(h:k < m * s):(0<=k / s/\k / s < m)/\0<=k % s/\k % s < s:=by
 rcases hs with rfl|rfl|rfl<;>rcases hm with rfl|rfl|rfl<;>lia
def lB:ak->Option Out:=(ij (dv (fB (f2 GE (bA bS (aa (ae 7) af)) (ae 2))) (fB (f2 vd (ai 3 au (aa (ae 0) (aa (f2 aW (f2 aW (ae 1) (fC (.int 2))) (ae 8)) (aa (fC (.int 4)) af)))) (fC (.int 0))))) (mq 7 [0,1,6,8] (aJ (aa (f2 mO (ae 8) (ae 6)) (aa (f2 lO (ae 8) (ae 6)) (aa (f2 aW (fC (.int 1)) (ai 3 au (aa (ae 0) (aa (f2 aW (f2 aW (ae 1) (fC (.int 12))) (ae 8)) (aa (fC (.int 2)) af))))) af))))) gH)
abbrev st(ns:List Int)(a mo m s:Int)(x4 x7 x8 x9 x10 x11:Slot):ak:=[.val (du ns),.val (.int a),.val (.int mo),.non,x4,.val (.int m),.val (.int s),x7,x8,x9,x10,x11]
def K5(ns:List Int)(a mo s k:Int)(W:List Wy):List Wy:=if (W.length:Int) < mo/\0 < dr ns (a+2+k) 4 then W++[(k / s,k % s,1+dr ns (a+12+k) 2)] else W
theorem Oc{a mo m s k:Int}(hl:ns.length<=63)(hs:s=1\/s=2\/s=3)(hw:W.length<=9) :
  lB (st ns a mo m s .non (.own (W.map ar)) (.val (.int k)) .non .non .non)=some (.nx (st ns a mo m s .non (.own ((K5 ns a mo s k W).map ar)) (.val (.int k)) .non .non .non)):=by
 have hs0:0 < s:=by lia
 have hz:W.length < sizeLine:=qZ hw (by decide)
 have hd:Dl.mO (.int k) (.int s)=some (.int (k / s)):=kl ⟨hs0,by lia⟩
 have hm:Dl.lO (.int k) (.int s)=some (.int (k % s)):=ix hs0
 have e4:=A4 (ns:=ns) (a+2+k) 4 hl (by decide)
 have e2:=A4 (ns:=ns) (a+12+k) 2 hl (by decide)
 have hh:hand [0,1,6,8] 0 (st ns a mo m s .non (.own (W.map ar)) (.val (.int k)) .non .non .non)=st ns a mo m s .non (.own (W.map ar)) (.val (.int k)) .non .non .non:=rfl
 have ha:mq 7 [0,1,6,8] (aJ (aa (f2 mO (ae 8) (ae 6)) (aa (f2 lO (ae 8) (ae 6)) (aa (f2 aW (fC (.int 1)) (ai 3 au (aa (ae 0) (aa (f2 aW (f2 aW (ae 1) (fC (.int 12))) (ae 8)) (aa (fC (.int 2)) af))))) af)))) (st ns a mo m s .non (.own (W.map ar)) (.val (.int k)) .non .non .non)=some (.nx (st ns a mo m s .non (.own ((W++[(k / s,k % s,1+dr ns (a+12+k) 2)]).map ar)) (.val (.int k)) .non .non .non)):=by
  simp only[mq,l9,hh,bP,zI,yU]
  simp! [z9,yO,pD,hd,hm,e2,BL,zD,hz,yW,yV,jA]
  rfl
 by_cases c1:(W.length:Int) < mo
 ·by_cases c2:0 < dr ns (a+2+k) 4
  ·rw[show K5 ns a mo s k W=W++[(k / s,k % s,1+dr ns (a+12+k) 2)] from yL ⟨c1,c2⟩,<- ha]
   simp! [lB,nj,fP,zD,c1,c2,jQ,gD,e4]
  ·rw[show K5 ns a mo s k W=W from yN fun h=>c2 h.2]
   simp! [lB,nj,fP,zD,c1,c2,jQ,Zc,gD,e4,yO]
 ·rw[show K5 ns a mo s k W=W from yN fun h=>c1 h.1]
  simp! [lB,nj,fP,zD,c1,Zc,gD,yO]
structure Gi(mo s k:Int)(W:List Wy):Prop where
 mem:∀w∈W,∃j:Int,0<=j/\j < k/\w.1=j / s/\w.2.1=j % s/\1<=w.2.2/\w.2.2<=2
 ris:uh W
 len:(W.length:Int)<=k
 lem:(W.length:Int)<=mo
theorem Gi.next{a mo s k:Int}(hl:ns.length<=63)(hs:s=1\/s=2\/s=3)(hk:0<=k)(h:Gi mo s k W):Gi mo s (k+1) (K5 ns a mo s k W):=by
 have old:∀w∈W,∃j:Int,0<=j/\j < k+1/\w.1=j / s/\w.2.1=j % s/\1<=w.2.2/\w.2.2<=2:=fun w hw=>by
  obtain⟨j,a,b,c⟩:=h.mem w hw
  exact⟨j,a,by lia,c⟩
 by_cases c:(W.length:Int) < mo/\0 < dr ns (a+2+k) 4
 ·rw[show K5 ns a mo s k W=W++[(k / s,k % s,1+dr ns (a+12+k) 2)] from yL c]
  have g1:=Q1 (ns:=ns) (a+12+k) 2 hl (by decide)
  have g2:=P4 (ns:=ns) (a+12+k) 2 hl (by decide)
  refine⟨fun w hw=>?_,?_,?_,?_⟩
  ·rcases List.mem_append.mp hw with hw|hw
   ·exact old w hw
   ·rw[yJ] at hw
    subst hw
    exact⟨k,hk,by lia,rfl,rfl,by simp only;lia,by simp only;lia⟩
  ·refine List.pairwise_append.mpr ⟨h.ris,vN _ _,fun a ha b hb=>?_⟩
   rw[yJ] at hb
   subst hb
   obtain⟨j,_,b,c1,c2,_⟩:=h.mem a ha
   rw[c1,c2]
   exact QZ hs b
  ·have:=h.len;rw[zN,xC];lia
  ·have:=c.1;rw[zN,xC];lia
 ·rw[show K5 ns a mo s k W=W from yN c]
  exact⟨old,h.ris,by have:=h.len;lia,h.lem⟩
theorem IC{ns:List Int}{a mo m s:Int}(hl:ns.length<=63)(hs:s=1\/s=2\/s=3):∀ (n k:Nat) {W:List Wy}{x8:Slot},k+n<=9->Gi mo s k W ->
  ∃W' t8,dX (kh 8) lB ((List.range' k n).map fun i=>PyData.int ((i:Nat):Int)) (st ns a mo m s .non (.own (W.map ar)) x8 .non .non .non)=some (.nx (st ns a mo m s .non (.own (W'.map ar)) t8 .non .non .non))/\(n=0/\t8=x8\/∃d,t8=.val d)/\Gi mo s ((k+n:Nat):Int) W'
 | 0,k,W,x8,hk,h=>⟨W,x8,rfl,.inl ⟨rfl,rfl⟩,h⟩
 | n+1,k,W,x8,hk,h=>by
  have h':Gi mo s ((k+1:Nat):Int) (K5 ns a mo s k W):=by
   have:=h.next (ns:=ns) (a:=a) hl hs (by lia)
   rwa [show ((k:Int)+1)=((k+1:Nat):Int) by lia] at this
  obtain⟨W',t8,e,q,b⟩:=IC hl hs n (k+1) (W:=K5 ns a mo s k W) (x8:=.val (.int (k:Nat))) (by lia) h'
  refine⟨W',t8,?_,.inr (q.elim (fun z=>⟨_,z.2⟩) id),by rw[show k+(n+1)=k+1+n by lia];exact b⟩
  have hsg:∀d,kh 8 (st ns a mo m s .non (.own (W.map ar)) x8 .non .non .non) d=some (st ns a mo m s .non (.own (W.map ar)) (.val d) .non .non .non):=fun d=>rfl
  rw[vL,zI,dX,hsg,zA,Oc hl hs (by have:=h.len;lia)]
  exact e
theorem S3(W:List Wy)(i:Int)(hw:W.length<=20):ao 1 [0] (aQ (ae 1)) (fG 0) (fB (f2 aP (f2 av (ae 0) (fC (.int 0))) (ae 1))) (f2 av (ae 0) (fC (.int 1))) [some (.int i),some (.list (W.map ar))]=some ((D5 W i).map PyData.int):=by
 rw[nh (ds:=W.map ar) (p:=fun d=>decide (iO ((cW d).getD 0 .none)=i)) (h:=fun d=>(cW d).getD 1 .none) rfl (by rw[zD];lia) (fun d hd=>?_) fun d hd _=>?_]
 ·rw[kH,zM,D5,zM];rfl
 ·obtain⟨w,_,rfl⟩:=List.mem_map.mp hd
  simp! [MR,bE,gD]
  rfl
 ·obtain⟨w,_,rfl⟩:=List.mem_map.mp hd
  simp! [M3]
  rfl
theorem SN(W:List Wy)(i:Int)(hw:W.length<=20):ao 1 [0] (aQ (ae 1)) (fG 0) (fB (f2 aP (f2 av (ae 0) (fC (.int 1))) (ae 1))) (f2 av (ae 0) (fC (.int 0))) [some (.int i),some (.list (W.map ar))]=some ((ofT W i).map PyData.int):=by
 rw[nh (ds:=W.map ar) (p:=fun d=>decide (iO ((cW d).getD 1 .none)=i)) (h:=fun d=>(cW d).getD 0 .none) rfl (by rw[zD];lia) (fun d hd=>?_) fun d hd _=>?_]
 ·rw[kH,zM,ofT,zM];rfl
 ·obtain⟨w,_,rfl⟩:=List.mem_map.mp hd
  simp! [M3,bE,gD]
  rfl
 ·obtain⟨w,_,rfl⟩:=List.mem_map.mp hd
  simp! [MR]
  rfl
theorem xi(hm:m<=1000):BD ((m:Nat):Int)=true:=by
 unfold BD
 rw[zF,zJ,zJ]
 have h1:(0:Int)<=(m:Int):=Int.natCast_nonneg m
 have h2:(m:Int)<=1000:=by lia
 exact⟨jU (by decide) h1,Int.lt_of_le_of_lt h2 (by decide)⟩
theorem Bf{j:Int}(h:BD j=true):mh [.int j]=some ((List.range j.toNat).map fun i=>PyData.int ((i:Nat):Int)):=by
 rw[mh,yL h]
theorem yg{fi:Dl.Env->Option D}(m:Nat)(hm:m<=1000)(h:fi ρ=some (.int (m:Nat))):aZ (aa fi af) ρ=some ((List.range m).map fun i=>PyData.int ((i:Nat):Int)):=by
 have e:aa fi af ρ=some [.int ((m:Nat):Int)]:=by simp only[aa,af,h,zA,zB]
 have e2:aZ (aa fi af) ρ=(aa fi af ρ).bind mh:=rfl
 rw[e2,e,zA,Bf (xi hm),yG]
theorem KQ(hw:W.length<=20)(hm:m<=1000)(h5:ae i5 ρ=some (.int (m:Nat)))(h7:(ρ[i7]?).getD none=some (.list (W.map ar))) :
  ao 1 [i7] (aZ (aa (ae i5) af)) (fG 0) (fun _=>some true) (cn (ao 1 [0] (aQ (ae 1)) (fG 0) (fB (f2 aP (f2 av (ae 0) (fC (.int 0))) (ae 1))) (f2 av (ae 0) (fC (.int 1))))) ρ=some ((lY W m).map cE):=by
 rw[cx (h:=fun d=>cE (D5 W (iO d))) (yg m hm h5) (by rw[zD,zR];lia) fun d hd=>?_]
 ·rw[lY,zM,zM];rfl
 ·obtain⟨i,_,rfl⟩:=List.mem_map.mp hd
  simp only[zI,yU,h7,cn,S3 W _ hw,zB,cE,iO]
theorem LN(hw:W.length<=20)(hm:m<=1000)(h5:ae i5 ρ=some (.int (m:Nat)))(h7:(ρ[i7]?).getD none=some (.list (W.map ar))) :
  ao 1 [i7] (aZ (aa (ae i5) af)) (fG 0) (fun _=>some true) (cn (ao 1 [0] (aQ (ae 1)) (fG 0) (fB (f2 aP (f2 av (ae 0) (fC (.int 1))) (ae 1))) (f2 av (ae 0) (fC (.int 0))))) ρ=some ((jw W m).map cE):=by
 rw[cx (h:=fun d=>cE (ofT W (iO d))) (yg m hm h5) (by rw[zD,zR];lia) fun d hd=>?_]
 ·rw[jw,zM,zM];rfl
 ·obtain⟨i,_,rfl⟩:=List.mem_map.mp hd
  simp only[zI,yU,h7,cn,SN W _ hw,zB,cE,iO]
def M4(c:Int):Dl.Env->Option D:=(aJ (aa (ai 3 au (aa (ae 2) (aa (f2 aW (f2 aW (ae 3) (fC (.int c))) (ae 0)) (aa (fC (.int 4)) af)))) (aa (ae 1) af)))
theorem P7{ns:List Int}{a:Int}(c:Int)(hl:ns.length<=63):∀ (mine:List (List Int)) (k:Nat),cG (ft 0 1) (fun _=>some true) (M4 c) [none,none,some (du ns),some (.int a)] (bG k (mine.map ag))=some ((j4 (fun k=>dr ns (a+c+((k:Nat):Int)) 4) k mine).map bc)
 | [],k=>rfl
 | r::mine,k=>by
  have hg:ft 0 1 [none,none,some (du ns),some (.int a)] (.tuple [.int ((k:Nat):Int),ag r])=some [some (.int ((k:Nat):Int)),some (ag r),some (du ns),some (.int a)]:=rfl
  have he:M4 c [some (.int ((k:Nat):Int)),some (ag r),some (du ns),some (.int a)]=some (bc (dr ns (a+c+((k:Nat):Int)) 4,r)):=by
   simp! [M4,A4 (ns:=ns) (a+c+((k:Nat):Int)) 4 hl (by decide),Dd,bc]
  have ih:=P7 (a:=a) c hl mine (k+1)
  rw[zI,bG,cG,hg]
  simp only[zA,xH,he,ih,zB,j4,zI]
theorem lM:∀ (ds:List D) (k:Nat),(bG k ds).length=ds.length
 | [],k=>rfl
 | d::ds,k=>by rw[bG,zL,zL,lM ds]
theorem Bt{a c:Int}{i9:Nat}(hl:ns.length<=63)(hm:mine.length<=1000)(h9:ae i9 ρ=some (.list (mine.map ag)))(h0:(ρ[0]?).getD none=some (du ns))(h1:(ρ[1]?).getD none=some (.int a)) :
  bA bw (aa (cn (ao 2 [0,1] (bH (aa (ae i9) af)) (ft 0 1) (fun _=>some true) (M4 c))) af) ρ=some (.tuple ((j4 (fun k=>dr ns (a+c+((k:Nat):Int)) 4) 0 mine).map bc)):=by
 have hi:bH (aa (ae i9) af) ρ=some (bG 0 (mine.map ag)):=by
  simp only[bH,aa,af,h9,zA,zB,cK,oneOf,fE]
 have hc:ao 2 [0,1] (bH (aa (ae i9) af)) (ft 0 1) (fun _=>some true) (M4 c) ρ=some ((j4 (fun k=>dr ns (a+c+((k:Nat):Int)) 4) 0 mine).map bc):=by
  simp only[ao,hi,zA,ej,zI,yU,h0,h1,List.replicate,xF,xO,P7 c hl]
  exact bj (by rw[zD,il];lia)
 simp only[bA,aa,af,cn,hc,zB,zA,bw,cK,oneOf,fE]
theorem aq{ρ ρ':ak}(h:g1 ρ=some (.nx ρ')):ax g1 g2 ρ=g2 ρ':=by
 simp only[ax,h,zA]
theorem aR{g:ak->Option Out}{args:List D}{d:D}(h:g (args.map Slot.val++List.replicate (n - args.length) .non)=some (.rt d)):bF g n args=some d:=by
 simp only[bF,h,zB]
theorem iu{g:D->D->Option D}{a b:D}(ha:fa ρ=some a)(hb:fb ρ=some b):f2 g fa fb ρ=g a b:=by
 simp only[f2,ha,hb,zA]
theorem OD{m s:Nat}(m1:m<=3)(s1:s<=3):f2 gy (ae 5) (ae 6) (bP (st ns a mo m s .non (.own []) .non .non .non .non))=some (.int ((m * s:Nat):Int)):=by
 have h:Dl.gy (.int (m:Int)) (.int (s:Int))=some (.int ((m:Int) * (s:Int))):=eQ (mz (by lia))
 rw[iu (a:=.int (m:Int)) (b:=.int (s:Int)) rfl rfl,h,Int.natCast_mul]
theorem Og{m s:Nat}(m1:m<=3)(s1:s<=3)(hms:m * s<=9){t8:Slot}(e: dX (kh 8) lB ((List.range' 0 (m * s)).map fun i=>PyData.int ((i:Nat):Int)) (st ns a mo m s .non (.own (([]:List Wy).map ar)) .non .non .non .non)=some (.nx (st ns a mo m s .non (.own (W.map ar)) t8 .non .non .non))):cX [5,6] (aZ (aa (f2 gy (ae 5) (ae 6)) af)) (kh 8) lB (st ns a mo m s .non (.own []) .non .non .non .non)=some (.nx (st ns a mo m s .non (.own (W.map ar)) t8 .non .non .non)):=by
 have hh:hand [5,6] 0 (st ns a mo m s .non (.own []) .non .non .non .non)=st ns a mo m s .non (.own []) .non .non .non .non:=rfl
 have hr:=yg (fi:=f2 gy (ae 5) (ae 6)) (ρ:=bP (st ns a mo m s .non (.own []) .non .non .non .non)) (m * s) (by lia) (OD m1 s1)
 rw[List.range_eq_range'] at hr
 rw[yU] at e
 simp only[cX,hh,hr,zA]
 exact e
structure RL(mo:Int)(G T:List Pl)(W:List Wy):Prop where
 g3:G.length<=3
 t3:T.length<=3
 w2:∀w∈W,w.2.2<=2
 ga:∀p∈G,p.1<=3
 ta:∀p∈T,p.1<=3
 wm:(W.length:Int)<=mo
theorem vh(hl:ns.length<=63)(hmo:3 < mo)(c:dr ns (a+64) 4=0):∃G T W,bX [du ns,.int a,.int mo]=some (aB G T W)/\Wd G T W/\RL mo G T W:=by
 have e64:=A4 (ns:=ns) (a+64) 4 hl (by decide)
 have e65:=eZ (ns:=ns) (a+65) 2 hl (by decide)
 refine⟨_,_,_,?_,FY (c:=1+dr ns (a+65) 2) (by lia) (by lia),⟨by simp,by simp,by decide,fun p hp=>?_,fun p hp=>?_,by simp;lia⟩⟩
 rotate_left
 ·simp only[zQ,yF,xU] at hp;rcases hp with rfl|rfl<;>(simp only;lia)
 ·simp only[zQ,yF,xU] at hp;rcases hp with rfl|rfl<;>(simp only;lia)
 have s1:Dl.aF 3 [0,1] (f2 aW (fC (.int 1)) (ai 3 au (aa (ae 0) (aa (f2 aW (ae 1) (fC (.int 65))) (aa (fC (.int 2)) af))))) [.val (du ns),.val (.int a),.val (.int mo),.non,.non,.non,.non,.non,.non,.non,.non,.non]=some (.nx [.val (du ns),.val (.int a),.val (.int mo),.val (.int (1+dr ns (a+65) 2)),.non,.non,.non,.non,.non,.non,.non,.non]) :=
  dG (d:=.int (1+dr ns (a+65) 2)) (by simp! [e65.1]) rfl
 generalize 1+dr ns (a+65) 2=x at *
 have s2:Dl.aF 4 [3] (aJ (aa (aJ (aa (ae 3) (aa (aJ (aa (fC (.int 1)) (aa (fC (.int 0)) af))) af))) (aa (aJ (aa (ae 3) (aa (aJ (aa (fC (.int 0)) (aa (fC (.int 1)) af))) af))) af))) [.val (du ns),.val (.int a),.val (.int mo),.val (.int x),.non,.non,.non,.non,.non,.non,.non,.non]=some (.nx [.val (du ns),.val (.int a),.val (.int mo),.val (.int x),.val (.tuple [bc (x,[1,0]),bc (x,[0,1])]),.non,.non,.non,.non,.non,.non,.non]) :=
  cw (d:=.tuple [bc (x,[1,0]),bc (x,[0,1])]) (by simp! [Dd];rfl) rfl rfl rfl
 simp! [bX,dY,fP,e64,c,bE,jQ,gD,show decide ((3:Int) < mo)=true from yA hmo,s1,s2,Dd,BL,show ∀a b c d:D,small [a,b,c,d]=some [a,b,c,d] from fun _ _ _ _=>rfl]
 rfl
theorem wo(hl:ns.length<=63)(hm0:0<=mo)(c:¬ (3 < mo/\dr ns (a+64) 4=0)):∃G T W,bX [du ns,.int a,.int mo]=some (aB G T W)/\Wd G T W/\RL mo G T W:=by
 have e64:=A4 (ns:=ns) (a+64) 4 hl (by decide)
 have em:=eZ (ns:=ns) a 3 hl (by decide)
 have es:=eZ (ns:=ns) (a+1) 3 hl (by decide)
 obtain⟨m,hm⟩:=vO (show 0<=1+dr ns a 3 by lia)
 obtain⟨s,hs⟩:=vO (show 0<=1+dr ns (a+1) 3 by lia)
 have m1:1<=m/\m<=3:=by lia
 have s1:1<=s/\s<=3:=by lia
 have hs':(s:Int)=1\/(s:Int)=2\/(s:Int)=3:=by lia
 have hm':(m:Int)=1\/(m:Int)=2\/(m:Int)=3:=by lia
 have t5:Dl.aF 5 [0,1] (f2 aW (fC (.int 1)) (ai 3 au (aa (ae 0) (aa (ae 1) (aa (fC (.int 3)) af))))) [.val (du ns),.val (.int a),.val (.int mo),.non,.non,.non,.non,.non,.non,.non,.non,.non]=some (.nx [.val (du ns),.val (.int a),.val (.int mo),.non,.non,.val (.int (m:Nat)),.non,.non,.non,.non,.non,.non]) :=
  dG (d:=.int (m:Nat)) (by simp! [em.1,hm]) rfl
 have t6:Dl.aF 6 [0,1] (f2 aW (fC (.int 1)) (ai 3 au (aa (ae 0) (aa (f2 aW (ae 1) (fC (.int 1))) (aa (fC (.int 3)) af))))) [.val (du ns),.val (.int a),.val (.int mo),.non,.non,.val (.int (m:Nat)),.non,.non,.non,.non,.non,.non]=some (.nx (st ns a mo m s .non .non .non .non .non .non)) :=
  dG (d:=.int (s:Nat)) (by simp! [es.1,hs]) rfl
 have t7:aG 7 [] (cD af) (st ns a mo m s .non .non .non .non .non .non)=some (.nx (st ns a mo m s .non (.own []) .non .non .non .non)):=by
  simp only[aG,mR,cD,af,zA,iw,zB,yW,yV]
 have hms:m * s<=9:=wG m1.2 s1.2
 have hms1:1<=m * s:=wG m1.1 s1.1
 obtain⟨W,t8,e,h8,I⟩:=IC (ns:=ns) (a:=a) (m:=m) (s:=s) hl hs' (m * s) 0 (W:=[]) (x8:=.non) (by lia) (mo:=mo) ⟨fun w hw=>(by cases hw),List.Pairwise.nil,by decide,hm0⟩
 rw[jD] at I
 obtain⟨d8,rfl⟩:∃d,t8=.val d:=h8.elim (fun z=>by lia) id
 have hlen9:W.length<=9:=by have:=I.len;lia
 have tf:=Og m1.2 s1.2 hms e
 unfold lB at tf
 have hwl:W.length<=20:=by lia
 have wr:∀w∈W,(0<=w.1/\w.1 < m)/\(0<=w.2.1/\w.2.1 < s)/\1<=w.2.2/\w.2.2<=9:=fun w hw=>by
  obtain⟨j,j0,jk,ea,b,c1,c2⟩:=I.mem w hw
  have:=NX hs' hm' j0 (by rw[<- Int.natCast_mul];exact jk)
  rw[ea,b]
  exact⟨this.1,this.2,c1,by lia⟩
 have lenG:∀r∈lY W m,r.length<=1000:=fun r hr=>by
  obtain⟨i,_,rfl⟩:=List.mem_map.mp hr
  rw[D5,zD]
  exact yD (xP _ _) (by lia)
 have lenT:∀r∈jw W s,r.length<=1000:=fun r hr=>by
  obtain⟨i,_,rfl⟩:=List.mem_map.mp hr
  rw[ofT,zD]
  exact yD (xP _ _) (by lia)
 obtain⟨mine,om,pm⟩:=Ac (ns:=ns) (a:=a+24) (rows:=lY W m) hl lenG (by rw[lY,zD,zR];lia)
 obtain⟨yours,oy,py⟩:=Ac (ns:=ns) (a:=a+40) (rows:=jw W s) hl lenT (by rw[jw,zD,zR];lia)
 have lm:mine.length<=1000:=by rw[eD pm,lY,zD,zR];lia
 have ly:yours.length<=1000:=by rw[eD py,jw,zD,zR];lia
 have t9:Dl.aF 9 [0,1,5,7] (ai 3 bM (aa (ae 0) (aa (f2 aW (ae 1) (fC (.int 24))) (aa (cn (ao 1 [7] (aZ (aa (ae 5) af)) (fG 0) (fun _=>some true) (cn (ao 1 [0] (aQ (ae 1)) (fG 0) (fB (f2 aP (f2 av (ae 0) (fC (.int 0))) (ae 1))) (f2 av (ae 0) (fC (.int 1))))))) af)))) (st ns a mo m s .non (.own (W.map ar)) (.val d8) .non .non .non)=some (.nx (st ns a mo m s .non (.val (.list (W.map ar))) (.val d8) (.val (.list (mine.map ag))) .non .non)):=by
  refine (cw (ρ':=st ns a mo m s .non (.val (.list (W.map ar))) (.val d8) .non .non .non) (d:=.list (mine.map ag)) ?_ rfl rfl ?_).trans rfl
  ·have q:=KQ (ρ:=aI (st ns a mo m s .non (.own (W.map ar)) (.val d8) .non .non .non)) (i5:=5) (i7:=7) hwl (show m<=1000 by lia) rfl rfl
   simp only[ai,aa,af,cn,q,zB,zA]
   simp! [om]
  ·simp only[st,bP,aI,zI,yU];rfl
 have t10:Dl.aF 10 [0,1,6,7] (ai 3 bM (aa (ae 0) (aa (f2 aW (ae 1) (fC (.int 40))) (aa (cn (ao 1 [7] (aZ (aa (ae 6) af)) (fG 0) (fun _=>some true) (cn (ao 1 [0] (aQ (ae 1)) (fG 0) (fB (f2 aP (f2 av (ae 0) (fC (.int 1))) (ae 1))) (f2 av (ae 0) (fC (.int 0))))))) af)))) (st ns a mo m s .non (.val (.list (W.map ar))) (.val d8) (.val (.list (mine.map ag))) .non .non)=some (.nx (st ns a mo m s .non (.val (.list (W.map ar))) (.val d8) (.val (.list (mine.map ag))) (.val (.list (yours.map ag))) .non)):=by
  refine (cw (ρ':=st ns a mo m s .non (.val (.list (W.map ar))) (.val d8) (.val (.list (mine.map ag))) .non .non) (d:=.list (yours.map ag)) ?_ rfl ?_ ?_).trans rfl
  ·have q:=LN (ρ:=aI (st ns a mo m s .non (.val (.list (W.map ar))) (.val d8) (.val (.list (mine.map ag))) .non .non)) (i5:=6) (i7:=7) hwl (show s<=1000 by lia) rfl rfl
   simp only[ai,aa,af,cn,q,zB,zA]
   simp! [oy]
  ·rfl
  ·simp only[st,bP,aI,zI,yU];rfl
 have t11:Dl.aF 11 [0,1,8,9] (bA bw (aa (cn (ao 2 [0,1] (bH (aa (ae 9) af)) (ft 0 1) (fun _=>some true) (M4 56))) af)) (st ns a mo m s .non (.val (.list (W.map ar))) (.val d8) (.val (.list (mine.map ag))) (.val (.list (yours.map ag))) .non)=some (.nx (st ns a mo m s .non (.val (.list (W.map ar))) (.val d8) (.val (.list (mine.map ag))) (.val (.list (yours.map ag))) (.val (.tuple ((j4 (fun k=>dr ns (a+56+((k:Nat):Int)) 4) 0 mine).map bc))))):=by
  refine (cw (ρ':=st ns a mo m s .non (.val (.list (W.map ar))) (.val d8) (.val (.list (mine.map ag))) (.val (.list (yours.map ag))) .non) (Bt hl lm rfl rfl rfl) rfl rfl ?_).trans rfl
  simp only[st,bP,aI,zI,yU];rfl
 have t4:∀G:D,Dl.aF 4 [0,1,8,10] (bA bw (aa (cn (ao 2 [0,1] (bH (aa (ae 10) af)) (ft 0 1) (fun _=>some true) (M4 60))) af)) (st ns a mo m s .non (.val (.list (W.map ar))) (.val d8) (.val (.list (mine.map ag))) (.val (.list (yours.map ag))) (.val G))=some (.nx (st ns a mo m s (.val (.tuple ((j4 (fun k=>dr ns (a+60+((k:Nat):Int)) 4) 0 yours).map bc))) (.val (.list (W.map ar))) (.val d8) (.val (.list (mine.map ag))) (.val (.list (yours.map ag))) (.val G))):=fun G=>by
  refine (cw (ρ':=st ns a mo m s .non (.val (.list (W.map ar))) (.val d8) (.val (.list (mine.map ag))) (.val (.list (yours.map ag))) (.val G)) (Bt hl ly rfl rfl rfl) rfl rfl ?_).trans rfl
  simp only[st,bP,aI,zI,yU];rfl
 refine⟨_,_,W,?_,Kx (f:=fun k=>dr ns (a+56+((k:Nat):Int)) 4) (g:=fun k=>dr ns (a+60+((k:Nat):Int)) 4) m1.1 (by lia) s1.1 (by lia) (fun k=>?_) (fun k=>?_) pm py wr I.ris (by lia),⟨by rw[il,eD pm,lY,zD,zR];lia,by rw[il,eD py,jw,zD,zR];lia,fun w hw=>(by obtain⟨j,_,_,_,_,_,z⟩:=I.mem w hw;exact z),fun p hp=>?_,fun p hp=>?_,I.lem⟩⟩
 ·unfold M4 at t11 t4
  have tA:∀g,ij (dv (fB (f2 vd (ae 2) (fC (.int 3)))) (fB (f2 aP (ai 3 au (aa (ae 0) (aa (f2 aW (ae 1) (fC (.int 64))) (aa (fC (.int 4)) af)))) (fC (.int 0))))) g gH [.val (du ns),.val (.int a),.val (.int mo),.non,.non,.non,.non,.non,.non,.non,.non,.non]=some (.nx [.val (du ns),.val (.int a),.val (.int mo),.non,.non,.non,.non,.non,.non,.non,.non,.non]):=fun g=>by
   by_cases c1:3 < mo
   ·have c2:¬ dr ns (a+64) 4=0:=fun z=>c ⟨c1,z⟩
    simp! [fP,e64,c1,c2,bE,Zc,jQ,gD,yO]
   ·simp! [fP,c1,Zc,gD,yO]
  refine aR ?_
  show dY [.val (du ns),.val (.int a),.val (.int mo),.non,.non,.non,.non,.non,.non,.non,.non,.non]=_
  unfold dY
  rw[aq (tA _),aq t5,aq t6,aq t7,aq tf,aq t9,aq t10,aq t11,aq (t4 _)]
  simp! [BL,aB]
 ·have q:=eZ (ns:=ns) (a+56+((k:Nat):Int)) 4 hl (by decide)
  exact⟨q.2.1,by lia⟩
 ·have q:=eZ (ns:=ns) (a+60+((k:Nat):Int)) 4 hl (by decide)
  exact⟨q.2.1,by lia⟩
 ·obtain⟨i,hi⟩:=List.getElem?_of_mem hp
  obtain⟨r,_,rfl⟩:=iB _ hi
  have q:=eZ (ns:=ns) (a+56+((0+i:Nat):Int)) 4 hl (by decide)
  simp only;lia
 ·obtain⟨i,hi⟩:=List.getElem?_of_mem hp
  obtain⟨r,_,rfl⟩:=iB _ hi
  have q:=eZ (ns:=ns) (a+60+((0+i:Nat):Int)) 4 hl (by decide)
  simp only;lia
theorem AA(hl:ns.length<=63)(hm0:0<=mo):∃G T W,bX [du ns,.int a,.int mo]=some (aB G T W)/\Wd G T W/\RL mo G T W:=by
 by_cases c:3 < mo/\dr ns (a+64) 4=0
 ·exact vh hl c.1 c.2
 ·exact wo hl hm0 c
section
variable {G T:List Pl}{W:List Wy}
theorem MI(h:uh W):(W.map fun w=>[w.1,w.2.1]).Pairwise fun a b=>Dl.lexLt a b=true:=List.pairwise_map.mpr (h.imp fun hab=>R3 hab)
theorem J8(h:uh W):(W.map fun w=>[w.1,w.2.1]).Nodup:=(MI h).imp fun {a b} hab e=>by
 rw[e,gq] at hab
 cases hab
theorem HK(h:uh W){m:List (List Int)}(hn:m.Nodup)(hm:∀r,r∈W.map (fun w=>[w.1,w.2.1])↔r∈m):W.map (fun w=>[w.1,w.2.1])=sS m :=
 IS ((List.perm_ext_iff_of_nodup (J8 h) hn).mpr hm) ((MI h).imp fun hab=>Qa hab)
theorem Wd.wok(h:Wd G T W):P6 (aB G T W)=true:=by
 have hP:(W.map ar).map fy=W.map fun w=>[w.1,w.2.1]:=by rw[zM];rfl
 have hpg:∀i j:Int,[i,j]∈W.map (fun w=>[w.1,w.2.1])↔[i,j]∈mJ 0 (G.map bc):=fun i j=>by
  rw[p9]
  constructor
  ·intro hm
   obtain⟨w,hw,e⟩:=List.mem_map.mp hm
   simp only[kZ,and_true] at e
   have hr:=(h.wr w hw).1
   obtain⟨p,hp⟩:∃p,G[i.toNat]?=some p:=⟨G[i.toNat]'(by lia),zK (by lia)⟩
   refine⟨i.toNat,bc p,by rw[zO,hp];rfl,by lia,?_⟩
   rw[fT,(h.gl _ p hp).mem_iff,xn,show ((i.toNat:Nat):Int)=i by lia]
   exact hm
  ·rintro⟨m,p,hp,rfl,hj⟩
   rw[zO] at hp
   obtain⟨p',hp',rfl⟩:=Option.map_eq_some_iff.mp hp
   rw[fT,(h.gl m p' hp').mem_iff,xn] at hj
   rwa [jD]
 have hpt:∀i j:Int,[i,j]∈W.map (fun w=>[w.1,w.2.1])↔[j,i]∈mJ 0 (T.map bc):=fun i j=>by
  rw[p9]
  constructor
  ·intro hm
   obtain⟨w,hw,e⟩:=List.mem_map.mp hm
   simp only[kZ,and_true] at e
   have hr:=(h.wr w hw).2.1
   obtain⟨p,hp⟩:∃p,T[j.toNat]?=some p:=⟨T[j.toNat]'(by lia),zK (by lia)⟩
   refine⟨j.toNat,bc p,by rw[zO,hp];rfl,by lia,?_⟩
   rw[fT,(h.tl _ p hp).mem_iff,yt,show ((j.toNat:Nat):Int)=j by lia]
   exact hm
  ·rintro⟨m,p,hp,rfl,hj⟩
   rw[zO] at hp
   obtain⟨p',hp',rfl⟩:=Option.map_eq_some_iff.mp hp
   rw[fT,(h.tl m p' hp').mem_iff,yt] at hj
   rwa [jD]
 have two:∀ {r:List Int},r∈W.map (fun w=>[w.1,w.2.1])->∃i j,r=[i,j]:=fun hr=>by
  obtain⟨w,_,rfl⟩:=List.mem_map.mp hr
  exact⟨_,_,rfl⟩
 have ng:∀ (L:List Pl),(∀p∈L,p.2.Nodup)->(mJ 0 (L.map bc)).Nodup:=fun L hL=>ui fun p hp=>by
  obtain⟨p',hp',rfl⟩:=List.mem_map.mp hp
  rw[fT]
  exact hL p' hp'
 have e1:W.map (fun w=>[w.1,w.2.1])=sS (mJ 0 (G.map bc)):=HK h.wp (ng G fun p hp=>by
   obtain⟨i,hi,e⟩:=qQ hp
   exact (h.gl i p (by rw[zK hi,e])).nodup_iff.mpr (n9 h.wp i)) fun r=>⟨fun hr=>by
   obtain⟨i,j,rfl⟩:=two hr
   exact (hpg i j).mp hr,fun hr=>by
   obtain⟨i,j,rfl⟩:=lx r hr
   exact (hpg i j).mpr hr⟩
 have e2:W.map (fun w=>[w.1,w.2.1])=sS ((mJ 0 (T.map bc)).map List.reverse):=HK h.wp (by
   exact List.pairwise_map.mpr (List.Pairwise.imp (fun {a b} hne e=>hne (List.reverse_inj.mp e)) (ng T fun p hp=>by
    obtain⟨i,hi,e⟩:=qQ hp
    exact (h.tl i p (by rw[zK hi,e])).nodup_iff.mpr (oH h.wp i)))) fun r=>⟨fun hr=>by
   obtain⟨i,j,rfl⟩:=two hr
   exact List.mem_map.mpr ⟨[j,i],(hpt i j).mp hr,rfl⟩,fun hr=>by
   obtain⟨r',hr',rfl⟩:=List.mem_map.mp hr
   obtain⟨i,j,rfl⟩:=lx r' hr'
   exact (hpt j i).mpr hr'⟩
 have hw:(W.map ar).all (j1 G.length T.length)=true:=by
  rw[xG]
  intro x hx
  obtain⟨w,hw,rfl⟩:=List.mem_map.mp hx
  exact FI (h.wr w hw)
 have hs:∀ {L:List Pl},1<=L.length->L.length<=4->oJ (.tuple (L.map bc))=true:=fun {L} a b=>by
  simp only[oJ,long,zD,zF,zJ];lia
 have h3:long 3 3 (aB G T W)=true:=rfl
 have hg:=h.gok
 have ht:=h.tok
 unfold P6 BN
 rw[h3,jL]
 simp only[aB,cW,wM,wN,hP,<- e1,<- e2,jQ,Bool.and_true,eJ,hs h.g1 h.g4,hs h.t1 h.t4,zD,hg,ht,hw,Ml]
end
def sI(b:Bool):Int:=if b then 1 else 0
def aS(b:Bool)(w:Wy):Int:=if b then w.2.1 else w.1
def cy(b:Bool)(w:Wy):Int:=aS (!b) w
def aX(b:Bool)(G T:List Pl):List Pl:=if b then T else G
theorem gP(b:Bool)(G T:List Pl)(W:List Wy):av (aB G T W) (.int (sI b))=some (.tuple ((aX b G T).map bc)):=by cases b<;>rfl
theorem jh(G T:List Pl)(W:List Wy):av (aB G T W) (.int 2)=some (.tuple (W.map ar)):=rfl
theorem i8(b:Bool)(w:Wy):av (ar w) (.int (sI b))=some (.int (aS b w)):=by cases b<;>rfl
theorem EX(b:Bool)(w:Wy):av (ar w) (.int (1 - sI b))=some (.int (cy b w)):=by cases b<;>rfl
theorem we(w:Wy):av (ar w) (.int 2)=some (.int w.2.2):=rfl
theorem Dr(p:Pl):av (bc p) (.int 0)=some (.int p.1):=rfl
theorem EV(p:Pl):av (bc p) (.int 1)=some (ag p.2):=rfl
theorem sJ{d:D}(h:ds[i]?=some d):av (.tuple ds) (.int ((i:Nat):Int))=some d:=by
 show zh ds (i:Nat)=_
 exact zf h
theorem Os{d:D}(h:ds[i]?=some d):av (.list ds) (.int ((i:Nat):Int))=some d:=by
 show zh ds (i:Nat)=_
 exact zf h
theorem oF{α:Type}{f:α->D}{l:List α}{x:α}(h:l[i]?=some x):av (.tuple (l.map f)) (.int ((i:Nat):Int))=some (f x):=sJ (by rw[zO,h];rfl)
theorem Ee{α:Type}{f:α->D}{l:List α}{x:α}(h:l[i]?=some x):av (.list (l.map f)) (.int ((i:Nat):Int))=some (f x):=Os (by rw[zO,h];rfl)
def PF(b:Bool)(W:List Wy)(p:Int):List Int:=(W.filter fun w=>decide (aS b w=p)).map (cy b)
theorem Wd.lik(h:Wd G T W)(e:(aX b G T)[i]?=some p):p.2.Perm (PF b W i):=by
 cases b
 ·exact h.gl i p e
 ·exact h.tl i p e
theorem Wd.nod(h:Wd G T W)(b:Bool)(i:Int):(PF b W i).Nodup:=by
 cases b
 ·exact n9 h.wp i
 ·exact oH h.wp i
theorem rW{tt:Dl.Env->Option Bool}{te:Dl.Env->Option D}{r:List (Option D)}{p:Nat->D->Bool}{h:Nat->D->D}:∀ {ds:List D}{k:Nat},
  (∀i d,ds[i]?=some d->tt (some (.int ((k+i:Nat):Int))::some d::r)=some (p (k+i) d)/\(p (k+i) d=true->te (some (.int ((k+i:Nat):Int))::some d::r)=some (h (k+i) d))) ->
  cG (ft 0 1) tt te (none::none::r) (bG k ds)=some (((ds.zipIdx k).filter fun q=>p q.2 q.1).map fun q=>h q.2 q.1)
 | [],k,_=>rfl
 | d::ds,k,hh=>by
  obtain⟨h1,h2⟩:=hh 0 d rfl
  have ih:=rW (ds:=ds) (k:=k+1) fun i x hx=>by
   have:=hh (i+1) x (by simpa using hx)
   rw[show k+1+i=k+(i+1) by lia]
   exact this
  have hg:ft 0 1 (none::none::r) (.tuple [.int ((k:Nat):Int),d])=some (some (.int ((k:Nat):Int))::some d::r):=by
   simp only[ft,isFree,xQ,yY,qG,wX,jP,xH,yV,yW]
  rw[bG,cG,hg,List.zipIdx_cons]
  simp only[Nat.add_zero] at h1 h2
  simp only[zA,h1]
  cases hp:p k d with
  | true=>simp[h2 hp,ih,hp]
  | false=>simp[ih,hp]
theorem FX{p:Nat->D->Bool}{h:Nat->D->D}(hfi:fi ρ=some (bG 0 ds))(hl:ds.length<=1000)
  (hh:∀i d,ds[i]?=some d->tt (some (.int ((i:Nat):Int))::some d::cs.map fun j=>(ρ[j]?).getD none)=some (p i d)/\(p i d=true->te (some (.int ((i:Nat):Int))::some d::cs.map fun j=>(ρ[j]?).getD none)=some (h i d))) :
  ao 2 cs fi (ft 0 1) tt te ρ=some ((ds.zipIdx.filter fun q=>p q.2 q.1).map fun q=>h q.2 q.1):=by
 have:=rW (tt:=tt) (te:=te) (r:=cs.map fun j=>(ρ[j]?).getD none) (p:=p) (h:=h) (ds:=ds) (k:=0) (by simpa using hh)
 simp only[ao,hfi,zA,ej,List.replicate,xF,xO,this]
 refine bj ?_
 rw[zD]
 refine yD (xP _ _) ?_
 rw[List.length_zipIdx]
 lia
theorem gT{α:Type}(f:α->Int):∀ {l m:List α},l.Perm m->(l.Pairwise fun a b=>f a<=f b)->(m.Pairwise fun a b=>f a < f b)->l=m
 | l,[],hp,_,_=>hp.eq_nil
 | [],x::m,hp,_,_=>absurd hp.symm.eq_nil (by simp)
 | y::l,x::m,hp,h1,h2=>by
  rw[List.pairwise_cons] at h1 h2
  have e:y=x:=by
   have hx:x∈y::l:=hp.mem_iff.mpr zE
   rcases List.mem_cons.mp hx with z|hx
   ·exact z.symm
   ·have hy:y∈x::m:=hp.mem_iff.mp zE
    rcases List.mem_cons.mp hy with z|hy
    ·exact z
    ·have:=h1.1 x hx
     have:=h2.1 y hy
     lia
  subst e
  rw[gT f ((List.perm_cons y).mp hp) h1.2 h2.2]
theorem rY{α:Type}(z:Nat->Int)(l:List α)(d:α)(f:α->Int)(h:∀i,i < l.length->z i=f (l.getD i d)):(pO z l d).Pairwise fun a b=>f a<=f b:=by
 unfold pO
 split
 ·rename_i hl
  match l,hl with
  | [],_=>exact List.Pairwise.nil
  | [a],_=>exact vN _ _
 ·rename_i hl
  obtain⟨hp,hs⟩:=SP.gG (z:=z) (n:=l.length) (by lia)
  rw[jE] at hs ⊢
  refine hs.imp_of_mem fun {i j} hi hj hij=>?_
  have hi':i < l.length:=by have:=hp.mem_iff.mp hi;simpa using this
  have hj':j < l.length:=by have:=hp.mem_iff.mp hj;simpa using this
  rw[<- h i hi',<- h j hj']
  exact hij
def az(W:List Wy)(i:Nat):Wy:=W.getD i (0,0,0)
theorem iW(hk:k < W.length):W[k]=az W k:=by simp[az,hk]
theorem nR(hk:k < W.length):W[k]?=some (az W k):=by rw[zK hk,iW hk]
def own(b:Bool)(W:List Wy)(p:Int):List Nat:=(List.range W.length).filter fun i=>decide (aS b (az W i)=p)
def lV(b:Bool)(W:List Wy)(p o:Int):Nat:=W.findIdx fun w=>decide (aS b w=p)&&decide (cy b w=o)
def jy(b:Bool)(W:List Wy)(p:Int)(L:List Int):List Nat:=L.map (lV b W p)
theorem cu{p:Int}:i∈own b W p↔i < W.length/\aS b (az W i)=p:=by simp[own]
theorem map_range{α β:Type}(d:α)(f:α->β)(l:List α):(List.range l.length).map (fun i=>f (l.getD i d))=l.map f:=by
 apply jH
 ·simp
 ·intro i h1 h2
  have:i < l.length:=by simpa using h2
  simp[this]
theorem yf{α:Type}(d:α)(q:α->Bool):∀ (l:List α),((List.range l.length).filter fun i=>q (l.getD i d)).map (fun i=>l.getD i d)=l.filter q:=by
 intro l
 have e:l=(List.range l.length).map fun i=>l.getD i d:=by
  have:=map_range d (fun x=>x) l
  simp at this
  simpa using this.symm
 conv=>rhs;rw[e]
 rw[kH]
 rfl
theorem lI(b:Bool)(W:List Wy)(p:Int):(own b W p).map (fun i=>cy b (az W i))=PF b W p:=by
 unfold own PF az
 rw[<- yf (0,0,0) (fun w=>decide (aS b w=p)) W,zM]
 rfl
theorem vm(h:uh W)(hi:i < W.length)(hj:j < W.length)(h1:(az W i).1=(az W j).1)(h2:(az W i).2.1=(az W j).2.1):i=j:=by
 have e:∀k,k < W.length->W[k]?=some (az W k):=fun k hk=>by simp[az,hk]
 rcases Nat.lt_trichotomy i j with z|z|z
 ·have:=List.pairwise_iff_getElem.mp h i j hi hj z
  have a:=e i hi
  have b:=e j hj
  rw[zK hi] at a
  rw[zK hj] at b
  rw[xD a,xD b] at this
  rcases this with z|z<;>lia
 ·exact z
 ·have:=List.pairwise_iff_getElem.mp h j i hj hi z
  have a:=e i hi
  have b:=e j hj
  rw[zK hi] at a
  rw[zK hj] at b
  rw[xD a,xD b] at this
  rcases this with z|z<;>lia
theorem sE(h:uh W)(hi:i < W.length)(hj:j < W.length)(h1:aS b (az W i)=aS b (az W j))(h2:cy b (az W i)=cy b (az W j)):i=j:=by
 cases b
 ·exact vm h hi hj h1 h2
 ·exact vm h hi hj h2 h1
theorem Da(h:uh W){p:Int}(hi:i∈own b W p):lV b W p (cy b (az W i))=i:=by
 obtain⟨hl,he⟩:=cu.mp hi
 have hw:W[i]=az W i:=by simp[az,hl]
 unfold lV
 have hlt:W.findIdx (fun w=>decide (aS b w=p)&&decide (cy b w=cy b (az W i))) < W.length:=by
  apply kO
  exact⟨W[i],qA _,by rw[hw];simp[he]⟩
 have hq:=wL (w:=hlt)
 rw[zF,zJ,zJ] at hq
 rw[iW hlt] at hq
 exact sE h hlt hl (by rw[hq.1,he]) hq.2
theorem dP(h:Wd G T W)(e:(aX b G T)[i]?=some p):(jy b W i p.2).Perm (own b W i):=by
 have h1:=(h.lik e).map (lV b W i)
 rw[<- lI b W i,zM] at h1
 have e2:(own b W i).map (lV b W i ∘ fun j=>cy b (az W j))=own b W i:=by
  conv=>rhs;rw[<- List.map_id (own b W i)]
  exact yH fun j hj=>Da h.wp hj
 rw[e2] at h1
 exact h1
theorem gJ(h:Wd G T W)(e:(aX b G T)[i]?=some p)(ho:o∈p.2):lV b W i o < W.length/\aS b (az W (lV b W i o))=i/\cy b (az W (lV b W i o))=o:=by
 have hm:=(h.lik e).mem_iff.mp ho
 rw[<- lI b W i] at hm
 obtain⟨j,hj,rfl⟩:=List.mem_map.mp hm
 rw[Da h.wp hj]
 obtain⟨h1,h2⟩:=cu.mp hj
 exact⟨h1,h2,rfl⟩
def kD(b:Bool)(W:List Wy)(L:List Int)(d:D):Int:=(L.findIdx fun o=>decide (o=cy b (az W (iO d).toNat)):Nat)
theorem n8:∀ {L:List Int}{x:Int},x∈L->AL x L=some (L.findIdx fun o=>decide (o=x))
 | [],x,h=>by cases h
 | o::L,x,h=>by
  unfold AL
  by_cases e:o=x
  ·simp[e,List.findIdx_cons]
  ·rw[yN e]
   have hx:x∈L:=(List.mem_cons.mp h).resolve_left fun z=>e z.symm
   rw[n8 hx]
   simp[List.findIdx_cons,e]
theorem Hs(h:Wd G T W)(e:(aX b G T)[i]?=some p)(z:Nat->Int)(hz:∀j,j < (own b W i).length->z j=kD b W p.2 (((own b W i).map fun n=>PyData.int ((n:Nat):Int)).getD j .none)) :
  pO z ((own b W i).map fun n=>PyData.int ((n:Nat):Int)) .none=(jy b W i p.2).map fun n=>PyData.int ((n:Nat):Int):=by
 refine gT (kD b W p.2) ((gc _ _ _).trans ((dP h e).symm.map _)) (rY z _ _ _ fun j hj=>hz j (by simpa using hj)) ?_
 have hn:p.2.Nodup:=(h.lik e).nodup_iff.mpr (h.nod b i)
 unfold jy
 rw[zM,jE]
 have key:∀k (hk:k < p.2.length),kD b W p.2 (PyData.int ((lV b W i p.2[k]:Nat):Int))=(k:Nat):=fun k hk=>by
  obtain⟨_,_,e3⟩:=gJ h e (qA hk)
  unfold kD
  simp only[iO,yG,e3]
  congr 1
  rw[List.findIdx_eq (by exact hk)]
  refine⟨by simp,fun j hj=>?_⟩
  have:=List.pairwise_iff_getElem.mp hn j k (by lia) hk hj
  simpa using this
 refine List.pairwise_iff_getElem.mpr fun j k hj hk hjk=>?_
 show kD b W p.2 (PyData.int ((lV b W i p.2[j]:Nat):Int)) < kD b W p.2 (PyData.int ((lV b W i p.2[k]:Nat):Int))
 rw[key j hj,key k hk]
 lia
abbrev nD(n:Nat):D:=.int ((n:Nat):Int)
theorem oI{te:Dl.Env->Option D}{ρ:Dl.Env}{h:D->D}:∀ {ds:List D},(∀d∈ds,te (ρ.set 0 (some d))=some (h d))->iC te ρ ds=some (ds.map h)
 | [],_=>rfl
 | d::ds,hh=>by
  unfold iC
  rw[hh d zE,zA,oI fun x hx=>hh x (zC _ hx)]
  rfl
theorem Du(b:Bool)(W:List Wy)(p:Int):(own b W p).length<=W.length:=by
 unfold own
 refine yD (xP _ _) ?_
 rw[zR]
 exact yM _
theorem Cb(b:Bool)(W:List Wy)(p:Int):(((W.map ar).zipIdx.filter fun q=>decide (aS b (az W q.2)=p)).map fun q=>nD q.2)=(own b W p).map nD:=by
 have e:(W.map ar).zipIdx=(List.range W.length).map fun i=>(ar (az W i),i):=by
  apply jH
  ·simp
  ·intro i h1 h2
   have:i < W.length:=by simpa using h2
   simp[iW this]
 rw[e,kH,zM]
 rfl
theorem F3(h:Wd G T W)(e:(aX b G T)[i]?=some p):lC [aB G T W,.int (sI b),nD i]=some (.list ((jy b W i p.2).map nD)):=by
 have hw:=h.wl
 have ep:av (.tuple ((aX b G T).map bc)) (nD i)=some (bc p):=oF e
 have hl:=Du b W i
 have t3:Dl.aF 3 [0] (f2 av (ae 0) (fC (.int 2))) [.val (aB G T W),.val (.int (sI b)),.val (nD i),.non,.non,.non]=some (.nx [.val (aB G T W),.val (.int (sI b)),.val (nD i),.val (.tuple (W.map ar)),.non,.non]) :=
  cw (d:=.tuple (W.map ar)) rfl rfl rfl rfl
 have t4:Dl.aF 4 [0,1,2] (f2 av (f2 av (f2 av (ae 0) (ae 1)) (ae 2)) (fC (.int 1))) [.val (aB G T W),.val (.int (sI b)),.val (nD i),.val (.tuple (W.map ar)),.non,.non]=some (.nx [.val (aB G T W),.val (.int (sI b)),.val (nD i),.val (.tuple (W.map ar)),.val (ag p.2),.non]):=by
  refine cw (d:=ag p.2) ?_ rfl rfl rfl
  rw[iu (a:=bc p) (b:=.int 1) ?_ rfl,EV]
  rw[iu (a:=.tuple ((aX b G T).map bc)) (b:=nD i) ?_ rfl,ep]
  rw[iu (a:=aB G T W) (b:=.int (sI b)) rfl rfl,gP]
 have c5:ao 2 [1,2] (bH (aa (ae 3) af)) (ft 0 1) (fB (f2 aP (f2 av (ae 1) (ae 2)) (ae 3))) (ae 0) [some (aB G T W),some (.int (sI b)),some (nD i),some (.tuple (W.map ar)),some (ag p.2),none]=some ((own b W i).map nD):=by
  rw[FX (ds:=W.map ar) (p:=fun j _=>decide (aS b (az W j)=i)) (h:=fun j _=>nD j) rfl (by rw[zD];lia) fun j d hd=>?_,Cb]
  rw[zO] at hd
  obtain⟨w,hw',rfl⟩:=Dl.ah hd
  have hj:j < W.length:=(List.getElem?_eq_some_iff.mp hw').1
  rw[nR hj] at hw'
  cases hw'
  refine⟨?_,fun _=>rfl⟩
  show fB (f2 aP (f2 av (ae 1) (ae 2)) (ae 3)) [some (nD j),some (ar (az W j)),some (.int (sI b)),some (nD i)]=_
  simp only[fB]
  rw[iu (a:=.int (aS b (az W j))) (b:=nD i) (by rw[iu (a:=ar (az W j)) (b:=.int (sI b)) rfl rfl,i8]) rfl,bE]
  rfl
 have t5:aG 5 [1,2,3] (ao 2 [1,2] (bH (aa (ae 3) af)) (ft 0 1) (fB (f2 aP (f2 av (ae 1) (ae 2)) (ae 3))) (ae 0)) [.val (aB G T W),.val (.int (sI b)),.val (nD i),.val (.tuple (W.map ar)),.val (ag p.2),.non]=some (.nx [.val (aB G T W),.val (.int (sI b)),.val (nD i),.val (.tuple (W.map ar)),.val (ag p.2),.own ((own b W i).map nD)]):=by
  have hh:hand [1,2,3] 0 [Slot.val (aB G T W),.val (.int (sI b)),.val (nD i),.val (.tuple (W.map ar)),.val (ag p.2),.non]=[Slot.val (aB G T W),.val (.int (sI b)),.val (nD i),.val (.tuple (W.map ar)),.val (ag p.2),.non]:=rfl
  simp only[aG,hh,bP,zI,yU,Slot.frz,c5,zB,yW,yV]
 have hk:iC (f2 mw (ae 3) (f2 av (f2 av (ae 2) (ae 0)) (f2 Dl.eX (fC (.int 1)) (ae 1)))) [none,some (.int (sI b)),some (.tuple (W.map ar)),some (ag p.2)] ((own b W i).map nD)=some (((own b W i).map nD).map fun d=>.int (kD b W p.2 d)):=by
  refine oI fun d hd=>?_
  obtain⟨j,hj,rfl⟩:=List.mem_map.mp hd
  obtain⟨hjl,hje⟩:=cu.mp hj
  show f2 mw (ae 3) (f2 av (f2 av (ae 2) (ae 0)) (f2 Dl.eX (fC (.int 1)) (ae 1))) [some (nD j),some (.int (sI b)),some (.tuple (W.map ar)),some (ag p.2)]=_
  have ew:av (.tuple (W.map ar)) (nD j)=some (ar (az W j)):=oF (nR hjl)
  rw[iu (a:=ag p.2) (b:=.int (cy b (az W j))) rfl ?_]
  ·have hm:cy b (az W j)∈p.2:=(h.lik e).mem_iff.mpr (by rw[<- lI];exact List.mem_map.mpr ⟨j,hj,rfl⟩)
   simp only[mw,ag,di,zA,n8 hm,zB,kD,iO,yG]
   all_goals first|rfl|(congr 3;funext o;congr)
  ·rw[iu (a:=ar (az W j)) (b:=.int (1 - sI b)) ?_ ?_,EX]
   ·rw[iu (a:=.tuple (W.map ar)) (b:=nD j) rfl rfl,ew]
   ·rw[iu (a:=.int 1) (b:=.int (sI b)) rfl rfl,qv]
 have hi:intsOf (((own b W i).map nD).map fun d=>PyData.int (kD b W p.2 d))=some (((own b W i).map nD).map (kD b W p.2)):=by
  rw[show (((own b W i).map nD).map fun d=>PyData.int (kD b W p.2 d))=(((own b W i).map nD).map (kD b W p.2)).map PyData.int by simp only[zM];rfl,di]
 have t6:aK (cn (oK [1,3,4] (ae 5) (f2 mw (ae 3) (f2 av (f2 av (ae 2) (ae 0)) (f2 Dl.eX (fC (.int 1)) (ae 1)))))) [.val (aB G T W),.val (.int (sI b)),.val (nD i),.val (.tuple (W.map ar)),.val (ag p.2),.own ((own b W i).map nD)]=some (.rt (.list ((jy b W i p.2).map nD))):=by
  have es:oK [1,3,4] (ae 5) (f2 mw (ae 3) (f2 av (f2 av (ae 2) (ae 0)) (f2 Dl.eX (fC (.int 1)) (ae 1)))) [some (aB G T W),some (.int (sI b)),some (nD i),some (.tuple (W.map ar)),some (ag p.2),some (.list ((own b W i).map nD))]=some ((jy b W i p.2).map nD):=by
   unfold oK
   show (iC _ [none,some (.int (sI b)),some (.tuple (W.map ar)),some (ag p.2)] ((own b W i).map nD)).bind _=_
   rw[hk,zA,hi,zA,yL (by rw[zD];lia),Hs h e _ fun j hj=>?_]
   simp[hj]
  simp only[aK,aI,zI,yU,y9,zc,cn,es,zB]
 refine aR ?_
 show lz [.val (aB G T W),.val (.int (sI b)),.val (nD i),.non,.non,.non]=_
 unfold lz
 rw[aq t3,aq t4,aq t5,t6]
local macro_rules|`(tactic| dsimp! [$ts,*])=>`(tactic| simp only[ae,fC,f1,f2,aa,af,ai,bA,kn,aQ,fE,cn,fB,gB,cm,dv,Cj,bH,aI,bP,y9,zc,Ei,Dt,EH,Ed,zI,yU,xQ,yY,zA,zB,qG,zL,xK,Nat.reduceAdd,jD,reduceIte,yW,yV,$ts,*])
theorem dW{S α:Type}{tgt:ak->D->Option ak}{gb:ak->Option Out}(R:S->ak->Prop)(f:α->D)(st:S->α->S):∀ {l:List α}{s:S}{ρ:ak},
  (∀s ρ x,x∈l->R s ρ->∃ρ1 ρ2,tgt ρ (f x)=some ρ1/\gb ρ1=some (.nx ρ2)/\R (st s x) ρ2)->R s ρ->∃ρ',dX tgt gb (l.map f) ρ=some (.nx ρ')/\R (l.foldl st s) ρ'
 | [],s,ρ,_,h=>⟨ρ,rfl,h⟩
 | d::ds,s,ρ,hh,h=>by
  obtain⟨ρ1,ρ2,e1,e2,h2⟩:=hh s ρ d zE h
  obtain⟨ρ',e3,h3⟩:=dW R f st (fun s ρ x hx=>hh s ρ x (zC _ hx)) h2
  refine⟨ρ',?_,h3⟩
  rw[zI,dX,e1,zA,e2]
  exact e3
theorem fZ{α:Type}{tgt:ak->D->Option ak}{gb:ak->Option Out}(R:ak->Prop)(f:α->D)(q:α->Bool)(out:α->D):∀ {l:List α}{ρ:ak},
  (∀ρ x,x∈l->R ρ->∃ρ1,tgt ρ (f x)=some ρ1/\(q x=true->gb ρ1=some (.rt (out x)))/\(q x=false->∃ρ2,gb ρ1=some (.nx ρ2)/\R ρ2))->R ρ ->
  (∀x,l.find? q=some x->dX tgt gb (l.map f) ρ=some (.rt (out x)))/\(l.find? q=none->∃ρ',dX tgt gb (l.map f) ρ=some (.nx ρ')/\R ρ')
 | [],ρ,_,h=>⟨fun x hx=>(by cases hx),fun _=>⟨ρ,rfl,h⟩⟩
 | x::l,ρ,hh,h=>by
  obtain⟨ρ1,e1,e2,e3⟩:=hh ρ x zE h
  rw[zI,dX,e1,zA]
  cases hq:q x with
  | true =>
   rw[vV (by simpa using hq),e2 hq]
   exact⟨fun y hy=>(by cases hy;rfl),fun hn=>(by cases hn)⟩
  | false =>
   obtain⟨ρ2,e4,h2⟩:=e3 hq
   rw[kN (by simp[hq]),e4]
   exact fZ R f q out (fun ρ x hx=>hh ρ x (zC _ hx)) h2
theorem bK{tgt:ak->D->Option ak}{gb:ak->Option Out}{ρ ρ1:ak}{o:Option Out}(h:dX tgt gb ds ρ1=o)(hi:fi (bP ρ1)=some ds)(hh:hand fz 0 ρ=ρ1):cX fz fi tgt gb ρ=o:=by
 simp only[cX,hh,hi,zA,h]
theorem pX{f:Dl.Env->Option (List D)}{ρ ρ':ak}(hh:hand fz 0 ρ=ρ')(hf:f (bP ρ')=some ds):aG i fz f ρ=some (.nx (ρ'.set i (.own ds))):=by
 simp only[aG,hh,hf,zB]
theorem dF{f:Dl.Env->Option (List D)}{ρ:ak}(hf:f (bP ρ)=some ds)(hh:hand fz 0 ρ=ρ):aG i fz f ρ=some (.nx (ρ.set i (.own ds))):=pX hh hf
theorem mD{ρ ρ':ak}(hh:hand fz 0 ρ=ρ'){d:D}(hA:f (aI ρ)=some d)(hF:f (bP ρ')=some d)(hs:Dl.oA d=false)(hr:iK d=false\/ρ'=ρ:=by first|exact .inr rfl|exact .inl rfl):Dl.aF i fz f ρ=some (.nx (ρ'.set i (.val d))):=by
 rcases hr with hr|hr
 ·simp only[Dl.aF,hA,zA,hs,yO,qP,hh,hF,zB,hr]
 ·subst hr
  simp only[Dl.aF,hA,zA,hs,yO,qP,hh,hF,zB,ite_self]
theorem call_of{m:List D->Option D}{fs:Dl.Env->Option (List D)}{d:D}(h:m ds=some d)(hf:fs ρ=some ds)(hn:ds.length=n):ai n m fs ρ=some d:=by
 unfold ai
 rw[hf,zA,yL hn,h]
theorem cons_of{fs:Dl.Env->Option (List D)}{d:D}(h:f ρ=some d)(hs:fs ρ=some ds):aa f fs ρ=some (d::ds):=by
 unfold aa
 rw[h,hs]
 rfl
theorem aY{ρ:ak}{d:D}(hf:f (aI ρ)=some d):aK f ρ=some (.rt d):=by
 simp only[aK,hf,zB]
theorem yy{ρ:ak}{d:D}(hf:f (aI ρ)=some d):rP f ρ=some (.nx ρ):=by
 simp only[rP,hf,zB]
theorem d9{g:ak->Option Out}{ρ:ak}(h:t (aI ρ)=some false):ij t g gH ρ=some (.nx ρ):=by
 simp[ij,h,gH]
theorem fI{g g2:ak->Option Out}{ρ:ak}(h:t (aI ρ)=some true):ij t g g2 ρ=g ρ:=by
 simp[ij,h]
theorem ki{ρ:ak}{d:D}(h:g1 ρ=some (.rt d)):ax g1 g2 ρ=some (.rt d):=by
 simp only[ax,h,zA]
theorem uq{fk f:Dl.Env->Option D}{ρ:ak}{d:D}(hf:f (aI ρ)=some d)(hs:Dl.oA d=true)(hk:fk (aI ρ)=some (nD k))(ho:ρ[i]?=some (.own ds))(hl:k < ds.length):vq i fz fk f ρ=some (.nx (ρ.set i (.own (ds.set k d)))):=by
 have hx:Km ds.length ((k:Nat):Int)=some k:=by
  unfold Km
  rw[yL (Int.natCast_nonneg k),yL (by lia)]
  simp
 simp only[vq,l9,hf,zA,hs,xH,hk,pD,ho,hx,zB]
def lp{S:Type}(cont:S->Bool)(st:S->S):Nat->S->S
 | 0,s=>s
 | n+1,s=>if cont s=true then lp cont st n (st s) else s
theorem zm{S:Type}{t:Dl.Env->Option Bool}{gb:ak->Option Out}(R:S->ak->Prop)(cont:S->Bool)(st:S->S)(μ:S->Nat)
  (ht:∀s ρ,R s ρ->t (aI ρ)=some (cont s)) (hb:∀s ρ,R s ρ->cont s=true->∃ρ',gb ρ=some (.nx ρ')/\R (st s) ρ'/\μ (st s) < μ s) :
  ∀ (n:Nat) (s:S) (ρ:ak),μ s < n->R s ρ->∃ρ',K7 t gb n ρ=some (.nx ρ')/\R (lp cont st n s) ρ'/\cont (lp cont st n s)=false
 | 0,s,ρ,h,_=>absurd h (by lia)
 | n+1,s,ρ,h,r=>by
  rw[K7,ht s ρ r,zA,lp]
  cases hc:cont s with
  | false=>exact⟨ρ,by simp,by simpa [hc] using r,by simpa [hc] using hc⟩
  | true =>
   obtain⟨ρ',e,r',hm⟩:=hb s ρ r hc
   obtain⟨ρ2,e2,r2,c2⟩:=zm R cont st μ ht hb n (st s) ρ' (by lia) r'
   refine⟨ρ2,?_,by simpa [hc] using r2,by simpa [hc] using c2⟩
   simp only[xH,e,zA]
   exact e2
theorem qj(h:i < off.length):av (ag off) (nD i)=some (.int (off.getD i 0)):=oF (f:=PyData.int) (l:=off) (by simp[h])
theorem Iq(h:i < off.length):av (.list (off.map PyData.int)) (nD i)=some (.int (off.getD i 0)):=Ee (f:=PyData.int) (l:=off) (by simp[h])
theorem ow(h:i < W.length):av (.tuple (W.map ar)) (nD i)=some (ar (az W i)):=oF (nR h)
theorem QI(a b c:Int):rH [.int a,.int b,.int c]=some (.int (min (min a b) c)):=rfl
theorem Dq(l:List Int)(k:Nat)(v:Int):(l.map PyData.int).set k (.int v)=(l.set k v).map PyData.int:=by rw[List.map_set]
theorem EW(l:List Int):bw [.list (l.map PyData.int)]=some (ag l):=rfl
theorem CV(l:List D):bw [.list l]=some (.tuple l):=rfl
theorem Dv(l:List D):bS [.tuple l]=some (nD l.length):=rfl
theorem yz(l:List Int):bS [ag l]=some (nD l.length):=by
 show some (PyData.int ((l.map PyData.int).length:Nat))=_
 rw[zD]
theorem uU(h:n<=1000):mh [nD n]=some ((List.range n).map nD):=by
 rw[Bf (xi h),yG]
theorem mH{fs:Dl.Env->Option (List D)}(h:fs ρ=some [nD n])(hn:n<=1000):aZ fs ρ=some ((List.range n).map nD):=by
 unfold aZ
 rw[h,zA,uU hn]
theorem sub_int(i j:Int):Dl.eX (.int i) (.int j)=some (.int (i - j)):=qv i j
theorem zeros(hfi:fi ρ=some ds)(hl:ds.length<=1000):ao 1 [] fi (fG 0) (fun _=>some true) (fC (.int 0)) ρ=some ((List.replicate ds.length (0:Int)).map PyData.int):=by
 rw[cx (h:=fun _=>.int 0) hfi (by lia) fun d hd=>rfl]
 simp[List.map_const']
theorem Jl{k:Int}(h1:BD k=true)(h2:ds.length * k.toNat<=sizeLine):Es ds (.int k)=some (List.replicate k.toNat ds).flatten:=by
 simp only[Es]
 rw[yL (And.intro h1 h2)]
theorem MV:∀n,(List.replicate n [PyData.int 0]).flatten=(List.replicate n (0:Int)).map PyData.int
 | 0=>rfl
 | n+1=>by rw[xE,qM,MV n,xE];rfl
theorem Fj(hl:n<=1000):Es [.int 0] (nD n)=some ((List.replicate n (0:Int)).map PyData.int):=by
 rw[Jl (xi hl),yG,MV]
 rw[yG,xC,Nat.one_mul]
 exact yD hl (by decide)
theorem Su(ρ:Dl.Env):cD (aa (fC (.int 0)) af) ρ=some [.int 0]:=by
 simp only[cD,aa,fC,af,zA,zB]
 exact bj (by simp)
theorem Ot(hf:f ρ=some (nD n))(hl:n<=1000):m6 (cD (aa (fC (.int 0)) af)) f ρ=some ((List.replicate n (0:Int)).map PyData.int):=by
 have e:=Fj hl
 unfold m6
 rw[Su,zA,hf,zA,e]
theorem uw{r:List (Option D)}:∀ (a b:List Int),cG (ft 0 1) (fun _=>some true) (f2 aW (ae 0) (ae 1)) (none::none::r) (gx (a.map PyData.int) (b.map PyData.int))=some ((List.zipWith (·+·) a b).map PyData.int)
 | [],b=>by cases b<;>rfl
 | x::a,[]=>rfl
 | x::a,y::b=>by
  have ih:=uw (r:=r) a b
  have hg:ft 0 1 (none::none::r) (.tuple [.int x,.int y])=some (some (.int x)::some (.int y)::r):=by
   simp only[ft,isFree,xQ,yY,qG,wX,jP,xH,yV,yW]
  rw[zI,zI,gx,cG,hg,zA]
  dsimp! [mS,ih,List.zipWith_cons_cons]
theorem IF{a b:List Int}(hfi:fi ρ=some (gx (a.map PyData.int) (b.map PyData.int)))(hl:a.length<=1000) :
  ao 2 [] fi (ft 0 1) (fun _=>some true) (f2 aW (ae 0) (ae 1)) ρ=some ((List.zipWith (·+·) a b).map PyData.int):=by
 have:=uw (r:=[]) a b
 simp only[ao,hfi,zA,ej,List.replicate,yU,qF,this]
 refine bj ?_
 rw[zD,List.length_zipWith]
 lia
def cV(W:List Wy)(off:List Int)(left:Int)(i:Nat):Int:=min (min (off.getD i 0) (az W i).2.2) left
def iA(W:List Wy)(off:List Int)(s:Int×List Int)(i:Nat):Int×List Int:=(s.1 - cV W off s.1 i,s.2.set i (cV W off s.1 i))
def nW(W:List Wy)(off:List Int)(amt:Int)(is:List Nat):List Int:=(is.foldl (iA W off) (amt,List.replicate W.length 0)).2
theorem Eu(W:List Wy)(off:List Int):∀ (is:List Nat) (s:Int×List Int),(is.foldl (iA W off) s).2.length=s.2.length
 | [],s=>rfl
 | i::is,s=>by rw[yI,Eu W off is];simp[iA]
theorem m8(W:List Wy)(off:List Int)(amt:Int)(is:List Nat):(nW W off amt is).length=W.length:=by rw[nW,Eu];simp
theorem Ib{W:List Wy}(e:(aX b G T)[i]?=some p):av (.tuple ((aX b G T).map bc)) (nD i)=some (bc p):=oF e
theorem OP{s:Int×List Int}(hi:i < W.length)(ho:off.length=W.length)(hs:s.2.length=W.length) :
  (ax (vq 4 [0,3,5,6] (ae 6) (bA rH (aa (f2 av (ae 3) (ae 6)) (aa (f2 av (f2 av (f2 av (ae 0) (fC (.int 2))) (ae 6)) (fC (.int 2))) (aa (ae 5) af))))) (Dl.aF 5 [4,5,6] (f2 Dl.eX (ae 5) (f2 av (ae 4) (ae 6))))) [.val (aB G T W),.val d1,.val d2,.val (ag off),.own (s.2.map PyData.int),.val (.int s.1),.val (nD i)]=some (.nx [.val (aB G T W),.val d1,.val d2,.val (ag off),.own ((iA W off s i).2.map PyData.int),.val (.int (iA W off s i).1),.val (nD i)]):=by
 have hv:(bA rH (aa (f2 av (ae 3) (ae 6)) (aa (f2 av (f2 av (f2 av (ae 0) (fC (.int 2))) (ae 6)) (fC (.int 2))) (aa (ae 5) af)))) (aI [.val (aB G T W),.val d1,.val d2,.val (ag off),.own (s.2.map PyData.int),.val (.int s.1),.val (nD i)])=some (.int (cV W off s.1 i)):=by
  dsimp! [qj (show i < off.length by lia),jh,ow hi,we,QI,cV]
 have t1:=uq (i:=4) (fz:=[0,3,5,6]) (fk:=ae 6) (k:=i) (ds:=s.2.map PyData.int) hv rfl rfl rfl (by rw[zD];lia)
 rw[Dq] at t1
 rw[aq t1]
 have hl:i < (s.2.set i (cV W off s.1 i)).length:=by rw[yC];lia
 have hg:(s.2.set i (cV W off s.1 i)).getD i 0=cV W off s.1 i:=by
  have:i < s.2.length:=by lia
  simp[this]
 have hv2:(f2 Dl.eX (ae 5) (f2 av (ae 4) (ae 6))) (aI ([.val (aB G T W),.val d1,.val d2,.val (ag off),.own (s.2.map PyData.int),.val (.int s.1),.val (nD i)].set 4 (.own ((s.2.set i (cV W off s.1 i)).map PyData.int))))=some (.int (iA W off s i).1):=by
  dsimp! [Iq hl,sub_int,hg,iA]
 rw[dG hv2 rfl]
 rfl
theorem oN(h:Wd G T W)(ho:off.length=W.length)(e:(aX b G T)[i]?=some p) :
  dJ [aB G T W,.int (sI b),nD i,ag off]=some (ag (nW W off p.1 (jy b W i p.2))):=by
 have hw:W.length<=16:=h.wl
 have t4:aG 4 [0] (ao 1 [] (aQ (f2 av (ae 0) (fC (.int 2)))) (fG 0) (fun _=>some true) (fC (.int 0))) [.val (aB G T W),.val (.int (sI b)),.val (nD i),.val (ag off),.non,.non,.non]=some (.nx [.val (aB G T W),.val (.int (sI b)),.val (nD i),.val (ag off),.own ((List.replicate W.length (0:Int)).map PyData.int),.non,.non]):=by
  have z:=zeros (fi:=aQ (f2 av (ae 0) (fC (.int 2)))) (ρ:=bP [.val (aB G T W),.val (.int (sI b)),.val (nD i),.val (ag off),.non,.non,.non]) (ds:=W.map ar) rfl (by rw[zD];lia)
  rw[zD] at z
  exact pX rfl z
 have t5:Dl.aF 5 [0,1,2] (f2 av (f2 av (f2 av (ae 0) (ae 1)) (ae 2)) (fC (.int 0))) [.val (aB G T W),.val (.int (sI b)),.val (nD i),.val (ag off),.own ((List.replicate W.length (0:Int)).map PyData.int),.non,.non]=some (.nx [.val (aB G T W),.val (.int (sI b)),.val (nD i),.val (ag off),.own ((List.replicate W.length (0:Int)).map PyData.int),.val (.int p.1),.non]) :=
  dG (d:=.int p.1) (by dsimp! [gP,Ib (W:=W) e,Dr]) rfl
 obtain⟨ρ',e3,hs',x,rfl⟩:=dW (tgt:=kh 6) (gb:=(ax (vq 4 [0,3,5,6] (ae 6) (bA rH (aa (f2 av (ae 3) (ae 6)) (aa (f2 av (f2 av (f2 av (ae 0) (fC (.int 2))) (ae 6)) (fC (.int 2))) (aa (ae 5) af))))) (Dl.aF 5 [4,5,6] (f2 Dl.eX (ae 5) (f2 av (ae 4) (ae 6)))))) (R:=fun s ρ=>s.2.length=W.length/\∃x,ρ=[.val (aB G T W),.val (.int (sI b)),.val (nD i),.val (ag off),.own (s.2.map PyData.int),.val (.int s.1),x]) nD (iA W off)
  (l:=jy b W i p.2) (s:=(p.1,List.replicate W.length (0:Int))) (ρ:=[.val (aB G T W),.val (.int (sI b)),.val (nD i),.val (ag off),.own ((List.replicate W.length (0:Int)).map PyData.int),.val (.int p.1),.non])
  (fun s ρ j hj ⟨hs,x,hρ⟩=>by
   subst hρ
   obtain⟨hjl,_⟩:=cu.mp ((dP h e).mem_iff.mp hj)
   refine⟨_,_,rfl,OP hjl ho hs,?_,.val (nD j),rfl⟩
   simp[iA,hs]) ⟨by simp,_,rfl⟩
 refine aR ?_
 show gR [.val (aB G T W),.val (.int (sI b)),.val (nD i),.val (ag off),.non,.non,.non]=_
 unfold gR
 rw[aq t4,aq t5,aq (bK e3 (by dsimp! [F3 h e]) rfl)]
 exact aY rfl
theorem uH{S:Type}(q:Nat->Bool)(f:S->Nat->S)(j:Nat)(hq:∀k,q k=true↔k=j):∀ (n:Nat) (s:S),(List.range n).foldl (fun s k=>if q k=true then f s k else s) s=if j < n then f s j else s
 | 0,s=>by simp
 | n+1,s=>by
  rw[vY,vG,uH q f j hq n s,yI,List.foldl_nil]
  by_cases e:n=j
  ·subst e
   rw[yL ((hq n).mpr rfl),yN (by lia),yL (by lia)]
  ·have:¬ q n=true:=fun z=>e ((hq n).mp z)
   rw[yN this]
   by_cases hj:j < n
   ·rw[yL hj,yL (by lia)]
   ·rw[yN hj,yN (by lia)]
def qW(b:Bool)(W:List Wy)(i:Nat)(o:Int)(k:Nat):Bool:=decide (aS b (az W k)=i)&&decide (cy b (az W k)=o)
def Rb:ak->Option Out:=ij (dv (fB (f2 aP (f2 av (f2 av (f2 av (ae 0) (fC (.int 2))) (ae 7)) (ae 1)) (ae 2))) (fB (f2 aP (f2 av (f2 av (f2 av (ae 0) (fC (.int 2))) (ae 7)) (f2 Dl.eX (fC (.int 1)) (ae 1))) (ae 6)))) (ax (vq 4 [0,3,5,7] (ae 7) (bA rH (aa (ae 5) (aa (f2 av (ae 3) (ae 7)) (aa (f2 av (f2 av (f2 av (ae 0) (fC (.int 2))) (ae 7)) (fC (.int 2))) af))))) (Dl.aF 5 [4,5,7] (f2 Dl.eX (ae 5) (f2 av (ae 4) (ae 7))))) gH
theorem KN{s:Int×List Int}(hk:k < W.length)(ho:off.length=W.length)(hs:s.2.length=W.length) :
  Rb [.val (aB G T W),.val (.int (sI b)),.val (nD i),.val (ag off),.own (s.2.map PyData.int),.val (.int s.1),.val (.int o),.val (nD k)]=some (.nx [.val (aB G T W),.val (.int (sI b)),.val (nD i),.val (ag off),.own ((if qW b W i o k=true then iA W off s k else s).2.map PyData.int),.val (.int (if qW b W i o k=true then iA W off s k else s).1),.val (.int o),.val (nD k)]):=by
 have hc:(dv (fB (f2 aP (f2 av (f2 av (f2 av (ae 0) (fC (.int 2))) (ae 7)) (ae 1)) (ae 2))) (fB (f2 aP (f2 av (f2 av (f2 av (ae 0) (fC (.int 2))) (ae 7)) (f2 Dl.eX (fC (.int 1)) (ae 1))) (ae 6)))) (aI [.val (aB G T W),.val (.int (sI b)),.val (nD i),.val (ag off),.own (s.2.map PyData.int),.val (.int s.1),.val (.int o),.val (nD k)])=some (qW b W i o k):=by
  dsimp! [jh,ow hk,i8,sub_int,EX,bE,qW]
  cases decide (aS b (az W k)=i)<;>rfl
 unfold Rb
 cases hq:qW b W i o k with
 | false =>
  rw[hq] at hc
  rw[d9 hc]
  rfl
 | true =>
  rw[hq] at hc
  rw[fI hc]
  simp only[xH]
  have hv:(bA rH (aa (ae 5) (aa (f2 av (ae 3) (ae 7)) (aa (f2 av (f2 av (f2 av (ae 0) (fC (.int 2))) (ae 7)) (fC (.int 2))) af)))) (aI [.val (aB G T W),.val (.int (sI b)),.val (nD i),.val (ag off),.own (s.2.map PyData.int),.val (.int s.1),.val (.int o),.val (nD k)])=some (.int (cV W off s.1 k)):=by
   dsimp! [qj (show k < off.length by lia),jh,ow hk,we,QI,cV]
   congr 2
   lia
  have t1:=uq (i:=4) (fz:=[0,3,5,7]) (fk:=ae 7) (k:=k) (ds:=s.2.map PyData.int) hv rfl rfl rfl (by rw[zD];lia)
  rw[Dq] at t1
  rw[aq t1]
  have hl:k < (s.2.set k (cV W off s.1 k)).length:=by rw[yC];lia
  have hg:(s.2.set k (cV W off s.1 k)).getD k 0=cV W off s.1 k:=by
   have:k < s.2.length:=by lia
   simp[this]
  have hv2:(f2 Dl.eX (ae 5) (f2 av (ae 4) (ae 7))) (aI ([.val (aB G T W),.val (.int (sI b)),.val (nD i),.val (ag off),.own (s.2.map PyData.int),.val (.int s.1),.val (.int o),.val (nD k)].set 4 (.own ((s.2.set k (cV W off s.1 k)).map PyData.int))))=some (.int (iA W off s k).1):=by
   dsimp! [Iq hl,sub_int,hg,iA]
  rw[dG hv2 rfl]
  rfl
theorem Np(h:Wd G T W)(e:(aX b G T)[i]?=some p)(ho:o∈p.2)(hk:k < W.length):qW b W i o k=true↔k=lV b W i o:=by
 obtain⟨h1,h2,h3⟩:=gJ h e ho
 unfold qW
 rw[zF,zJ,zJ]
 constructor
 ·intro ⟨a,c⟩
  exact sE h.wp hk h1 (by rw[a,h2]) (by rw[c,h3])
 ·rintro rfl
  exact⟨h2,h3⟩
theorem pd{S α:Type}{f g:S->α->S}:∀ {l:List α}{s:S},(∀s x,x∈l->f s x=g s x)->l.foldl f s=l.foldl g s
 | [],s,_=>rfl
 | x::l,s,h=>by
  rw[yI,yI,h s x zE]
  exact pd fun s y hy=>h s y (zC _ hy)
theorem IJ(h:Wd G T W)(e:(aX b G T)[i]?=some p)(ho:o∈p.2)(s:Int×List Int) :
  (List.range W.length).foldl (fun s k=>if qW b W i o k=true then iA W off s k else s) s=iA W off s (lV b W i o):=by
 have h1:=(gJ h e ho).1
 rw[pd (g:=fun s k=>if decide (k=lV b W i o)=true then iA W off s k else s) fun s k hk=>by
  have:=Np h e ho (List.mem_range.mp hk)
  by_cases hq:qW b W i o k=true
  ·rw[yL hq,yL (by simpa using this.mp hq)]
  ·rw[yN hq,yN (by simpa using fun z=>hq (this.mpr z))]]
 rw[uH (fun k=>decide (k=lV b W i o)) (iA W off) (lV b W i o) (fun k=>by simp),yL h1]
theorem Qu(ho:off.length=W.length)(hw:W.length<=16):aG 4 [3] (m6 (cD (aa (fC (.int 0)) af)) (bA bS (aa (ae 3) af))) [.val (aB G T W),.val d1,.val d2,.val (ag off),.non,.non,.non,.non]=some (.nx [.val (aB G T W),.val d1,.val d2,.val (ag off),.own ((List.replicate W.length (0:Int)).map PyData.int),.non,.non,.non]):=by
 rw[dF (Ot (n:=W.length) ?_ (by lia)) rfl]
 ·rfl
 ·dsimp! [yz,ho]
theorem NY{r:Dl.Env}{a b c:Option D}(ho:off.length=n)(hw:n<=16):(aZ (aa (bA bS (aa (ae 3) af)) af)) (a::b::c::some (ag off)::r)=some ((List.range n).map nD):=by
 have e:(aa (bA bS (aa (ae 3) af)) af) (a::b::c::some (ag off)::r)=some [nD n]:=by
  dsimp! [yz,ho]
 unfold aZ
 rw[e,zA,uU (show n<=1000 by lia)]
theorem yi(h:Wd G T W)(ho:off.length=W.length)(e:(aX b G T)[i]?=some p) :
  dy [aB G T W,.int (sI b),nD i,ag off]=some (ag (nW W off p.1 (jy b W i p.2))):=by
 have hw:W.length<=16:=h.wl
 have t4:=Qu (G:=G) (T:=T) (d1:=.int (sI b)) (d2:=nD i) ho hw
 have t5:Dl.aF 5 [0,1,2] (f2 av (f2 av (f2 av (ae 0) (ae 1)) (ae 2)) (fC (.int 0))) [.val (aB G T W),.val (.int (sI b)),.val (nD i),.val (ag off),.own ((List.replicate W.length (0:Int)).map PyData.int),.non,.non,.non]=some (.nx [.val (aB G T W),.val (.int (sI b)),.val (nD i),.val (ag off),.own ((List.replicate W.length (0:Int)).map PyData.int),.val (.int p.1),.non,.non]) :=
  dG (d:=.int p.1) (by dsimp! [gP,Ib (W:=W) e,Dr]) rfl
 obtain⟨ρ',e3,hs',x,y,rfl⟩:=dW (tgt:=kh 6) (gb:=cX [3] (aZ (aa (bA bS (aa (ae 3) af)) af)) (kh 7) Rb) (R:=fun s ρ=>s.2.length=W.length/\∃x y,ρ=[.val (aB G T W),.val (.int (sI b)),.val (nD i),.val (ag off),.own (s.2.map PyData.int),.val (.int s.1),x,y]) PyData.int (fun s o=>iA W off s (lV b W i o))
  (l:=p.2) (s:=(p.1,List.replicate W.length (0:Int))) (ρ:=[.val (aB G T W),.val (.int (sI b)),.val (nD i),.val (ag off),.own ((List.replicate W.length (0:Int)).map PyData.int),.val (.int p.1),.non,.non])
  (fun s ρ o hm ⟨hs,x,y,hρ⟩=>by
   subst hρ
   obtain⟨ρ2,e2,hs2,y2,rfl⟩:=dW (tgt:=kh 7) (gb:=Rb) (R:=fun s ρ=>s.2.length=W.length/\∃y,ρ=[.val (aB G T W),.val (.int (sI b)),.val (nD i),.val (ag off),.own (s.2.map PyData.int),.val (.int s.1),.val (.int o),y]) nD (fun s k=>if qW b W i o k=true then iA W off s k else s)
    (l:=List.range W.length) (s:=s) (ρ:=[.val (aB G T W),.val (.int (sI b)),.val (nD i),.val (ag off),.own (s.2.map PyData.int),.val (.int s.1),.val (.int o),y])
    (fun s ρ k hk ⟨hs,y,hρ⟩=>by
     subst hρ
     refine⟨_,_,rfl,KN (List.mem_range.mp hk) ho hs,?_,.val (nD k),rfl⟩
     split
     ·simp[iA,hs]
     ·exact hs) ⟨hs,_,rfl⟩
   rw[IJ h e hm] at e2 hs2
   exact⟨_,_,rfl,bK e2 (NY ho hw) rfl,hs2,_,_,rfl⟩) ⟨by simp,_,_,rfl⟩
 refine aR ?_
 show eL [.val (aB G T W),.val (.int (sI b)),.val (nD i),.val (ag off),.non,.non,.non,.non]=_
 unfold eL
 rw[aq t4,aq t5]
 refine (aq (bK e3 (by dsimp! [gP,Ib (W:=W) e,EV,ag]) rfl)).trans ?_
 rw[aY (d:=ag (nW W off p.1 (jy b W i p.2)))]
 dsimp! [EW]
 rw[nW,jy,List.foldl_map]
def bT(b:Bool)(G T:List Pl)(i:Nat):Pl:=(aX b G T).getD i (0,[])
def zu(b:Bool)(G T:List Pl)(W:List Wy)(off s:List Int)(i:Nat):List Int:=List.zipWith (·+·) s (nW W off (bT b G T i).1 (jy b W i (bT b G T i).2))
def bp(b:Bool)(G T:List Pl)(W:List Wy)(off:List Int):List Int:=(List.range (aX b G T).length).foldl (zu b G T W off) (List.replicate W.length 0)
theorem i6(h:i < (aX b G T).length):(aX b G T)[i]?=some (bT b G T i):=by simp[bT,h]
theorem p7{off s:List Int}(h:s.length=W.length):(zu b G T W off s i).length=W.length:=by
 unfold zu
 rw[List.length_zipWith,m8,h,Nat.min_self]
theorem lA{S α:Type}{f:S->α->S}(R:S->Prop):∀ {l:List α}{s:S},(∀s x,x∈l->R s->R (f s x))->R s->R (l.foldl f s)
 | [],s,_,h=>h
 | x::l,s,hh,h=>by
  rw[yI]
  exact lA (l:=l) R (fun s y hy=>hh s y (zC _ hy)) (hh s x zE h)
theorem fF(b:Bool)(G T:List Pl)(W:List Wy)(off:List Int):(bp b G T W off).length=W.length :=
 lA (fun s:List Int=>s.length=W.length) (fun s i _ h=>p7 h) (by simp)
theorem Wd.pl(h:Wd G T W)(b:Bool):(aX b G T).length<=4:=by
 cases b
 ·exact h.g4
 ·exact h.t4
def S7:ak->Option Out:=(ax (Dl.aF 5 [0,1,2,4] (ai 4 dJ (aa (ae 0) (aa (ae 1) (aa (ae 4) (aa (ae 2) af)))))) (aG 3 [3,5] (ao 2 [] (ck (aa (ae 3) (aa (ae 5) af))) (ft 0 1) (fun _=>some true) (f2 aW (ae 0) (ae 1)))))
theorem fu(h:Wd G T W)(ho:off.length=W.length)(b:Bool) :
  bh [aB G T W,.int (sI b),ag off]=some (ag (bp b G T W off)):=by
 have hw:W.length<=16:=h.wl
 have hp:=h.pl b
 have t3:aG 3 [0] (ao 1 [] (aQ (f2 av (ae 0) (fC (.int 2)))) (fG 0) (fun _=>some true) (fC (.int 0))) [.val (aB G T W),.val (.int (sI b)),.val (ag off),.non,.non,.non]=some (.nx [.val (aB G T W),.val (.int (sI b)),.val (ag off),.own ((List.replicate W.length (0:Int)).map PyData.int),.non,.non]):=by
  have z:=zeros (fi:=aQ (f2 av (ae 0) (fC (.int 2)))) (ρ:=bP [.val (aB G T W),.val (.int (sI b)),.val (ag off),.non,.non,.non]) (ds:=W.map ar) rfl (by rw[zD];lia)
  rw[zD] at z
  exact dF z rfl
 obtain⟨ρ',e3,hs',x,y,rfl⟩:=dW (tgt:=kh 4) (gb:=S7) (R:=fun s ρ=>s.length=W.length/\∃x y,ρ=[.val (aB G T W),.val (.int (sI b)),.val (ag off),.own (s.map PyData.int),x,y]) nD (zu b G T W off)
  (l:=List.range (aX b G T).length) (s:=List.replicate W.length (0:Int)) (ρ:=[.val (aB G T W),.val (.int (sI b)),.val (ag off),.own ((List.replicate W.length (0:Int)).map PyData.int),.non,.non])
  (fun s ρ i hi ⟨hs,x,y,hρ⟩=>by
   subst hρ
   have ei:=i6 (List.mem_range.mp hi)
   have t1:Dl.aF 5 [0,1,2,4] (ai 4 dJ (aa (ae 0) (aa (ae 1) (aa (ae 4) (aa (ae 2) af))))) [.val (aB G T W),.val (.int (sI b)),.val (ag off),.own (s.map PyData.int),.val (nD i),y]=some (.nx [.val (aB G T W),.val (.int (sI b)),.val (ag off),.own (s.map PyData.int),.val (nD i),.val (ag (nW W off (bT b G T i).1 (jy b W i (bT b G T i).2)))]):=by
    refine mD (ρ':=[.val (aB G T W),.val (.int (sI b)),.val (ag off),.own (s.map PyData.int),.val (nD i),y]) rfl (d:=ag (nW W off (bT b G T i).1 (jy b W i (bT b G T i).2))) ?_ ?_ rfl
    ·dsimp! [oN h ho ei]
    ·dsimp! [oN h ho ei]
   have t2:aG 3 [3,5] (ao 2 [] (ck (aa (ae 3) (aa (ae 5) af))) (ft 0 1) (fun _=>some true) (f2 aW (ae 0) (ae 1))) [.val (aB G T W),.val (.int (sI b)),.val (ag off),.own (s.map PyData.int),.val (nD i),.val (ag (nW W off (bT b G T i).1 (jy b W i (bT b G T i).2)))]=some (.nx [.val (aB G T W),.val (.int (sI b)),.val (ag off),.own ((zu b G T W off s i).map PyData.int),.val (nD i),.val (ag (nW W off (bT b G T i).1 (jy b W i (bT b G T i).2)))]):=by
    refine pX (ρ':=[.val (aB G T W),.val (.int (sI b)),.val (ag off),.val (.list (s.map PyData.int)),.val (nD i),.val (ag (nW W off (bT b G T i).1 (jy b W i (bT b G T i).2)))]) rfl (ds:=(zu b G T W off s i).map PyData.int) ?_
    exact IF (a:=s) (b:=nW W off (bT b G T i).1 (jy b W i (bT b G T i).2)) rfl (by lia)
   exact⟨_,_,rfl,(aq t1).trans t2,p7 hs,_,_,rfl⟩) ⟨by simp,_,_,rfl⟩
 refine aR ?_
 show dz [.val (aB G T W),.val (.int (sI b)),.val (ag off),.non,.non,.non]=_
 unfold dz
 rw[aq t3]
 refine (aq (bK e3 (mH (by dsimp! [gP,Dv,zD]) (by lia)) rfl)).trans ?_
 exact aY rfl
theorem yq{xs ys:List D}(h:(xs++ys).length<=4000):Dl.aW (.tuple xs) (.tuple ys)=some (.tuple (xs++ys)):=by
 simp only[Dl.aW,zk,Lf,bj h,zB,Option.none_or,Option.some_or]
theorem Pr{d:D}(h:f ρ=some d):aJ (aa f af) ρ=some (.tuple [d]):=by
 simp only[aJ,aa,af,h,zA,zB]
 rw[bj (by simp),zB]
theorem R6{d e:D}(h:f ρ=some d)(h2:g ρ=some e):aJ (aa f (aa g af)) ρ=some (.tuple [d,e]):=by
 simp only[aJ,aa,af,h,h2,zA,zB]
 rw[bj (by simp),zB]
theorem aC{g:D->D->Option D}{a b c:D}(h:g a b=some c)(ha:fa ρ=some a)(hb:fb ρ=some b):f2 g fa fb ρ=some c:=by rw[iu ha hb,h]
theorem Nf(h:f ρ=some (.tuple ds))(h2:g ρ=some (nD k)):pE ke f qf (Hu g) ρ=some (.tuple (ds.take k)):=by
 simp only[pE,h,qf,Hu,h2,zA,gI,zB,ke,GK]
theorem OQ(h:f ρ=some (.tuple ds))(h2:g ρ=some (nD k)):pE ke f (Hu g) qf ρ=some (.tuple (ds.drop k)):=by
 simp only[pE,h,qf,Hu,h2,zA,gI,zB,ke,Ik]
theorem Sb(d:D)(ds:List D):av (.tuple (d::ds)) (.int 0)=some d:=sJ (i:=0) rfl
theorem RB(c d:D)(ds:List D):av (.tuple (c::d::ds)) (.int 1)=some d:=sJ (i:=1) rfl
theorem Dx(c:List Int)(i:Nat)(v:Int)(h:i < c.length):((c.map PyData.int).take i++[PyData.int v])++(c.map PyData.int).drop (i+1)=(c.set i v).map PyData.int:=by
 rw[List.set_eq_take_append_cons_drop,yL h]
 simp
theorem SX(i:Nat):Dl.aW (nD i) (.int 1)=some (nD (i+1)):=by
 rw[mS]
 rfl
theorem C5{v:Int}(h:i < c.length)(hl:c.length<=1000):iS [ag c,nD i,.int v]=some (ag (c.set i v)):=by
 refine aR ?_
 show mG [.val (ag c),.val (nD i),.val (.int v)]=_
 refine aY ?_
 refine aC (a:=.tuple ((c.map PyData.int).take i++[PyData.int v])) (b:=.tuple ((c.map PyData.int).drop (i+1))) ?_ (aC (a:=.tuple ((c.map PyData.int).take i)) (b:=.tuple [.int v]) (yq ?_) (Nf rfl rfl) (Pr rfl)) (OQ rfl (aC (SX i) rfl rfl))
 ·rw[yq,Dx c i v h]
  ·rfl
  ·rw[Dx c i v h];simp;lia
 ·simp;lia
theorem uP{v:Int}(h:i < c.length)(hl:c.length<=1000):cA [ag c,nD i,.int v]=some (ag (c.set i v)):=by
 refine aR ?_
 show ou [.val (ag c),.val (nD i),.val (.int v)]=_
 exact aY (call_of (C5 h hl) rfl rfl)
def dO(W:List Wy):List Int:=W.map fun w=>w.2.2
theorem Hr(h:Wd G T W)(hf:f ρ=some (aB G T W)):(bA bw (aa (cn (ao 1 [] (aQ (f2 av f (fC (.int 2)))) (fG 0) (fun _=>some true) (f2 av (ae 0) (fC (.int 2))))) af)) ρ=some (ag (dO W)):=by
 have hw:=h.wl
 have hs:(aQ (f2 av f (fC (.int 2)))) ρ=some (W.map ar):=by
  unfold aQ
  rw[aC (jh G T W) hf rfl]
  rfl
 have e:ao 1 [] (aQ (f2 av f (fC (.int 2)))) (fG 0) (fun _=>some true) (f2 av (ae 0) (fC (.int 2))) ρ=some ((dO W).map PyData.int):=by
  rw[cx (h:=fun d=>.int (iO ((cW d).getD 2 .none))) hs (by rw[zD];lia) fun d hd=>?_]
  ·rw[dO,zM,zM]
   rfl
  ·obtain⟨w,hw',rfl⟩:=List.mem_map.mp hd
   rfl
 simp only[bA,aa,af,cn,e,zB,zA,EW]
theorem nv(h:Wd G T W):eW [aB G T W]=some (ag (dO W)):=by
 refine aR ?_
 show sC [.val (aB G T W)]=_
 exact aY (Hr h rfl)
theorem nB(W:List Wy):(dO W).length=W.length:=by simp[dO]
def jz(G T:List Pl)(W:List Wy)(c:List Int):List Int:=bp true G T W (bp false G T W c)
def qR(G T:List Pl)(W:List Wy)(c:List Int)(k:Nat):Bool:=decide ((jz G T W c).getD k 0 < (bp false G T W c).getD k 0)
def sR(G T:List Pl)(W:List Wy)(c:List Int):Option (Nat×Int):=((List.range W.length).find? (qR G T W c)).map fun k=>(k,(jz G T W c).getD k 0)
def B4:Option (Nat×Int)->D
 | none=>.none
 | some p=>.tuple [nD p.1,.int p.2]
theorem enum_zip:∀ (ds:List D) (k:Nat),bG k ds=(ds.zipIdx k).map fun q=>.tuple [nD q.2,q.1]
 | [],k=>rfl
 | d::ds,k=>by rw[bG,enum_zip ds (k+1),List.zipIdx_cons];rfl
theorem Gf(l:List Int):bG 0 (l.map PyData.int)=(List.range l.length).map fun k=>.tuple [nD k,.int (l.getD k 0)]:=by
 rw[enum_zip]
 apply jH
 ·simp
 ·intro i h1 h2
  have:i < l.length:=by simpa using h2
  simp[this]
theorem Oi(G T:List Pl)(W:List Wy)(c:List Int):(jz G T W c).length=W.length:=fF _ _ _ _ _
def R7:ak->Option Out:=(ij (fB (f2 GE (ae 5) (f2 av (ae 2) (ae 4)))) (aK (aJ (aa (ae 4) (aa (ae 5) af)))) gH)
theorem lK(h:Wd G T W)(ho:c.length=W.length):dM [aB G T W,ag c]=some (B4 (sR G T W c)):=by
 have hw:W.length<=16:=h.wl
 have t2:Dl.aF 2 [0,1] (ai 3 bh (aa (ae 0) (aa (fC (.int 0)) (aa (ae 1) af)))) [.val (aB G T W),.val (ag c),.non,.non,.non,.non]=some (.nx [.val (aB G T W),.val (ag c),.val (ag (bp false G T W c)),.non,.non,.non]) :=
  cw (call_of (fu h ho false) rfl rfl) rfl rfl rfl
 have t3:Dl.aF 3 [0,2] (ai 3 bh (aa (ae 0) (aa (fC (.int 1)) (aa (ae 2) af)))) [.val (aB G T W),.val (ag c),.val (ag (bp false G T W c)),.non,.non,.non]=some (.nx [.val (aB G T W),.val (ag c),.val (ag (bp false G T W c)),.val (ag (jz G T W c)),.non,.non]) :=
  cw (call_of (fu h (fF _ _ _ _ _) true) rfl rfl) rfl rfl rfl
 have hl:=fZ (tgt:=fJ 4 5) (gb:=R7) (R:=fun ρ=>∃x y,ρ=[.val (aB G T W),.val (ag c),.val (ag (bp false G T W c)),.val (ag (jz G T W c)),x,y]) (fun k=>.tuple [nD k,.int ((jz G T W c).getD k 0)]) (qR G T W c) (fun k=>.tuple [nD k,.int ((jz G T W c).getD k 0)])
  (l:=List.range W.length) (ρ:=[.val (aB G T W),.val (ag c),.val (ag (bp false G T W c)),.val (ag (jz G T W c)),.non,.non])
  (fun ρ k hk ⟨x,y,hρ⟩=>by
   subst hρ
   have hk':k < (bp false G T W c).length:=by rw[fF];exact List.mem_range.mp hk
   have hc:(fB (f2 GE (ae 5) (f2 av (ae 2) (ae 4)))) (aI [.val (aB G T W),.val (ag c),.val (ag (bp false G T W c)),.val (ag (jz G T W c)),.val (nD k),.val (.int ((jz G T W c).getD k 0))])=some (qR G T W c k):=by
    dsimp! [qj hk',nj,qR]
   refine⟨[.val (aB G T W),.val (ag c),.val (ag (bp false G T W c)),.val (ag (jz G T W c)),.val (nD k),.val (.int ((jz G T W c).getD k 0))],rfl,fun hq=>?_,fun hq=>?_⟩
   ·rw[hq] at hc
    unfold R7
    rw[fI hc]
    exact aY (R6 rfl rfl)
   ·rw[hq] at hc
    unfold R7
    rw[d9 hc]
    exact⟨_,rfl,_,_,rfl⟩) ⟨_,_,rfl⟩
 have hi:(bH (aa (ae 3) af)) (bP [.val (aB G T W),.val (ag c),.val (ag (bp false G T W c)),.val (ag (jz G T W c)),.non,.non])=some ((List.range W.length).map fun k=>.tuple [nD k,.int ((jz G T W c).getD k 0)]):=by
  have:=Gf (jz G T W c)
  rw[Oi] at this
  rw[<- this]
  rfl
 refine aR ?_
 show lr [.val (aB G T W),.val (ag c),.non,.non,.non,.non]=_
 unfold lr
 rw[aq t2,aq t3]
 unfold sR
 cases hq:(List.range W.length).find? (qR G T W c) with
 | some k =>
  exact ki (bK (hl.1 k hq) hi rfl)
 | none =>
  obtain⟨ρ',e,x,y,rfl⟩:=hl.2 hq
  exact (aq (bK e hi rfl)).trans (aY rfl)
theorem cL(l:List Int)(k:Nat)(v:Int)(i:Nat):(l.set k v).getD i 0=if k=i/\i < l.length then v else l.getD i 0:=by
 simp only[zG,xI]
 by_cases h:k=i
 ·subst h
  by_cases h2:k < l.length
  ·simp[h2]
  ·simp[h2]
 ·simp[h]
theorem AM{a b:List Int}(ha:i < a.length)(hb:i < b.length):(List.zipWith (·+·) a b).getD i 0=a.getD i 0+b.getD i 0:=by
 rw[zG,zG,zG,List.getElem?_zipWith,zK ha,zK hb]
 rfl
def Off(off:List Int):Prop:=∀i,0<=off.getD i 0
def RU(W:List Wy):Prop:=∀i,0<=(az W i).2.2
theorem Wd.lim(h:Wd G T W):RU W:=fun i=>by
 by_cases hi:i < W.length
 ·have:=h.wr (az W i) (by rw[<- iW hi];exact qA hi)
  lia
 ·simp only[az,zG]
  rw[jM (by lia)]
  simp
theorem Wd.amt(h:Wd G T W)(b:Bool)(i:Nat):0<=(bT b G T i).1:=by
 unfold bT
 rw[zG]
 cases e:(aX b G T)[i]? with
 | none=>simp
 | some p =>
  have hm:=qB e
  cases b
  ·exact (h.ga p hm).1
  ·exact (h.ta p hm).1
theorem Pi(ho:Off off)(hl:RU W){amt:Int}(ha:0<=amt)(is:List Nat)(i:Nat):0<=(nW W off amt is).getD i 0/\(nW W off amt is).getD i 0<=off.getD i 0:=by
 have:=lA (l:=is) (f:=iA W off) (s:=(amt,List.replicate W.length 0)) (fun s=>0<=s.1/\∀i,0<=s.2.getD i 0/\s.2.getD i 0<=off.getD i 0) (fun s k _ ⟨h1,h2⟩=>by
  have ok:=ho k
  have lk:=hl k
  have v0:0<=cV W off s.1 k:=by unfold cV;lia
  have v1:cV W off s.1 k<=off.getD k 0:=by unfold cV;lia
  have v2:cV W off s.1 k<=s.1:=by unfold cV;lia
  refine⟨by simp only[iA];lia,fun i=>?_⟩
  simp only[iA,cL]
  split
  ·rename_i z
   rw[<- z.1]
   exact⟨v0,v1⟩
  ·exact h2 i) ⟨ha,fun i=>by
   have:=ho i
   have z:(List.replicate W.length (0:Int)).getD i 0=0:=by
    simp only[zG,yX]
    split<;>rfl
   simp only[z]
   lia⟩
 exact this.2 i
theorem Dw{amt:Int}(hi:i∉is):(nW W off amt is).getD i 0=0:=by
 refine lA (l:=is) (f:=iA W off) (s:=(amt,List.replicate W.length 0)) (fun s=>s.2.getD i 0=0) (fun s k hk h=>?_) ?_
 ·simp only[iA,cL]
  have hki:¬ (k=i/\i < s.2.length):=fun z=>hi (z.1 ▸ hk)
  rw[yN hki,h]
 ·simp only[zG,yX]
  split<;>rfl
theorem v9{G T:List Pl}{W:List Wy}(h:Wd G T W){off:List Int}(ho:Off off)(b:Bool):∀ (n:Nat),n<=(aX b G T).length ->
  ((List.range n).foldl (zu b G T W off) (List.replicate W.length 0)).length=W.length/\∀i,i < W.length->(0<=((List.range n).foldl (zu b G T W off) (List.replicate W.length 0)).getD i 0/\((List.range n).foldl (zu b G T W off) (List.replicate W.length 0)).getD i 0<=off.getD i 0)/\((n:Nat)<=aS b (az W i)->((List.range n).foldl (zu b G T W off) (List.replicate W.length 0)).getD i 0=0)
 | 0,_=>by
  refine⟨by simp,fun i hi=>?_⟩
  have:=ho i
  have z:((List.range 0).foldl (zu b G T W off) (List.replicate W.length 0)).getD i 0=0:=by simp[zG,hi]
  rw[z]
  exact⟨by lia,fun _=>rfl⟩
 | n+1,hn=>by
  obtain⟨h1,h2⟩:=v9 h ho b n (by lia)
  rw[vY,vG,yI,List.foldl_nil]
  generalize (List.range n).foldl (zu b G T W off) (List.replicate W.length 0)=s at h1 h2
  refine⟨p7 h1,fun i hi=>?_⟩
  obtain⟨h3,h4⟩:=h2 i hi
  have e:=i6 (b:=b) (G:=G) (T:=T) (i:=n) (by lia)
  have hc:=Pi ho h.lim (h.amt b n) (jy b W n (bT b G T n).2) i
  have hz:(zu b G T W off s n).getD i 0=s.getD i 0+(nW W off (bT b G T n).1 (jy b W n (bT b G T n).2)).getD i 0:=AM (by lia) (by rw[m8];exact hi)
  rw[hz]
  by_cases he:aS b (az W i)=n
  ·rw[h4 (by lia)]
   exact⟨by lia,fun z=>by lia⟩
  ·have hni:i∉jy b W n (bT b G T n).2:=fun z=>he (cu.mp ((dP h e).mem_iff.mp z)).2
   rw[Dw hni]
   exact⟨by lia,fun z=>by rw[h4 (by lia)];rfl⟩
theorem f9{l:List Int}(h:l.length<=i):l.getD i 0=0:=by simp[zG,h]
theorem jb(h:Wd G T W)(ho:Off off)(b:Bool):Off (bp b G T W off):=fun i=>by
 by_cases hi:i < W.length
 ·exact ((v9 h ho b _ (yM _)).2 i hi).1.1
 ·rw[f9 (by rw[fF];lia)]
  exact xZ 0
theorem BO(h:Wd G T W)(ho:Off off)(b:Bool)(hi:i < W.length):(bp b G T W off).getD i 0<=off.getD i 0 :=
 ((v9 h ho b _ (yM _)).2 i hi).1.2
theorem EJ(h:Wd G T W)(ho:Off c){p:Nat×Int}(e:sR G T W c=some p):p.1 < W.length/\0<=p.2/\p.2 < c.getD p.1 0:=by
 unfold sR at e
 obtain⟨k,hk,rfl⟩:=Dl.ah e
 have hm:=jY hk
 have hq:=wA hk
 have hi:=List.mem_range.mp hm
 rw[qR,zJ] at hq
 have a:=BO h ho false hi
 have b:=jb h (jb h ho false) true k
 exact⟨hi,b,by simp only;lia⟩
def mea(c:List Int):Nat:=(c.map Int.toNat).sum
theorem DB:∀ {c:List Int}{k:Nat}{v:Int},0<=v->v < c.getD k 0->mea (c.set k v) < mea c
 | [],k,v,h0,h1=>by simp at h1;lia
 | x::c,0,v,h0,h1=>by
  simp at h1
  simp only[mea,yV,zI,kE]
  lia
 | x::c,k+1,v,h0,h1=>by
  have:=DB (c:=c) (k:=k) h0 (by simpa using h1)
  simp only[mea,yW,zI,kE] at this ⊢
  lia
theorem D0:∀ {W:List Wy},(∀w∈W,w.2.2<=9)->mea (dO W)<=9 * W.length
 | [],_=>by simp[mea,dO]
 | w::W,h=>by
  have:=D0 (W:=W) fun x hx=>h x (zC _ hx)
  have:=h w zE
  simp only[mea,dO,zI,kE,zL] at *
  lia
theorem LS(h:Wd G T W):Off (dO W):=fun i=>by
 have:=h.lim i
 by_cases hi:i < W.length
 ·simpa [dO,az,zG,hi] using this
 ·rw[f9 (by rw[nB];lia)]
  exact xZ 0
theorem Dg(h:Off c){v:Int}(hv:0<=v):Off (c.set k v):=fun i=>by
 rw[cL]
 split
 ·exact hv
 ·exact h i
theorem sj(a:List Int):SeqAt.shaped (ag a)=true :=
 (fS.tup (b:=a.length) (k:=0) (by simp) fun x hx=>by obtain⟨i,_,rfl⟩:=List.mem_map.mp hx;exact je _).shaped (by decide)
theorem Af(a b:List Int):PyData.eqv (ag a) (ag b)=decide (a=b):=by
 rw[ag,ag,PyData.eqv,nS]
theorem cg(h:f ρ=some (.bool b)):fB f ρ=some b:=by
 simp only[fB,h,zA,gB]
theorem iY(h:t ρ=some b):cm t ρ=some (!b):=by
 simp only[cm,h,zB]
theorem IR(a b:List Int):Br (ag a) (ag b)=some (.bool (!decide (a=b))):=by
 simp only[Br,Ru,sj,jP,xH,Af,zB]
theorem FU(a:List Int):Br (ag a) (ag a)=some (.bool false):=by rw[IR];simp
theorem MF(x:Option (Nat×Int)):oS (B4 x) .none=some (.bool x.isSome):=by cases x<;>rfl
theorem cO{ρ:ak}{d:D}(hA:f (aI ρ)=some d)(hF:f (bP ρ)=some d)(hh:hand fz 0 ρ=ρ):Dl.aF i fz f ρ=some (.nx (ρ.set i (.val d))):=by
 cases hs:Dl.oA d with
 | true=>exact dG hA hs
 | false=>exact mD hh hA hF hs (.inr rfl)
theorem NH{ρ:ak}{d:D}(hA:f (aI ρ)=some d)(hF:f (bP ρ)=some d)(hh:hand fz 0 ρ=ρ)(ho:ρ[i]?=some (.own ds))(hl:ds.length < 4000):mq i fz f ρ=some (.nx (ρ.set i (.own (ds++[d])))):=by
 have hz:ds.length < sizeLine:=zP hl (by decide)
 have hi:l9 fz f ρ=some (d,ρ):=by
  unfold l9
  rw[hA,zA,hh,hF]
  cases Dl.oA d<;>rfl
 simp only[mq,hi,zA,pD,ho,hz,xH,zB]
theorem ib(h:Wd G T W):aV [aB G T W]=some .none:=by
 have hw:aO [aB G T W]=some (.bool true):=by rw[rC h.fit (by decide),h.wok]
 have hc:(cm (fB (ai 1 aO (aa (ae 0) af)))) (aI [.val (aB G T W)])=some false:=iY (cg (call_of hw rfl rfl))
 have:b8 [.val (aB G T W)]=some (.nx [.val (aB G T W)]):=by
  unfold b8
  rw[d9 hc]
 show (b8 [.val (aB G T W)]).map _=_
 rw[this]
 rfl
abbrev Sp:=List (Nat×Int)×List Int
def MX(G T:List Pl)(W:List Wy)(s:Sp):Bool:=(sR G T W s.2).isSome
def spS(G T:List Pl)(W:List Wy)(s:Sp):Sp:=match sR G T W s.2 with|some p=>(s.1++[p],s.2.set p.1 p.2)|none=>s
def low(c:List Int)(p:Nat×Int):List Int:=c.set p.1 p.2
structure BC(W:List Wy)(s:Sp):Prop where
 len:s.2.length=W.length
 off:Off s.2
 eq:s.2=s.1.foldl low (dO W)
 bd:s.1.length+mea s.2<=mea (dO W)
 mem:∀p∈s.1,p.1 < W.length
theorem BC.start(h:Wd G T W):BC W ([],dO W):=⟨nB W,LS h,rfl,by simp,fun p hp=>by cases hp⟩
theorem sd{s:Sp}{p:Nat×Int}(e:sR G T W s.2=some p):spS G T W s=(s.1++[p],s.2.set p.1 p.2):=by
 unfold spS
 rw[e]
theorem BC.step(h:Wd G T W){s:Sp}(i:BC W s){p:Nat×Int}(e:sR G T W s.2=some p):BC W (spS G T W s)/\mea (spS G T W s).2 < mea s.2:=by
 obtain⟨h1,h2,h3⟩:=EJ h i.off e
 have hm:=DB h2 h3
 rw[sd e]
 refine⟨⟨by simp[i.len],Dg i.off h2,?_,?_,fun q hq=>?_⟩,hm⟩
 ·rw[vG,<- i.eq]
  rfl
 ·have:=i.bd
  simp only[zN,xC]
  lia
 ·rcases List.mem_append.mp hq with z|z
  ·exact i.mem q z
  ·rw[yJ] at z
   rw[z]
   exact h1
theorem Wd.mea{G T:List Pl}{W:List Wy}(h:Wd G T W):mea (dO W)<=144:=by
 have:=D0 (W:=W) fun w hw=>(h.wr w hw).2.2.2
 have:=h.wl
 lia
def sQ(r:List (Nat×Int)):List D:=(r.map fun p=>[((p.1:Nat):Int),p.2]).map ag
theorem MA(r:List (Nat×Int))(p:Nat×Int):sQ (r++[p])=sQ r++[B4 (some p)]:=by simp[sQ];rfl
theorem KO(r:List (Nat×Int)):(sQ r).length=r.length:=by simp[sQ]
def fin(G T:List Pl)(W:List Wy):Sp:=lp (MX G T W) (spS G T W) Rf.turns ([],dO W)
def RQ:ak->Option Out:=(ax (mq 1 [3] (ae 3)) (ax (Dl.aF 2 [2,3] (ai 3 cA (aa (ae 2) (aa (f2 av (ae 3) (fC (.int 0))) (aa (f2 av (ae 3) (fC (.int 1))) af))))) (Dl.aF 3 [0,2] (ai 2 dM (aa (ae 0) (aa (ae 2) af))))))
def Nb(G T:List Pl)(W:List Wy)(s:Sp):ak:=[.val (aB G T W),.own (sQ s.1),.val (ag s.2),.val (B4 (sR G T W s.2))]
theorem Lu(h:Wd G T W){s:Sp}(i:BC W s){p:Nat×Int}(e:sR G T W s.2=some p):RQ (Nb G T W s)=some (.nx (Nb G T W (spS G T W s))):=by
 obtain⟨h1,h2,h3⟩:=EJ h i.off e
 obtain⟨i2,hm⟩:=i.step h e
 have hb:=h.mea
 have hbd:=i.bd
 have hw:=h.wl
 have t1:mq 1 [3] (ae 3) (Nb G T W s)=some (.nx [.val (aB G T W),.own (sQ s.1++[B4 (some p)]),.val (ag s.2),.val (B4 (some p))]):=by
  unfold Nb
  rw[e]
  exact NH rfl rfl rfl rfl (by rw[KO];lia)
 have hlow:∀ρ:Dl.Env,ae 2 ρ=some (ag s.2)->ae 3 ρ=some (B4 (some p))->(ai 3 cA (aa (ae 2) (aa (f2 av (ae 3) (fC (.int 0))) (aa (f2 av (ae 3) (fC (.int 1))) af)))) ρ=some (ag (s.2.set p.1 p.2)):=fun ρ a b =>
  call_of (uP (c:=s.2) (i:=p.1) (v:=p.2) (by rw[i.len];exact h1) (by rw[i.len];lia)) (cons_of a (cons_of (aC (Sb _ _) b rfl) (cons_of (aC (RB _ _ _) b rfl) rfl))) rfl
 have t2:Dl.aF 2 [2,3] (ai 3 cA (aa (ae 2) (aa (f2 av (ae 3) (fC (.int 0))) (aa (f2 av (ae 3) (fC (.int 1))) af)))) [.val (aB G T W),.own (sQ s.1++[B4 (some p)]),.val (ag s.2),.val (B4 (some p))]=some (.nx [.val (aB G T W),.own (sQ s.1++[B4 (some p)]),.val (ag (s.2.set p.1 p.2)),.val (B4 (some p))]) :=
  cO (hlow _ rfl rfl) (hlow _ rfl rfl) rfl
 have hl2:(s.2.set p.1 p.2).length=W.length:=by rw[yC,i.len]
 have t3:Dl.aF 3 [0,2] (ai 2 dM (aa (ae 0) (aa (ae 2) af))) [.val (aB G T W),.own (sQ s.1++[B4 (some p)]),.val (ag (s.2.set p.1 p.2)),.val (B4 (some p))]=some (.nx [.val (aB G T W),.own (sQ s.1++[B4 (some p)]),.val (ag (s.2.set p.1 p.2)),.val (B4 (sR G T W (s.2.set p.1 p.2)))]) :=
  cO (call_of (lK h hl2) rfl rfl) (call_of (lK h hl2) rfl rfl) rfl
 unfold RQ
 rw[aq t1,aq t2,t3,sd e]
 unfold Nb
 rw[MA]
theorem nK{s:Sp}(h:MX G T W s=true):∃p,sR G T W s.2=some p:=Option.isSome_iff_exists.mp h
theorem Mt(h:Wd G T W):p6 [aB G T W]=some (.list (sQ (fin G T W).1))/\BC W (fin G T W):=by
 have hb:=h.mea
 have t1:aG 1 [] (cD af) [.val (aB G T W),.non,.non,.non]=some (.nx [.val (aB G T W),.own [],.non,.non]):=dF (f:=cD af) (ds:=[]) (show small []=some [] from bj (by simp)) rfl
 have t2:Dl.aF 2 [0] (ai 1 eW (aa (ae 0) af)) [.val (aB G T W),.own [],.non,.non]=some (.nx [.val (aB G T W),.own [],.val (ag (dO W)),.non]) :=
  cO (call_of (nv h) rfl rfl) (call_of (nv h) rfl rfl) rfl
 have t3:Dl.aF 3 [0,2] (ai 2 dM (aa (ae 0) (aa (ae 2) af))) [.val (aB G T W),.own [],.val (ag (dO W)),.non]=some (.nx (Nb G T W ([],dO W))) :=
  cO (call_of (lK h (nB W)) rfl rfl) (call_of (lK h (nB W)) rfl rfl) rfl
 obtain⟨ρ',ew,⟨rfl,iv⟩,_⟩:=zm (t:=(fB (f2 oS (ae 3) (fC .none)))) (gb:=RQ) (R:=fun s ρ=>ρ=Nb G T W s/\BC W s) (MX G T W) (spS G T W) (fun s=>mea s.2)
  (fun s ρ ⟨hρ,i⟩=>by
   subst hρ
   exact cg (aC (MF _) rfl rfl))
  (fun s ρ ⟨hρ,i⟩ hc=>by
   subst hρ
   obtain⟨p,e⟩:=nK hc
   exact⟨_,Lu h i e,⟨rfl,(i.step h e).1⟩,(i.step h e).2⟩)
  Rf.turns ([],dO W) (Nb G T W ([],dO W)) (qZ hb (by decide)) ⟨rfl,BC.start h⟩
 refine⟨?_,iv⟩
 refine aR ?_
 show p5 [.val (aB G T W),.non,.non,.non]=_
 unfold p5
 rw[aq t1,aq t2,aq t3]
 refine (aq ew).trans ?_
 exact aY rfl
theorem Mx(c:List Int)(p:Nat×Int):(low c p).length=c.length:=by simp[low]
theorem JO(h:Wd G T W){r:List (Nat×Int)}(hr:∀p∈r,p.1 < W.length):nN [aB G T W,.list (sQ r)]=some (ag (r.foldl low (dO W))):=by
 have hw:=h.wl
 have t2:Dl.aF 2 [0] (ai 1 eW (aa (ae 0) af)) [.val (aB G T W),.val (.list (sQ r)),.non,.non,.non]=some (.nx [.val (aB G T W),.val (.list (sQ r)),.val (ag (dO W)),.non,.non]) :=
  cO (call_of (nv h) rfl rfl) (call_of (nv h) rfl rfl) rfl
 obtain⟨ρ',e3,hs',x,y,rfl⟩:=dW (tgt:=fJ 3 4) (gb:=Dl.aF 2 [2,3,4] (ai 3 cA (aa (ae 2) (aa (ae 3) (aa (ae 4) af))))) (R:=fun (c:List Int) ρ=>c.length=W.length/\∃x y,ρ=[.val (aB G T W),.val (.list (sQ r)),.val (ag c),x,y]) (fun p:Nat×Int=>ag [((p.1:Nat):Int),p.2]) low
  (l:=r) (s:=dO W) (ρ:=[.val (aB G T W),.val (.list (sQ r)),.val (ag (dO W)),.non,.non])
  (fun c ρ p hp ⟨hc,x,y,hρ⟩=>by
   subst hρ
   have el:=uP (c:=c) (i:=p.1) (v:=p.2) (by rw[hc];exact hr p hp) (by lia)
   have t:Dl.aF 2 [2,3,4] (ai 3 cA (aa (ae 2) (aa (ae 3) (aa (ae 4) af)))) [.val (aB G T W),.val (.list (sQ r)),.val (ag c),.val (nD p.1),.val (.int p.2)]=some (.nx [.val (aB G T W),.val (.list (sQ r)),.val (ag (low c p)),.val (nD p.1),.val (.int p.2)]) :=
    cO (call_of el rfl rfl) (call_of el rfl rfl) rfl
   exact⟨_,_,rfl,t,by rw[Mx,hc],_,_,rfl⟩) ⟨nB W,_,_,rfl⟩
 refine aR ?_
 show nu [.val (aB G T W),.val (.list (sQ r)),.non,.non,.non]=_
 unfold nu
 rw[aq t2]
 refine (aq (bK e3 ?_ rfl)).trans (aY rfl)
 show some (sQ r)=_
 rw[sQ,zM]
 rfl
theorem tN(h:Wd G T W):aH [aB G T W]=some (ag (bp false G T W (fin G T W).2)):=by
 obtain⟨e1,i⟩:=Mt h
 have e2:=JO h i.mem
 rw[<- i.eq] at e2
 refine aR ?_
 show cQ [.val (aB G T W)]=_
 unfold cQ
 refine (aq (yy (call_of (ib h) rfl rfl))).trans ?_
 exact aY (call_of (fu h i.len false) (cons_of rfl (cons_of rfl (cons_of (call_of e2 (cons_of rfl (cons_of (call_of e1 rfl rfl) rfl)) rfl) rfl))) rfl)
def Oz(w:Wy):Wy:=(w.2.1,w.1,w.2.2)
structure Ord(W:List Wy)(π:List Nat):Prop where
 perm:π.Perm (List.range W.length)
 up:π.Pairwise fun i j=>(az W i).2.1 < (az W j).2.1\/((az W i).2.1=(az W j).2.1/\(az W i).1 < (az W j).1)
def eh(W:List Wy)(π:List Nat):List Wy:=π.map fun i=>Oz (az W i)
def l6(P:List Int)(π:List Nat):List Int:=π.map fun i=>P.getD i 0
section
variable {W:List Wy}{π π':List Nat}{P:List Int}{G T:List Pl}
theorem Ord.len(o:Ord W π):π.length=W.length:=by rw[o.perm.length_eq,zR]
theorem Ord.lt(o:Ord W π)(hk:k < W.length):π.getD k 0 < W.length:=by
 have h:k < π.length:=by rw[o.len];exact hk
 have:=o.perm.mem_iff.mp (qA h)
 rw[zG,zK h]
 simpa using this
theorem Ord.ex(o:Ord W π)(hi:i < W.length):∃k,k < W.length/\π.getD k 0=i:=by
 have:i∈π:=o.perm.mem_iff.mpr (by simpa using hi)
 obtain⟨k,hk,e⟩:=qQ this
 exact⟨k,by rw[<- o.len];exact hk,by rw[zG,zK hk];exact e⟩
theorem cI(o:Ord W π):(eh W π).length=W.length:=by simp[eh,o.len]
theorem Lw(o:Ord W π):(l6 P π).length=W.length:=by simp[l6,o.len]
theorem fv(o:Ord W π)(hk:k < W.length):az (eh W π) k=Oz (az W (π.getD k 0)):=by
 have h:k < π.length:=by rw[o.len];exact hk
 simp[az,eh,h,zG]
theorem mE(o:Ord W π)(hk:k < W.length):(l6 P π).getD k 0=P.getD (π.getD k 0) 0:=by
 have h:k < π.length:=by rw[o.len];exact hk
 simp[l6,h,zG]
theorem pZ(b:Bool)(w:Wy):aS (!b) (Oz w)=aS b w:=by cases b<;>rfl
theorem wa(b:Bool)(w:Wy):cy (!b) (Oz w)=cy b w:=by cases b<;>rfl
theorem Ord.ris(o:Ord W π):uh (eh W π):=by
 unfold uh eh
 rw[jE]
 exact o.up
theorem N4(h:uh W)(hi:i < W.length)(hj:j < W.length)(e:(az W i).1 < (az W j).1\/((az W i).1=(az W j).1/\(az W i).2.1 < (az W j).2.1)):i < j:=by
 rcases Nat.lt_or_ge i j with q|q
 ·exact q
 ·exfalso
  rcases Nat.eq_or_lt_of_le q with q|q
  ·subst q;lia
  ·have:=List.pairwise_iff_getElem.mp h j i hj hi q
   rw[iW hi,iW hj] at this
   lia
theorem Cz(p:l.Perm (List.range n))(h:l.Pairwise (· < ·)):l=List.range n:=by
 refine gT (fun i=>((i:Nat):Int)) p (h.imp fun {a b} q=>by lia) (List.pairwise_lt_range.imp fun {a b} q=>by lia)
theorem map_getD(l:List Nat):(List.range l.length).map (fun k=>l.getD k 0)=l:=by
 apply jH
 ·simp
 ·intro i h1 h2
  simp[h2]
theorem Ord.back(h:uh W)(o:Ord W π)(o':Ord (eh W π) π'):π'.map (fun k=>π.getD k 0)=List.range W.length:=by
 have hl:(eh W π).length=W.length:=cI o
 refine Cz ?_ ?_
 ·have:=(o'.perm.map fun k=>π.getD k 0)
  rw[hl,<- o.len,map_getD] at this
  exact this.trans o.perm
 ·rw[jE]
  refine o'.up.imp_of_mem fun {i j} hi hj q=>?_
  have hi':i < W.length:=by have:=o'.perm.mem_iff.mp hi;rw[hl] at this;simpa using this
  have hj':j < W.length:=by have:=o'.perm.mem_iff.mp hj;rw[hl] at this;simpa using this
  rw[fv o hi',fv o hj'] at q
  exact N4 h (o.lt hi') (o.lt hj') q
theorem za(h:uh W)(o:Ord W π)(o':Ord (eh W π) π'):eh (eh W π) π'=W:=by
 have hl:(eh W π).length=W.length:=cI o
 have e:eh (eh W π) π'=(π'.map fun k=>π.getD k 0).map fun i=>az W i:=by
  unfold eh
  rw[zM]
  refine yH fun k hk=>?_
  have hk':k < W.length:=by have:=o'.perm.mem_iff.mp hk;rw[hl] at this;simpa using this
  have:=fv o hk'
  unfold eh at this
  rw[this];rfl
 rw[e,o.back h o']
 have:=map_range (0,0,0) (fun w:Wy=>w) W
 simpa [az] using this
theorem MD(h:uh W)(o:Ord W π)(o':Ord (eh W π) π')(hp:P.length=W.length):l6 (l6 P π) π'=P:=by
 have hl:(eh W π).length=W.length:=cI o
 have e:l6 (l6 P π) π'=(π'.map fun k=>π.getD k 0).map fun i=>P.getD i 0:=by
  rw[zM]
  unfold l6
  refine yH fun k hk=>?_
  have hk':k < W.length:=by have:=o'.perm.mem_iff.mp hk;rw[hl] at this;simpa using this
  have:=mE (P:=P) o hk'
  unfold l6 at this
  rw[this];rfl
 rw[e,o.back h o',<- hp]
 have:=map_range 0 (fun x:Int=>x) P
 simpa using this
theorem Hl(o:Ord W π)(b:Bool)(p:Int):((own (!b) (eh W π) p).map fun k=>π.getD k 0).Perm (own b W p):=by
 have hl:(eh W π).length=W.length:=cI o
 have e:((own (!b) (eh W π) p).map fun k=>π.getD k 0)=π.filter fun i=>decide (aS b (az W i)=p):=by
  conv=>rhs;rw[<- map_getD π,kH,o.len]
  unfold own
  rw[hl]
  congr 1
  refine List.filter_congr fun k hk=>?_
  have hk':k < W.length:=by simpa using hk
  rw[fv o hk',pZ];rfl
 rw[e]
 exact o.perm.filter _
theorem Kl(o:Ord W π)(b:Bool)(p:Int):(PF (!b) (eh W π) p).Perm (PF b W p):=by
 have hl:(eh W π).length=W.length:=cI o
 rw[<- lI,<- lI]
 have:=(Hl o b p).map fun i=>cy b (az W i)
 rw[zM] at this
 refine List.Perm.trans (List.Perm.of_eq ?_) this
 refine yH fun k hk=>?_
 have hk':k < W.length:=by have:=(cu.mp hk).1;rwa [hl] at this
 show cy (!b) (az (eh W π) k)=cy b (az W (π.getD k 0))
 rw[fv o hk',wa]
theorem Ord.wd(h:Wd G T W)(o:Ord W π):Wd T G (eh W π) where
 g1:=h.t1
 g4:=h.t4
 t1:=h.g1
 t4:=h.g4
 ga:=h.ta
 ta:=h.ga
 gl:=fun i p e=>(h.tl i p e).trans (Kl o true i).symm
 tl:=fun i p e=>(h.gl i p e).trans (Kl o false i).symm
 wr:=fun w hw=>by
  obtain⟨i,hi,rfl⟩:=List.mem_map.mp hw
  have hi':i < W.length:=by have:=o.perm.mem_iff.mp hi;simpa using this
  have:=h.wr (az W i) (by rw[<- iW hi'];exact qA _)
  exact⟨this.2.1,this.1,this.2.2⟩
 wp:=o.ris
 wl:=by rw[cI o];exact h.wl
theorem pQ(b:Bool)(G T:List Pl):aX (!b) T G=aX b G T:=by cases b<;>rfl
theorem vv(b:Bool)(G T:List Pl)(i:Nat):bT (!b) T G i=bT b G T i:=by unfold bT;rw[pQ]
def mK(b:Bool)(W:List Wy)(P:List Int)(p:Int):Int:=((own b W p).map fun i=>P.getD i 0).sum
theorem zv{l m:List Int}(p:l.Perm m):l.sum=m.sum:=by
 induction p with
 | nil=>rfl
 | cons x _ ih=>simp[ih]
 | swap x y l=>simp only[kE];lia
 | trans _ _ h1 h2=>exact h1.trans h2
theorem Kk(o:Ord W π)(b:Bool)(p:Int):mK (!b) (eh W π) (l6 P π) p=mK b W P p:=by
 have hl:(eh W π).length=W.length:=cI o
 have:=zv ((Hl o b p).map fun i=>P.getD i 0)
 unfold mK
 rw[<- this,zM]
 congr 1
 refine yH fun k hk=>?_
 have hk':k < W.length:=by have:=(cu.mp hk).1;rwa [hl] at this
 exact mE o hk'
theorem Ht(h:Wd G T W)(o:Ord W π)(e:(aX b G T)[i]?=some p)(hx:x∈p.2):lV (!b) (eh W π) i x < W.length/\π.getD (lV (!b) (eh W π) i x) 0=lV b W i x:=by
 have e':(aX (!b) T G)[i]?=some p:=by rw[pQ];exact e
 obtain⟨h1,h2,h3⟩:=gJ (o.wd h) e' hx
 obtain⟨g1,g2,g3⟩:=gJ h e hx
 rw[cI o] at h1
 rw[fv o h1,pZ] at h2
 rw[fv o h1,wa] at h3
 exact⟨h1,sE h.wp (o.lt h1) g1 (by rw[h2,g2]) (by rw[h3,g3])⟩
end
def pS(L:List Int)(x:Int):Nat:=L.findIdx fun o=>decide (o=x)
def yv(b:Bool)(G T:List Pl)(W:List Wy)(P:List Int)(k:Nat):Bool :=
 decide (mK b W P (aS b (az W k)) < (bT b G T (aS b (az W k)).toNat).1) ||
 ((bT b G T (aS b (az W k)).toNat).2.drop (pS (bT b G T (aS b (az W k)).toNat).2 (cy b (az W k))+1)).any fun o=>decide (0 < P.getD (lV b W (aS b (az W k)) o) 0)
def rR(G T:List Pl)(W:List Wy)(P:List Int)(k:Nat):Nat :=
 if P.getD k 0=(az W k).2.2 then 0 else if yv false G T W P k=false then 1 else if yv true G T W P k=false then 2 else 3
def Fs(G T:List Pl)(W:List Wy)(P:List Int):List Nat:=(List.range W.length).filter fun k=>decide (rR G T W P k=3)
section
variable {W:List Wy}{π π':List Nat}{P:List Int}{G T:List Pl}
theorem Wd.end_pl(h:Wd G T W)(b:Bool)(hk:k < W.length):0<=aS b (az W k)/\(aS b (az W k)).toNat < (aX b G T).length/\((aS b (az W k)).toNat:Int)=aS b (az W k):=by
 have:=h.wr (az W k) (by rw[<- iW hk];exact qA _)
 cases b
 ·simp only[aS,aX,yO,qP];lia
 ·simp only[aS,aX,xH];lia
theorem uX{α:Type}{p q:α->Bool}:∀ {l:List α},(∀x∈l,p x=q x)->l.any p=l.any q
 | [],_=>rfl
 | a::l,h=>by rw[vI,vI,h a zE,uX fun x hx=>h x (zC _ hx)]
theorem Hb(h:Wd G T W)(o:Ord W π)(b:Bool)(hk:k < W.length):yv (!b) T G (eh W π) (l6 P π) k=yv b G T W P (π.getD k 0):=by
 obtain⟨h1,h2,h3⟩:=h.end_pl b (o.lt hk)
 unfold yv
 rw[fv o hk,pZ,wa,vv,Kk o]
 congr 1
 rw[<- h3]
 simp only[yG]
 refine uX fun x hx=>?_
 obtain⟨e1,e2⟩:=Ht h o (i6 h2) (List.mem_of_mem_drop hx)
 rw[mE o e1,e2]
theorem O4(h:Wd G T W)(o:Ord W π)(hk:k < W.length):(rR T G (eh W π) (l6 P π) k=3)↔(rR G T W P (π.getD k 0)=3):=by
 have e1:=Hb (P:=P) h o false hk
 have e2:=Hb (P:=P) h o true hk
 simp only[Bool.not_false,xY] at e1 e2
 unfold rR
 rw[mE o hk,fv o hk,e1,e2]
 have:(Oz (az W (π.getD k 0))).2.2=(az W (π.getD k 0)).2.2:=rfl
 rw[this]
 cases yv false G T W P (π.getD k 0)<;>cases yv true G T W P (π.getD k 0)<;>simp<;>split<;>simp
theorem QB(h:Wd G T W)(o:Ord W π):((Fs T G (eh W π) (l6 P π)).map fun k=>π.getD k 0).Perm (Fs G T W P):=by
 have hl:(eh W π).length=W.length:=cI o
 have e:((Fs T G (eh W π) (l6 P π)).map fun k=>π.getD k 0)=π.filter fun i=>decide (rR G T W P i=3):=by
  conv=>rhs;rw[<- map_getD π,kH,o.len]
  unfold Fs
  rw[hl]
  congr 1
  refine List.filter_congr fun k hk=>?_
  have hk':k < W.length:=by simpa using hk
  exact decide_eq_decide.mpr (O4 h o hk')
 rw[e]
 exact o.perm.filter _
theorem NN(h:Wd G T W)(o:Ord W π):(Fs T G (eh W π) (l6 P π)=[])↔(Fs G T W P=[]):=by
 have:=(QB (P:=P) h o).length_eq
 rw[zD] at this
 rw[<- List.length_eq_zero_iff,<- List.length_eq_zero_iff,this]
structure Pn(G T:List Pl)(W:List Wy)(P:List Int):Prop where
 len:P.length=W.length
 bd:∀k,k < W.length->0<=P.getD k 0/\P.getD k 0<=(az W k).2.2
 am:∀ (b:Bool) (i:Nat),i < (aX b G T).length->mK b W P i<=(bT b G T i).1
theorem Pn.tu(h:Wd G T W)(o:Ord W π)(p:Pn G T W P):Pn T G (eh W π) (l6 P π) where
 len:=by rw[Lw o,cI o]
 bd:=fun k hk=>by
  rw[cI o] at hk
  rw[mE o hk,fv o hk]
  exact p.bd _ (o.lt hk)
 am:=fun b i hi=>by
  have:=p.am (!b) i (by rw[<- pQ b T G] at hi;exact hi)
  rw[<- Kk o (!b),<- vv (!b),Bool.not_not] at this
  exact this
end
section
variable {W:List Wy}{G T:List Pl}{off:List Int}
theorem EU(h:Wd G T W)(b:Bool):∀ (n:Nat),n<=(aX b G T).length ->
  ((List.range n).foldl (zu b G T W off) (List.replicate W.length 0)).length=W.length/\∀k,k < W.length ->
   ((List.range n).foldl (zu b G T W off) (List.replicate W.length 0)).getD k 0=if aS b (az W k) < n then (nW W off (bT b G T (aS b (az W k)).toNat).1 (jy b W (aS b (az W k)).toNat (bT b G T (aS b (az W k)).toNat).2)).getD k 0 else 0
 | 0,_=>by
  refine⟨by simp,fun k hk=>?_⟩
  obtain⟨h1,_,_⟩:=h.end_pl b hk
  rw[yN (by lia)]
  simp[zG,hk]
 | n+1,hn=>by
  obtain⟨h1,h2⟩:=EU h b n (by lia)
  rw[vY,vG,yI,List.foldl_nil]
  generalize (List.range n).foldl (zu b G T W off) (List.replicate W.length 0)=s at h1 h2
  refine⟨p7 h1,fun k hk=>?_⟩
  have hz:(zu b G T W off s n).getD k 0=s.getD k 0+(nW W off (bT b G T n).1 (jy b W n (bT b G T n).2)).getD k 0:=AM (by lia) (by rw[m8];exact hk)
  rw[hz,h2 k hk]
  obtain⟨g1,_,_⟩:=h.end_pl b hk
  have e:=i6 (b:=b) (G:=G) (T:=T) (i:=n) (by lia)
  by_cases he:aS b (az W k)=n
  ·have hn':(aS b (az W k)).toNat=n:=by lia
   rw[yN (by lia),yL (by lia),hn']
   lia
  ·have hni:k∉jy b W n (bT b G T n).2:=fun z=>he (cu.mp ((dP h e).mem_iff.mp z)).2
   rw[Dw hni]
   by_cases hlt:aS b (az W k) < n
   ·rw[yL hlt,yL (by lia)];lia
   ·rw[yN hlt,yN (by lia)];rfl
theorem HV(h:Wd G T W)(b:Bool)(hk:k < W.length):(bp b G T W off).getD k 0=(nW W off (bT b G T (aS b (az W k)).toNat).1 (jy b W (aS b (az W k)).toNat (bT b G T (aS b (az W k)).toNat).2)).getD k 0:=by
 have:=(EU (off:=off) h b _ (yM _)).2 k hk
 obtain⟨_,h2,h3⟩:=h.end_pl b hk
 rw[yL (by lia)] at this
 exact this
theorem D9{amt:Int}:∀ (is:List Nat) (s:Int×List Int),is.Nodup->(∀i∈is,i < s.2.length/\s.2.getD i 0=0) ->
  ((is.foldl (iA W off) s).2.length=s.2.length)/\(is.map fun i=>(is.foldl (iA W off) s).2.getD i 0).sum=s.1 - (is.foldl (iA W off) s).1/\∀j,j∉is->(is.foldl (iA W off) s).2.getD j 0=s.2.getD j 0
 | [],s,_,_=>⟨rfl,by simp,fun _ _=>rfl⟩
 | i::is,s,hn,hz=>by
  rw[kY] at hn
  obtain⟨hi,h0⟩:=hz i zE
  have hs:∀j∈is,j < (iA W off s i).2.length/\(iA W off s i).2.getD j 0=0:=fun j hj=>by
   obtain⟨a,b⟩:=hz j (zC _ hj)
   refine⟨by simpa [iA] using a,?_⟩
   simp only[iA,cL]
   have hne:¬ (i=j/\j < s.2.length):=fun z=>hn.1 (z.1 ▸ hj)
   rw[yN hne,b]
  obtain⟨r1,r2,r3⟩:=D9 (amt:=amt) is (iA W off s i) hn.2 hs
  rw[yI]
  refine⟨by rw[r1];simp[iA],?_,fun j hj=>?_⟩
  ·rw[zI,kE,r2,r3 i hn.1]
   simp only[iA,cL]
   rw[yL ⟨trivial,hi⟩]
   lia
  ·rw[r3 j fun z=>hj (zC _ z)]
   simp only[iA,cL]
   have hne:¬ (i=j/\j < s.2.length):=fun z=>hj (z.1 ▸ zE)
   rw[yN hne]
theorem Ag(ho:Off off)(hl:RU W):∀ (is:List Nat) (s:Int×List Int),0<=s.1->0<=(is.foldl (iA W off) s).1
 | [],s,h=>h
 | i::is,s,h=>by
  rw[yI]
  refine Ag ho hl is _ ?_
  simp only[iA,cV]
  have:=ho i;have:=hl i
  lia
theorem LC(h:Wd G T W)(ho:Off off)(hi:i < (aX b G T).length) :
  ((own b W i).map fun k=>(nW W off (bT b G T i).1 (jy b W i (bT b G T i).2)).getD k 0).sum<=(bT b G T i).1:=by
 have e:=i6 hi
 have pm:=dP h e
 rw[<- zv (pm.map fun k=>(nW W off (bT b G T i).1 (jy b W i (bT b G T i).2)).getD k 0)]
 have hn:(jy b W i (bT b G T i).2).Nodup:=pm.nodup_iff.mpr (List.nodup_range.filter _)
 obtain⟨_,r2,_⟩:=D9 (W:=W) (off:=off) (amt:=0) (jy b W i (bT b G T i).2) ((bT b G T i).1,List.replicate W.length 0) hn fun k hk=>by
  have hk':=(cu.mp (pm.mem_iff.mp hk)).1
  refine⟨by simpa using hk',by simp[zG,hk']⟩
 have:=Ag ho h.lim (jy b W i (bT b G T i).2) ((bT b G T i).1,List.replicate W.length 0) (h.amt b i)
 unfold nW
 rw[r2]
 show (bT b G T i).1 - _<=(bT b G T i).1
 lia
theorem DH(h:Wd G T W)(ho:Off off)(hi:i < (aX b G T).length):mK b W (bp b G T W off) i<=(bT b G T i).1:=by
 refine jU (Int.le_of_eq ?_) (LC h ho hi)
 unfold mK
 congr 1
 refine yH fun k hk=>?_
 obtain⟨hk',he⟩:=cu.mp hk
 have:=HV (off:=off) h b hk'
 rw[he,yG] at this
 exact this
theorem Fd{P Q:List Int}{p:Int}(h:∀k,k < W.length->P.getD k 0=Q.getD k 0):mK b W P p=mK b W Q p:=by
 unfold mK
 congr 1
 exact yH fun k hk=>h k (cu.mp hk).1
theorem LU(h:Wd G T W)(ho:Off c)(hc:∀k,k < W.length->c.getD k 0<=(az W k).2.2)(e:sR G T W c=none):Pn G T W (bp false G T W c) where
 len:=fF _ _ _ _ _
 bd:=fun k hk=>⟨jb h ho false k,jU (BO h ho false hk) (hc k hk)⟩
 am:=fun b i hi=>by
  cases b
  ·exact DH h ho hi
  ·have hke:∀k,k < W.length->(jz G T W c).getD k 0=(bp false G T W c).getD k 0:=fun k hk=>by
    have h1:=BO h (jb h ho false) true hk
    have h2:qR G T W c k=false:=by
     unfold sR at e
     rw[Option.map_eq_none_iff] at e
     have:=List.find?_eq_none.mp e k (by simpa using hk)
     simpa using this
    unfold qR at h2
    have h3:=wW h2
    unfold jz at h3 ⊢
    lia
   rw[<- Fd hke]
   exact DH h (jb h ho false) hi
end
def FO(G T:List Pl)(W:List Wy)(P:List Int):Bool :=
 ((List.range G.length).all fun i=>decide (mK false W P i<=(bT false G T i).1))&&((List.range T.length).all fun i=>decide (mK true W P i<=(bT true G T i).1))
def zs(n:Nat):List Int:=List.replicate n 0
section
variable {W:List Wy}{G T:List Pl}{d:Nat->Int}
theorem J9:FO G T W P=true↔∀ (b:Bool) (i:Nat),i < (aX b G T).length->mK b W P i<=(bT b G T i).1:=by
 unfold FO
 rw[zF,xG,xG]
 constructor
 ·rintro⟨h1,h2⟩ b i hi
  cases b
  ·exact yQ (h1 i (by simpa [aX] using hi))
  ·exact yQ (h2 i (by simpa [aX] using hi))
 ·intro h
  exact⟨fun i hi=>yA (h false i (by simpa [aX] using hi)),fun i hi=>yA (h true i (by simpa [aX] using hi))⟩
theorem Pn.fit(p:Pn G T W P):FO G T W P=true:=J9.mpr p.am
end
theorem uM{tt:Dl.Env->Option Bool}{te:Dl.Env->Option D}{r:List (Option D)}{x y h:Nat->D}{p:Nat->Bool}:∀ (is:List Nat),
  (∀i∈is,tt (some (x i)::some (y i)::r)=some (p i)/\(p i=true->te (some (x i)::some (y i)::r)=some (h i))) ->
  cG (ft 0 1) tt te (none::none::r) (is.map fun i=>.tuple [x i,y i])=some ((is.filter p).map h)
 | [],_=>rfl
 | i::is,hh=>by
  obtain⟨h1,h2⟩:=hh i zE
  have ih:=uM is fun j hj=>hh j (zC _ hj)
  have hg:ft 0 1 (none::none::r) (.tuple [x i,y i])=some (some (x i)::some (y i)::r):=by
   simp only[ft,isFree,xQ,yY,qG,wX,jP,xH,yV,yW]
  rw[zI,cG,hg]
  simp only[zA,h1]
  cases hp:p i with
  | true=>simp[h2 hp,ih,hp]
  | false=>simp[ih,hp]
theorem iy{x y h:Nat->D}{p:Nat->Bool}(hfi:fi ρ=some ((List.range n).map fun i=>.tuple [x i,y i]))(hl:n<=1000)
  (hh:∀i,i < n->tt (some (x i)::some (y i)::cs.map fun j=>(ρ[j]?).getD none)=some (p i)/\(p i=true->te (some (x i)::some (y i)::cs.map fun j=>(ρ[j]?).getD none)=some (h i))) :
  ao 2 cs fi (ft 0 1) tt te ρ=some (((List.range n).filter p).map h):=by
 have:=uM (tt:=tt) (te:=te) (r:=cs.map fun j=>(ρ[j]?).getD none) (p:=p) (h:=h) (List.range n) fun i hi=>hh i (by simpa using hi)
 simp only[ao,hfi,zA,ej,List.replicate,xF,xO,this]
 refine bj ?_
 rw[zD]
 refine yD (xP _ _) ?_
 rw[zR]
 lia
theorem uJ(h:P.length=W.length):gx (W.map ar) (P.map PyData.int)=(List.range W.length).map fun i=>.tuple [ar (az W i),.int (P.getD i 0)]:=by
 apply List.ext_getElem?
 intro i
 by_cases hi:i < W.length
 ·have hz:i < (gx (W.map ar) (P.map PyData.int)).length:=by rw[nH];simp[h];exact hi
  rw[zK hz]
  obtain⟨x,y,e1,e2,e3⟩:=rQ (zK hz)
  rw[zO,nR hi] at e1
  rw[zO,zK (by lia)] at e2
  cases e1
  have e2:PyData.int P[i]=y:=by simpa using e2
  rw[e3,<- e2]
  have:i < P.length:=by lia
  simp[hi,this,zG]
 ·rw[jM (by rw[nH];simp;lia),jM (by simp;lia)]
def Sm(P:List Int):Prop:=∀k,-1000000<=P.getD k 0/\P.getD k 0<=1000000
theorem EN(hs:Sm P)(hw:W.length<=16)(b:Bool)(p:Int):Oo ((own b W p).map fun i=>P.getD i 0)=true:=by
 unfold Oo
 rw[zF,zJ,xG]
 refine⟨?_,fun x hx=>?_⟩
 ·have:=Du b W p
  rw[zD]
  lia
 ·obtain⟨i,_,rfl⟩:=List.mem_map.mp hx
  rw[zF,zJ,zJ]
  exact hs i
theorem FM(h:Wd G T W)(hp:P.length=W.length)(hs:Sm P)(b:Bool)(p:Int):fU [aB G T W,ag P,.int (sI b),.int p]=some (.int (mK b W P p)):=by
 have hw:=h.wl
 refine aR ?_
 show n6 [.val (aB G T W),.val (ag P),.val (.int (sI b)),.val (.int p)]=_
 have hz:ck (aa (f2 av (ae 0) (fC (.int 2))) (aa (ae 1) af)) [some (aB G T W),some (ag P),some (.int (sI b)),some (.int p)]=some ((List.range W.length).map fun i=>.tuple [ar (az W i),.int (P.getD i 0)]):=by
  rw[<- uJ hp]
  rfl
 have c:ao 2 [2,3] (ck (aa (f2 av (ae 0) (fC (.int 2))) (aa (ae 1) af))) (ft 0 1) (fB (f2 aP (f2 av (ae 0) (ae 2)) (ae 3))) (ae 1) [some (aB G T W),some (ag P),some (.int (sI b)),some (.int p)]=some ((own b W p).map fun i=>.int (P.getD i 0)):=by
  rw[iy (p:=fun i=>decide (aS b (az W i)=p)) (h:=fun i=>.int (P.getD i 0)) hz (by lia) fun i hi=>⟨?_,fun _=>rfl⟩]
  ·rfl
  ·show fB (f2 aP (f2 av (ae 0) (ae 2)) (ae 3)) [some (ar (az W i)),some (.int (P.getD i 0)),some (.int (sI b)),some (.int p)]=_
   exact cg (by rw[iu (a:=.int (aS b (az W i))) (b:=.int p) (aC (i8 b _) rfl rfl) rfl,bE])
 refine aY ?_
 have e:((own b W p).map fun i=>PyData.int (P.getD i 0))=((own b W p).map fun i=>P.getD i 0).map PyData.int:=by rw[zM];rfl
 show bA sZ (aa (cn (ao 2 [2,3] (ck (aa (f2 av (ae 0) (fC (.int 2))) (aa (ae 1) af))) (ft 0 1) (fB (f2 aP (f2 av (ae 0) (ae 2)) (ae 3))) (ae 1))) af) [some (aB G T W),some (ag P),some (.int (sI b)),some (.int p)]=_
 rw[e] at c
 simp only[bA,aa,af,cn,c,zB,zA]
 show sZ [.list (((own b W p).map fun i=>P.getD i 0).map PyData.int)]=_
 simp only[sZ,cK,oneOf,fE,zA,di,EN hs hw b p,xH]
 rfl
theorem rG(L:List Pl):bG 0 (L.map bc)=(List.range L.length).map fun i=>.tuple [nD i,bc (L.getD i (0,[]))]:=by
 rw[enum_zip]
 apply jH
 ·simp
 ·intro i h1 h2
  have:i < L.length:=by simpa using h2
  simp[this,zG]
theorem uk{p:Nat->Bool}(is:List Nat):m7 [.list (is.map fun i=>.bool (p i))]=some (.bool (is.all p)):=by
 have:∀is:List Nat,boolsOf (is.map fun i=>PyData.bool (p i))=some (is.map p):=fun is=>by
  induction is with
  | nil=>rfl
  | cons i is ih=>simp[boolsOf,ih]
 simp only[m7,oneOf,zA,this,zB,List.all_map]
 rfl
theorem DY(h:Wd G T W)(hp:P.length=W.length)(hs:Sm P)(b:Bool):cN [aB G T W,ag P,.int (sI b)]=some (.bool ((List.range (aX b G T).length).all fun i=>decide (mK b W P i<=(bT b G T i).1))):=by
 have hl:=h.pl b
 refine aR ?_
 show e9 [.val (aB G T W),.val (ag P),.val (.int (sI b))]=_
 have he:bH (aa (f2 av (ae 0) (ae 2)) af) [some (aB G T W),some (ag P),some (.int (sI b))]=some ((List.range (aX b G T).length).map fun i=>.tuple [nD i,bc (bT b G T i)]):=by
  have:=rG (aX b G T)
  unfold bT
  rw[<- this]
  cases b<;>rfl
 have c:=iy (cs:=[0,1,2]) (tt:=fun _=>some true) (te:=f2 EK (ai 4 fU (aa (ae 2) (aa (ae 3) (aa (ae 4) (aa (ae 0) af))))) (f2 av (ae 1) (fC (.int 0)))) (p:=fun _=>true) (h:=fun i=>.bool (decide (mK b W P i<=(bT b G T i).1))) he (by lia) fun i hi=>⟨rfl,fun _=>aC (a:=.int (mK b W P i)) (b:=.int (bT b G T i).1) rfl (call_of (FM h hp hs b i) rfl rfl) rfl⟩
 refine aY ?_
 show bA m7 (aa (cn (ao 2 [0,1,2] (bH (aa (f2 av (ae 0) (ae 2)) af)) (ft 0 1) (fun _=>some true) (f2 EK (ai 4 fU (aa (ae 2) (aa (ae 3) (aa (ae 4) (aa (ae 0) af))))) (f2 av (ae 1) (fC (.int 0)))))) af) [some (aB G T W),some (ag P),some (.int (sI b))]=_
 simp only[bA,aa,af,cn,c,zB,zA]
 rw[show (List.range (aX b G T).length).filter (fun _=>true)=List.range (aX b G T).length by simp,uk]
theorem Jg{d:D}(ha:fa ρ=some (.bool true))(hb:fb ρ=some d):lP fa fb ρ=some d:=by
 simp only[lP,ha,zA,hb]
theorem Ls(ha:fa ρ=some (.bool false)):lP fa fb ρ=some (.bool false):=by
 simp only[lP,ha,zA]
theorem Mm{a b:Bool}(ha:fa ρ=some (.bool a))(hb:fb ρ=some (.bool b)):lP fa fb ρ=some (.bool (a&&b)):=by
 cases a
 ·exact Ls ha
 ·exact Jg ha hb
theorem BS{g:List D->Option D}{d:D}(h:f ρ=some d):bA g (aa f af) ρ=g [d]:=by
 simp only[bA,aa,af,h,zB,zA]
theorem B1{α:Type}{k:α->D}{l:List α}(h:f ρ=some (.tuple (l.map k))):bA bS (aa f af) ρ=some (nD l.length):=by
 rw[BS h,Dv,zD]
def QE(W:List Wy)(P:List Int):Bool:=(List.range W.length).all fun k=>decide (0<=P.getD k 0)&&decide (P.getD k 0<=(az W k).2.2)
def DM(b:Bool)(G T:List Pl)(W:List Wy)(P:List Int):Bool:=(List.range (aX b G T).length).all fun i=>decide (mK b W P i<=(bT b G T i).1)
def K8(G T:List Pl)(W:List Wy)(P:List Int):Bool:=QE W P&&(DM false G T W P&&DM true G T W P)
theorem yu(hp:P.length=W.length):K8 G T W P=true↔Pn G T W P:=by
 simp only[K8,QE,DM,zF,xG,zS,zJ]
 constructor
 ·rintro⟨h1,h2,h3⟩
  exact⟨hp,h1,fun b=>by cases b<;>assumption⟩
 ·intro p
  exact⟨p.bd,p.am false,p.am true⟩
theorem Nu(P:List Int):pq (ag P)=true:=rfl
theorem FC(h:Wd G T W)(hp:P.length=W.length)(hs:Sm P):fV [aB G T W,ag P]=some (.bool (K8 G T W P)):=by
 have hw:=h.wl
 have hlen:(P.map PyData.int).length=W.length:=by rw[zD,hp]
 refine aR ?_
 show lJ [.val (aB G T W),.val (ag P),.non]=_
 unfold lJ
 have t1:Dl.aF 2 [0] (f2 av (ae 0) (fC (.int 2))) [.val (aB G T W),.val (ag P),.non]=some (.nx [.val (aB G T W),.val (ag P),.val (.tuple (W.map ar))]):=cw (d:=.tuple (W.map ar)) rfl rfl rfl rfl
 rw[aq t1]
 have el:bo [ag P,nD W.length,nD W.length]=some (.bool true):=by
  rw[show nD W.length=.int ((W.length:Nat):Int) from rfl,eC (Nu P)]
  simp[long,ag,hp]
 have hl:∀ρ:Dl.Env,ae 2 ρ=some (.tuple (W.map ar))->bA bS (aa (ae 2) af) ρ=some (nD W.length):=fun ρ hr=>B1 hr
 have c1:(cm (fB (ai 3 bo (aa (ae 1) (aa (bA bS (aa (ae 2) af)) (aa (bA bS (aa (ae 2) af)) af)))))) (aI [.val (aB G T W),.val (ag P),.val (.tuple (W.map ar))])=some false :=
  iY (cg (call_of el (cons_of rfl (cons_of (hl _ rfl) (cons_of (hl _ rfl) rfl))) rfl))
 rw[aq (d9 c1)]
 have hz:ck (aa (ae 2) (aa (ae 1) af)) [some (aB G T W),some (ag P),some (.tuple (W.map ar))]=some ((List.range W.length).map fun i=>.tuple [ar (az W i),.int (P.getD i 0)]):=by
  rw[<- uJ hp]
  rfl
 have c2:=iy (cs:=[]) (tt:=fun _=>some true) (te:=ai 3 bC (aa (ae 1) (aa (fC (.int 0)) (aa (f2 av (ae 0) (fC (.int 2))) af)))) (p:=fun _=>true) (h:=fun k=>.bool (decide (0<=P.getD k 0)&&decide (P.getD k 0<=(az W k).2.2))) hz (by lia)
  fun i hi=>⟨rfl,fun _=>call_of (iX (d:=.int (P.getD i 0)) rfl 0 (az W i).2.2) rfl rfl⟩
 have hall:(fB (bA m7 (aa (cn (ao 2 [] (ck (aa (ae 2) (aa (ae 1) af))) (ft 0 1) (fun _=>some true) (ai 3 bC (aa (ae 1) (aa (fC (.int 0)) (aa (f2 av (ae 0) (fC (.int 2))) af)))))) af))) [some (aB G T W),some (ag P),some (.tuple (W.map ar))]=some (QE W P):=by
  refine cg ?_
  simp only[bA,aa,af,cn,c2,zB,zA]
  rw[show (List.range W.length).filter (fun _=>true)=List.range W.length by simp,uk]
  rfl
 have k0:=DY h hp hs false
 have k1:=DY h hp hs true
 cases hb:QE W P with
 | false =>
  rw[hb] at hall
  refine ki ((fI (iY hall)).trans ?_)
  rw[K8,hb]
  exact aY rfl
 | true =>
  rw[hb] at hall
  rw[aq (d9 (iY hall)),K8,hb,jL]
  exact aY (Mm (call_of k0 rfl rfl) (call_of k1 rfl rfl))
theorem HA(hk:k < W.length):az W k∈W:=iW hk ▸ qA hk
theorem Pn.smP(h:Wd G T W)(p:Pn G T W P):Sm P:=fun k=>by
 by_cases hk:k < W.length
 ·have:=p.bd k hk
  have:=(h.wr _ (HA hk)).2.2.2
  lia
 ·rw[zG,jM (by rw[p.len];lia)]
  simp
section
variable {G T:List Pl}{W:List Wy}{P:List Int}
theorem tQ(h:Wd G T W)(p:Pn G T W P):fV [aB G T W,ag P]=some (.bool true):=by
 rw[FC h p.len (p.smP h),(yu p.len).mpr p]
theorem yx(h:Wd G T W)(p:Pn G T W P):fN [aB G T W,ag P]=some .none:=by
 have:dR [.val (aB G T W),.val (ag P)]=some (.nx [.val (aB G T W),.val (ag P)]):=by
  unfold dR
  refine (aq (yy (call_of (ib h) rfl rfl))).trans ?_
  exact d9 (iY (cg (call_of (tQ h p) rfl rfl)))
 show (dR [.val (aB G T W),.val (ag P)]).map _=_
 rw[this]
 rfl
end
def ny(W:List Wy)(i:Nat):List Int:=[(az W i).2.1,(az W i).1]
def gQ(W:List Wy):List (List Int):=(List.range W.length).map (ny W)
def bU(W:List Wy):List Nat:=pO (fun i=>rk (gQ W) ((gQ W).getD i [])) (List.range W.length) 0
theorem Hj(z:Nat->Int)(n:Nat):pO z ((List.range n).map nD) .none=(pO z (List.range n) 0).map nD:=by
 unfold pO
 rw[zD]
 split
 ·rfl
 ·rename_i h
  rw[zM]
  obtain⟨hp,_⟩:=SP.gG (z:=z) (n:=(List.range n).length) (by lia)
  refine yH fun i hi=>?_
  have hi':i < (List.range n).length:=by have:=hp.mem_iff.mp hi;simpa using this
  rw[zR] at hi'
  simp[hi']
theorem Hm(hi:i < W.length):(gQ W).getD i []=ny W i:=by
 simp[gQ,hi]
theorem dB(h:uh W):Ord W (bU W) where
 perm:=gc _ _ _
 up:=by
  have hp:(bU W).Perm (List.range W.length):=gc _ _ _
  have hs:(bU W).Pairwise fun i j=>rk (gQ W) (ny W i)<=rk (gQ W) (ny W j):=by
   refine rY _ _ _ (fun i=>rk (gQ W) (ny W i)) fun i hi=>?_
   rw[zR] at hi
   have e:(List.range W.length).getD i 0=i:=by simp[hi]
   show rk (gQ W) ((gQ W).getD i [])=rk (gQ W) (ny W ((List.range W.length).getD i 0))
   rw[e,Hm hi]
  have hn:(bU W).Nodup:=hp.nodup_iff.mpr List.nodup_range
  refine (hs.and hn).imp_of_mem fun {i j} hi hj hij=>?_
  have hi':i < W.length:=by have:=hp.mem_iff.mp hi;simpa using this
  have hj':j < W.length:=by have:=hp.mem_iff.mp hj;simpa using this
  obtain⟨hle,hne⟩:=hij
  have mj:ny W j∈gQ W:=List.mem_map.mpr ⟨j,by simpa using hj',rfl⟩
  have n1:Dl.lexLt (ny W j) (ny W i)=false:=by
   rw[EB mj,xB]
   lia
  simp only[ny,HT.lexLt] at n1
  by_cases e1:(az W j).2.1=(az W i).2.1
  ·rw[yL e1] at n1
   by_cases e2:(az W j).1=(az W i).1
   ·exact absurd (vm h hj' hi' e2 e1).symm hne
   ·rw[yN e2,xB] at n1
    exact .inr ⟨e1.symm,by lia⟩
  ·rw[yN e1,xB] at n1
   exact .inl (by lia)
theorem tup_is{fs:Dl.Env->Option (List D)}(h:fs ρ=some ds)(hl:ds.length<=1000):aJ fs ρ=some (.tuple ds):=by
 simp only[aJ,h,zA,bj (show ds.length<=4000 by lia),zB]
theorem RF(w:Wy):av (ar w) (.int 0)=some (.int w.1):=rfl
theorem R1(w:Wy):av (ar w) (.int 1)=some (.int w.2.1):=rfl
section
variable {G T:List Pl}{W:List Wy}{P:List Int}
theorem kq(h:Wd G T W):bg [aB G T W]=some (.list ((bU W).map nD)):=by
 have hw:=h.wl
 have t1:Dl.aF 1 [0] (f2 av (ae 0) (fC (.int 2))) [.val (aB G T W),.non]=some (.nx [.val (aB G T W),.val (.tuple (W.map ar))]):=cw (d:=.tuple (W.map ar)) rfl rfl rfl rfl
 have hl:(bA bS (aa (ae 1) af)) [some (aB G T W),some (.tuple (W.map ar))]=some (nD W.length):=B1 (l:=W) (k:=ar) rfl
 have hk:iC (aJ (aa (f2 av (f2 av (ae 1) (ae 0)) (fC (.int 1))) (aa (f2 av (f2 av (ae 1) (ae 0)) (fC (.int 0))) af))) [none,some (.tuple (W.map ar))] ((List.range W.length).map nD)=some (((List.range W.length).map nD).map fun d=>ag (ny W (iO d).toNat)):=by
  refine oI fun d hd=>?_
  obtain⟨j,hj,rfl⟩:=List.mem_map.mp hd
  have hj':j < W.length:=by simpa using hj
  have a:∀ρ:Dl.Env,ae 1 ρ=some (.tuple (W.map ar))->ae 0 ρ=some (nD j)->(f2 av (ae 1) (ae 0)) ρ=some (ar (az W j)):=fun ρ e1 e2=>aC (ow hj') e1 e2
  show aJ (aa (f2 av (f2 av (ae 1) (ae 0)) (fC (.int 1))) (aa (f2 av (f2 av (ae 1) (ae 0)) (fC (.int 0))) af)) [some (nD j),some (.tuple (W.map ar))]=_
  have c2:(aa (f2 av (f2 av (ae 1) (ae 0)) (fC (.int 1))) (aa (f2 av (f2 av (ae 1) (ae 0)) (fC (.int 0))) af)) [some (nD j),some (.tuple (W.map ar))]=some [.int (az W j).2.1,.int (az W j).1] :=
   cons_of (aC (R1 (az W j)) (a _ rfl rfl) rfl) (cons_of (aC (RF (az W j)) (a _ rfl rfl) rfl) rfl)
  rw[tup_is c2 (by simp)]
  simp[iO,ny,ag]
 have hr:rowsOf (((List.range W.length).map nD).map fun d=>ag (ny W (iO d).toNat))=some (gQ W):=by
  have e:(((List.range W.length).map nD).map fun d=>ag (ny W (iO d).toNat))=(gQ W).map ag:=by
   simp only[zM,gQ]
   refine yH fun j hj=>?_
   simp[iO]
  rw[e,my]
  intro ns hns
  obtain⟨j,_,rfl⟩:=List.mem_map.mp hns
  exact List.cons_ne_nil _ _
 refine aR ?_
 show ee [.val (aB G T W),.non]=_
 unfold ee
 rw[aq t1]
 refine aY ?_
 have es:qg [1] (aa (bA bS (aa (ae 1) af)) af) (aJ (aa (f2 av (f2 av (ae 1) (ae 0)) (fC (.int 1))) (aa (f2 av (f2 av (ae 1) (ae 0)) (fC (.int 0))) af))) [some (aB G T W),some (.tuple (W.map ar))]=some ((bU W).map nD):=by
  unfold qg
  rw[cons_of hl rfl,zA]
  show (if (0:Int)<=((W.length:Nat):Int)/\((W.length:Nat):Int) < 64 then _ else none)=_
  rw[yL ⟨by lia,by lia⟩,yG]
  show (iC _ [none,some (.tuple (W.map ar))] ((List.range W.length).map nD)).bind _=_
  rw[hk,zA,hr,zB]
  exact jC some (Hj _ _)
 show cn _ [some (aB G T W),some (.tuple (W.map ar))]=_
 simp only[cn,es,zB]
theorem lq{f:Nat->D}(hfi:fi ρ=some (is.map nD))(hl:is.length<=1000)(hh:∀i∈is,te (some (nD i)::cs.map fun j=>(ρ[j]?).getD none)=some (f i)):ao 1 cs fi (fG 0) (fun _=>some true) te ρ=some (is.map f):=by
 rw[cx (h:=fun d=>f (iO d).toNat) hfi (by rw[zD];lia) fun d hd=>?_]
 ·rw[zM]
  refine jC some (yH fun i _=>?_)
  simp[iO]
 ·obtain⟨i,hi,rfl⟩:=List.mem_map.mp hd
  rw[hh i hi]
  simp[iO]
theorem sr{m:List D->Option D}{fs:Dl.Env->Option (List D)}{ds es:List D}(h:m ds=some (.list es))(hf:fs ρ=some ds)(hn:ds.length=n):aQ (ai n m fs) ρ=some es:=by
 simp only[aQ,call_of h hf hn,zA,fE]
theorem EL(h:uh W)(hi:i∈bU W):i < W.length:=by
 have:=(dB h).perm.mem_iff.mp hi
 simpa using this
theorem A2(h:uh W):(bU W).length=W.length:=(dB h).len
theorem o8{r:List (Option D)}:∀ (l:List Wy),cG (Kq 0 1 2) (fun _=>some true) (aJ (aa (ae 1) (aa (ae 0) (aa (ae 2) af)))) (none::none::none::r) (l.map ar)=some ((l.map Oz).map ar)
 | []=>rfl
 | w::l=>by
  have ih:=o8 (r:=r) l
  have hg:Kq 0 1 2 (none::none::none::r) (ar w)=some (some (.int w.1)::some (.int w.2.1)::some (.int w.2.2)::r):=rfl
  rw[zI,cG,hg,zA]
  have e:aJ (aa (ae 1) (aa (ae 0) (aa (ae 2) af))) (some (.int w.1)::some (.int w.2.1)::some (.int w.2.2)::r)=some (ar (Oz w)):=rfl
  simp only[zA,xH,e,ih,zB,zI]
theorem Av(h:Wd G T W):eU [aB G T W]=some (aB T G (eh W (bU W))):=by
 have hw:=h.wl
 have hn:=A2 h.wp
 refine aR ?_
 show iG [.val (aB G T W),.non]=_
 unfold iG
 refine (aq (yy (call_of (ib h) rfl rfl))).trans ?_
 have c:ao 1 [0] (aQ (ai 1 bg (aa (ae 0) af))) (fG 0) (fun _=>some true) (f2 av (f2 av (ae 1) (fC (.int 2))) (ae 0)) [some (aB G T W),none]=some ((bU W).map fun i=>ar (az W i)) :=
  lq (sr (kq h) rfl rfl) (by lia) fun i hi=>aC (ow (EL h.wp hi)) rfl rfl
 have t2:aG 1 [0] (ao 1 [0] (aQ (ai 1 bg (aa (ae 0) af))) (fG 0) (fun _=>some true) (f2 av (f2 av (ae 1) (fC (.int 2))) (ae 0))) [.val (aB G T W),.non]=some (.nx [.val (aB G T W),.own ((bU W).map fun i=>ar (az W i))]):=dF c rfl
 rw[aq t2]
 refine aY ?_
 have e3:ao 3 [] (aQ (ae 1)) (Kq 0 1 2) (fun _=>some true) (aJ (aa (ae 1) (aa (ae 0) (aa (ae 2) af)))) [some (aB G T W),some (.list ((bU W).map fun i=>ar (az W i)))]=some ((eh W (bU W)).map ar):=by
  have:=o8 (r:=[]) ((bU W).map fun i=>az W i)
  rw[zM,zM] at this
  have hf:aQ (ae 1) [some (aB G T W),some (.list ((bU W).map fun i=>ar (az W i)))]=some ((bU W).map fun i=>ar (az W i)):=rfl
  unfold ao
  rw[hf,zA]
  show (cG (Kq 0 1 2) (fun _=>some true) (aJ (aa (ae 1) (aa (ae 0) (aa (ae 2) af)))) [none,none,none] ((bU W).map fun i=>ar (az W i))).bind small=_
  rw[show ((bU W).map fun i=>ar (az W i))=List.map (ar ∘ fun i=>az W i) (bU W) from rfl,this,zA]
  rw[bj (by simp;lia),eh]
  simp only[zM]
  rfl
 show aJ (aa (f2 av (ae 0) (fC (.int 1))) (aa (f2 av (ae 0) (fC (.int 0))) (aa (bA bw (aa (cn (ao 3 [] (aQ (ae 1)) (Kq 0 1 2) (fun _=>some true) (aJ (aa (ae 1) (aa (ae 0) (aa (ae 2) af)))))) af)) af))) [some (aB G T W),some (.list ((bU W).map fun i=>ar (az W i)))]=_
 have e4:(bA bw (aa (cn (ao 3 [] (aQ (ae 1)) (Kq 0 1 2) (fun _=>some true) (aJ (aa (ae 1) (aa (ae 0) (aa (ae 2) af)))))) af)) [some (aB G T W),some (.list ((bU W).map fun i=>ar (az W i)))]=some (.tuple ((eh W (bU W)).map ar)):=by
  simp only[bA,aa,af,cn,e3,zB,zA,CV]
 exact tup_is (ds:=[.tuple (T.map bc),.tuple (G.map bc),.tuple ((eh W (bU W)).map ar)]) (cons_of (aC (a:=aB G T W) (b:=.int 1) (c:=.tuple (T.map bc)) rfl rfl rfl) (cons_of (aC (a:=aB G T W) (b:=.int 0) (c:=.tuple (G.map bc)) rfl rfl rfl) (cons_of e4 rfl))) (by simp)
theorem ub(h:Wd G T W)(p:Pn G T W P):eK [aB G T W,ag P]=some (ag (l6 P (bU W))):=by
 have hw:=h.wl
 have hn:=A2 h.wp
 refine aR ?_
 show eI [.val (aB G T W),.val (ag P)]=_
 unfold eI
 refine (aq (yy (call_of (yx h p) rfl rfl))).trans ?_
 have c:ao 1 [1] (aQ (ai 1 bg (aa (ae 0) af))) (fG 0) (fun _=>some true) (f2 av (ae 1) (ae 0)) [some (aB G T W),some (ag P)]=some ((bU W).map fun i=>.int (P.getD i 0)) :=
  lq (sr (kq h) rfl rfl) (by lia) fun i hi=>aC (qj (by rw[p.len];exact EL h.wp hi)) rfl rfl
 refine aY ?_
 show bA bw (aa (cn (ao 1 [1] (aQ (ai 1 bg (aa (ae 0) af))) (fG 0) (fun _=>some true) (f2 av (ae 1) (ae 0)))) af) [some (aB G T W),some (ag P)]=_
 simp only[bA,aa,af,cn,c,zB,zA,CV]
 simp[ag,l6]
end
section
variable {G T:List Pl}{W:List Wy}{P:List Int}
def P5:Nat->D|0=>.str "full" | 1=>.str "giver" | 2=>.str "taker" | _=>.none
theorem Nq(G T:List Pl)(W:List Wy)(P:List Int)(k:Nat):rR G T W P k<=3:=by
 unfold rR
 split
 ·lia
 ·split
  ·lia
  ·split<;>lia
theorem KA(n:Nat)(h:n<=3):Az (P5 n) .none=some (.bool (decide (n=3))):=by
 match n,h with
 | 0,_=>rfl
 | 1,_=>rfl
 | 2,_=>rfl
 | 3,_=>rfl
theorem Jq(hp:P.length=W.length)(hf:f ρ=some (ag P)):(aa (bA bS (aa f af)) af) ρ=some [nD W.length]:=by
 have:=yz P
 rw[hp] at this
 refine cons_of ?_ rfl
 rw[BS hf,this]
theorem oY{tt:Dl.Env->Option Bool}{te:Dl.Env->Option D}{r:List (Option D)}{f:Nat->D}{q:Nat->Bool}:∀ (is:List Nat),(∀i∈is,tt (some (nD i)::r)=some (q i)/\(q i=true->te (some (nD i)::r)=some (f i)))->cG (fG 0) tt te (none::r) (is.map nD)=some ((is.filter q).map f)
 | [],_=>rfl
 | i::is,h=>by
  have ih:=oY (tt:=tt) (te:=te) (r:=r) (f:=f) (q:=q) is fun j hj=>h j (zC _ hj)
  obtain⟨h1,h2⟩:=h i zE
  have hg:fG 0 (none::r) (nD i)=some (some (nD i)::r):=rfl
  rw[zI,cG,hg,zA,h1,zA,jX]
  cases e:q i with
  | true =>
   rw[yL rfl,yL rfl,h2 e,zA,ih]
   rfl
  | false =>
   rw[yN (by simp),yN (by simp),ih]
theorem C0{f:Nat->D}{q:Nat->Bool}(hfi:fi ρ=some (is.map nD))(hl:is.length<=1000)(hh:∀i∈is,tt (some (nD i)::cs.map fun j=>(ρ[j]?).getD none)=some (q i)/\(q i=true->te (some (nD i)::cs.map fun j=>(ρ[j]?).getD none)=some (f i))):ao 1 cs fi (fG 0) tt te ρ=some ((is.filter q).map f):=by
 have:=oY is hh
 simp only[ao,hfi,zA,ej,List.replicate,xF,xO,this]
 refine bj ?_
 rw[zD]
 refine yD (xP _ _) ?_
 lia
theorem tO(h:Wd G T W)(hb:aH [aB T G (eh W (bU W))]=some (ag c))(p:Pn T G (eh W (bU W)) c):bq [aB G T W]=some (ag (l6 c (bU (eh W (bU W))))):=by
 have o:=dB h.wp
 have h':=o.wd h
 refine aR ?_
 show cR [.val (aB G T W),.non]=_
 unfold cR
 have t1:Dl.aF 1 [0] (ai 1 eU (aa (ae 0) af)) [.val (aB G T W),.non]=some (.nx [.val (aB G T W),.val (aB T G (eh W (bU W)))]):=cO (call_of (Av h) rfl rfl) (call_of (Av h) rfl rfl) rfl
 rw[aq t1]
 exact aY (call_of (ub h' p) (cons_of rfl (cons_of (call_of hb rfl rfl) rfl)) rfl)
end
section
variable {G T:List Pl}{W:List Wy}{P:List Int}
theorem mi(h:P.length=W.length):gx (P.map PyData.int) (W.map ar)=(List.range W.length).map fun i=>.tuple [.int (P.getD i 0),ar (az W i)]:=by
 have:∀ (a:List Int) (l:List Wy),a.length=l.length->gx (a.map PyData.int) (l.map ar)=(List.range l.length).map fun i=>.tuple [.int (a.getD i 0),ar (az l i)]:=by
  intro a
  induction a with
  | nil=>intro l e;cases l with|nil=>rfl|cons _ _=>simp at e
  | cons x a ih =>
   intro l e
   cases l with
   | nil=>simp at e
   | cons w l =>
    rw[zI,zI,gx,ih l (by simpa using e),zL,vT,zI,zM]
    rfl
 exact this P W h
theorem qu(h:Wd G T W)(hp:P.length=W.length)(hs:Sm P)(b:Bool)(p:Int):bN [aB G T W,ag P,.int (sI b),.int p]=some (.int (mK b W P p)):=by
 have hw:=h.wl
 refine aR ?_
 show ku [.val (aB G T W),.val (ag P),.val (.int (sI b)),.val (.int p)]=_
 have hz:ck (aa (ae 1) (aa (f2 av (ae 0) (fC (.int 2))) af)) [some (aB G T W),some (ag P),some (.int (sI b)),some (.int p)]=some ((List.range W.length).map fun i=>.tuple [.int (P.getD i 0),ar (az W i)]):=by
  rw[<- mi hp]
  rfl
 have c:ao 2 [2,3] (ck (aa (ae 1) (aa (f2 av (ae 0) (fC (.int 2))) af))) (ft 0 1) (fB (f2 aP (f2 av (ae 1) (ae 2)) (ae 3))) (ae 0) [some (aB G T W),some (ag P),some (.int (sI b)),some (.int p)]=some ((own b W p).map fun i=>.int (P.getD i 0)):=by
  rw[iy (p:=fun i=>decide (aS b (az W i)=p)) (h:=fun i=>.int (P.getD i 0)) hz (by lia) fun i hi=>⟨?_,fun _=>rfl⟩]
  ·rfl
  ·show fB (f2 aP (f2 av (ae 1) (ae 2)) (ae 3)) [some (.int (P.getD i 0)),some (ar (az W i)),some (.int (sI b)),some (.int p)]=_
   exact cg (by rw[iu (a:=.int (aS b (az W i))) (b:=.int p) (aC (i8 b _) rfl rfl) rfl,bE])
 refine aY ?_
 have e:((own b W p).map fun i=>PyData.int (P.getD i 0))=((own b W p).map fun i=>P.getD i 0).map PyData.int:=by rw[zM];rfl
 show bA sZ (aa (cn (ao 2 [2,3] (ck (aa (ae 1) (aa (f2 av (ae 0) (fC (.int 2))) af))) (ft 0 1) (fB (f2 aP (f2 av (ae 1) (ae 2)) (ae 3))) (ae 0))) af) [some (aB G T W),some (ag P),some (.int (sI b)),some (.int p)]=_
 rw[e] at c
 simp only[bA,aa,af,cn,c,zB,zA]
 show sZ [.list (((own b W p).map fun i=>P.getD i 0).map PyData.int)]=_
 simp only[sZ,cK,oneOf,fE,zA,di,EN hs hw b p,xH]
 rfl
def RD:ak->Option Out:=(cX [0,2] (bH (aa (f2 av (ae 0) (ae 2)) af)) (fJ 3 4) (ij (fB (f2 vd (ai 4 bN (aa (ae 0) (aa (ae 1) (aa (ae 2) (aa (ae 3) af))))) (f2 av (ae 4) (fC (.int 0))))) (aK (fC (.bool false))) gH))
theorem Lc(h:Wd G T W)(hp:P.length=W.length)(hs:Sm P)(b:Bool)(x y:Slot):(DM b G T W P=false->RD [.val (aB G T W),.val (ag P),.val (.int (sI b)),x,y]=some (.rt (.bool false)))/\(DM b G T W P=true->∃x' y',RD [.val (aB G T W),.val (ag P),.val (.int (sI b)),x,y]=some (.nx [.val (aB G T W),.val (ag P),.val (.int (sI b)),x',y'])):=by
 have hl:=h.pl b
 obtain⟨f1,f2'⟩:=fZ (tgt:=fJ 3 4) (gb:=ij (fB (f2 vd (ai 4 bN (aa (ae 0) (aa (ae 1) (aa (ae 2) (aa (ae 3) af))))) (f2 av (ae 4) (fC (.int 0))))) (aK (fC (.bool false))) gH)
  (fun ρ=>∃x y,ρ=[.val (aB G T W),.val (ag P),.val (.int (sI b)),x,y]) (fun i:Nat=>.tuple [nD i,bc (bT b G T i)]) (fun i=>decide ((bT b G T i).1 < mK b W P i)) (fun _=>.bool false)
  (l:=List.range (aX b G T).length) (ρ:=[.val (aB G T W),.val (ag P),.val (.int (sI b)),x,y])
  (fun ρ i hi hρ=>by
   obtain⟨x,y,rfl⟩:=hρ
   have c:(fB (f2 vd (ai 4 bN (aa (ae 0) (aa (ae 1) (aa (ae 2) (aa (ae 3) af))))) (f2 av (ae 4) (fC (.int 0))))) (aI [.val (aB G T W),.val (ag P),.val (.int (sI b)),.val (nD i),.val (bc (bT b G T i))])=some (decide ((bT b G T i).1 < mK b W P i)) :=
    cg (aC (fP _ _) (call_of (qu h hp hs b i) rfl rfl) (aC (a:=bc (bT b G T i)) (b:=.int 0) rfl rfl rfl))
   refine⟨_,rfl,fun hq=>?_,fun hq=>?_⟩
   ·rw[hq] at c
    exact (fI c).trans (aY rfl)
   ·rw[hq] at c
    exact⟨_,d9 c,_,_,rfl⟩) ⟨_,_,rfl⟩
 have he:bH (aa (f2 av (ae 0) (ae 2)) af) (bP [.val (aB G T W),.val (ag P),.val (.int (sI b)),x,y])=some ((List.range (aX b G T).length).map fun i=>.tuple [nD i,bc (bT b G T i)]):=by
  have:=rG (aX b G T)
  unfold bT
  rw[<- this]
  cases b<;>rfl
 have hh:hand [0,2] 0 [Slot.val (aB G T W),.val (ag P),.val (.int (sI b)),x,y]=[Slot.val (aB G T W),.val (ag P),.val (.int (sI b)),x,y]:=rfl
 unfold DM
 constructor
 ·intro hk
  cases e:(List.range (aX b G T).length).find? fun i=>decide ((bT b G T i).1 < mK b W P i) with
  | some i=>exact bK (f1 i e) he hh
  | none =>
   rw[List.find?_eq_none] at e
   rw[List.all_eq_false] at hk
   obtain⟨i,hi,hn⟩:=hk
   have:=e i hi
   simp only[zJ] at this hn
   lia
 ·intro hk
  have e:(List.range (aX b G T).length).find? (fun i=>decide ((bT b G T i).1 < mK b W P i))=none:=by
   rw[List.find?_eq_none]
   intro i hi
   have:=List.all_eq_true.mp hk i hi
   simp only[zJ] at this ⊢
   lia
  obtain⟨ρ',e',x',y',rfl⟩:=f2' e
  exact⟨x',y',bK e' he hh⟩
theorem IA:FO G T W P=(DM false G T W P&&DM true G T W P):=rfl
theorem BF(h:Wd G T W)(hp:P.length=W.length)(hs:Sm P):gN [aB G T W,ag P]=some (.bool (FO G T W P)):=by
 obtain⟨f1,f2'⟩:=fZ (tgt:=kh 2) (gb:=RD)
  (fun ρ=>∃x y z,ρ=[.val (aB G T W),.val (ag P),x,y,z]) (fun b:Bool=>.int (sI b)) (fun b=>!(DM b G T W P)) (fun _=>.bool false)
  (l:=[false,true]) (ρ:=[.val (aB G T W),.val (ag P),.non,.non,.non])
  (fun ρ b _ hρ=>by
   obtain⟨x,y,z,rfl⟩:=hρ
   obtain⟨r1,r2⟩:=Lc h hp hs b y z
   refine⟨_,rfl,fun hq=>?_,fun hq=>?_⟩
   ·exact r1 (by simpa using hq)
   ·obtain⟨x',y',e⟩:=r2 (by simpa using hq)
    exact⟨_,e,_,_,_,rfl⟩) ⟨_,_,_,rfl⟩
 have hr:aZ (aa (fC (.int 2)) af) (bP [.val (aB G T W),.val (ag P),.non,.non,.non])=some ([false,true].map fun b=>.int (sI b)):=mH (n:=2) rfl (by lia)
 refine aR ?_
 show gE [.val (aB G T W),.val (ag P),.non,.non,.non]=_
 unfold gE
 rw[IA]
 cases e0:DM false G T W P with
 | false =>
  have e:[false,true].find? (fun b=>!(DM b G T W P))=some false:=by rw[vV (by simp[e0])]
  exact ki (bK (f1 _ e) hr rfl)
 | true =>
  cases e1:DM true G T W P with
  | false =>
   have e:[false,true].find? (fun b=>!(DM b G T W P))=some true:=by rw[kN (by simp[e0]),vV (by simp[e1])]
   exact ki (bK (f1 _ e) hr rfl)
  | true =>
   have e:[false,true].find? (fun b=>!(DM b G T W P))=none:=by rw[kN (by simp[e0]),kN (by simp[e1])];rfl
   obtain⟨ρ',e',x,y,z,rfl⟩:=f2' e
   exact (aq (bK e' hr rfl)).trans (aY rfl)
end
section
variable {ns:List Int}{G T:List Pl}{W:List Wy}{at':Int}
theorem LX{a b:List Int}(h:a.length+b.length<=1000):Dl.aW (ag a) (ag b)=some (ag (a++b)):=by
 unfold ag
 rw[yq (by simp;lia),jA]
theorem wg{d:D}(h:tc ρ=some true)(ha:fa ρ=some d):Bh tc fa fb ρ=some d:=by
 simp only[Bh,h,zA,ha]
theorem CQ{d:D}(h:tc ρ=some false)(ha:fb ρ=some d):Bh tc fa fb ρ=some d:=by
 simp only[Bh,h,zA,ha]
end
theorem pU{S:Type}(cont:S->Bool)(st:S->S)(μ:S->Nat)(I:S->Prop)(hb:∀s,I s->cont s=true->I (st s)/\μ (st s) < μ s):∀ (n:Nat) (s:S),μ s < n->I s->cont (lp cont st n s)=false/\I (lp cont st n s)
 | 0,s,h,_=>absurd h (by lia)
 | n+1,s,h,i=>by
  rw[lp]
  cases hc:cont s with
  | false=>exact⟨by simpa [hc] using hc,by simpa using i⟩
  | true =>
   obtain⟨i2,hm⟩:=hb s i hc
   have:=pU cont st μ I hb n (st s) (by lia) i2
   simpa using this
section
variable {G T:List Pl}{W:List Wy}
theorem C7(hk:k < W.length):(dO W).getD k 0=(az W k).2.2:=by
 unfold dO
 rw[zG,zO,nR hk]
 rfl
theorem mY(h:Wd G T W):sR G T W (fin G T W).2=none/\BC W (fin G T W)/\∀k,k < W.length->(fin G T W).2.getD k 0<=(az W k).2.2:=by
 have hb:=h.mea
 obtain⟨h1,i,h2⟩:=pU (MX G T W) (spS G T W) (fun s=>mea s.2) (fun s=>BC W s/\∀k,k < W.length->s.2.getD k 0<=(az W k).2.2)
  (fun s ⟨i,l⟩ hc=>by
   obtain⟨p,e⟩:=nK hc
   obtain⟨a,b,c⟩:=EJ h i.off e
   obtain⟨i2,hm⟩:=i.step h e
   refine⟨⟨i2,fun k hk=>?_⟩,hm⟩
   rw[sd e]
   show (s.2.set p.1 p.2).getD k 0<=_
   by_cases z:k=p.1
   ·subst z
    have:=l p.1 a
    have hl:p.1 < s.2.length:=by rw[i.len];exact a
    rw[show (s.2.set p.1 p.2).getD p.1 0=p.2 by simp[hl]]
    lia
   ·rw[show (s.2.set p.1 p.2).getD k 0=s.2.getD k 0 by simp[kX (jN z)]]
    exact l k hk) Rf.turns ([],dO W) (qZ hb (by decide)) ⟨BC.start h,fun k hk=>by rw[C7 hk];lia⟩
 refine⟨?_,i,h2⟩
 have:MX G T W (fin G T W)=false:=h1
 unfold MX at this
 exact Option.isNone_iff_eq_none.mp (by simpa using this)
def sP(G T:List Pl)(W:List Wy):List Int:=bp false G T W (fin G T W).2
theorem ji(h:Wd G T W):Pn G T W (sP G T W):=by
 obtain⟨h1,i,h2⟩:=mY h
 exact LU h i.off h2 h1
theorem Ij(h:Wd G T W):aH [aB G T W]=some (ag (sP G T W)):=tN h
theorem lh:∀ {l:List D},(∀d∈l,PyData.eqv d d=true)->PyData.eqvAll l l=true
 | [],_=>by simp[PyData.eqvAll]
 | d::l,h=>by
  rw[PyData.eqvAll,h d zE,lh fun x hx=>h x (zC _ hx)]
  rfl
theorem Le{l:List D}(h:∀d∈l,PyData.eqv d d=true):PyData.eqv (.tuple l) (.tuple l)=true:=by
 rw[PyData.eqv,lh h]
theorem NZ(a:List Int):PyData.eqv (ag a) (ag a)=true:=by rw[Af];simp
theorem NU(a:Int):PyData.eqv (.int a) (.int a)=true:=by
 have:=NZ [a]
 rw[ag,PyData.eqv,zI,yU,PyData.eqvAll] at this
 simp only[zF] at this
 exact this.1
end
section
variable {W:List Wy}{G T:List Pl}{P off:List Int}
theorem Hh:∀ (xs:List Nat),(∀i∈xs,0<=off.getD i 0)->0<=(xs.map fun i=>off.getD i 0).sum
 | [],_=>by simp
 | i::xs,h=>by
  have:=Hh xs fun j hj=>h j (zC _ hj)
  have:=h i zE
  rw[zI,kE];lia
theorem Ew:∀ (xs:List Nat),(∀i∈xs,0<=P.getD i 0)->(0 < (xs.map fun i=>P.getD i 0).sum↔(xs.any fun i=>decide (0 < P.getD i 0))=true)
 | [],_=>by simp
 | i::xs,h=>by
  have ih:=Ew xs fun j hj=>h j (zC _ hj)
  have h0:=Hh (off:=P) xs fun j hj=>h j (zC _ hj)
  have hi:=h i zE
  rw[zI,kE,vI,jB,zJ,<- ih]
  lia
theorem K2(h:Wd G T W){b:Bool}(hk:k < W.length) :
  let i:=(aS b (az W k)).toNat
  let L:=(bT b G T i).2
  jy b W i L=(L.take (pS L (cy b (az W k)))).map (lV b W i)++k::(L.drop (pS L (cy b (az W k))+1)).map (lV b W i):=by
 intro i L
 obtain⟨h1,h2,h3⟩:=h.end_pl b hk
 have e:=i6 h2
 have hm:cy b (az W k)∈L:=by
  rw[(h.lik e).mem_iff,<- lI]
  exact List.mem_map.mpr ⟨k,cu.mpr ⟨hk,h3.symm⟩,rfl⟩
 have hlt:pS L (cy b (az W k)) < L.length:=by
  unfold pS
  exact kO ⟨_,hm,by simp⟩
 have hg:L[pS L (cy b (az W k))]=cy b (az W k):=by
  have:=wL (w:=hlt)
  exact yQ this
 have hx:lV b W i (cy b (az W k))=k:=Da h.wp (cu.mpr ⟨hk,h3.symm⟩)
 unfold jy
 conv=>lhs;rw[<- List.take_append_drop (pS L (cy b (az W k))) L,vE hlt,hg,jA,zI,hx]
end
def sm(l:List Nat)(f:Nat->Int):Int:=(l.map f).sum
theorem bJ(q:Nat)(l:List Nat)(f:Nat->Int):sm (q::l) f=f q+sm l f:=by simp[sm]
theorem vx(l r:List Nat)(f:Nat->Int):sm (l++r) f=sm l f+sm r f:=by simp[sm]
theorem pP(q:Nat)(f:Nat->Int):sm [q] f=f q:=by simp[sm]
theorem iI:∀ {l:List Nat}{f g:Nat->Int},(∀q∈l,f q=g q)->sm l f=sm l g
 | [],_,_,_=>rfl
 | q::l,f,g,h=>by rw[bJ,bJ,h q zE,iI fun x hx=>h x (zC _ hx)]
theorem Ef:∀ {l:List Nat}{f g:Nat->Int},(∀q∈l,f q<=g q)->sm l f<=sm l g
 | [],_,_,_=>xZ _
 | q::l,f,g,h=>by
  have h1:=h q zE
  have h2:=Ef (l:=l) fun x hx=>h x (zC _ hx)
  rw[bJ,bJ]
  lia
theorem uW{f:Nat->Int}(h:∀q∈l,0<=f q):0<=sm l f:=by
 have:sm l (fun _=>0)=0:=by induction l with
  | nil=>rfl
  | cons q l ih=>rw[bJ,ih fun x hx=>h x (zC _ hx)];rfl
 rw[<- this]
 exact Ef h
theorem J1:∀ {l:List Nat}{f g:Nat->Int}{p:Nat},(∀q∈l,f q<=g q)->p∈l->f p < g p->sm l f < sm l g
 | q::l,f,g,p,h,hp,e=>by
  have h1:=h q zE
  have h2:=Ef (l:=l) fun x hx=>h x (zC _ hx)
  rw[bJ,bJ]
  rcases List.mem_cons.mp hp with z|z
  ·subst z;lia
  ·have:=J1 (l:=l) (fun x hx=>h x (zC _ hx)) z e
   lia
theorem PR{f g:Nat->Int}{p:Nat}(h:sm l f<=sm l g)(hp:p∈l)(e:g p < f p):∃q∈l,f q < g q:=by
 refine Classical.byContradiction fun hn=>?_
 have:∀q∈l,g q<=f q:=fun q hq=>by
  refine Classical.byContradiction fun z=>hn ⟨q,hq,by lia⟩
 have:=J1 this hp e
 lia
theorem N9{f:Nat->Int}{p:Nat}(h:∀q∈l,0<=f q)(hp:p∈l):f p<=sm l f:=by
 obtain⟨xs,ys,rfl⟩:=List.append_of_mem hp
 rw[vx,bJ]
 have h1:=uW (l:=xs) fun q hq=>h q (qJ _ hq)
 have h2:=uW (l:=ys) fun q hq=>h q (yE _ (zC _ hq))
 lia
theorem Lz{l r:List Nat}(p:l.Perm r)(f:Nat->Int):sm l f=sm r f:=by
 induction p with
 | nil=>rfl
 | cons x _ ih=>rw[bJ,bJ,ih]
 | swap x y l=>rw[bJ,bJ,bJ,bJ];lia
 | trans _ _ h1 h2=>rw[h1,h2]
def ch(m:Nat->Int):Int->List Nat->Nat->Int
 | _,[],_=>0
 | a,q::r,k=>if k=q then min (m q) a else ch m (a - min (m q) a) r k
theorem bz(m:Nat->Int)(a:Int)(q:Nat)(r:List Nat):ch m a (q::r) q=min (m q) a:=by simp[ch]
theorem bu{m:Nat->Int}{r:List Nat}(h:k≠q):ch m a (q::r) k=ch m (a - min (m q) a) r k:=by simp[ch,h]
theorem J7{m:Nat->Int}:∀ {a:Int}{l:List Nat},(∀q∈l,0<=m q)->0<=a->∀k,0<=ch m a l k/\ch m a l k<=a/\(k∈l->ch m a l k<=m k)
 | a,[],_,ha,k=>⟨xZ _,ha,fun h=>by cases h⟩
 | a,q::r,hm,ha,k=>by
  have h0:=hm q zE
  by_cases e:k=q
  ·subst e
   rw[bz]
   exact⟨by lia,by lia,fun _=>by lia⟩
  ·rw[bu e]
   obtain⟨h1,h2,h3⟩:=J7 (m:=m) (a:=a - min (m q) a) (l:=r) (fun x hx=>hm x (zC _ hx)) (by lia) k
   refine⟨h1,by lia,fun hk=>?_⟩
   rcases List.mem_cons.mp hk with z|z
   ·exact absurd z e
   ·exact h3 z
theorem D8{m:Nat->Int}:∀ {a a':Int}{l:List Nat}{k:Nat},a<=a'->ch m a l k<=ch m a' l k
 | _,_,[],_,_=>xZ _
 | a,a',q::r,k,h=>by
  by_cases e:k=q
  ·subst e
   rw[bz,bz]
   lia
  ·rw[bu e,bu e]
   exact D8 (by lia)
theorem Dh{m m':Nat->Int}:∀ {a:Int}{l:List Nat},l.Nodup->(∀q∈l,ch m a l q<=m' q/\m' q<=m q)->∀k,ch m' a l k=ch m a l k
 | _,[],_,_,_=>rfl
 | a,q::r,hn,h,k=>by
  rw[kY] at hn
  have h0:=h q zE
  rw[bz] at h0
  have e0:min (m' q) a=min (m q) a:=by lia
  by_cases e:k=q
  ·subst e
   rw[bz,bz,e0]
  ·rw[bu e,bu e,e0]
   exact Dh hn.2 (fun x hx=>by
    have:=h x (zC _ hx)
    rwa [bu (show x≠q from fun z=>hn.1 (z ▸ hx))] at this) k
theorem rq{m m':Nat->Int}:∀ {a:Int}{l:List Nat},(∀q∈l,m q=m' q)->∀k,ch m a l k=ch m' a l k
 | _,[],_,_=>rfl
 | a,q::r,h,k=>by
  have h0:=h q zE
  by_cases e:k=q
  ·subst e
   rw[bz,bz,h0]
  ·rw[bu e,bu e,h0]
   exact rq (fun x hx=>h x (zC _ hx)) k
def up:List Nat->Nat->List Nat
 | [],_=>[]
 | q::r,k=>if k=q then [q] else q::up r k
theorem fH(q:Nat)(r:List Nat):up (q::r) q=[q]:=by simp[up]
theorem fK{r:List Nat}(h:k≠q):up (q::r) k=q::up r k:=by simp[up,h]
theorem eY:∀ {l:List Nat}{k q:Nat},q∈up l k->q∈l
 | [],_,_,h=>by cases h
 | x::l,k,q,h=>by
  by_cases e:k=x
  ·subst e
   rw[fH,yJ] at h
   exact h ▸ zE
  ·rw[fK e] at h
   rcases List.mem_cons.mp h with z|z
   ·exact z ▸ zE
   ·exact zC _ (eY z)
theorem zd:∀ {l:List Nat}{k:Nat},k∈l->k∈up l k
 | x::l,k,h=>by
  by_cases e:k=x
  ·subst e
   rw[fH]
   exact zE
  ·rw[fK e]
   rcases List.mem_cons.mp h with z|z
   ·exact absurd z e
   ·exact zC _ (zd z)
theorem xq:∀ {xs ys:List Nat}{k:Nat},k∉xs->up (xs++k::ys) k=xs++[k]
 | [],ys,k,_=>fH _ _
 | x::xs,ys,k,h=>by
  rw[zQ,not_or] at h
  rw[xF,fK h.1,xq h.2]
  rfl
theorem Dz(hn:l.Nodup)(hk:k∈l):∃ys,l=up l k++ys/\(∀q∈ys,q∉up l k):=by
 obtain⟨xs,ys,rfl⟩:=List.append_of_mem hk
 have hx:k∉xs:=fun z=>by
  rw[Zh] at hn
  exact hn.2.2 k z k zE rfl
 refine⟨ys,by rw[xq hx];simp,fun q hq hq2=>?_⟩
 rw[xq hx] at hq2
 rw[show xs++k::ys=(xs++[k])++ys by simp,Zh] at hn
 exact hn.2.2 q hq2 q hq rfl
theorem D6:∀ {l:List Nat}{k q:Nat},l.Nodup->q∈up l k->k∈up l q->k=q
 | [],_,_,_,h,_=>by cases h
 | x::l,k,q,hn,h1,h2=>by
  rw[kY] at hn
  by_cases e:k=x
  ·subst e
   rw[fH,yJ] at h1
   exact h1.symm
  ·by_cases e2:q=x
   ·subst e2
    rw[fH,yJ] at h2
    exact h2
   ·rw[fK e] at h1
    rw[fK e2] at h2
    rcases List.mem_cons.mp h1 with z|z
    ·exact absurd z e2
    ·rcases List.mem_cons.mp h2 with z2|z2
     ·exact absurd z2 e
     ·exact D6 hn.2 z z2
theorem EI{m:Nat->Int}:∀ {a:Int}{l:List Nat}{k:Nat},l.Nodup->k∈l->ch m a l k < m k->sm (up l k) (ch m a l)=a
 | a,q::r,k,hn,hk,h=>by
  rw[kY] at hn
  by_cases e:k=q
  ·subst e
   rw[bz] at h
   rw[fH,pP,bz]
   lia
  ·rw[bu e] at h
   have hk':k∈r:=by
    rcases List.mem_cons.mp hk with z|z
    ·exact absurd z e
    ·exact z
   have ih:=EI hn.2 hk' h
   rw[fK e,bJ,bz,iI (g:=ch m (a - min (m q) a) r) fun x hx=>bu fun z=>hn.1 (z ▸ eY hx),ih]
   lia
theorem GM{m:Nat->Int}:∀ {a:Int}{l:List Nat}{k q:Nat},l.Nodup->(∀x∈l,0<=m x)->0<=a->0 < ch m a l k->q∈up l k->q≠k->ch m a l q=m q
 | a,[],_,_,_,_,_,_,h,_=>by cases h
 | a,x::r,k,q,hn,hm,ha,h,hq,hne=>by
  rw[kY] at hn
  have h0:=hm x zE
  have hr:∀y∈r,0<=m y:=fun y hy=>hm y (zC _ hy)
  by_cases e:k=x
  ·subst e
   rw[fH,yJ] at hq
   exact absurd hq hne
  ·rw[bu e] at h
   rw[fK e] at hq
   rcases List.mem_cons.mp hq with z|z
   ·subst z
    rw[bz]
    have:=(J7 (m:=m) (a:=a - min (m q) a) hr (by lia) k).2.1
    lia
   ·have hqx:q≠x:=fun w=>hn.1 (w ▸ eY z)
    rw[bu hqx]
    exact GM hn.2 hr (by lia) h z hne
theorem MN{m:Nat->Int}:∀ {a:Int}{l:List Nat}{k:Nat},l.Nodup->(∀x∈l,0<=m x)->0<=a->k∈l->sm (up l k) (ch m a l)=min a (sm (up l k) m)
 | a,q::r,k,hn,hm,ha,hk=>by
  rw[kY] at hn
  have h0:=hm q zE
  have hr:∀y∈r,0<=m y:=fun y hy=>hm y (zC _ hy)
  by_cases e:k=q
  ·subst e
   rw[fH,pP,pP,bz]
   lia
  ·have hk':k∈r:=by
    rcases List.mem_cons.mp hk with z|z
    ·exact absurd z e
    ·exact z
   have ih:=MN (m:=m) (a:=a - min (m q) a) hn.2 hr (by lia) hk'
   have hs:=uW (l:=up r k) fun y hy=>hr y (eY hy)
   rw[fK e,bJ,bJ,bz,iI (g:=ch m (a - min (m q) a) r) fun x hx=>bu fun z=>hn.1 (z ▸ eY hx),ih]
   lia
theorem HZ{m m':Nat->Int}{p:Nat}:∀ {a:Int}{l:List Nat},l.Nodup->(∀x∈l,x≠p->m' x=m x)->m' p<=ch m a l p->(∀k∈l,k≠p->ch m a l k<=ch m' a l k)/\(p∈l->ch m' a l p=m' p)
 | _,[],_,_,_=>⟨fun _ h=>absurd h yF,fun h=>absurd h yF⟩
 | a,q::r,hn,h,hp=>by
  rw[kY] at hn
  by_cases e:q=p
  ·subst e
   rw[bz] at hp
   have hs:∀x∈r,m' x=m x:=fun x hx=>h x (zC _ hx) fun z=>hn.1 (z ▸ hx)
   refine⟨fun k hk hne=>?_,fun _=>?_⟩
   ·rw[bu hne,bu hne,rq (m:=m') (m':=m) hs]
    exact D8 (by lia)
   ·rw[bz];lia
  ·have hq:=h q zE e
   rw[bu (jN e)] at hp
   obtain⟨i1,i2⟩:=HZ (m:=m) (m':=m') (p:=p) (a:=a - min (m q) a) hn.2 (fun x hx=>h x (zC _ hx)) hp
   refine⟨fun k hk hne=>?_,fun hk=>?_⟩
   ·by_cases e2:k=q
    ·subst e2
     rw[bz,bz,hq]
     exact xZ _
    ·rw[bu e2,bu e2,hq]
     rcases List.mem_cons.mp hk with z|z
     ·exact absurd z e2
     ·exact i1 k z hne
   ·rw[bu (jN e),hq]
    rcases List.mem_cons.mp hk with z|z
    ·exact absurd z.symm e
    ·exact i2 z
theorem M9{m X:Nat->Int}:∀ {a:Int}{l:List Nat},l.Nodup->(∀q∈l,0<=X q/\X q<=m q)->sm l X<=a->(∀k∈l,X k=m k\/sm (up l k) X=a)->∀k∈l,ch m a l k=X k
 | _,[],_,_,_,_,_,h=>by cases h
 | a,q::r,hn,hX,hs,h,k,hk=>by
  rw[kY] at hn
  have h0:=hX q zE
  have hr:∀y∈r,0<=X y/\X y<=m y:=fun y hy=>hX y (zC _ hy)
  have hnn:=uW (l:=r) fun y hy=>(hr y hy).1
  rw[bJ] at hs
  have e0:min (m q) a=X q:=by
   rcases h q zE with z|z
   ·lia
   ·rw[fH,pP] at z
    lia
  by_cases e:k=q
  ·subst e
   rw[bz,e0]
  ·rw[bu e,e0]
   rcases List.mem_cons.mp hk with z|z
   ·exact absurd z e
   ·refine M9 hn.2 hr (by lia) (fun j hj=>?_) k z
    have hjq:j≠q:=fun w=>hn.1 (w ▸ hj)
    rcases h j (zC _ hj) with w|w
    ·exact .inl w
    ·rw[fK hjq,bJ] at w
     exact .inr (by lia)
def cY(b:Bool)(W:List Wy)(k:Nat):Nat:=(aS b (az W k)).toNat
def lst(b:Bool)(G T:List Pl)(W:List Wy)(i:Nat):List Nat:=jy b W i (bT b G T i).2
def amt(b:Bool)(G T:List Pl)(i:Nat):Int:=(bT b G T i).1
def mm(W:List Wy)(off:List Int)(q:Nat):Int:=min (off.getD q 0) (az W q).2.2
def vl(P:List Int)(q:Nat):Int:=P.getD q 0
section
variable {G T:List Pl}{W:List Wy}{P X c off:List Int}{b:Bool}{i k q:Nat}
theorem dC(h:Wd G T W)(b:Bool)(hk:k < W.length):cY b W k < (aX b G T).length:=(h.end_pl b hk).2.1
theorem se(h:Wd G T W)(hi:i < (aX b G T).length):(lst b G T W i).Perm (own b W i):=dP h (i6 hi)
theorem bW(h:Wd G T W)(hi:i < (aX b G T).length):(lst b G T W i).Nodup:=(se h hi).nodup_iff.mpr (List.nodup_range.filter _)
theorem eN(h:Wd G T W)(hi:i < (aX b G T).length):q∈lst b G T W i↔q < W.length/\cY b W q=i:=by
 rw[(se h hi).mem_iff,cu]
 constructor
 ·rintro⟨h1,h2⟩
  exact⟨h1,by unfold cY;rw[h2];simp⟩
 ·rintro⟨h1,h2⟩
  have:=(h.end_pl b h1).2.2
  unfold cY at h2
  rw[h2] at this
  exact⟨h1,this.symm⟩
theorem cM(h:Wd G T W)(b:Bool)(hk:k < W.length):k∈lst b G T W (cY b W k):=(eN h (dC h b hk)).mpr ⟨hk,rfl⟩
theorem HS(h:Wd G T W)(ho:Off off)(q:Nat):0<=mm W off q:=by
 have h1:=ho q
 have h2:=h.lim q
 unfold mm
 lia
theorem CH:∀ (is:List Nat) (a:Int) (l:List Int),is.Nodup->(∀i∈is,i < l.length)->∀k,(is.foldl (iA W off) (a,l)).2.getD k 0=if k∈is then ch (mm W off) a is k else l.getD k 0
 | [],a,l,_,_,k=>by simp
 | q::is,a,l,hn,hl,k=>by
  rw[kY] at hn
  have ih:=CH is (a - cV W off a q) (l.set q (cV W off a q)) hn.2 (fun i hi=>by rw[yC];exact hl i (zC _ hi)) k
  rw[yI]
  show (is.foldl (iA W off) (a - cV W off a q,l.set q (cV W off a q))).2.getD k 0=_
  rw[ih]
  have hq:=hl q zE
  by_cases e:k=q
  ·subst e
   rw[yN hn.1,yL zE,bz,cL,yL ⟨rfl,hq⟩]
   rfl
  ·rw[bu e]
   by_cases hk:k∈is
   ·rw[yL hk,yL (zC _ hk)]
    rfl
   ·rw[yN hk,yN (by rw[zQ,not_or];exact⟨e,hk⟩),cL,yN (fun z=>e z.1.symm)]
theorem e8(h:Wd G T W)(b:Bool)(off:List Int)(hk:k < W.length):(bp b G T W off).getD k 0=ch (mm W off) (amt b G T (cY b W k)) (lst b G T W (cY b W k)) k:=by
 have hi:=dC h b hk
 rw[HV h b hk]
 show (nW W off (amt b G T (cY b W k)) (lst b G T W (cY b W k))).getD k 0=_
 unfold nW
 rw[CH _ _ _ (bW h hi) (fun j hj=>by rw[xM];exact ((eN h hi).mp hj).1),yL (cM h b hk)]
theorem CG(h:Wd G T W)(b:Bool)(i:Nat):0<=amt b G T i:=h.amt b i
theorem JZ(h:Wd G T W)(hi:i < (aX b G T).length):mK b W P i=sm (lst b G T W i) (vl P):=by
 unfold mK
 rw[Lz (se h hi)]
 rfl
def Fl(b:Bool)(G T:List Pl)(W:List Wy)(P:List Int)(k:Nat):Prop:=sm (up (lst b G T W (cY b W k)) k) (vl P)=amt b G T (cY b W k)
def Rs(G T:List Pl)(W:List Wy)(P:List Int):Prop:=∀k,k < W.length->P.getD k 0=(az W k).2.2\/Fl false G T W P k\/Fl true G T W P k
theorem Pn.nn(p:Pn G T W P)(q:Nat):0<=vl P q:=by
 by_cases hq:q < W.length
 ·exact (p.bd q hq).1
 ·unfold vl
  rw[f9 (by rw[p.len];lia)]
  lia
theorem Pn.le_sm(h:Wd G T W)(p:Pn G T W P)(hi:i < (aX b G T).length):sm (lst b G T W i) (vl P)<=amt b G T i:=by
 rw[<- JZ h hi]
 exact p.am b i hi
theorem Eg(h:Wd G T W)(p:Pn G T W P)(b:Bool)(hk:k < W.length):yv b G T W P k=false↔Fl b G T W P k:=by
 obtain⟨z1,z2,z3⟩:=h.end_pl b hk
 have hc:lst b G T W (cY b W k)=((bT b G T (cY b W k)).2.take (pS (bT b G T (cY b W k)).2 (cy b (az W k)))).map (lV b W (cY b W k))++k::((bT b G T (cY b W k)).2.drop (pS (bT b G T (cY b W k)).2 (cy b (az W k))+1)).map (lV b W (cY b W k)):=K2 h hk
 have hn:=bW (b:=b) h z2
 change (lst b G T W (cY b W k)).Nodup at hn
 have hle:=p.le_sm h z2
 change sm (lst b G T W (cY b W k)) (vl P)<=amt b G T (cY b W k) at hle
 have hth:=JZ (P:=P) h z2
 have hy:yv b G T W P k=(decide (mK b W P ((cY b W k:Nat):Int) < amt b G T (cY b W k))||(((bT b G T (cY b W k)).2.drop (pS (bT b G T (cY b W k)).2 (cy b (az W k))+1)).map (lV b W (cY b W k))).any fun q=>decide (0 < vl P q)):=by
  unfold yv
  rw[List.any_map]
  unfold cY amt
  rw[z3]
  rfl
 change mK b W P ((cY b W k:Nat):Int)=sm (lst b G T W (cY b W k)) (vl P) at hth
 unfold Fl
 rw[hy,hth]
 revert hc
 generalize ((bT b G T (cY b W k)).2.take (pS (bT b G T (cY b W k)).2 (cy b (az W k)))).map (lV b W (cY b W k))=xs
 generalize ((bT b G T (cY b W k)).2.drop (pS (bT b G T (cY b W k)).2 (cy b (az W k))+1)).map (lV b W (cY b W k))=ys
 intro hc
 have hx:k∉xs:=fun z=>by
  rw[hc,Zh] at hn
  exact hn.2.2 k z k zE rfl
 rw[hc,xq hx]
 rw[hc] at hle
 have e:sm (xs++k::ys) (vl P)=sm (xs++[k]) (vl P)+sm ys (vl P):=by
  rw[<- vx]
  simp
 have hnn:=uW (l:=ys) fun q _=>p.nn q
 have hpos:=Ew (P:=P) ys fun q _=>p.nn q
 change (0 < sm ys (vl P)↔(ys.any fun q=>decide (0 < vl P q))=true) at hpos
 rw[e] at hle ⊢
 rw[Bool.or_eq_false_iff,xB]
 constructor
 ·rintro⟨h1,h2⟩
  have:¬ 0 < sm ys (vl P):=fun z=>by rw[hpos.mp z] at h2;cases h2
  lia
 ·intro h1
  refine⟨by lia,?_⟩
  cases hh:(ys.any fun q=>decide (0 < vl P q)) with
  | false=>rfl
  | true=>have:=hpos.mpr hh;lia
theorem nc(h:Wd G T W)(p:Pn G T W P):Fs G T W P=[]↔Rs G T W P:=by
 unfold Fs
 rw[List.filter_eq_nil_iff]
 constructor
 ·intro hh k hk
  have:=hh k (by simpa using hk)
  rw[zJ] at this
  unfold rR at this
  by_cases e1:P.getD k 0=(az W k).2.2
  ·exact .inl e1
  ·rw[yN e1] at this
   by_cases e2:yv false G T W P k=false
   ·exact .inr (.inl ((Eg h p false hk).mp e2))
   ·rw[yN e2] at this
    by_cases e3:yv true G T W P k=false
    ·exact .inr (.inr ((Eg h p true hk).mp e3))
    ·rw[yN e3] at this
     exact absurd rfl this
 ·intro hh k hk
  rw[zJ]
  unfold rR
  rcases hh k (by simpa using hk) with e|e|e
  ·rw[yL e];lia
  ·rw[yL ((Eg h p false (by simpa using hk)).mpr e)]
   split<;>lia
  ·rw[yL ((Eg h p true (by simpa using hk)).mpr e)]
   split
   ·lia
   ·split<;>lia
theorem yk(e:sR G T W c=some (k,q')):k < W.length/\q'=(jz G T W c).getD k 0/\(jz G T W c).getD k 0 < (bp false G T W c).getD k 0:=by
 unfold sR at e
 obtain⟨j,hj,e2⟩:=Dl.ah e
 cases e2
 have hm:=jY hj
 have hq:=wA hj
 rw[qR,zJ] at hq
 exact⟨List.mem_range.mp hm,rfl,hq⟩
theorem Mg(e:sR G T W c=none)(hk:k < W.length):(bp false G T W c).getD k 0<=(jz G T W c).getD k 0:=by
 unfold sR at e
 rw[Option.map_eq_none_iff] at e
 have:=List.find?_eq_none.mp e k (by simpa using hk)
 rw[qR,zJ] at this
 lia
end
section
variable {G T:List Pl}{W:List Wy}{P X c off:List Int}{b:Bool}{i k q:Nat}
theorem mr(h:Wd G T W)(hk:k < W.length)(hq:q∈lst b G T W (cY b W k)):q < W.length/\cY b W q=cY b W k:=(eN h (dC h b hk)).mp hq
theorem n0(h:Wd G T W)(hi:i < (aX b G T).length)(hq:q∈lst b G T W i):vl (bp b G T W off) q=ch (mm W off) (amt b G T i) (lst b G T W i) q:=by
 obtain⟨h1,h2⟩:=(eN h hi).mp hq
 have:=e8 h b off h1
 rw[h2] at this
 exact this
theorem G7(h:Wd G T W)(ho:Off off)(b:Bool)(hk:k < W.length):sm (up (lst b G T W (cY b W k)) k) (vl (bp b G T W off))=min (amt b G T (cY b W k)) (sm (up (lst b G T W (cY b W k)) k) (mm W off)):=by
 have hi:=dC h b hk
 rw[iI fun q hq=>n0 h hi (eY hq)]
 exact MN (bW h hi) (fun q _=>HS h ho q) (CG h b _) (cM h b hk)
theorem qy(h:Wd G T W)(b:Bool)(hk:k < W.length)(e:(bp b G T W off).getD k 0 < mm W off k):Fl b G T W (bp b G T W off) k:=by
 have hi:=dC h b hk
 rw[e8 h b off hk] at e
 unfold Fl
 rw[iI fun q hq=>n0 h hi (eY hq)]
 exact EI (bW h hi) (cM h b hk) e
theorem KG(h:Wd G T W)(ho:Off off)(hk:k < W.length)(e:0 < (bp b G T W off).getD k 0)(hq:q∈up (lst b G T W (cY b W k)) k)(hne:q≠k):(bp b G T W off).getD q 0=mm W off q:=by
 have hi:=dC h b hk
 rw[e8 h b off hk] at e
 have:=n0 (off:=off) h hi (eY hq)
 unfold vl at this
 rw[this]
 exact GM (bW h hi) (fun q _=>HS h ho q) (CG h b _) e hq hne
theorem BQ(h:Wd G T W)(ho:Off off)(b:Bool)(hk:k < W.length):0<=(bp b G T W off).getD k 0/\(bp b G T W off).getD k 0<=mm W off k:=by
 have hi:=dC h b hk
 rw[e8 h b off hk]
 have:=J7 (m:=mm W off) (a:=amt b G T (cY b W k)) (l:=lst b G T W (cY b W k)) (fun q _=>HS h ho q) (CG h b _) k
 exact⟨this.1,this.2.2 (cM h b hk)⟩
theorem Qr(h:Wd G T W)(p:Pn G T W X)(b:Bool)(hk:k < W.length):sm (up (lst b G T W (cY b W k)) k) (vl X)<=amt b G T (cY b W k):=by
 have hi:=dC h b hk
 have:=p.le_sm h hi
 obtain⟨ys,e,_⟩:=Dz (bW h hi) (cM h b hk)
 rw[e,vx] at this
 have hn:=uW (l:=ys) fun q _=>p.nn q
 lia
theorem B8(h:Wd G T W)(p:Pn G T W X)(hq:q < W.length)(f:Fl b G T W X q)(hk:k∈lst b G T W (cY b W q))(hn:k∉up (lst b G T W (cY b W q)) q):X.getD k 0=0:=by
 have hi:=dC h b hq
 have hle:=p.le_sm h hi
 obtain⟨ys,e,_⟩:=Dz (bW h hi) (cM h b hq)
 have hy:k∈ys:=by
  rw[e] at hk
  rcases List.mem_append.mp hk with z|z
  ·exact absurd z hn
  ·exact z
 rw[e,vx] at hle
 unfold Fl at f
 have:=N9 (l:=ys) (fun q _=>p.nn q) hy
 have h0:=p.nn k
 unfold vl at this h0
 have:sm ys (vl X)=sm ys fun q=>X.getD q 0:=rfl
 lia
theorem AS(h:Wd G T W)(p:Pn G T W X)(ho:Off c)(hc:∀k,k < W.length->X.getD k 0<=c.getD k 0)(hq:q < W.length)(e:X.getD q 0 < (bp false G T W c).getD q 0):¬ Fl false G T W X q:=fun f=>by
 have hi:=dC h false hq
 have hpos:0 < (bp false G T W c).getD q 0:=by have:=p.nn q;unfold vl at this;lia
 have hlt:sm (up (lst false G T W (cY false W q)) q) (vl X) < sm (up (lst false G T W (cY false W q)) q) (vl (bp false G T W c)):=by
  refine J1 (p:=q) (fun r hr=>?_) (zd (cM h false hq)) e
  by_cases z:r=q
  ·subst z;exact Int.le_of_lt e
  ·have hr':=(mr h hq (eY hr)).1
   unfold vl
   rw[KG h ho hq hpos hr z]
   have h1:=hc r hr'
   have h2:=(p.bd r hr').2
   unfold mm
   lia
 have h2:=G7 h ho false hq
 unfold Fl at f
 lia
end
section
variable {G T:List Pl}{W:List Wy}{P X c off:List Int}{b:Bool}{i k q:Nat}{v:Int}
theorem nE(h:Wd G T W)(ho:Off c)(hk:k < W.length):0<=(jz G T W c).getD k 0/\(jz G T W c).getD k 0<=(bp false G T W c).getD k 0/\(bp false G T W c).getD k 0<=c.getD k 0/\(bp false G T W c).getD k 0<=(az W k).2.2/\mm W (bp false G T W c) k=(bp false G T W c).getD k 0:=by
 have h1:=BQ h ho false hk
 have h2:=BQ h (jb h ho false) true hk
 change 0<=(jz G T W c).getD k 0/\(jz G T W c).getD k 0<=_ at h2
 unfold mm at h1 h2 ⊢
 lia
theorem Jp(h:Wd G T W)(p:Pn G T W X)(r:Rs G T W X)(ho:Off c)(hc:∀k,k < W.length->X.getD k 0<=c.getD k 0)(e:sR G T W c=some (k,v)):X.getD k 0<=v:=by
 obtain⟨hk,rfl,hlt⟩:=yk e
 refine Classical.byContradiction fun hn=>?_
 have hn:(jz G T W c).getD k 0 < X.getD k 0:=by lia
 obtain⟨b0,b1,b2,b3,b4⟩:=nE h ho hk
 have ff:Fl true G T W (jz G T W c) k:=qy h true hk (by rw[b4];exact hlt)
 have hle:=Qr h p true hk
 unfold Fl at ff
 obtain⟨q,hq,hqx⟩:=PR (f:=vl X) (g:=vl (jz G T W c)) (l:=up (lst true G T W (cY true W k)) k) (p:=k) (by lia) (zd (cM h true hk)) hn
 obtain⟨hq1,hq2⟩:=mr h hk (eY hq)
 unfold vl at hqx
 have hne:q≠k:=fun z=>by subst z;lia
 obtain⟨d0,d1,d2,d3,d4⟩:=nE h ho hq1
 have hxq:=(p.bd q hq1).1
 rcases r q hq1 with z|z|z
 ·lia
 ·exact AS h p ho hc hq1 (by lia) z
 ·have hn2:k∉up (lst true G T W (cY true W q)) q:=fun w=>by
   rw[hq2] at w
   exact hne (D6 (bW h (dC h true hk)) hq w).symm
  have:=B8 h p hq1 z (by rw[hq2];exact cM h true hk) hn2
  lia
theorem EC(h:Wd G T W)(p:Pn G T W X)(r:Rs G T W X)(hk:k < W.length):X.getD k 0<=(fin G T W).2.getD k 0:=by
 have hb:=h.mea
 obtain⟨_,_,h2⟩:=pU (MX G T W) (spS G T W) (fun s=>mea s.2) (fun s=>BC W s/\∀k,k < W.length->X.getD k 0<=s.2.getD k 0)
  (fun s ⟨i,l⟩ hc=>by
   obtain⟨⟨k,v⟩,e⟩:=nK hc
   obtain⟨i2,hm⟩:=i.step h e
   have hx:=Jp h p r i.off l e
   refine⟨⟨i2,fun j hj=>?_⟩,hm⟩
   rw[sd e]
   show _<=(s.2.set k v).getD j 0
   rw[cL]
   split
   ·rename_i z
    rw[<- z.1]
    exact hx
   ·exact l j hj) Rf.turns ([],dO W) (qZ hb (by decide)) ⟨BC.start h,fun k hk=>by rw[C7 hk];exact (p.bd k hk).2⟩
 exact h2 k hk
def Jn(G T:List Pl)(W:List Wy)(c:List Int):Prop:=∀k,k < W.length->c.getD k 0 < (az W k).2.2->Fl true G T W (jz G T W c) k
theorem ND(h:Wd G T W)(ho:Off c)(hl:c.length=W.length)(e:sR G T W c=some (k,v))(hq:q < W.length):(jz G T W c).getD q 0<=(bp false G T W (c.set k v)).getD q 0:=by
 obtain⟨hk,rfl,hlt⟩:=yk e
 obtain⟨b0,b1,b2,b3,b4⟩:=nE h ho hk
 obtain⟨d0,d1,d2,d3,d4⟩:=nE h ho hq
 have hi:=dC h false hq
 have hm:∀x,x≠k->mm W (c.set k ((jz G T W c).getD k 0)) x=mm W c x:=fun x hx=>by
  unfold mm
  rw[cL,yN (fun z=>hx z.1.symm)]
 have hmk:mm W (c.set k ((jz G T W c).getD k 0)) k=(jz G T W c).getD k 0:=by
  unfold mm
  rw[cL,yL ⟨rfl,by rw[hl];exact hk⟩]
  lia
 rw[e8 h false _ hq]
 by_cases z:cY false W q=cY false W k
 ·have hkL:k∈lst false G T W (cY false W q):=by rw[z];exact cM h false hk
  have hA:vl (bp false G T W c) k=ch (mm W c) (amt false G T (cY false W q)) (lst false G T W (cY false W q)) k:=n0 h hi hkL
  unfold vl at hA
  obtain⟨l1,l2⟩:=HZ (m:=mm W c) (m':=mm W (c.set k ((jz G T W c).getD k 0))) (p:=k) (a:=amt false G T (cY false W q)) (l:=lst false G T W (cY false W q)) (bW h hi) (fun x _ hx=>hm x hx) (by rw[hmk,<- hA];exact b1)
  by_cases y:q=k
  ·subst y
   rw[l2 hkL,hmk]
   exact xZ _
  ·have:=l1 q (cM h false hq) y
   rw[<- e8 h false c hq] at this
   lia
 ·rw[rq (m:=mm W (c.set k ((jz G T W c).getD k 0))) (m':=mm W c) fun x hx=>hm x fun w=>by
   subst w
   exact z ((eN h hi).mp hx).2.symm]
  rw[<- e8 h false c hq]
  exact d1
theorem Jn.step(h:Wd G T W)(ho:Off c)(hl:c.length=W.length)(j:Jn G T W c)(e:sR G T W c=some (k,v)):Jn G T W (c.set k v):=fun q hq hlim=>by
 have ho':Off (c.set k v):=Dg ho (EJ h ho e).2.1
 have fq:Fl true G T W (jz G T W c) q:=by
  obtain⟨hk,rfl,hlt⟩:=yk e
  by_cases z:q=k
  ·subst z
   exact qy h true hq (by rw[(nE h ho hq).2.2.2.2];exact hlt)
  ·rw[cL,yN (fun w=>z w.1.symm)] at hlim
   exact j q hq hlim
 have hu:=G7 h (jb h ho' false) true hq
 change sm _ (vl (jz G T W (c.set k v)))=_ at hu
 unfold Fl at fq ⊢
 have hs:sm (up (lst true G T W (cY true W q)) q) (vl (jz G T W c))<=sm (up (lst true G T W (cY true W q)) q) (mm W (bp false G T W (c.set k v))):=Ef fun x hx=>by
  have hx':=(mr h hq (eY hx)).1
  have h1:=ND h ho hl e hx'
  have h2:=nE h ho hx'
  unfold vl mm
  lia
 rw[hu]
 lia
theorem Qk(h:Wd G T W):Jn G T W (fin G T W).2:=by
 have hb:=h.mea
 obtain⟨_,_,h2⟩:=pU (MX G T W) (spS G T W) (fun s=>mea s.2) (fun s=>BC W s/\Jn G T W s.2)
  (fun s ⟨i,j⟩ hc=>by
   obtain⟨⟨k,v⟩,e⟩:=nK hc
   obtain⟨i2,hm⟩:=i.step h e
   refine⟨⟨i2,?_⟩,hm⟩
   rw[sd e]
   exact j.step h i.off i.len e) Rf.turns ([],dO W) (qZ hb (by decide)) ⟨BC.start h,fun k hk hl=>by rw[C7 hk] at hl;lia⟩
 exact h2
theorem Cu(h:Wd G T W):Rs G T W (sP G T W):=fun k hk=>by
 obtain⟨hnone,i,hlim⟩:=mY h
 have j:=Qk h
 have heq:∀q,q < W.length->(sP G T W).getD q 0=(jz G T W (fin G T W).2).getD q 0:=fun q hq=>by
  have h1:=Mg hnone hq
  have h2:=(nE h i.off hq).2.1
  unfold sP
  lia
 obtain⟨d0,d1,d2,d3,d4⟩:=nE h i.off hk
 by_cases e:(sP G T W).getD k 0=(az W k).2.2
 ·exact .inl e
 ·by_cases e2:(sP G T W).getD k 0 < mm W (fin G T W).2 k
  ·exact .inr (.inl (qy h false hk e2))
  ·have h3:=(BQ h i.off false hk).2
   have:(fin G T W).2.getD k 0 < (az W k).2.2:=by
    unfold sP at e e2
    unfold mm at e2 h3
    lia
   have f:=j k hk this
   refine .inr (.inr ?_)
   unfold Fl at f ⊢
   rw[<- f]
   exact iI fun q hq=>heq q (mr h hk (eY hq)).1
theorem Ld(h:Wd G T W)(hk:k < W.length):(sP G T W).getD k 0<=(fin G T W).2.getD k 0:=(nE h (mY h).2.1.off hk).2.2.1
def mx(P X:List Int):List Int:=List.zipWith max P X
theorem IP(hp:P.length=X.length)(q:Nat)(hn:0<=P.getD q 0\/q < P.length):(mx P X).getD q 0=max (P.getD q 0) (X.getD q 0):=by
 unfold mx
 by_cases hq:q < P.length
 ·rw[zG,List.getElem?_zipWith,zK hq,zK (by lia)]
  simp[hq,show q < X.length by lia]
 ·rw[f9 (by simp;lia),f9 (by lia),f9 (by lia)]
  rfl
theorem xv(hp:P.length=X.length):(mx P X).length=P.length:=by unfold mx;simp;lia
theorem HJ(p:Pn G T W P)(x:Pn G T W X)(hq:q < W.length):mm W (mx P X) q=max (P.getD q 0) (X.getD q 0):=by
 unfold mm
 rw[IP (by rw[p.len,x.len]) q (.inl (p.nn q))]
 have h1:=(p.bd q hq).2
 have h2:=(x.bd q hq).2
 lia
theorem ud(h:Wd G T W)(x:Pn G T W X)(r:Rs G T W X)(hk:k < W.length):(bp false G T W (mx (sP G T W) X)).getD k 0=(sP G T W).getD k 0:=by
 have p:=ji h
 obtain⟨_,i,_⟩:=mY h
 have hi:=dC h false hk
 rw[e8 h false _ hk,show (sP G T W).getD k 0=ch (mm W (fin G T W).2) (amt false G T (cY false W k)) (lst false G T W (cY false W k)) k from e8 h false _ hk]
 refine Dh (bW h hi) (fun q hq=>?_) k
 have hq':=(mr h hk hq).1
 have hA:vl (bp false G T W (fin G T W).2) q=ch (mm W (fin G T W).2) (amt false G T (cY false W k)) (lst false G T W (cY false W k)) q:=n0 h hi hq
 rw[<- hA,HJ p x hq']
 have h1:=Ld h hq'
 have h2:=EC h x r hq'
 have h3:=(p.bd q hq').2
 have h4:=(x.bd q hq').2
 change (sP G T W).getD q 0<=_/\_
 unfold mm
 lia
theorem GB(h:Wd G T W)(x:Pn G T W X)(r:Rs G T W X)(hk:k < W.length):(bp true G T W (mx (sP G T W) X)).getD k 0=X.getD k 0:=by
 have p:=ji h
 obtain⟨_,i,_⟩:=mY h
 have hi:=dC h true hk
 rw[e8 h true _ hk]
 refine M9 (X:=vl X) (bW h hi) (fun q hq=>?_) (x.le_sm h hi) (fun q hq=>?_) k (cM h true hk)
 ·have hq':=(mr h hk hq).1
  rw[HJ p x hq']
  have:=(x.bd q hq').1
  unfold vl
  lia
 ·obtain⟨hq',hpl⟩:=mr h hk hq
  rw[HJ p x hq']
  by_cases e:X.getD q 0 < (sP G T W).getD q 0
  ·refine .inr ?_
   rcases r q hq' with z|z|z
   ·have:=(p.bd q hq').2
    lia
   ·exact absurd z (AS h x i.off (fun k hk=>EC h x r hk) hq' e)
   ·unfold Fl at z
    rwa [hpl] at z
  ·refine .inl ?_
   unfold vl
   lia
end
theorem Jh{m m':Nat->Int}{f:Nat->Nat}:∀ {a:Int}{l:List Nat}{k:Nat},(∀q∈l,m' q=m (f q))->(∀q∈l,f q=f k->q=k)->ch m' a l k=ch m a (l.map f) (f k)
 | _,[],_,_,_=>rfl
 | a,q::l,k,h,hi=>by
  have h0:=h q zE
  rw[zI]
  by_cases e:k=q
  ·subst e
   rw[bz,bz,h0]
  ·have e2:f k≠f q:=fun z=>e (hi q zE z.symm).symm
   rw[bu e,bu e2,h0]
   exact Jh (fun x hx=>h x (zC _ hx)) fun x hx=>hi x (zC _ hx)
section
variable {G T:List Pl}{W:List Wy}{P X c off:List Int}{b:Bool}{i k q:Nat}{π:List Nat}
theorem OT(o:Ord W π)(b:Bool)(hk:k < W.length):cY (!b) (eh W π) k=cY b W (π.getD k 0):=by
 unfold cY
 rw[fv o hk,pZ]
theorem OA(h:Wd G T W)(o:Ord W π)(hi:i < (aX b G T).length):(lst (!b) T G (eh W π) i).map (fun k=>π.getD k 0)=lst b G T W i:=by
 unfold lst jy
 rw[vv,zM]
 exact yH fun x hx=>(Ht h o (i6 hi) hx).2
theorem N7(o:Ord W π)(hk:k < W.length)(hj:j < W.length)(e:π.getD k 0=π.getD j 0):k=j:=by
 have hn:π.Nodup:=o.perm.nodup_iff.mpr List.nodup_range
 have hl:=o.len
 have h1:π[k]?=some (π.getD k 0):=by simp[show k < π.length by lia]
 have h2:π[j]?=some (π.getD j 0):=by simp[show j < π.length by lia]
 rw[<- e] at h2
 exact (List.getElem?_inj (by lia) hn).mp (h1.trans h2.symm)
theorem NC(h:Wd G T W)(o:Ord W π)(b:Bool)(hl:off.length=W.length)(hk:k < W.length):(bp (!b) T G (eh W π) (l6 off π)).getD k 0=(bp b G T W off).getD (π.getD k 0) 0:=by
 have h':=o.wd h
 have hk':k < (eh W π).length:=by rw[cI o];exact hk
 have hp:=o.lt hk
 have hi:=dC h b hp
 rw[e8 h' (!b) _ hk',e8 h b _ hp,OT o b hk]
 have hi':cY b W (π.getD k 0) < (aX (!b) T G).length:=by rw[pQ];exact hi
 rw[<- OA h o hi,show amt (!b) T G (cY b W (π.getD k 0))=amt b G T (cY b W (π.getD k 0)) by unfold amt;rw[vv]]
 refine Jh (f:=fun k=>π.getD k 0) (fun q hq=>?_) fun q hq e=>?_
 ·have hq':=((eN h' hi').mp hq).1
  rw[cI o] at hq'
  unfold mm
  rw[mE o hq',fv o hq']
  rfl
 ·have hq':=((eN h' hi').mp hq).1
  rw[cI o] at hq'
  exact N7 o hq' hk e
theorem Q2(o:Ord W π)(hp:P.length=W.length)(hx:X.length=W.length):mx (l6 P π) (l6 X π)=l6 (mx P X) π:=by
 unfold l6
 unfold mx
 rw[List.zipWith_map,List.zipWith_self]
 refine yH fun i hi=>?_
 have:=IP (P:=P) (X:=X) (by lia) i (.inr (by
  have:=o.perm.mem_iff.mp hi
  rw[zS] at this
  lia))
 exact this.symm
theorem pW{P X:List Int}(h:P.length=X.length)(e:∀k,k < P.length->P.getD k 0=X.getD k 0):P=X:=by
 apply jH h
 intro k h1 h2
 have:=e k h1
 simpa [h1,h2] using this
theorem Rs.tu(h:Wd G T W)(o:Ord W π)(p:Pn G T W P)(r:Rs G T W P):Rs T G (eh W π) (l6 P π):=(nc (o.wd h) (p.tu h o)).mp ((NN h o).mpr ((nc h p).mpr r))
def tJ(G T:List Pl)(W:List Wy):List Int:=l6 (sP T G (eh W (bU W))) (bU (eh W (bU W)))
theorem EO(h:Wd G T W):l6 (tJ G T W) (bU W)=sP T G (eh W (bU W)):=by
 have o:=dB h.wp
 have h':=o.wd h
 have o':=dB h'.wp
 have o2:Ord (eh (eh W (bU W)) (bU (eh W (bU W)))) (bU W):=by rw[za h.wp o o'];exact o
 exact MD h'.wp o' o2 (ji h').len
theorem M0(h:Wd G T W):Pn G T W (tJ G T W):=by
 have o:=dB h.wp
 have h':=o.wd h
 have o':=dB h'.wp
 have:=(ji h').tu h' o'
 rwa [za h.wp o o'] at this
theorem P2(h:Wd G T W):Rs G T W (tJ G T W):=by
 have o:=dB h.wp
 have h':=o.wd h
 have o':=dB h'.wp
 have:=(Cu h').tu h' o' (ji h')
 rwa [za h.wp o o'] at this
theorem GL(h:Wd G T W)(b:Bool)(hl:off.length=W.length)(hx:X.length=W.length)(e:∀k,k < W.length->(bp (!b) T G (eh W (bU W)) (l6 off (bU W))).getD k 0=(l6 X (bU W)).getD k 0):bp b G T W off=X:=by
 have o:=dB h.wp
 refine pW (by rw[fF,hx]) fun k hk=>?_
 rw[fF] at hk
 obtain⟨j,hj,rfl⟩:=o.ex hk
 rw[<- NC h o b hl hj,e j hj,mE o hj]
theorem Mf(h:Wd G T W)(x:Pn G T W X)(r:Rs G T W X):bp false G T W (mx (sP G T W) X)=sP G T W :=
 pW (by rw[fF,(ji h).len]) fun k hk=>ud h x r (by rw[fF] at hk;exact hk)
theorem GZ(h:Wd G T W)(x:Pn G T W X)(r:Rs G T W X):bp true G T W (mx (tJ G T W) X)=tJ G T W/\bp false G T W (mx (tJ G T W) X)=X:=by
 have o:=dB h.wp
 have h':=o.wd h
 have pl:=(M0 h).len
 have hm:(mx (tJ G T W) X).length=W.length:=by rw[xv (by rw[pl,x.len]),pl]
 have em:l6 (mx (tJ G T W) X) (bU W)=mx (sP T G (eh W (bU W))) (l6 X (bU W)):=by rw[<- Q2 o pl x.len,EO h]
 have x':=x.tu h o
 have r':=r.tu h o x
 have l':=cI o
 constructor
 ·refine GL h true hm pl fun k hk=>?_
  rw[em,EO h]
  exact ud h' x' r' (by rw[l'];exact hk)
 ·refine GL h false hm x.len fun k hk=>?_
  rw[em]
  exact GB h' x' r' (by rw[l'];exact hk)
end
section
variable {G T:List Pl}{W:List Wy}{P X:List Int}{b:Bool}{i:Nat}
theorem zip_rows:∀ {P X:List Int},P.length=X.length->gx (P.map PyData.int) (X.map PyData.int)=(List.range P.length).map fun i=>.tuple [.int (P.getD i 0),.int (X.getD i 0)]
 | [],[],_=>rfl
 | [],_::_,h=>by simp at h
 | _::_,[],h=>by simp at h
 | x::P,y::X,h=>by
  rw[zI,zI,gx,zip_rows (P:=P) (X:=X) (by simpa using h),zL,vT,zI,zM]
  rfl
theorem KB(h:Wd G T W):bq [aB G T W]=some (ag (tJ G T W)):=by
 have h':=(dB h.wp).wd h
 exact tO h (Ij h') (ji h')
end
theorem iT{f:Dl.Env->Option (List D)}(h:f ρ=some ds):cn f ρ=some (.list ds):=by
 simp only[cn,h,zB]
theorem Mq(h:f ρ=some (.tuple ds)):aQ f ρ=some ds:=by
 simp only[aQ,h,zA,fE]
theorem LR(h:f ρ=some (.list ds)):aQ f ρ=some ds:=by
 simp only[aQ,h,zA,fE]
theorem sv{fs:Dl.Env->Option (List D)}(h:fs ρ=some ds)(hl:ds.length<=1000):cD fs ρ=some ds:=by
 simp only[cD,h,zA,bj (show ds.length<=4000 by lia)]
theorem nil_of(ρ:Dl.Env):cn (cD af) ρ=some (.list []):=iT (sv (ds:=[]) rfl (by simp))
theorem DD(h:t ρ=some false):dv t u ρ=some false:=by
 simp only[dv,h,zA]
theorem Ad(h:t ρ=some true)(h2:u ρ=some b):dv t u ρ=some b:=by
 simp only[dv,h,zA,h2]
theorem km:SeqAt.shaped (.list (l.map nD))=true :=
 (fS.lst (b:=l.length) (k:=0) (by simp) fun x hx=>by obtain⟨i,_,rfl⟩:=List.mem_map.mp hx;exact je _).shaped (by decide)
theorem Gx(l:List Nat):aP (.list (l.map nD)) (.list [])=some (.bool (decide (l=[]))):=by
 have h0:SeqAt.shaped (.list [])=true:=km (l:=[])
 have e:(l.map nD).isEmpty=decide (l=[]):=by cases l<;>rfl
 simp only[aP,Lo,km,h0,jP,xH,PyData.eqv,mC,e,zB]
theorem JP(hf:f ρ=some (aB G T W))(hg:g ρ=some (.int (sI b))):(aa (bA bS (aa (f2 av f g) af)) af) ρ=some [nD (aX b G T).length] :=
 cons_of (B1 (l:=aX b G T) (k:=bc) (aC (gP b G T W) hf hg)) rfl
section
variable {G T:List Pl}{W:List Wy}{P X:List Int}
end
section
variable {G T:List Pl}{W:List Wy}{P X c:List Int}{b:Bool}{k:Nat}
end
structure Wk(G T G' T':List Pl):Prop where
 len:∀b,(aX b G' T').length=(aX b G T).length
 lik:∀b i,(bT b G' T' i).2=(bT b G T i).2
 gv:∀i,amt false G' T' i<=amt false G T i
 tk:∀i,amt true G T i<=amt true G' T' i
section
variable {G T G' T':List Pl}{W:List Wy}{P X c:List Int}{b:Bool}{i k q:Nat}{v:Int}
theorem Wk.lst(w:Wk G T G' T')(b:Bool)(i:Nat):lst b G' T' W i=lst b G T W i:=by unfold Wm.lst;rw[w.lik]
end
section
variable {G T G' T':List Pl}{W:List Wy}{P X off:List Int}{b:Bool}{i j k:Nat}{a:Int}
def yj(b:Bool)(W:List Wy)(P:List Int)(i:Nat):List Int:=(List.range W.length).map fun q=>if aS b (az W q)=((i:Nat):Int) then P.getD q 0 else 0
theorem L6(h:Wd G T W)(hi:i < (aX b G T).length)(off:List Int):nW W off (amt b G T i) (lst b G T W i)=yj b W (bp b G T W off) i:=by
 refine pW (by rw[m8];simp[yj]) fun k hk=>?_
 rw[m8] at hk
 unfold nW
 rw[CH _ _ _ (bW h hi) (fun j hj=>by rw[xM];exact ((eN h hi).mp hj).1)]
 have e:(yj b W (bp b G T W off) i).getD k 0=if aS b (az W k)=((i:Nat):Int) then (bp b G T W off).getD k 0 else 0:=by simp[yj,hk]
 rw[e]
 have hz:=(h.end_pl b hk).2.2
 by_cases z:k∈lst b G T W i
 ·have hp:=((eN h hi).mp z).2
  unfold cY at hp
  rw[hp] at hz
  rw[yL z,yL hz.symm]
  exact (n0 h hi z).symm
 ·rw[yN z,yN fun y=>z ((eN h hi).mpr ⟨hk,by unfold cY;rw[y];simp⟩)]
  simp[yX,hk]
end
def zj(l:Int)(fs:List (List Int)):List (List Int):=(fs.map fun r=>(List.range (l+1).toNat).map fun m=>r++[((m:Nat):Int)]).flatten
def Fg:List Wy->List (List Int)->List (List Int)
 | [],fs=>fs
 | w::W,fs=>Fg W (zj w.2.2 fs)
theorem vn{l:Int}{fs:List (List Int)}:r∈zj l fs↔∃r'∈fs,∃v:Int,0<=v/\v<=l/\r=r'++[v]:=by
 unfold zj
 rw[List.mem_flatten]
 constructor
 ·rintro⟨L,hL,hr⟩
  obtain⟨r',h',rfl⟩:=List.mem_map.mp hL
  obtain⟨m,hm,rfl⟩:=List.mem_map.mp hr
  rw[zS] at hm
  exact⟨r',h',_,by lia,by lia,rfl⟩
 ·rintro⟨r',h',v,h0,h1,rfl⟩
  exact⟨_,List.mem_map.mpr ⟨r',h',rfl⟩,List.mem_map.mpr ⟨v.toNat,by rw[zS];lia,by rw[show ((v.toNat:Nat):Int)=v by lia]⟩⟩
theorem Ej:∀ {W:List Wy}{fs:List (List Int)}{r:List Int},r∈Fg W fs↔∃r'∈fs,∃q:List Int,q.length=W.length/\(∀k,k < W.length->0<=q.getD k 0/\q.getD k 0<=(az W k).2.2)/\r=r'++q
 | [],fs,r=>by
  unfold Fg
  constructor
  ·intro h
   exact⟨r,h,[],rfl,fun k hk=>by simp at hk,by simp⟩
  ·rintro⟨r',h',q,hq,_,rfl⟩
   have:q=[]:=List.length_eq_zero_iff.mp hq
   subst this
   simpa using h'
 | w::W,fs,r=>by
  rw[Fg,Ej]
  constructor
  ·rintro⟨r',h',q,hq,hb,rfl⟩
   obtain⟨r2,h2,v,h0,h1,rfl⟩:=vn.mp h'
   refine⟨r2,h2,v::q,by simp[hq],fun k hk=>?_,by simp⟩
   cases k with
   | zero=>exact⟨h0,h1⟩
   | succ k=>exact hb k (by simpa using hk)
  ·rintro⟨r',h',q,hq,hb,rfl⟩
   cases q with
   | nil=>simp at hq
   | cons v q =>
    refine⟨r'++[v],vn.mpr ⟨r',h',v,(hb 0 (by simp)).1,(hb 0 (by simp)).2,rfl⟩,q,by simpa using hq,fun k hk=>hb (k+1) (by simpa using hk),by simp⟩
theorem EG(l:Int)(fs:List (List Int)):(zj l fs).length=fs.length * (l+1).toNat:=by
 unfold zj
 induction fs with
 | nil=>simp
 | cons r fs ih=>rw[zI,qM,zN,ih,zL,Nat.add_mul];simp;lia
section
variable {G T:List Pl}{W:List Wy}{P X:List Int}
def ext(l:Int)(r:List Int):List (List Int):=(List.range (l+1).toNat).map fun m=>r++[((m:Nat):Int)]
theorem J6(l:Int)(r:List Int)(fs:List (List Int)):zj l (r::fs)=ext l r++zj l fs:=by simp[zj,ext]
theorem K6{l:Int}{fs:List (List Int)}(h:∀r∈fs,r.length<=n):∀r∈zj l fs,r.length<=n+1:=fun r hr=>by
 obtain⟨r',h',v,_,_,rfl⟩:=vn.mp hr
 have:=h r' h'
 simp
 lia
theorem sg{α:Type}{tt:Dl.Env->Option Bool}{te:Dl.Env->Option D}{r:List (Option D)}{g f:α->D}{q:α->Bool}:∀ (l:List α),(∀x∈l,tt (some (g x)::r)=some (q x)/\(q x=true->te (some (g x)::r)=some (f x)))->cG (fG 0) tt te (none::r) (l.map g)=some ((l.filter q).map f)
 | [],_=>rfl
 | x::l,h=>by
  have ih:=sg (tt:=tt) (te:=te) (r:=r) (g:=g) (f:=f) (q:=q) l fun y hy=>h y (zC _ hy)
  obtain⟨h1,h2⟩:=h x zE
  have hg:fG 0 (none::r) (g x)=some (some (g x)::r):=rfl
  rw[zI,cG,hg,zA,h1,zA,jX]
  cases e:q x with
  | true =>
   rw[yL rfl,yL rfl,h2 e,zA,ih]
   rfl
  | false =>
   rw[yN (by simp),yN (by simp),ih]
theorem uV{α:Type}{l:List α}{g f:α->D}{q:α->Bool}(hfi:fi ρ=some (l.map g))(hl:l.length<=3000)(hh:∀x∈l,tt (some (g x)::cs.map fun j=>(ρ[j]?).getD none)=some (q x)/\(q x=true->te (some (g x)::cs.map fun j=>(ρ[j]?).getD none)=some (f x))):ao 1 cs fi (fG 0) tt te ρ=some ((l.filter q).map f):=by
 have:=sg l hh
 simp only[ao,hfi,zA,ej,List.replicate,xF,xO,this]
 refine bj ?_
 rw[zD]
 refine yD (xP _ _) ?_
 lia
def HD(G T:List Pl)(W:List Wy):List (List Int):=(Fg W [[]]).filter (K8 G T W)
def allR(G T:List Pl)(W:List Wy):List (List Int):=(HD G T W).filter fun P=>decide (Fs G T W P=[])
theorem Dm:r∈Fg W [[]]↔r.length=W.length/\∀k,k < W.length->0<=r.getD k 0/\r.getD k 0<=(az W k).2.2:=by
 rw[Ej]
 constructor
 ·rintro⟨r',h',q,hq,hb,rfl⟩
  simp at h'
  subst h'
  exact⟨hq,hb⟩
 ·rintro⟨h1,h2⟩
  exact⟨[],by simp,r,h1,h2,rfl⟩
theorem rS:X∈HD G T W↔Pn G T W X:=by
 unfold HD
 rw[List.mem_filter,Dm]
 constructor
 ·rintro⟨⟨h1,h2⟩,h3⟩
  exact (yu h1).mp h3
 ·intro p
  exact⟨⟨p.len,p.bd⟩,(yu p.len).mpr p⟩
theorem rJ(h:Wd G T W):X∈allR G T W↔Pn G T W X/\Rs G T W X:=by
 unfold allR
 rw[List.mem_filter,rS,zJ]
 constructor
 ·rintro⟨p,r⟩
  exact⟨p,(nc h p).mp r⟩
 ·rintro⟨p,r⟩
  exact⟨p,(nc h p).mpr r⟩
theorem Eb:∀ (W:List Wy) (fs:List (List Int)),(∀w∈W,0<=w.2.2/\w.2.2<=2)->(Fg W fs).length<=fs.length * 3 ^ W.length
 | [],fs,_=>by simp[Fg]
 | w::W,fs,hl=>by
  rw[Fg]
  refine yD (Eb W _ fun q hq=>hl q (zC _ hq)) ?_
  have:=hl w zE
  rw[EG,zL,Nat.pow_succ',<- Nat.mul_assoc]
  exact Nat.mul_le_mul_right _ (Nat.mul_le_mul_left _ (by lia))
end
section
variable {G T:List Pl}{W:List Wy}{P X:List Int}{b:Bool}{i k q:Nat}
end
section
variable {G T:List Pl}{W:List Wy}{P X:List Int}{b:Bool}{i k:Nat}
theorem LD(h:Wd G T W):allR G T W≠[]:=fun z=>by
 have:sP G T W∈allR G T W:=(rJ h).mpr ⟨ji h,Cu h⟩
 rw[z] at this
 cases this
end
theorem any_rows(l:List (List Int))(a:List Int):((l.map ag).any fun z=>PyData.eqv z (ag a))=decide (a∈l):=MC l a
theorem E3(l:List (List Int))(a:List Int):BP (ag a) (.list (l.map ag))=some (.bool (!decide (a∈l))):=by
 simp only[BP,Re,sj,kj,jP,xH,any_rows,zB]
theorem CJ(l:List (List Int)):aP (.list (l.map ag)) (.list [])=some (.bool (decide (l=[]))):=by
 have h0:SeqAt.shaped (.list [])=true:=km (l:=[])
 have e:(l.map ag).isEmpty=decide (l=[]):=by cases l<;>rfl
 simp only[aP,Lo,kj,h0,jP,xH,PyData.eqv,mC,e,zB]
section
variable {G T:List Pl}{W:List Wy}{P X:List Int}
theorem Do(h:x∈L):mw (ag L) (.int x)=some (nD (pS L x)):=by
 show (intsOf (L.map PyData.int)).bind _=_
 rw[di,zA,n8 h]
 rfl
theorem G1(h:x∈L):pS L x < L.length:=kO ⟨x,h,by simp⟩
theorem JX(h:x∈L):L[pS L x]?=some x:=by
 have hl:=G1 h
 have:=wL (xs:=L) (p:=fun o=>decide (o=x)) (w:=hl)
 rw[zK hl]
 exact jC some (yQ this)
theorem EA(hn:L.Nodup):x∈L.drop n↔x∈L/\n<=pS L x:=by
 constructor
 ·intro h
  have hm:=List.mem_of_mem_drop h
  refine⟨hm,?_⟩
  obtain⟨m,hm1,hm2⟩:=qQ h
  rw[List.getElem_drop] at hm2
  have h1:L[n+m]?=some x:=by rw[zK (by rw[qH] at hm1;lia),hm2]
  have h2:=JX hm
  have:n+m=pS L x:=by
   have hl:=G1 hm
   exact (List.getElem?_inj (by rw[qH] at hm1;lia) hn).mp (h1.trans h2.symm)
  lia
 ·rintro⟨hm,hle⟩
  have h2:=JX hm
  have:(L.drop n)[pS L x - n]?=some x:=by rw[List.getElem?_drop,show n+(pS L x - n)=pS L x by lia];exact h2
  exact qB this
def KJ(b:Bool)(W:List Wy)(P L:List Int)(j:Int)(o:Int)(i:Nat):Bool:=decide (aS b (az W i)=j)&&(decide (0 < P.getD i 0)&&decide (pS L o < pS L (cy b (az W i))))
theorem NA(h:Wd G T W){pl:Pl}(e:(aX b G T)[j]?=some pl)(o:Int):(List.range W.length).any (KJ b W P pl.2 j o)=(pl.2.drop (pS pl.2 o+1)).any fun o=>decide (0 < P.getD (lV b W j o) 0):=by
 have hn:pl.2.Nodup:=by
  have:=(dP h e).nodup_iff.mpr (List.nodup_range.filter _)
  unfold jy at this
  exact List.Pairwise.of_map _ (fun a b hab e=>hab (jC _ e)) this
 rw[vA,List.any_eq_true,List.any_eq_true]
 constructor
 ·rintro⟨i,hi,hq⟩
  unfold KJ at hq
  simp only[zF,zJ] at hq
  obtain⟨h1,h2,h3⟩:=hq
  have hi':i < W.length:=by simpa using hi
  have io:i∈own b W j:=cu.mpr ⟨hi',h1⟩
  have ip:=(dP h e).mem_iff.mpr io
  unfold jy at ip
  obtain⟨y,hy,hyi⟩:=List.mem_map.mp ip
  have hyo:=(gJ h e hy).2.2
  rw[hyi] at hyo
  refine⟨y,(EA hn).mpr ⟨hy,by rw[<- hyo];lia⟩,?_⟩
  rw[hyi]
  simpa using h2
 ·rintro⟨y,hy,hq⟩
  obtain⟨hm,hle⟩:=(EA hn).mp hy
  obtain⟨h1,h2,h3⟩:=gJ h e hm
  refine⟨lV b W j y,by simpa using h1,?_⟩
  unfold KJ
  rw[h3]
  simp only[zF,zJ] at hq ⊢
  exact⟨h2,hq,by lia⟩
abbrev sW(G T:List Pl)(W:List Wy)(P:List Int)(b:Bool)(j:Nat)(o:Int)(x y z:Slot):ak:=[.val (aB G T W),.val (ag P),.val (.int (sI b)),.val (nD j),.val (.int o),x,y,z]
abbrev sY(G T:List Pl)(W:List Wy)(P:List Int)(k:Nat):ak:=[.val (aB G T W),.val (ag P),.val (nD k),.val (.int (az W k).1),.val (.int (az W k).2.1),.val (.int (az W k).2.2)]
def SM:ak->Option Out:=(ij (dv (fB (f2 aP (f2 av (ae 7) (ae 2)) (ae 3))) (dv (fB (f2 vd (ae 6) (fC (.int 0)))) (fB (f2 vd (f2 mw (ae 5) (f2 av (ae 7) (f2 Dl.eX (fC (.int 1)) (ae 2)))) (f2 mw (ae 5) (ae 4)))))) (aK (fC (.bool true))) gH)
theorem oR(h:Wd G T W)(hp:P.length=W.length)(hs:Sm P)(b:Bool)(hk:k < W.length):cJ [aB G T W,ag P,.int (sI b),.int (aS b (az W k)),.int (cy b (az W k))]=some (.bool (yv b G T W P k)):=by
 have hw:=h.wl
 obtain⟨z1,z2,z3⟩:=h.end_pl b hk
 have hx:(aX b G T)[(aS b (az W k)).toNat]?=some (bT b G T (aS b (az W k)).toNat):=by
  rw[zK z2]
  simp[bT,z2]
 have hmem:∀i,i < W.length->aS b (az W i)=((aS b (az W k)).toNat:Int)->cy b (az W i)∈(bT b G T (aS b (az W k)).toNat).2:=fun i hi he=>by
  have io:i∈own b W ((aS b (az W k)).toNat:Int):=cu.mpr ⟨hi,he⟩
  have ip:=(dP h hx).mem_iff.mpr io
  unfold jy at ip
  obtain⟨y,hy,hyi⟩:=List.mem_map.mp ip
  have hyo:=(gJ h hx hy).2.2
  rw[hyi] at hyo
  rw[hyo]
  exact hy
 have hko:=hmem k hk z3.symm
 have hany:=NA (P:=P) h hx (cy b (az W k))
 have hm:yv b G T W P k=(decide (mK b W P ((aS b (az W k)).toNat:Int) < (bT b G T (aS b (az W k)).toNat).1)||((bT b G T (aS b (az W k)).toNat).2.drop (pS (bT b G T (aS b (az W k)).toNat).2 (cy b (az W k))+1)).any fun o=>decide (0 < P.getD (lV b W ((aS b (az W k)).toNat:Int) o) 0)):=by
  unfold yv
  rw[z3]
 rw[hm,<- hany]
 have ez:PyData.int (aS b (az W k))=nD (aS b (az W k)).toNat:=by show _=PyData.int _;rw[z3]
 rw[ez]
 generalize hpl:bT b G T (aS b (az W k)).toNat=pl at *
 generalize hj:(aS b (az W k)).toNat=j at *
 generalize ho:cy b (az W k)=o at *
 clear hm hany ez
 have ep:av (.tuple ((aX b G T).map bc)) (nD j)=some (bc pl):=oF hx
 refine aR ?_
 show fO (sW G T W P b j o .non .non .non)=_
 unfold fO
 have ct:(fB (f2 GE (ai 4 bN (aa (ae 0) (aa (ae 1) (aa (ae 2) (aa (ae 3) af))))) (f2 av (f2 av (f2 av (ae 0) (ae 2)) (ae 3)) (fC (.int 0))))) (aI (sW G T W P b j o .non .non .non))=some (decide (mK b W P j < pl.1)):=by
  refine cg (aC (nj _ _) (call_of (qu h hp hs b j) rfl rfl) ?_)
  exact aC (a:=bc pl) (b:=.int 0) rfl (aC ep (aC (gP b G T W) rfl rfl) rfl) rfl
 cases hc:decide (mK b W P j < pl.1) with
 | true =>
  rw[hc] at ct
  exact ki ((fI ct).trans (aY rfl))
 | false =>
  rw[hc] at ct
  rw[aq (d9 ct),Bool.false_or]
  have er:∀ρ:Dl.Env,ae 0 ρ=some (aB G T W)->ae 2 ρ=some (.int (sI b))->ae 3 ρ=some (nD j)->(f2 av (f2 av (f2 av (ae 0) (ae 2)) (ae 3)) (fC (.int 1))) ρ=some (ag pl.2):=fun ρ h0 h2 h3=>aC (a:=bc pl) (b:=.int 1) rfl (aC ep (aC (gP b G T W) h0 h2) h3) rfl
  rw[aq (cO (er _ rfl rfl rfl) (er _ rfl rfl rfl) rfl)]
  obtain⟨f1,f2'⟩:=fZ (tgt:=fJ 6 7) (gb:=SM) (fun ρ=>∃x y,ρ=(sW G T W P b j o (.val (ag pl.2)) x y)) (fun i:Nat=>.tuple [.int (P.getD i 0),ar (az W i)]) (KJ b W P pl.2 j o) (fun _=>.bool true)
   (l:=List.range W.length) (ρ:=(sW G T W P b j o (.val (ag pl.2)) .non .non))
   (fun ρ i hi hρ=>by
    obtain⟨x,y,rfl⟩:=hρ
    have hi':i < W.length:=by simpa using hi
    have c:(dv (fB (f2 aP (f2 av (ae 7) (ae 2)) (ae 3))) (dv (fB (f2 vd (ae 6) (fC (.int 0)))) (fB (f2 vd (f2 mw (ae 5) (f2 av (ae 7) (f2 Dl.eX (fC (.int 1)) (ae 2)))) (f2 mw (ae 5) (ae 4)))))) (aI (sW G T W P b j o (.val (ag pl.2)) (.val (.int (P.getD i 0))) (.val (ar (az W i)))))=some (KJ b W P pl.2 j o i):=by
     have c1:(fB (f2 aP (f2 av (ae 7) (ae 2)) (ae 3))) (aI (sW G T W P b j o (.val (ag pl.2)) (.val (.int (P.getD i 0))) (.val (ar (az W i)))))=some (decide (aS b (az W i)=((j:Nat):Int))):=cg (aC (bE _ _) (aC (i8 b _) rfl rfl) rfl)
     unfold KJ
     cases e1:decide (aS b (az W i)=((j:Nat):Int)) with
     | false=>rw[e1] at c1;exact DD c1
     | true =>
      rw[e1] at c1
      refine Ad c1 ?_
      have c2:(fB (f2 vd (ae 6) (fC (.int 0)))) (aI (sW G T W P b j o (.val (ag pl.2)) (.val (.int (P.getD i 0))) (.val (ar (az W i)))))=some (decide (0 < P.getD i 0)):=cg (aC (fP _ _) rfl rfl)
      cases e2:decide (0 < P.getD i 0) with
      | false=>rw[e2] at c2;exact DD c2
      | true =>
       rw[e2] at c2
       refine Ad c2 ?_
       have hio:=hmem i hi' (by simpa using e1)
       have hway:av (ar (az W i)) (.int (1 - sI b))=some (.int (cy b (az W i))):=by cases b<;>rfl
       refine (cg (aC (fP _ _) (aC (Do hio) rfl (aC hway rfl (aC (sub_int 1 (sI b)) rfl rfl))) (aC (Do hko) rfl rfl))).trans ?_
       congr 1
       exact decide_eq_decide.mpr (by lia)
    refine⟨_,rfl,fun hq=>?_,fun hq=>?_⟩
    ·rw[hq] at c
     exact (fI c).trans (aY rfl)
    ·rw[hq] at c
     exact⟨_,d9 c,_,_,rfl⟩) ⟨_,_,rfl⟩
  have hz:ck (aa (ae 1) (aa (f2 av (ae 0) (fC (.int 2))) af)) (bP (sW G T W P b j o (.val (ag pl.2)) .non .non))=some ((List.range W.length).map fun i=>.tuple [.int (P.getD i 0),ar (az W i)]):=by
   rw[<- mi hp]
   rfl
  cases ef:(List.range W.length).find? (KJ b W P pl.2 j o) with
  | some i =>
   have:(List.range W.length).any (KJ b W P pl.2 j o)=true:=List.any_eq_true.mpr ⟨i,jY ef,wA ef⟩
   rw[this]
   exact ki (bK (f1 i ef) hz rfl)
  | none =>
   have:(List.range W.length).any (KJ b W P pl.2 j o)=false:=by
    rw[List.any_eq_false]
    exact List.find?_eq_none.mp ef
   rw[this]
   obtain⟨ρ',e',x',y',rfl⟩:=f2' ef
   exact (aq (bK e' hz rfl)).trans (aY rfl)
theorem Ke{i j l:Nat}{ρ:ak}{x y z:D}(hf:f (bP ρ)=some (.tuple [x,y,z]))(hh:hand fz 0 ρ=ρ):oi i j l fz f ρ=some (.nx (((ρ.set i (.val x)).set j (.val y)).set l (.val z))):=by
 unfold oi
 rw[hh,hf,zA]
 show some (Out.nx ((((if _ then ρ else ρ).set i _).set j _).set l _))=_
 rw[ite_self]
theorem FB(h:Wd G T W)(hp:P.length=W.length)(hs:Sm P)(hk:k < W.length):gm [aB G T W,ag P,nD k]=some (P5 (rR G T W P k)):=by
 refine aR ?_
 show ja [.val (aB G T W),.val (ag P),.val (nD k),.non,.non,.non]=_
 unfold ja rR
 have hw:(f2 av (f2 av (ae 0) (fC (.int 2))) (ae 2)) (bP [.val (aB G T W),.val (ag P),.val (nD k),.non,.non,.non])=some (.tuple [.int (az W k).1,.int (az W k).2.1,.int (az W k).2.2]):=aC (ow hk) rfl rfl
 refine (aq (Ke hw rfl)).trans ?_
 have c1:(fB (f2 aP (f2 av (ae 1) (ae 2)) (ae 5))) (aI (sY G T W P k))=some (decide (P.getD k 0=(az W k).2.2)):=cg (aC (bE _ _) (aC (qj (by rw[hp];exact hk)) rfl rfl) rfl)
 have w0:=oR h hp hs false hk
 have w1:=oR h hp hs true hk
 have c2:(cm (fB (ai 5 cJ (aa (ae 0) (aa (ae 1) (aa (fC (.int 0)) (aa (ae 3) (aa (ae 4) af)))))))) (aI (sY G T W P k))=some (!(yv false G T W P k)):=iY (cg (call_of w0 rfl rfl))
 have c3:(fB (ai 5 cJ (aa (ae 0) (aa (ae 1) (aa (fC (.int 1)) (aa (ae 4) (aa (ae 3) af))))))) (aI (sY G T W P k))=some (yv true G T W P k):=cg (call_of w1 rfl rfl)
 by_cases e1:P.getD k 0=(az W k).2.2
 ·rw[yA e1] at c1
  rw[yL e1]
  exact ki ((fI c1).trans (aY rfl))
 ·rw[zZ e1] at c1
  rw[yN e1]
  refine (aq (d9 c1)).trans ?_
  cases e2:yv false G T W P k with
  | false =>
   rw[e2] at c2
   rw[yL rfl]
   exact ki ((fI c2).trans (aY rfl))
  | true =>
   rw[e2] at c2
   rw[yN (by simp)]
   refine (aq (d9 c2)).trans ?_
   cases e3:yv true G T W P k with
   | false =>
    rw[e3] at c3
    rw[yL rfl]
    exact aY (CQ c3 rfl)
   | true =>
    rw[e3] at c3
    rw[yN (by simp)]
    exact aY (wg c3 rfl)
theorem AC(h:Wd G T W)(hp:P.length=W.length)(hs:Sm P):dm [aB G T W,ag P]=some (.bool (decide (Fs G T W P=[]))):=by
 have hw:=h.wl
 refine aR ?_
 show fQ [.val (aB G T W),.val (ag P)]=_
 unfold fQ
 have c:ao 1 [0,1] (aZ (aa (bA bS (aa (ae 1) af)) af)) (fG 0) (fB (f2 Az (ai 3 gm (aa (ae 1) (aa (ae 2) (aa (ae 0) af)))) (fC .none))) (ae 0) [some (aB G T W),some (ag P)]=some ((Fs G T W P).map nD) :=
  C0 (mH (Jq hp rfl) (by lia)) (by rw[zR];lia) fun k hk=>⟨cg (aC (KA _ (Nq G T W P k)) (call_of (FB h hp hs (by simpa using hk)) rfl rfl) rfl),fun _=>rfl⟩
 exact aY (aC (Gx (Fs G T W P)) (iT c) (nil_of _))
def Rq:ak->Option Out:=(aG 3 [2,3,4] (PP nO (ae 3) (cn (ao 1 [4] (aZ (aa (f2 Dl.aW (f2 av (ae 2) (fC (.int 2))) (fC (.int 1))) af)) (fG 0) (fun _=>some true) (f2 Dl.aW (ae 1) (aJ (aa (ae 0) af)))))))
theorem LQ{d:D}{x1:Slot}{acc:List (List Int)}(hl:0<=w.2.2/\w.2.2<=9)(hr:r.length<=100)(ha:acc.length<=7000):Rq [.val d,x1,.val (ar w),.own (acc.map ag),.val (ag r)]=some (.nx [.val d,x1,.val (ar w),.own ((acc++ext w.2.2 r).map ag),.val (ag r)]):=by
 have c:ao 1 [4] (aZ (aa (f2 Dl.aW (f2 av (ae 2) (fC (.int 2))) (fC (.int 1))) af)) (fG 0) (fun _=>some true) (f2 Dl.aW (ae 1) (aJ (aa (ae 0) af))) (bP [.val d,x1,.val (ar w),.val (.list (acc.map ag)),.val (ag r)])=some ((List.range (w.2.2+1).toNat).map fun m=>ag (r++[((m:Nat):Int)])):=by
  refine lq (mH (n:=(w.2.2+1).toNat) (cons_of ?_ rfl) (by lia)) (by rw[zR];lia) fun m _=>aC (LX (a:=r) (b:=[((m:Nat):Int)]) (by simp;lia)) rfl (Pr rfl)
  rw[show nD (w.2.2+1).toNat=.int (w.2.2+1) by show PyData.int _=_;congr 1;lia]
  exact aC (mS w.2.2 1) (aC (we w) rfl rfl) rfl
 have hh:hand [2,3,4] 0 [Slot.val d,x1,.val (ar w),.own (acc.map ag),.val (ag r)]=[Slot.val d,x1,.val (ar w),.val (.list (acc.map ag)),.val (ag r)]:=rfl
 have hz:(acc.map ag).length+((List.range (w.2.2+1).toNat).map fun m=>ag (r++[((m:Nat):Int)])).length<=sizeLine:=by
  rw[zD,zD,zR]
  exact yD (show acc.length+(w.2.2+1).toNat<=8000 by lia) (by decide)
 have e:(acc++ext w.2.2 r).map ag=acc.map ag++(List.range (w.2.2+1).toNat).map fun m=>ag (r++[((m:Nat):Int)]):=by
  rw[jA,ext,zM]
  rfl
 rw[e]
 refine pX hh ?_
 show (PP nO _ _) _=_
 unfold PP
 rw[show ae 3 (bP [Slot.val d,x1,.val (ar w),.val (.list (acc.map ag)),.val (ag r)])=some (.list (acc.map ag)) from rfl,zA,iT c,zA]
 exact yL (by rw[zN];exact hz)
def R9:ak->Option Out:=(ax (aG 3 [] (cD af)) (ax (cX [1] (aQ (ae 1)) (kh 4) Rq) (Dl.aF 1 [3] (ae 3))))
theorem DJ{d:D}{x1:Slot}{w:Wy}(hl:0<=w.2.2/\w.2.2<=2):∀ (fs acc:List (List Int)) (x4:Slot),(∀r∈fs,r.length<=16)->acc.length+3 * fs.length<=7000->∃y4,dX (kh 4) Rq (fs.map ag) [.val d,x1,.val (ar w),.own (acc.map ag),x4]=some (.nx [.val d,x1,.val (ar w),.own ((acc++zj w.2.2 fs).map ag),y4])
 | [],acc,x4,_,_=>⟨x4,by simp[zj,dX]⟩
 | r::fs,acc,x4,hr,hb=>by
  have he:(ext w.2.2 r).length<=3:=by unfold ext;rw[zD,zR];lia
  rw[zL] at hb
  obtain⟨y4,e⟩:=DJ (d:=d) (x1:=x1) hl fs (acc++ext w.2.2 r) (.val (ag r)) (fun q hq=>hr q (zC _ hq)) (by rw[zN];lia)
  have h1:=LQ (d:=d) (x1:=x1) (w:=w) (acc:=acc) (r:=r) ⟨hl.1,by lia⟩ (by have:=hr r zE;lia) (by lia)
  have ht:kh 4 [.val d,x1,.val (ar w),.own (acc.map ag),x4] (ag r)=some [.val d,x1,.val (ar w),.own (acc.map ag),.val (ag r)]:=rfl
  refine⟨y4,?_⟩
  rw[zI,dX,ht,zA,h1]
  show dX (kh 4) Rq (fs.map ag) _=_
  rw[e,J6,List.append_assoc]
theorem Mh{d:D}{s1 x3 x4:Slot}{fs:List (List Int)}(hl:0<=w.2.2/\w.2.2<=2)(hr:∀r∈fs,r.length<=16)(hf:fs.length<=2187)(h1:s1=.own (fs.map ag)\/s1=.val (.list (fs.map ag))):∃y3 y4,R9 [.val d,s1,.val (ar w),x3,x4]=some (.nx [.val d,.val (.list ((zj w.2.2 fs).map ag)),.val (ar w),y3,y4]):=by
 obtain⟨y4,e⟩:=DJ (d:=d) (x1:=.val (.list (fs.map ag))) hl fs [] x4 hr (by simp;lia)
 rw[xO] at e
 have t1:aG 3 [] (cD af) [.val d,s1,.val (ar w),x3,x4]=some (.nx [.val d,s1,.val (ar w),.own [],x4]):=dF (sv (ds:=[]) rfl (by simp)) rfl
 have hh:hand [1] 0 [.val d,s1,.val (ar w),.own [],x4]=[Slot.val d,.val (.list (fs.map ag)),.val (ar w),.own [],x4]:=by
  rcases h1 with rfl|rfl<;>rfl
 unfold R9
 rw[aq t1]
 refine⟨.val (.list ((zj w.2.2 fs).map ag)),y4,?_⟩
 refine (aq (bK e rfl hh)).trans ?_
 exact mD (ρ':=[.val d,.val (.list (fs.map ag)),.val (ar w),.val (.list ((zj w.2.2 fs).map ag)),y4]) rfl (d:=.list ((zj w.2.2 fs).map ag)) rfl rfl rfl (.inl rfl)
theorem D7{d:D}:∀ (W:List Wy) (fs:List (List Int)) (s1 x2 x3 x4:Slot),(∀w∈W,0<=w.2.2/\w.2.2<=2)->fs.length * 3 ^ W.length<=2187->(∀r∈fs,r.length<=16 - W.length)->W.length<=16->(s1=.own (fs.map ag)\/s1=.val (.list (fs.map ag))) ->
  ∃s1' y2 y3 y4,dX (kh 2) R9 (W.map ar) [.val d,s1,x2,x3,x4]=some (.nx [.val d,s1',y2,y3,y4])/\(s1'=.own ((Fg W fs).map ag)\/s1'=.val (.list ((Fg W fs).map ag)))
 | [],fs,s1,x2,x3,x4,_,_,_,_,h1=>⟨s1,x2,x3,x4,rfl,h1⟩
 | w::W,fs,s1,x2,x3,x4,hl,hf,hr,hw,h1=>by
  rw[zL] at hf hr hw
  have hf1:fs.length<=2187:=yD (Nat.le_mul_of_pos_right _ (Nat.pow_pos (by lia))) hf
  have hlw:=hl w zE
  obtain⟨y3,y4,e⟩:=Mh (d:=d) (x3:=x3) (x4:=x4) hlw (fun r hr'=>by have:=hr r hr';lia) hf1 h1
  have hll:(zj w.2.2 fs).length<=fs.length * 3:=by rw[EG];exact Nat.mul_le_mul_left _ (by lia)
  obtain⟨s1',z2,z3,z4,e2,h2⟩:=D7 (d:=d) W (zj w.2.2 fs) (.val (.list ((zj w.2.2 fs).map ag))) (.val (ar w)) y3 y4 (fun q hq=>hl q (zC _ hq)) (by
   refine yD (Nat.mul_le_mul_right _ hll) ?_
   rw[Nat.mul_assoc,<- Nat.pow_succ']
   exact hf) (fun r hr'=>by
   have:=K6 (n:=16 - (W.length+1)) hr r hr'
   lia) (by lia) (.inr rfl)
  have ht:kh 2 [.val d,s1,x2,x3,x4] (ar w)=some [.val d,s1,.val (ar w),x3,x4]:=rfl
  refine⟨s1',z2,z3,z4,?_,h2⟩
  rw[zI,dX,ht,zA,e]
  exact e2
theorem oP(h:Wd G T W)(hl:∀w∈W,0<=w.2.2/\w.2.2<=2)(hw:W.length<=7):dk [aB G T W]=some (.list ((HD G T W).map ag))/\(HD G T W).length<=2187:=by
 have hlen:(Fg W [[]]).length<=2187:=by
  have:=Eb W [[]] hl
  rw[xC,Nat.one_mul] at this
  exact yD this (yD (Nat.pow_le_pow_right (by lia) hw) (by decide))
 refine⟨?_,yD (xP _ _) hlen⟩
 obtain⟨s1',z2,z3,z4,e2,h2⟩:=D7 (d:=aB G T W) W [[]] (.own ([[]].map ag)) .non .non .non hl (by
  rw[xC,Nat.one_mul]
  exact yD (Nat.pow_le_pow_right (by lia) hw) (by decide)) (fun r hr=>by simp at hr;subst hr;simp) (by lia) (.inl rfl)
 refine aR ?_
 show fL [.val (aB G T W),.non,.non,.non,.non]=_
 unfold fL
 refine (aq (dF (ds:=[[]].map ag) (sv (cons_of (tup_is (ds:=[]) rfl (by simp)) rfl) (by simp)) rfl)).trans ?_
 refine (aq (bK e2 (Mq (aC (jh G T W) rfl rfl)) rfl)).trans ?_
 refine aY (iT ?_)
 have hs:aQ (ae 1) (aI [.val (aB G T W),s1',z2,z3,z4])=some ((Fg W [[]]).map ag):=by rcases h2 with rfl|rfl<;>rfl
 refine uV (g:=ag) (f:=ag) (q:=K8 G T W) hs (by lia) fun x hx=>⟨?_,fun _=>rfl⟩
 obtain⟨h1,h2⟩:=Dm.mp hx
 have hb:QE W x=true:=List.all_eq_true.mpr fun k hk=>by
  have:=h2 k (by simpa using hk)
  simp only[zF,zJ]
  exact this
 have hpn:K8 G T W x=FO G T W x:=by unfold K8;rw[hb,jL,IA]
 rw[hpn]
 exact cg (call_of (BF h h1 fun k=>by
  by_cases hk:k < W.length
  ·have a:=h2 k hk
   have b:=(h.wr _ (HA hk)).2.2.2
   lia
  ·rw[f9 (by lia)]
   lia) rfl rfl)
end
namespace K20M
open Ex
section
variable {G T:List Pl}{W:List Wy}{P X B:List Int}{b:Bool}{i:Nat}
abbrev Ks:Str:="NoWorld"
theorem Kc{d:D}(h:aO [d]=some (.bool false)):aV [d]=none/\br [d]=some Ks:=by
 have c:(cm (fB (ai 1 aO (aa (ae 0) af)))) (aI [.val d])=some true:=iY (b:=false) (cg (call_of h rfl rfl))
 constructor
 ·show (b8 [.val d]).map _=none
  rw[show b8 [.val d]=none from (fI c).trans rfl]
  rfl
 ·show gh [.val d]=_
  show ((cm (fB (ai 1 aO (aa (ae 0) af)))) (aI [.val d])).bind _=_
  rw[c]
  rfl
theorem iz{m:List D->Option D}{fs:Dl.Env->Option (List D)}(h:m ds=none)(hf:fs ρ=some ds):ai n m fs ρ=none:=by
 unfold ai
 rw[hf,zA,h]
 simp
theorem Bc{m:List D->Option Str}{fs:Dl.Env->Option (List D)}{c:Str}(h:m ds=some c)(hf:fs ρ=some ds)(hn:ds.length=n):uN n m fs ρ=some c:=by
 unfold uN
 rw[hf,zA,yL hn,h]
theorem Ow{d:D}(h:aO [d]=some (.bool false)):aH [d]=none/\b9 [d]=some Ks:=by
 obtain⟨h1,h2⟩:=Kc h
 constructor
 ·show (cQ [.val d]).map _=none
  unfold cQ ax rP
  rw[show (ai 1 aV (aa (ae 0) af)) (aI [.val d])=none from iz h1 rfl]
  rfl
 ·show (uN 1 br (aa (ae 0) af)) (aI [.val d])=_
  exact Bc h2 rfl rfl
theorem NR{d:D}(h:aO [d]=some (.bool false)):bq [d]=none/\cS [d]=some Ks:=by
 obtain⟨h1,h2⟩:=Kc h
 have ht:eU [d]=none:=by
  show (iG [.val d,.non]).map _=none
  unfold iG ax rP
  rw[show (ai 1 aV (aa (ae 0) af)) (aI [.val d,.non])=none from iz h1 rfl]
  rfl
 constructor
 ·show (cR [.val d,.non]).map _=none
  unfold cR ax Dl.aF
  rw[show (ai 1 eU (aa (ae 0) af)) (aI [.val d,.non])=none from iz ht rfl]
  rfl
 ·have hx:iL [d]=some Ks:=by
   show (uN 1 br (aa (ae 0) af)) (aI [.val d,.non])=_
   exact Bc h2 rfl rfl
  have hq:(ml (uN 1 iL (aa (ae 0) af))) [.val d,.non]=some Ks:=by
   show (uN 1 iL (aa (ae 0) af)) (aI [.val d,.non])=_
   exact Bc hx rfl rfl
  show dQ [.val d,.non]=_
  unfold dQ uf
  rw[hq]
abbrev sL(i:Int)(d:D):ak:=[.val (.int i),.val d,.non]
def gp:D:=.tuple [.str "refused",.int 0]
theorem GH:aP (.list [gp,gp]) (.list [gp,gp])=some (.bool true):=by
 have e1:PyData.eqv gp gp=true:=Le fun d hd=>by
  simp only[zQ,yF,xU] at hd
  rcases hd with rfl|rfl
  ·simp[PyData.eqv]
  ·exact NU 0
 have hf:SeqAt.shaped (.list [gp,gp])=true:=by simp[SeqAt.shaped,gp,PyData.canLay0,PyData.canLayAll0,PyData.depth,PyData.depthAll];decide +kernel
 have e2:PyData.eqv (.list [gp,gp]) (.list [gp,gp])=true:=by
  rw[PyData.eqv]
  exact lh fun d hd=>by
   simp only[zQ,yF,xU,or_self] at hd
   subst hd
   exact e1
 simp only[aP,Lo,hf,jP,xH,e2,zB]
theorem Aq{d:D}(h:aO [d]=some (.bool false))(b:Bool):aU [.int (sI b),d]=some gp:=by
 obtain⟨g1,g2⟩:=Ow h
 obtain⟨t1,t2⟩:=NR h
 refine aR ?_
 show bV (sL (sI b) d)=_
 have hf:xt ["NoWorld","NoPlan","NoPlace","TooMany","Nothing"] Ks=some gp:=by
  unfold xt
  rw[yL (by decide +kernel)]
  have:AB (.bool true) ((["NoWorld","NoPlan","NoPlace","TooMany","Nothing"]:List Str).map fun n=>.bool (Ks == n))=some 0:=by
   rw[zI,show (Ks == ("NoWorld":Str))=true by decide +kernel,AB,yL (by simp[PyData.eqv])]
  rw[this]
  rfl
 unfold bV Fz
 cases b with
 | false =>
  have c:(fB (f2 aP (ae 0) (fC (.int 0)))) (aI (sL (sI false) d))=some true:=cg (aC ((bE 0 0).trans (by simp)) rfl rfl)
  have n1:(aK (Bh (fB (f2 aP (ae 0) (fC (.int 0)))) (ai 1 aH (aa (ae 1) af)) (ai 1 bq (aa (ae 1) af)))) (sL (sI false) d)=none:=by
   unfold aK Bh
   rw[c,zA]
   show ((ai 1 aH (aa (ae 1) af)) (aI (sL (sI false) d))).map _=none
   rw[iz g1 rfl]
   rfl
  have n2:(ml (BZ (fB (f2 aP (ae 0) (fC (.int 0)))) (uN 1 b9 (aa (ae 1) af)) (uN 1 cS (aa (ae 1) af)))) (sL (sI false) d)=some Ks:=by
   unfold ml BZ
   rw[c,zA,yL rfl]
   exact Bc g2 rfl rfl
  rw[n1,n2]
  simp only[zA,hf,zB]
 | true =>
  have c:(fB (f2 aP (ae 0) (fC (.int 0)))) (aI (sL (sI true) d))=some false:=cg (aC ((bE 1 0).trans (by simp)) rfl rfl)
  have n1:(aK (Bh (fB (f2 aP (ae 0) (fC (.int 0)))) (ai 1 aH (aa (ae 1) af)) (ai 1 bq (aa (ae 1) af)))) (sL (sI true) d)=none:=by
   unfold aK Bh
   rw[c,zA]
   show ((ai 1 bq (aa (ae 1) af)) (aI (sL (sI true) d))).map _=none
   rw[iz t1 rfl]
   rfl
  have n2:(ml (BZ (fB (f2 aP (ae 0) (fC (.int 0)))) (uN 1 b9 (aa (ae 1) af)) (uN 1 cS (aa (ae 1) af)))) (sL (sI true) d)=some Ks:=by
   unfold ml BZ
   rw[c,zA,yN (by simp)]
   exact Bc t2 rfl rfl
  rw[n1,n2]
  simp only[zA,hf,zB]
def bb(b:Bool)(G T:List Pl)(W:List Wy):List Int:=if b then tJ G T W else sP G T W
theorem QR(h:Wd G T W)(b:Bool):Pn G T W (bb b G T W):=by cases b;exact ji h;exact M0 h
theorem Qc(h:Wd G T W)(b:Bool):Rs G T W (bb b G T W):=by cases b;exact Cu h;exact P2 h
theorem Pu(h:Wd G T W)(b:Bool)(x:Pn G T W X)(r:Rs G T W X):bp b G T W (mx (bb b G T W) X)=bb b G T W:=by cases b;exact Mf h x r;exact (GZ h x r).1
theorem EZ(h:Wd G T W)(b:Bool):aU [.int (sI b),aB G T W]=some (ag (bb b G T W)):=by
 refine aR ?_
 show bV (sL (sI b) (aB G T W))=_
 unfold bV Fz
 have:(aK (Bh (fB (f2 aP (ae 0) (fC (.int 0)))) (ai 1 aH (aa (ae 1) af)) (ai 1 bq (aa (ae 1) af)))) (sL (sI b) (aB G T W))=some (.rt (ag (bb b G T W))):=by
  refine aY ?_
  cases b with
  | false=>exact wg (cg (aC ((bE 0 0).trans (by simp)) rfl rfl)) (call_of (Ij h) rfl rfl)
  | true=>exact CQ (cg (aC ((bE 1 0).trans (by simp)) rfl rfl)) (call_of (KB h) rfl rfl)
 rw[this]
theorem Q3{fp fx:Dl.Env->Option D}(hp:P.length=X.length)(hl:P.length<=1000)(h1:fp ρ=some (ag P))(h2:fx ρ=some (ag X)):bA bw (aa (cn (ao 2 [] (ck (aa fp (aa fx af))) (ft 0 1) (fun _=>some true) (bA CY (aa (ae 0) (aa (ae 1) af))))) af) ρ=some (ag (mx P X)):=by
 have hz:ck (aa fp (aa fx af)) ρ=some ((List.range P.length).map fun i=>.tuple [.int (P.getD i 0),.int (X.getD i 0)]):=by
  rw[<- zip_rows hp]
  unfold ck
  rw[cons_of h1 (cons_of h2 rfl)]
  rfl
 have c:=iy (cs:=[]) (tt:=fun _=>some true) (te:=bA CY (aa (ae 0) (aa (ae 1) af))) (p:=fun _=>true) (h:=fun i=>.int (max (P.getD i 0) (X.getD i 0))) hz hl fun i hi=>⟨rfl,fun _=>rfl⟩
 rw[BS (iT c),CV,show (List.range P.length).filter (fun _=>true)=List.range P.length by simp]
 have e:mx P X=(List.range P.length).map fun i=>max (P.getD i 0) (X.getD i 0):=by
  refine pW (by rw[xv hp];simp) fun k hk=>?_
  rw[xv hp] at hk
  rw[IP hp k (.inr hk)]
  simp[hk]
 rw[e,ag,zM]
 rfl
theorem NV{fw fp:Dl.Env->Option D}(hp:P.length=W.length)(hw:W.length<=16)(h1:fw ρ=some (aB G T W))(h2:fp ρ=some (ag P))(h3:(ρ[m]?).getD none=some (.int (sI b)))(h4:(ρ[n]?).getD none=some (nD i)) :
  ao 2 [m,n] (ck (aa fp (aa (f2 av fw (fC (.int 2))) af))) (ft 0 1) (fun _=>some true) (Bh (fB (f2 aP (f2 av (ae 1) (ae 2)) (ae 3))) (ae 0) (fC (.int 0))) ρ=some ((yj b W P i).map PyData.int):=by
 have hz:ck (aa fp (aa (f2 av fw (fC (.int 2))) af)) ρ=some ((List.range W.length).map fun i=>.tuple [.int (P.getD i 0),ar (az W i)]):=by
  rw[<- mi hp]
  unfold ck
  rw[cons_of h2 (cons_of (aC (jh G T W) h1 rfl) rfl)]
  rfl
 have c:=iy (cs:=[m,n]) (tt:=fun _=>some true) (te:=Bh (fB (f2 aP (f2 av (ae 1) (ae 2)) (ae 3))) (ae 0) (fC (.int 0))) (p:=fun _=>true) (h:=fun q=>.int (if aS b (az W q)=((i:Nat):Int) then P.getD q 0 else 0)) hz (by lia) fun q hq=>⟨rfl,fun _=>by
  simp only[zI,yU,h3,h4]
  by_cases e:aS b (az W q)=((i:Nat):Int)
  ·rw[yL e]
   exact wg (cg (aC ((bE _ _).trans (by rw[yA e])) (aC (i8 b _) rfl rfl) rfl)) rfl
  ·rw[yN e]
   exact CQ (cg (aC ((bE _ _).trans (by rw[zZ e])) (aC (i8 b _) rfl rfl) rfl)) rfl⟩
 rw[c,show (List.range W.length).filter (fun _=>true)=List.range W.length by simp,yj,zM]
 rfl
abbrev sK(s:D)(G T:List Pl)(W:List Wy)(x2 x3 x4 x5 x6 x7 x8 x9:Slot):ak:=[.val s,.val (aB G T W),x2,x3,x4,x5,x6,x7,x8,x9]
def pB:ak->Option Out:=(ax (aG 8 [1,3,4,7] (ao 2 [3,7] (ck (aa (ae 4) (aa (f2 av (ae 1) (fC (.int 2))) af))) (ft 0 1) (fun _=>some true) (Bh (fB (f2 aP (f2 av (ae 1) (ae 2)) (ae 3))) (ae 0) (fC (.int 0))))) (ij (fB (f2 Br (ai 4 dy (aa (ae 1) (aa (ae 3) (aa (ae 7) (aa (ae 6) af))))) (bA bw (aa (ae 8) af)))) (aK (fC (.bool false))) gH))
theorem BJ(h:Wd G T W)(hb:B.length=W.length)(hx:X.length=W.length)(e:bp b G T W (mx B X)=B)(hi:i < (aX b G T).length){s:D}:∃y8,pB (sK s G T W s2 (.val (.int (sI b))) (.val (ag B)) (.val (ag X)) (.val (ag (mx B X))) (.val (nD i)) x8 x9)=some (.nx (sK s G T W s2 (.val (.int (sI b))) (.val (ag B)) (.val (ag X)) (.val (ag (mx B X))) (.val (nD i)) y8 x9)):=by
 have hw:=h.wl
 have hm:(mx B X).length=W.length:=by rw[xv (by lia)];exact hb
 have ec:=yi h hm (i6 hi)
 have eo:nW W (mx B X) (bT b G T i).1 (jy b W i (bT b G T i).2)=yj b W B i:=by
  have:=L6 h hi (mx B X)
  rw[e] at this
  exact this
 rw[eo] at ec
 refine⟨.own ((yj b W B i).map PyData.int),?_⟩
 unfold pB
 refine (aq (dF (NV (b:=b) (i:=i) (G:=G) (T:=T) (fw:=ae 1) (fp:=ae 4) hb hw rfl rfl rfl rfl) rfl)).trans ?_
 exact d9 (cg (aC (FU (yj b W B i)) (call_of ec rfl rfl) rfl))
def oB:ak->Option Out:=(ax (Dl.aF 6 [4,5] (bA bw (aa (cn (ao 2 [] (ck (aa (ae 4) (aa (ae 5) af))) (ft 0 1) (fun _=>some true) (bA CY (aa (ae 0) (aa (ae 1) af))))) af))) (cX [1,3] (aZ (aa (bA bS (aa (f2 av (ae 1) (ae 3)) af)) af)) (kh 7) pB))
theorem B0(h:Wd G T W)(hb:B.length=W.length)(hx:X.length=W.length)(e:bp b G T W (mx B X)=B){s:D}:∃y6 y7 y8,oB (sK s G T W s2 (.val (.int (sI b))) (.val (ag B)) (.val (ag X)) x6 x7 x8 x9)=some (.nx (sK s G T W s2 (.val (.int (sI b))) (.val (ag B)) (.val (ag X)) y6 y7 y8 x9)):=by
 have hw:=h.wl
 obtain⟨ρ',f,x7',x8',rfl⟩:=dW (tgt:=kh 7) (gb:=pB) (R:=fun (_:Unit) ρ=>∃x7 x8,ρ=(sK s G T W s2 (.val (.int (sI b))) (.val (ag B)) (.val (ag X)) (.val (ag (mx B X))) x7 x8 x9)) nD (fun s _=>s)
  (l:=List.range (aX b G T).length) (s:=()) (ρ:=(sK s G T W s2 (.val (.int (sI b))) (.val (ag B)) (.val (ag X)) (.val (ag (mx B X))) x7 x8 x9))
  (fun _ ρ j hj hρ=>by
   obtain⟨x7,x8,rfl⟩:=hρ
   obtain⟨y8,e'⟩:=BJ (s:=s) (s2:=s2) (x8:=x8) (x9:=x9) h hb hx e (i:=j) (by simpa using hj)
   exact⟨_,_,rfl,e',_,_,rfl⟩) ⟨_,_,rfl⟩
 refine⟨.val (ag (mx B X)),x7',x8',?_⟩
 unfold oB
 have em:∀ρ:Dl.Env,ae 4 ρ=some (ag B)->ae 5 ρ=some (ag X)->_:=fun ρ a c=>Q3 (ρ:=ρ) (by lia:B.length=X.length) (by lia) a c
 refine (aq (cO (em _ rfl rfl) (em _ rfl rfl) rfl)).trans ?_
 exact bK f (mH (JP (b:=b) rfl rfl) (by have:=h.pl b;lia)) rfl
def sB:ak->Option Out:=(ax (Dl.aF 4 [1,3] (ai 2 aU (aa (ae 3) (aa (ae 1) af)))) (ax (ij (fB (f2 BP (ae 4) (ae 2))) (aK (fC (.bool false))) gH) (cX [2] (aQ (ae 2)) (kh 5) oB)))
theorem Ni(h:Wd G T W)(b:Bool){s:D}{s2 x4 x5 x6 x7 x8 x9:Slot}(h2:s2=.own ((allR G T W).map ag)\/s2=.val (.list ((allR G T W).map ag))):∃y4 y5 y6 y7 y8,sB (sK s G T W s2 (.val (.int (sI b))) x4 x5 x6 x7 x8 x9)=some (.nx (sK s G T W (.val (.list ((allR G T W).map ag))) (.val (.int (sI b))) y4 y5 y6 y7 y8 x9)):=by
 have p:=QR h b
 obtain⟨ρ',f,x5',x6',x7',x8',rfl⟩:=dW (tgt:=kh 5) (gb:=oB) (R:=fun (_:Unit) ρ=>∃x5 x6 x7 x8,ρ=(sK s G T W (.val (.list ((allR G T W).map ag))) (.val (.int (sI b))) (.val (ag (bb b G T W))) x5 x6 x7 x8 x9)) ag (fun s _=>s)
  (l:=allR G T W) (s:=()) (ρ:=(sK s G T W (.val (.list ((allR G T W).map ag))) (.val (.int (sI b))) (.val (ag (bb b G T W))) x5 x6 x7 x8 x9))
  (fun _ ρ X hX hρ=>by
   obtain⟨x5,x6,x7,x8,rfl⟩:=hρ
   obtain⟨xp,xr⟩:=(rJ h).mp hX
   obtain⟨y6,y7,y8,e'⟩:=B0 (s:=s) (s2:=.val (.list ((allR G T W).map ag))) (x6:=x6) (x7:=x7) (x8:=x8) (x9:=x9) h p.len xp.len (Pu h b xp xr)
   exact⟨_,_,rfl,e',_,_,_,_,rfl⟩) ⟨_,_,_,_,rfl⟩
 refine⟨.val (ag (bb b G T W)),x5',x6',x7',x8',?_⟩
 unfold sB
 have ht:=EZ h b
 have h4:Dl.aF 4 [1,3] (ai 2 aU (aa (ae 3) (aa (ae 1) af))) (sK s G T W s2 (.val (.int (sI b))) x4 x5 x6 x7 x8 x9)=some (.nx (sK s G T W s2 (.val (.int (sI b))) (.val (ag (bb b G T W))) x5 x6 x7 x8 x9)):=cO (call_of ht rfl rfl) (call_of ht rfl rfl) rfl
 refine (aq h4).trans ?_
 have hm:decide (bb b G T W∈allR G T W)=true:=yA ((rJ h).mpr ⟨p,Qc h b⟩)
 have hv:ae 2 (aI (sK s G T W s2 (.val (.int (sI b))) (.val (ag (bb b G T W))) x5 x6 x7 x8 x9))=some (.list ((allR G T W).map ag)):=by rcases h2 with rfl|rfl<;>rfl
 refine (aq (d9 (cg (aC ((E3 _ _).trans (by rw[hm];rfl)) rfl hv)))).trans ?_
 refine bK f (LR rfl) ?_
 rcases h2 with rfl|rfl<;>rfl
def sU(G T:List Pl)(W:List Wy):List D:=[.none,.tuple [],.tuple [.tuple (G.map bc),.tuple (T.map bc)],.tuple [.tuple (G.map bc),.tuple (T.map bc),.list (W.map ar)],.tuple [.tuple (G.map bc),.tuple (T.map bc),.tuple (W.map ar),.int 1]]
theorem Ge(h:Wd G T W):fS 16 3 (.tuple (G.map bc))/\fS 16 3 (.tuple (T.map bc))/\fS 16 3 (.tuple (W.map ar))/\fS 16 3 (.list (W.map ar)):=by
 have hw:=h.wl
 have hwl:∀x∈W.map ar,fS 16 2 x:=fun x hx=>by
  obtain⟨w,_,rfl⟩:=List.mem_map.mp hx
  exact fS.mono (yM _) (by lia) (D1 w)
 have hf:∀x∈[PyData.tuple (G.map bc),.tuple (T.map bc),.tuple (W.map ar)],fS 16 3 x:=by
  rcases h.fit with z|⟨xs,z,_,z2⟩
  ·exact z.elim
  ·rcases z with z|z
   ·cases z
   ·cases z
    exact z2
 exact⟨hf _ (by simp),hf _ (by simp),hf _ (by simp),.lst (by rw[zD];exact hw) hwl⟩
theorem K4(h:Wd G T W):∀d∈sU G T W,aO [d]=some (.bool false):=by
 obtain⟨f1,f2',f3,f4⟩:=Ge h
 have key:∀ {d:D},fS 16 4 d->P6 d=false->aO [d]=some (.bool false):=fun hf hw=>by rw[rC hf (by decide),hw]
 intro d hd
 unfold sU at hd
 simp only[zQ,yF,xU] at hd
 rcases hd with rfl|rfl|rfl|rfl|rfl
 ·exact key (.leaf trivial) rfl
 ·exact key (.tup (by simp) (by simp)) rfl
 ·exact key (.tup (by simp) fun x hx=>by simp only[zQ,yF,xU] at hx;rcases hx with rfl|rfl<;>assumption) rfl
 ·refine key (.tup (by simp) fun x hx=>by simp only[zQ,yF,xU] at hx;rcases hx with rfl|rfl|rfl<;>assumption) ?_
  have hp:eJ (.tuple (G.map bc)) (.tuple (T.map bc)) (.list (W.map ar))=false:=by unfold eJ;simp[Ml]
  show (_&&(eJ (.tuple (G.map bc)) (.tuple (T.map bc)) (.list (W.map ar))&&_))=false
  rw[hp]
  simp
 ·exact key (.tup (by simp) fun x hx=>by simp only[zQ,yF,xU] at hx;rcases hx with rfl|rfl|rfl|rfl<;>first|assumption|exact je _) rfl
theorem main(ns:List Int)(hl:ns.length<=63):ik [.list (ns.map PyData.int)]=some (.bool true):=by
 obtain⟨G,T,W,ew,h,few⟩:=AA (ns:=ns) (a:=0) (mo:=4) hl (by lia)
 have hw4:W.length<=4:=by have:=few.wm;lia
 have hlim:∀w∈W,0<=w.2.2/\w.2.2<=2:=fun w hw=>⟨by have:=(h.wr w hw).2.2;lia,few.w2 w hw⟩
 have epl:=(oP h hlim (by lia)).1
 have hpl:=(oP h hlim (by lia)).2
 have er:ao 1 [1] (aQ (ai 1 dk (aa (ae 1) af))) (fG 0) (fB (ai 2 dm (aa (ae 1) (aa (ae 0) af)))) (ae 0) (bP (sK (du ns) G T W .non .non .non .non .non .non .non .non))=some ((allR G T W).map ag) :=
  uV (g:=ag) (f:=ag) (q:=fun P=>decide (Fs G T W P=[])) (sr epl rfl rfl) (by lia) fun x hx=>⟨cg (call_of (AC h (rS.mp hx).len ((rS.mp hx).smP h)) rfl rfl),fun _=>rfl⟩
 have hd:=eZ (ns:=ns) 70 5 hl (by lia)
 obtain⟨ρ',f,⟨s2,x3,x4,x5,x6,x7,x8,rfl,h2⟩⟩:=dW (tgt:=kh 3) (gb:=sB) (R:=fun (_:Unit) ρ=>∃s2 x3 x4 x5 x6 x7 x8,ρ=(sK (du ns) G T W s2 x3 x4 x5 x6 x7 x8 .non)/\(s2=.own ((allR G T W).map ag)\/s2=.val (.list ((allR G T W).map ag)))) (fun b:Bool=>.int (sI b)) (fun s _=>s)
  (l:=[false,true]) (s:=()) (ρ:=(sK (du ns) G T W (.own ((allR G T W).map ag)) .non .non .non .non .non .non .non))
  (fun _ ρ b _ hρ=>by
   obtain⟨s2,x3,x4,x5,x6,x7,x8,rfl,h2⟩:=hρ
   obtain⟨y4,y5,y6,y7,y8,e'⟩:=Ni (s:=du ns) (x4:=x4) (x5:=x5) (x6:=x6) (x7:=x7) (x8:=x8) (x9:=.non) h b h2
   exact⟨_,_,rfl,e',_,_,_,_,_,_,_,rfl,.inr rfl⟩) ⟨_,_,_,_,_,_,_,rfl,.inl rfl⟩
 refine aR ?_
 show (ax (Dl.aF 1 [0] (ai 3 bX (aa (ae 0) (aa (fC (.int 0)) (aa (fC (.int 4)) af))))) (ax (aG 2 [1] (ao 1 [1] (aQ (ai 1 dk (aa (ae 1) af))) (fG 0) (fB (ai 2 dm (aa (ae 1) (aa (ae 0) af)))) (ae 0))) (ax (ij (fB (f2 aP (ae 2) (cn (cD af)))) (aK (fC (.bool false))) gH) (ax (cX [] (aZ (aa (fC (.int 2)) af)) (kh 3) sB) (ax (Dl.aF 9 [0,1] (f2 av (cn (cD (aa (fC .none) (aa (aJ af) (aa (pE ke (ae 1) qf (Hu (fC (.int 2)))) (aa (aJ (aa (f2 av (ae 1) (fC (.int 0))) (aa (f2 av (ae 1) (fC (.int 1))) (aa (cn (kn cK (aa (f2 av (ae 1) (fC (.int 2))) af))) af)))) (aa (f2 Dl.aW (ae 1) (aJ (aa (fC (.int 1)) af))) af))))))) (ai 3 au (aa (ae 0) (aa (fC (.int 70)) (aa (fC (.int 5)) af)))))) (aK (f2 aP (cn (ao 1 [9] (aZ (aa (fC (.int 2)) af)) (fG 0) (fun _=>some true) (ai 2 aU (aa (ae 0) (aa (ae 1) af))))) (cn (m6 (cD (aa (aJ (aa (fC (.str "refused")) (aa (fC (.int 0)) af))) af)) (fC (.int 2))))))))))) [.val (du ns),.non,.non,.non,.non,.non,.non,.non,.non,.non]=_
 refine (aq (cO (call_of ew rfl rfl) (call_of ew rfl rfl) rfl)).trans ?_
 refine (aq (dF er rfl)).trans ?_
 refine (aq (d9 (cg (aC ((CJ _).trans (by rw[zZ (LD h)])) rfl (nil_of _))))).trans ?_
 refine (aq (bK f (mH (n:=2) rfl (by lia)) rfl)).trans ?_
 have hix:∃d∈sU G T W,av (.list (sU G T W)) (.int (dr ns 70 5))=some d:=by
  have h0:=hd.2.1
  have h5:=hd.2.2
  obtain⟨k,hk⟩:∃k:Nat,dr ns 70 5=((k:Nat):Int):=⟨(dr ns 70 5).toNat,by lia⟩
  rw[hk]
  have hk5:k < (sU G T W).length:=by
   show k < 5
   lia
  refine⟨(sU G T W)[k],qA hk5,?_⟩
  have:=Ee (f:=fun d:D=>d) (l:=sU G T W) (i:=k) (x:=(sU G T W)[k]) (by rw[zK hk5])
  rw[List.map_id'] at this
  exact this
 obtain⟨d,hdm,hix⟩:=hix
 have eb:∀ρ:Dl.Env,ae 0 ρ=some (du ns)->ae 1 ρ=some (aB G T W)->(f2 av (cn (cD (aa (fC .none) (aa (aJ af) (aa (pE ke (ae 1) qf (Hu (fC (.int 2)))) (aa (aJ (aa (f2 av (ae 1) (fC (.int 0))) (aa (f2 av (ae 1) (fC (.int 1))) (aa (cn (kn cK (aa (f2 av (ae 1) (fC (.int 2))) af))) af)))) (aa (f2 Dl.aW (ae 1) (aJ (aa (fC (.int 1)) af))) af))))))) (ai 3 au (aa (ae 0) (aa (fC (.int 70)) (aa (fC (.int 5)) af))))) ρ=some d:=fun ρ h0 h1=>by
  refine aC hix (iT (sv (ds:=sU G T W) ?_ (by simp[sU]))) (call_of hd.1 (cons_of h0 rfl) rfl)
  refine cons_of rfl (cons_of (tup_is (ds:=[]) rfl (by simp)) (cons_of ?_ (cons_of ?_ (cons_of ?_ rfl))))
  ·unfold pE
   rw[h1]
   rfl
  ·exact tup_is (cons_of (aC (a:=aB G T W) (b:=.int 0) rfl h1 rfl) (cons_of (aC (a:=aB G T W) (b:=.int 1) rfl h1 rfl) (cons_of (iT (by unfold kn;rw[cons_of (aC (jh G T W) h1 rfl) rfl];rfl)) rfl))) (by simp)
  ·exact aC (a:=aB G T W) (b:=.tuple [.int 1]) rfl h1 (Pr rfl)
 refine (aq (cO (eb _ rfl rfl) (eb _ rfl rfl) rfl)).trans ?_
 have hno:=K4 h d hdm
 have c:ao 1 [9] (aZ (aa (fC (.int 2)) af)) (fG 0) (fun _=>some true) (ai 2 aU (aa (ae 0) (aa (ae 1) af))) (aI (sK (du ns) G T W s2 x3 x4 x5 x6 x7 x8 (.val d)))=some [gp,gp] :=
  lq (is:=[0,1]) (f:=fun _=>gp) (mH (n:=2) rfl (by lia)) (by simp) fun j hj=>by
   simp only[zQ,yF,xU] at hj
   rcases hj with rfl|rfl
   ·exact call_of (Aq hno false) rfl rfl
   ·exact call_of (Aq hno true) rfl rfl
 refine aY (aC (a:=.list [gp,gp]) (b:=.list [gp,gp]) ?_ (iT c) (iT ?_))
 ·exact GH
 ·unfold m6
  have hr:∀ρ:Dl.Env,cD (aa (aJ (aa (fC (.str "refused")) (aa (fC (.int 0)) af))) af) ρ=some [gp]:=fun ρ=>sv (cons_of (tup_is rfl (by simp)) rfl) (by simp)
  rw[hr]
  rfl
end
end K20M
end Wm
namespace K20
open PySem L2 Dl PySem.Spec PyProof.Rows Pg Hd PySem.W
theorem main(ns:List Int)(h:ns.length<=63):ik [.list (ns.map PyData.int)]=some (.bool true):=Wm.K20M.main ns h
theorem ins(P:Params){h:Heap}{mg:Str->Option Value}(X:(Kf P).In h)(G:h.Ns mainGlobals mg):bI (Kf P) mg:=⟨aM.mg (f3 94 93 j5) X G,aM.mg (f2 101 100 j5) X G,aM.mg (f3 108 107 j5) X G,aM.mg (f2 113 112 j5) X G,aM.mg (f2 120 119 j5) X G,aM.mg (f3 127 126 j5) X G,aM.mg (f3 132 131 j5) X G,aM.mg (f1 137 136 j5) X G,aM.mg (f1 142 141 j5) X G,aM.mg (f4 147 146 j5) X G,aM.mg (f3 152 151 j5) X G,aM.mg (f2 157 156 j5) X G,aM.mg (f1 164 163 j5) X G,aM.mg (f2 171 170 j5) X G,aM.mg (f3 178 177 j5) X G,pb.mg (l1 185 184 j5) X G,aM.mg (f1 190 189 j5) X G,aM.mg (f2 195 194 j5) X G,pb.mg (l3 200 199 Rl) X G,aM.mg (f4 205 204 Rl) X G,aM.mg (f3 210 209 BA) X G,aM.mg (f1 215 214 BA) X G,aM.mg (f3 222 221 BA) X G,aM.mg (f2 229 228 BA) X G,aM.mg (f1 236 235 BA) X G,aM.mg (f2 243 242 BA) X G,aM.mg (f1 250 249 BA) X G,aM.mg (f1 257 256 BA) X G,aM.mg (f2 264 263 ma) X G,aM.mg (f3 271 270 ma) X G,aM.mg (f3 278 277 ma) X G,aM.mg (f3 283 282 ma) X G,aM.mg (f4 288 287 ma) X G,aM.mg (f2 295 294 ma) X G,aM.mg (f1 300 299 ma) X G,aM.mg (f3 307 306 ma) X G,aM.mg (f5 314 313 ma) X G,aM.mg (f3 321 320 ma) X G,aM.mg (f2 326 325 ma) X G,aM.mg (f4 333 332 ma) X G,aM.mg (f3 338 337 ma) X G,aM.mg (f1 345 344 ma) X G,aM.mg (f2 352 351 ma) X G,aM.mg (f1 357 356 ma) X G,⟨289,mg_of X G (by kernel_rfl)⟩,⟨291,mg_of X G (by kernel_rfl)⟩,Ex.MB X G (by kernel_rfl),fun x hx=>mg_none_of X G (Dl.O9 (by kernel_rfl) x hx)⟩
theorem Rv(w:World):nq (Kf w.params) [180,197]=true:=by kernel_rfl
end K20
open PySem PySem.W PyProof.Rows
theorem PySem.Challenge.cw_stillflow_k20_best_holds : PySem.Challenge.rw_stillflow_k20_best.Holds := by
 refine holds_law K20.RJ fun k1=>?_
 refine holds_open (XP:=XL K20.vw []) (YP:=K20.hk.says) K20.left K20.hk.of K20.hk.keeps (fun s e=>xl_of s (Bool.and_eq_true_iff.mp e).1) XL.keeps (by rfl) (by rfl) (by rfl) (fun s e=>recFacts_of (Bool.and_eq_true_iff.mp e).2) (by rfl) k1 (by decide +kernel) ⟨rfl,rfl,rfl,rfl,rfl,by decide +kernel⟩ ?hw ?hc
 case hw=>w_witness2
 case hc=>exact K20.walk (l:=PySem.Challenge.rw_stillflow_k20_best) (K:=K20.Kf) (ts:=[180,197]) rfl rfl rfl (fun w h Y=>⟨Y.1,Y.2⟩) K20.Rv (fun w=>K20.ins w.params) K20.main
