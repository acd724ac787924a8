import PyProof.Rows.All
import Wide.All
import OpenK.AllK
import Wide.FinOn
import PyProof.EqAt
import PyProof.EqKinds
import PyProof.TupleCall
import Lean
import PyProof.Draws
import PyProof.ListRange
import PySem.Challenge.RW_stillflow_k35_whole_costs
set_option Elab.async false
set_option linter.all false
set_option maxRecDepth 100000
set_option maxHeartbeats 4000000
abbrev _root_.zA:=@Option.bind_some
abbrev _root_.zB:=@Option.map_some
abbrev _root_.zC:=@List.mem_cons_of_mem
abbrev _root_.zD:=@List.length_map
abbrev _root_.zE:=@List.mem_cons_self
abbrev _root_.zF:=@Bool.and_eq_true
abbrev _root_.zG:=@List.getD_eq_getElem?_getD
abbrev _root_.zH:=@List.size_toArray
abbrev _root_.zI:=@List.map_cons
abbrev _root_.zJ:=@decide_eq_true_eq
abbrev _root_.zK:=@List.getElem?_eq_getElem
abbrev _root_.zL:=@List.length_cons
abbrev _root_.zM:=@List.map_map
abbrev _root_.zN:=@List.length_append
abbrev _root_.zO:=@List.getElem?_map
abbrev _root_.zP:=@Nat.lt_of_lt_of_le
abbrev _root_.zQ:=@List.mem_map
abbrev _root_.zR:=@List.mem_cons
abbrev _root_.zS:=@List.length_range
abbrev _root_.zT:=@List.mem_range
abbrev _root_.zU:=@List.getElem?_eq_some_iff
abbrev _root_.zV:=@PySem.Heap.get?_push_of_some
abbrev _root_.zW:=@PySem.wpAny_bind
abbrev _root_.zX:=@PySem.wpAny_pure
abbrev _root_.zY:=@PySem.Heap.get?_push_size
abbrev _root_.zZ:=@PySem.Heap.lt_size
abbrev _root_.yA:=@decide_eq_false
abbrev _root_.yB:=@decide_eq_true
abbrev _root_.yC:=@List.lookup_cons
abbrev _root_.yD:=@List.length_set
abbrev _root_.yE:=@Nat.le_trans
abbrev _root_.yF:=@List.mem_append_right
abbrev _root_.yG:=@List.not_mem_nil
abbrev _root_.yH:=@Int.toNat_natCast
abbrev _root_.yI:=@List.range_eq_range'
abbrev _root_.yJ:=@List.map_congr_left
abbrev _root_.yK:=@List.foldl_cons
abbrev _root_.yL:=@List.mem_singleton
abbrev _root_.yM:=@Option.some.injEq
local macro_rules|`(def $i:declId $s:optDeclSig $v:declVal)=>`(noncomputable def $i:declId $s:optDeclSig $v:declVal)
local macro_rules|`(abbrev $i:declId $s:optDeclSig $v:declVal)=>`(noncomputable abbrev $i:declId $s:optDeclSig $v:declVal)
namespace L2
open PySem
def iq(s:Stmt):Arguments:=match s with
 | .FunctionDef _ a _ _ _ _ _ _ _ _=>a
 | _=>{ posonlyargs:=[],args:=[],vararg:=none,kwonlyargs:=[],kw_defaults:=[],kwarg:=none,defaults:=[] }
def cC(s:Stmt):List Stmt:=match s with
 | .FunctionDef _ _ b _ _ _ _ _ _ _=>b
 | _=>[]
def aI(s:Stmt):Scope:=match s with
 | .FunctionDef _ _ _ _ _ _ sc _ _ _=>sc
 | _=>{ kind:=.function,names:=[],isGenerator:=false,isCoroutine:=false }
end L2
namespace Hd
open PySem L2 PySem.Spec PyProof.Rows
def en(P:Params)(x:String)(t:Nat)(v:Value):DictEntry:=⟨PyData.keyHash P (Str.ofString x),.str (Str.ofString x) t,v⟩
def fo(x:Str)(st:Stmt)(pm:Value)(c:Addr):Obj:=⟨.type "function",none,.func (W.fnOf x x (iq st) (cC st) (aI st) .none .none .none pm none (.ref c) .none),#[]⟩
def co(vs:List Value):Obj:=⟨.type "code",none,.fields vs.toArray,#[]⟩
def rfV(n:Nat):Value:=if n=0 then .none else .ref n
def cdo(x:Str)(t l n a b c d e f u:Nat):Obj:=co [.str x t,.str x (t+1),.str "/claim/cut.py" (t+2),.int l 0,.int n 0,.int 0 0,.int 0 0,.int 3 0,rfV a,.bool true,.int 181 0,rfV b,rfV c,rfV d,rfV e,rfV f,.int u 0,.int l 0,.str "/claim/cut.py" (u+1)]
theorem lf_all{S A B C D E F J O:Type}{x:Option S}{f:S->A×B×C×D×E×F×J}{o:S->O}{g:A×B×C×D×E×F×J}{v:O}(h0:x.map (fun s=>(f s).1)=some g.1)(h1:x.map (fun s=>(f s).2.1)=some g.2.1)(h2:x.map (fun s=>(f s).2.2.1)=some g.2.2.1)(h3:x.map (fun s=>((f s).2.2.2.1,(f s).2.2.2.2.1))=some (g.2.2.2.1,g.2.2.2.2.1))(h4:x.map (fun s=>(f s).2.2.2.2.2.1)=some g.2.2.2.2.2.1)(h5:x.map (fun s=>(f s).2.2.2.2.2.2)=some g.2.2.2.2.2.2)(h6:x.map o=some v):x.map (fun s=>(f s,o s))=some (g,v):=by
 obtain⟨a,b,c,d,e,i,j⟩:=g
 cases x with
 | none=>cases h0
 | some s =>
  simp only[zB,yM,Prod.mk.injEq] at h0 h1 h2 h3 h4 h5 h6 ⊢
  refine⟨?_,h6⟩
  generalize f s=t at *
  obtain⟨a',b',c',d',e',i',j'⟩:=t
  dsimp only at *
  obtain⟨h3,h3'⟩:=h3
  subst h0 h1 h2 h3 h3' h4 h5
  rfl
end Hd
namespace K35
open PySem L2 PySem.Spec PyProof.Rows Hd PySem.W
abbrev top(i:Nat):Stmt:=PySem.Challenge.pw_stillflow_k35_whole_costs.main.body.getD i (.Pass ⟨0,0,0,0⟩)
def vw:Program:=W.view PySem.Challenge.pw_stillflow_k35_whole_costs [1,2,3,4,5,7,8,9,10,11,12,13,14,15,16,17,18,19,20,21,22,23,24,25,26,27,28,29,30,32,33,34,35,36,37,38,40,41,42,43,44,45,46,47,49,51,52,53,54,55,56,58,59,60,61,62,63,65,66,67,68,69]
def ib:Value:=(.str "stillflow.worlds" 271)
def Cu:Value:=(.str "stillflow.flows" 439)
def zm:Value:=(.str "stillflow.finding" 493)
def Qf:Value:=(.str "stillflow.comparing" 564)
def HM:Value:=(.str "stillflow.listing" 572)
def Es:Value:=(.str "stillflow.costs" 610)
def HP:Value:=(.str "law_stillflow_k35_whole_costs" 660)
def Kf(P:Params):W.Frag:=[(3,⟨.type "dict",none,.dict #[en P "__name__" 165 (.str "law_stillflow_k35_whole_costs" 660),en P "__doc__" 166 .none,en P "__package__" 167 .none,en P "__loader__" 168 (.builtin "__main__.__loader__#opaque"),en P "__spec__" 169 .none,en P "__annotations__" 170 (.ref 6),en P "__builtins__" 171 (.ref 4),en P "__file__" 173 (.str "/claim/cut.py" 172),en P "__cached__" 174 .none,en P "FlowError" 206 (.ref 24),en P "NoWorld" 222 (.ref 37),en P "NoPlan" 238 (.ref 49),en P "NoPlace" 254 (.ref 61),en P "TooMany" 270 (.ref 73),en P "MOST_PLACES" 274 (.int 4 273),en P "MOST" 276 (.int 9 275),en P "is_whole" 285 (.ref 82),en P "is_number" 293 (.ref 89),en P "is_long" 302 (.ref 96),en P "are_likes" 308 (.ref 101),en P "is_end" 316 (.ref 108),en P "is_way" 325 (.ref 115),en P "are_parts" 331 (.ref 120),en P "liked_pairs" 337 (.ref 125),en P "is_world" 343 (.ref 130),en P "through" 349 (.ref 135),en P "keeps_amounts" 355 (.ref 140),en P "is_plan" 361 (.ref 145),en P "check_world" 368 (.ref 152),en P "check_plan" 376 (.ref 159),en P "check_whole" 385 (.ref 166),en P "check_number" 393 (.ref 173),en P "check_side" 400 (.ref 180),en P "check_place" 409 (.ref 187),en P "replaced" 418 (.ref 194),en P "turned_order" 426 (.ref 201),en P "turned" 432 (.ref 206),en P "turned_plan" 438 (.ref 211),en P "ways_of" 446 (.ref 216),en P "chosen_by" 452 (.ref 221),en P "wants_more" 458 (.ref 226),en P "why_kept" 467 (.ref 233),en P "first_leaving" 476 (.ref 240),en P "is_still" 484 (.ref 247),en P "rests" 492 (.ref 254),en P "chosen_by_all" 500 (.ref 259),en P "limits" 506 (.ref 264),en P "lowered" 515 (.ref 271),en P "refused" 527 (.ref 278),en P "steps" 537 (.ref 285),en P "capped" 548 (.ref 292),en P "givers_best" 555 (.ref 299),en P "takers_best" 563 (.ref 306),en P "on_ways_of" 571 (.ref 311),en P "MOST_LISTED" 575 (.int 3000 574),en P "check_many" 584 (.ref 318),en P "within_limits" 590 (.ref 323),en P "all_plans" 596 (.ref 328),en P "all_rests" 602 (.ref 333),en P "is_single" 609 (.ref 340),en P "cost_of_place" 617 (.ref 345),en P "cost_of_side" 623 (.ref 350),en P "cost" 633 (.ref 357),en P "costs" 641 (.ref 364),en P "unfairness" 651 (.ref 371),en P "fairest" 659 (.ref 378),en P "_law_cell" 669 (.ref 385),en P "_law_drawn" 679 (.ref 392),en P "_law_orders" 694 (.ref 399),en P "_law_world" 700 (.ref 404),en P "law" 706 (.ref 409)] 71,#[]⟩),
 (81,cdo "is_whole" 277 15 3 76 77 0 78 79 80 283),
 (82,fo "is_whole" (top 9) ib 81),
 (88,cdo "is_number" 286 19 2 83 84 0 85 86 87 291),
 (89,fo "is_number" (top 10) ib 88),
 (95,cdo "is_long" 294 21 3 90 91 0 92 93 94 300),
 (96,fo "is_long" (top 11) ib 95),
 (100,cdo "are_likes" 303 23 2 97 98 0 0 0 99 306),
 (101,fo "are_likes" (top 12) ib 100),
 (107,cdo "is_end" 309 29 2 102 103 0 104 105 106 314),
 (108,fo "is_end" (top 13) ib 107),
 (114,cdo "is_way" 317 31 3 109 110 0 111 112 113 323),
 (115,fo "is_way" (top 14) ib 114),
 (119,cdo "are_parts" 326 35 3 116 117 0 0 0 118 329),
 (120,fo "are_parts" (top 15) ib 119),
 (124,cdo "liked_pairs" 332 43 1 121 122 0 0 0 123 335),
 (125,fo "liked_pairs" (top 16) ib 124),
 (129,cdo "is_world" 338 48 1 126 127 0 0 0 128 341),
 (130,fo "is_world" (top 17) ib 129),
 (134,cdo "through" 344 55 4 131 132 0 0 0 133 347),
 (135,fo "through" (top 18) ib 134),
 (139,cdo "keeps_amounts" 350 57 3 136 137 0 0 0 138 353),
 (140,fo "keeps_amounts" (top 19) ib 139),
 (144,cdo "is_plan" 356 59 2 141 142 0 0 0 143 359),
 (145,fo "is_plan" (top 20) ib 144),
 (151,cdo "check_world" 362 66 1 146 147 0 148 149 150 366),
 (152,fo "check_world" (top 21) ib 151),
 (158,cdo "check_plan" 369 69 2 153 154 0 155 156 157 374),
 (159,fo "check_plan" (top 22) ib 158),
 (165,cdo "check_whole" 377 73 3 160 161 0 162 163 164 383),
 (166,fo "check_whole" (top 23) ib 165),
 (172,cdo "check_number" 386 76 2 167 168 0 169 170 171 391),
 (173,fo "check_number" (top 24) ib 172),
 (179,cdo "check_side" 394 78 1 174 175 0 176 177 178 398),
 (180,fo "check_side" (top 25) ib 179),
 (186,cdo "check_place" 401 80 3 181 182 0 183 184 185 407),
 (187,fo "check_place" (top 26) ib 186),
 (193,cdo "replaced" 410 83 3 188 189 0 190 191 192 416),
 (194,fo "replaced" (top 27) ib 193),
 (200,cdo "turned_order" 419 85 1 195 196 0 197 198 199 424),
 (201,fo "turned_order" (top 28) ib 200),
 (205,cdo "turned" 427 88 1 202 203 0 0 0 204 430),
 (206,fo "turned" (top 29) ib 205),
 (210,cdo "turned_plan" 433 92 2 207 208 0 0 0 209 436),
 (211,fo "turned_plan" (top 30) ib 210),
 (215,cdo "ways_of" 441 96 3 212 213 0 0 0 214 444),
 (216,fo "ways_of" (top 32) Cu 215),
 (220,cdo "chosen_by" 447 101 4 217 218 0 0 0 219 450),
 (221,fo "chosen_by" (top 33) Cu 220),
 (225,cdo "wants_more" 453 108 4 222 223 0 0 0 224 456),
 (226,fo "wants_more" (top 34) Cu 225),
 (232,cdo "why_kept" 459 115 3 227 228 0 229 230 231 465),
 (233,fo "why_kept" (top 35) Cu 232),
 (239,cdo "first_leaving" 468 123 2 234 235 0 236 237 238 474),
 (240,fo "first_leaving" (top 36) Cu 239),
 (246,cdo "is_still" 477 128 2 241 242 0 243 244 245 482),
 (247,fo "is_still" (top 37) Cu 246),
 (253,cdo "rests" 485 130 2 248 249 0 250 251 252 490),
 (254,fo "rests" (top 38) Cu 253),
 (258,cdo "chosen_by_all" 495 134 3 255 256 0 0 0 257 498),
 (259,fo "chosen_by_all" (top 40) zm 258),
 (263,cdo "limits" 501 140 1 260 261 0 0 0 262 504),
 (264,fo "limits" (top 41) zm 263),
 (270,cdo "lowered" 507 142 3 265 266 0 267 268 269 513),
 (271,fo "lowered" (top 42) zm 270),
 (277,cdo "refused" 516 144 2 272 273 0 274 275 276 525),
 (278,fo "refused" (top 43) zm 277),
 (284,cdo "steps" 528 151 1 279 280 0 281 282 283 535),
 (285,fo "steps" (top 44) zm 284),
 (291,cdo "capped" 538 160 2 286 287 0 288 289 290 546),
 (292,fo "capped" (top 45) zm 291),
 (298,cdo "givers_best" 549 165 1 293 294 0 295 296 297 553),
 (299,fo "givers_best" (top 46) zm 298),
 (305,cdo "takers_best" 556 168 1 300 301 0 302 303 304 561),
 (306,fo "takers_best" (top 47) zm 305),
 (310,cdo "on_ways_of" 566 172 4 307 308 0 0 0 309 569),
 (311,fo "on_ways_of" (top 49) Qf 310),
 (317,cdo "check_many" 576 176 1 312 313 0 314 315 316 582),
 (318,fo "check_many" (top 52) HM 317),
 (322,cdo "within_limits" 585 182 1 319 320 0 0 0 321 588),
 (323,fo "within_limits" (top 53) HM 322),
 (327,cdo "all_plans" 591 190 1 324 325 0 0 0 326 594),
 (328,fo "all_plans" (top 54) HM 327),
 (332,cdo "all_rests" 597 194 1 329 330 0 0 0 331 600),
 (333,fo "all_rests" (top 55) HM 332),
 (339,cdo "is_single" 603 196 1 334 335 0 336 337 338 607),
 (340,fo "is_single" (top 56) HM 339),
 (344,cdo "cost_of_place" 612 199 4 341 342 0 0 0 343 615),
 (345,fo "cost_of_place" (top 58) Es 344),
 (349,cdo "cost_of_side" 618 203 3 346 347 0 0 0 348 621),
 (350,fo "cost_of_side" (top 59) Es 349),
 (356,cdo "cost" 624 205 4 351 352 0 353 354 355 631),
 (357,fo "cost" (top 60) Es 356),
 (363,cdo "costs" 634 209 2 358 359 0 360 361 362 639),
 (364,fo "costs" (top 61) Es 363),
 (370,cdo "unfairness" 642 212 2 365 366 0 367 368 369 649),
 (371,fo "unfairness" (top 62) Es 370),
 (377,cdo "fairest" 652 216 1 372 373 0 374 375 376 657),
 (378,fo "fairest" (top 63) Es 377),
 (384,cdo "_law_cell" 662 219 2 379 380 0 381 382 383 667),
 (385,fo "_law_cell" (top 65) HP 384),
 (391,cdo "_law_drawn" 670 223 3 386 387 0 388 389 390 677),
 (392,fo "_law_drawn" (top 66) HP 391),
 (398,cdo "_law_orders" 680 227 3 393 394 0 395 396 397 692),
 (399,fo "_law_orders" (top 67) HP 398),
 (403,cdo "_law_world" 695 235 3 400 401 0 0 0 402 698),
 (404,fo "_law_world" (top 68) HP 403),
 (408,cdo "law" 701 251 1 405 406 0 0 0 407 704),
 (409,fo "law" (top 69) HP 408)]
def hk:W.Hook:=W.kmHook Kf [3,81,82,88,89,95,96,100,101,107,108,114,115,119,120,124,125,129,130,134,135,139,140,144,145,151,152,158,159,165,166,172,173,179,180,186,187,193,194,200,201,205,206,210,211,215,216,220,221,225,226,232,233,239,240,246,247,253,254,258,259,263,264,270,271,277,278,284,285,291,292,298,299,305,306,310,311,317,318,322,323,327,328,332,333,339,340,344,345,349,350,356,357,363,364,370,371,377,378,384,385,391,392,398,399,403,404,408,409] (fun _=>rfl) [196,213,373]
abbrev rn(w:World):=openEnds treeTable PySem.Challenge.pw_stillflow_k35_whole_costs w 6000
abbrev sn(s:Shared):=openSeen vw [] (importedModules PySem.Challenge.pw_stillflow_k35_whole_costs.main.body) (fun s=>xlAt vw [] s&&recOk [] s) true s
abbrev gd:=openGood vw []
theorem QD(w:World):(rn w).map (fun s=>(sn s).1)=some (gd.1):=by kernel_rfl
theorem QH(w:World):(rn w).map (fun s=>(sn s).2.1)=some (gd.2.1):=by kernel_rfl
theorem Qp(w:World):(rn w).map (fun s=>(sn s).2.2.1)=some (gd.2.2.1):=by kernel_rfl
theorem Qq(w:World):(rn w).map (fun s=>((sn s).2.2.2.1,(sn s).2.2.2.2.1))=some ((gd.2.2.2.1,gd.2.2.2.2.1)):=by kernel_rfl
theorem Qn(w:World):(rn w).map (fun s=>(sn s).2.2.2.2.2.1)=some (gd.2.2.2.2.2.1):=by kernel_rfl
theorem Qs(w:World):(rn w).map (fun s=>(sn s).2.2.2.2.2.2)=some (gd.2.2.2.2.2.2):=by kernel_rfl
theorem QG(w:World):(rn w).map (fun s=>hk.obs s)=some (hk.val w):=by kernel_rfl
theorem left:LeftO PySem.Challenge.pw_stillflow_k35_whole_costs vw [] (fun s=>xlAt vw [] s&&recOk [] s) hk.obs hk.val 6000:=fun w=>lf_all (QD w) (QH w) (Qp w) (Qq w) (Qn w) (Qs w) (QG w)
theorem P3:PySem.Challenge.rw_stillflow_k35_whole_costs.wellSaid=true:=by kernel_rfl
end K35
namespace L2
open PySem PySem.Spec PyProof.Rows
abbrev zp:=Sum Int Str
def KF:zp->Value->Bool
 | .inl k,v=>Value.isInt k v
 | .inr x,v=>Value.isStrOf x v
def Pr(w:World):zp->Int
 | .inl k=>hashInt k
 | .inr x=>hashStr w x
theorem bV:∀ {k:zp}{v:Value},KF k v=true->(∃i t,k=Sum.inl i/\v=Value.int i t)\/(∃x t,k=Sum.inr x/\v=Value.str x t)
 | .inl i,v,h=>by
  obtain⟨t,e⟩:=Value.isInt_shape (k:=i) (v:=v) h
  exact .inl ⟨i,t,rfl,e⟩
 | .inr x,v,h=>by
  obtain⟨t,e⟩:=Value.isStrOf_shape (x:=x) (v:=v) h
  exact .inr ⟨x,t,rfl,e⟩
theorem MN(a b:Int):decide ((Sum.inl a:zp)=Sum.inl b)=(a == b):=by
 by_cases e:a=b
 ·subst e;simp
 ·have h:¬ (Sum.inl a:zp)=Sum.inl b:=fun q=>e (Sum.inl.inj q)
  rw[yA h]
  exact (beq_eq_false_iff_ne.mpr e).symm
theorem Np(a b:Str):decide ((Sum.inr a:zp)=Sum.inr b)=decide (a=b):=by
 by_cases e:a=b
 ·subst e;simp
 ·have h:¬ (Sum.inr a:zp)=Sum.inr b:=fun q=>e (Sum.inr.inj q)
  rw[yA h,yA e]
theorem Nd(a:Int)(b:Str):decide ((Sum.inl a:zp)=Sum.inr b)=false:=yA (fun q=>nomatch q)
theorem Lr(a:Str)(b:Int):decide ((Sum.inr a:zp)=Sum.inl b)=false:=yA (fun q=>nomatch q)
def BK(prog:Program)(w:World):PySem.KeyKind prog w zp where
 is:=KF
 hash:=Pr w
 inj:=fun v a b ha hb=>by
  rcases bV ha with ⟨i,t,rfl,rfl⟩|⟨x,t,rfl,rfl⟩
  ·rcases bV hb with ⟨j,u,rfl,e⟩|⟨y,u,rfl,e⟩
   ·injection e with e1 _;rw[e1]
   ·exact nomatch e
  ·rcases bV hb with ⟨j,u,rfl,e⟩|⟨y,u,rfl,e⟩
   ·exact nomatch e
   ·injection e with e1 _;rw[e1]
 byValue:=fun k v h=>by
  rcases bV h with ⟨i,t,rfl,rfl⟩|⟨x,t,rfl,rfl⟩<;>rfl
 pyHash:=fun hv h=>by
  rcases bV hv with ⟨i,t,rfl,rfl⟩|⟨x,t,rfl,rfl⟩
  ·exact wpAny_pyHash_int h
  ·exact wpAny_pyHash_str h
 eqBool:=fun hu hv h=>by
  rcases bV hu with ⟨i,t,rfl,rfl⟩|⟨x,t,rfl,rfl⟩
  ·rcases bV hv with ⟨j,u,rfl,rfl⟩|⟨y,u,rfl,rfl⟩
   ·rw[MN] at h;exact wpAny_eqBool_int h
   ·rw[Nd] at h;exact SeqAt.EqAt.int_str i t y u _ _ _ _ h
  ·rcases bV hv with ⟨j,u,rfl,rfl⟩|⟨y,u,rfl,rfl⟩
   ·rw[Lr] at h;exact SeqAt.EqAt.str_int x t j u _ _ _ _ h
   ·rw[Np] at h;exact wpAny_eqBool_str h
 «strs»:=fun k x t v h=>by
  rcases bV h with ⟨i,u,rfl,e⟩|⟨y,u,rfl,e⟩
  ·exact nomatch e
  ·injection e with e1 _
   subst e1
   cases v<;>rfl
inductive V where
 | non|bl (b:Bool)|int (i:Int)|str (x:Str)|byt (b:Array UInt8)|flt (b:UInt64)|ref (a:Addr)|ty (n:String)
 deriving DecidableEq
def RelV:V->Value->Prop
 | .non,u=>u=Value.none
 | .bl b,u=>u=Value.bool b
 | .int i,u=>∃t,u=Value.int i t
 | .str x,u=>∃t,u=Value.str x t
 | .byt b,u=>∃t,u=Value.bytes b t
 | .flt b,u=>∃t,u=Value.float b t
 | .ref a,u=>u=Value.ref a
 | .ty n,u=>u=Value.type n
abbrev aB:List V->List Value->Prop:=Paired RelV
theorem aB.length{xs:List V}{us:List Value}(r:aB xs us):xs.length=us.length:=Paired.length r
theorem aB.get:∀ {xs:List V}{us:List Value}{i:Nat}{x:V},aB xs us->xs[i]?=some x->∃u,us[i]?=some u/\RelV x u
 | _,_,_,_,.nil,e=>by simp at e
 | _,_,0,_,.cons r _,e=>by simp at e;subst e;exact⟨_,rfl,r⟩
 | _,_,i+1,x,.cons _ t,e=>by
  obtain⟨u,h1,h2⟩:=aB.get (i:=i) (x:=x) t (by simpa using e)
  exact⟨u,by simpa using h1,h2⟩
theorem aB.set{x:V}{u:Value}(r:RelV x u):∀ {xs:List V}{us:List Value}(i:Nat),aB xs us->aB (xs.set i x) (us.set i u)
 | _,_,_,.nil=>.nil
 | _,_,0,.cons _ t=>.cons r t
 | _,_,i+1,.cons q t=>.cons q (aB.set r i t)
theorem aB.append:∀ {xs ys:List V}{us ws:List Value},aB xs us->aB ys ws->aB (xs++ys) (us++ws)
 | _,_,_,_,.nil,s=>s
 | _,_,_,_,.cons r t,s=>.cons r (aB.append t s)
theorem aB.take:∀ {xs:List V}{us:List Value}(n:Nat),aB xs us->aB (xs.take n) (us.take n)
 | _,_,0,_=>.nil
 | _,_,_+1,.nil=>.nil
 | _,_,n+1,.cons r t=>.cons r (aB.take n t)
theorem aB.drop:∀ {xs:List V}{us:List Value}(n:Nat),aB xs us->aB (xs.drop n) (us.drop n)
 | _,_,0,r=>r
 | _,_,_+1,.nil=>.nil
 | _,_,n+1,.cons _ t=>aB.drop n t
def OJ:Option V->Option Value->Prop
 | some v,some u=>RelV v u
 | none,none=>True
 | _,_=>False
def KV{κ:Type}:List (κ×V)->List (κ×Value)->Prop:=Paired fun (p:κ×V) (q:κ×Value)=>p.1=q.1/\RelV p.2 q.2
def kV:zp->V
 | .inl i=>.int i
 | .inr x=>.str x
inductive HO where
  | lst (xs:List V)
  | tup (xs:List V)
  | dK (kvs:List (zp×V))|dT (kvs:List (List zp×V))
  | set (S:Int->Bool) (n:Nat)
  | ins (C dx:Addr) (fs:List (Str×V))
  | own (x:Addr)
  | xd (fs:List (Str×V))
  | met (f x:Addr)
  | rng (lo hi:Int)
  | frz (o:Obj) (u:HO)
  | tab (q:Str)
 | cod (q:Str)
  | ext (φ:Heap->Prop)
abbrev Hp:=Addr->Option HO
def upd(H:Hp)(a:Addr)(o:HO):Hp:=fun b=>if b=a then some o else H b
theorem aJ{H:Hp}{a:Addr}{o:HO}:upd H a o a=some o:=by unfold upd;rw[if_pos rfl]
theorem aA{H:Hp}{a b:Addr}{o:HO}(h:b≠a):upd H a o b=H b:=by unfold upd;rw[if_neg h]
theorem aL{H:Hp}{a b:Addr}{o:HO}(h:H a=some o)(h':H b=none):a≠b:=by
 intro e;subst e;rw[h] at h';cases h'
def nU(h:Heap)(a:Addr)(its:Array Value):Prop:=IsTup h a its/\∃o,h.get? a=some o/\o.dict=none
theorem nU.new(h:Heap)(its:Array Value):nU (h.push { cls:=.type "tuple",data:=.seq its }) h.objs.size its:=⟨IsTup.new _ _,_,zY _ rfl,rfl⟩
section
variable (P:Program) (w:World)
def fW(H:Hp)(h:Heap)(a:Addr):HO->Prop
 | .lst xs=>xs.length<=sizeLine/\∃ (its:List Value) (n:Nat),aB xs its/\h.get? a=some { cls:=.type "list",data:=.seq its.toArray n }
 | .tup xs=>xs.length<=sizeLine/\∃its:List Value,aB xs its/\nU h a its.toArray
 | .dK kvs=>kvs.length<=sizeLine/\(a == sysModules)=false/\∃vs,KV kvs vs/\h.DictOf (BK P w) a vs
 | .dT kvs=>kvs.length<=sizeLine/\(a == sysModules)=false/\∃xs:List (List zp×Addr×Value),
   Paired (fun (p:List zp×V) (q:List zp×Addr×Value)=>p.1=q.1/\H q.2.1=some (.tup (p.1.map kV))/\RelV p.2 q.2.2) kvs xs /\
   ∃o es ep,h.get? a=some o/\o.ExactDict/\o.data=.dict es ep/\es.toList=xs.map (entryOfKey (tupleKind (BK P w)))/\(xs.map (·.1)).Nodup
 | .set S n=>h.SetOf (intKind P w) a S n
 | .ins C dx fs=>H dx=some (.own a)/\fs.length<=1000/\dx≠a/\h.get? a=some (W.instObj C dx) /\
   ∃mA,h.Ns1 dx mA/\(∀f,OJ (fs.lookup f) (mA f))/\PySem.Within mA (fs.map (·.1))
 | .own _=>∃o,h.get? a=some o
 | .xd fs=>∃mA,h.Ns1 a mA/\∀f,OJ (fs.lookup f) (mA f)
 | .rng lo hi=>∃t u v,h.get? a=some { cls:=.type "range",data:=.fields #[.int lo t,.int hi u,.int 1 v] }
 | .frz o u=>h.get? a=some o/\fW H h a u
 | .tab q=>∃ps:Array Value,h.get? a=some { cls:=.none,data:=.fields ps }/\TriplesOk ps.toList/\∀pos v,codeAmong pos ps.toList=some v->∃c,v=.ref c/\H c=some (.cod q)
 | .cod q=>h.CodeRec (.ref a) q
 | .met f x=>h.get? a=some (W.methodObj (.ref f) (.ref x))
 | .ext φ=>φ h/\(∃o,h.get? a=some o)/\∀h1 h2:Heap,φ h1->(∀o,h1.get? a=some o->h2.get? a=some o)->φ h2
def pJ(H:Hp)(h:Heap):Prop:=∀a o,H a=some o->fW P w H h a o
end
section
variable {P:Program}{w:World}{H H':Hp}{h h':Heap}{a:Addr}{o:HO}
theorem fW.lt(x:fW P w H h a o):a < h.objs.size:=by
 cases o with
 | lst xs=>obtain⟨_,_,_,_,e⟩:=x;exact zZ e
 | tup xs=>obtain⟨_,_,_,p⟩:=x;exact p.1.lt
 | dK kvs=>obtain⟨_,_,_,_,o,_,_,e,_⟩:=x;exact zZ e
 | dT kvs=>obtain⟨_,_,_,_,o,_,_,e,_⟩:=x;exact zZ e
 | set S n=>obtain⟨o,_,_,_,e,_⟩:=x;exact zZ e
 | ins C dx fs=>obtain⟨_,_,_,e,_⟩:=x;exact zZ e
 | own y=>obtain⟨_,e⟩:=x;exact zZ e
 | xd fs=>obtain⟨_,⟨_,_,_,e,_⟩,_⟩:=x;exact zZ e
 | rng lo hi=>obtain⟨_,_,_,e⟩:=x;exact zZ e
 | frz ob u=>obtain⟨e,_⟩:=x;exact zZ e
 | tab q=>obtain⟨_,e,_⟩:=x;exact zZ e
 | cod q=>obtain⟨_,_,_,_,e0,e,_⟩:=x;cases e0;exact zZ e
 | met f y=>exact zZ (show h.get? a=some _ from x)
 | ext φ=>obtain⟨_,⟨_,e⟩,_⟩:=x;exact zZ e
theorem Paired.mapP{α β:Type}{F G:α->β->Prop}:∀ {l₁:List α}{l₂:List β},Paired F l₁ l₂->(∀a b,F a b->G a b)->Paired G l₁ l₂
 | _,_,.nil,_=>.nil
 | _,_,.cons r t,f=>.cons (f _ _ r) (Paired.mapP t f)
def Qc:HO->Prop
 | .tup _=>True
 | .cod _=>True
 | _=>False
theorem fW.stay(x:fW P w H h a o)(k:∀b u,(b=a\/H b=some (.own a))->h.get? b=some u->h'.get? b=some u)
  (ho:∀b,H b=some (.own a)->H' b=some (.own a)) (ht:∀b u,H b=some u->Qc u->H' b=some u):fW P w H' h' a o:=by
 induction o with
 | lst xs=>obtain⟨z,its,n,r,e⟩:=x;exact⟨z,its,n,r,k _ _ (.inl rfl) e⟩
 | tup xs=>obtain⟨z,its,r,⟨ob,e,c⟩,o2,e2,d2⟩:=x;exact⟨z,its,r,⟨ob,k _ _ (.inl rfl) e,c⟩,o2,k _ _ (.inl rfl) e2,d2⟩
 | dK kvs=>obtain⟨z,y,vs,r,ob,es,ep,e,c⟩:=x;exact⟨z,y,vs,r,ob,es,ep,k _ _ (.inl rfl) e,c⟩
 | dT kvs =>
  obtain⟨z,y,xs,r,ob,es,ep,e,c⟩:=x
  exact⟨z,y,xs,Paired.mapP r fun p q z=>⟨z.1,ht _ _ z.2.1 trivial,z.2.2⟩,ob,es,ep,k _ _ (.inl rfl) e,c⟩
 | set S n=>obtain⟨ob,es,ep,t,e,c⟩:=x;exact⟨ob,es,ep,t,k _ _ (.inl rfl) e,c⟩
 | ins C dx fs =>
  obtain⟨d,z,ne,e,mA,⟨od,es,ep,e2,c⟩,r⟩:=x
  exact⟨ho _ d,z,ne,k _ _ (.inl rfl) e,mA,⟨od,es,ep,k _ _ (.inr d) e2,c⟩,r⟩
 | own y=>obtain⟨ob,e⟩:=x;exact⟨ob,k _ _ (.inl rfl) e⟩
 | xd fs=>obtain⟨mA,⟨od,es,ep,e,c⟩,r⟩:=x;exact⟨mA,⟨od,es,ep,k _ _ (.inl rfl) e,c⟩,r⟩
 | rng lo hi=>obtain⟨t,u,v,e⟩:=x;exact⟨t,u,v,k _ _ (.inl rfl) e⟩
 | frz ob u ih=>obtain⟨e,q⟩:=x;exact⟨k _ _ (.inl rfl) e,ih q⟩
 | tab q=>obtain⟨ps,e,t,c⟩:=x;exact⟨ps,k a _ (.inl rfl) e,t,fun pos v z=>let ⟨c0,z1,z2⟩:=c pos v z;⟨c0,z1,ht _ _ z2 trivial⟩⟩
 | cod q=>obtain⟨c,oc,vs,t,e0,e,r⟩:=x;cases e0;exact⟨_,oc,vs,t,rfl,k _ _ (.inl rfl) e,r⟩
 | met f y =>
  have e:h.get? a=some (W.methodObj (.ref f) (.ref y)):=x
  show h'.get? a=some (W.methodObj (.ref f) (.ref y))
  exact k a _ (.inl rfl) e
 | ext φ=>obtain⟨p,⟨o,e⟩,st⟩:=x;exact⟨st _ _ p fun o q=>k _ _ (.inl rfl) q,⟨o,k _ _ (.inl rfl) e⟩,st⟩
theorem pJ.lt(x:pJ P w H h)(e:H a=some o):a < h.objs.size:=(x a o e).lt
theorem pJ.fresh(x:pJ P w H h)(e:h.objs.size<=a):H a=none:=by
 cases q:H a with
 | none=>rfl
 | some u=>exact absurd (zP (x.lt q) e) (Nat.lt_irrefl _)
theorem pJ.kept(x:pJ P w H h)(k:∀b u,h.get? b=some u->h'.get? b=some u):pJ P w H h':=fun a o e =>
 (x a o e).stay (fun b u _ q=>k b u q) (fun _ q=>q) fun _ _ q _=>q
theorem pJ.laid(x:pJ P w H h)(k:∀b u,h.get? b=some u->h'.get? b=some u)(hp:h.objs.size<=a)(new:fW P w (upd H a o) h' a o):pJ P w (upd H a o) h':=fun b u e=>by
 have hn:=x.fresh hp
 by_cases hb:b=a
 ·subst hb;rw[aJ] at e;cases e;exact new
 ·rw[aA hb] at e
  exact (x b u e).stay (fun c v _ q=>k c v q) (fun c q=>by rw[aA (aL q hn)];exact q) fun c xs q _=>by rw[aA (aL q hn)];exact q
end
def Rd(H:Hp)(a:Addr)(u:HO):Prop:=H a=some u\/∃o,H a=some (.frz o u)
theorem Rd.ok{P:Program}{w:World}{H:Hp}{h:Heap}{a:Addr}{u:HO}(r:Rd H a u)(x:pJ P w H h):fW P w H h a u:=by
 rcases r with r|⟨o,r⟩
 ·exact x a u r
 ·obtain⟨_,q⟩:=x a _ r
  exact q
def Oo:Option HO->Prop
 | some (.lst _)=>True
 | some (.dK _)=>True
 | some (.dT _)=>True
 | some (.set _ _)=>True
 | some (.ins _ _ _)=>True
 | some (.ext _)=>True
 | _=>False
section
variable {P:Program}{w:World}{H:Hp}{h h':Heap}{x e:Addr}{o':HO}
theorem pJ.write(ok:pJ P w H h)(mu:Oo (H x))(he:e=x\/H e=some (.own x))(k:∀b u,b≠e->h.get? b=some u->h'.get? b=some u)(heo:∃u,h'.get? e=some u)
  (new:fW P w (upd H x o') h' x o'):pJ P w (upd H x o') h':=fun b u q=>by
 have nown:∀c y,H c=some (.own y)->c≠x:=fun c y r z=>by subst z;rw[r] at mu;exact mu
 have ntup:∀c u,H c=some u->Qc u->c≠x:=fun c u r hr z=>by subst z;rw[r] at mu;cases u<;>first|exact mu|exact hr
 by_cases hb:b=x
 ·subst hb;rw[aJ] at q;cases q;exact new
 ·rw[aA hb] at q
  by_cases hbe:b=e
  ·have q':H b=some (.own x):=by
    rcases he with z|z
    ·exact absurd (hbe.trans z) hb
    ·rw[hbe];exact z
   rw[q] at q';cases q'
   obtain⟨v,hv⟩:=heo
   exact⟨v,by rw[hbe];exact hv⟩
  ·refine (ok b u q).stay (fun c v hc r=>k c v ?_ r) (fun c r=>by rw[aA (nown c b r)];exact r) fun c xs r hr=>by rw[aA (ntup c xs r hr)];exact r
   rcases hc with rfl|hc
   ·exact hbe
   ·rintro rfl
    rcases he with z|z
    ·exact nown c b hc z
    ·rw[hc] at z;cases z;exact hb rfl
end
def OT:HO->Prop
 | .tab _=>True
 | .cod _=>True
 | _=>False
theorem OT.not_mut{u:HO}(h:OT u):¬ Oo (some u):=by cases u<;>first|exact fun z=>z|exact h.elim
structure KB(H H':Hp)(h h':Heap):Prop where
 st:∀b u,H b=some u->OT u->H' b=some u
 gr:∀b q ps,H b=some (.tab q)->h.get? b=some { cls:=.none,data:=.fields ps }->∃more:Array Value,h'.get? b=some { cls:=.none,data:=.fields (ps++more) }
theorem KB.kept{H H':Hp}{h h':Heap}(k:∀b u,(∃q,H b=some (.tab q))->h.get? b=some u->h'.get? b=some u)(st:∀b u,H b=some u->OT u->H' b=some u):KB H H' h h' :=
 ⟨st,fun b q ps e z=>⟨#[],by rw[Array.append_empty];exact k b _ ⟨q,e⟩ z⟩⟩
theorem KB.trans{H H1 H2:Hp}{h h1 h2:Heap}(a:KB H H1 h h1)(b:KB H1 H2 h1 h2):KB H H2 h h2 :=
 ⟨fun c u q t=>b.st c u (a.st c u q t) t,fun c q ps e z=>by
  obtain⟨m1,z1⟩:=a.gr c q ps e z
  obtain⟨m2,z2⟩:=b.gr c q _ (a.st c _ e trivial) z1
  exact⟨m1++m2,by rw[z2,Array.append_assoc]⟩⟩
structure Un(fs ex:List Addr)(H H':Hp)(h h':Heap):Prop where
 keep:∀b o,h.get? b=some o->H b=none->b∉fs->b∉ex->h'.get? b=some o
 slot:∀b o,h.get? b=some o->H b=none->b∈fs->b∉ex->∃sl,h'.get? b=some { o with slots:=sl }
 free:∀b o,h.get? b=some o->H b=none->b∉ex->H' b=none
 there:∀b o,h.get? b=some o->b∉ex->∃o',h'.get? b=some o'
 tups:∀b xs,H b=some (.tup xs)->H' b=some (.tup xs)
 frzs:∀b o u,H b=some (.frz o u)->H' b=some (.frz o u)
 tbls:KB H H' h h'
section
variable {fs fs' ex ex':List Addr}{H H1 H2:Hp}{h h1 h2 h':Heap}{a x e:Addr}{o:HO}
theorem Un.any(u:Un fs ex H H1 h h1){b:Addr}{ob:Obj}(q:h.get? b=some ob)(n:H b=none)(hx:b∉ex):∃sl,h1.get? b=some { ob with slots:=sl }:=by
 by_cases hb:b∈fs
 ·exact u.slot b ob q n hb hx
 ·exact⟨ob.slots,u.keep b ob q n hb hx⟩
theorem Un.kept(k:∀b u,h.get? b=some u->h'.get? b=some u):Un fs ex H H h h' :=
 ⟨fun b ob q _ _ _=>k b ob q,fun b ob q _ _ _=>⟨ob.slots,k b ob q⟩,fun _ _ _ n _=>n,fun b ob q _=>⟨ob,k b ob q⟩,fun _ _ q=>q,fun _ _ _ q=>q,.kept (fun b u _ e=>k b u e) fun _ _ e _=>e⟩
theorem Un.refl:Un fs ex H H h h:=Un.kept fun _ _ q=>q
theorem Un.laid(k:∀b u,h.get? b=some u->h'.get? b=some u)(hp:h.objs.size<=a)(hn:H a=none):Un fs ex H (upd H a o) h h' where
 keep:=fun b u q _ _ _=>k b u q
 slot:=fun b u q _ _ _=>⟨u.slots,k b u q⟩
 free:=fun b u q n _=>by rw[aA (Nat.ne_of_lt (zP (zZ q) hp))];exact n
 there:=fun b u q _=>⟨u,k b u q⟩
 tups:=fun b xs q=>by rw[aA (aL q hn)];exact q
 frzs:=fun b u xs q=>by rw[aA (aL q hn)];exact q
 tbls:=.kept (fun b u _ e=>k b u e) fun b u q _=>by rw[aA (aL q hn)];exact q
theorem Un.write(mu:Oo (H x))(he:e=x\/H e=some (.own x))(k:∀b u,b≠e->h.get? b=some u->h'.get? b=some u)(heo:∃u,h'.get? e=some u):Un fs ex H (upd H x o) h h':=by
 have hx:∀b,H b=none->b≠x:=fun b n z=>by subst z;rw[n] at mu;exact mu
 have hb:∀b,H b=none->b≠e:=fun b n z=>by
  subst z
  rcases he with r|r
  ·exact hx b n r
  ·rw[n] at r;cases r
 have hm:∀b u,H b=some u->¬ Oo (some u)->b≠x:=fun b u q nm z=>by subst z;rw[q] at mu;exact nm mu
 refine⟨fun b u q n _ _=>k b u (hb b n) q,fun b u q n _ _=>⟨u.slots,k b u (hb b n) q⟩,fun b u q n _=>by rw[aA (hx b n)];exact n,fun b u q _=>?_,
  fun b xs q=>by rw[aA (hm b _ q fun z=>z)];exact q,fun b u xs q=>by rw[aA (hm b _ q fun z=>z)];exact q,.kept (fun b u z e=>k b u (fun r=>by subst r;rcases he with r|r<;>first|(subst r;rcases z with ⟨q,z⟩;rw[z] at mu;exact mu)|(rcases z with ⟨q,z⟩;rw[z] at r;cases r)) e) fun b u q nm=>by rw[aA (hm b _ q (nm.not_mut))];exact q⟩
 by_cases hbe:b=e
 ·subst hbe;exact heo
 ·exact⟨u,k b u hbe q⟩
end
def OR(h:Heap)(H:Hp):List Addr:=(List.range h.objs.size).filter fun a=>(H a).isSome
def uQ(h:Heap)(H:Hp):Heap:=W.hideAll h (OR h H)
theorem D1(h:Heap)(H:Hp):(uQ h H).objs.size=h.objs.size:=W.hideAll_size _ _
theorem Ex{h:Heap}{H:Hp}{b:Addr}{o:Obj}(e:h.get? b=some o)(n:H b=none):(uQ h H).get? b=some o :=
 W.hideAll_get _ e fun hm=>by
  have q:(H b).isSome=true:=(List.mem_filter.mp hm).2
  rw[n] at q;simp at q
theorem IH{h:Heap}{H:Hp}{b:Addr}{o:Obj}(e:(uQ h H).get? b=some o):h.get? b=some o/\H b=none:=by
 have e':h.get? b=some o:=W.of_hideAll (OR h H) e
 refine⟨e',?_⟩
 cases q:H b with
 | none=>rfl
 | some x =>
  have hm:b∈OR h H:=List.mem_filter.mpr ⟨zT.mpr (zZ e'),by simp[q]⟩
  have z:(uQ h H).get? b=none:=W.hideAll_none (OR h H) hm
  rw[z] at e;cases e
def OQ(mg:Str->Option Value)(base:Heap):Prop:=∃bm o,mg "__builtins__"=some (.ref bm)/\bm≠builtinsNs/\bm≠mainGlobals/\base.get? bm=some o/\o.cls=.type "module"/\o.dict=some builtinsNs/\o.data=.plain
structure Mod(K:W.Frag)(mg:Str->Option Value)(base:Heap):Prop where
 kin:K.In base
 glob:base.Ns mainGlobals mg
 blt:∃mb,base.Ns builtinsNs mb/\∀x:Str,x≠"__name__"->mb x=bootBuiltins x
 nolimit:base.NoLimit
 bmd:OQ mg base
structure Cx where
 prog:Program
 w:World
 K:W.Frag
 mg:Str->Option Value
 base:Heap
 A:Around
 N:List Str
 s₀:Shared
 H₀:Hp
 env:Env
 outer:List Env
 stack:List Env
 ex:List Addr
 fn:Str->Bool
 calm:Bool
 pn:List (Addr×Obj)
 xe:Value->Shared->Prop
def Hh(l:List Env):List Addr:=l.filterMap (·.frame)
abbrev Cx.fs(X:Cx):List Addr:=Hh X.outer
def KQ(sc:Scope)(x:Str):Prop:=sc.names.lookup x=some .local \/ sc.names.lookup x=some .cell\/sc.names.lookup x=some .free
def Loc(sc:Scope)(x:Str):Prop:=sc.names.lookup x=some .local \/ sc.names.lookup x=some .cell
def Look(env:Env)(h:Heap)(m:Str->Option Value)(x:Str)(u:Value):Prop :=
 (env.kindOf x=some .local /\ m x=some u)\/((env.kindOf x=some .cell\/env.kindOf x=some .free)/\∃c,env.cells.lookup x=some c/\h.IsCell c (some u))
structure Cx.Ok(X:Cx):Prop where
 mod:Mod X.K X.mg X.base
 kind:X.env.scope.kind=.function
 glob:X.env.globals=mainGlobals
 blt:X.env.builtins=builtinsNs
 above:X.s₀.heap.objs.size<=X.env.locals
 inj:∀x y c,X.env.cells.lookup x=some c->X.env.cells.lookup y=some c->x=y
 has:∀x,(X.env.kindOf x=some .cell\/X.env.kindOf x=some .free)->∃c,X.env.cells.lookup x=some c
 cab:∀x c,X.fn x=true->X.env.cells.lookup x=some c->X.s₀.heap.objs.size<=c
 hd:X.calm=true->X.A.handled=none
 frames:X.A.frames=some X.stack
 stk:X.stack=X.outer\/(X.stack=X.env::X.outer/\X.env.frame=some X.env.locals)
 exf:∀b∈X.ex,b≠X.env.locals/\∀x c,X.env.cells.lookup x=some c->c≠b
 bs:∀b o,X.base.get? b=some o->X.s₀.heap.get? b=some o/\X.H₀ b=none
 bsz:X.base.objs.size<=X.s₀.heap.objs.size
 noex:∀b o,X.base.get? b=some o->b∉X.ex
 exfs:∀b∈X.ex,b∉X.fs
 funs:X.s₀.heap.FunFrames X.base X.outer
 frf:∀b∈X.fs,X.H₀ b=none
structure Inv(X:Cx)(pins:List (Addr×Obj))(σ:List (Option V))(H:Hp)(s:Shared):Prop where
 ok:X.Ok
 os:s.os=X.s₀.os
 bare:AllBare s.gens
 base:Un X.fs X.ex X.H₀ H X.s₀.heap s.heap
 loc:∃m,s.heap.Ns X.env.locals m/\∀ (i:Nat) (x:Str) (v:V),X.N[i]?=some x->σ[i]?=some (some v)->KQ X.env.scope x->∃u,RelV v u/\Look X.env s.heap m x u
 cell:∀x c,X.env.cells.lookup x=some c->∃v,s.heap.IsCell c v
 free:H X.env.locals=none
 freeC:∀x c,X.env.cells.lookup x=some c->H c=none
 pin:∀p∈X.pn++pins,s.heap.get? p.1=some p.2/\H p.1=none/\p.1≠X.env.locals/\p.1∉X.fs/\∀v,p.2.data≠.cell v
 hok:pJ X.prog X.w H s.heap
 len:σ.length=X.N.length
section
variable {X:Cx}{pins:List (Addr×Obj)}{σ:List (Option V)}{H H':Hp}{s:Shared}{h':Heap}
theorem Cx.Ok.nofr(ok:X.Ok){b:Addr}{o:Obj}(e:X.base.get? b=some o):b∉X.fs:=fun hb=>by
 have:=(ok.funs.mem hb).1
 rw[e] at this;cases this
theorem Inv.bs(I:Inv X pins σ H s):∀b o,X.base.get? b=some o->s.heap.get? b=some o/\H b=none:=fun b o e =>
 ⟨I.base.keep b o (I.ok.bs b o e).1 (I.ok.bs b o e).2 (I.ok.nofr e) (I.ok.noex b o e),I.base.free b o (I.ok.bs b o e).1 (I.ok.bs b o e).2 (I.ok.noex b o e)⟩
theorem Inv.bk(I:Inv X pins σ H s):∀b o,X.base.get? b=some o->s.heap.get? b=some o:=fun b o e=>(I.bs b o e).1
theorem Inv.mod(I:Inv X pins σ H s):Mod X.K X.mg X.base:=I.ok.mod
theorem Inv.kIn(I:Inv X pins σ H s):X.K.In s.heap:=I.ok.mod.kin.keeps I.bk
theorem Inv.nolimit(I:Inv X pins σ H s):s.heap.NoLimit:=I.ok.mod.nolimit.keeps I.bk
theorem Inv.lt(I:Inv X pins σ H s):X.env.locals < s.heap.objs.size:=let ⟨_,hn,_⟩:=I.loc;hn.lt
theorem Inv.sz(I:Inv X pins σ H s):X.s₀.heap.objs.size<=s.heap.objs.size:=yE I.ok.above (Nat.le_of_lt I.lt)
theorem Inv.nofs(I:Inv X pins σ H s){a:Addr}(h:s.heap.objs.size<=a):a∉X.fs:=fun hb=>by
 obtain⟨_,o,ho,_⟩:=I.ok.funs.mem hb
 exact absurd (zP (zZ ho) (yE I.sz h)) (Nat.lt_irrefl _)
theorem Inv.cne(I:Inv X pins σ H s):∀x c,X.env.cells.lookup x=some c->c≠X.env.locals:=fun x c e z=>by
 obtain⟨v,o,ho,hd⟩:=I.cell x c e
 obtain⟨m,⟨o',es,ep,ho',hd',_⟩,_⟩:=I.loc
 rw[z,ho'] at ho;cases ho;rw[hd'] at hd;cases hd
theorem Inv.funs(I:Inv X pins σ H s):s.heap.FunFrames X.base X.outer:=by
 have all:∀ (l:List Env),(∀b∈Hh l,b∈X.fs)->X.s₀.heap.FunFrames X.base l->s.heap.FunFrames X.base l:=by
  intro l
  induction l with
  | nil=>intro _ _;trivial
  | cons env r ih =>
   intro hs hl
   obtain⟨hk,⟨L,o,hf,hn,ho,hd⟩,hr⟩:=hl
   have hL:L∈X.fs:=hs L (by unfold Hh;rw[List.filterMap_cons,hf];exact zE)
   obtain⟨sl,e⟩:=I.base.slot L o ho (I.ok.frf L hL) hL fun z=>I.ok.exfs L z hL
   exact⟨hk,⟨L,_,hf,hn,e,hd⟩,ih (fun b hb=>hs b (by unfold Hh;rw[List.filterMap_cons,hf];exact zC _ hb)) hr⟩
 exact all X.outer (fun _ hb=>hb) I.ok.funs
theorem Inv.stack(I:Inv X pins σ H s):s.heap.FunFrames X.base X.stack:=by
 rcases I.ok.stk with e|⟨e,hf⟩
 ·rw[e];exact I.funs
 ·rw[e]
  obtain⟨m,hn,_⟩:=I.loc
  refine .cons (by rw[I.ok.kind];decide) hf hn ?_ I.funs
  exact Heap.get?_none_of_le (yE I.ok.bsz I.ok.above)
theorem Inv.stkSub(I:Inv X pins σ H s):∀b∈Hh X.stack,b∈X.env.locals::X.fs:=fun b hb=>by
 rcases I.ok.stk with e|⟨e,hf⟩
 ·rw[e] at hb;exact zC _ hb
 ·rw[e] at hb
  unfold Hh at hb
  rw[List.filterMap_cons,hf] at hb
  exact hb
theorem Inv.stkFree(I:Inv X pins σ H s):∀b∈Hh X.stack,H b=none:=fun b hb=>by
 rcases zR.mp (I.stkSub b hb) with e|hb
 ·rw[e];exact I.free
 ·obtain⟨_,o,ho,_⟩:=I.ok.funs.mem hb
  exact I.base.free b o ho (I.ok.frf b hb) fun z=>I.ok.exfs b z hb
theorem Inv.step{g':Array GenState}{t':Nat}{d':Drawn}{ch:List Addr}(I:Inv X pins σ H s)
  (hch:∀b∈ch,(b∈X.ex\/X.s₀.heap.objs.size<=b)/\b≠X.env.locals/\(∀x c,X.env.cells.lookup x=some c->c≠b)/\∀p∈X.pn++pins,p.1≠b)
  (keep:∀b o,b≠X.env.locals->b∉X.fs->b∉ch->s.heap.get? b=some o->H b=none->h'.get? b=some o)
  (slot:∀b o,b≠X.env.locals->b∈X.fs->b∉ch->s.heap.get? b=some o->H b=none->∃sl,h'.get? b=some { o with slots:=sl }) (free:∀b o,b∉ch->s.heap.get? b=some o->H b=none->H' b=none)
  (there:∀b o,b∉ch->s.heap.get? b=some o->∃o',h'.get? b=some o')
  (tups:∀b xs,H b=some (.tup xs)->H' b=some (.tup xs)) (frzs:∀b o u,H b=some (.frz o u)->H' b=some (.frz o u)) (tbls:KB H H' s.heap h')
  (ns:∀m,s.heap.Ns X.env.locals m->h'.Ns X.env.locals m) (hok:pJ X.prog X.w H' h') (hg:AllBare g') :
  Inv X pins σ H' { s with heap:=h',gens:=g',drawn:=d',toks:=t' }:=by
 have neL:∀b o,X.s₀.heap.get? b=some o->b≠X.env.locals:=fun b o e=>Nat.ne_of_lt (zP (zZ e) I.ok.above)
 have neC:∀b o,X.s₀.heap.get? b=some o->b∉X.ex->b∉ch:=fun b o e hx hb=>by
  rcases (hch b hb).1 with z|z
  ·exact hx z
  ·exact absurd (zP (zZ e) z) (Nat.lt_irrefl _)
 have cellK:∀x c,X.env.cells.lookup x=some c->∀v,s.heap.IsCell c v->h'.IsCell c v:=fun x c e v ⟨o,ho,hd⟩=>by
  have nch:c∉ch:=fun z=>(hch c z).2.2.1 x c e rfl
  by_cases hc:c∈X.fs
  ·obtain⟨sl,q⟩:=slot c o (I.cne x c e) hc nch ho (I.freeC x c e)
   exact⟨_,q,hd⟩
  ·exact⟨o,keep c o (I.cne x c e) hc nch ho (I.freeC x c e),hd⟩
 refine⟨I.ok,I.os,hg,⟨fun b o e n hb hx=>?_,fun b o e n hb hx=>?_,fun b o e n hx=>?_,fun b o e hx=>?_,fun b xs e=>tups b xs (I.base.tups b xs e),fun b o xs e=>frzs b o xs (I.base.frzs b o xs e),I.base.tbls.trans tbls⟩,?_,fun x c e=>?_,?_,fun x c e=>?_,fun p hp=>?_,hok,I.len⟩
 ·exact keep b o (neL b o e) hb (neC b o e hx) (I.base.keep b o e n hb hx) (I.base.free b o e n hx)
 ·obtain⟨sl,e1⟩:=I.base.slot b o e n hb hx
  obtain⟨sl',e2⟩:=slot b _ (neL b o e) hb (neC b o e hx) e1 (I.base.free b o e n hx)
  exact⟨sl',e2⟩
 ·obtain⟨o',e1⟩:=I.base.there b o e hx
  exact free b o' (neC b o e hx) e1 (I.base.free b o e n hx)
 ·obtain⟨o',e1⟩:=I.base.there b o e hx
  exact there b o' (neC b o e hx) e1
 ·obtain⟨m,hn,hl⟩:=I.loc
  refine⟨m,ns m hn,fun i x v e1 e2 e3=>?_⟩
  obtain⟨u,r,l⟩:=hl i x v e1 e2 e3
  refine⟨u,r,?_⟩
  rcases l with l|⟨k,c,e,z⟩
  ·exact .inl l
  ·exact .inr ⟨k,c,e,cellK x c e _ z⟩
 ·obtain⟨v,z⟩:=I.cell x c e
  exact⟨v,cellK x c e v z⟩
 ·obtain⟨m,⟨o,_,_,ho,_⟩,_⟩:=I.loc
  exact free _ o (fun z=>(hch _ z).2.1 rfl) ho I.free
 ·obtain⟨v,o,ho,hd⟩:=I.cell x c e
  exact free c o (fun z=>(hch c z).2.2.1 x c e rfl) ho (I.freeC x c e)
 ·obtain⟨e,n,ne,nf,d⟩:=I.pin p hp
  have nch:p.1∉ch:=fun z=>(hch p.1 z).2.2.2 p hp rfl
  exact⟨keep p.1 p.2 ne nf nch e n,free p.1 p.2 nch e n,ne,nf,d⟩
theorem Inv.un{t':Nat}(I:Inv X pins σ H s)(u:Un X.fs [] H H' s.heap h')(hok:pJ X.prog X.w H' h'):Inv X pins σ H' { s with heap:=h',toks:=t' }:=by
 obtain⟨m,⟨o,es,ep,ho,r⟩,_⟩:=id I.loc
 obtain⟨sl,hL⟩:=u.any ho I.free (by simp)
 exact I.step (g':=s.gens) (d':=s.drawn) (ch:=[]) (fun _ z=>nomatch z) (fun b o _ hb _ e n=>u.keep b o e n hb (by simp)) (fun b o _ hb _ e n=>u.slot b o e n hb (by simp)) (fun b o _ e n=>u.free b o e n (by simp)) (fun b o _ e=>u.there b o e (by simp)) u.tups u.frzs u.tbls (fun m' hm=>by
  obtain⟨o',es',ep',ho',r'⟩:=hm
  rw[ho] at ho';cases ho'
  exact⟨_,es',ep',hL,r'⟩) hok I.bare
theorem Inv.call{g':Array GenState}{t':Nat}{d':Drawn}{ch:List Addr}(I:Inv X pins σ H s)(u:Un (Hh X.stack) ch H H' s.heap h')(hok:pJ X.prog X.w H' h')(hg:AllBare g')
  (hch:∀b∈ch,(b∈X.ex\/X.s₀.heap.objs.size<=b)/\b≠X.env.locals/\(∀x c,X.env.cells.lookup x=some c->c≠b)/\∀p∈X.pn++pins,p.1≠b) :
  Inv X pins σ H' { s with heap:=h',gens:=g',drawn:=d',toks:=t' }:=by
 obtain⟨m,⟨o,es,ep,ho,r⟩,_⟩:=id I.loc
 obtain⟨sl,hL⟩:=u.any ho I.free fun z=>(hch _ z).2.1 rfl
 exact I.step (ch:=ch) hch (fun b o hL hb hc e n=>u.keep b o e n (fun z=>(zR.mp (I.stkSub b z)).elim hL hb) hc) (fun b o _ _ hc e n=>u.any e n hc) (fun b o hc e n=>u.free b o e n hc) (fun b o hc e=>u.there b o e hc) u.tups u.frzs u.tbls (fun m' hm=>by
  obtain⟨o',es',ep',ho',r'⟩:=hm
  rw[ho] at ho';cases ho'
  exact⟨_,es',ep',hL,r'⟩) hok hg
theorem Inv.turned{t':Nat}{it:Addr}(I:Inv X pins σ H s)(k:∀b o,b≠it->s.heap.get? b=some o->h'.get? b=some o)(hn:H it=none)(hL:it≠X.env.locals)
  (h1:it∈X.ex\/X.s₀.heap.objs.size<=it) (h2:∀x c,X.env.cells.lookup x=some c->c≠it) (h3:∀p∈X.pn++pins,p.1≠it):Inv X pins σ H { s with heap:=h',toks:=t' }:=by
 have nit:∀b u,H b=some u->b≠it:=fun b u e z=>by rw[z,hn] at e;cases e
 refine I.step (g':=s.gens) (d':=s.drawn) (ch:=[it]) (fun b hb=>?_) (fun b o _ _ hc e _=>k b o (fun z=>hc (by simp[z])) e) (fun b o _ _ hc e _=>⟨o.slots,k b o (fun z=>hc (by simp[z])) e⟩) (fun _ _ _ _ n=>n)
  (fun b o hc e=>⟨o,k b o (fun z=>hc (by simp[z])) e⟩) (fun _ _ e=>e) (fun _ _ _ e=>e) (.kept (fun b u z e=>k b u (fun r=>by subst r;rcases z with ⟨q,z⟩;rw[hn] at z;cases z) e) fun _ _ e _=>e) (fun m hm=>?_) (fun b u e=>?_) I.bare
 ·have e:b=it:=by simpa using hb
  subst e
  exact⟨h1,hL,h2,h3⟩
 ·obtain⟨o,es,ep,ho,r⟩:=hm
  exact⟨o,es,ep,k _ o (Ne.symm hL) ho,r⟩
 ·refine (I.hok b u e).stay (fun c v hc q=>k c v ?_ q) (fun _ q=>q) fun _ _ q _=>q
  rcases hc with z|z
  ·rw[z];exact nit b u e
  ·exact nit c _ z
theorem Inv.tok(I:Inv X pins σ H s)(t:Nat):Inv X pins σ H { s with toks:=t }:=I.un (h':=s.heap) (t':=t) Un.refl I.hok
theorem Inv.kept{t':Nat}(I:Inv X pins σ H s)(k:∀b u,s.heap.get? b=some u->h'.get? b=some u):Inv X pins σ H { s with heap:=h',toks:=t' }:=I.un (Un.kept k) (I.hok.kept k)
theorem Inv.laid{a:Addr}{o:HO}{t':Nat}(I:Inv X pins σ H s)(k:∀b u,s.heap.get? b=some u->h'.get? b=some u)(hp:s.heap.objs.size<=a)(new:fW X.prog X.w (upd H a o) h' a o) :
  Inv X pins σ (upd H a o) { s with heap:=h',toks:=t' }:=I.un (Un.laid k hp (I.hok.fresh hp)) (I.hok.laid k hp new)
theorem Inv.write{x e:Addr}{o:HO}{t':Nat}(I:Inv X pins σ H s)(mu:Oo (H x))(he:e=x\/H e=some (.own x))(k:∀b u,b≠e->s.heap.get? b=some u->h'.get? b=some u)(heo:∃u,h'.get? e=some u)
  (new:fW X.prog X.w (upd H x o) h' x o):Inv X pins σ (upd H x o) { s with heap:=h',toks:=t' }:=I.un (Un.write mu he k heo) (I.hok.write mu he k heo new)
theorem Inv.pins_of{pins':List (Addr×Obj)}(I:Inv X pins σ H s)(h:∀p∈pins',s.heap.get? p.1=some p.2/\H p.1=none/\p.1≠X.env.locals/\p.1∉X.fs/\∀v,p.2.data≠.cell v):Inv X pins' σ H s :=
 ⟨I.ok,I.os,I.bare,I.base,I.loc,I.cell,I.free,I.freeC,fun p hp=>(List.mem_append.mp hp).elim (fun z=>I.pin p (List.mem_append_left _ z)) (h p),I.hok,I.len⟩
theorem ya{N:List Str}(hN:N.Nodup){i j:Nat}{x:Str}(a:N[i]?=some x)(b:N[j]?=some x):i=j:=by
 obtain⟨h1,e1⟩:=zU.mp a
 obtain⟨h2,e2⟩:=zU.mp b
 exact (List.getElem_inj hN).mp (e1.trans e2.symm)
theorem uc{M:Model}{A:Around}{E:Value->Shared->Prop}{i:Nat}{x:Str}{v:V}{u:Value}{Q:Unit->Shared->Prop}(I:Inv X pins σ H s)(hN:X.N.Nodup)(hi:X.N[i]?=some x)(hx:Loc X.env.scope x)(r:RelV v u)
  (h:∀s',Inv X pins (σ.set i (some v)) H s'->(∃a,Heap.SameBut a s.heap s'.heap/\(a=X.env.locals\/X.env.cells.lookup x=some a))->Q () s') (hf:X.fn x=true\/X.env.scope.names.lookup x=some .local:=by first|exact .inl rfl|exact .inr rfl|assumption):wpAny M A (storeName X.env x u) Q E s:=by
 obtain⟨m,hn,hl⟩:=id I.loc
 have hcls:(X.env.scope.kind == .class||(X.env.scope.kind == .module&&X.env.locals != X.env.globals))=false:=by rw[I.ok.kind];rfl
 have hiσ:i < σ.length:=by rw[I.len];exact (zU.mp hi).1
 have cne:=I.cne
 have tracked:∀ {a:Addr}{h':Heap},(∃o,s.heap.get? a=some o/\H a=none)->Heap.SameBut a s.heap h'->pJ X.prog X.w H h':=fun {a h'} ha hs b ob e=>by
  obtain⟨_,_,hfree⟩:=ha
  refine (I.hok b ob e).stay (fun c w' hc q=>(hs.2 c ?_).trans q) (fun _ q=>q) fun _ _ q _=>q
  rintro rfl
  rcases hc with rfl|hc
  ·rw[hfree] at e;cases e
  ·rw[hfree] at hc;cases hc
 rcases hx with hk|hk
 ·refine wpAny_storeName_local hk hn (fun h' hn' hs=>?_) hcls
  obtain⟨oL,_,_,hoL,_⟩:=id hn
  refine h _ ⟨I.ok,I.os,I.bare,⟨fun b o e n hb hx=>?_,fun b o e n hb hx=>?_,I.base.free,fun b o e hx=>?_,I.base.tups,I.base.frzs,I.base.tbls.trans (.kept (fun b u z e=>(hs.2 b (fun r=>by rcases z with ⟨q,z⟩;rw[r,I.free] at z;cases z)).trans e) fun _ _ e _=>e)⟩,⟨_,hn',fun j y v' e1 e2 e3=>?_⟩,fun y c e=>?_,I.free,I.freeC,fun p hp=>?_,tracked ⟨oL,hoL,I.free⟩ hs,by simpa using I.len⟩ ⟨_,hs,.inl rfl⟩
  ·exact (hs.2 b (Nat.ne_of_lt (zP (zZ e) I.ok.above))).trans (I.base.keep b o e n hb hx)
  ·obtain⟨sl,e1⟩:=I.base.slot b o e n hb hx
   exact⟨sl,(hs.2 b (Nat.ne_of_lt (zP (zZ e) I.ok.above))).trans e1⟩
  ·obtain⟨o',e1⟩:=I.base.there b o e hx
   exact⟨o',(hs.2 b (Nat.ne_of_lt (zP (zZ e) I.ok.above))).trans e1⟩
  ·by_cases hj:j=i
   ·subst hj
    rw[hi] at e1;cases e1
    rw[List.getElem?_set_self hiσ] at e2
    cases e2
    exact⟨u,r,.inl ⟨hk,by simp⟩⟩
   ·rw[List.getElem?_set_ne (Ne.symm hj)] at e2
    obtain⟨u',r',q⟩:=hl j y v' e1 e2 e3
    refine⟨u',r',?_⟩
    rcases q with ⟨k,e⟩|⟨k,c,e,z⟩
    ·refine .inl ⟨k,?_⟩
     have:y≠x:=fun e=>hj (ya hN e1 (e ▸ hi))
     simp[this,e]
    ·exact .inr ⟨k,c,e,z.sameBut hs (cne y c e)⟩
  ·obtain⟨w',z⟩:=I.cell y c e
   exact⟨w',z.sameBut hs (cne y c e)⟩
  ·obtain⟨e,n,ne,nf,d⟩:=I.pin p hp
   exact⟨(hs.2 p.1 ne).trans e,n,ne,nf,d⟩
 ·have hfn:X.fn x=true:=by
   rcases hf with z|z
   ·exact z
   ·rw[z] at hk;cases hk
  obtain⟨c,hc⟩:=I.ok.has x (.inl hk)
  obtain⟨w',z⟩:=I.cell x c hc
  refine wpAny_storeName_cell I.ok.kind hk hc z (fun h' hc' hs=>?_)
  obtain⟨oc,hoc,hocd⟩:=id z
  refine h { s with heap:=h' } ⟨I.ok,I.os,I.bare,⟨fun b o e n hb hx=>?_,fun b o e n hb hx=>?_,I.base.free,fun b o e hx=>?_,I.base.tups,I.base.frzs,I.base.tbls.trans (.kept (fun b u z e=>(hs.2 b (fun r=>by rcases z with ⟨q,z⟩;rw[r,I.freeC x c hc] at z;cases z)).trans e) fun _ _ e _=>e)⟩,⟨m,hn.sameBut hs (Ne.symm (cne x c hc)),fun j y v' e1 e2 e3=>?_⟩,fun y c' e=>?_,I.free,I.freeC,fun p hp=>?_,tracked ⟨oc,hoc,I.freeC x c hc⟩ hs,by simpa using I.len⟩ ⟨c,hs,.inr hc⟩
  ·exact (hs.2 b (Nat.ne_of_lt (zP (zZ e) (I.ok.cab x c hfn hc)))).trans (I.base.keep b o e n hb hx)
  ·obtain⟨sl,e1⟩:=I.base.slot b o e n hb hx
   exact⟨sl,(hs.2 b (Nat.ne_of_lt (zP (zZ e) (I.ok.cab x c hfn hc)))).trans e1⟩
  ·obtain⟨o',e1⟩:=I.base.there b o e hx
   exact⟨o',(hs.2 b (Nat.ne_of_lt (zP (zZ e) (I.ok.cab x c hfn hc)))).trans e1⟩
  ·by_cases hj:j=i
   ·subst hj
    rw[hi] at e1;cases e1
    rw[List.getElem?_set_self hiσ] at e2
    cases e2
    exact⟨u,r,.inr ⟨.inl hk,c,hc,hc'⟩⟩
   ·rw[List.getElem?_set_ne (Ne.symm hj)] at e2
    obtain⟨u',r',q⟩:=hl j y v' e1 e2 e3
    refine⟨u',r',?_⟩
    rcases q with q|⟨k,c',e,z'⟩
    ·exact .inl q
    ·refine .inr ⟨k,c',e,z'.sameBut hs ?_⟩
     rintro rfl
     exact hj (ya hN e1 (I.ok.inj _ _ _ e hc ▸ hi))
  ·by_cases hcc:c'=c
   ·subst hcc;exact⟨_,hc'⟩
   ·obtain⟨w2,z2⟩:=I.cell y c' e
    exact⟨w2,z2.sameBut hs hcc⟩
  ·obtain⟨e,n,ne,nf,d⟩:=I.pin p hp
   refine⟨(hs.2 p.1 ?_).trans e,n,ne,nf,d⟩
   intro q
   rw[q,hoc] at e
   have q':oc=p.2:=Option.some.inj e
   exact d w' (by rw[<- q'];exact hocd)
theorem xw{M:Model}{A:Around}{E:Value->Shared->Prop}{i:Nat}{x:Str}{v:V}{u:Value}{Q:Unit->Shared->Prop}(I:Inv X pins σ H s)(hN:X.N.Nodup)(hi:X.N[i]?=some x)(hx:Loc X.env.scope x)(r:RelV v u)
  (h:∀s',Inv X pins (σ.set i (some v)) H s'->Q () s') (hf:X.fn x=true\/X.env.scope.names.lookup x=some .local:=by first|exact .inl rfl|exact .inr rfl|assumption):wpAny M A (storeName X.env x u) Q E s :=
 uc I hN hi hx r (fun s' I' _=>h s' I') hf
theorem Inv.call'{s':Shared}{ch:List Addr}(I:Inv X pins σ H s)(ho:s'.os=s.os)(u:Un (Hh X.stack) ch H H' s.heap s'.heap)(hok:pJ X.prog X.w H' s'.heap)(hg:AllBare s'.gens)
  (hch:∀b∈ch,(b∈X.ex\/X.s₀.heap.objs.size<=b)/\b≠X.env.locals/\(∀x c,X.env.cells.lookup x=some c->c≠b)/\∀p∈X.pn++pins,p.1≠b):Inv X pins σ H' s':=by
 obtain⟨h',g',d',t',o'⟩:=s'
 have e:o'=s.os:=ho
 subst e
 exact I.call (g':=g') (t':=t') (d':=d') u hok hg hch
end
abbrev XK:=Value->Option Addr->Hp->Prop
abbrev St:=List (Option V)
abbrev VK:=V->Hp->Prop
abbrev TE:=St->Hp->VK->Prop
abbrev TT:=St->Hp->(Bool->Hp->Prop)->Prop
abbrev TA:=St->Hp->(List V->Hp->Prop)->Prop
structure Ends where
 nx:St->Hp->Prop
 rt:VK
 bk:St->Hp->Prop:=fun _ _=>False
 ct:St->Hp->Prop:=fun _ _=>False
abbrev TS:=Ends->St->Hp->Prop
def EP(X:Cx)(pins:List (Addr×Obj))(σ:St)(Q:VK)(u:Value)(s':Shared):Prop:=∃v H',Inv X pins σ H' s'/\RelV v u/\Q v H'
def TP(X:Cx)(pins:List (Addr×Obj))(σ:St)(Q:Bool->Hp->Prop)(b:Bool)(s':Shared):Prop:=∃H',Inv X pins σ H' s'/\Q b H'
def AP(X:Cx)(pins:List (Addr×Obj))(σ:St)(Q:List V->Hp->Prop)(us:List Value)(s':Shared):Prop:=∃vs H',Inv X pins σ H' s'/\aB vs us/\Q vs H'
def SP(X:Cx)(pins:List (Addr×Obj))(D:Ends)(f:Flow)(s':Shared):Prop :=
 match f with
 | .next=>∃σ' H',Inv X pins σ' H' s'/\D.nx σ' H'
 | .brk=>∃σ' H',Inv X pins σ' H' s'/\D.bk σ' H'
 | .cont=>∃σ' H',Inv X pins σ' H' s'/\D.ct σ' H'
 | .ret u=>∃v σ' H',Inv X pins σ' H' s'/\RelV v u/\D.rt v H'
def PE(X:Cx)(e:Expr)(t:TE):Prop :=
 ∀ (pins:List (Addr×Obj)) (s:Shared) (σ:St) (H:Hp) (Q:VK),Inv X pins σ H s->t σ H Q->wpAny (model X.prog X.w) X.A (eval e X.env) (EP X pins σ Q) X.xe s
def PT(X:Cx)(e:Expr)(t:TT):Prop :=
 ∀ (pins:List (Addr×Obj)) (s:Shared) (σ:St) (H:Hp) (Q:Bool->Hp->Prop),Inv X pins σ H s->t σ H Q->wpAny (model X.prog X.w) X.A (isTrue e X.env (eval e X.env)) (TP X pins σ Q) X.xe s
def PW(X:Cx)(e:Expr)(t:TT):Prop :=
 ∀ (whole:Sem Value) (pins:List (Addr×Obj)) (s:Shared) (σ:St) (H:Hp) (Q:Bool->Hp->Prop),Inv X pins σ H s->t σ H Q->wpAny (model X.prog X.w) X.A (isTrue e X.env whole) (TP X pins σ Q) X.xe s
theorem PW.pt{X:Cx}{e:Expr}{t:TT}(h:PW X e t):PT X e t:=h _
def PA(X:Cx)(es:List Expr)(t:TA):Prop :=
 ∀ (pos:Pos) (pins:List (Addr×Obj)) (s:Shared) (σ:St) (H:Hp) (Q:List V->Hp->Prop),Inv X pins σ H s->t σ H Q->wpAny (model X.prog X.w) X.A (spliced (backTo pos (starEach es X.env))) (AP X pins σ Q) X.xe s
def PS(X:Cx)(st:Stmt)(t:TS):Prop :=
 ∀ (pins:List (Addr×Obj)) (s:Shared) (σ:St) (H:Hp) (D:Ends),Inv X pins σ H s->t D σ H->wpAny (model X.prog X.w) X.A (exec st X.env) (SP X pins D) X.xe s
def zv(X:Cx)(st:List Stmt)(t:TS):Prop :=
 ∀ (pins:List (Addr×Obj)) (s:Shared) (σ:St) (H:Hp) (D:Ends),Inv X pins σ H s->t D σ H->wpAny (model X.prog X.w) X.A (execs st X.env) (SP X pins D) X.xe s
theorem bW{α:Type}{t:Sem α}{Q Q':α->Shared->Prop}{M:Model}{A:Around}{E:Value->Shared->Prop}{s:Shared}(h:wpAny M A t Q E s)(hQ:∀a s,Q a s->Q' a s):wpAny M A t Q' E s:=wpAny_mono h hQ fun _ _ x=>x
section
variable {X:Cx}
def Pc(i:Nat):TE:=fun σ H Q=>∃v,σ[i]?=some (some v)/\Q v H
def tC(v:V):TE:=fun _ H Q=>Q v H
theorem qT{i:Nat}{x:Str}{pos:Pos}(hN:X.N[i]?=some x)(hv:KQ X.env.scope x)(hd:(x == ("__debug__":Str))=false:=by decide)(hcd:(x == ("__classdict__":Str))=false:=by decide):PE X (.Name x pos) (Pc i):=by
 intro pins s σ H Q I h
 obtain⟨v,e,h⟩:=h
 obtain⟨m,hn,hl⟩:=I.loc
 obtain⟨u,r,l⟩:=hl i x v hN e hv
 have fin:EP X pins σ Q u s:=⟨v,H,I,r,h⟩
 rcases l with ⟨hk,hm⟩|⟨hk,c,hc,hcell⟩
 ·exact wpAny_Name (wpAny_loadName_local I.ok.kind hk hn hm fin) hd
 ·rcases hk with hk|hk
  ·exact wpAny_Name (wpAny_loadName_cell I.ok.kind hk hc hcell fin) hd
  ·exact wpAny_Name (wpAny_loadName_free I.ok.kind hk hc hcell fin hcd) hd
theorem vF{i j pos}:PE X (.Constant (.int i) j pos) (tC (.int i)):=fun _ _ _ H _ I h=>wpAny_Constant_int ⟨.int i,H,I.tok _,⟨_,rfl⟩,h⟩
theorem N0{b j pos}:PE X (.Constant (.bool b) j pos) (tC (.bl b)):=fun _ _ _ H _ I h=>Constant_bool ⟨.bl b,H,I,rfl,h⟩
theorem Mh{j pos}:PE X (.Constant .none j pos) (tC .non):=fun _ _ _ H _ I h=>Constant_none ⟨.non,H,I,rfl,h⟩
theorem MO{x j pos}:PE X (.Constant (.str x) j pos) (tC (.str x)):=fun _ _ _ H _ I h=>Calls.Constant_str ⟨.str x,H,I.tok _,⟨_,rfl⟩,h⟩
def Gl(X:Cx)(x:Str):Prop:=X.env.kindOf x=some .globalImplicit
theorem BX{E:Value->Shared->Prop}{pins:List (Addr×Obj)}{s:Shared}{σ:St}{H:Hp}{x:Str}{u:Value}{pos:Pos}{Q:Value->Shared->Prop}(I:Inv X pins σ H s)(hg:Gl X x)(hm:X.mg x=some u)(h:Q u s)
  (hd:(x == ("__debug__":Str))=false:=by decide):wpAny (model X.prog X.w) X.A (eval (.Name x pos) X.env) Q E s :=
 Calls.Name_function_global I.ok.kind hg (Calls.loadGlobal_global (by rw[I.ok.glob];exact I.mod.glob.keeps I.bk) hm h) hd
theorem iF{E:Value->Shared->Prop}{pins:List (Addr×Obj)}{s:Shared}{σ:St}{H:Hp}{x:Str}{u:Value}{pos:Pos}{Q:Value->Shared->Prop}(I:Inv X pins σ H s)(hg:Gl X x)(hm:X.mg x=none)(hv:bootBuiltins x=some u)(h:Q u s)
  (hn:x≠"__name__":=by decide) (hd:(x == ("__debug__":Str))=false:=by decide):wpAny (model X.prog X.w) X.A (eval (.Name x pos) X.env) Q E s:=by
 obtain⟨mb,h1,h2⟩:=I.mod.blt
 exact Calls.Name_function_global I.ok.kind hg (Calls.loadGlobal_builtin (by rw[I.ok.glob];exact I.mod.glob.keeps I.bk) hm (by rw[I.ok.blt];exact h1.keeps I.bk) ((h2 x hn).trans hv) h) hd
theorem vn{x:Str}{v:V}{u:Value}{pos:Pos}(hg:Gl X x)(hm:X.mg x=some u)(r:RelV v u)(hd:(x == ("__debug__":Str))=false:=by decide):PE X (.Name x pos) (tC v) :=
 fun _ _ _ H _ I h=>BX I hg hm ⟨v,H,I,r,h⟩ hd
theorem Jy{x:Str}{v:V}{u:Value}{pos:Pos}(hg:Gl X x)(hm:X.mg x=none)(hv:bootBuiltins x=some u)(r:RelV v u)(hn:x≠"__name__":=by decide)(hd:(x == ("__debug__":Str))=false:=by decide):PE X (.Name x pos) (tC v) :=
 fun _ _ _ H _ I h=>iF I hg hm hv ⟨v,H,I,r,h⟩ hn hd
variable {a b:Expr}{ta tb:TE}{pos:Pos}
def tB(t:TE):TT:=fun σ H Q=>t σ H fun x H1=>∃c,x=.bl c/\Q c H1
theorem Ma{e:Expr}{t:TE}(h:PE X e t)(he:∀whole,isTrue e X.env whole=(do let v <- whole;standAt e.pos;holding [v] (truthy v)):=by intro _;rfl):PT X e (tB t):=by
 intro pins s σ H Q I hw
 refine isTrue_plain (bW (h pins s σ H _ I hw) fun v s1 ⟨x,H1,I1,r1,q1⟩=>?_) (he _)
 obtain⟨d,rfl,q⟩:=q1
 cases r1
 exact wpAny_truthy_bool ⟨H1,I1,q⟩
variable {tA tB':TT}{rest:List Expr}
def P7(t u:TT):TT:=fun σ H Q=>t σ H fun c H1=>if c=true then u σ H1 Q else Q false H1
def QI(t u:TT):TT:=fun σ H Q=>t σ H fun c H1=>if c=true then Q true H1 else u σ H1 Q
def PQ(t:TT):TT:=fun σ H Q=>t σ H fun c H1=>Q (!c) H1
theorem J9(ha:PT X a tA):PW X (.BoolOp .And [a] pos) tA:=by
 intro wh pins s σ H Q I h
 refine isTrue_and (bW (ha pins s σ H Q I h) fun c s1 e=>?_)
 cases c with
 | true=>exact isTrue_and_nil e
 | false=>exact e
theorem MT(ha:PT X a tA):PW X (.BoolOp .Or [a] pos) tA:=by
 intro wh pins s σ H Q I h
 refine isTrue_or (bW (ha pins s σ H Q I h) fun c s1 e=>?_)
 cases c with
 | false=>exact isTrue_or_nil e
 | true=>exact e
theorem LQ(ha:PT X a tA)(hb:PW X (.BoolOp .And (b::rest) pos) tB'):PW X (.BoolOp .And (a::b::rest) pos) (P7 tA tB'):=by
 intro wh pins s σ H Q I h
 refine isTrue_and (bW (ha pins s σ H _ I h) fun c s1 ⟨H1,I1,q1⟩=>?_)
 cases c with
 | true=>exact hb wh pins s1 σ H1 Q I1 q1
 | false=>exact⟨H1,I1,q1⟩
theorem N4(ha:PT X a tA)(hb:PW X (.BoolOp .Or (b::rest) pos) tB'):PW X (.BoolOp .Or (a::b::rest) pos) (QI tA tB'):=by
 intro wh pins s σ H Q I h
 refine isTrue_or (bW (ha pins s σ H _ I h) fun c s1 ⟨H1,I1,q1⟩=>?_)
 cases c with
 | true=>exact⟨H1,I1,q1⟩
 | false=>exact hb wh pins s1 σ H1 Q I1 q1
theorem Mq(ha:PT X a tA):PT X (.UnaryOp .Not a pos) (PQ tA):=by
 intro pins s σ H Q I h
 exact isTrue_not (ha pins s σ H (fun c H1=>Q (!c) H1) I h)
def Of(ta tb:TE):TE:=fun σ H Q=>ta σ H fun x H1=>∃c,x=.bl c/\if c=true then tb σ H1 Q else Q (.bl false) H1
def Pa(ta tb:TE):TE:=fun σ H Q=>ta σ H fun x H1=>∃c,x=.bl c/\if c=true then Q (.bl true) H1 else tb σ H1 Q
def N1(ta:TE):TE:=fun σ H Q=>ta σ H fun x H1=>∃c,x=.bl c/\Q (.bl (!c)) H1
theorem Ll{op}{t:TE}(h:PE X a t):PE X (.BoolOp op [a] pos) t:=fun pins s σ H Q I hw=>BoolOp_one (h pins s σ H Q I hw)
theorem Mn(ha:PE X a ta)(hb:PE X (.BoolOp .And (b::rest) pos) tb):PE X (.BoolOp .And (a::b::rest) pos) (Of ta tb):=by
 intro pins s σ H Q I h
 refine BoolOp_and (bW (ha pins s σ H _ I h) fun v s1 ⟨x,H1,I1,r1,q1⟩=>?_)
 obtain⟨c,rfl,q1⟩:=q1
 cases r1
 refine wpAny_truthy_bool ?_
 cases c with
 | true=>exact hb pins s1 σ H1 Q I1 q1
 | false=>exact⟨.bl false,H1,I1,rfl,q1⟩
theorem GZ(ha:PE X a ta)(hb:PE X (.BoolOp .Or (b::rest) pos) tb):PE X (.BoolOp .Or (a::b::rest) pos) (Pa ta tb):=by
 intro pins s σ H Q I h
 refine BoolOp_or (bW (ha pins s σ H _ I h) fun v s1 ⟨x,H1,I1,r1,q1⟩=>?_)
 obtain⟨c,rfl,q1⟩:=q1
 cases r1
 refine wpAny_truthy_bool ?_
 cases c with
 | false=>exact hb pins s1 σ H1 Q I1 q1
 | true=>exact⟨.bl true,H1,I1,rfl,q1⟩
theorem MG(ha:PE X a ta):PE X (.UnaryOp .Not a pos) (N1 ta):=by
 intro pins s σ H Q I h
 refine UnaryOp_ (bW (ha pins s σ H _ I h) fun v s1 ⟨x,H1,I1,r1,q1⟩=>?_)
 obtain⟨c,rfl,q1⟩:=q1
 cases r1
 exact not_of (wpAny_truthy_bool ⟨.bl (!c),H1,I1,rfl,q1⟩)
def QF(t:TT)(ta tb:TE):TE:=fun σ H Q=>t σ H fun c H1=>if c=true then ta σ H1 Q else tb σ H1 Q
theorem GQ{c:Expr}(hc:PT X c tA)(ha:PE X a ta)(hb:PE X b tb):PE X (.IfExp c a b pos) (QF tA ta tb):=by
 intro pins s σ H Q I h
 refine wpAny_IfExp (bW (hc pins s σ H _ I h) fun d s1 ⟨H1,I1,q1⟩=>?_)
 cases d with
 | true=>exact ha pins s1 σ H1 Q I1 q1
 | false=>exact hb pins s1 σ H1 Q I1 q1
end
def iU(K:W.Frag)(H:Hp)(a:Addr)(xs:List V):Prop :=
 Rd H a (.lst xs) \/
  ∃ (o:Obj) (its:Array Value) (n:Nat),K.lookup a=some o/\o.cls=.type "list"/\o.dict=none/\o.data=.seq its n/\its.size<=sizeLine/\aB xs its.toList
def ji(K:W.Frag)(H:Hp)(a:Addr)(xs:List V):Prop :=
 Rd H a (.tup xs) \/
  ∃ (o:Obj) (its:Array Value) (n:Nat),K.lookup a=some o/\o.cls=.type "tuple"/\o.dict=none/\o.data=.seq its n/\its.size<=sizeLine/\aB xs its.toList
def PL:Value->Option V
 | .none=>some .non
 | .bool b=>some (.bl b)
 | .int i _=>some (.int i)
 | .str x _=>some (.str x)
 | .bytes b _=>some (.byt b)
 | .float b _=>some (.flt b)
 | .ref a=>some (.ref a)
 | .type n=>some (.ty n)
 | _=>none
theorem RelV.abs{x:V}{u:Value}(r:RelV x u):PL u=some x:=by
 cases x with
 | non=>cases r;rfl
 | bl _=>cases r;rfl
 | int _=>obtain⟨t,rfl⟩:=r;rfl
 | str _=>obtain⟨t,rfl⟩:=r;rfl
 | byt _=>obtain⟨t,rfl⟩:=r;rfl
 | flt _=>obtain⟨t,rfl⟩:=r;rfl
 | ref _=>cases r;rfl
 | ty _=>cases r;rfl
theorem RelV.inj{x y:V}{u:Value}(r:RelV x u)(q:RelV y u):x=y:=Option.some.inj (r.abs.symm.trans q.abs)
theorem aB.inj:∀ {xs ys:List V}{us:List Value},aB xs us->aB ys us->xs=ys
 | _,_,_,.nil,.nil=>rfl
 | _,_,_,.cons r t,.cons r' t'=>by rw[r.inj r',aB.inj t t']
section
variable {X:Cx}{pins:List (Addr×Obj)}{σ:St}{H:Hp}{s:Shared}{a:Addr}{xs ys:List V}
theorem iU.of{K:W.Frag}(h:H a=some (.lst xs)):iU K H a xs:=.inl (.inl h)
theorem Inv.list(I:Inv X pins σ H s)(h:iU X.K H a xs):∃its:List Value,aB xs its/\PlainL s.heap a its.toArray/\xs.length<=sizeLine:=by
 rcases h with h|⟨o,its,n,hk,hc,hd,hs,hz,r⟩
 ·obtain⟨z,its,n,r,e⟩:=h.ok I.hok
  exact⟨its,r,⟨_,n,e,rfl,rfl,rfl⟩,z⟩
 ·refine⟨its.toList,r,⟨o,n,I.kIn a o hk,hc,hd,by simpa using hs⟩,?_⟩
  have e:=r.length
  simp only[Array.length_toList] at e
  omega
theorem Inv.tuple(I:Inv X pins σ H s)(h:ji X.K H a xs):∃its:List Value,aB xs its/\IsTup s.heap a its.toArray/\xs.length<=sizeLine:=by
 rcases h with h|⟨o,its,n,hk,hc,_,hs,hz,r⟩
 ·obtain⟨z,its,r,p⟩:=h.ok I.hok
  exact⟨its,r,p.1,z⟩
 ·refine⟨its.toList,r,⟨o,I.kIn a o hk,hc,n,by simpa using hs⟩,?_⟩
  have e:=r.length
  simp only[Array.length_toList] at e
  omega
theorem Inv.list_inj(I:Inv X pins σ H s)(h:iU X.K H a xs)(h':iU X.K H a ys):xs=ys:=by
 obtain⟨its,r,⟨o,n,e,_,_,d⟩,_⟩:=I.list h
 obtain⟨its',r',⟨o',n',e',_,_,d'⟩,_⟩:=I.list h'
 rw[e] at e';cases e'
 rw[d] at d'
 injection d' with d1 _
 have:its=its':=by simpa using congrArg Array.toList d1
 subst this
 exact r.inj r'
theorem Inv.tuple_inj(I:Inv X pins σ H s)(h:ji X.K H a xs)(h':ji X.K H a ys):xs=ys:=by
 obtain⟨its,r,⟨o,e,_,n,d⟩,_⟩:=I.tuple h
 obtain⟨its',r',⟨o',e',_,n',d'⟩,_⟩:=I.tuple h'
 rw[e] at e';cases e'
 rw[d] at d'
 injection d' with d1 _
 have:its=its':=by simpa using congrArg Array.toList d1
 subst this
 exact r.inj r'
end
abbrev Cx.wish(X:Cx)(E:Value->Shared->Prop):Cx:={ X with xe:=E }
abbrev Cx.nox(X:Cx):Cx:=X.wish fun _ _=>False
theorem Cx.Ok.wish{X:Cx}(ok:X.Ok)(E:Value->Shared->Prop):(X.wish E).Ok :=
 ⟨ok.mod,ok.kind,ok.glob,ok.blt,ok.above,ok.inj,ok.has,ok.cab,ok.hd,ok.frames,ok.stk,ok.exf,ok.bs,ok.bsz,ok.noex,ok.exfs,ok.funs,ok.frf⟩
theorem Cx.Ok.unwish{X:Cx}{E:Value->Shared->Prop}(ok:(X.wish E).Ok):X.Ok :=
 ⟨ok.mod,ok.kind,ok.glob,ok.blt,ok.above,ok.inj,ok.has,ok.cab,ok.hd,ok.frames,ok.stk,ok.exf,ok.bs,ok.bsz,ok.noex,ok.exfs,ok.funs,ok.frf⟩
section
variable {X:Cx}{pins:List (Addr×Obj)}{σ:St}{H:Hp}{s:Shared}{E:Value->Shared->Prop}
theorem Inv.wish(I:Inv X pins σ H s)(E:Value->Shared->Prop):Inv (X.wish E) pins σ H s:=⟨I.ok.wish E,I.os,I.bare,I.base,I.loc,I.cell,I.free,I.freeC,I.pin,I.hok,I.len⟩
theorem Inv.unwish(I:Inv (X.wish E) pins σ H s):Inv X pins σ H s:=⟨I.ok.unwish,I.os,I.bare,I.base,I.loc,I.cell,I.free,I.freeC,I.pin,I.hok,I.len⟩
theorem SP.unwish{D:Ends}{f:Flow}{s':Shared}(h:SP (X.wish E) pins D f s'):SP X pins D f s':=by
 cases f with
 | next=>obtain⟨σ',H',I,q⟩:=h;exact⟨σ',H',I.unwish,q⟩
 | brk=>obtain⟨σ',H',I,q⟩:=h;exact⟨σ',H',I.unwish,q⟩
 | cont=>obtain⟨σ',H',I,q⟩:=h;exact⟨σ',H',I.unwish,q⟩
 | ret u=>obtain⟨v,σ',H',I,r,q⟩:=h;exact⟨v,σ',H',I.unwish,r,q⟩
theorem zv.nox{st:List Stmt}{t:TS}(h:zv X.nox st t):zv X st t:=fun pins s σ H D I hw =>
 wpAny_mono (h pins s σ H D (I.wish _) hw) (fun _ _ q=>q.unwish) fun _ _ z=>False.elim z
end
section
variable {X:Cx}{st:Stmt}{rest:List Stmt}{t u:TS}{e:Expr}{te:TE}{pos:Pos}
def FT:TS:=fun D σ H=>D.nx σ H
def O9(t u:TS):TS:=fun D σ H=>t { D with nx:=u D } σ H
theorem IT:zv X [] FT:=fun _ _ σ H _ I h=>wpAny_execs_nil ⟨σ,H,I,h⟩
theorem FD(h1:PS X st t)(h2:zv X rest u):zv X (st::rest) (O9 t u):=by
 intro pins s σ H D I h
 refine wpAny_execs_cons (bW (h1 pins s σ H { D with nx:=u D } I h) fun f s1 q=>?_)
 cases f with
 | next =>
  obtain⟨σ',H',I',q⟩:=q
  exact h2 pins s1 σ' H' D I' q
 | ret v=>exact q
 | brk=>exact q
 | cont=>exact q
theorem Ia(h1:PS X st t):zv X [st] t:=by
 intro pins s σ H D I h
 refine wpAny_execs_cons (bW (h1 pins s σ H D I h) fun f s1 q=>?_)
 cases f with
 | next=>exact wpAny_execs_nil q
 | ret v=>exact q
 | brk=>exact q
 | cont=>exact q
theorem HW:PS X (.Pass pos) FT:=fun _ _ σ H _ I h=>wpAny_Pass ⟨σ,H,I,h⟩
theorem Inv.quiet{pins:List (Addr×Obj)}{σ:St}{H:Hp}{s:Shared}(I:Inv X pins σ H s):interactive X.env=false:=by simp[interactive,I.ok.kind]
theorem Lk{x j pos pos'}:PS X (.Expr (.Constant (.str x) j pos) pos') FT:=fun _ s σ H _ I h=>wpAny_Expr (Calls.Constant_str (show SP X _ _ .next { s with toks:=s.toks+1 } from ⟨σ,H,I.tok _,h⟩)) I.quiet
def OG(te:TE):TS:=fun D σ H=>te σ H fun _ H1=>D.nx σ H1
theorem pQ(he:PE X e te)(hs:swapsWith e none pos.line X.env=pure false:=by rfl):PS X (.Expr e pos) (OG te):=by
 intro pins s σ H D I h
 exact wpAny_Expr_any (bW (he pins s σ H _ I h) fun v s1 ⟨x,H1,I1,r1,q1⟩=>⟨σ,H1,I1,q1⟩) I.quiet hs
def PH(te:TE):TS:=fun D σ H=>te σ H D.rt
theorem Lb(he:PE X e te):PS X (.Return (some e) pos) (PH te):=by
 intro pins s σ H D I h
 exact wpAny_Return_some (bW (he pins s σ H _ I h) fun v s1 ⟨x,H1,I1,r1,q1⟩=>⟨x,σ,H1,I1,r1,q1⟩)
def PF(c:TT)(t u:TS):TS:=fun D σ H=>c σ H fun b H1=>if b=true then t D σ H1 else u D σ H1
theorem NW{c:Expr}{a b:List Stmt}{tc:TT}(hc:PT X c tc)(ha:zv X a t)(hb:zv X b u):PS X (.If c a b pos) (PF tc t u):=by
 intro pins s σ H D I h
 refine wpAny_If (bW (hc pins s σ H _ I h) fun d s1 ⟨H1,I1,q1⟩=>?_)
 cases d with
 | true=>exact ha pins s1 σ H1 D I1 q1
 | false=>exact hb pins s1 σ H1 D I1 q1
end
abbrev TG:=V->St->Hp->(St->Hp->Prop)->Prop
abbrev MH:=List V->St->Hp->(St->Hp->Prop)->Prop
def PG(X:Cx)(target:Expr)(t:TG):Prop :=
 ∀ (pins:List (Addr×Obj)) (s:Shared) (σ:St) (H:Hp) (v:V) (u:Value) (Q:St->Hp->Prop),Inv X pins σ H s->RelV v u->t v σ H Q ->
  wpAny (model X.prog X.w) X.A (assign target X.env u) (fun _ s'=>∃σ' H',Inv X pins σ' H' s'/\Q σ' H') X.xe s
def OV(X:Cx)(ts:List Expr)(t:MH):Prop :=
 ∀ (pins:List (Addr×Obj)) (s:Shared) (σ:St) (H:Hp) (vs:List V) (us:List Value) (Q:St->Hp->Prop),Inv X pins σ H s->aB vs us->t vs σ H Q ->
  wpAny (model X.prog X.w) X.A (assignInOrder ((assignEach ts X.env).map (·.2)) us) (fun _ s'=>∃σ' H',Inv X pins σ' H' s'/\Q σ' H') X.xe s
abbrev LA:=V->V->V->Hp->(Hp->Prop)->Prop
def Oz(X:Cx)(t:LA):Prop :=
 ∀ (pins:List (Addr×Obj)) (s:Shared) (σ:St) (H:Hp) (o i v:V) (ov iv u:Value) (Q:Hp->Prop),Inv X pins σ H s->RelV o ov->RelV i iv->RelV v u->t o i v H Q ->
  wpAny (model X.prog X.w) X.A (setItem ov iv u) (fun _ s'=>∃H',Inv X pins σ H' s'/\Q H') X.xe s
section
variable {X:Cx}{pos:Pos}
def xB(i:Nat):TG:=fun v σ H Q=>Q (σ.set i (some v)) H
theorem gc{i:Nat}{x:Str}(hN:X.N.Nodup)(hi:X.N[i]?=some x)(hx:Loc X.env.scope x)(hf:X.fn x=true\/X.env.scope.names.lookup x=some .local:=by first|exact .inl rfl|exact .inr rfl|assumption):PG X (.Name x pos) (xB i):=by
 intro pins s σ H v u Q I r h
 exact wpAny_assign_Name (xw I hN hi hx r (fun s' I'=>⟨_,H,I',h⟩) hf)
def O8:MH:=fun vs σ H Q=>vs=[]/\Q σ H
def Ov(t:TG)(u:MH):MH:=fun vs σ H Q=>∃v r,vs=v::r/\t v σ H fun σ' H'=>u r σ' H' Q
theorem vM:OV X [] O8:=by
 intro pins s σ H vs us Q I r h
 obtain⟨e,h⟩:=h
 subst e
 cases r
 exact assignInOrder_nil ⟨σ,H,I,h⟩
theorem gU{e:Expr}{es:List Expr}{t:TG}{u:MH}(h1:PG X e t)(h2:OV X es u)
  (hs:(assignEach (e::es) X.env).map (·.2)=assign e X.env::(assignEach es X.env).map (·.2):=by rfl):OV X (e::es) (Ov t u):=by
 intro pins s σ H vs us Q I r h
 obtain⟨v,vr,e1,h⟩:=h
 subst e1
 cases r with
 | cons r rr =>
  rw[hs]
  refine assignInOrder_cons (bW (h1 pins s σ H _ _ _ I r h) fun _ s1 ⟨σ1,H1,I1,q1⟩=>?_)
  exact h2 pins s1 σ1 H1 _ _ Q I1 rr q1
def P4(K:W.Frag)(n:Nat)(t:MH):TG:=fun v σ H Q=>∃a xs,v=.ref a/\ji K H a xs/\xs.length=n/\t xs σ H Q
theorem Aa{es:List Expr}{k:Nat}{t:MH}{n:Nat}(hc:X.calm=true)(h:OV X es t)
  (hn:(assignEach es X.env).length=n:=by rfl) (hst:(assignEach es X.env).findIdx? (·.1)=none:=by rfl):PG X (.Tuple es k pos) (P4 X.K n t):=by
 intro pins s σ H v u Q I r hw
 obtain⟨a,xs,e1,hq,hl,hw⟩:=hw
 subst e1
 cases r
 obtain⟨its,rv,ht,hz⟩:=I.tuple hq
 refine assign_Tuple_tuple (I.ok.hd hc) ht (by simp[hn,<- hl,rv.length]) hst fun h' hx=>?_
 have I1:Inv X pins σ H { s with heap:=h' }:=I.kept (t':=s.toks) fun b o e=>hx b o (Nat.ne_of_lt (zZ e)) e
 exact h pins _ σ H xs _ Q I1 (by simpa using rv) hw
def iD(to ti:TE)(t:LA):TG:=fun v σ H Q=>to σ H fun o H1=>ti σ H1 fun i H2=>t o i v H2 fun H3=>Q σ H3
theorem Mz{o i:Expr}{to ti:TE}{t:LA}(ho:PE X o to)(hi:PE X i ti)(hs:Oz X t)
  (ha:∀v,assign (.Subscript o i pos) X.env v=(do
   let ov <- holding [v] (eval o X.env)
   let iv <- holding [v,ov] (eval i X.env)
   standAt pos
   holding [v,ov,iv] (setItem ov iv v)
   release [v,ov,iv] []):=by intro _;rfl):PG X (.Subscript o i pos) (iD to ti t):=by
 intro pins s σ H v u Q I r h
 rw[ha]
 refine zW (wpAny_holding (bW (ho pins s σ H _ I h) fun ov s1 ⟨x,H1,I1,r1,q1⟩=>?_))
 refine zW (wpAny_holding (bW (hi pins s1 σ H1 _ I1 q1) fun iv s2 ⟨y,H2,I2,r2,q2⟩=>?_))
 refine zW (wpAny_standAt (zW (wpAny_holding (bW (hs pins s2 σ H2 x y v ov iv u _ I2 r1 r2 r q2) fun _ s3 ⟨H3,I3,q3⟩=>?_))))
 exact wpAny_release ⟨σ,H3,I3,q3⟩
def GC(te:TE)(g:TG):TS:=fun D σ H=>te σ H fun x H1=>g x σ H1 D.nx
theorem Lu{tg e:Expr}{te:TE}{g:TG}(he:PE X e te)(hg:PG X tg g)(hs:swapsWithSole [tg] e pos.line X.env=pure false:=by rfl)(hw:swappedStores [tg] e X.env=pure none:=by rfl)
  (h1:(assignEach [tg] X.env).map (·.2)=[assign tg X.env]:=by rfl):PS X (.Assign [tg] e pos) (GC te g):=by
 intro pins s σ H D I h
 refine wpAny_Assign_stores (bW (he pins s σ H _ I h) fun v s1 ⟨x,H1,I1,r1,q1⟩=>?_) hs hw
 rw[h1]
 exact bW (hg pins s1 σ H1 x v _ I1 r1 q1) fun _ s2 q=>q
theorem E5{i:Nat}{x:Str}{e:Expr}{te:TE}{pos':Pos}(hN:X.N.Nodup)(hi:X.N[i]?=some x)(hx:Loc X.env.scope x)(he:PE X e te)(hs:swapsWith e (some (.Name x pos')) pos.line X.env=pure false:=by rfl)(hf:X.fn x=true\/X.env.scope.names.lookup x=some .local:=by first|exact .inl rfl|exact .inr rfl|assumption) :
  PS X (.Assign [.Name x pos'] e pos) (GC te (xB i)):=by
 intro pins s σ H D I h
 refine wpAny_Assign_Name (bW (he pins s σ H _ I h) fun v s1 ⟨y,H1,I1,r1,q1⟩=>?_) hs
 exact xw I1 hN hi hx r1 (fun s2 I2=>⟨_,H1,I2,q1⟩) hf
end
section
variable {X:Cx}{pos:Pos}
def L6(c:TT)(tb:TS):TS:=fun D σ H=>∃W:Nat->St->Hp->Prop,(∃m,W m σ H)/\∀m σ H,W m σ H ->
 c σ H fun b H1=>if b=true then ∃N:St->Hp->Prop,(∀σ' H',N σ' H'->∃m',m' < m/\W m' σ' H')/\tb { D with nx:=N,ct:=N,bk:=D.nx } σ H1 else D.nx σ H1
theorem Ew{c:Expr}{body:List Stmt}{tc:TT}{tb:TS}(hp:PassesOwn (model X.prog X.w) X.A X.env X.xe)(hc:PT X c tc)(hb:zv X body tb):PS X (.While c body [] pos) (L6 tc tb):=by
 intro pins s σ H D I h
 obtain⟨W,⟨m0,w0⟩,turn⟩:=h
 refine wpAny_While (codeAny_whileLoop (fun n s'=>∃σ' H',Inv X pins σ' H' s'/\W n σ' H') ?_ m0 ⟨σ,H,I,w0⟩)
 rintro n s1 ⟨σ1,H1,I1,w1⟩
 refine wpAny_passesOwn hp (bW (hc pins s1 σ1 H1 _ I1 (turn n σ1 H1 w1)) fun b s2 ⟨H2,I2,q2⟩=>?_)
 cases b with
 | true =>
  obtain⟨N,hN,q2⟩:=q2
  rw[if_pos rfl]
  refine wpAny_passesOwn hp (bW (hb pins s2 σ1 H2 _ I2 q2) fun f s3 q3=>?_)
  cases f with
  | next =>
   obtain⟨σ3,H3,I3,n3⟩:=q3
   obtain⟨m',hm,w3⟩:=hN σ3 H3 n3
   exact⟨m',hm,σ3,H3,I3,w3⟩
  | cont =>
   obtain⟨σ3,H3,I3,n3⟩:=q3
   obtain⟨m',hm,w3⟩:=hN σ3 H3 n3
   exact⟨m',hm,σ3,H3,I3,w3⟩
  | brk=>exact q3
  | ret v=>exact q3
 | false =>
  rw[if_neg Bool.false_ne_true]
  exact wpAny_execs_nil ⟨σ1,H2,I2,q2⟩
end
structure It where
 go:Nat->Hp->Prop
 yld:Nat->Hp->V->Hp->Prop
 stop:Nat->Hp->Prop
def bJ(X:Cx)(pins:List (Addr×Obj))(H:Hp)(b:Addr):Prop :=
 H b=none/\b≠X.env.locals/\b∉X.fs/\(b∈X.ex\/X.s₀.heap.objs.size<=b)/\(∀x c,X.env.cells.lookup x=some c->c≠b)/\∀p∈X.pn++pins,p.1≠b
theorem Inv.fpOk{X:Cx}{pins:List (Addr×Obj)}{σ:St}{H H':Hp}{s:Shared}{b:Addr}(I:Inv X pins σ H s)(hb:s.heap.objs.size<=b)(hn:H' b=none):bJ X pins H' b:=by
 refine⟨hn,Nat.ne_of_gt (zP I.lt hb),I.nofs hb,.inr (yE I.sz hb),fun x c e z=>?_,fun p hp z=>?_⟩
 ·obtain⟨v,q⟩:=I.cell x c e
  exact absurd (zP q.lt (by rw[z];exact hb)) (Nat.lt_irrefl _)
 ·exact absurd (zP (zZ (I.pin p hp).1) (by rw[z];exact hb)) (Nat.lt_irrefl _)
structure Turn(P:Program)(w:World)(K:W.Frag)(tg:Expr)(J:It)(fp:List Addr)(it:Addr)(tn:Nat->Heap->Prop):Prop where
 mem:it∈fp
 obj:∀i h,tn i h->∀b∈fp,∃o,h.get? b=some o/\∀v,o.data≠.cell v
 keep:∀i h h',tn i h->(∀b∈fp,∀o,h.get? b=some o->h'.get? b=some o)->tn i h'
 item:∀ (X:Cx),X.prog=P->X.w=w->X.K=K->X.calm=true->∀ (i:Nat) (pins:List (Addr×Obj)) (s:Shared) (σ:St) (H:Hp) (E:Value->Shared->Prop),Inv X pins σ H s->(∀b∈fp,bJ X pins H b)->tn i s.heap->J.go i H ->
  wpAny (model P w) X.A (pyNext (.ref it)) (fun r s1=>∃u,r=some u /\
   wpAny (model P w) X.A (letOwnedTupleGo tg (.ref it) u) (fun _ s2=>∃x H',Inv X pins σ H' s2/\RelV x u/\J.yld i H x H'/\tn (i+1) s2.heap/\∀b∈fp,H' b=none) E s1) E s
 done:∀ (X:Cx),X.prog=P->X.w=w->X.K=K->X.calm=true->∀ (i:Nat) (pins:List (Addr×Obj)) (s:Shared) (σ:St) (H:Hp) (E:Value->Shared->Prop),Inv X pins σ H s->(∀b∈fp,bJ X pins H b)->tn i s.heap->J.stop i H ->
  wpAny (model P w) X.A (pyNext (.ref it)) (fun r s1=>r=none/\Inv X pins σ H s1) E s
 self:∀ (A:Around) (i:Nat) (s:Shared) (Q:Value->Shared->Prop) (E:Value->Shared->Prop),tn i s.heap->Q (.ref it) s->wpAny (model P w) A (pyIter (.ref it)) Q E s
abbrev TI:=St->Hp->(It->Hp->Prop)->Prop
def Qk(X:Cx)(pins:List (Addr×Obj))(σ:St)(tg:Expr)(R:It->Hp->Prop)(itv:Value)(s2:Shared):Prop :=
 ∃ (it:Addr) (fp:List Addr) (tn:Nat->Heap->Prop) (J:It) (H':Hp),itv=.ref it/\Inv X pins σ H' s2/\Turn X.prog X.w X.K tg J fp it tn/\tn 0 s2.heap/\(∀b∈fp,bJ X pins H' b)/\R J H'
def PI(X:Cx)(tg iter:Expr)(wi:TI):Prop :=
 ∀ (pins:List (Addr×Obj)) (s:Shared) (σ:St) (H:Hp) (R:It->Hp->Prop),Inv X pins σ H s->wi σ H R ->
  wpAny (model X.prog X.w) X.A (eval iter X.env) (fun v s1=>wpAny (model X.prog X.w) X.A (pyIter v) (Qk X pins σ tg R) X.xe s1) X.xe s
theorem Ff{M:Model}{A:Around}{E:Value->Shared->Prop}{s:Shared}{tg:Expr}{it:Addr}{u:Value}{o:Obj}{n:String}{vs:Array Value}{Q:Unit->Shared->Prop}(ho:s.heap.get? it=some o)(hc:o.cls=.type n)(hd:o.data=.fields vs)
  (hn:["enumerate","zip","dict_itemiterator","dict_reverseitemiterator","odict_iterator","itertools.zip_longest","itertools.pairwise"].contains n=false) (hQ:Q () s):wpAny M A (letOwnedTupleGo tg (.ref it) u) Q E s:=by
 unfold letOwnedTupleGo
 cases tg<;>first
  | exact zX hQ
  | (cases u<;>first
    | exact zX hQ
    | (refine zW (wpAny_load ho ?_)
       rw[hc,hd]
       show wpAny M A (if (["enumerate","zip","dict_itemiterator","dict_reverseitemiterator","odict_iterator","itertools.zip_longest","itertools.pairwise"].contains n&&vs[0]? == some (rawInt _))=true then _ else _) Q E s
       rw[if_neg (by intro h;rw[hn,Bool.false_and] at h;cases h)]
       exact zX hQ))
def Pz(K:W.Frag)(a:Addr):It :=
 ⟨fun i H=>∃xs x,iU K H a xs/\xs[i]?=some x,fun i H x H'=>H'=H/\∀xs,iU K H a xs->xs[i]?=some x,fun i H=>∃xs,iU K H a xs/\xs.length<=i⟩
def Pu(K:W.Frag)(a:Addr):It :=
 ⟨fun i H=>∃xs x,ji K H a xs/\xs[i]?=some x,fun i H x H'=>H'=H/\∀xs,ji K H a xs->xs[i]?=some x,fun i H=>∃xs,ji K H a xs/\xs.length<=i⟩
def ON(lo:Int)(n:Nat):It:=⟨fun i _=>i < n,fun i H x H'=>H'=H/\x=.int (lo+i),fun i _=>n<=i⟩
theorem DY{P:Program}{w:World}{K:W.Frag}{tg:Expr}(a it:Addr):Turn P w K tg (Pz K a) [it] it (fun i h=>h.IsListIter it a i) where
 mem:=by simp
 obj:=fun i h st b hb=>by
  have e:b=it:=by simpa using hb
  subst e
  obtain⟨o,e,c,d⟩:=st
  exact⟨o,e,fun v z=>by rw[d] at z;cases z⟩
 keep:=fun i h h' st k=>st.at fun o e=>k it (by simp) o e
 item:=by
  intro X hP hw hK hc i pins s σ H E I hf st hg
  subst hP hw hK
  obtain⟨xs,x,hq,hx⟩:=hg
  obtain⟨its,rv,p,hz⟩:=I.list hq
  obtain⟨u,hu,ru⟩:=rv.get hx
  obtain⟨f0,f1,f2,f3,f4,f5⟩:=hf it (by simp)
  refine wpAny_pyNext_list_item st p.isList (x:=u) (by simpa using hu) fun h' st' sb=>?_
  have I1:Inv X pins σ H { s with heap:=h' }:=I.turned (t':=s.toks) (fun b o hb e=>(sb.2 b hb).trans e) f0 f1 f3 f4 f5
  obtain⟨o,e,c,d⟩:=id st'
  exact⟨u,rfl,Ff (s:={ s with heap:=h' }) e c d (by decide) ⟨x,H,I1,ru,⟨rfl,fun ys hy=>by rw[I.list_inj hy hq];exact hx⟩,st',fun b hb=>(hf b hb).1⟩⟩
 done:=by
  intro X hP hw hK hc i pins s σ H E I hf st hg
  subst hP hw hK
  obtain⟨xs,hq,hx⟩:=hg
  obtain⟨its,rv,p,hz⟩:=I.list hq
  obtain⟨f0,f1,f2,f3,f4,f5⟩:=hf it (by simp)
  have hl:=rv.length
  exact wpAny_pyNext_list_end (I.ok.hd hc) st p.isList (by simp;omega) fun h' eb=>⟨rfl,I.turned (t':=s.toks) (fun b o hb e=>eb b o hb e) f0 f1 f3 f4 f5⟩
 self:=fun _ _ _ _ _ st h=>wpAny_pyIter_listiter st h
theorem A0{P:Program}{w:World}{K:W.Frag}{tg:Expr}(a it:Addr):Turn P w K tg (Pu K a) [it] it (fun i h=>h.IsTupleIter it a i) where
 mem:=by simp
 obj:=fun i h st b hb=>by
  have e:b=it:=by simpa using hb
  subst e
  obtain⟨o,e,c,d⟩:=st
  exact⟨o,e,fun v z=>by rw[d] at z;cases z⟩
 keep:=fun i h h' st k=>st.at fun o e=>k it (by simp) o e
 item:=by
  intro X hP hw hK hc i pins s σ H E I hf st hg
  subst hP hw hK
  obtain⟨xs,x,hq,hx⟩:=hg
  obtain⟨its,rv,p,hz⟩:=I.tuple hq
  obtain⟨u,hu,ru⟩:=rv.get hx
  obtain⟨f0,f1,f2,f3,f4,f5⟩:=hf it (by simp)
  refine wpAny_pyNext_tuple_item st (show s.heap.IsTuple a its.toArray from p) (x:=u) (by simpa using hu) fun h' st' sb=>?_
  have I1:Inv X pins σ H { s with heap:=h' }:=I.turned (t':=s.toks) (fun b o hb e=>(sb.2 b hb).trans e) f0 f1 f3 f4 f5
  obtain⟨o,e,c,d⟩:=id st'
  exact⟨u,rfl,Ff (s:={ s with heap:=h' }) e c d (by decide) ⟨x,H,I1,ru,⟨rfl,fun ys hy=>by rw[I.tuple_inj hy hq];exact hx⟩,st',fun b hb=>(hf b hb).1⟩⟩
 done:=by
  intro X hP hw hK hc i pins s σ H E I hf st hg
  subst hP hw hK
  obtain⟨xs,hq,hx⟩:=hg
  obtain⟨its,rv,p,hz⟩:=I.tuple hq
  obtain⟨f0,f1,f2,f3,f4,f5⟩:=hf it (by simp)
  have hl:=rv.length
  exact wpAny_pyNext_tuple_end (I.ok.hd hc) st (show s.heap.IsTuple a its.toArray from p) (by simp;omega) fun h' eb=>⟨rfl,I.turned (t':=s.toks) (fun b o hb e=>eb b o hb e) f0 f1 f3 f4 f5⟩
 self:=fun _ _ _ _ _ st h=>wpAny_pyIter_tupleiter st h
theorem AG{P:Program}{w:World}{K:W.Frag}{tg:Expr}(it:Addr)(lo:Int)(n:Nat):Turn P w K tg (ON lo n) [it] it (fun i h=>IsRangeIter h it (lo+(i:Nat) * 1) ((n:Int) - (i:Nat)) 1) where
 mem:=by simp
 obj:=fun i h st b hb=>by
  have e:b=it:=by simpa using hb
  subst e
  exact⟨_,st,fun v z=>by
   have z':Data.fields _=Data.cell v:=z
   cases z'⟩
 keep:=fun i h h' st k=>k it (by simp) _ st
 item:=by
  intro X hP hw hK hc i pins s σ H E I hf st hg
  subst hP hw hK
  obtain⟨f0,f1,f2,f3,f4,f5⟩:=hf it (by simp)
  have W:=Walks.range (prog:=X.prog) (w:=X.w) (I.ok.hd hc) it lo 1 n
  refine W.item i s _ _ hg st fun v h' tk hv st' kk=>?_
  obtain⟨t,rfl⟩:=hv
  have I1:Inv X pins σ H { s with heap:=h',toks:=tk }:=I.turned (fun b o hb e=>kk b o (by simpa using hb) e) f0 f1 f3 f4 f5
  refine⟨_,rfl,Ff (s:={ s with heap:=h',toks:=tk }) (n:="range_iterator") st' rfl rfl (by decide) ⟨.int (lo+i),H,I1,⟨t,?_⟩,⟨rfl,rfl⟩,st',fun b hb=>(hf b hb).1⟩⟩
  rw[Int.mul_one]
 done:=by
  intro X hP hw hK hc i pins s σ H E I hf st hg
  subst hP hw hK
  obtain⟨f0,f1,f2,f3,f4,f5⟩:=hf it (by simp)
  exact wpAny_pyNext_range_end (I.ok.hd hc) st (by have:n<=i:=hg;omega) fun h' eb=>⟨rfl,I.turned (t':=s.toks) (fun b o hb e=>eb b o hb e) f0 f1 f3 f4 f5⟩
 self:=fun _ _ _ _ _ st h=>wpAny_pyIter_rangeiter st h
section
variable {X:Cx}{tg:Expr}
theorem Ho{pins:List (Addr×Obj)}{σ:St}{H:Hp}{s:Shared}{R:It->Hp->Prop}{E:Value->Shared->Prop}{lo hi:Int}{t u v:Tok}{tk:Nat}(I:Inv X pins σ H s)(h1:-(2 ^ 62)<=lo)(h2:lo < 2 ^ 62)(h3:-(2 ^ 62)<=hi)(h4:hi < 2 ^ 62)
  (q:R (ON lo (hi - lo).toNat) H):wpAny (model X.prog X.w) X.A (pyIter (.ref s.heap.objs.size)) (Qk X pins σ tg R) E { s with heap:=s.heap.push { cls:=.type "range",data:=.fields #[.int lo t,.int hi u,.int 1 v] },toks:=tk }:=by
 refine wpAny_pyIter_range (IsRange.new ..) (small_one h1 h2 h3 h4) ?_
 have I1:Inv X pins σ H { s with heap:=s.heap.push { cls:=.type "range",data:=.fields #[.int lo t,.int hi u,.int 1 v] },toks:=tk }:=I.kept fun b o e=>zV _ e
 refine⟨(s.heap.push { cls:=.type "range",data:=.fields #[.int lo t,.int hi u,.int 1 v] }).objs.size,[(s.heap.push { cls:=.type "range",data:=.fields #[.int lo t,.int hi u,.int 1 v] }).objs.size],_,_,H,rfl,
  I1.kept (t':=tk) fun b o e=>zV _ e,AG _ lo (hi - lo).toNat,?_,fun b hb=>?_,q⟩
 ·have e1:lo+((0:Nat):Int) * 1=lo:=by simp
  have e2:(((hi - lo).toNat:Nat):Int) - ((0:Nat):Int)=Builtin.Range.rangeSize lo hi 1:=by rw[rangeSize_one];split<;>omega
  show IsRangeIter _ _ (lo+((0:Nat):Int) * 1) ((((hi - lo).toNat:Nat):Int) - ((0:Nat):Int)) 1
  rw[e1,e2]
  exact zY _ rfl
 ·have e:b=(s.heap.push { cls:=.type "range",data:=.fields #[.int lo t,.int hi u,.int 1 v] }).objs.size:=by simpa using hb
  subst e
  exact I1.fpOk (Nat.le_refl _) (I1.hok.fresh (Nat.le_refl _))
def OC(ta:TA):TI:=fun σ H R=>ta σ H fun vs H1=>∃j:Int,vs=[.int j]/\-(2 ^ 62)<=j/\j < 2 ^ 62/\R (ON 0 j.toNat) H1
theorem CT{a:Expr}{ta:TA}{p pos:Pos}(hg:Gl X "range")(hm:X.mg "range"=none)(ha:PA X [a] ta)(hs:starEach [a] X.env=[(false,eval a X.env)]:=by rfl):PI X tg (.Call (.Name "range" p) [a] [] pos) (OC ta):=by
 intro pins s σ H R I h
 refine Call_ (iF I hg hm boot_range (PyProof.Rows.callWith_type1 (bW (ha pos pins s σ H _ I h) fun us s1 ⟨vs,H1,I1,r1,q1⟩=>?_) hs rfl))
 obtain⟨j,e,q1,q2,q⟩:=q1
 subst e
 cases r1 with
 | cons r rr =>
  cases rr
  obtain⟨t,rfl⟩:=r
  exact call_range_1 (Ho I1 (by omega) (by omega) q1 q2 (by simpa using q))
def PX(wi:TI)(g:TG)(tb:TS):TS:=fun D σ H=>wi σ H fun J H1=>∃W:Nat->Nat->St->Hp->Prop,(∃m,W 0 m σ H1)/\∀i m σ H,W i m σ H ->
 (J.stop i H/\D.nx σ H)\/(J.go i H/\∃N:St->Hp->Prop,(∀σ' H',N σ' H'->∃m',m' < m/\W (i+1) m' σ' H')/\∀x H',J.yld i H x H'->g x σ H' fun σ2 H2=>tb { D with nx:=N,ct:=N,bk:=D.nx } σ2 H2)
def ox(fp:List Addr)(h:Heap):List (Addr×Obj):=fp.filterMap fun b=>(h.get? b).map fun o=>(b,o)
theorem cZ{fp:List Addr}{h:Heap}{b:Addr}{o:Obj}(hb:b∈fp)(e:h.get? b=some o):(b,o)∈ox fp h:=List.mem_filterMap.mpr ⟨b,hb,by rw[e];rfl⟩
theorem DZ{fp:List Addr}{h:Heap}{p:Addr×Obj}(hp:p∈ox fp h):p.1∈fp/\h.get? p.1=some p.2:=by
 obtain⟨b,hb,e⟩:=List.mem_filterMap.mp hp
 cases q:h.get? b with
 | none=>rw[q] at e;cases e
 | some o =>
  rw[q] at e
  have e':(b,o)=p:=Option.some.inj e
  subst e'
  exact⟨hb,q⟩
theorem Inv.pinned{pins:List (Addr×Obj)}{σ:St}{H:Hp}{s:Shared}{fp:List Addr}(I:Inv X pins σ H s)(hf:∀b∈fp,bJ X pins H b)(ho:∀b∈fp,∃o,s.heap.get? b=some o/\∀v,o.data≠.cell v):Inv X (pins++ox fp s.heap) σ H s :=
 I.pins_of fun p hp=>(List.mem_append.mp hp).elim (fun z=>I.pin p (yF _ z)) fun z=>by
  obtain⟨hb,e⟩:=DZ z
  obtain⟨f0,f1,f2,_⟩:=hf p.1 hb
  obtain⟨o,e',d⟩:=ho p.1 hb
  rw[e] at e';cases e'
  exact⟨e,f0,f1,f2,d⟩
theorem Inv.unpinned{pins pl:List (Addr×Obj)}{σ:St}{H:Hp}{s:Shared}(I:Inv X (pins++pl) σ H s):Inv X pins σ H s:=I.pins_of fun p hp=>I.pin p (yF _ (List.mem_append_left _ hp))
theorem Mi{iter:Expr}{body:List Stmt}{wi:TI}{g:TG}{tb:TS}{pos:Pos}(hp:PassesOwn (model X.prog X.w) X.A X.env X.xe)(hc:X.calm=true)(hi:PI X tg iter wi)(hg:PG X tg g)(hb:zv X body tb)
  (hs:∀x,foldedSetIterable iter X.env x=pure x:=by intro _;rfl):PS X (.For tg iter body [] pos) (PX wi g tb):=by
 intro pins s σ H D I h
 refine wpAny_For (bW (hi pins s σ H _ I h) fun v s1 h1=>bW h1 fun itv s2 h2=>?_) hs
 obtain⟨it,fp,tn,J,H2,e,I2,T,st2,f2,W,⟨m0,w0⟩,turn⟩:=h2
 subst e
 have stat:∀ {H':Hp},(∀b∈fp,H' b=none)->∀b∈fp,bJ X pins H' b:=fun hn b hb=>⟨hn b hb,(f2 b hb).2⟩
 refine codeAny_forLoop_any (fun n s'=>∃i σ' H',Inv X pins σ' H' s'/\tn i s'.heap/\(∀b∈fp,H' b=none)/\W i n σ' H') ?_ m0 ⟨0,σ,H2,I2,st2,fun b hb=>(f2 b hb).1,w0⟩
 rintro n s3 ⟨i,σ3,H3,I3,st3,fr3,w3⟩
 rcases turn i n σ3 H3 w3 with ⟨stop,qn⟩|⟨go,N,hN,step⟩
 ·refine wpAny_passesOwn hp (bW (T.done X rfl rfl rfl hc i pins s3 σ3 H3 X.xe I3 (stat fr3) st3 stop) fun r s4 ⟨hr,I4⟩=>?_)
  subst hr
  exact wpAny_execs_nil ⟨σ3,H3,I4,qn⟩
 ·refine wpAny_passesOwn hp (bW (T.item X rfl rfl rfl hc i pins s3 σ3 H3 X.xe I3 (stat fr3) st3 go) fun r s4 ⟨u,hr,h4⟩=>?_)
  subst hr
  refine wpAny_passesOwn hp (bW h4 fun _ s5 ⟨x,H5,I5,r5,y5,st5,fr5⟩=>?_)
  have I5':=I5.pinned (stat fr5) (T.obj _ _ st5)
  refine wpAny_passesOwn hp (bW (hg _ s5 σ3 H5 x u _ I5' r5 (step x H5 y5)) fun _ s6 ⟨σ6,H6,I6,q6⟩=>?_)
  refine wpAny_passesOwn hp (bW (hb _ s6 σ6 H6 _ I6 q6) fun f s7 q7=>?_)
  have again:∀ {σ7:St}{H7:Hp},Inv X (pins++ox fp s5.heap) σ7 H7 s7->N σ7 H7->∃m,m < n/\∃i σ' H',Inv X pins σ' H' s7/\tn i s7.heap/\(∀b∈fp,H' b=none)/\W i m σ' H':=fun {σ7 H7} I7 n7=>by
   obtain⟨m',hm,w7⟩:=hN σ7 H7 n7
   refine⟨m',hm,i+1,σ7,H7,I7.unpinned,T.keep _ _ _ st5 fun b hb o e=>(I7.pin (b,o) (yF _ (yF _ (cZ hb e)))).1,fun b hb=>?_,w7⟩
   obtain⟨o,e,d⟩:=T.obj _ _ st5 b hb
   exact (I7.pin (b,o) (yF _ (yF _ (cZ hb e)))).2.1
  cases f with
  | next=>obtain⟨σ7,H7,I7,n7⟩:=q7;exact again I7 n7
  | cont=>obtain⟨σ7,H7,I7,n7⟩:=q7;exact again I7 n7
  | brk=>obtain⟨σ7,H7,I7,q7⟩:=q7;exact⟨σ7,H7,I7.unpinned,q7⟩
  | ret v=>obtain⟨x7,σ7,H7,I7,r7,q7⟩:=q7;exact⟨x7,σ7,H7,I7.unpinned,r7,q7⟩
end
abbrev R2:=V->V->Hp->VK->Prop
def i4(X:Cx)(f:Value->Value->Sem Value)(r:R2):Prop :=
 ∀ (pins:List (Addr×Obj)) (s:Shared) (σ:St) (H:Hp) (x y:V) (v u:Value) (Q:VK),Inv X pins σ H s->RelV x v->RelV y u->r x y H Q ->
  wpAny (model X.prog X.w) X.A (f v u) (EP X pins σ Q) X.xe s
def PU(X:Cx)(f:Value->Sem Value)(r:V->Hp->VK->Prop):Prop :=
 ∀ (pins:List (Addr×Obj)) (s:Shared) (σ:St) (H:Hp) (x:V) (v:Value) (Q:VK),Inv X pins σ H s->RelV x v->r x H Q ->
  wpAny (model X.prog X.w) X.A (f v) (EP X pins σ Q) X.xe s
def eL(X:Cx)(f:Value)(r:List V->Hp->VK->Prop):Prop :=
 ∀ (pins:List (Addr×Obj)) (s:Shared) (σ:St) (H:Hp) (xs:List V) (us:List Value) (Q:VK),Inv X pins σ H s->aB xs us->r xs H Q ->
  wpAny (model X.prog X.w) X.A (call f us) (EP X pins σ Q) X.xe s
def N8(r:R2)(ta tb:TE):TE:=fun σ H Q=>ta σ H fun x H1=>tb σ H1 fun y H2=>r x y H2 Q
def QA(r:V->Hp->VK->Prop)(ta:TE):TE:=fun σ H Q=>ta σ H fun x H1=>r x H1 Q
def rI(C:Int->Int->Prop)(g:Int->Int->V):R2:=fun x y H Q=>∃i j,x=.int i/\y=.int j/\C i j/\Q (g i j) H
def HK(g:Int->Int->V):R2:=fun x y H Q=>∃i j,x=.int i/\y=.int j/\Q (g i j) H
def rU(g:Int->V):V->Hp->VK->Prop:=fun x H Q=>∃i,x=.int i/\Q (g i) H
section
variable {X:Cx}{a b c:Expr}{ta tb tc:TE}{pos:Pos}
theorem MJ(ha:PE X a ta)(hb:PE X b tb){pins:List (Addr×Obj)}{s:Shared}{σ:St}{H:Hp}{R:V->V->Hp->Prop}(I:Inv X pins σ H s)
  (h:ta σ H fun x H1=>tb σ H1 fun y H2=>R x y H2) {Q:Value->Shared->Prop}{f:Value->Value->Sem Value}
  (hf:∀v u s2 x y H2,Inv X pins σ H2 s2->RelV x v->RelV y u->R x y H2->wpAny (model X.prog X.w) X.A (f v u) Q X.xe s2) :
  wpAny (model X.prog X.w) X.A (eval a X.env) (fun v s₁=>wpAny (model X.prog X.w) X.A (eval b X.env) (fun u s₂=>wpAny (model X.prog X.w) X.A (f v u) Q X.xe s₂) X.xe s₁) X.xe s:=by
 refine bW (ha pins s σ H _ I h) fun v s1 ⟨x,H1,I1,r1,q1⟩=>?_
 refine bW (hb pins s1 σ H1 _ I1 q1) fun u s2 ⟨y,H2,I2,r2,q2⟩=>?_
 exact hf v u s2 x y H2 I2 r1 r2 q2
theorem Ky{op:Operator}{r:R2}(ho:i4 X (binaryOp op) r)(ha:PE X a ta)(hb:PE X b tb):PE X (.BinOp a op b pos) (N8 r ta tb):=by
 intro pins s σ H Q I h
 exact wpAny_BinOp (MJ ha hb I h fun v u s2 x y H2 I2 rx ry q=>ho pins s2 σ H2 x y v u Q I2 rx ry q)
theorem Kx{op:UnaryOp}{r:V->Hp->VK->Prop}(ho:PU X (unaryOp op) r)(ha:PE X a ta):PE X (.UnaryOp op a pos) (QA r ta):=by
 intro pins s σ H Q I h
 exact UnaryOp_ (bW (ha pins s σ H _ I h) fun v s1 ⟨x,H1,I1,r1,q1⟩=>ho pins s1 σ H1 x v Q I1 r1 q1)
theorem Pt{f:Value->Value->Sem Value}{C:Int->Int->Prop}{g:Int->Int->Int}
  (rule:∀ (i j:Int) (t u:Tok) (s:Shared) (Q:Value->Shared->Prop) (E:Value->Shared->Prop),C i j->Q (.int (g i j) s.toks) { s with toks:=s.toks+1 }->wpAny (model X.prog X.w) X.A (f (.int i t) (.int j u)) Q E s) :
  i4 X f (rI C fun i j=>.int (g i j)):=by
 intro pins s σ H x y v u Q I rx ry h
 obtain⟨i,j,rfl,rfl,hc,q⟩:=h
 obtain⟨t,rfl⟩:=rx
 obtain⟨t',rfl⟩:=ry
 exact rule i j t t' s _ _ hc ⟨.int (g i j),H,I.tok _,⟨_,rfl⟩,q⟩
theorem Ot{f:Value->Value->Sem Value}{g:Int->Int->Int}
  (rule:∀ (i j:Int) (t u:Tok) (s:Shared) (Q:Value->Shared->Prop) (E:Value->Shared->Prop),Q (.int (g i j) s.toks) { s with toks:=s.toks+1 }->wpAny (model X.prog X.w) X.A (f (.int i t) (.int j u)) Q E s) :
  i4 X f (HK fun i j=>.int (g i j)):=by
 intro pins s σ H x y v u Q I rx ry h
 obtain⟨i,j,rfl,rfl,q⟩:=h
 obtain⟨t,rfl⟩:=rx
 obtain⟨t',rfl⟩:=ry
 exact rule i j t t' s _ _ ⟨.int (g i j),H,I.tok _,⟨_,rfl⟩,q⟩
theorem Ja{f:Value->Value->Sem Value}{g:Int->Int->Bool}
  (rule:∀ (i j:Int) (t u:Tok) (s:Shared) (Q:Value->Shared->Prop) (E:Value->Shared->Prop),Q (.bool (g i j)) s->wpAny (model X.prog X.w) X.A (f (.int i t) (.int j u)) Q E s) :
  i4 X f (HK fun i j=>.bl (g i j)):=by
 intro pins s σ H x y v u Q I rx ry h
 obtain⟨i,j,rfl,rfl,q⟩:=h
 obtain⟨t,rfl⟩:=rx
 obtain⟨t',rfl⟩:=ry
 exact rule i j t t' s _ _ ⟨.bl (g i j),H,I,rfl,q⟩
def JP(i j:Int):Prop:=0 < j/\j < 1073741824
def vx(i j:Int):Prop:=(-(2 ^ 64) < i/\i < 2 ^ 64)\/(-(2 ^ 64) < j/\j < 2 ^ 64)
theorem vx.ok{i j:Int}(h:vx i j):IntMulOk i j:=by
 rcases h with ⟨h1,h2⟩|⟨h1,h2⟩
 ·exact .of_left (intBits_le_64 h1 h2)
 ·exact .of_right (intBits_le_64 h1 h2)
theorem M8:i4 X (binaryOp .Add) (HK fun i j=>.int (i+j)):=Ot fun _ _ _ _ _ _ _ q=>add_int q
theorem Ld:i4 X (binaryOp .Sub) (HK fun i j=>.int (i - j)):=Ot fun _ _ _ _ _ _ _ q=>sub_int q
theorem MQ:i4 X (binaryOp .Mult) (rI vx fun i j=>.int (i * j)):=Pt fun _ _ _ _ _ _ _ hc q=>mul_int q hc.ok
theorem JS:i4 X (binaryOp .FloorDiv) (rI JP fun i j=>.int (i / j)):=Pt fun i j _ _ _ _ _ hc q=>by
 have h1:(0:Int) < j:=hc.1
 have h2:j < 1073741824:=hc.2
 exact floordiv_int (by omega) (by rw[Int.fdiv_eq_ediv_of_nonneg i (by omega)];exact q) (.inl (PyProof.noPylong_small (by omega)))
theorem Mr:i4 X (binaryOp .Mod) (rI (fun _ j=>0 < j) fun i j=>.int (i % j)):=Pt fun i j _ _ _ _ _ hc q=>by
 have h1:(0:Int) < j:=hc
 exact mod_int' (by omega) (by rw[Int.fmod_eq_emod_of_nonneg i (by omega)];exact q)
theorem Qw{f:Value->Sem Value}{g:Int->Int}
  (rule:∀ (i:Int) (t:Tok) (s:Shared) (Q:Value->Shared->Prop) (E:Value->Shared->Prop),Q (.int (g i) s.toks) { s with toks:=s.toks+1 }->wpAny (model X.prog X.w) X.A (f (.int i t)) Q E s) :
  PU X f (rU fun i=>.int (g i)):=by
 intro pins s σ H x v Q I rx h
 obtain⟨i,rfl,q⟩:=h
 obtain⟨t,rfl⟩:=rx
 exact rule i t s _ _ ⟨.int (g i),H,I.tok _,⟨_,rfl⟩,q⟩
theorem ES:PU X (unaryOp .USub) (rU fun i=>.int (-i)):=Qw fun _ _ _ _ _ q=>neg_int q
end
section
variable {X:Cx}{a b c:Expr}{ta tb tc:TE}{pos:Pos}
theorem FX{pins:List (Addr×Obj)}{σ:St}{H:Hp}{s:Shared}{Q:VK}{k k':Bool}(I:Inv X pins σ H s)(q:Q (.bl k) H)(e:k=k'):EP X pins σ Q (.bool k') s:=by
 subst e
 exact⟨.bl k,H,I,rfl,q⟩
theorem EE:i4 X (compareOp .Lt) (HK fun i j=>.bl (decide (i < j))):=Ja fun _ _ _ _ _ _ _ q=>lt_int q
theorem FB:i4 X (compareOp .LtE) (HK fun i j=>.bl (decide (i<=j))):=Ja fun _ _ _ _ _ _ _ q=>le_int q
theorem Kp:i4 X (compareOp .Gt) (HK fun i j=>.bl (decide (j < i))):=Ja fun _ _ _ _ _ _ _ q=>gt_int q
theorem Kt:i4 X (compareOp .GtE) (HK fun i j=>.bl (decide (j<=i))):=Ja fun _ _ _ _ _ _ _ q=>ge_int q
theorem E3:i4 X (compareOp .Is) (fun x y H Q=>y=.non/\Q (.bl (decide (x=.non))) H):=by
 intro pins s σ H x y v u Q I rx ry h
 obtain⟨rfl,q⟩:=h
 cases ry
 refine is_none_gen (FX I q ?_)
 cases x<;>first
  | (cases rx;rfl)
  | (obtain⟨t,rfl⟩:=rx;rfl)
theorem Bs:i4 X (compareOp .IsNot) (fun x y H Q=>y=.non/\Q (.bl (!decide (x=.non))) H):=by
 intro pins s σ H x y v u Q I rx ry h
 obtain⟨rfl,q⟩:=h
 cases ry
 refine isnot_none_gen (FX I q ?_)
 cases x<;>first
  | (cases rx;rfl)
  | (obtain⟨t,rfl⟩:=rx;rfl)
theorem i4.or{f:Value->Value->Sem Value}{r r':R2}(h:i4 X f r)(h':i4 X f r'):i4 X f (fun x y H Q=>r x y H Q\/r' x y H Q):=by
 intro pins s σ H x y v u Q I rx ry q
 rcases q with q|q
 ·exact h pins s σ H x y v u Q I rx ry q
 ·exact h' pins s σ H x y v u Q I rx ry q
theorem dq(b:Expr){op:CmpOp}(h:op≠.In:=by decide)(h2:op≠.NotIn:=by decide):behindInMarks op b=false:=by
 have e1:(op == CmpOp.In)=false:=by cases op<;>first|rfl|exact absurd rfl h
 have e2:(op == CmpOp.NotIn)=false:=by cases op<;>first|rfl|exact absurd rfl h2
 cases b<;>simp[behindInMarks,e1,e2]
theorem Kb{op:CmpOp}{r:R2}(ho:i4 X (compareOp op) r)(ha:PE X a ta)(hb:PE X b tb)(hm:behindInMarks op b=false):PE X (.Compare a [op] [b] pos) (N8 r ta tb):=by
 intro pins s σ H Q I h
 exact wpAny_Compare1 (MJ ha hb I h fun v u s2 x y H2 I2 rx ry q=>ho pins s2 σ H2 x y v u Q I2 rx ry q) hm
def KC(t:TE):TT:=fun σ H Q=>t σ H fun x H'=>∃k,x=.bl k/\Q k H'
theorem JL{op:CmpOp}{r:R2}(ho:i4 X (compareOp op) r)(ha:PE X a ta)(hb:PE X b tb)(hm:behindInMarks op b=false):PT X (.Compare a [op] [b] pos) (KC (N8 r ta tb)):=by
 intro pins s σ H Q I h
 refine wpAny_isTrue_Compare1 (bW (ha pins s σ H _ I h) fun v s1 ⟨x,H1,I1,r1,q1⟩=>bW (hb pins s1 σ H1 _ I1 q1) fun u s2 ⟨y,H2,I2,r2,q2⟩ =>
  bW (ho pins s2 σ H2 x y v u _ I2 r1 r2 q2) fun c s3 ⟨z,H3,I3,r3,k,e,q3⟩=>?_) hm
 subst e
 cases r3
 exact wpAny_truthy_bool ⟨H3,I3,q3⟩
def Bl(r r':R2)(ta tb tc:TE):TE:=fun σ H Q=>ta σ H fun x H1=>tb σ H1 fun y H2=>r x y H2 fun z H3=>∃k,z=.bl k /\
 (if k=true then tc σ H3 fun w' H4=>r' y w' H4 Q else Q (.bl false) H3)
theorem FZ{op op':CmpOp}{r r':R2}(ho:i4 X (compareOp op) r)(ho':i4 X (compareOp op') r')(ha:PE X a ta)(hb:PE X b tb)(hc:PE X c tc)
  (hm:lastMarks [op,op'] [b,c]=false:=by with_unfolding_all rfl):PE X (.Compare a [op,op'] [b,c] pos) (Bl r r' ta tb tc):=by
 intro pins s σ H Q I h
 refine Compare_chain (bW (ha pins s σ H _ I h) fun v s1 ⟨x,H1,I1,r1,q1⟩=>chain_link (bW (hb pins s1 σ H1 _ I1 q1) fun u s2 ⟨y,H2,I2,r2,q2⟩ =>
  bW (ho pins s2 σ H2 x y v u _ I2 r1 r2 q2) fun d s3 ⟨z,H3,I3,r3,k,e,q3⟩=>?_)) hm
 subst e
 cases r3
 refine wpAny_truthy_bool ?_
 cases k with
 | false=>exact ite_ff ⟨.bl false,H3,I3,rfl,q3⟩
 | true=>exact ite_tt (chain_last (bW (hc pins s3 σ H3 _ I3 q3) fun w' s4 ⟨z',H4,I4,r4,q4⟩=>ho' pins s4 σ H4 y z' u w' Q I4 r2 r4 q4))
theorem Fo{op op':CmpOp}{r r':R2}(ho:i4 X (compareOp op) r)(ho':i4 X (compareOp op') r')(ha:PE X a ta)(hb:PE X b tb)(hc:PE X c tc)
  (hm:lastMarks [op,op'] [b,c]=false:=by with_unfolding_all rfl):PT X (.Compare a [op,op'] [b,c] pos) (KC (Bl r r' ta tb tc)):=by
 intro pins s σ H Q I h
 refine isTrue_chain (bW (ha pins s σ H _ I h) fun v s1 ⟨x,H1,I1,r1,q1⟩=>test_link (bW (hb pins s1 σ H1 _ I1 q1) fun u s2 ⟨y,H2,I2,r2,q2⟩ =>
  bW (ho pins s2 σ H2 x y v u _ I2 r1 r2 q2) fun d s3 ⟨z,H3,I3,r3,k,e,q3⟩=>?_)) hm
 subst e
 cases r3
 refine wpAny_truthy_bool ?_
 cases k with
 | false =>
  obtain⟨k',e',q'⟩:=q3
  cases e'
  exact ite_ff ⟨H3,I3,q'⟩
 | true =>
  refine ite_tt (test_last (bW (hc pins s3 σ H3 _ I3 q3) fun w' s4 ⟨z',H4,I4,r4,q4⟩=>bW (ho' pins s4 σ H4 y z' u w' _ I4 r2 r4 q4) fun d' s5 ⟨z2,H5,I5,r5,k2,e2,q5⟩=>?_))
  subst e2
  cases r5
  exact wpAny_truthy_bool ⟨H5,I5,q5⟩
theorem qo:(sizeLine:Nat) < 2 ^ 63:=by rw[sizeLine_eq];decide
theorem vals1{x:V}{us:List Value}(r:aB [x] us):∃u,us=[u]/\RelV x u:=by
 cases r with
 | cons r1 r2=>cases r2;exact⟨_,rfl,r1⟩
theorem vals2{x y:V}{us:List Value}(r:aB [x,y] us):∃u w',us=[u,w']/\RelV x u/\RelV y w':=by
 cases r with
 | cons r1 r2 =>
  cases r2 with
  | cons r3 r4=>cases r4;exact⟨_,_,rfl,r1,r3⟩
theorem xh:eL X (.builtin "abs") (fun xs H Q=>∃i,xs=[.int i]/\Q (.int (if i < 0 then -i else i)) H):=by
 intro pins s σ H xs us Q I r h
 obtain⟨i,rfl,q⟩:=h
 obtain⟨u,rfl,t,rfl⟩:=vals1 r
 exact call_abs_int fun u tk=>⟨.int (if i < 0 then -i else i),H,I.tok _,⟨_,rfl⟩,q⟩
end
section
variable {prog:Program}{w:World}{A:Around}{E:Value->Shared->Prop}{s:Shared}{K:W.Frag}{x dx C f:Addr}{mA:Str->Option Value}{name:Str}{v:Value}
end
section
variable {P:Program}{w:World}{H H':Hp}{h h':Heap}{a C dx:Addr}{fs fs':List (Str×V)}
end
section
variable {X:Cx}{pins:List (Addr×Obj)}{σ:St}{H:Hp}{s:Shared}{a C dx:Addr}{fs:List (Str×V)}{f:Str}{v:V}{A:Around}{E:Value->Shared->Prop}
end
section
variable {X:Cx}{o e value:Expr}{f:Str}{pos pos' tpos:Pos}{ta tv:TE}
end
section
variable {X:Cx}{pins:List (Addr×Obj)}{σ:St}{H:Hp}{s:Shared}{A:Around}{E:Value->Shared->Prop}{Q:Value->Shared->Prop}{c:Value}{b:Bool}
end
structure ee(k:Nat)(A:Around):Prop where
 hd:A.handled=none
 dp:A.depth+3 * k+5 < recursionLimit
 un:A.units+16 * k+200 < cLine
theorem ee.mono{j k:Nat}{A:Around}(r:ee k A)(h:j<=k):ee j A:=⟨r.hd,by have:=r.dp;omega,by have:=r.un;omega⟩
theorem ee.deeper{k:Nat}{A:Around}(r:ee (k+1) A)(env:Env):ee k (A.deeper env) :=
 ⟨r.hd,by have:=r.dp;show A.depth+1+3 * k+5 < _;omega,by have:=r.un;show A.units+3+16 * k+200 < _;omega⟩
theorem ee.in1{k:Nat}{A:Around}(r:ee (k+1) A):ee k A.in1 :=
 ⟨r.hd,by have:=r.dp;show A.depth+3 * k+5 < _;omega,by have:=r.un;show A.units+1+16 * k+200 < _;omega⟩
theorem ee.depth{k:Nat}{A:Around}(r:ee k A):A.depth < recursionLimit:=by have:=r.dp;omega
theorem ee.units{k:Nat}{A:Around}(r:ee k A):A.units+64 < cLine:=by have:=r.un;omega
theorem ee.units0{k:Nat}{A:Around}(r:ee k A):A.units < cLine:=by have:=r.un;omega
def O2:TA:=fun _ H Q=>Q [] H
def OI(ta:TE)(tr:TA):TA:=fun σ H Q=>ta σ H fun x H1=>tr σ H1 fun xs H2=>Q (x::xs) H2
section
variable {X:Cx}{e:Expr}{es:List Expr}{te:TE}{t:TA}{pos:Pos}
theorem iN:PA X [] O2:=fun _ _ _ _ H Q I h=>Calls.spliced_nil ⟨[],H,I,.nil,h⟩
theorem di(ha:PE X e te)(hr:PA X es t)(hs:starEach (e::es) X.env=(false,eval e X.env)::starEach es X.env:=by rfl):PA X (e::es) (OI te t):=by
 intro pos pins s σ H Q I h
 rw[hs]
 show wpAny _ _ (spliced ((false,eval e X.env)::backTo pos (starEach es X.env))) _ _ s
 refine Calls.spliced_cons (bW (ha pins s σ H _ I h) fun u s1 ⟨x,H1,I1,r1,q1⟩=>?_)
 exact bW (hr pos pins s1 σ H1 _ I1 q1) fun us s2 ⟨xs,H2,I2,r2,q2⟩=>⟨x::xs,H2,I2,.cons r1 r2,q2⟩
def O4(t:TA):TE:=fun σ H Q=>t σ H fun xs H1=>xs.length<=sizeLine/\∀p,H1 p=none->Q (.ref p) (upd H1 p (.tup xs))
def Pk(t:TA):TE:=fun σ H Q=>t σ H fun xs H1=>xs.length<=sizeLine/\∀p,H1 p=none->Q (.ref p) (upd H1 p (.lst xs))
theorem M7{x1}(h:PA X es t):PE X (.Tuple es x1 pos) (O4 t):=by
 intro pins s σ H Q I hq
 refine wpAny_Tuple_spliced (bW (h pos pins s σ H _ I hq) fun us s1 ⟨xs,H1,I1,r,z,q⟩=>⟨by rw[<- r.length];exact z,?_⟩)
 have hf:H1 s1.heap.objs.size=none:=I1.hok.fresh (Nat.le_refl _)
 refine⟨.ref s1.heap.objs.size,upd H1 s1.heap.objs.size (.tup xs),I1.laid (t':=s1.toks) (fun b u e=>zV _ e) (Nat.le_refl _) ?_,rfl,q _ hf⟩
 exact⟨z,us,r,⟨_,zY _ rfl,rfl,_,rfl⟩,_,zY _ rfl,rfl⟩
theorem Gw(h:PA X es t):PE X (.List es pos) (Pk t):=by
 intro pins s σ H Q I hq
 refine wpAny_List_spliced (bW (h pos pins s σ H _ I hq) fun us s1 ⟨xs,H1,I1,r,z,q⟩=>⟨by rw[<- r.length];exact z,?_⟩)
 have hf:H1 s1.heap.objs.size=none:=I1.hok.fresh (Nat.le_refl _)
 refine⟨.ref s1.heap.objs.size,upd H1 s1.heap.objs.size (.lst xs),I1.laid (t':=s1.toks) (fun b u e=>zV _ e) (Nat.le_refl _) ?_,rfl,q _ hf⟩
 exact⟨z,us,0,r,zY _ rfl⟩
end
abbrev Sp:=List V->Hp->VK->XK->Prop
abbrev Ep:=List Env->Hp->Shared->XK->Value->Shared->Prop
structure HQ(P:Program)(w:World)(K:W.Frag)(mg:Str->Option Value)(base:Heap)(A:Around)(outer:List Env)(s:Shared)(H:Hp):Prop where
 frames:A.frames=some outer
 mod:Mod K mg base
 bs:∀b o,base.get? b=some o->s.heap.get? b=some o/\H b=none
 bsz:base.objs.size<=s.heap.objs.size
 funs:s.heap.FunFrames base outer
 frf:∀b∈Hh outer,H b=none
 hok:pJ P w H s.heap
 bare:AllBare s.gens
def CE(outer:List Env)(P:Program)(w:World)(H:Hp)(s:Shared)(Q:VK)(u:Value)(s':Shared):Prop :=
 ∃v H',s'.os=s.os/\AllBare s'.gens/\Un (Hh outer) [] H H' s.heap s'.heap/\pJ P w H' s'.heap/\RelV v u/\Q v H'
def CR(CX:Ep)(outer:List Env)(P:Program)(w:World)(H:Hp)(s:Shared)(Q:VK)(E:XK)(r:Result)(s':Shared):Prop :=
 match r with
 | .ok (.ret u)=>CE outer P w H s Q u s'
 | .ok _=>False
 | .error e=>CX outer H s E e s'
structure pA(P:Program)(w:World)(K:W.Frag)(mg:Str->Option Value)(base:Heap)(CX:Ep)(k:Nat)(f:Addr)(fd:FuncData)(ps:List Str)(sp:Sp):Prop where
 len:∀vs H Q E,sp vs H Q E->vs.length=ps.length
 run:∀ (A:Around) (outer:List Env) (s:Shared) (H:Hp) (args:Args) (us:List Value) (vs:List V) (Q:VK) (E:XK),ee k A->HQ P w K mg base A outer s H->BindsTo s fd args (ps.zip us)->aB vs us->sp vs H Q E ->
  codeAny (model P w) A (.call (.ref f) args) (CR CX outer P w H s Q E) s
theorem pA.mono{P:Program}{w:World}{K:W.Frag}{mg:Str->Option Value}{base:Heap}{CX:Ep}{j k:Nat}{f:Addr}{fd:FuncData}{ps:List Str}{sp:Sp}(F:pA P w K mg base CX j f fd ps sp)(h:j<=k) :
  pA P w K mg base CX k f fd ps sp:=⟨F.len,fun A outer s H args us vs Q E hr=>F.run A outer s H args us vs Q E (hr.mono h)⟩
section
variable {X:Cx}{pins:List (Addr×Obj)}{σ:St}{H:Hp}{s s':Shared}
theorem Inv.env0(I:Inv X pins σ H s):HQ X.prog X.w X.K X.mg X.base X.A X.stack s H :=
 ⟨I.ok.frames,I.ok.mod,I.bs,yE I.ok.bsz I.sz,I.stack,I.stkFree,I.hok,I.bare⟩
theorem Inv.after{Q:VK}{u:Value}(I:Inv X pins σ H s)(h:CE X.stack X.prog X.w H s Q u s'):EP X pins σ Q u s':=by
 obtain⟨v,H',os,bare,un,hok,r,q⟩:=h
 obtain⟨hh,g,d,t,os'⟩:=s'
 obtain rfl:os'=s.os:=os
 exact⟨v,H',I.call (h':=hh) (g':=g) (d':=d) (t':=t) (ch:=[]) un hok bare (fun b z=>absurd z (by simp)),r,q⟩
end
def OH(sp:Sp)(dvs:List V)(E:XK)(t:TA):TE:=fun σ H Q=>t σ H fun vs H1=>sp (vs++dvs) H1 Q E
def Binds(K:W.Frag)(fd:FuncData)(ps:List Str)(ds:List Value):Prop :=
 ∀ (s:Shared) (us:List Value),K.In s.heap->(us++ds).length=ps.length->BindsTo s fd ⟨us,[]⟩ (ps.zip (us++ds))
theorem Binds.all{K:W.Frag}{fd:FuncData}{ps:List Str}(h:∀us:List Value,us.length=ps.length->bindArgs fd ⟨us,[]⟩=pure (ps.zip us)):Binds K fd ps []:=fun s us _ hl=>by
 rw[List.append_nil] at hl ⊢
 exact .of_eq (h us hl)
def A2(CX:Ep)(X:Cx)(E:XK):Prop:=∀ (pins:List (Addr×Obj)) (σ:St) (H:Hp) (s:Shared) (e:Value) (s':Shared),Inv X pins σ H s->CX X.stack H s E e s'->X.xe e s'
section
variable {X:Cx}{CX:Ep}{k:Nat}{f C:Addr}{fd:FuncData}{ps:List Str}{sp:Sp}{dvs:List V}{ds:List Value}{E:XK}{x m:Str}{p pos apos:Pos}{e o:Expr}{es:List Expr}{ta:TE}{t:TA}
theorem GA{pins:List (Addr×Obj)}{σ:St}{H:Hp}{s:Shared}{Q:VK}{us:List Value}{vs:List V}(F:pA X.prog X.w X.K X.mg X.base CX k f fd ps sp)(hr:ee k X.A)(hb:Binds X.K fd ps ds)(hd:aB dvs ds)(hx:A2 CX X E)
  (I:Inv X pins σ H s) (r:aB vs us) (h:sp (vs++dvs) H Q E):wpAny (model X.prog X.w) X.A (call (.ref f) us) (EP X pins σ Q) X.xe s:=by
 have r2:aB (vs++dvs) (us++ds):=r.append hd
 have hl:(us++ds).length=ps.length:=by rw[<- r2.length];exact F.len _ _ _ _ h
 refine wpAny_call (codeAny_mono (F.run X.A X.stack s H ⟨us,[]⟩ (us++ds) (vs++dvs) Q E hr I.env0 (hb s us I.kIn hl) r2 h) fun r s' hq=>?_)
 cases r with
 | error e=>exact hx pins σ H s e s' I hq
 | ok fl =>
  cases fl with
  | ret u=>exact I.after hq
  | next=>exact False.elim hq
  | brk=>exact False.elim hq
  | cont=>exact False.elim hq
theorem JM(F:pA X.prog X.w X.K X.mg X.base CX k f fd ps sp)(hr:ee k X.A)(hg:Gl X x)(hm:X.mg x=some (.ref f))(hk:W.keepIn X.K (.ref f)=true)(hb:Binds X.K fd ps ds)(hd:aB dvs ds)(hx:A2 CX X E)
  (ha:PA X (e::es) t) (hdb:(x == ("__debug__":Str))=false:=by decide) (he:starEach (e::es) X.env=(false,eval e X.env)::starEach es X.env:=by rfl) (hpl:(backTo pos (starEach es X.env)).any (·.1)=false:=by rfl) :
  PE X (.Call (.Name x p) (e::es) [] pos) (OH sp dvs E t):=by
 intro pins s σ H Q I h
 refine wpAny_Call_Name_kw (BX I hg hm ?_ hdb)
 refine W.callWith_K (h₀:=X.base) I.ok.mod.kin hk (bW (ha pos pins s σ H _ I h) fun us s1 ⟨vs,H1,I1,r,q⟩=>⟨I1.kIn,?_⟩) he hpl
 exact GA F hr hb hd hx I1 r q
end
section
variable {X:Cx}{CX:Ep}{k:Nat}{f C:Addr}{fd:FuncData}{ps ks:List Str}{sp:Sp}{E:XK}{x m:Str}{p pos apos kpos:Pos}{e o:Expr}{es:List Expr}{kws:List Keyword}{te ta:TE}{t tk:TA}{nm:Option Str}
variable {g:List Value->List Value->List Value}{gV:List V->List V->List V}
end
structure gm(N P:List Str)(sc:Scope):Prop where
 kind:sc.kind=.function
 co:sc.isCoroutine=false
 gen:sc.isGenerator=false
 nd:N.Nodup
 pre:N.take P.length=P
 par:∀x∈P,sc.names.lookup x=some .local \/ sc.names.lookup x=some .cell
 nofree:∀y∈sc.names,y.2≠.free
theorem tH{kindOf:Str->Option NameKind}{x:Str}:∀ {binds:List (Str×Value)}{m:Str->Option Value},(∀v,(x,v)∉binds)->bindL kindOf binds m x=m x
 | [],_,_=>rfl
 | (n,v)::r,m,h=>by
  unfold bindL
  rw[tH fun w hw=>h w (zC _ hw)]
  split
  ·have:x≠n:=by rintro rfl;exact h v zE
   simp[this]
  ·rfl
theorem tR{kindOf:Str->Option NameKind}{x:Str}:∀ {binds:List (Str×Value)}{m:Str->Option Value},(∀v,(x,v)∉binds)->bindC kindOf binds m x=m x
 | [],_,_=>rfl
 | (n,v)::r,m,h=>by
  unfold bindC
  rw[tR fun w hw=>h w (zC _ hw)]
  split
  ·rfl
  ·have:x≠n:=by rintro rfl;exact h v zE
   simp[this]
theorem uw{kindOf:Str->Option NameKind}{x:Str}{v:Value}:∀ {P:List Str}{vs:List Value}{i:Nat}{m:Str->Option Value},P.Nodup->P[i]?=some x->vs[i]?=some v->kindOf x=some .local ->
  bindL kindOf (P.zip vs) m x=some v
 | [],_,_,_,_,h,_,_=>by simp at h
 | _::_,[],_,_,_,_,h,_=>by simp at h
 | p::P,w::vs,0,m,nd,h1,h2,hk=>by
  simp at h1 h2;subst h1;subst h2
  show bindL kindOf ((p,w)::P.zip vs) m p=_
  unfold bindL
  rw[tH fun v hv=>(List.nodup_cons.mp nd).1 (List.of_mem_zip hv).1,if_pos hk]
  simp
 | p::P,w::vs,i+1,m,nd,h1,h2,hk=>by
  show bindL kindOf ((p,w)::P.zip vs) m x=_
  unfold bindL
  exact uw (i:=i) (List.nodup_cons.mp nd).2 (by simpa using h1) (by simpa using h2) hk
theorem uk{kindOf:Str->Option NameKind}{x:Str}{v:Value}:∀ {P:List Str}{vs:List Value}{i:Nat}{m:Str->Option Value},P.Nodup->P[i]?=some x->vs[i]?=some v->kindOf x≠some .local ->
  bindC kindOf (P.zip vs) m x=some v
 | [],_,_,_,_,h,_,_=>by simp at h
 | _::_,[],_,_,_,_,h,_=>by simp at h
 | p::P,w::vs,0,m,nd,h1,h2,hk=>by
  simp at h1 h2;subst h1;subst h2
  show bindC kindOf ((p,w)::P.zip vs) m p=_
  unfold bindC
  rw[tR fun v hv=>(List.nodup_cons.mp nd).1 (List.of_mem_zip hv).1,if_neg hk]
  simp
 | p::P,w::vs,i+1,m,nd,h1,h2,hk=>by
  show bindC kindOf ((p,w)::P.zip vs) m x=_
  unfold bindC
  exact uk (i:=i) (List.nodup_cons.mp nd).2 (by simpa using h1) (by simpa using h2) hk
def start(N:List Str)(vs:List V):St:=vs.map some++List.replicate (N.length - vs.length) none
def D4(CX:Ep)(P:Program)(w:World)(K:W.Frag)(mg:Str->Option Value)(base:Heap)(N:List Str)(qual:Str)(scope:Scope)(f:Addr)(cd:Value)(A:Around)(outer:List Env)(s:Shared)(H:Hp)(E:XK):Cx where
 prog:=P
 w:=w
 K:=K
 mg:=mg
 base:=base
 A:=A.deeper (envOfC qual scope s.heap.objs.size f cd)
 N:=N
 s₀:=s
 H₀:=H
 env:=envOfC qual scope s.heap.objs.size f cd
 outer:=outer
 stack:=envOfC qual scope s.heap.objs.size f cd::outer
 ex:=[]
 calm:=true
 fn:=fun _=>true
 pn:=[]
 xe:=fun e s'=>wpAny (model P w) (A.deeper (envOfC qual scope s.heap.objs.size f cd)) (leaving (envOfC qual scope s.heap.objs.size f cd) e) (fun _ s''=>CX outer H s E e s'') (fun e' s''=>CX outer H s E e' s'') s'
theorem qt{sc:Scope}{n:Nat}{x:Str}(h:sc.names.lookup x=some .cell):∃c,(cellsFrom n sc.names []).lookup x=some c:=by
 have q:=W.cellsFrom_some sc.names n [] (.inl h)
 exact Option.isSome_iff_exists.mp q
theorem DB{CX:Ep}{P:Program}{w:World}{K:W.Frag}{mg:Str->Option Value}{base:Heap}{N ps:List Str}{qual:Str}{scope:Scope}{f:Addr}{cd:Value}{A:Around}{outer:List Env}{s s1:Shared}{H:Hp}{E:XK}{us:List Value}{vs:List V}
  (S:gm N ps scope) (hd:A.handled=none) (e0:HQ P w K mg base A outer s H) (hl:vs.length=ps.length) (r:aB vs us)
  (x:InCallC s s.heap.objs.size (bindL (envOfC qual scope s.heap.objs.size f cd).kindOf (ps.zip us) fun _=>none) (cellsFrom (s.heap.objs.size+1) scope.names []) (bindC (envOfC qual scope s.heap.objs.size f cd).kindOf (ps.zip us) fun _=>none) s1) :
  Inv (D4 CX P w K mg base N qual scope f cd A outer s H E) [] (start N vs) H s1:=by
 have hpl:ps.length<=N.length:=by have:=congrArg List.length S.pre;rw[List.length_take] at this;omega
 obtain⟨h1,tk,rfl,hk⟩:=x.done
 have noA:∀b:Addr,b∉(D4 CX P w K mg base N qual scope f cd A outer s H E).ex:=fun b z=>absurd (show b∈([]:List Addr) from z) (by simp)
 refine⟨⟨e0.mod,S.kind,rfl,rfl,Nat.le_refl _,fun y z c h1 h2=>?_,fun y hy=>?_,fun y c _ h=>?_,fun _=>hd,Around.frames_deeper e0.frames,.inr ⟨rfl,rfl⟩,fun b z=>absurd z (noA b),e0.bs,e0.bsz,fun b _ _=>noA b,fun b z=>absurd z (noA b),e0.funs,e0.frf⟩,
  rfl,e0.bare,Un.kept hk,⟨_,x.toInCall.ns,fun i y v h1 h2 h3=>?_⟩,fun y c h=>⟨_,x.cell y c h⟩,e0.hok.fresh (Nat.le_refl _),fun y c h=>?_,fun p hp=>absurd (show p∈([]:List (Addr×Obj)) from hp) (by simp),e0.hok.kept hk,?_⟩
 ·exact name_of_addr x.apart (PySem.mem_of_lookup h1) (PySem.mem_of_lookup h2)
 ·have hy:scope.names.lookup y=some .cell\/scope.names.lookup y=some .free:=hy
  rcases hy with hy|hy
  ·exact qt hy
  ·exact absurd rfl (S.nofree _ (PySem.mem_of_lookup hy))
 ·exact Nat.le_of_lt (x.above y c (PySem.mem_of_lookup h))
 ·have hi:i < vs.length:=by
   unfold start at h2
   by_cases hi:i < vs.length
   ·exact hi
   ·rw[List.getElem?_append_right (by simpa using hi)] at h2
    rw[List.getElem?_replicate] at h2
    split at h2<;>cases h2
  have ha:vs[i]?=some v:=by
   unfold start at h2
   rw[List.getElem?_append_left (by simpa using hi),zO] at h2
   cases e:vs[i]? with
   | none=>rw[e] at h2;cases h2
   | some a=>rw[e] at h2;cases h2;rfl
  obtain⟨u,hu,rv⟩:=r.get ha
  have hp:ps[i]?=some y:=by
   rw[<- S.pre,List.getElem?_take_of_lt (by omega)];exact h1
  have ndP:ps.Nodup:=by rw[<- S.pre];exact S.nd.sublist (List.take_sublist _ _)
  refine⟨u,rv,?_⟩
  rcases S.par y (List.mem_of_getElem? hp) with k|k
  ·exact .inl ⟨k,uw ndP hp hu k⟩
  ·obtain⟨c,e⟩:=qt (n:=s.heap.objs.size+1) k
   refine .inr ⟨.inl k,c,e,?_⟩
   have q:=x.cell y c e
   rw[uk ndP hp hu (by show scope.names.lookup y≠_;rw[k];decide)] at q
   exact q
 ·exact e0.hok.fresh (Nat.le_of_lt (x.above y c (PySem.mem_of_lookup h)))
 ·unfold start
  show _=N.length
  rw[zN,zD,List.length_replicate]
  omega
theorem Om{CX:Ep}{P:Program}{w:World}{K:W.Frag}{mg:Str->Option Value}{base:Heap}{k:Nat}{f:Addr}{name qual:Str}{params:Arguments}{body:List Stmt}{scope:Scope}{dV kV doc pm cdv ct oc:Value}{an od:Option Addr}
  {osl:Array (Option Value)}{N ps:List Str}{sp:Sp}(lk:K.lookup f=some ⟨oc,od,.func (W.fnOf name qual params body scope dV kV doc pm an cdv ct),osl⟩) (hcd:W.codeIn K cdv qual=true) (S:gm N ps scope)
  (len:∀vs H Q E,sp vs H Q E->vs.length=ps.length)
  (hbody:∀ (A:Around) (outer:List Env) (s:Shared) (H:Hp) (vs:List V) (Q:VK) (E:XK),ee k (A.deeper (envOfC qual scope s.heap.objs.size f cdv))->sp vs H Q E ->
   ∃t,zv (D4 CX P w K mg base N qual scope f cdv A outer s H E) body t/\t { nx:=fun _ H'=>Q .non H',rt:=Q } (start N vs) H) :
  pA P w K mg base CX (k+1) f (W.fnOf name qual params body scope dV kV doc pm an cdv ct) ps sp:=by
 refine⟨len,fun A outer s H args us vs Q E hr e0 hb r hsp=>?_⟩
 have hl:=len _ _ _ _ hsp
 have KX:K.In s.heap:=e0.mod.kin.keeps fun b o e=>(e0.bs b o e).1
 have lim:s.heap.NoLimit:=e0.mod.nolimit.keeps fun b o e=>(e0.bs b o e).1
 have hkind:∀y∈ps.zip us,scope.names.lookup y.1=some .local \/ (scope.names.lookup y.1=some .cell/\((cellsFrom (s.heap.objs.size+1) scope.names []).lookup y.1).isSome=true):=fun ⟨n,v⟩ hy=>by
  rcases S.par n (List.of_mem_zip hy).1 with q|q
  ·exact .inl q
  ·exact .inr ⟨q,W.cellsFrom_some _ _ _ (.inl q)⟩
 refine codeAny_call_function hr.depth (KX _ _ lk) rfl S.co S.gen rfl (W.codeRec_of KX hcd) (hb _ _ _ _ ?_)
 refine wpAny_newFunctionEnv_cells S.kind hkind fun env he s1 x=>?_
 subst he
 refine⟨lim.keeps x.toInCall.keep,codeAny_func ?_⟩
 obtain⟨t,ht,hq⟩:=hbody A outer s H vs Q E (hr.deeper _) hsp
 have I:Inv (D4 CX P w K mg base N qual scope f cdv A outer s H E) [] (start N vs) H s1:=DB S hr.hd e0 hl r x
 refine wpAny_mono (ht [] s1 (start N vs) H _ I hq) (fun fl s' hs=>?_) fun e s' hs=>hs
 have fin:∀ {σ':St}{H':Hp}{v:V}{u:Value},Inv (D4 CX P w K mg base N qual scope f cdv A outer s H E) [] σ' H' s'->RelV v u->Q v H'->CE outer P w H s Q u s' :=
  fun {σ' H' v u} J rv q=>⟨v,H',J.os,J.bare,J.base,J.hok,rv,q⟩
 cases fl with
 | ret u =>
  obtain⟨v,σ',H',J,rv,q⟩:=hs
  exact fin J rv q
 | next =>
  obtain⟨σ',H',J,q⟩:=hs
  exact fin (v:=V.non) (u:=Value.none) J rfl q
 | brk =>
  obtain⟨_,_,_,q⟩:=hs
  exact False.elim q
 | cont =>
  obtain⟨_,_,_,q⟩:=hs
  exact False.elim q
section
variable {X:Cx}{x:Str}{p pos:Pos}{e:Expr}{es:List Expr}{t:TA}{id T:String}{r:List V->Hp->VK->Prop}
def OO(r:List V->Hp->VK->Prop)(t:TA):TE:=fun σ H Q=>t σ H fun vs H1=>r vs H1 Q
theorem mF(hc:eL X (.builtin id) r)(hg:Gl X x)(hm:X.mg x=none)(hv:bootBuiltins x=some (.builtin id))(ha:PA X (e::es) t)(hn:x≠"__name__":=by decide)(hdb:(x == ("__debug__":Str))=false:=by decide)
  (he:starEach (e::es) X.env=(false,eval e X.env)::starEach es X.env:=by rfl) (hpl:(backTo pos (starEach es X.env)).any (·.1)=false:=by rfl):PE X (.Call (.Name x p) (e::es) [] pos) (OO r t):=by
 intro pins s σ H Q I h
 refine wpAny_Call_Name_kw (iF I hg hm hv ?_ hn hdb)
 exact PyProof.Rows.callWith_builtin1 (bW (ha pos pins s σ H _ I h) fun us s1 ⟨vs,H1,I1,r1,q1⟩=>hc pins s1 σ H1 vs us Q I1 r1 q1) he hpl
theorem tU(hc:eL X (.type T) r)(hg:Gl X x)(hm:X.mg x=none)(hv:bootBuiltins x=some (.type T))(ha:PA X (e::es) t)(hn:x≠"__name__":=by decide)(hdb:(x == ("__debug__":Str))=false:=by decide)
  (he:starEach (e::es) X.env=(false,eval e X.env)::starEach es X.env:=by rfl) (hpl:(backTo pos (starEach es X.env)).any (·.1)=false:=by rfl):PE X (.Call (.Name x p) (e::es) [] pos) (OO r t):=by
 intro pins s σ H Q I h
 refine wpAny_Call_Name_kw (iF I hg hm hv ?_ hn hdb)
 exact PyProof.Rows.callWith_type1 (bW (ha pos pins s σ H _ I h) fun us s1 ⟨vs,H1,I1,r1,q1⟩=>hc pins s1 σ H1 vs us Q I1 r1 q1) he hpl
end
end L2
namespace HT
open PySem PyProof.Rows
def lexLt:List Int->List Int->Bool
 | [],[]=>false
 | [],_::_=>true
 | _::_,[]=>false
 | x::xs,y::ys=>if x=y then lexLt xs ys else decide (x < y)
theorem cD(x y:Int)(xs ys:List Int):lexLt (x::xs) (y::ys)=if x=y then lexLt xs ys else decide (x < y):=rfl
theorem lM:lexLt [] []=false:=rfl
theorem kL(y:Int)(ys:List Int):lexLt [] (y::ys)=true:=rfl
theorem kq(x:Int)(xs:List Int):lexLt (x::xs) []=false:=rfl
theorem xt(A:Around)(s:Shared)(a:Int)(t:Tok)(c:Int)(u:Tok):∃e,SeqAt.EqAt A s (.int a t) (.int c u) e/\(e=true↔a=c) :=
 ⟨(a == c),SeqAt.EqAt.int_int a t c u,by simp⟩
theorem G9(A:Around)(s:Shared)(a:Int)(t:Tok)(c:Int)(u:Tok)(prog:Program)(w:World)(E:Value->Shared->Prop)(Q:Value->Shared->Prop)(h:Q (.bool (decide (a < c))) s) :
  wpAny (model prog w) A (richCompare .Lt (.int a t) (.int c u)) Q E s :=
 (PyProof.Rows.lt_int h:wpAny (model prog w) A (compareOp .Lt (.int a t) (.int c u)) Q E s)
section
open PySem.SeqAt
open PySem.AutoSeq1 (wpAny_loadPart')
open PySem.MeetsSeq PySem.MeetsSeq2 PySem.MeetsSeq3
theorem r6(l b:Addr)(items items2:Array Value)(n n2:Nat)(dd dd2:Option Addr)(sl sl2:Array (Option Value))(ns ms:List Int)(hi:IntsAre items.toList ns)(hj:IntsAre items2.toList ms) :
  Meets (Builtin.«tuple.__lt__» ⟨[.ref l,.ref b],[]⟩)
   (fun _ R s=>s.heap.get? l=some { cls:=.type "tuple",dict:=dd,data:=.seq items n,slots:=sl }/\s.heap.get? b=some { cls:=.type "tuple",dict:=dd2,data:=.seq items2 n2,slots:=sl2 } /\
    R (.ok (.ret (.bool (lexLt ns ms)))) s) :=
 .of_wp fun prog w A R s h=>by
  obtain⟨hp,g,d,tk,os⟩:=s;obtain⟨hl,hb,h⟩:=h
  have f2:=AutoSeq1.sub_tuple_tuple
  have z1:items.size=ns.length:=by rw[<- hi.length];simp
  have z2:items2.size=ms.length:=by rw[<- hj.length];simp
  wp_walk using wpAny_loadPart' hl,wpAny_loadPart' hb,wpAny_forIn_list _ (fun rest b s'=>b.1=none/\s'=⟨hp,g,d,tk,os⟩/\∃ (vs ws:List Value) (ns' ms':List Int),rest=vs.zip ws /\
   IntsAre vs ns'/\IntsAre ws ms'/\ns'.length+items2.size=ms'.length+items.size/\R (.ok (.ret (.bool (lexLt ns' ms')))) ⟨hp,g,d,tk,os⟩) _
  case turn =>
   rintro⟨y,x⟩ rest b s' ⟨hb',rfl,vs,ws,ns',ms',hz,hvi,hwi,hlen,hR⟩
   cases hvi with
   | nil=>rw[List.zip_nil_left] at hz;cases hz
   | cons a t hvi' =>
    cases hwi with
    | nil=>rw[List.zip_nil_right] at hz;cases hz
    | cons c u hwi' =>
     rw[List.zip_cons_cons] at hz
     injection hz with hyx hrest
     injection hyx with hy hx
     subst hy hx
     rw[cD] at hR
     simp only[zL] at hlen
     obtain⟨e,he,hiff⟩:=xt A.in1 ⟨hp,g,d,tk,os⟩ a t c u
     refine zW (he prog w _ _ ?_)
     cases e with
     | true =>
      rw[if_pos (hiff.mp rfl)] at hR
      wp_walk
      exact⟨rfl,rfl,_,_,_,_,hrest,hvi',hwi',by omega,hR⟩
     | false =>
      rw[if_neg (fun q=>absurd (hiff.mpr q) Bool.false_ne_true)] at hR
      have hri:=G9 A.in1 ⟨hp,g,d,tk,os⟩ a t c u prog w
      wp_walk using hri
      exact⟨_,rfl,by simpa using hR⟩
  case fin =>
   rintro⟨b1,b2⟩ s' ⟨hb',rfl,vs,ws,ns',ms',hz,hvi,hwi,hlen,hR⟩
   simp only at hb'
   subst hb'
   have hv:lexLt ns' ms'=decide (items.size < items2.size):=by
    cases hvi with
    | nil =>
     cases hwi with
     | nil =>
      simp only[List.length_nil] at hlen
      rw[lM]
      exact (yA (by omega)).symm
     | cons c u hw =>
      simp only[List.length_nil,zL] at hlen
      rw[kL]
      exact (yB (by omega)).symm
    | cons a t hv =>
     cases hwi with
     | nil =>
      simp only[List.length_nil,zL] at hlen
      rw[kq]
      exact (yA (by omega)).symm
     | cons c u hw =>
      rw[List.zip_cons_cons] at hz
      cases hz
   rw[hv] at hR
   wp_walk
   exact⟨_,rfl,by simpa [Builtin.Tuple.tupleCompareSizes] using hR⟩
  case h =>
   exact⟨rfl,rfl,items.toList,items2.toList,ns,ms,rfl,hi,hj,by omega,h⟩
end
section
variable {prog:Program}{w:World}{A:Around}{E:Value->Shared->Prop}{s:Shared}
theorem A9{l b:Addr}{items items2:Array Value}{ns ms:List Int}{Q:Value->Shared->Prop}(hl:IsTup s.heap l items)(hb:IsTup s.heap b items2)(hi:IntsAre items.toList ns)(hj:IntsAre items2.toList ms)
  (hu:A.units < cLine) (h:Q (.bool (lexLt ns ms)) s):wpAny (model prog w) A (compareOp .Lt (.ref l) (.ref b)) Q E s:=by
 obtain⟨⟨cls,dd,data,sl⟩,ho,hc,n,hd⟩:=id hl
 obtain⟨⟨cls2,dd2,data2,sl2⟩,ho2,hc2,n2,hd2⟩:=id hb
 simp only at hc hd hc2 hd2
 subst hc hd hc2 hd2
 exact richCompare_meets_room (op:=.Lt) ⟨_,ho,rfl⟩ ⟨_,ho2,rfl⟩ PySem.F.slot_tuple_lt PySem.F.entry_tuple_lt (PySem.F.args_tuple_lt_2 _ _) (r6 l b items items2 n n2 dd dd2 sl sl2 ns ms hi hj)
  ⟨ho,ho2,show Value.bool (lexLt ns ms)≠Value.notImplemented/\Q (.bool (lexLt ns ms)) s from ⟨(fun x=>nomatch x),h⟩⟩ hu
theorem IB{t b:Addr}{vs ws:List Value}{Q:Value->Shared->Prop}(ht:IsTup s.heap t vs.toArray)(hb:IsTup s.heap b ws.toArray)(hv:vs≠[])
  (h1:ws=[]->Q (.ref t) s) (h2:ws≠[]->Q (.ref s.heap.objs.size) { s with heap:=s.heap.push { cls:=.type "tuple",data:=.seq (vs++ws).toArray } })
  (hsz:vs.length+ws.length<=sizeLine):wpAny (model prog w) A (binaryOp .Add (.ref t) (.ref b)) Q E s:=by
 obtain⟨⟨cls,dd,data,sl⟩,ho,hc,n,hd⟩:=id ht
 obtain⟨⟨cls2,dd2,data2,sl2⟩,ho2,hc2,n2,hd2⟩:=id hb
 simp only at hc hd hc2 hd2
 subst hc hd hc2 hd2
 have e:vs.toArray++ws.toArray=(vs++ws).toArray:=by simp
 by_cases hw:ws=[]
 ·exact concat_meets ⟨_,ho,rfl⟩ ⟨_,ho2,rfl⟩ noFill_tuple_add seq_tuple_add PySem.F.slot_tuple_add PySem.F.entry_tuple_add (PySem.F.args_tuple_add_2 _ _)
   (tuple_addW1 t b vs.toArray ws.toArray n n2 dd dd2 sl sl2 (by simpa using hv) (by simp[hw])) ⟨ho,ho2,h1 hw⟩
 ·refine concat_meets ⟨_,ho,rfl⟩ ⟨_,ho2,rfl⟩ noFill_tuple_add seq_tuple_add PySem.F.slot_tuple_add PySem.F.entry_tuple_add (PySem.F.args_tuple_add_2 _ _)
   (tuple_addW2 t b vs.toArray ws.toArray n n2 dd dd2 sl sl2 (by simpa using hv) (by simpa using hw) (by rw[zH,zH];exact hsz)) ⟨ho,ho2,?_⟩
  rw[e]
  exact h2 hw
def dQ(n d:Nat):Option Int->Nat
 | none=>d
 | some v=>if v < 0 then (v+(n:Int)).toNat else min v.toNat n
theorem xD(n d:Nat):dQ n d none=d:=rfl
theorem Bt(n d k:Nat):dQ n d (some (k:Int))=min k n:=by
 show (if (k:Int) < 0 then ((k:Int)+(n:Int)).toNat else min (k:Int).toNat n)=min k n
 rw[if_neg (by omega),yH]
theorem MF(n d:Nat)(hd:d<=n)(o:Option Int):dQ n d o<=n:=by
 cases o with
 | none=>exact hd
 | some v =>
  show (if v < 0 then (v+(n:Int)).toNat else min v.toNat n)<=n
  by_cases hv:v < 0
  ·rw[if_pos hv];omega
  ·rw[if_neg hv];exact Nat.min_le_right _ _
theorem B2(v:Int)(n d:Nat):(if v < 0 then max (v+(n:Int)) 0 else min v (n:Int))=((dQ n d (some v):Nat):Int):=by
 show (if v < 0 then max (v+(n:Int)) 0 else min v (n:Int))=(((if v < 0 then (v+(n:Int)).toNat else min v.toNat n):Nat):Int)
 by_cases hv:v < 0
 ·simp only[if_pos hv];omega
 ·simp only[if_neg hv];omega
theorem Ax(lo hi:Option Int)(n:Nat):Builtin.Slice.sliceAdjust lo hi 1 (n:Int)=(((dQ n 0 lo:Nat):Int),((dQ n n hi:Nat):Int)):=by
 have h1:¬ ((1:Int) < 0):=by omega
 unfold Builtin.Slice.sliceAdjust
 simp only[h1,if_false]
 refine Prod.ext ?_ ?_
 ·cases lo with
  | none=>rfl
  | some v=>exact B2 v n 0
 ·cases hi with
  | none=>rfl
  | some v=>exact B2 v n n
theorem Bp(i j:Nat):Builtin.Slice.slicePlaces (i:Int) (j:Int) 1=j - i:=by
 unfold Builtin.Slice.slicePlaces
 have h1:(1:Int) > 0:=by omega
 simp only[h1,if_true,Int.ediv_one]
 split<;>omega
theorem qU{v:Value}{o:Option Int}{Q:Option Int->Shared->Prop}(p:IsPart v o)(h:Q o s):wpAny (model prog w) A (Builtin.Slice.slicePartIndex v) Q E s:=by
 cases p with
 | none=>exact slicePart_none h
 | int i t=>exact slicePart_int h
theorem jg{sl:Addr}{vl vu:Value}{lo hi:Option Int}{n:Nat}{Q:Int×Int×Nat->Shared->Prop}(hs:s.heap.IsSliceOf sl vl vu .none)(pl:IsPart vl lo)(pu:IsPart vu hi)
  (h:Q (((dQ n 0 lo:Nat):Int),1,dQ n n hi - dQ n 0 lo) s):wpAny (model prog w) A (Builtin.Slice.sliceApplied (.ref sl) (pure (n:Int))) Q E s:=by
 obtain⟨os,hos,hcs,hds⟩:=id hs
 unfold Builtin.Slice.sliceApplied Builtin.Slice.sliceFields
 refine zW (zW (wpAny_field hos hds (x:=vl) rfl (zW (wpAny_field hos hds (x:=vu) rfl (zW (wpAny_field hos hds (x:=.none) rfl (zX ?_)))))))
 refine zW (slicePart_none ?_)
 show wpAny _ _ (if ((1:Int) == 0)=true then _ else _) _ _ s
 rw[if_neg (by decide)]
 refine zW (qU pl (zW (qU pu (zW (zX ?_)))))
 show wpAny _ _ (match Builtin.Slice.sliceAdjust lo hi 1 (n:Int) with|(lo,hi)=>pure (lo,(1:Int),Builtin.Slice.slicePlaces lo hi 1)) _ _ s
 rw[Ax lo hi n]
 show wpAny _ _ (pure (((dQ n 0 lo:Nat):Int),(1:Int),Builtin.Slice.slicePlaces ((dQ n 0 lo:Nat):Int) ((dQ n n hi:Nat):Int) 1)) _ _ s
 rw[Bp]
 exact zX h
theorem FU(xs:Array Value)(i k:Nat):((List.range k).filterMap fun (m:Nat)=>xs[((i:Int)+(m:Int) * 1).toNat]?).toArray=((xs.toList.drop i).take k).toArray:=by
 have e:(fun (m:Nat)=>xs[((i:Int)+(m:Int) * 1).toNat]?)=fun m=>xs[i+m]?:=by
  funext m
  have:((i:Int)+(m:Int) * 1).toNat=i+m:=by omega
  rw[this]
 rw[e]
 have:=pick_run xs i k
 rw[List.filterMap_map] at this
 have e2:((fun x=>xs[x]?) ∘ fun x=>i+x)=fun m=>xs[i+m]?:=rfl
 rw[e2] at this
 rw[this]
theorem nG{t sl:Addr}{items:Array Value}{vl vu:Value}{lo hi:Option Int}{Q:Value->Shared->Prop}(ht:IsTup s.heap t items)(hs:s.heap.IsSliceOf sl vl vu .none)(pl:IsPart vl lo)(pu:IsPart vu hi)
  (hw:¬ (dQ items.size 0 lo=0/\dQ items.size items.size hi=items.size))
  (h:Q (.ref s.heap.objs.size) { s with heap:=s.heap.push { cls:=.type "tuple",data:=.seq ((items.toList.drop (dQ items.size 0 lo)).take (dQ items.size items.size hi - dQ items.size 0 lo)).toArray } })
  (hsz:items.size<=sizeLine):wpAny (model prog w) A (getItem (.ref t) (.ref sl)) Q E s:=by
 have htake:sizeOk (.seq ((items.toList.drop (dQ items.size 0 lo)).take (dQ items.size items.size hi - dQ items.size 0 lo)).toArray):=by
  show ((items.toList.drop (dQ items.size 0 lo)).take (dQ items.size items.size hi - dQ items.size 0 lo)).toArray.size<=sizeLine
  rw[zH,List.length_take,List.length_drop,Array.length_toList]
  omega
 have hj:dQ items.size items.size hi<=items.size:=MF _ _ (Nat.le_refl _) hi
 obtain⟨os,hos,hcs,hds⟩:=id hs
 have hTs:s.TypeIs (.ref sl) "slice":=⟨os,hos,hcs⟩
 unfold getItem
 try with_reducible refine wpAny_holding ?_
 first|refine zW (zX ?_)|skip
 refine zW (wpAny_sequenceKey ht.typeIs (by decide) ?_)
 refine zW (wpAny_callSpecial?_slot (name:=Str.ofString "__getitem__") ht.typeIs PyProof.Rows.slot_tuple_getitem
  (wpAny_call_entry PyProof.Rows.slot_tuple_getitem ht.typeIs entry_tuple_getitem ?_ (args_tuple_getitem _ _)))
 show wpAny _ _ (Builtin.Tuple.tupleItemsOf (.ref t) >>= _) _ _ s
 refine zW (tupleItemsOf_ ht ?_)
 refine zW (wpAny_typeOf hTs ?_)
 rw[if_pos (by decide)]
 refine zW (jg hs pl pu ?_)
 have hno:¬ ((((dQ items.size 0 lo:Nat):Int) == 0&&(1:Int) == 1&&(dQ items.size items.size hi - dQ items.size 0 lo) == items.size)=true):=by
  intro q
  rw[zF,zF] at q
  have q1:((dQ items.size 0 lo:Nat):Int)=0:=eq_of_beq q.1.1
  have q2:dQ items.size items.size hi - dQ items.size 0 lo=items.size:=eq_of_beq q.2
  exact hw ⟨by omega,by omega⟩
 show wpAny _ _ (if (((dQ items.size 0 lo:Nat):Int) == 0&&(1:Int) == 1&&(dQ items.size items.size hi - dQ items.size 0 lo) == items.size)=true then _ else _) _ _ s
 rw[if_neg hno,FU]
 first
  | exact zW (m:=Builtin.Tuple.tupleExact _) (wpAny_newObj_type (zX ⟨_,rfl,zX h⟩) htake)
  | exact zW (m:=Builtin.Tuple.tupleExact _) (wpAny_newObj_type (zW (zX (zX ⟨_,rfl,zX h⟩))) htake)
  | exact zW (zW (m:=Builtin.Tuple.tupleExact _) (wpAny_newObj_type (zX (zX ⟨_,rfl,zX h⟩)) htake))
  | exact zW (zW (m:=Builtin.Tuple.tupleExact _) (wpAny_newObj_type (zX ⟨_,rfl,zX h⟩) htake))
end
end HT
namespace L2
open PySem PySem.Spec PyProof.Rows
abbrev TO:=St->Hp->(Option Int->Hp->Prop)->Prop
def PO(X:Cx)(e:Option Expr)(t:TO):Prop :=
 ∀ (pins:List (Addr×Obj)) (s:Shared) (σ:St) (H:Hp) (Q:Option Int->Hp->Prop),Inv X pins σ H s->t σ H Q ->
  wpAny (model X.prog X.w) X.A (evalPart e X.env) (fun u s'=>∃o H',Inv X pins σ H' s'/\IsPart u o/\Q o H') X.xe s
def Jq:TO:=fun _ H Q=>Q none H
def Oc(t:TE):TO:=fun σ H Q=>t σ H fun x H1=>∃i,x=.int i/\Q (some i) H1
theorem intsAre_of{ns:List Int}:∀ {us:List Value},aB (ns.map V.int) us->IntsAre us ns:=by
 induction ns with
 | nil=>intro us r;rw[List.map_nil] at r;cases r;exact .nil
 | cons n ns ih =>
  intro us r
  rw[zI] at r
  cases r with
  | cons r1 r2 =>
   obtain⟨t,e⟩:=r1
   subst e
   exact .cons n t (ih r2)
section
variable {X:Cx}{e:Expr}{te:TE}{lo hi:Option Expr}{tl th:TO}{pos p2:Pos}
theorem HU:PO X none Jq:=by
 intro pins s σ H Q I h
 rw[evalPart_none]
 exact zX ⟨none,H,I,.none,h⟩
theorem pI(h:PE X e te):PO X (some e) (Oc te):=by
 intro pins s σ H Q I hw
 rw[evalPart_some]
 refine bW (h pins s σ H _ I hw) fun u s1 ⟨x,H1,I1,r1,q1⟩=>?_
 obtain⟨i,rfl,q⟩:=q1
 obtain⟨t,rfl⟩:=r1
 exact⟨some i,H1,I1,.int i t,q⟩
def KO(X:Cx)(r:V->Option Int->Option Int->Hp->VK->Prop):Prop :=
 ∀ (pins:List (Addr×Obj)) (s:Shared) (σ:St) (H:Hp) (x:V) (v vl vu:Value) (lo hi:Option Int) (sl:Addr) (Q:VK),Inv X pins σ H s->RelV x v->s.heap.IsSliceOf sl vl vu .none->IsPart vl lo->IsPart vu hi->r x lo hi H Q ->
  ∃T id,typeLookup (.type T) "__getitem__"=pure (some (.builtin id))/\s.TypeIs v T/\wpAny (model X.prog X.w) X.A (getItem v (.ref sl)) (EP X pins σ Q) X.xe s
theorem KO.or{r r':V->Option Int->Option Int->Hp->VK->Prop}(h:KO X r)(h':KO X r'):KO X (fun x lo hi H Q=>r x lo hi H Q\/r' x lo hi H Q):=by
 intro pins s σ H x v vl vu lo hi sl Q I rx hs pl pu q
 rcases q with q|q
 ·exact h pins s σ H x v vl vu lo hi sl Q I rx hs pl pu q
 ·exact h' pins s σ H x v vl vu lo hi sl Q I rx hs pl pu q
def Qx(r:V->Option Int->Option Int->Hp->VK->Prop)(te:TE)(tl th:TO):TE:=fun σ H Q=>te σ H fun x H1=>tl σ H1 fun l H2=>th σ H2 fun u H3=>r x l u H3 Q
theorem EA{r:V->Option Int->Option Int->Hp->VK->Prop}(hr:KO X r)(he:PE X e te)(hl:PO X lo tl)(hu:PO X hi th):PE X (.Subscript e (.Slice lo hi none p2) pos) (Qx r te tl th):=by
 intro pins s σ H Q I h
 refine Subscript_ (bW (he pins s σ H _ I h) fun v s1 ⟨x,H1,I1,r1,q1⟩=>?_)
 refine wpAny_Slice (bW (hl pins s1 σ H1 _ I1 q1) fun vl s2 ⟨l,H2,I2,pl,q2⟩=>bW (hu pins s2 σ H2 _ I2 q2) fun vu s3 ⟨u,H3,I3,pu,q3⟩=>?_)
 rw[evalPart_none]
 refine zX ?_
 have I4:Inv X pins σ H3 { s3 with heap:=s3.heap.push { cls:=.type "slice",data:=.fields #[vl,vu,.none] } }:=I3.kept (t':=s3.toks) fun b ob q=>zV _ q
 obtain⟨T,id,hT,ht,hg⟩:=hr pins { s3 with heap:=s3.heap.push { cls:=.type "slice",data:=.fields #[vl,vu,.none] } } σ H3 x v vl vu l u s3.heap.objs.size Q I4 r1 (Heap.IsSliceOf.new ..) pl pu q3
 show wpAny (model X.prog X.w) X.A (subscriptTail e (.Slice lo hi none p2) v (.ref s3.heap.objs.size)) (EP X pins σ Q) X.xe { s3 with heap:=s3.heap.push { cls:=.type "slice",data:=.fields #[vl,vu,.none] } }
 exact tail_any (ops:=[.ref s3.heap.objs.size,v]) ht hT hg (by with_unfolding_all rfl)
def Kl(xs:List V)(lo hi:Option Int):List V:=(xs.drop (HT.dQ xs.length 0 lo)).take (HT.dQ xs.length xs.length hi - HT.dQ xs.length 0 lo)
theorem xm(xs:List V)(lo hi:Option Int):(Kl xs lo hi).length<=xs.length:=by
 unfold Kl
 rw[List.length_take,List.length_drop]
 omega
def PD(K:W.Frag):V->Option Int->Option Int->Hp->VK->Prop:=fun x lo hi H Q=>∃a xs,x=.ref a/\ji K H a xs /\
 ¬ (HT.dQ xs.length 0 lo=0/\HT.dQ xs.length xs.length hi=xs.length)/\∀p,H p=none->Q (.ref p) (upd H p (.tup (Kl xs lo hi)))
theorem LU:KO X (PD X.K):=by
 intro pins s σ H x v vl vu lo hi sl Q I rx hs pl pu h
 obtain⟨a,xs,rfl,hx,hw,q⟩:=h
 cases rx
 obtain⟨its,r,ht,hz⟩:=I.tuple hx
 have hlen:its.toArray.size=xs.length:=by rw[zH];exact r.length.symm
 refine⟨"tuple",_,PyProof.Rows.slot_tuple_getitem.lookup,ht.typeIs,?_⟩
 refine HT.nG ht hs pl pu (by rw[hlen];exact hw) ?_ (by rw[hlen];exact hz)
 rw[hlen]
 refine⟨.ref s.heap.objs.size,_,I.laid (t':=s.toks) (o:=.tup (Kl xs lo hi)) (fun b ob q=>zV _ q) (Nat.le_refl _) ?_,rfl,q _ (I.hok.fresh (Nat.le_refl _))⟩
 exact⟨yE (xm xs lo hi) hz,_,(r.drop (HT.dQ xs.length 0 lo)).take (HT.dQ xs.length xs.length hi - HT.dQ xs.length 0 lo),nU.new _ _⟩
def NQ(K:W.Frag):R2:=fun x y H Q=>∃a b xs ys,x=.ref a/\y=.ref b/\ji K H a xs/\ji K H b ys/\xs≠[]/\xs.length+ys.length<=sizeLine /\
 (ys=[]->Q (.ref a) H)/\(ys≠[]->∀p,H p=none->Q (.ref p) (upd H p (.tup (xs++ys))))
theorem aB.nil_iff{xs:List V}{us:List Value}(r:aB xs us):us=[]↔xs=[]:=by
 cases r with
 | nil=>simp
 | cons _ _=>simp
theorem Ke:i4 X (binaryOp .Add) (NQ X.K):=by
 intro pins s σ H x y v u Q I rx ry h
 obtain⟨a,b,xs,ys,rfl,rfl,ha,hb,hx,hz,q1,q2⟩:=h
 cases rx
 cases ry
 obtain⟨its,r1,p1,_⟩:=I.tuple ha
 obtain⟨its2,r2,p2,_⟩:=I.tuple hb
 refine HT.IB p1 p2 (fun z=>hx (r1.nil_iff.mp z)) (fun z=>⟨.ref a,H,I,rfl,q1 (r2.nil_iff.mp z)⟩) (fun z=>?_) (by rw[<- r1.length,<- r2.length];exact hz)
 refine⟨.ref s.heap.objs.size,_,I.laid (t':=s.toks) (o:=.tup (xs++ys)) (fun b ob q=>zV _ q) (Nat.le_refl _) ?_,rfl,q2 (fun w=>z (r2.nil_iff.mpr w)) _ (I.hok.fresh (Nat.le_refl _))⟩
 exact⟨by rw[zN];exact hz,_,r1.append r2,nU.new _ _⟩
end
def HL(n:Nat)(i:Int):Option Nat:=if 0<=i then (if i < n then some i.toNat else none) else if -(n:Int)<=i then some (i+n).toNat else none
def wc{α:Type}(xs:List α)(i:Int):Option α:=(HL xs.length i).bind fun j=>xs[j]?
theorem B1{n:Nat}{i:Int}{j:Nat}(h:HL n i=some j):seqIndex? i n=some j/\j < n/\-(n:Int)<=i/\i < n:=by
 unfold HL at h
 by_cases h0:0<=i
 ·rw[if_pos h0] at h
  by_cases h1:i < n
  ·rw[if_pos h1] at h
   have e:i.toNat=j:=Option.some.inj h
   exact⟨by rw[seqIndex_of h0 h1,e],by omega,by omega,h1⟩
  ·rw[if_neg h1] at h;cases h
 ·rw[if_neg h0] at h
  by_cases h1:-(n:Int)<=i
  ·rw[if_pos h1] at h
   have e:(i+n).toNat=j:=Option.some.inj h
   exact⟨by rw[seqIndex_neg (by omega) h1,e],by omega,h1,by omega⟩
  ·rw[if_neg h1] at h;cases h
theorem wo{α:Type}{xs:List α}{i:Int}{v:α}(h:wc xs i=some v):∃j,seqIndex? i xs.length=some j/\xs[j]?=some v/\j < xs.length/\-(xs.length:Int)<=i/\i < xs.length:=by
 unfold wc at h
 cases e:HL xs.length i with
 | none=>rw[e] at h;cases h
 | some j =>
  rw[e] at h
  obtain⟨h1,h2,h3,h4⟩:=B1 e
  exact⟨j,h1,h,h2,h3,h4⟩
theorem uM{α:Type}{xs:List α}{j:Nat}{v:α}(h:xs[j]?=some v):wc xs (j:Int)=some v:=by
 have hj:j < xs.length:=(zU.mp h).1
 have e:HL xs.length (j:Int)=some j:=by
  unfold HL
  rw[if_pos (by omega),if_pos (by omega)];simp
 unfold wc;rw[e];exact h
def pS(b:Expr):Prop:=∀o i,subscripted b false o i=operate [o,i] (getItem o i)
def IZ(X:Cx)(r:R2):Prop :=
 ∀ (value slice:Expr) (pins:List (Addr×Obj)) (s:Shared) (σ:St) (H:Hp) (x y:V) (v u:Value) (Q:VK),Inv X pins σ H s->RelV x v->RelV y u->r x y H Q ->
  subscripted slice false v u=operate [v,u] (getItem v u)->wpAny (model X.prog X.w) X.A (subscriptTail value slice v u) (EP X pins σ Q) X.xe s
def Qa(X:Cx)(id:String)(r:V->List V->Hp->VK->Prop):Prop :=
 ∀ (pins:List (Addr×Obj)) (s:Shared) (σ:St) (H:Hp) (x:V) (xs:List V) (v:Value) (us:List Value) (Q:VK),Inv X pins σ H s->RelV x v->aB xs us->r x xs H Q ->
  wpAny (model X.prog X.w) X.A (call (.builtin id) (v::us)) (EP X pins σ Q) X.xe s
section
variable {X:Cx}{a b:Expr}{ta tb:TE}{pos:Pos}
theorem IZ.or{r r':R2}(h:IZ X r)(h':IZ X r'):IZ X (fun x y H Q=>r x y H Q\/r' x y H Q):=by
 intro value slice pins s σ H x y v u Q I rx ry q hs
 rcases q with q|q
 ·exact h value slice pins s σ H x y v u Q I rx ry q hs
 ·exact h' value slice pins s σ H x y v u Q I rx ry q hs
theorem KE{r:R2}(hr:IZ X r)(ha:PE X a ta)(hb:PE X b tb)(hs:pS b):PE X (.Subscript a b pos) (N8 r ta tb):=by
 intro pins s σ H Q I h
 exact Subscript_ (MJ ha hb I h fun v u s2 x y H2 I2 rx ry q=>hr a b pins s2 σ H2 x y v u Q I2 rx ry q (hs _ _))
def N7(K:W.Frag):R2:=fun x y H Q=>∃p xs i v,x=.ref p/\y=.int i/\iU K H p xs/\wc xs i=some v/\Q v H
def NV(K:W.Frag):R2:=fun x y H Q=>∃p xs i v,x=.ref p/\y=.int i/\ji K H p xs/\wc xs i=some v/\Q v H
def Og:R2:=fun x y H Q=>∃z i c,x=.str z/\y=.int i/\z.length<=sizeLine/\wc z.cps.toList i=some c/\Q (.str ⟨#[c]⟩) H
theorem BD:IZ X (N7 X.K):=by
 intro value slice pins s σ H x y v u Q I rx ry h hs
 obtain⟨p,xs,i,z,rfl,rfl,hq,he,q⟩:=h
 cases rx
 obtain⟨t,rfl⟩:=ry
 obtain⟨its,r,pl,hz⟩:=I.list hq
 obtain⟨j,h1,h2,h3,h4,h5⟩:=wo he
 obtain⟨w,ew,rw'⟩:=r.get h2
 have hl:=r.length
 have hn:=qo
 have fin:EP X pins σ Q w s:=⟨z,H,I,rw',q⟩
 by_cases h0:0<=i
 ·have hj:i.toNat=j:=by
   rw[seqIndex_of h0 h5] at h1
   exact Option.some.inj h1
  exact item_listR pl.isList h0 (by omega) (by rw[hj];simpa using ew) fin hs
 ·have hj:(i+(its.toArray.size:Int)).toNat=j:=by
   rw[seqIndex_neg (by omega) h4] at h1
   rw[zH,<- hl]
   exact Option.some.inj h1
  exact subscriptTail_builtinR (x:=w) pl.isList.typeIs slot_list_getitem.lookup
   (wpAny_getItem_list_neg (Q:=fun r s'=>r=w/\EP X pins σ Q r s') pl.isList (by omega) (by rw[zH]<;>omega) (by omega) (by rw[hj];simpa using ew) ⟨rfl,fin⟩) hs
theorem qb:IZ X (NV X.K):=by
 intro value slice pins s σ H x y v u Q I rx ry h hs
 obtain⟨p,xs,i,z,rfl,rfl,hq,he,q⟩:=h
 cases rx
 obtain⟨t,rfl⟩:=ry
 obtain⟨its,r,pl,hz⟩:=I.tuple hq
 obtain⟨j,h1,h2,h3,h4,h5⟩:=wo he
 obtain⟨w,ew,rw'⟩:=r.get h2
 have hl:=r.length
 have hn:=qo
 have fin:EP X pins σ Q w s:=⟨z,H,I,rw',q⟩
 exact subscriptTail_builtinR (x:=w) pl.typeIs slot_tuple_getitem.lookup
  (getItem_tuple (j:=j) (Q:=fun r s'=>r=w/\EP X pins σ Q r s') pl (by omega) (by omega) (by rw[zH,<- hl];exact h1) (by simpa using ew) ⟨rfl,fin⟩) hs
theorem K8:IZ X Og:=by
 intro value slice pins s σ H x y v u Q I rx ry h hs
 obtain⟨z,i,c,rfl,rfl,hz,he,q⟩:=h
 obtain⟨t,rfl⟩:=rx
 obtain⟨t',rfl⟩:=ry
 obtain⟨j,h1,h2,h3,h4,h5⟩:=wo he
 have hl:z.cps.toList.length=z.length:=by simp[Str.length]
 rw[hl] at h1 h4 h5
 have hn:=qo
 exact tail_any (typeIs_str s z t) slot_str_getitem.lookup (getItem_str (c:=c) (by
  have e1:decide (i < -(2 ^ 63:Int))=false:=yA (by omega)
  have e2:decide (i >= 2 ^ 63)=false:=yA (by omega)
  rw[e1,e2,Bool.or_false]) (by rw[h1];simpa using h2) ⟨.str ⟨#[c]⟩,H,I.tok _,⟨_,rfl⟩,q⟩) hs
def Qh(K:W.Frag):R2:=fun x y H Q=>N7 K x y H Q\/NV K x y H Q\/Og x y H Q
theorem LM:IZ X (Qh X.K):=BD.or (qb.or K8)
theorem AB(its:List Value)(n j:Nat)(u:Value):Obj.mapSeq (·.setIfInBounds j u) { cls:=.type "list",data:=.seq its.toArray n }={ cls:=.type "list",data:=.seq (its.set j u).toArray n }:=by
 simp[Obj.mapSeq]
theorem Inv.lst{pins:List (Addr×Obj)}{σ:St}{H:Hp}{s:Shared}{p:Addr}{xs:List V}(I:Inv X pins σ H s)(h:H p=some (.lst xs)) :
  ∃ (its:List Value) (n:Nat),aB xs its/\s.heap.get? p=some { cls:=.type "list",data:=.seq its.toArray n }/\xs.length<=sizeLine:=by
 obtain⟨z,its,n,r,e⟩:=I.hok p _ h
 exact⟨its,n,r,e,z⟩
theorem Inv.lstUpd{pins:List (Addr×Obj)}{σ:St}{H:Hp}{s:Shared}{p:Addr}{xs ys:List V}{its its':List Value}{n n':Nat}{f:Obj->Obj}(I:Inv X pins σ H s)(h:H p=some (.lst xs))
  (ho:s.heap.get? p=some { cls:=.type "list",data:=.seq its.toArray n }) (hf:f { cls:=.type "list",data:=.seq its.toArray n }={ cls:=.type "list",data:=.seq its'.toArray n' }) (r:aB ys its') (hz:ys.length<=sizeLine) (t:Nat) :
  Inv X pins σ (upd H p (.lst ys)) { s with heap:=s.heap.update p f,toks:=t }:=by
 have e:(s.heap.update p f).get? p=some { cls:=.type "list",data:=.seq its'.toArray n' }:=by
  rw[Heap.get?_update_self f ho (by rw[hf]<;>rfl),hf]
 refine I.write (x:=p) (e:=p) (by rw[h];trivial) (.inl rfl) (fun b u hb q=>(Heap.get?_update_other _ _ (Ne.symm hb)).trans q) ⟨_,e⟩ ?_
 exact⟨hz,its',n',r,e⟩
def NZ:V->V->V->Hp->(Hp->Prop)->Prop:=fun o i v H Q=>∃p xs k j,o=.ref p/\i=.int k/\H p=some (.lst xs)/\HL xs.length k=some j/\Q (upd H p (.lst (xs.set j v)))
theorem set_list:Oz X NZ:=by
 intro pins s σ H o i v ov iv u Q I ro ri rv h
 obtain⟨p,xs,k,j,rfl,rfl,hp,hj,q⟩:=h
 cases ro
 obtain⟨t,rfl⟩:=ri
 obtain⟨its,n,r,ho,hz⟩:=I.lst hp
 obtain⟨h1,h2,h3,h4⟩:=B1 hj
 have hl:=r.length
 have hn:=qo
 have I':Inv X pins σ (upd H p (.lst (xs.set j v))) { s with heap:=s.heap.update p (Obj.mapSeq (·.setIfInBounds j u)) } :=
  I.lstUpd hp ho (AB its n j u) (r.set rv j) (by rw[yD];exact hz) s.toks
 by_cases h0:0<=k
 ·have hk:k.toNat=j:=by
   rw[seqIndex_of h0 h4] at h1
   exact Option.some.inj h1
  exact W.ki_setAt ho h0 (by omega) (by rw[zH,<- hl];exact h4) (by rw[hk];exact⟨_,I',q⟩)
 ·have hk:(k+(its.toArray.size:Int)).toNat=j:=by
   rw[seqIndex_neg (by omega) h3] at h1
   rw[zH,<- hl]
   exact Option.some.inj h1
  exact W.ki_setBack ho (by omega) (by rw[zH,<- hl];exact h3) (by omega) (by rw[hk];exact⟨_,I',q⟩)
theorem vv:eL X (.builtin "len") (fun xs H Q=>∃p ys,xs=[.ref p]/\(iU X.K H p ys\/ji X.K H p ys)/\Q (.int ys.length) H):=by
 intro pins s σ H xs us Q I r h
 obtain⟨p,ys,rfl,hq,q⟩:=h
 obtain⟨u,rfl,rx⟩:=vals1 r
 cases rx
 have hn:=qo
 rcases hq with hq|hq
 ·obtain⟨its,r',pl,hz⟩:=I.list hq
  have hlen:=r'.length
  exact Calls.call_len_list pl.isList (by simp only[zH]<;>omega) ⟨.int ys.length,H,I.tok _,⟨s.toks+1,by rw[zH,hlen]⟩,q⟩
 ·obtain⟨its,r',pl,hz⟩:=I.tuple hq
  have hlen:=r'.length
  exact len_tuple pl (by simp only[zH]<;>omega) ⟨.int ys.length,H,I.tok _,⟨s.toks+1,by rw[zH,hlen]⟩,q⟩
theorem sv:eL X (.type "tuple") (fun xs H Q=>∃p ys,xs=[.ref p]/\((iU X.K H p ys/\∀l,H l=none->Q (.ref l) (upd H l (.tup ys)))\/(ji X.K H p ys/\Q (.ref p) H))):=by
 intro pins s σ H xs us Q I r h
 obtain⟨p,ys,rfl,h⟩:=h
 obtain⟨u,rfl,rx⟩:=vals1 r
 cases rx
 rcases h with ⟨hq,q⟩|⟨hq,q⟩
 ·obtain⟨its,r',pl,hz⟩:=I.list hq
  have hlen:=r'.length
  refine call_tuple_list pl.isList (fun h' kp=>?_) (by simp only[zH]<;>omega)
  have I1:Inv X pins σ H { s with heap:=h' }:=I.kept (t':=s.toks) kp
  have I2:Inv X pins σ (upd H h'.objs.size (.tup ys)) { s with heap:=h'.push { cls:=.type "tuple",data:=.seq its.toArray } } :=
   I1.laid (t':=s.toks) (fun b o e=>zV _ e) (Nat.le_refl _) (show fW X.prog X.w _ _ _ (.tup ys) from ⟨hz,its,r',nU.new _ _⟩)
  exact⟨.ref h'.objs.size,_,I2,rfl,q _ (I1.hok.fresh (Nat.le_refl _))⟩
 ·obtain⟨its,r',pl,hz⟩:=I.tuple hq
  exact call_tuple_same pl ⟨.ref p,H,I,rfl,q⟩
def Qj(K:W.Frag)(T:String)(x:V)(H:Hp):Prop:=match x with
 | .str _=>T="str"
 | .int _=>T="int"
 | .ref p=>(T="list"/\∃xs,iU K H p xs)\/(T="tuple"/\∃xs,ji K H p xs) \/
   (T="dict"/\((∃kvs,H p=some (.dK kvs))\/∃kvs,H p=some (.dT kvs)))\/(T="set"/\∃S n,H p=some (.set S n))
 | _=>False
theorem Lf{pins:List (Addr×Obj)}{σ:St}{H:Hp}{s:Shared}{T:String}{x:V}{v:Value}(I:Inv X pins σ H s)(r:RelV x v)(ty:Qj X.K T x H) :
  s.TypeIs v T/\∀a,v=.ref a->∃ob,s.heap.get? a=some ob/\ob.dict=none:=by
 cases x with
 | str z =>
  obtain⟨t,rfl⟩:=r
  cases (show T="str" from ty)
  exact⟨typeIs_str s z t,fun _ e=>nomatch e⟩
 | int i =>
  obtain⟨t,rfl⟩:=r
  cases (show T="int" from ty)
  exact⟨typeIs_int s i t,fun _ e=>nomatch e⟩
 | ref p =>
  cases r
  rcases ty with ⟨rfl,xs,hq⟩|⟨rfl,xs,hq⟩|⟨rfl,hk⟩|⟨rfl,S,n,hk⟩
  ·obtain⟨its,_,pl,_⟩:=I.list hq
   refine⟨pl.isList.typeIs,fun a e=>?_⟩
   cases e
   obtain⟨o,n,e,c,hd,_⟩:=pl
   exact⟨o,e,hd⟩
  ·rcases hq with hq|⟨o,its,n,hk,hc,hd,_⟩
   ·obtain⟨_,_,_,⟨o,e1,e2,_⟩,o2,e3,e4⟩:=hq.ok I.hok
    exact⟨⟨o,e1,e2⟩,fun a e=>by cases e;exact⟨o2,e3,e4⟩⟩
   ·exact⟨⟨o,I.kIn p o hk,hc⟩,fun a e=>by cases e;exact⟨o,I.kIn _ o hk,hd⟩⟩
  ·have z:∃o,s.heap.get? p=some o/\o.ExactDict:=by
    rcases hk with ⟨kvs,hk⟩|⟨kvs,hk⟩
    ·obtain⟨_,_,_,_,o,_,_,e,ex,_⟩:=I.hok p _ hk
     exact⟨o,e,ex⟩
    ·obtain⟨_,_,_,_,o,_,_,e,ex,_⟩:=I.hok p _ hk
     exact⟨o,e,ex⟩
   obtain⟨o,e,ex⟩:=z
   refine⟨⟨o,e,ex.1⟩,fun a e2=>?_⟩
   cases e2
   exact⟨o,e,ex.2.1⟩
  ·obtain⟨o,_,_,_,e,ex,_⟩:=I.hok p _ hk
   refine⟨⟨o,e,ex.1⟩,fun a e2=>?_⟩
   cases e2
   exact⟨o,e,ex.2.1⟩
 | _=>exact False.elim ty
def Qt(K:W.Frag)(T:String)(r:V->List V->Hp->VK->Prop)(to:TE)(t:TA):TE:=fun σ H Q=>to σ H fun x H1=>Qj K T x H1/\t σ H1 fun xs H2=>r x xs H2 Q
variable {o e:Expr}{es:List Expr}{to:TE}{t:TA}{name:Str}{apos cpos:Pos}{T id:String}{r:V->List V->Hp->VK->Prop}
theorem xW(pa:PlainAttrs T)(slot:Slot T name id)(hty:typeOf (.builtin id)=pure (.type "method_descriptor"))(hm:Qa X id r)(ho:PE X o to)(ha:PA X (e::es) t)
  (hbase:attributeBase o name X.env (eval o X.env)=eval o X.env:=by rfl)
  (hfew:((backTo cpos (starEach (e::es) X.env)).all (fun x=>!x.1)&&(backToKw cpos (keywordEach [] X.env)).all (fun x=>x.1.isSome)
   &&decide ((e::es).length+([]:List Keyword).length+(if ([]:List Keyword).isEmpty then 0 else 1) < 30))=true:=by rfl)
  (hline:(apos.endLine == cpos.line)=true:=by rfl) (hs:starEach (e::es) X.env=(false,eval e X.env)::starEach es X.env:=by rfl) (hplain:(backTo cpos (starEach es X.env)).any (·.1)=false:=by rfl) :
  PE X (.Call (.Attribute o name apos) (e::es) [] cpos) (Qt X.K T r to t):=by
 intro pins s σ H Q I h
 refine wpAny_Call_method_late hbase hfew hline rfl (bW (ho pins s σ H _ I h) fun v s1 ⟨x,H1,I1,r1,ty,q1⟩=>?_)
 obtain⟨h1,h2⟩:=Lf I1 r1 ty
 refine⟨T,id,pa,slot,hty,h1,h2,?_⟩
 have hA:=ha cpos pins s1 σ H1 _ I1 q1
 rw[hs] at hA ⊢
 refine Calls.callWith_builtin (by show (false||(backTo cpos (starEach es X.env)).any (·.1))=false;rw[hplain]<;>rfl) (Calls.evalArgs_plain ?_)
 exact bW hA fun us s2 ⟨vs,H2,I2,r2,q2⟩=>hm pins s2 σ H2 x vs v us Q I2 r1 r2 q2
/- xs.append(e),list.index on a module's tuple .. are Qa facts of 06m -/
end
def NI(X:Cx)(id:String)(r:V->List V->Hp->VK->Prop):Prop :=
 ∀ (pins:List (Addr×Obj)) (s:Shared) (σ:St) (H:Hp) (x:V) (xs:List V) (v:Value) (us:List Value) (Q:VK),Inv X pins σ H s->RelV x v->aB xs us->r x xs H Q ->
  wpAny (model X.prog X.w) X.A (call (.builtin id) (v::us)) (EP X pins σ Q) X.xe s
theorem aB.one:∀ {x:V}{us:List Value},aB [x] us->∃u,us=[u]/\RelV x u
 | _,_,.cons r .nil=>⟨_,rfl,r⟩
theorem aB.two:∀ {x y:V}{us:List Value},aB [x,y] us->∃u v,us=[u,v]/\RelV x u/\RelV y v
 | _,_,_,.cons r (.cons q .nil)=>⟨_,_,rfl,r,q⟩
theorem aB.reverse{xs:List V}{us:List Value}(h:aB xs us):aB xs.reverse us.reverse:=by
 induction h with
 | nil=>exact .nil
 | cons r t ih=>rw[List.reverse_cons,List.reverse_cons];exact aB.append ih (.cons r .nil)
theorem aB.rep{xs:List V}{us:List Value}(h:aB xs us):∀k:Nat,aB (List.replicate k xs).flatten (List.replicate k us).flatten
 | 0=>.nil
 | k+1=>by
  rw[List.replicate_succ,List.replicate_succ,List.flatten_cons,List.flatten_cons]
  exact aB.append h (aB.rep h k)
theorem foldl_rep(its:List Value):∀ (k:Nat) (acc:List Value),
  List.foldl (fun x1 x2=>x1++x2) acc.toArray (List.replicate k its.toArray)=(acc++(List.replicate k its).flatten).toArray
 | 0,acc=>by simp
 | k+1,acc=>by
  have e:acc.toArray++its.toArray=(acc++its).toArray:=by simp
  have e2:(acc++its)++(List.replicate k its).flatten=acc++(List.replicate (k+1) its).flatten:=by
   rw[List.replicate_succ,List.flatten_cons,List.append_assoc]
  rw[<- e2,<- foldl_rep its k (acc++its),<- e,List.replicate_succ,yK]
section
variable {X:Cx}{pins:List (Addr×Obj)}{σ:St}{H:Hp}{s:Shared}{l b:Addr}{xs ys zs:List V}
theorem Inv.lset{its its':List Value}{n:Nat}{f:Array Value->Array Value}{t':Nat}(I:Inv X pins σ H s)(hH:H l=some (.lst xs))
  (e:s.heap.get? l=some { cls:=.type "list",data:=.seq its.toArray n }) (hf:f its.toArray=its'.toArray) (hv:aB ys its') (hz:ys.length<=sizeLine) :
  Inv X pins σ (upd H l (.lst ys)) { s with heap:=s.heap.update l (Obj.mapSeq f),toks:=t' }:=by
 have q:=PySem.IsL.update e f
 rw[hf] at q
 refine I.write (x:=l) (e:=l) (by rw[hH];exact trivial) (.inl rfl) (fun b' u hb hu=>(Heap.get?_update_other s.heap (Obj.mapSeq f) (Ne.symm hb)).trans hu) ⟨_,q⟩ ?_
 exact⟨hz,its',_,hv,q⟩
theorem Inv.lnew{its:List Value}{t':Nat}(I:Inv X pins σ H s)(hv:aB ys its)(hz:ys.length<=sizeLine) :
  Inv X pins σ (upd H s.heap.objs.size (.lst ys)) { s with heap:=s.heap.push { cls:=.type "list",data:=.seq its.toArray },toks:=t' } :=
 I.laid (fun _ _ q=>zV _ q) (Nat.le_refl _) ⟨hz,its,0,hv,zY _ rfl⟩
theorem Inv.fresh(I:Inv X pins σ H s):H s.heap.objs.size=none:=I.hok.fresh (Nat.le_refl _)
theorem Inv.lstM(I:Inv X pins σ H s)(hH:H l=some (.lst xs)):xs.length<=sizeLine/\∃ (its:List Value) (n:Nat),aB xs its/\xs.length=its.length/\s.heap.get? l=some { cls:=.type "list",data:=.seq its.toArray n }:=by
 obtain⟨z,its,n,r,e⟩:=I.hok l _ hH
 exact⟨z,its,n,r,r.length,e⟩
theorem Gz{n:Nat}(h:n<=sizeLine):Builtin.List.listTooLong n=false:=by
 unfold Builtin.List.listTooLong
 exact yA (by omega)
end
section
variable {X:Cx}
def JG:V->List V->Hp->VK->Prop:=fun x vs H Q=>∃l xs y,x=.ref l/\vs=[y]/\H l=some (.lst xs)/\xs.length < sizeLine/\Q .non (upd H l (.lst (xs++[y])))
theorem tY:NI X "list.append" JG:=by
 intro pins s σ H x vs v us Q I rx rv h
 obtain⟨l,xs,y,rfl,rfl,hH,hz,q⟩:=h
 cases rx
 obtain⟨u,rfl,ru⟩:=rv.one
 obtain⟨z,its,n,r,hl,e⟩:=I.lstM hH
 refine call_meets F.slot_list_append ⟨_,e,rfl⟩ F.entry_list_append (F.args_list_append_2 _ _) (PySem.list_append l its.toArray n u (by rw[zH];omega)) ⟨e,?_⟩
 refine⟨.non,_,I.lset (its':=its++[u]) hH e (by simp) (r.append (.cons ru .nil)) ?_,rfl,q⟩
 rw[zN,List.length_singleton]
 omega
def J3:V->List V->Hp->VK->Prop:=fun x vs H Q=>∃l b xs zs,x=.ref l/\vs=[.ref b]/\H l=some (.lst xs)/\H b=some (.lst zs)/\xs.length+zs.length<=sizeLine/\Q .non (upd H l (.lst (xs++zs)))
theorem Dy:NI X "list.extend" J3:=by
 intro pins s σ H x vs v us Q I rx rv h
 obtain⟨l,b,xs,zs,rfl,rfl,hH,hB,hz,q⟩:=h
 cases rx
 obtain⟨u,rfl,ru⟩:=rv.one
 cases ru
 obtain⟨z,its,n,r,hl,e⟩:=I.lstM hH
 obtain⟨z2,its2,n2,r2,hl2,e2⟩:=I.lstM hB
 have hsz:its.toArray.size+its2.toArray.size<=sizeLine:=by rw[zH,zH];omega
 have hlong:¬ (!its.toArray.isEmpty&&Builtin.List.listTooLong (its.toArray.size+its2.toArray.size))=true:=by
  rw[Gz hsz,Bool.and_false]
  exact Bool.false_ne_true
 refine call_meets F.slot_list_extend ⟨_,e,rfl⟩ F.entry_list_extend (F.args_list_extend_2 _ _)
  (AutoSeq1.list_extend_list_list_0 l its.toArray n b its2.toArray n2 hlong (by rw[zH];omega) (by omega)) ⟨e,e2,?_⟩
 refine⟨.non,_,I.lset (its':=its++its2) hH e (by simp) (r.append r2) ?_,rfl,q⟩
 rw[zN]
 omega
theorem len_rep{α:Type}(xs:List α)(k:Nat):(List.replicate k xs).flatten.length=k * xs.length:=by
 induction k with
 | zero=>simp
 | succ k ih=>rw[List.replicate_succ,List.flatten_cons,zN,ih,Nat.succ_mul,Nat.add_comm]
end
section
variable {prog:Program}{w:World}{A:Around}{E:Value->Shared->Prop}{s:Shared}
end
section
variable {X:Cx}
end
end L2
namespace Att
open PySem PySem.W PySem.Calls PyProof.Rows
theorem ints_of_wellAll{P:Params}{h:Heap}:∀ (ns:List Int) (vs:List Value),WellAll P h vs (ns.map WData.int)->IntsAre vs ns:=by
 intro ns
 induction ns with
 | nil =>
  intro vs w
  rw[List.map_nil] at w
  cases w
  exact .nil
 | cons n ns ih =>
  intro vs w
  rw[zI] at w
  cases w with
  | cons a b =>
   cases a
   exact .cons _ _ (ih _ b)
theorem script_of{l:OpenLaw}{n:Nat}(hn:l.most=some n){P:Params}{h:Heap}{args:List WData}{vals:List Value}
  (hpre:l.row.toRowW.claim.pre args=true) (hwl:WellAll P h vals args) :
  ∃a vs ns,vals=[Value.ref a]/\args=[WData.list (ns.map WData.int)]/\h.get? a=some { cls:=.type "list",data:=.seq vs.toArray }/\IntsAre vs ns/\ns.length<=n:=by
 have hsh:WShape.hasAll [] args [.list .int]=true:=(pre_splitW hpre).1
 have hc:l.pre.holds [] { args:=args }=true:=(pre_splitW hpre).2
 obtain⟨d,r,rfl,h1,h2⟩:=hasAllW_cons hsh
 obtain rfl:=hasAllW_nil h2
 obtain⟨xs,rfl,h3⟩:=hasW_list h1
 obtain⟨ns,rfl⟩:=items_int h3
 have hlen:ns.length<=n:=by
  unfold OpenLaw.pre at hc
  have h4:(WTm.not (.lt (.lit (.int (n:Int))) (.len (.arg 0)))).holds [] { args:=[.list (ns.map .int)] }=true:=by
   have h4:=(holds_andW hc).1
   rw[hn] at h4
   exact h4
  have h5:=condW_of h4 (w_not (w_lt w_lit (w_len_list (w_arg rfl))))
  rw[zD] at h5
  refine Nat.le_of_not_lt fun q=>?_
  have q':(n:Int) < ((ns.length:Nat):Int):=by omega
  first
   | (rw[yB q'] at h5;exact absurd h5 (by decide))
   | (simp at h5;omega)
 cases hwl with
 | cons w1 w2 =>
  cases w2
  cases w1 with
  | list ho hall=>exact⟨_,_,ns,rfl,rfl,ho,ints_of_wellAll ns _ hall,hlen⟩
theorem post_true(l:OpenLaw)(args:List WData):l.row.toRowW.claim.post args (.bool true) args=true :=
 postW_of (r:=l.row.toRowW) (X:=(true == true))
  (show WShape.has [] (.bool true) .bool=true by first|rfl|decide|simp[WShape.has,WShape.arms,WShape.armsAll])
  (show (WTm.eq .res (.lit (.bool true))).value [] { args:=args,res:=some (.bool true),after:=args }=some (.bool (true == true)) from w_eq_bool (w_res rfl) w_lit) rfl
theorem attach_call{l:OpenLaw}{n:Nat}{q:Program}{loose:List Str}{XP:(Str->Option Value)->Heap->Prop}{YP:World->Heap->Prop}{d:DefRec}
  (hn:l.most=some n) (hdf:d.params.defaults=[])
  (call:∀ (w:World) (s₀ s₁:Shared) (mg mb:Str->Option Value) (fa:Addr) (o:Obj) (pm cd doc:Value) (a:Addr) (vs:List Value) (ns:List Int),
   Ground q loose [] XP w s₀ mg mb s₁.heap->YP w s₁.heap ->
   s₁.heap.get? fa=some o->o.data=.func (docDef d.name d.params d.body d.scope pm cd doc)->s₁.heap.CodeRec cd d.name->mg d.name=some (.ref fa) ->
   s₁.heap.get? a=some { cls:=.type "list",data:=.seq vs.toArray }->IntsAre vs ns->ns.length<=n->s₁.gens=#[] ->
   codeAny (model l.prog w) callerA (.call (.ref fa) ⟨[.ref a],[]⟩) (fun r s'=>r=.ok (.ret (.bool true))/\OldK s₁.heap s'.heap/\s'.os=s₁.os/\AllBare s'.gens) s₁) :
  WalkO q loose XP YP l.row.toRowW d [] (fun f vs=>PySem.call f vs):=by
 intro w s₀ s₁ mg mb G Y fa o pm cd doc dV kV ho hd hcd hD hmg hg args vals as hpre hlay hrd hwl hlo
 obtain rfl:dV=.none:=Dflts.none hD hdf
 obtain rfl:kV=.none:=Dflts.noKw hD
 obtain⟨a,vs,ns,rfl,rfl,hobj,hints,hlen⟩:=script_of hn hpre hwl
 refine enter_call (codeAny_mono (call w s₀ s₁ mg mb fa o pm cd doc a vs ns G Y ho (fd_plain hd) hcd hmg hobj hints hlen hg) fun r s' hq=>?_)
 obtain⟨rfl,h2,h3,h4⟩:=hq
 exact⟨.inl ⟨.bool true,.bool true,[],rfl,fun _=>rfl,.bool true,post_true l _,fun _=>⟨List.Pairwise.nil,fun _ hm=>(nomatch hm)⟩⟩,h2,h3,h4⟩
section
variable {prog:Program}{w:World}{A:Around}{E:Value->Shared->Prop}{s:Shared}{K:Frag}
end
end Att
namespace L2
open PySem PySem.Spec PyProof.Rows
theorem uq:∀ {vs:List Value}{ns:List Int},IntsAre vs ns->aB (ns.map V.int) vs
 | _,_,.nil=>.nil
 | _,_,.cons n t h=>.cons ⟨t,rfl⟩ (uq h)
abbrev Ms:Ep:=fun _ _ _ _ _ _=>False
abbrev E0:XK:=fun _ _ _=>False
theorem Kz{X:Cx}:A2 Ms X E0:=fun _ _ _ _ _ _ _ h=>h.elim
structure JN(K:W.Frag)(x qual:Str)(st:Stmt)(f:Addr)(fd:FuncData):Prop where
 ex:∃ (oc:Value) (od:Option Addr) (kV doc pm:Value) (an:Option Addr) (cdv ct:Value) (osl:Array (Option Value)),
  fd=W.fnOf x qual (iq st) (cC st) (aI st) .none kV doc pm an cdv ct/\K.lookup f=some ⟨oc,od,.func fd,osl⟩/\W.codeIn K cdv qual=true
 kp:W.keepIn K (.ref f)=true
section
variable {P:Program}{w:World}{K:W.Frag}{mg:Str->Option Value}{base:Heap}
theorem JN.binds{x qual:Str}{st:Stmt}{f:Addr}{fd:FuncData}{ps:List Str}(F:JN K x qual st f fd)
  (h:∀ (kV doc pm:Value) (an:Option Addr) (cdv ct:Value) (us:List Value),us.length=ps.length->bindArgs (W.fnOf x qual (iq st) (cC st) (aI st) .none kV doc pm an cdv ct) ⟨us,[]⟩=pure (ps.zip us)):Binds K fd ps []:=by
 obtain⟨oc,od,kV,doc,pm,an,cdv,ct,osl,rfl,lk,hcd⟩:=F.ex
 exact .all (h kV doc pm an cdv ct)
theorem vZ{x qual:Str}{st:Stmt}{f:Addr}{oc:Value}{od an:Option Addr}{osl:Array (Option Value)}{kV doc pm cdv ct:Value}(l:K.lookup f=some ⟨oc,od,.func (W.fnOf x qual (iq st) (cC st) (aI st) .none kV doc pm an cdv ct),osl⟩)
  (c:W.codeIn K cdv qual=true) (k:W.keepIn K (.ref f)=true):JN K x qual st f (W.fnOf x qual (iq st) (cC st) (aI st) .none kV doc pm an cdv ct):=⟨⟨oc,od,kV,doc,pm,an,cdv,ct,osl,rfl,l,c⟩,k⟩
end
section
variable {X:Cx}
end
theorem xR{A B:Prop}(h:B):if false=true then A else B:=by
 rw[if_neg Bool.false_ne_true]
 exact h
theorem yW{A B:Prop}(h:A):if true=true then A else B:=by
 rw[if_pos rfl]
 exact h
def aQ(H H':Hp):Prop:=∀b o,H b=some o->H' b=some o
theorem aQ.refl(H:Hp):aQ H H:=fun _ _ h=>h
theorem aQ.trans{H H1 H2:Hp}(a:aQ H H1)(b:aQ H1 H2):aQ H H2:=fun c o h=>b c o (a c o h)
theorem aQ.free{H H':Hp}(e:aQ H H'){l:Addr}(h:H' l=Option.none):H l=Option.none:=by
 cases q:H l with
 | none=>rfl
 | some o =>
  rw[e l o q] at h
  cases h
theorem aQ.seq{K:W.Frag}{H H':Hp}{a:Addr}{xs:List V}(e:aQ H H')(h:iU K H a xs):iU K H' a xs:=by
 rcases h with (h|⟨o,h⟩)|h
 ·exact .inl (.inl (e _ _ h))
 ·exact .inl (.inr ⟨o,e _ _ h⟩)
 ·exact .inr h
theorem bX:∀ (names:List (Str×NameKind)) (n:Nat) (acc:List (Str×Addr)),cellsFrom n names acc=cellsFrom n names []++acc
 | [],_,_=>rfl
 | (name,kind)::r,n,acc=>by
  unfold cellsFrom
  split
  ·rw[bX r (n+1) ((name,n)::acc),bX r (n+1) [(name,n)]]
   simp
  ·exact bX r n acc
theorem jY{α:Type}{x:Str}{c:α}:∀ {l m:List (Str×α)},(l++m).lookup x=some c->l.lookup x=some c\/(l.lookup x=none/\m.lookup x=some c)
 | [],_,h=>.inr ⟨rfl,h⟩
 | (k,v)::r,m,h=>by
  have ih:=@jY α x c r m
  rw[List.cons_append,yC] at h
  rw[yC]
  cases e:x == k with
  | true=>rw[e] at h;exact .inl h
  | false=>rw[e] at h;exact ih h
theorem jZ{α:Type}{x:Str}{c:α}:∀ {l m:List (Str×α)},l.lookup x=some c->(l++m).lookup x=some c
 | [],_,h=>by cases h
 | (k,v)::r,m,h=>by
  have ih:=@jZ α x c r m
  rw[yC] at h
  rw[List.cons_append,yC]
  cases e:x == k with
  | true=>rw[e] at h;exact h
  | false=>rw[e] at h;exact ih h
theorem i3{α:Type}{x:Str}:∀ {l m:List (Str×α)},l.lookup x=none->(l++m).lookup x=m.lookup x
 | [],_,_=>rfl
 | (k,v)::r,m,h=>by
  have ih:=@i3 α x r m
  rw[yC] at h
  rw[List.cons_append,yC]
  cases e:x == k with
  | true=>rw[e] at h;cases h
  | false=>rw[e] at h;exact ih h
theorem gN:∀ (names:List (Str×NameKind)) (n:Nat) (x:Str) (c:Addr),(x,c)∈cellsFrom n names []->(x,NameKind.cell)∈names
 | [],_,_,_,h=>by cases h
 | (name,kind)::r,n,x,c,h=>by
  unfold cellsFrom at h
  split at h
  ·rename_i hk
   rw[bX] at h
   rcases List.mem_append.mp h with h|h
   ·exact zC _ (gN r _ x c h)
   ·have:(x,c)=(name,n):=by simpa using h
    cases this
    have:kind=.cell:=by simpa using hk
    subst this
    exact zE
  ·exact zC _ (gN r n x c h)
def eJ(env:Env):List (Str×NameKind)->List (Str×Addr)->List (Str×Addr)
 | [],acc=>acc
 | (n,k)::r,acc=>if k == .free then eJ env r ((n,(env.cells.lookup n).getD 0)::acc) else eJ env r acc
theorem lZ(env:Env):∀ (names:List (Str×NameKind)) (acc:List (Str×Addr)),(∀x∈names,x.2=.free->∃c,env.cells.lookup x.1=some c) ->
  (forIn names acc (fun (p:Str×NameKind) (cs:List (Str×Addr))=>(if p.2 == .free then (do let a <- cellOf env p.1;pure (.yield ((p.1,a)::cs))) else pure (.yield cs):Sem (ForInStep (List (Str×Addr))))))=pure (eJ env names acc)
 | [],acc,_=>rfl
 | (n,k)::r,acc,h=>by
  rw[List.forIn_cons]
  have hr:=fun x hx=>h x (zC _ hx)
  unfold eJ
  by_cases hk:k=.free
  ·obtain⟨c,hc⟩:=h (n,k) zE hk
   subst hk
   have e1:cellOf env n=pure c:=by
    have hc':env.cells.lookup n=some c:=hc
    unfold cellOf;rw[hc']
   have hc':env.cells.lookup n=some c:=hc
   simp only[beq_self_eq_true,if_true,e1,pure_bind,hc',Option.getD_some]
   exact lZ env r _ hr
  ·have hb:(k == NameKind.free)=false:=by simpa using hk
   simp only[hb,Bool.false_eq_true,if_false,pure_bind]
   exact lZ env r _ hr
theorem lV{env:Env}{scope:Scope}(h:∀x∈scope.names,x.2=.free->∃c,env.cells.lookup x.1=some c):closureFor scope env=pure (eJ env scope.names []):=by
 have:=lZ env scope.names [] h
 unfold closureFor
 exact (bind_pure _).trans this
theorem lD{env:Env}:∀ {names:List (Str×NameKind)}{acc:List (Str×Addr)},(∀x∈names,x.2=.free->∃c,env.cells.lookup x.1=some c)->(∀x c,(x,c)∈acc->env.cells.lookup x=some c) ->
  ∀x c,(x,c)∈eJ env names acc->env.cells.lookup x=some c
 | [],acc,_,ha,x,c,hm=>ha x c hm
 | (n,k)::r,acc,h,ha,x,c,hm=>by
  unfold eJ at hm
  have hr:=fun x hx=>h x (zC _ hx)
  split at hm
  ·rename_i hk
   have hk':k=.free:=by simpa using hk
   obtain⟨c',hc⟩:=h (n,k) zE hk'
   have hc:env.cells.lookup n=some c':=hc
   refine lD hr (fun y d hy=>?_) x c hm
   rcases zR.mp hy with e|hy
   ·cases e;rw[hc];rfl
   ·exact ha y d hy
  ·exact lD hr ha x c hm
theorem gG{env:Env}:∀ {names:List (Str×NameKind)}{acc:List (Str×Addr)}{x:Str},(names.lookup x=some .free\/∃c,acc.lookup x=some c)->∃c,(eJ env names acc).lookup x=some c
 | [],acc,x,h=>by
  rcases h with h|h
  ·cases h
  ·exact h
 | (n,k)::r,acc,x,h=>by
  unfold eJ
  split
  ·rename_i hk
   refine gG ?_
   rcases h with h|⟨c,h⟩
   ·rw[yC] at h
    cases e:x == n with
    | true=>exact .inr ⟨_,by rw[yC,e]⟩
    | false=>rw[e] at h;exact .inl h
   ·refine .inr ?_
    rw[yC]
    cases e:x == n with
    | true=>exact⟨_,rfl⟩
    | false=>exact⟨c,h⟩
  ·rename_i hk
   refine gG ?_
   rcases h with h|h
   ·rw[yC] at h
    cases e:x == n with
    | true =>
     rw[e] at h
     cases h
     exact absurd rfl hk
    | false=>rw[e] at h;exact .inl h
   ·exact .inr h
theorem m9{env:Env}:∀ {names:List (Str×NameKind)}{x:Str}{k:NameKind},names.lookup x=some k ->
  (names.map fun (n,k)=>if (k == NameKind.free&&env.scope.kind == .function&&env.kindOf n == some .cell) then (n,NameKind.cell) else (n,k)).lookup x=some (if (k == NameKind.free&&env.scope.kind == .function&&env.kindOf x == some .cell) then NameKind.cell else k)
 | [],_,_,h=>by cases h
 | (n,k)::r,x,k',h=>by
  have ih:=@m9 env r x k'
  rw[zI]
  dsimp only
  cases hx:x == n with
  | true =>
   have e:x=n:=by simpa using hx
   subst e
   rw[yC,hx] at h
   cases h
   split<;>simp[yC, *]
  | false =>
   rw[yC,hx] at h
   have ih:=ih h
   split
   ·rw[yC,hx];exact ih
   ·rw[yC,hx];exact ih
theorem oT{env:Env}:∀ {names:List (Str×NameKind)}{x:Str},names.lookup x=none ->
  (names.map fun (n,k)=>if (k == NameKind.free&&env.scope.kind == .function&&env.kindOf n == some .cell) then (n,NameKind.cell) else (n,k)).lookup x=none
 | [],_,h=>rfl
 | (n,k)::r,x,h=>by
  have ih:=@oT env r x
  rw[zI]
  dsimp only
  cases hx:x == n with
  | true=>rw[yC,hx] at h;cases h
  | false =>
   rw[yC,hx] at h
   split
   ·rw[yC,hx];exact ih h
   ·rw[yC,hx];exact ih h
def fu(X:Cx)(scope:Scope)(C:Addr):Env :=
 { scope:=relabel scope X.env,locals:=C,globals:=X.env.globals,cells:=cellsFrom (C+1) scope.names (eJ X.env scope.names []),qual:=X.env.qual,func:=none,code:=X.env.code,frame:=X.env.frame,builtins:=X.env.builtins }
def aR(X:Cx)(scope:Scope)(N:List Str)(fp:List Addr)(s:Shared)(H:Hp):Cx :=
 { X with N:=N,s₀:=s,H₀:=H,env:=fu X scope s.heap.objs.size,outer:=X.stack,ex:=fp,fn:=fun x=>decide (scope.names.lookup x=some .cell),pn:=[],xe:=fun _ _=>False }
theorem Au{M:Model}{A:Around}{E:Value->Shared->Prop}{s:Shared}{scope:Scope}{globals:Addr}{cl:List (Str×Addr)}{qual:Str}{env:Env}{Q:Env->Shared->Prop}
  (hQ:∀h',h'.Ns s.heap.objs.size (fun _=>none)->(∀b o,s.heap.get? b=some o->h'.get? b=some o)->CellsOk h' (s.heap.objs.size+1) (cellsFrom (s.heap.objs.size+1) scope.names []) ->
   Q { scope:=scope,locals:=s.heap.objs.size,globals:=globals,cells:=cellsFrom (s.heap.objs.size+1) scope.names cl,qual:=qual,func:=none,code:=env.code,frame:=env.frame,builtins:=env.builtins } { s with heap:=h' }) :
  wpAny M A (newFunctionEnv scope globals cl [] qual none .none (some env)) Q E s:=by
 simp only[newFunctionEnv,Option.isSome_some,if_true]
 refine zW (wpAny_alloc ?_)
 refine zW (wpAny_layCells _ (fun name kind cells=>by cases hkc:kind == NameKind.cell<;>simp[hkc]) _ _ _ _ ?_)
 have ok:=cellsFrom_ok scope.names (s.heap.push { cls:=.type "dict",data:=.dict #[] }) (s.heap.objs.size+1) [] ⟨fun _ _ hm=>(nomatch hm),List.Pairwise.nil⟩ (by rw[Heap.size_push];exact Nat.le_refl _)
 rw[Heap.size_push] at ok
 rw[show ({ s with heap:=s.heap.push { cls:=.type "dict",data:=.dict #[] } }:Shared).heap.objs.size=s.heap.objs.size+1 from Heap.size_push ..]
 rw[List.forIn_nil]
 refine zW (zX (zX ?_))
 exact hQ _ ((Heap.Ns.new s.heap (.type "dict")).keeps (pushCells_keeps _ _)) (fun b o e=>pushCells_keeps _ _ b o (zV _ e)) ok
section
variable {X:Cx}{pins:List (Addr×Obj)}{σ σ':St}{H:Hp}{s:Shared}{fp:List Addr}{scope:Scope}{N:List Str}{h4:Heap}
theorem kA(ok:X.Ok)(hfree:∀x∈scope.names,x.2=.free->X.env.kindOf x.1=some .cell\/X.env.kindOf x.1=some .free):∀x∈scope.names,x.2=.free->∃c,X.env.cells.lookup x.1=some c :=
 fun x hx hk=>ok.has x.1 (hfree x hx hk)
theorem ow{C:Addr}{x:Str}{k:NameKind}(h:scope.names.lookup x=some k):(fu X scope C).kindOf x=some k\/(k=.free/\(fu X scope C).kindOf x=some .cell):=by
 have q:=m9 (env:=X.env) h
 have q':(fu X scope C).kindOf x=some (if (k == NameKind.free&&X.env.scope.kind == .function&&X.env.kindOf x == some .cell) then NameKind.cell else k):=q
 rw[q']
 split
 ·rename_i hc
  have:k=.free:=by
   simp only[zF,beq_iff_eq] at hc
   exact hc.1.1
  exact .inr ⟨this,rfl⟩
 ·exact .inl rfl
theorem lQ{C:Addr}{x:Str}{k:NameKind}(h:(fu X scope C).kindOf x=some k):scope.names.lookup x=some k\/(k=.cell/\scope.names.lookup x=some .free):=by
 cases e:scope.names.lookup x with
 | none =>
  have q:(fu X scope C).kindOf x=none:=oT (env:=X.env) e
  rw[q] at h;cases h
 | some k' =>
  rcases ow (X:=X) (C:=C) e with q|⟨q,q'⟩
  ·rw[q] at h;cases h;exact .inl rfl
  ·rw[q'] at h;cases h;subst q;exact .inr ⟨rfl,rfl⟩
theorem HA(I:Inv X pins σ H s)(hf:∀b∈fp,bJ X pins H b)(hfl:∀b∈fp,b < s.heap.objs.size)(hk:scope.kind=.function)
  (hfree:∀x∈scope.names,x.2=.free->X.env.kindOf x.1=some .cell\/X.env.kindOf x.1=some .free)
  (hns:h4.Ns s.heap.objs.size (fun _=>none)) (hkeep:∀b o,s.heap.get? b=some o->h4.get? b=some o) (hco:CellsOk h4 (s.heap.objs.size+1) (cellsFrom (s.heap.objs.size+1) scope.names []))
  (hdup:∀ {x:Str},(x,NameKind.cell)∈scope.names->(x,NameKind.free)∈scope.names->False) (hcap:∀ (i:Nat) (x:Str) (v:V),N[i]?=some x->σ'[i]?=some (some v)->scope.names.lookup x=some .free/\∃j:Nat,X.N[j]?=some x/\σ[j]?=some (some v)) (hlen:σ'.length=N.length) (t':Nat) :
  Inv (aR X scope N fp s H) [] σ' H { s with heap:=h4,toks:=t' }:=by
 have hcl:=kA I.ok hfree
 have clx:∀x c,(eJ X.env scope.names []).lookup x=some c->X.env.cells.lookup x=some c:=fun x c e=>lD hcl (fun _ _ z=>by cases z) x c (mem_of_lookup e)
 have look:∀x c,(fu X scope s.heap.objs.size).cells.lookup x=some c->(x,c)∈cellsFrom (s.heap.objs.size+1) scope.names []\/X.env.cells.lookup x=some c:=fun x c e=>by
  have e:(cellsFrom (s.heap.objs.size+1) scope.names (eJ X.env scope.names [])).lookup x=some c:=e
  rw[bX] at e
  rcases jY e with q|⟨_,q⟩
  ·exact .inl (mem_of_lookup q)
  ·exact .inr (clx x c q)
 have old:∀x c,X.env.cells.lookup x=some c->c < s.heap.objs.size:=fun x c e=>let ⟨_,q⟩:=I.cell x c e;q.lt
 have new:∀x c,(x,c)∈cellsFrom (s.heap.objs.size+1) scope.names []->s.heap.objs.size < c:=fun x c e=>(hco.empty x c e).2
 refine⟨⟨I.ok.mod,?_,I.ok.glob,I.ok.blt,Nat.le_refl _,?_,?_,?_,I.ok.hd,I.ok.frames,.inl rfl,?_,I.bs,yE I.ok.bsz I.sz,?_,?_,I.stack,I.stkFree⟩,rfl,I.bare,Un.kept hkeep,⟨_,hns,?_⟩,?_,I.hok.fresh (Nat.le_refl _),?_,
  fun p hp=>absurd (show p∈([]:List (Addr×Obj)) from hp) (by simp),I.hok.kept hkeep,hlen⟩
 ·show (relabel scope X.env).kind=_
  exact hk
 ·intro x y c e1 e2
  rcases look x c e1 with a|a<;>rcases look y c e2 with b|b
  ·exact name_of_addr hco.apart a b
  ·exact absurd (Nat.lt_trans (new x c a) (old y c b)) (Nat.lt_irrefl _)
  ·exact absurd (Nat.lt_trans (new y c b) (old x c a)) (Nat.lt_irrefl _)
  ·exact I.ok.inj x y c a b
 ·intro x hx
  show ∃c,(cellsFrom (s.heap.objs.size+1) scope.names (eJ X.env scope.names [])).lookup x=some c
  refine Option.isSome_iff_exists.mp (W.cellsFrom_some _ _ _ ?_)
  rcases hx with hx|hx
  ·rcases lQ hx with q|⟨_,q⟩
   ·exact .inl q
   ·exact .inr (Option.isSome_iff_exists.mpr (gG (.inl q)))
  ·rcases lQ hx with q|⟨q,_⟩
   ·exact .inr (Option.isSome_iff_exists.mpr (gG (.inl q)))
   ·cases q
 ·intro x c hfn e
  have hfn:scope.names.lookup x=some .cell:=of_decide_eq_true hfn
  have e:(cellsFrom (s.heap.objs.size+1) scope.names (eJ X.env scope.names [])).lookup x=some c:=e
  obtain⟨c',hc'⟩:=qt (n:=s.heap.objs.size+1) hfn
  rw[bX,jZ hc'] at e
  cases e
  exact Nat.le_of_lt (new x c (mem_of_lookup hc'))
 ·intro b hb
  refine⟨Nat.ne_of_lt (hfl b hb),fun x c e z=>?_⟩
  rcases look x c e with a|a
  ·exact absurd (Nat.lt_trans (new x c a) (by rw[z];exact hfl b hb)) (Nat.lt_irrefl _)
  ·exact (hf b hb).2.2.2.2.1 x c a z
 ·intro b o e hb
  obtain⟨f0,f1,f2,f3,f4,f5⟩:=hf b hb
  rcases f3 with z|z
  ·exact I.ok.noex b o e z
  ·exact absurd (zP (zZ (I.ok.bs b o e).1) z) (Nat.lt_irrefl _)
 ·intro b hb hz
  obtain⟨f0,f1,f2,f3,f4,f5⟩:=hf b hb
  rcases zR.mp (I.stkSub b hz) with z|z
  ·exact f1 z
  ·exact f2 z
 ·intro i x v e1 e2 e3
  obtain⟨hfr,j,hj,hv⟩:=hcap i x v e1 e2
  have hm:(x,NameKind.free)∈scope.names:=mem_of_lookup hfr
  obtain⟨m,hn,hl⟩:=I.loc
  have kx:=hfree _ hm rfl
  obtain⟨u,ru,lk⟩:=hl j x v hj hv (kx.elim (fun k=>.inr (.inl k)) fun k=>.inr (.inr k))
  refine⟨u,ru,.inr ⟨?_,?_⟩⟩
  ·rcases ow (X:=X) (C:=s.heap.objs.size) hfr with q|⟨_,q⟩
   ·exact .inr q
   ·exact .inl q
  ·rcases lk with ⟨k,_⟩|⟨_,c,ec,ic⟩
   ·have k:X.env.kindOf x=some .local:=k
    rcases kx with k'|k'<;>· rw[k] at k';cases k'
   ·obtain⟨c',hc'⟩:=gG (env:=X.env) (acc:=[]) (.inl hfr)
    have e':=clx x c' hc'
    rw[ec] at e'
    cases e'
    refine⟨c,?_,ic.keeps hkeep⟩
    show (cellsFrom (s.heap.objs.size+1) scope.names (eJ X.env scope.names [])).lookup x=some c
    rw[bX]
    cases eo:(cellsFrom (s.heap.objs.size+1) scope.names []).lookup x with
    | none=>rw[i3 eo];exact hc'
    | some d =>
     have hcm:=gN _ _ _ _ (mem_of_lookup eo)
     exact (hdup hcm hm).elim
 ·intro x c e
  rcases look x c e with a|a
  ·exact⟨_,(hco.empty x c a).1⟩
  ·obtain⟨v,q⟩:=I.cell x c a
   exact⟨v,q.keeps hkeep⟩
 ·intro x c e
  rcases look x c e with a|a
  ·exact I.hok.fresh (Nat.le_of_lt (new x c a))
  ·exact I.freeC x c a
end
abbrev xn(ifs:List Expr)(env:Env):Sem Bool:=forIn ifs true fun c r=>if r=true then do let ok <- isTrue c env (eval c env);pure (ForInStep.yield ok) else pure (ForInStep.yield r)
def Nt(X:Cx)(ifs:List Expr)(t:TT):Prop :=
 ∀ (pins:List (Addr×Obj)) (s:Shared) (σ:St) (H:Hp) (Q:Bool->Hp->Prop),Inv X pins σ H s->t σ H Q->wpAny (model X.prog X.w) X.A (xn ifs X.env) (TP X pins σ Q) X.xe s
theorem HR{X:Cx}:Nt X [] (fun _ H Q=>Q true H):=fun _ _ _ H _ I h=>wpAny_tests_nil ⟨H,I,h⟩
theorem JB{X:Cx}{c:Expr}{t:TT}(h:PT X c t):Nt X [c] t:=fun pins s σ H Q I q=>wpAny_tests_one (h pins s σ H Q I q)
theorem v8{prog:Program}{w:World}{A:Around}{R:Result->Shared->Prop}{s:Shared}{elt target iter:Expr}{ifs:List Expr}{scope:Scope}{pos:Pos}{it acc:Value}{env:Env}(I:Nat->Shared->Prop)
  (turn:∀n s,I n s->wpAny (model prog w) A (pyNext it) (fun r s₁=>match r with
   | none=>R (.ok .next) s₁
   | some v=>wpAny (model prog w) A (letOwnedTupleGo target it v) (fun _ s₁'=>wpAny (model prog w) A (assign target env v) (fun _ s₂ =>
     wpAny (model prog w) A (xn ifs env) (fun ok s₃ =>
      if ok=true then wpAny (model prog w) A (eval elt env) (fun x s₄ =>
       wpAny (model prog w) A (call (.builtin "list.append") [acc,x]) (fun _ s₅=>∃m,m < n/\I m s₅) (fun _ _=>False) s₄) (fun _ _=>False) s₃
      else ∃m,m < n/\I m s₃) (fun _ _=>False) s₂) (fun _ _=>False) s₁') (fun _ _=>False) s₁) (fun _ _=>False) s)
  (n:Nat) (h:I n s) :
  codeAny (model prog w) A (.compLoop (.ListComp elt [⟨target,iter,ifs,0⟩] scope pos) 0 it acc env) R s:=by
 refine codeAny_loop rfl I (fun n s hI=>?_) n h
 show wpAny _ A ((compTurn (.ListComp elt [⟨target,iter,ifs,0⟩] scope pos) 0 it acc env).onRaise (fun x=>do noteFrame x env;theTreesLotGoes x)) _ _ s
 refine wpAny_noted ?_
 rw[compTurn_list]
 refine zW (wpAny_standAt (zW (wpAny_mono (turn n s hI) (fun r s₁ h₁=>?_) fun _ _ h'=>h'.elim)))
 cases r with
 | none=>exact zX h₁
 | some v =>
  refine zW (wpAny_mono h₁ (fun _ s₁' h₁'=>?_) fun _ _ h'=>h'.elim)
  refine zW (wpAny_mono h₁' (fun _ s₂ h₂=>zW (wpAny_mono h₂ (fun ok s₃ h₃=>?_) fun _ _ h'=>h'.elim)) fun _ _ h'=>h'.elim)
  cases ok with
  | false=>exact zX ⟨rfl,h₃⟩
  | true =>
   exact zW (zW (wpAny_mono h₃ (fun x s₄ h₄=>zW (wpAny_mono h₄ (fun _ s₅ h₅=>zX (zX ⟨rfl,h₅⟩)) fun _ _ h'=>h'.elim)) fun _ _ h'=>h'.elim))
def BG(X:Cx)(pins:List (Addr×Obj))(σ:St)(Q:VK)(acc:Value)(C:Addr)(r:Result)(s5:Shared):Prop :=
 ∃ (D:Addr) (H5:Hp) (m:Str->Option Value),acc=.ref D/\r=.ok .next/\Inv X pins σ H5 s5/\s5.heap.Ns C m/\bJ X pins H5 C/\Q (.ref D) H5
def EF(J:It)(g:TG)(tt:TT)(te:TE)(D:Addr)(σ0:St)(H0:Hp)(Q:VK):Prop :=
 ∃W:Nat->Nat->St->Hp->Prop,(∃m,W 0 m σ0 H0)/\∀i m σ H,W i m σ H ->
  (J.stop i H/\Q (.ref D) H)\/(J.go i H/\∀x H',J.yld i H x H'->g x σ H' fun σ2 H2=>tt σ2 H2 fun b H3 =>
   if b=true then te σ2 H3 fun v H4=>∃ys,H4 D=some (.lst ys)/\ys.length < sizeLine/\∃m',m' < m/\W (i+1) m' σ2 (upd H4 D (.lst (ys++[v])))
   else ∃m',m' < m/\W (i+1) m' σ2 H3)
section
variable {X:Cx}{pins:List (Addr×Obj)}{σ σ':St}{H:Hp}{s:Shared}{scope:Scope}{N:List Str}
 {tg iter elt:Expr}{ifs:List Expr}{pos:Pos}{g:TG}{tt:TT}{te:TE}
theorem uC{J:It}{fp:List Addr}{it:Addr}{tn:Nat->Heap->Prop}{Q:VK}(hc:X.calm=true)(I:Inv X pins σ H s)(T:Turn X.prog X.w X.K tg J fp it tn)(st:tn 0 s.heap)(hf:∀b∈fp,bJ X pins H b)(hk:scope.kind=.function)
  (hfree:∀x∈scope.names,x.2=.free->X.env.kindOf x.1=some .cell\/X.env.kindOf x.1=some .free) (hdup:∀ {x:Str},(x,NameKind.cell)∈scope.names->(x,NameKind.free)∈scope.names->False)
  (hcap:∀ (i:Nat) (x:Str) (v:V),N[i]?=some x->σ'[i]?=some (some v)->scope.names.lookup x=some .free/\∃j:Nat,X.N[j]?=some x/\σ[j]?=some (some v)) (hlen:σ'.length=N.length)
  (hY:∀fp s H,PG (aR X scope N fp s H) tg g/\Nt (aR X scope N fp s H) ifs tt/\PE (aR X scope N fp s H) elt te)
  (hrd:∀D,H D=none->EF J g tt te D σ' (upd H D (.lst [])) Q) {E:Value->Shared->Prop} :
  wpAny (model X.prog X.w) X.A (newList []) (fun acc s₃=>wpAny (model X.prog X.w) X.A (newFunctionEnv scope X.env.globals (eJ X.env scope.names []) [] X.env.qual none .none (some X.env)) (fun cenv s₄ =>
   codeAny (model X.prog X.w) X.A (.compStart (.ListComp elt [⟨tg,iter,ifs,0⟩] scope pos) 0 (.ref it) acc { cenv with scope:=relabel scope X.env }) (BG X pins σ Q acc cenv.locals) s₄) E s₃) E s:=by
 refine wpAny_newObj_type ?_
 have hfl:∀b∈fp,b < s.heap.objs.size:=fun b hb=>let ⟨o,e,_⟩:=T.obj _ _ st b hb;zZ e
 have I3:=I.lnew (ys:=[]) (its:=[]) (t':=s.toks) .nil (Nat.zero_le _)
 have hD:H s.heap.objs.size=none:=I.fresh
 obtain⟨W,⟨m0,w0⟩,turn⟩:=hrd _ hD
 generalize e3:({ s with heap:=s.heap.push { cls:=.type "list",data:=.seq ([]:List Value).toArray },toks:=s.toks }:Shared)=s3 at I3
 have e3h:s3.heap=s.heap.push { cls:=.type "list",data:=.seq ([]:List Value).toArray }:=by rw[<- e3]
 generalize hH3:upd H s.heap.objs.size (.lst [])=H3 at I3 w0 turn
 have hlt:s.heap.objs.size < s3.heap.objs.size:=by rw[e3h,Heap.size_push];exact Nat.lt_succ_self _
 have hk3:∀b o,s.heap.get? b=some o->s3.heap.get? b=some o:=fun b o e=>by rw[e3h];exact zV _ e
 generalize s.heap.objs.size=D at *
 have f3:∀b∈fp,bJ X pins H3 b:=fun b hb=>by
  obtain⟨f0,f⟩:=hf b hb
  refine⟨?_,f⟩
  rw[<- hH3,aA (Nat.ne_of_lt (hfl b hb))]
  exact f0
 have st3:tn 0 s3.heap:=T.keep _ _ _ st fun b _ o e=>hk3 b o e
 refine Au fun h4 hns hkp hco=>?_
 dsimp only
 have I4:=HA (N:=N) (σ':=σ') (fp:=fp) I3 f3 (fun b hb=>Nat.lt_trans (hfl b hb) hlt) hk hfree hns hkp hco hdup hcap hlen s3.toks
 have fC:∀H',H' s3.heap.objs.size=none->bJ X pins H' s3.heap.objs.size:=fun H' hn=>I3.fpOk (Nat.le_refl _) hn
 obtain⟨hg,htt,hte⟩:=hY fp s3 H3
 have efp:∀b∈fp,∀H':Hp,H' b=none->bJ (aR X scope N fp s3 H3) [] H' b:=fun b hb H' hn=>by
  refine⟨hn,(I4.ok.exf b hb).1,I4.ok.exfs b hb,.inl hb,(I4.ok.exf b hb).2,fun p hp=>?_⟩
  cases hp
 have loop:codeAny (model X.prog X.w) X.A (.compLoop (.ListComp elt [⟨tg,iter,ifs,0⟩] scope pos) 0 (.ref it) (.ref D) (fu X scope s3.heap.objs.size)) (BG X pins σ Q (.ref D) s3.heap.objs.size) { s3 with heap:=h4 }:=by
  refine v8 (fun n s'=>∃i σ' H',Inv (aR X scope N fp s3 H3) [] σ' H' s'/\tn i s'.heap/\(∀b∈fp,H' b=none)/\W i n σ' H') ?_ m0
   ⟨0,σ',H3,I4,T.keep _ _ _ st3 fun b _ o e=>hkp b o e,fun b hb=>(f3 b hb).1,w0⟩
  rintro n s5 ⟨i,σ5,H5,I5,st5,fr5,w5⟩
  rcases turn i n σ5 H5 w5 with ⟨stop,q⟩|⟨go,step⟩
  ·refine bW (T.done (aR X scope N fp s3 H3) rfl rfl rfl hc i [] s5 σ5 H5 _ I5 (fun b hb=>efp b hb H5 (fr5 b hb)) st5 stop) fun r s6 ⟨hr,I6⟩=>?_
   subst hr
   obtain⟨m,hn6,_⟩:=I6.loc
   refine⟨D,H5,m,rfl,rfl,I3.call' I6.os I6.base I6.hok I6.bare (fun b hb=>?_),hn6,fC H5 I6.free,q⟩
   obtain⟨f0,f1,f2,f4,f5,f6⟩:=f3 b hb
   exact⟨f4,f1,f5,f6⟩
  ·refine bW (T.item (aR X scope N fp s3 H3) rfl rfl rfl hc i [] s5 σ5 H5 _ I5 (fun b hb=>efp b hb H5 (fr5 b hb)) st5 go) fun r s6 ⟨u,hr,h6⟩=>?_
   subst hr
   refine bW h6 fun _ s7 ⟨x,H7,I7,r7,y7,st7,fr7⟩=>?_
   have I7':=I7.pinned (fun b hb=>efp b hb H7 (fr7 b hb)) (T.obj _ _ st7)
   have again:∀ {pl:List (Addr×Obj)}{σ9:St}{H9:Hp}{s9:Shared}{n':Nat},Inv (aR X scope N fp s3 H3) ([]++ox fp s7.heap) σ9 H9 s9->W (i+1) n' σ9 H9->∃i σ' H',Inv (aR X scope N fp s3 H3) [] σ' H' s9/\tn i s9.heap/\(∀b∈fp,H' b=none)/\W i n' σ' H':=fun {pl σ9 H9 s9 n'} I9 w9=>by
    refine⟨i+1,σ9,H9,I9.unpinned,T.keep _ _ _ st7 fun b hb o e=>(I9.pin (b,o) (yF _ (yF _ (cZ hb e)))).1,fun b hb=>?_,w9⟩
    obtain⟨o,e,d⟩:=T.obj _ _ st7 b hb
    exact (I9.pin (b,o) (yF _ (yF _ (cZ hb e)))).2.1
   refine bW (hg _ s7 σ5 H7 x u _ I7' r7 (step x H7 y7)) fun _ s8 ⟨σ8,H8,I8,q8⟩=>?_
   refine bW (htt _ s8 σ8 H8 _ I8 q8) fun ok s9 ⟨H9,I9,q9⟩=>?_
   cases ok with
   | false =>
    rw[if_neg (by decide)] at q9
    rw[if_neg (by decide)]
    obtain⟨m',hm,w9⟩:=q9
    exact⟨m',hm,again (pl:=[]) I9 w9⟩
   | true =>
    rw[if_pos rfl] at q9
    rw[if_pos rfl]
    refine bW (hte _ s9 σ8 H9 _ I9 q9) fun y s10 ⟨v,H10,I10,r10,ys,hD10,hz,m',hm,w10⟩=>?_
    refine bW (tY (X:=aR X scope N fp s3 H3) _ s10 σ8 H10 (.ref D) [v] (.ref D) [y] (fun _ H'=>W (i+1) m' σ8 H') I10 rfl (.cons r10 .nil) ⟨D,ys,v,rfl,rfl,hD10,hz,w10⟩) fun _ s11 ⟨_,H11,I11,_,w11⟩=>?_
    exact⟨m',hm,again (pl:=[]) I11 w11⟩
 exact codeAny_compStart_list loop (T.self _ 0 _ _ _ (T.keep _ _ _ st3 fun b _ o e=>hkp b o e) loop)
end
def Fy(wi:TI)(g:TG)(tt:TT)(te:TE)(caps:St->St):TE:=fun σ H Q=>wi σ H fun J H1=>∀D,H1 D=none->EF J g tt te D (caps σ) (upd H1 D (.lst [])) Q
structure jN(X:Cx)(scope:Scope)(N:List Str)(caps:St->St):Prop where
 kind:scope.kind=.function
 free:∀x∈scope.names,x.2=.free->X.env.kindOf x.1=some .cell\/X.env.kindOf x.1=some .free
 dup:∀ {x:Str},(x,NameKind.cell)∈scope.names->(x,NameKind.free)∈scope.names->False
 loc:∀x∈scope.names,x.2=.local -> scope.names.lookup x.1=some .local
 cap:∀ (σ:St) (i:Nat) (x:Str) (v:V),N[i]?=some x->(caps σ)[i]?=some (some v)->scope.names.lookup x=some .free/\∃j:Nat,X.N[j]?=some x/\σ[j]?=some (some v)
 len:∀σ:St,(caps σ).length=N.length
section
variable {X:Cx}{scope:Scope}{N:List Str}{caps:St->St}{tg iter elt:Expr}{ifs:List Expr}{pos:Pos}{wi:TI}{g:TG}{tt:TT}{te:TE}
theorem IS(hc:X.calm=true)(S:jN X scope N caps)(hi:PI X tg iter wi)
  (hY:∀fp s H,PG (aR X scope N fp s H) tg g/\Nt (aR X scope N fp s H) ifs tt/\PE (aR X scope N fp s H) elt te)
  (hs:∀x,foldedSetIterable iter X.env x=pure x:=by intro _;rfl):PE X (.ListComp elt [⟨tg,iter,ifs,0⟩] scope pos) (Fy wi g tt te caps):=by
 intro pins s σ H Q I h
 rw[eval_ListComp]
 refine wpAny_comprehension_free (use:=none) rfl hs (lV (kA I.ok S.free)) S.kind S.loc (bW (hi pins s σ H _ I h) fun v s1 h1=>bW h1 fun itv s2 h2=>?_)
 obtain⟨it,fp,tn,J,H2,e,I2,T,st2,f2,rd⟩:=h2
 subst e
 refine bW (uC (iter:=iter) (pos:=pos) (E:=X.xe) hc I2 T st2 f2 S.kind S.free S.dup (S.cap σ) (S.len σ) hY rd) fun acc s3 h3=>bW h3 fun cenv s4 h4=>?_
 refine codeAny_mono h4 fun r s5 h5=>?_
 obtain⟨D,H5,m,rfl,rfl,I5,hn,fC,q⟩:=h5
 refine⟨m,hn,fun h' sb=>?_⟩
 obtain⟨f0,f1,f2',f3,f4,f5⟩:=fC
 exact⟨.ref D,H5,I5.turned (t':=s5.toks) (fun b o hb e=>(sb.2 b hb).trans e) f0 f1 f3 f4 f5,rfl,q⟩
theorem Kh{i:Nat}{y:Str}{py spos:Pos}(hc:X.calm=true)(S:jN X scope N caps)(hi:PI X tg iter wi)
  (hY:∀fp s H,PG (aR X scope N fp s H) tg g/\Nt (aR X scope N fp s H) ifs tt/\PE (aR X scope N fp s H) elt te)
  (hN:X.N.Nodup) (hiy:X.N[i]?=some y) (hy:X.env.scope.names.lookup y=some .local)
  (hsw:swapsWith (.ListComp elt [⟨tg,iter,ifs,0⟩] scope pos) (some (.Name y py)) spos.line X.env=pure true)
  (hs:∀x,foldedSetIterable iter X.env x=pure x:=by intro _;rfl):PS X (.Assign [.Name y py] (.ListComp elt [⟨tg,iter,ifs,0⟩] scope pos) spos) (GC (Fy wi g tt te caps) (xB i)):=by
 intro pins s σ H D I h
 rw[exec_Assign_Name_used _ _ _ _ hsw]
 refine zW (wpAny_standAt (zW ?_))
 show wpAny _ X.A (do let _ <- comprehension (.ListComp elt [⟨tg,iter,ifs,0⟩] scope pos) scope X.env _ (newList []) false (eval iter X.env) (some (assign (.Name y py) X.env))) _ _ s
 refine zW (wpAny_mono (wpAny_comprehension_free (use:=some (assign (.Name y py) X.env)) (Q:=fun _ s'=>SP X pins D .next s') rfl hs (lV (kA I.ok S.free)) S.kind S.loc
  (bW (hi pins s σ H _ I h) fun v s1 h1=>bW h1 fun itv s2 h2=>?_)) (fun _ s' hq=>zX (zX hq)) fun _ _ e=>e)
 obtain⟨it,fp,tn,J,H2,e,I2,T,st2,f2,rd⟩:=h2
 subst e
 refine bW (uC (iter:=iter) (pos:=pos) (E:=X.xe) hc I2 T st2 f2 S.kind S.free S.dup (S.cap σ) (S.len σ) hY rd) fun acc s3 h3=>bW h3 fun cenv s4 h4=>?_
 refine codeAny_mono h4 fun r s5 h5=>?_
 obtain⟨D',H5,m,rfl,rfl,I5,hn,fC,q⟩:=h5
 show wpAny _ X.A (assign (.Name y py) X.env (.ref D')) _ _ _
 refine wpAny_assign_Name (uc (v:=.ref D') I5 hN hiy (.inl hy) rfl (fun s6 I6 ⟨a,sa,ha⟩=>?_) (.inr hy))
 obtain⟨f0,f1,f2',f3,f4,f5⟩:=fC
 have hne:cenv.locals≠a:=by
  rcases ha with z|z
  ·rw[z];exact f1
  ·exact fun w=>f4 y a z w.symm
 refine⟨m,hn.sameBut sa hne,fun h' sb=>?_⟩
 exact⟨_,H5,I6.turned (t':=s6.toks) (fun b o hb e=>(sb.2 b hb).trans e) f0 f1 f3 f4 f5,q⟩
end
abbrev Pi(X:Cx)(qual:Str)(scope:Scope)(f c L:Addr):Env:=W.envX qual scope L f (.ref c) (eJ X.env scope.names [])
def dP(X:Cx)(A:Around)(qual:Str)(scope:Scope)(N:List Str)(f c:Addr)(s:Shared)(H:Hp):Cx where
 prog:=X.prog
 w:=X.w
 K:=X.K
 mg:=X.mg
 base:=X.base
 A:=A.deeper (Pi X qual scope f c s.heap.objs.size)
 N:=N
 s₀:=s
 H₀:=H
 env:=Pi X qual scope f c s.heap.objs.size
 outer:=X.stack
 stack:=Pi X qual scope f c s.heap.objs.size::X.stack
 ex:=[]
 fn:=fun _=>false
 calm:=true
 pn:=[]
 xe:=fun _ _=>False
section
variable {X:Cx}{pins:List (Addr×Obj)}{σ:St}{H:Hp}{s:Shared}{scope:Scope}{N:List Str}{h1:Heap}{A:Around}{caps:St->St}{p qual:Str}{f c:Addr}{u:Value}{v:V}
theorem JO(I:Inv X pins σ H s)(hd:A.handled=none)(hA:A.frames=some X.stack)(S:jN X scope N caps)(hnc:∀x∈scope.names,x.2≠.cell)(hN0:N[0]?=some p)(hp:scope.names.lookup p=some .local)(hNd:N.Nodup)(r:RelV v u)
  (hns:h1.Ns s.heap.objs.size (fun x=>[(p,u)].reverse.lookup x)) (hkeep:∀b o,s.heap.get? b=some o->h1.get? b=some o) (t':Nat) :
  Inv (dP X A qual scope N f c s H) [] ((caps σ).set 0 (some v)) H { s with heap:=h1,toks:=t' }:=by
 have hcl:=kA I.ok S.free
 have clx:∀x c,(eJ X.env scope.names []).lookup x=some c->X.env.cells.lookup x=some c:=fun x c e=>lD hcl (fun _ _ z=>by cases z) x c (mem_of_lookup e)
 have noA:∀b:Addr,b∉(dP X A qual scope N f c s H).ex:=fun b z=>absurd (show b∈([]:List Addr) from z) (by simp)
 refine⟨⟨I.ok.mod,S.kind,rfl,rfl,Nat.le_refl _,fun x y d e1 e2=>I.ok.inj x y d (clx x d e1) (clx y d e2),fun x hx=>?_,fun x d z=>?_,fun _=>hd,Around.frames_deeper hA,.inr ⟨rfl,rfl⟩,fun b z=>absurd z (noA b),I.bs,yE I.ok.bsz I.sz,fun b _ _=>noA b,fun b z=>absurd z (noA b),I.stack,I.stkFree⟩,
  rfl,I.bare,Un.kept hkeep,⟨_,hns,fun i x w e1 e2 e3=>?_⟩,fun x d e=>?_,I.hok.fresh (Nat.le_refl _),fun x d e=>I.freeC x d (clx x d e),fun q hq=>absurd (show q∈([]:List (Addr×Obj)) from hq) (by simp),I.hok.kept hkeep,?_⟩
 ·rcases hx with hx|hx
  ·exact absurd rfl (hnc _ (mem_of_lookup (show scope.names.lookup x=some .cell from hx)))
  ·exact gG (.inl hx)
 ·cases z
 ·cases i with
  | zero =>
   have e1:N[0]?=some x:=e1
   rw[hN0] at e1
   cases e1
   have hl:0 < (caps σ).length:=by rw[S.len];exact (zU.mp hN0).1
   rw[List.getElem?_set_self hl] at e2
   cases e2
   exact⟨u,r,.inl ⟨hp,by simp⟩⟩
  | succ i =>
   have e2':(caps σ)[i+1]?=some (some w):=by
    rw[List.getElem?_set_ne (by omega)] at e2;exact e2
   obtain⟨hfr,j,hj,hv⟩:=S.cap σ (i+1) x w e1 e2'
   have hm:(x,NameKind.free)∈scope.names:=mem_of_lookup hfr
   obtain⟨m,hn,hl⟩:=I.loc
   have kx:=S.free _ hm rfl
   obtain⟨u',ru,lk⟩:=hl j x w hj hv (kx.elim (fun k=>.inr (.inl k)) fun k=>.inr (.inr k))
   refine⟨u',ru,.inr ⟨.inr hfr,?_⟩⟩
   rcases lk with ⟨k,_⟩|⟨_,c',ec,ic⟩
   ·have k:X.env.kindOf x=some .local:=k
    rcases kx with k'|k'<;>· rw[k] at k';cases k'
   ·obtain⟨c'',hc'⟩:=gG (env:=X.env) (acc:=[]) (.inl hfr)
    have e':=clx x c'' hc'
    rw[ec] at e'
    cases e'
    exact⟨c',hc',ic.keeps hkeep⟩
 ·obtain⟨w,q⟩:=I.cell x d (clx x d e)
  exact⟨w,q.keeps hkeep⟩
 ·rw[yD];exact S.len σ
theorem rP{k:Nat}{params:Arguments}{body:Expr}{pm ctv:Value}{name:Str}{te:TE}{Q:VK}(I:Inv X pins σ H s)(hr:ee (k+1) A)(hA:A.frames=some X.stack)(S:jN X scope N caps)(hnc:∀x∈scope.names,x.2≠.cell)
  (hN0:N[0]?=some p) (hp:scope.names.lookup p=some .local) (hNd:N.Nodup) (hco:scope.isCoroutine=false) (hgen:scope.isGenerator=false)
  (hf:s.heap.get? f=some (W.kla_obj name qual params body scope (eJ X.env scope.names []) pm c ctv)) (hcod:H c=some (.cod qual)) (hb:bindArgs (W.kla_fn name qual params body scope (eJ X.env scope.names []) pm (.ref c) ctv) ⟨[u],[]⟩=pure [(p,u)])
  (r:RelV v u) (hY:PE (dP X A qual scope N f c s H) body te) (q:te ((caps σ).set 0 (some v)) H Q) :
  wpAny (model X.prog X.w) A (call (.ref f) [u]) (EP X pins σ Q) (fun _ _=>False) s:=by
 have hcd:s.heap.CodeRec (.ref c) qual:=I.hok c _ hcod
 refine wpAny_call (W.kla_callFunE hr.depth hf rfl hco hgen rfl hcd ?_)
 rw[hb]
 refine zX (wpAny_newFunctionEnv hnc (fun y hy=>?_) (fun h1 hns hsb=>⟨?_,?_⟩) S.kind)
 ·rw[yL.mp hy];exact hp
 ·exact I.nolimit.fresh _ hsb
 ·have hk1:∀b o,s.heap.get? b=some o->h1.get? b=some o:=fun b o e=>hsb.extBut b o (Nat.ne_of_lt (zZ e)) (zV _ e)
  have I1:=JO (qual:=qual) (f:=f) (c:=c) I hr.hd hA S hnc hN0 hp hNd r hns hk1 (s.toks+[(p,u)].length)
  refine W.kla_codeExpr (wpAny_mono (hY [] _ _ H Q I1 q) (fun w s' ⟨v',H',I',r',q'⟩=>?_) fun e s' h=>False.elim h)
  exact⟨v',H',I.call' I'.os I'.base I'.hok I'.bare (fun b z=>absurd (show b∈([]:List Addr) from z) (by simp)),r',q'⟩
end
theorem Be{pos pos':Pos}{c v:Value}(l:List Value)(h:TriplesOk l)(e:codeAmong pos' (l++[rawInt pos.line,rawInt pos.col,c])=some v):codeAmong pos' l=some v\/v=c:=by
 fun_induction TriplesOk l with
 | case1 =>
  simp only[List.nil_append,codeAmong,rawInt] at e
  split at e
  ·cases e;exact .inr rfl
  ·cases e
 | case2 a t b u x rest ih =>
  simp only[List.cons_append,codeAmong] at e ⊢
  split at e
  ·rename_i hc;rw[if_pos hc];exact .inl e
  ·rename_i hc;rw[if_neg hc];exact ih h e
 | case3 l h1 h2=>exact h.elim
section
variable {X:Cx}{pins:List (Addr×Obj)}{σ:St}{H:Hp}{s:Shared}{scope:Scope}{N:List Str}{caps:St->St}{qual:Str}{c P:Addr}
theorem qj{params:Arguments}{body:Expr}{lpos:Pos}{Q:Value->Shared->Prop}(I:Inv X pins σ H s)(S:jN X scope N caps)(hq:X.env.qual++"<lambda>"=qual)(hcode:X.env.code=.ref c)(C:W.CodeHd X.base c P)(hT:H P=some (.tab qual))(hB:OQ X.mg X.base)
  (hdef:defaultsOf params X.env=([],[]))
  (h:∀ (f c':Addr) (pm ctv:Value) (s':Shared) (H':Hp),Inv X pins σ H' s'->s'.heap.get? f=some (W.kla_obj "<lambda>" qual params body scope (eJ X.env scope.names []) pm c' ctv)->H' f=none->H' c'=some (.cod qual)->aQ H H'->bJ X pins H' f->(∀b,H' b≠none->H b≠none\/H' b=some (.cod qual))->Q (.ref f) s') :
  wpAny (model X.prog X.w) X.A (eval (.Lambda params body scope lpos) X.env) Q X.xe s:=by
 have hcl:=lV (kA I.ok S.free)
 have hCs:=C.keeps I.bk
 have hg:s.heap.Ns mainGlobals X.mg:=by
  obtain⟨o,es,ep,e,r⟩:=I.ok.mod.glob
  exact⟨o,es,ep,I.bk _ _ e,r⟩
 have hPn:X.base.get? P=none:=by
  cases e:X.base.get? P with
  | none=>rfl
  | some o=>rw[(I.bs P o e).2] at hT;cases hT
 obtain⟨ps,hP,ht,hco⟩:=I.hok P _ hT
 have hb:s.heap.BuiltinsAt X.mg P:=by
  obtain⟨bm,o,b1,b2,b3,b4,b5⟩:=hB
  exact⟨bm,o,b1,b2,b3,(fun z=>by rw[z,hPn] at b4;cases b4),I.bk _ _ b4,b5⟩
 refine W.kla_eval hdef ?_
 rw[hq]
 cases hf:codeAmong lpos ps.toList with
 | some cv =>
  obtain⟨c',rfl,hc'⟩:=hco lpos cv hf
  refine W.kla_makeFunctionHit hcl I.ok.glob hg hcode hCs hP ht hf hb fun ctv h' tk kp hz=>?_
  have kp2:∀b o,s.heap.get? b=some o->(h'.push (W.kla_obj "<lambda>" qual params body scope (eJ X.env scope.names []) ((X.mg "__name__").getD .none) c' ctv)).get? b=some o:=fun b o e=>zV _ (kp b o e)
  have hn:H h'.objs.size=none:=I.hok.fresh hz
  exact h _ c' _ ctv _ H (I.kept (t':=tk) kp2) (zY _ rfl) hn hc' (.refl _) (I.fpOk hz hn) fun b z=>.inl z
 | none =>
  have hgP:mainGlobals≠P:=fun z=>by
   obtain⟨o,es,ep,e,r⟩:=I.ok.mod.glob
   rw[z,hPn] at e;cases e
  refine W.kla_makeFunction hcl I.ok.glob hg hcode hCs hP ht hf hgP hb fun c' ctv h' tk hx hc1 hc2 hcr hP'=>?_
  have hn:H c'=none:=I.hok.fresh hc1
  have hz:s.heap.objs.size<=h'.objs.size:=Nat.le_of_lt (Nat.lt_of_le_of_lt hc1 hc2)
  have nP:∀ {b:Addr}{u:HO},H b=some u->(∀q,u≠.tab q)->b≠P:=fun {b u} e hne z=>by subst z;rw[hT] at e;cases e;exact hne _ rfl
  have kp:∀b o,b≠P->s.heap.get? b=some o->(h'.push (W.kla_obj "<lambda>" qual params body scope (eJ X.env scope.names []) ((X.mg "__name__").getD .none) c' ctv)).get? b=some o:=fun b o hb e=>zV _ (hx b o hb e)
  have hPc:P≠c':=fun z=>by rw[<- z,hT] at hn;cases hn
  have up:∀b u,H b=some u->upd H c' (.cod qual) b=some u:=fun b u e=>by rw[aA (aL e hn)];exact e
  have un:Un X.fs [] H (upd H c' (.cod qual)) s.heap (h'.push (W.kla_obj "<lambda>" qual params body scope (eJ X.env scope.names []) ((X.mg "__name__").getD .none) c' ctv)):=by
   refine⟨fun b o e n _ _=>kp b o (fun z=>by rw[z,hT] at n;cases n) e,fun b o e n _ _=>⟨o.slots,kp b o (fun z=>by rw[z,hT] at n;cases n) e⟩,fun b o e n _=>?_,fun b o e _=>?_,fun b xs e=>up b _ e,fun b o u e=>up b _ e,⟨fun b u e _=>up b u e,fun b q ps' e z=>?_⟩⟩
   ·rw[aA (Nat.ne_of_lt (zP (zZ e) hc1))];exact n
   ·by_cases hb:b=P
    ·subst hb;exact⟨_,zV _ hP'⟩
    ·exact⟨o,kp b o hb e⟩
   ·by_cases hb:b=P
    ·subst hb
     rw[hP] at z
     cases z
     exact⟨_,zV _ hP'⟩
    ·exact⟨#[],by rw[Array.append_empty];exact kp b _ hb z⟩
  have hok:pJ X.prog X.w (upd H c' (.cod qual)) (h'.push (W.kla_obj "<lambda>" qual params body scope (eJ X.env scope.names []) ((X.mg "__name__").getD .none) c' ctv)):=by
   intro b u e
   by_cases hbc:b=c'
   ·subst hbc
    rw[aJ] at e
    cases e
    obtain⟨c0,oc,vs,t,e0,e1,r⟩:=hcr
    exact⟨c0,oc,vs,t,e0,zV _ e1,r⟩
   ·rw[aA hbc] at e
    by_cases hb:b=P
    ·subst hb
     rw[hT] at e
     cases e
     refine⟨_,zV _ hP',?_,fun pos v hv=>?_⟩
     ·have:=TriplesOk_snoc lpos.line lpos.col (.ref c') ps.toList ht
      simpa using this
     ·have hv':codeAmong pos (ps.toList++[rawInt lpos.line,rawInt lpos.col,.ref c'])=some v:=by simpa using hv
      rcases Be ps.toList ht hv' with z|z
      ·obtain⟨c0,z1,z2⟩:=hco pos v z
       exact⟨c0,z1,up _ _ z2⟩
      ·exact⟨c',z,aJ⟩
    ·exact (I.hok b u e).stay (fun d o hd eo=>kp d o (by
      rcases hd with rfl|hd
      ·exact hb
      ·exact nP hd fun q z=>by cases z) eo) (fun d hd=>up d _ hd) fun d o hd _=>up d _ hd
  have I':=I.un (t':=tk) un hok
  have hnf:upd H c' (.cod qual) h'.objs.size=none:=by
   rw[aA (Nat.ne_of_gt hc2)];exact I.hok.fresh hz
  refine h _ c' _ ctv _ _ I' (zY _ rfl) hnf aJ up (I.fpOk hz hnf) fun b z=>?_
  by_cases hbc:b=c'
  ·subst hbc;exact .inr aJ
  ·rw[aA hbc] at z;exact .inl z
end
end L2
namespace Dl
open PySem L2 PySem.Spec PyProof.Rows
abbrev D:=PyData
mutual
def Rep(K:W.Frag)(H:Hp):D->V->Prop
 | .none,v=>v=.non
 | .bool b,v=>v=.bl b
 | .int i,v=>v=.int i
 | .str x,v=>v=.str x
 | .tuple ds,v=>∃a vs,v=.ref a/\ji K H a vs/\aq K H ds vs
 | .list ds,v=>∃a vs,v=.ref a/\iU K H a vs/\aq K H ds vs
 | .dict _,_=>False
def aq(K:W.Frag)(H:Hp):List D->List V->Prop
 | [],vs=>vs=[]
 | d::ds,vs=>∃v r,vs=v::r/\Rep K H d v/\aq K H ds r
end
theorem ay{K:W.Frag}{H H':Hp}{a:Addr}{xs:List V}(e:aQ H H')(h:ji K H a xs):ji K H' a xs:=by
 rcases h with (h|⟨o,h⟩)|h
 ·exact .inl (.inl (e _ _ h))
 ·exact .inl (.inr ⟨o,e _ _ h⟩)
 ·exact .inr h
mutual
theorem Rep.mono{K:W.Frag}{H H':Hp}(e:aQ H H'):∀ {d:D}{v:V},Rep K H d v->Rep K H' d v
 | .none,_,h=>h
 | .bool _,_,h=>h
 | .int _,_,h=>h
 | .str _,_,h=>h
 | .tuple ds,_,h=>by
  simp only[Rep] at h ⊢
  obtain⟨a,vs,rfl,q,r⟩:=h
  exact⟨a,vs,rfl,ay e q,aq.mono e r⟩
 | .list ds,_,h=>by
  simp only[Rep] at h ⊢
  obtain⟨a,vs,rfl,q,r⟩:=h
  exact⟨a,vs,rfl,e.seq q,aq.mono e r⟩
 | .dict _,_,h=>h
theorem aq.mono{K:W.Frag}{H H':Hp}(e:aQ H H'):∀ {ds:List D}{vs:List V},aq K H ds vs->aq K H' ds vs
 | [],_,h=>h
 | d::ds,_,h=>by
  simp only[aq] at h ⊢
  obtain⟨v,r,rfl,a,b⟩:=h
  exact⟨v,r,rfl,Rep.mono e a,aq.mono e b⟩
end
section
variable {K:W.Frag}{H:Hp}
theorem aq.nil:aq K H [] []:=by simp[aq]
theorem aq.cons{d:D}{v:V}{ds:List D}{vs:List V}(a:Rep K H d v)(b:aq K H ds vs):aq K H (d::ds) (v::vs):=by
 simp only[aq];exact⟨v,vs,rfl,a,b⟩
theorem aq.cons_inv{d:D}{ds:List D}{vs:List V}(h:aq K H (d::ds) vs):∃v r,vs=v::r/\Rep K H d v/\aq K H ds r:=by simpa only[aq] using h
theorem aq.nil_inv{vs:List V}(h:aq K H [] vs):vs=[]:=by simpa only[aq] using h
theorem aq.length:∀ {ds:List D}{vs:List V},aq K H ds vs->vs.length=ds.length
 | [],_,h=>by rw[h.nil_inv];rfl
 | d::ds,_,h=>by obtain⟨v,r,rfl,_,b⟩:=h.cons_inv;simp[aq.length b]
theorem aq.get:∀ {ds:List D}{vs:List V}{i:Nat}{v:V},aq K H ds vs->vs[i]?=some v->∃d,ds[i]?=some d/\Rep K H d v
 | [],_,i,v,h,e=>by rw[h.nil_inv] at e;simp at e
 | d::ds,_,i,v,h,e=>by
  obtain⟨v',r,rfl,a,b⟩:=h.cons_inv
  cases i with
  | zero=>simp at e;subst e;exact⟨d,rfl,a⟩
  | succ i=>simp at e;obtain⟨d',h1,h2⟩:=aq.get b e;exact⟨d',by simpa using h1,h2⟩
theorem aq.getD:∀ {ds:List D}{vs:List V}{i:Nat}{d:D},aq K H ds vs->ds[i]?=some d->∃v,vs[i]?=some v/\Rep K H d v
 | [],_,i,d,h,e=>by simp at e
 | d::ds,_,i,d',h,e=>by
  obtain⟨v',r,rfl,a,b⟩:=h.cons_inv
  cases i with
  | zero=>simp at e;subst e;exact⟨v',rfl,a⟩
  | succ i=>simp at e;obtain⟨v,h1,h2⟩:=aq.getD b e;exact⟨v,by simpa using h1,h2⟩
theorem aq.append:∀ {ds es:List D}{vs us:List V},aq K H ds vs->aq K H es us->aq K H (ds++es) (vs++us)
 | [],_,_,_,h,g=>by rw[h.nil_inv];exact g
 | d::ds,_,_,_,h,g=>by obtain⟨v,r,rfl,a,b⟩:=h.cons_inv;exact aq.cons a (aq.append b g)
theorem aq.take:∀ {ds:List D}{vs:List V}(n:Nat),aq K H ds vs->aq K H (ds.take n) (vs.take n)
 | [],_,n,h=>by rw[h.nil_inv];simp[aq]
 | d::ds,_,0,h=>by simp[aq]
 | d::ds,_,n+1,h=>by obtain⟨v,r,rfl,a,b⟩:=h.cons_inv;exact aq.cons a (aq.take n b)
theorem aq.drop:∀ {ds:List D}{vs:List V}(n:Nat),aq K H ds vs->aq K H (ds.drop n) (vs.drop n)
 | [],_,n,h=>by rw[h.nil_inv];simp[aq]
 | d::ds,_,0,h=>h
 | d::ds,_,n+1,h=>by obtain⟨v,r,rfl,a,b⟩:=h.cons_inv;exact aq.drop n b
theorem aq.reverse:∀ {ds:List D}{vs:List V},aq K H ds vs->aq K H ds.reverse vs.reverse
 | [],_,h=>by rw[h.nil_inv];simp[aq]
 | d::ds,_,h=>by
  obtain⟨v,r,rfl,a,b⟩:=h.cons_inv
  rw[List.reverse_cons,List.reverse_cons]
  exact aq.append (aq.reverse b) (aq.cons a aq.nil)
end
structure bM(HF H HF' H':Hp):Prop where
 hh:aQ H H'
 ff:aQ HF HF'
 fh:aQ HF' H'
 nw:∀a o,HF' a=some o->HF a=some o\/H a=none
theorem bM.refl{HF H:Hp}(s:aQ HF H):bM HF H HF H:=⟨.refl _,.refl _,s,fun _ _ e=>.inl e⟩
theorem bM.trans{HF H HF1 H1 HF2 H2:Hp}(a:bM HF H HF1 H1)(b:bM HF1 H1 HF2 H2):bM HF H HF2 H2 :=
 ⟨a.hh.trans b.hh,a.ff.trans b.ff,b.fh,fun x o e=>(b.nw x o e).elim (fun z=>a.nw x o z) fun z=>.inr (a.hh.free z)⟩
theorem d6{H:Hp}{p:Addr}{o:HO}(h:H p=none):aQ H (upd H p o):=fun b u e=>by rw[aA (aL e h)];exact e
theorem bM.new{HF H:Hp}{p:Addr}{o:HO}(s:aQ HF H)(h:H p=none):bM HF H (upd HF p o) (upd H p o):=by
 have hf:HF p=none:=s.free h
 refine⟨d6 h,d6 hf,fun b u e=>?_,fun b u e=>?_⟩
 ·by_cases hb:b=p
  ·subst hb;rw[aJ] at e ⊢;exact e
  ·rw[aA hb] at e ⊢;exact s b u e
 ·by_cases hb:b=p
  ·subst hb;exact .inr h
  ·rw[aA hb] at e;exact .inl e
theorem bM.own{HF H:Hp}{p:Addr}{o:HO}(s:aQ HF H)(h:H p=none):bM HF H HF (upd H p o) :=
 ⟨d6 h,.refl _,fun b u e=>by rw[aA (aL (s b u e) h)];exact s b u e,fun _ _ e=>.inl e⟩
theorem bM.freeze{HF H HF1 H1:Hp}{p:Addr}{o:HO}(g:bM HF H HF1 H1)(h:H p=none)(h1:H1 p=some o)(hf:HF1 p=none):bM HF H (upd HF1 p o) H1 :=
 ⟨g.hh,g.ff.trans (d6 hf),fun b u e=>by
  by_cases hb:b=p
  ·subst hb;rw[aJ] at e;rw[h1,<- e]
  ·rw[aA hb] at e;exact g.fh b u e,fun b u e=>by
  by_cases hb:b=p
  ·subst hb;exact .inr h
  ·rw[aA hb] at e;exact g.nw b u e⟩
def kX:List Str:=["ways_of","turned_order","fairest"]
def gX(K:W.Frag)(HF:Hp):Prop:=∀ (f:Addr) (oc:Value) (od:Option Addr) (fd:FuncData) (sl:Array (Option Value)) (c P:Addr),K.lookup f=some ⟨oc,od,.func fd,sl⟩->fd.qualname∈kX->fd.code=.ref c->W.codeHdIn K c P=true->HF P=some (.tab (fd.qualname++".<locals>."++"<lambda>"))
theorem gX.mono{K:W.Frag}{HF HF':Hp}(h:gX K HF)(e:aQ HF HF'):gX K HF':=fun f oc od fd sl c P a b d q=>e _ _ (h f oc od fd sl c P a b d q)
abbrev Env:=List (Option D)
structure cW(K:W.Frag)(HF:Hp)(ρ:Env)(σ:L2.St):Prop where
 get:∀ (i:Nat) (d:D),ρ[i]?=some (some d)->∃v,σ[i]?=some (some v)/\Rep K HF d v
 len:ρ.length<=σ.length
 tb:gX K HF
theorem cW.mono{K:W.Frag}{HF HF':Hp}{ρ:Env}{σ:L2.St}(h:cW K HF ρ σ)(e:aQ HF HF'):cW K HF' ρ σ:=⟨fun i d q=>let ⟨v,a,b⟩:=h.get i d q;⟨v,a,b.mono e⟩,h.len,h.tb.mono e⟩
def tD(K:W.Frag)(f:Env->Option D):TE:=fun σ H Q=>∃HF ρ d,aQ HF H/\cW K HF ρ σ/\f ρ=some d/\∀v H' HF',bM HF H HF' H'->Rep K HF' d v->Q v H'
def DE(X:Cx)(e:Expr)(f:Env->Option D):Prop:=PE X e (tD X.K f)
def tF(K:W.Frag)(f:Env->Option (List D)):TE:=fun σ H Q=>∃HF ρ ds,aQ HF H/\cW K HF ρ σ/\f ρ=some ds /\
 ∀a vs H' HF',bM HF H HF' H'->H a=none->HF' a=none->H' a=some (.lst vs)->aq K HF' ds vs->Q (.ref a) H'
def DF(X:Cx)(e:Expr)(f:Env->Option (List D)):Prop:=PE X e (tF X.K f)
def Ln(K:W.Frag)(f:Env->Option Bool):TT:=fun σ H Q=>∃HF ρ b,aQ HF H/\cW K HF ρ σ/\f ρ=some b/\∀H' HF',bM HF H HF' H'->Q b H'
def DT(X:Cx)(e:Expr)(f:Env->Option Bool):Prop:=PT X e (Ln X.K f)
def Po(K:W.Frag)(f:Env->Option (List D)):TA:=fun σ H Q=>∃HF ρ ds,aQ HF H/\cW K HF ρ σ/\f ρ=some ds/\∀vs H' HF',bM HF H HF' H'->aq K HF' ds vs->Q vs H'
def DA(X:Cx)(es:List Expr)(f:Env->Option (List D)):Prop:=PA X es (Po X.K f)
section
variable {X:Cx}
theorem aY{e:Expr}{t t':TE}(h:PE X e t)(i:∀σ H Q,t' σ H Q->t σ H Q):PE X e t':=fun pins s σ H Q I q=>h pins s σ H Q I (i σ H Q q)
theorem u4{e:Expr}{t t':TT}(h:PT X e t)(i:∀σ H Q,t' σ H Q->t σ H Q):PT X e t':=fun pins s σ H Q I q=>h pins s σ H Q I (i σ H Q q)
theorem GJ{e:List Expr}{t t':TA}(h:PA X e t)(i:∀σ H Q,t' σ H Q->t σ H Q):PA X e t':=fun pos pins s σ H Q I q=>h pos pins s σ H Q I (i σ H Q q)
theorem bs{α β:Type}{x:Option α}{f:α->Option β}{b:β}(h:x.bind f=some b):∃a,x=some a/\f a=some b:=by
 cases x with
 | none=>cases h
 | some a=>exact⟨a,rfl,h⟩
theorem DF.de{e:Expr}{f:Env->Option (List D)}(h:DF X e f):DE X e (fun ρ=>(f ρ).map PyData.list):=aY h fun σ H Q ⟨HF,ρ,d,sm,eo,hf,q⟩=>by
 have hf:(f ρ).map PyData.list=some d:=hf
 cases e1:f ρ with
 | none=>rw[e1] at hf;cases hf
 | some ds =>
  rw[e1] at hf
  obtain rfl:PyData.list ds=d:=Option.some.inj hf
  refine⟨HF,ρ,ds,sm,eo,e1,fun a vs H' HF' g ha hf' h' r=>q _ _ (upd HF' a (.lst vs)) (g.freeze ha h' hf') ?_⟩
  simp only[Rep]
  exact⟨a,vs,rfl,.inl (.inl aJ),r.mono (d6 hf')⟩
def ab(i:Nat):Env->Option D:=fun ρ=>(ρ[i]?).getD none
theorem M0(i:Nat){x:Str}{pos:Pos}(hN:X.N[i]?=some x)(hv:KQ X.env.scope x)(hd:(x == ("__debug__":Str))=false:=by decide)(hcd:(x == ("__classdict__":Str))=false:=by decide):DE X (.Name x pos) (ab i) :=
 aY (qT hN hv hd hcd) fun σ H Q ⟨HF,ρ,d,sm,eo,hf,q⟩=>by
  have hf:(ρ[i]?).getD none=some d:=hf
  cases e:ρ[i]? with
  | none=>rw[e] at hf;cases hf
  | some o =>
   rw[e] at hf
   have hf:o=some d:=hf
   subst hf
   obtain⟨v,a,b⟩:=eo.get i d e
   exact⟨v,a,q v H HF (.refl sm) b⟩
def fC(d:D):Env->Option D:=fun _=>some d
theorem Lg{i j pos}:DE X (.Constant (.int i) j pos) (fC (.int i)):=aY vF fun σ H Q ⟨HF,ρ,d,sm,eo,hf,q⟩=>by cases hf;exact q _ H HF (.refl sm) (by simp[Rep])
theorem NB{b j pos}:DE X (.Constant (.bool b) j pos) (fC (.bool b)):=aY N0 fun σ H Q ⟨HF,ρ,d,sm,eo,hf,q⟩=>by cases hf;exact q _ H HF (.refl sm) (by simp[Rep])
theorem LS{j pos}:DE X (.Constant .none j pos) (fC .none):=aY Mh fun σ H Q ⟨HF,ρ,d,sm,eo,hf,q⟩=>by cases hf;exact q _ H HF (.refl sm) (by simp[Rep])
theorem Mb{x j pos}:DE X (.Constant (.str x) j pos) (fC (.str x)):=aY MO fun σ H Q ⟨HF,ρ,d,sm,eo,hf,q⟩=>by cases hf;exact q _ H HF (.refl sm) (by simp[Rep])
theorem JR{x:Str}{i:Int}{t:Tok}{pos:Pos}(hg:Gl X x)(hm:X.mg x=some (.int i t))(hd:(x == ("__debug__":Str))=false:=by decide):DE X (.Name x pos) (fC (.int i)) :=
 aY (vn (v:=.int i) hg hm ⟨t,rfl⟩ hd) fun σ H Q ⟨HF,ρ,d,sm,eo,hf,q⟩=>by cases hf;exact q _ H HF (.refl sm) (by simp[Rep])
def gu(K:W.Frag)(r:R2)(g:D->D->Option D):Prop:=∀HF H x y v1 v2 d Q,aQ HF H->Rep K HF x v1->Rep K HF y v2->g x y=some d->(∀v H' HF',bM HF H HF' H'->Rep K HF' d v->Q v H')->r v1 v2 H Q
def f2(g:D->D->Option D)(f1 f2:Env->Option D):Env->Option D:=fun ρ=>(f1 ρ).bind fun x=>(f2 ρ).bind fun y=>g x y
variable {a b c:Expr}{fa fb fc:Env->Option D}{pos:Pos}
theorem Jh{r:R2}{g:D->D->Option D}(hr:gu X.K r g):∀σ H Q,tD X.K (f2 g fa fb) σ H Q->N8 r (tD X.K fa) (tD X.K fb) σ H Q:=fun σ H Q ⟨HF,ρ,d,sm,eo,hf,q⟩=>by
 obtain⟨x,hx,hf⟩:=bs hf
 obtain⟨y,hy,hg⟩:=bs hf
 exact⟨HF,ρ,x,sm,eo,hx,fun v1 H1 HF1 g1 r1=>⟨HF1,ρ,y,g1.fh,eo.mono g1.ff,hy,fun v2 H2 HF2 g2 r2=>hr HF2 H2 x y v1 v2 d Q g2.fh (r1.mono g2.ff) r2 hg fun v H' HF' g3 r3=>q v H' HF' ((g1.trans g2).trans g3) r3⟩⟩
theorem xH{op:Operator}{r:R2}{g:D->D->Option D}(ho:i4 X (binaryOp op) r)(hr:gu X.K r g)(ha:DE X a fa)(hb:DE X b fb):DE X (.BinOp a op b pos) (f2 g fa fb):=aY (Ky ho ha hb) (Jh hr)
theorem jA{op:CmpOp}{r:R2}{g:D->D->Option D}(ho:i4 X (compareOp op) r)(hr:gu X.K r g)(ha:DE X a fa)(hb:DE X b fb)(hm:behindInMarks op b=false):DE X (.Compare a [op] [b] pos) (f2 g fa fb):=aY (Kb ho ha hb hm) (Jh hr)
def wY(C:Int->Int->Prop)[∀i j,Decidable (C i j)](g:Int->Int->D):D->D->Option D
 | .int i,.int j=>if C i j then some (g i j) else none
 | _,_=>none
theorem EL{K:W.Frag}{C:Int->Int->Prop}[∀i j,Decidable (C i j)]{gi:Int->Int->Int}:gu K (rI C fun i j=>.int (gi i j)) (wY C fun i j=>.int (gi i j)):=by
 intro HF H x y v1 v2 d Q sm r1 r2 hg q
 cases x<;>cases y<;>simp only[wY] at hg<;>try cases hg
 rename_i i j
 simp only[Rep] at r1 r2
 by_cases hc:C i j
 ·rw[if_pos hc] at hg
  cases hg
  exact⟨i,j,r1,r2,hc,q _ H HF (.refl sm) (by simp[Rep])⟩
 ·rw[if_neg hc] at hg;cases hg
theorem F0{K:W.Frag}{gi:Int->Int->Int}:gu K (HK fun i j=>.int (gi i j)) (wY (fun _ _=>True) fun i j=>.int (gi i j)):=by
 intro HF H x y v1 v2 d Q sm r1 r2 hg q
 cases x<;>cases y<;>simp only[wY] at hg<;>try cases hg
 rename_i i j
 simp only[Rep] at r1 r2
 exact⟨i,j,r1,r2,q _ H HF (.refl sm) (by simp[Rep])⟩
theorem iO{K:W.Frag}{gi:Int->Int->Bool}:gu K (HK fun i j=>.bl (gi i j)) (wY (fun _ _=>True) fun i j=>.bool (gi i j)):=by
 intro HF H x y v1 v2 d Q sm r1 r2 hg q
 cases x<;>cases y<;>simp only[wY] at hg<;>try cases hg
 rename_i i j
 simp only[Rep] at r1 r2
 exact⟨i,j,r1,r2,q _ H HF (.refl sm) (by simp[Rep])⟩
noncomputable instance (i j:Int):Decidable (vx i j):=by unfold vx;infer_instance
noncomputable instance (i j:Int):Decidable (JP i j):=by unfold JP;infer_instance
end
section
variable {X:Cx}{a b c:Expr}{fa fb fc:Env->Option D}{pos:Pos}{rest:List Expr}
def j6(fa fb:Env->Option D):Env->Option D:=fun ρ=>(fa ρ).bind fun|.bool true=>fb ρ|.bool false=>some (.bool false)|_=>none
def Pd(fa fb:Env->Option D):Env->Option D:=fun ρ=>(fa ρ).bind fun|.bool true=>some (.bool true)|.bool false=>fb ρ|_=>none
def OF:D->Option D|.bool b=>some (.bool (!b))|_=>none
def LW(fa:Env->Option D):Env->Option D:=fun ρ=>(fa ρ).bind OF
theorem Nh{op}(h:DE X a fa):DE X (.BoolOp op [a] pos) fa:=Ll h
theorem M1(ha:DE X a fa)(hb:DE X (.BoolOp .And (b::rest) pos) fb):DE X (.BoolOp .And (a::b::rest) pos) (j6 fa fb):=aY (Mn ha hb) fun σ H Q ⟨HF,ρ,d,sm,eo,hf,q⟩=>by
 obtain⟨x,hx,hf⟩:=bs hf
 refine⟨HF,ρ,x,sm,eo,hx,fun v1 H1 HF1 g1 r1=>?_⟩
 cases x<;>try cases hf
 rename_i k
 simp only[Rep] at r1
 refine⟨k,r1,?_⟩
 cases k with
 | true=>exact yW ⟨HF1,ρ,d,g1.fh,eo.mono g1.ff,hf,fun v H' HF' g r=>q v H' HF' (g1.trans g) r⟩
 | false=>cases hf;exact xR (q _ H1 HF1 g1 (by simp[Rep]))
theorem NP(ha:DE X a fa)(hb:DE X (.BoolOp .Or (b::rest) pos) fb):DE X (.BoolOp .Or (a::b::rest) pos) (Pd fa fb):=aY (GZ ha hb) fun σ H Q ⟨HF,ρ,d,sm,eo,hf,q⟩=>by
 obtain⟨x,hx,hf⟩:=bs hf
 refine⟨HF,ρ,x,sm,eo,hx,fun v1 H1 HF1 g1 r1=>?_⟩
 cases x<;>try cases hf
 rename_i k
 simp only[Rep] at r1
 refine⟨k,r1,?_⟩
 cases k with
 | false=>exact xR ⟨HF1,ρ,d,g1.fh,eo.mono g1.ff,hf,fun v H' HF' g r=>q v H' HF' (g1.trans g) r⟩
 | true=>cases hf;exact yW (q _ H1 HF1 g1 (by simp[Rep]))
theorem LX(ha:DE X a fa):DE X (.UnaryOp .Not a pos) (LW fa):=aY (MG ha) fun σ H Q ⟨HF,ρ,d,sm,eo,hf,q⟩=>by
 obtain⟨x,hx,hf⟩:=bs hf
 refine⟨HF,ρ,x,sm,eo,hx,fun v1 H1 HF1 g1 r1=>?_⟩
 cases x<;>try cases hf
 rename_i k
 simp only[Rep] at r1
 exact⟨k,r1,q _ H1 HF1 g1 (by simp[Rep])⟩
def gB:D->Option Bool|.bool b=>some b|_=>none
def fB(f:Env->Option D):Env->Option Bool:=fun ρ=>(f ρ).bind gB
theorem A6{f:Env->Option D}:∀σ H (Q:Bool->Hp->Prop),Ln X.K (fB f) σ H Q->tD X.K f σ H fun x H1=>∃c,x=.bl c/\Q c H1:=fun σ H Q ⟨HF,ρ,k,sm,eo,hf,q⟩=>by
 obtain⟨x,hx,hf⟩:=bs hf
 refine⟨HF,ρ,x,sm,eo,hx,fun v1 H1 HF1 g1 r1=>?_⟩
 cases x<;>try cases hf
 simp only[Rep] at r1
 exact⟨_,r1,q H1 HF1 g1⟩
theorem Mj{f:Env->Option D}(h:DE X a f)(he:∀whole,isTrue a X.env whole=(do let v <- whole;standAt a.pos;holding [v] (truthy v)):=by intro _;rfl):DT X a (fB f):=u4 (Ma h he) A6
theorem jq{op:CmpOp}{r:R2}{g:D->D->Option D}(ho:i4 X (compareOp op) r)(hr:gu X.K r g)(ha:DE X a fa)(hb:DE X b fb)(hm:behindInMarks op b=false):DT X (.Compare a [op] [b] pos) (fB (f2 g fa fb)) :=
 u4 (JL ho ha hb hm) fun σ H Q h=>Jh hr σ H _ (A6 σ H Q h)
def iZ(fa fb:Env->Option Bool):Env->Option Bool:=fun ρ=>(fa ρ).bind fun|true=>fb ρ|false=>some false
def td(fa fb:Env->Option Bool):Env->Option Bool:=fun ρ=>(fa ρ).bind fun|true=>some true|false=>fb ρ
def bR(fa:Env->Option Bool):Env->Option Bool:=fun ρ=>(fa ρ).map (!·)
variable {ta tb:Env->Option Bool}
def DW(X:Cx)(e:Expr)(f:Env->Option Bool):Prop:=PW X e (Ln X.K f)
theorem HG{e:Expr}{t t':TT}(h:PW X e t)(i:∀σ H Q,t' σ H Q->t σ H Q):PW X e t':=fun wh pins s σ H Q I q=>h wh pins s σ H Q I (i σ H Q q)
theorem DW.dt(h:DW X a ta):DT X a ta:=PW.pt h
theorem Ka(ha:DT X a ta):DW X (.BoolOp .And [a] pos) ta:=J9 ha
theorem Lx(ha:DT X a ta):DW X (.BoolOp .Or [a] pos) ta:=MT ha
theorem LJ(ha:DT X a ta)(hb:DW X (.BoolOp .And (b::rest) pos) tb):DW X (.BoolOp .And (a::b::rest) pos) (iZ ta tb):=HG (LQ ha hb) fun σ H Q ⟨HF,ρ,d,sm,eo,hf,q⟩=>by
 obtain⟨x,hx,hf⟩:=bs hf
 refine⟨HF,ρ,x,sm,eo,hx,fun H1 HF1 g1=>?_⟩
 cases x with
 | true=>exact yW ⟨HF1,ρ,d,g1.fh,eo.mono g1.ff,hf,fun H' HF' g=>q H' HF' (g1.trans g)⟩
 | false=>cases hf;exact xR (q H1 HF1 g1)
theorem Nz(ha:DT X a ta)(hb:DW X (.BoolOp .Or (b::rest) pos) tb):DW X (.BoolOp .Or (a::b::rest) pos) (td ta tb):=HG (N4 ha hb) fun σ H Q ⟨HF,ρ,d,sm,eo,hf,q⟩=>by
 obtain⟨x,hx,hf⟩:=bs hf
 refine⟨HF,ρ,x,sm,eo,hx,fun H1 HF1 g1=>?_⟩
 cases x with
 | false=>exact xR ⟨HF1,ρ,d,g1.fh,eo.mono g1.ff,hf,fun H' HF' g=>q H' HF' (g1.trans g)⟩
 | true=>cases hf;exact yW (q H1 HF1 g1)
theorem My(ha:DT X a ta):DT X (.UnaryOp .Not a pos) (bR ta):=u4 (Mq ha) fun σ H Q ⟨HF,ρ,d,sm,eo,hf,q⟩=>by
 have hf:(ta ρ).map (!·)=some d:=hf
 cases e:ta ρ with
 | none=>rw[e] at hf;cases hf
 | some k=>rw[e] at hf;cases hf;exact⟨HF,ρ,k,sm,eo,e,fun H1 HF1 g1=>q H1 HF1 g1⟩
def P8(tc:Env->Option Bool)(fa fb:Env->Option D):Env->Option D:=fun ρ=>(tc ρ).bind fun|true=>fa ρ|false=>fb ρ
theorem OD{c:Expr}(hc:DT X c ta)(ha:DE X a fa)(hb:DE X b fb):DE X (.IfExp c a b pos) (P8 ta fa fb):=aY (GQ hc ha hb) fun σ H Q ⟨HF,ρ,d,sm,eo,hf,q⟩=>by
 obtain⟨x,hx,hf⟩:=bs hf
 refine⟨HF,ρ,x,sm,eo,hx,fun H1 HF1 g1=>?_⟩
 cases x with
 | true=>exact yW ⟨HF1,ρ,d,g1.fh,eo.mono g1.ff,hf,fun v H' HF' g r=>q v H' HF' (g1.trans g) r⟩
 | false=>exact xR ⟨HF1,ρ,d,g1.fh,eo.mono g1.ff,hf,fun v H' HF' g r=>q v H' HF' (g1.trans g) r⟩
def kN(g g':D->D->Option D)(fa fb fc:Env->Option D):Env->Option D:=fun ρ=>(fa ρ).bind fun x=>(fb ρ).bind fun y=>(g x y).bind fun|.bool true=>(fc ρ).bind fun z=>g' y z|.bool false=>some (.bool false)|_=>none
theorem BO{r r':R2}{g g':D->D->Option D}(hr:gu X.K r g)(hr':gu X.K r' g'):∀σ H Q,tD X.K (kN g g' fa fb fc) σ H Q->Bl r r' (tD X.K fa) (tD X.K fb) (tD X.K fc) σ H Q:=fun σ H Q ⟨HF,ρ,d,sm,eo,hf,q⟩=>by
 obtain⟨x,hx,hf⟩:=bs hf
 obtain⟨y,hy,hf⟩:=bs hf
 obtain⟨z,hz,hf⟩:=bs hf
 refine⟨HF,ρ,x,sm,eo,hx,fun v1 H1 HF1 g1 r1=>⟨HF1,ρ,y,g1.fh,eo.mono g1.ff,hy,fun v2 H2 HF2 g2 r2=>hr HF2 H2 x y v1 v2 z _ g2.fh (r1.mono g2.ff) r2 hz fun v3 H3 HF3 g3 r3=>?_⟩⟩
 cases z<;>try cases hf
 rename_i k
 simp only[Rep] at r3
 refine⟨k,r3,?_⟩
 have G:=(g1.trans g2).trans g3
 cases k with
 | false=>cases hf;exact xR (q _ H3 HF3 G (by simp[Rep]))
 | true =>
  obtain⟨w,hw,hg⟩:=bs hf
  exact yW ⟨HF3,ρ,w,G.fh,eo.mono G.ff,hw,fun v4 H4 HF4 g4 r4=>hr' HF4 H4 y w v2 v4 d Q g4.fh (r2.mono (g3.ff.trans g4.ff)) r4 hg fun v H' HF' g5 r5=>q v H' HF' ((G.trans g4).trans g5) r5⟩
theorem FC{op op':CmpOp}{r r':R2}{g g':D->D->Option D}(ho:i4 X (compareOp op) r)(hr:gu X.K r g)(ho':i4 X (compareOp op') r')(hr':gu X.K r' g')(ha:DE X a fa)(hb:DE X b fb)(hc:DE X c fc)
  (hm:lastMarks [op,op'] [b,c]=false:=by with_unfolding_all rfl):DE X (.Compare a [op,op'] [b,c] pos) (kN g g' fa fb fc):=aY (FZ ho ho' ha hb hc hm) (BO hr hr')
theorem FJ{op op':CmpOp}{r r':R2}{g g':D->D->Option D}(ho:i4 X (compareOp op) r)(hr:gu X.K r g)(ho':i4 X (compareOp op') r')(hr':gu X.K r' g')(ha:DE X a fa)(hb:DE X b fb)(hc:DE X c fc)
  (hm:lastMarks [op,op'] [b,c]=false:=by with_unfolding_all rfl):DT X (.Compare a [op,op'] [b,c] pos) (fB (kN g g' fa fb fc)) :=
 u4 (Fo ho ho' ha hb hc hm) fun σ H Q h=>BO hr hr' σ H _ (A6 σ H Q h)
def ae:Env->Option (List D):=fun _=>some []
def aa(f:Env->Option D)(g:Env->Option (List D)):Env->Option (List D):=fun ρ=>(f ρ).bind fun x=>(g ρ).map (x::·)
theorem AF:DA X [] ae:=GJ iN fun σ H Q ⟨HF,ρ,d,sm,eo,hf,q⟩=>by cases hf;exact q [] H HF (.refl sm) aq.nil
theorem wN{e:Expr}{es:List Expr}{f:Env->Option D}{g:Env->Option (List D)}(he:DE X e f)(hs:DA X es g)(hst:starEach (e::es) X.env=(false,eval e X.env)::starEach es X.env:=by rfl):DA X (e::es) (aa f g) :=
 GJ (di he hs hst) fun σ H Q ⟨HF,ρ,d,sm,eo,hf,q⟩=>by
  obtain⟨x,hx,hf⟩:=bs hf
  have hf:(g ρ).map (x::·)=some d:=hf
  cases e1:g ρ with
  | none=>rw[e1] at hf;cases hf
  | some xs =>
   rw[e1] at hf;cases hf
   exact⟨HF,ρ,x,sm,eo,hx,fun v1 H1 HF1 g1 r1=>⟨HF1,ρ,xs,g1.fh,eo.mono g1.ff,e1,fun vs H2 HF2 g2 r2=>q (v1::vs) H2 HF2 (g1.trans g2) (aq.cons (r1.mono g2.ff) r2)⟩⟩
variable {es:List Expr}{fs:Env->Option (List D)}
def small(ds:List D):Option (List D):=if ds.length<=sizeLine then some ds else none
theorem eT{ds es:List D}(h:small ds=some es):es=ds/\ds.length<=sizeLine:=by
 unfold small at h
 split at h
 ·cases h;exact⟨rfl,‹_›⟩
 ·cases h
def aN(g:Env->Option (List D)):Env->Option D:=fun ρ=>(g ρ).bind fun ds=>(small ds).map PyData.tuple
def fE(g:Env->Option (List D)):Env->Option (List D):=fun ρ=>(g ρ).bind small
theorem Mp{x1}(h:DA X es fs):DE X (.Tuple es x1 pos) (aN fs):=aY (M7 h) fun σ H Q ⟨HF,ρ,d,sm,eo,hf,q⟩=>by
 obtain⟨ds,hx,hf⟩:=bs hf
 have hf:(small ds).map PyData.tuple=some d:=hf
 cases e:small ds with
 | none=>rw[e] at hf;cases hf
 | some es' =>
  rw[e] at hf;cases hf
  obtain⟨rfl,hz⟩:=eT e
  refine⟨HF,ρ,_,sm,eo,hx,fun vs H1 HF1 g1 r1=>⟨by rw[r1.length];exact hz,fun p hp=>q _ _ (upd HF1 p (.tup vs)) (g1.trans (.new g1.fh hp)) ?_⟩⟩
  simp only[Rep]
  exact⟨p,vs,rfl,.inl (.inl aJ),r1.mono (d6 (g1.fh.free hp))⟩
theorem Nn(h:DA X es fs):DF X (.List es pos) (fE fs):=aY (Gw h) fun σ H Q ⟨HF,ρ,d,sm,eo,hf,q⟩=>by
 obtain⟨ds,hx,hf⟩:=bs hf
 obtain⟨rfl,hz⟩:=eT hf
 exact⟨HF,ρ,_,sm,eo,hx,fun vs H1 HF1 g1 r1=>⟨by rw[r1.length];exact hz,fun p hp=>q p vs _ HF1 (g1.trans (.own g1.fh hp)) (g1.hh.free hp) (g1.fh.free hp) aJ r1⟩⟩
def au:D->D->Option D
 | .tuple ds,.int i=>wc ds i
 | .list ds,.int i=>wc ds i
 | _,_=>none
theorem xS{K:W.Frag}{HF:Hp}{ds:List D}{vs:List V}{i:Int}{d:D}(r:aq K HF ds vs)(h:wc ds i=some d):∃v,wc vs i=some v/\Rep K HF d v:=by
 unfold wc at h ⊢
 rw[r.length]
 obtain⟨j,hj,h⟩:=bs h
 obtain⟨v,a,b⟩:=r.getD h
 exact⟨v,by rw[hj];exact a,b⟩
theorem Mf{K:W.Frag}:gu K (Qh K) au:=by
 intro HF H x y v1 v2 d Q sm r1 r2 hg q
 cases x<;>cases y<;>simp only[au] at hg<;>try cases hg
 ·simp only[Rep] at r1 r2
  obtain⟨a,vs,rfl,hs,r⟩:=r1
  obtain⟨v,hv,rv⟩:=xS r hg
  exact .inl ⟨a,vs,_,v,rfl,r2,sm.seq hs,hv,q v H HF (.refl sm) rv⟩
 ·simp only[Rep] at r1 r2
  obtain⟨a,vs,rfl,hs,r⟩:=r1
  obtain⟨v,hv,rv⟩:=xS r hg
  exact .inr (.inl ⟨a,vs,_,v,rfl,r2,ay sm hs,hv,q v H HF (.refl sm) rv⟩)
theorem Oh(ha:DE X a fa)(hb:DE X b fb)(hs:pS b:=by intro _ _;rfl):DE X (.Subscript a b pos) (f2 au fa fb):=aY (KE LM ha hb hs) (Jh Mf)
mutual
theorem g9{pins:List (Addr×Obj)}{σ:L2.St}{H HF:Hp}{s:Shared}(I:Inv X pins σ H s)(sm:aQ HF H):∀ {d:D}{v:V}{u:Value},Rep X.K HF d v->RelV v u->∃as,Reads s.heap u d as
 | .none,_,_,h,r=>by simp only[Rep] at h;subst h;cases r;exact⟨_,.none⟩
 | .bool b,_,_,h,r=>by simp only[Rep] at h;subst h;cases r;exact⟨_,.bool b⟩
 | .int i,_,_,h,r=>by simp only[Rep] at h;subst h;obtain⟨t,rfl⟩:=r;exact⟨_,.int i t⟩
 | .str i,_,_,h,r=>by simp only[Rep] at h;subst h;obtain⟨t,rfl⟩:=r;exact⟨_,.str i t⟩
 | .tuple ds,_,_,h,r=>by
  simp only[Rep] at h
  obtain⟨a,vs,rfl,hs,rr⟩:=h
  cases r
  obtain⟨its,rv,⟨o,ho,hc,n,hd⟩,_⟩:=I.tuple (ay sm hs)
  obtain⟨as,q⟩:=oF I sm rr rv
  exact⟨as,.tuple ho hc hd (by simpa using q)⟩
 | .list ds,_,_,h,r=>by
  simp only[Rep] at h
  obtain⟨a,vs,rfl,hs,rr⟩:=h
  cases r
  obtain⟨its,rv,pl,_⟩:=I.list (sm.seq hs)
  obtain⟨o,ho,hc,n,hd⟩:=pl.isList
  obtain⟨as,q⟩:=oF I sm rr rv
  exact⟨_,.list ho hc hd (by simpa using q)⟩
 | .dict _,_,_,h,r=>by simp only[Rep] at h
theorem oF{pins:List (Addr×Obj)}{σ:L2.St}{H HF:Hp}{s:Shared}(I:Inv X pins σ H s)(sm:aQ HF H):∀ {ds:List D}{vs:List V}{us:List Value},aq X.K HF ds vs->aB vs us->∃as,ReadsAll s.heap us ds as
 | [],_,_,h,r=>by rw[h.nil_inv] at r;cases r;exact⟨_,.nil⟩
 | d::ds,_,_,h,r=>by
  obtain⟨v,vr,rfl,a,b⟩:=h.cons_inv
  cases r with
  | cons r rr =>
   obtain⟨as,q⟩:=g9 I sm a r
   obtain⟨bs,p⟩:=oF I sm b rr
   exact⟨_,.cons q p⟩
end
def N3(K:W.Frag)(g:D->D->Option Bool):R2:=fun v1 v2 H Q=>∃HF x y k,aQ HF H/\Rep K HF x v1/\Rep K HF y v2/\g x y=some k/\Q (.bl k) H
theorem kC{K:W.Frag}{g:D->D->Option Bool}:gu K (N3 K g) (fun x y=>(g x y).map PyData.bool):=by
 intro HF H x y v1 v2 d Q sm r1 r2 hg q
 have hg:(g x y).map PyData.bool=some d:=hg
 cases e:g x y with
 | none=>rw[e] at hg;cases hg
 | some k=>rw[e] at hg;cases hg;exact⟨HF,x,y,k,sm,r1,r2,e,q _ H HF (.refl sm) (by simp[Rep])⟩
def MA(x y:D):Option Bool:=if SeqAt.shaped x=true/\SeqAt.shaped y=true then some (PyData.eqv x y) else none
def NJ(x y:D):Option Bool:=if SeqAt.shaped x=true/\SeqAt.shaped y=true then some (!PyData.eqv x y) else none
theorem EG(hu:X.A.units+64 < cLine):i4 X (compareOp .Eq) (N3 X.K MA):=by
 intro pins s σ H v1 v2 u1 u2 Q I rx ry h
 obtain⟨HF,x,y,k,sm,r1,r2,hg,q⟩:=h
 unfold MA at hg
 split at hg<;>cases hg
 rename_i hh
 obtain⟨as,ra⟩:=g9 I sm r1 rx
 obtain⟨bs,rb⟩:=g9 I sm r2 ry
 exact eq_dataH ra rb hh.1 hh.2 hu ⟨.bl _,H,I,rfl,q⟩
theorem FA(hu:X.A.units+64 < cLine):i4 X (compareOp .NotEq) (N3 X.K NJ):=by
 intro pins s σ H v1 v2 u1 u2 Q I rx ry h
 obtain⟨HF,x,y,k,sm,r1,r2,hg,q⟩:=h
 unfold NJ at hg
 split at hg<;>cases hg
 rename_i hh
 obtain⟨as,ra⟩:=g9 I sm r1 rx
 obtain⟨bs,rb⟩:=g9 I sm r2 ry
 exact ne_dataH ra rb hh.1 hh.2 hu ⟨.bl _,H,I,rfl,q⟩
def items:D->Option (List D)|.tuple ds=>some ds|.list ds=>some ds|_=>none
end
def LP(K:W.Frag)(n:Nat)(m:List D->Option D):Sp:=fun vs H Q _=>∃HF ds d,aQ HF H/\gX K HF/\aq K HF ds vs/\ds.length=n/\m ds=some d/\∀v H' HF',bM HF H HF' H'->Rep K HF' d v->Q v H'
structure dm(P:Program)(w:World)(K:W.Frag)(mg:Str->Option Value)(base:Heap)(k:Nat)(x:Str)(n:Nat)(m:List D->Option D):Prop where
 ex:∃ (f:Addr) (fd:FuncData) (ps:List Str),pA P w K mg base Ms k f fd ps (LP K n m)/\mg x=some (.ref f)/\W.keepIn K (.ref f)=true/\Binds K fd ps []
theorem dm.mono{P:Program}{w:World}{K:W.Frag}{mg:Str->Option Value}{base:Heap}{k j:Nat}{x:Str}{n:Nat}{m:List D->Option D}(F:dm P w K mg base k x n m)(h:k<=j):dm P w K mg base j x n m:=by
 obtain⟨f,fd,ps,a,b,c,d⟩:=F.ex
 exact⟨f,fd,ps,a.mono h,b,c,d⟩
section
variable {X:Cx}{a b c e:Expr}{es:List Expr}{fa fb fc:Env->Option D}{fs:Env->Option (List D)}{pos p:Pos}{x:Str}
def ah(n:Nat)(m:List D->Option D)(fs:Env->Option (List D)):Env->Option D:=fun ρ=>(fs ρ).bind fun ds=>if ds.length=n then m ds else none
theorem IC{k n:Nat}{m:List D->Option D}(F:dm X.prog X.w X.K X.mg X.base k x n m)(hr:ee k X.A)(hg:Gl X x)(ha:DA X (e::es) fs)(hdb:(x == ("__debug__":Str))=false:=by decide)
  (he:starEach (e::es) X.env=(false,eval e X.env)::starEach es X.env:=by rfl) (hpl:(backTo pos (starEach es X.env)).any (·.1)=false:=by rfl):DE X (.Call (.Name x p) (e::es) [] pos) (ah n m fs):=by
 obtain⟨f,fd,ps,ok,hm,hk,hb⟩:=F.ex
 refine aY (JM (E:=E0) ok hr hg hm hk hb .nil Kz ha hdb he hpl) fun σ H Q ⟨HF,ρ,d,sm,eo,hf,q⟩=>?_
 obtain⟨ds,hx,hf⟩:=bs hf
 split at hf
 ·rename_i hl
  exact⟨HF,ρ,ds,sm,eo,hx,fun vs H1 HF1 g1 r1=>⟨HF1,ds,d,g1.fh,eo.tb.mono g1.ff,by rw[List.append_nil];exact r1,hl,hf,fun v H' HF' g r=>q v H' HF' (g1.trans g) r⟩⟩
 ·cases hf
def Hl(K:W.Frag)(r:List V->Hp->VK->Prop)(g:List D->Option D):Prop:=∀HF H ds vs d Q,aQ HF H->aq K HF ds vs->g ds=some d->(∀v H' HF',bM HF H HF' H'->Rep K HF' d v->Q v H')->r vs H Q
def aZ(g:List D->Option D)(fs:Env->Option (List D)):Env->Option D:=fun ρ=>(fs ρ).bind g
theorem NX{r:List V->Hp->VK->Prop}{g:List D->Option D}(hs:Hl X.K r g):∀σ H Q,tD X.K (aZ g fs) σ H Q->OO r (Po X.K fs) σ H Q:=fun σ H Q ⟨HF,ρ,d,sm,eo,hf,q⟩=>by
 obtain⟨ds,hx,hf⟩:=bs hf
 exact⟨HF,ρ,ds,sm,eo,hx,fun vs H1 HF1 g1 r1=>hs HF1 H1 ds vs d Q g1.fh r1 hf fun v H' HF' g2 r2=>q v H' HF' (g1.trans g2) r2⟩
def KU(K:W.Frag)(r:List V->Hp->VK->Prop)(g:List D->Option (List D)):Prop:=∀HF H ds vs es Q,aQ HF H->aq K HF ds vs->g ds=some es ->
 (∀a us H' HF',bM HF H HF' H'->H a=none->HF' a=none->H' a=some (.lst us)->aq K HF' es us->Q (.ref a) H')->r vs H Q
def sr(g:List D->Option (List D))(fs:Env->Option (List D)):Env->Option (List D):=fun ρ=>(fs ρ).bind g
theorem NA{r:List V->Hp->VK->Prop}{g:List D->Option (List D)}(hs:KU X.K r g):∀σ H Q,tF X.K (sr g fs) σ H Q->OO r (Po X.K fs) σ H Q:=fun σ H Q ⟨HF,ρ,d,sm,eo,hf,q⟩=>by
 obtain⟨ds,hx,hf⟩:=bs hf
 exact⟨HF,ρ,ds,sm,eo,hx,fun vs H1 HF1 g1 r1=>hs HF1 H1 ds vs d Q g1.fh r1 hf fun a us H' HF' g2 ha hf' h' r2=>q a us H' HF' (g1.trans g2) (g1.hh.free ha) hf' h' r2⟩
structure oK(X:Cx)(x:Str)(v:Value):Prop where
 gl:Gl X x
 mg:X.mg x=none
 bt:bootBuiltins x=some v
theorem gL{id:String}{r:List V->Hp->VK->Prop}{g:List D->Option D}(hc:eL X (.builtin id) r)(hs:Hl X.K r g)(B:oK X x (.builtin id))(ha:DA X (e::es) fs)(hn:x≠"__name__":=by decide)(hdb:(x == ("__debug__":Str))=false:=by decide)
  (he:starEach (e::es) X.env=(false,eval e X.env)::starEach es X.env:=by rfl) (hpl:(backTo pos (starEach es X.env)).any (·.1)=false:=by rfl):DE X (.Call (.Name x p) (e::es) [] pos) (aZ g fs) :=
 aY (mF hc B.gl B.mg B.bt ha hn hdb he hpl) (NX hs)
theorem ER{id:String}{r:List V->Hp->VK->Prop}{g:List D->Option (List D)}(hc:eL X (.builtin id) r)(hs:KU X.K r g)(B:oK X x (.builtin id))(ha:DA X (e::es) fs)(hn:x≠"__name__":=by decide)(hdb:(x == ("__debug__":Str))=false:=by decide)
  (he:starEach (e::es) X.env=(false,eval e X.env)::starEach es X.env:=by rfl) (hpl:(backTo pos (starEach es X.env)).any (·.1)=false:=by rfl):DF X (.Call (.Name x p) (e::es) [] pos) (sr g fs) :=
 aY (mF hc B.gl B.mg B.bt ha hn hdb he hpl) (NA hs)
theorem D3{T:String}{r:List V->Hp->VK->Prop}{g:List D->Option D}(hc:eL X (.type T) r)(hs:Hl X.K r g)(B:oK X x (.type T))(ha:DA X (e::es) fs)(hn:x≠"__name__":=by decide)(hdb:(x == ("__debug__":Str))=false:=by decide)
  (he:starEach (e::es) X.env=(false,eval e X.env)::starEach es X.env:=by rfl) (hpl:(backTo pos (starEach es X.env)).any (·.1)=false:=by rfl):DE X (.Call (.Name x p) (e::es) [] pos) (aZ g fs) :=
 aY (tU hc B.gl B.mg B.bt ha hn hdb he hpl) (NX hs)
def g0:D->Option (List D)|.tuple ds=>some ds|.list ds=>some ds|_=>none
def oneOf:List D->Option D|[d]=>some d|_=>none
theorem gH{ds:List D}{d:D}(h:oneOf ds=some d):ds=[d]:=by
 cases ds with
 | nil=>cases h
 | cons x r=>cases r with
  | nil=>cases h;rfl
  | cons _ _=>cases h
theorem l4{d:D}{ds:List D}(h:g0 d=some ds):d=.tuple ds\/d=.list ds:=by
 cases d<;>cases h
 ·exact .inr rfl
 ·exact .inl rfl
def du:List D->Option (List D):=fun ds=>(oneOf ds).bind g0
theorem k7{ds es:List D}(h:du ds=some es):ds=[.tuple es]\/ds=[.list es]:=by
 obtain⟨d,h1,h2⟩:=bs h
 rw[gH h1]
 rcases l4 h2 with rfl|rfl
 ·exact .inl rfl
 ·exact .inr rfl
def bN:List D->Option D:=fun ds=>(du ds).map fun es=>.int es.length
theorem ag{α β:Type}{x:Option α}{f:α->β}{b:β}(h:x.map f=some b):∃a,x=some a/\f a=b:=by
 cases x with
 | none=>cases h
 | some a=>exact⟨a,rfl,Option.some.inj h⟩
theorem Ih{K:W.Frag}:Hl K (fun xs H Q=>∃p ys,xs=[.ref p]/\(iU K H p ys\/ji K H p ys)/\Q (.int ys.length) H) bN:=by
 intro HF H ds vs d Q sm r hg q
 obtain⟨es,h1,rfl⟩:=ag hg
 rcases k7 h1 with rfl|rfl
 all_goals
  obtain⟨v,r',rfl,a,b⟩:=r.cons_inv
  rw[b.nil_inv]
  simp only[Rep] at a
  obtain⟨p,us,rfl,h,rr⟩:=a
 ·exact⟨p,us,rfl,.inr (ay sm h),q _ H HF (.refl sm) (by simp[Rep,rr.length])⟩
 ·exact⟨p,us,rfl,.inl (sm.seq h),q _ H HF (.refl sm) (by simp[Rep,rr.length])⟩
theorem M6(B:oK X "len" (.builtin "len"))(ha:DA X [e] fs)(he:starEach [e] X.env=(false,eval e X.env)::starEach [] X.env:=by rfl):DE X (.Call (.Name "len" p) [e] [] pos) (aZ bN fs) :=
 gL vv Ih B ha (by decide) (by decide) he rfl
theorem cY{K:W.Frag}{HF:Hp}{l:Addr}{ds:List D}{vs:List V}(h:HF l=none)(r:aq K HF ds vs):Rep K (upd HF l (.tup vs)) (.tuple ds) (.ref l):=by
 simp only[Rep];exact⟨l,vs,rfl,.inl (.inl aJ),r.mono (d6 h)⟩
theorem DJ{K:W.Frag}:Hl K (fun xs H Q=>∃p ys,xs=[.ref p]/\((iU K H p ys/\∀l,H l=none->Q (.ref l) (upd H l (.tup ys)))\/(ji K H p ys/\Q (.ref p) H))) (fun ds=>(du ds).map PyData.tuple):=by
 intro HF H ds vs d Q sm r hg q
 obtain⟨es,h1,rfl⟩:=ag hg
 rcases k7 h1 with rfl|rfl
 all_goals
  obtain⟨v,r',rfl,a,b⟩:=r.cons_inv
  rw[b.nil_inv]
  have a':=a
  simp only[Rep] at a
  obtain⟨p,us,rfl,h,rr⟩:=a
 ·exact⟨p,us,rfl,.inr ⟨ay sm h,q _ H HF (.refl sm) a'⟩⟩
 ·exact⟨p,us,rfl,.inl ⟨sm.seq h,fun l hl=>q _ _ _ (.new sm hl) (cY (sm.free hl) rr)⟩⟩
theorem Gy(B:oK X "tuple" (.type "tuple"))(ha:DA X [e] fs)(he:starEach [e] X.env=(false,eval e X.env)::starEach [] X.env:=by rfl):DE X (.Call (.Name "tuple" p) [e] [] pos) (aZ (fun ds=>(du ds).map PyData.tuple) fs) :=
 D3 sv DJ B ha (by decide) (by decide) he rfl
def iQ:D->String|.none=>"NoneType" | .bool _=>"bool" | .int _=>"int" | .str _=>"str" | .tuple _=>"tuple" | .list _=>"list" | .dict _=>"dict"
def uY(a b:String):Option Bool:=if ((Value.type a) == (Value.type b))=true then some true else if W.kitMeta b=true then (fastBuiltinMro a).map (·.contains (Value.type b)) else none
theorem JA:∀a∈["NoneType","bool","int","str","tuple","list"],uY a "int"=some (a == "int"||a == "bool"):=by decide +kernel
theorem FO:∀a∈["NoneType","bool","int","str","tuple","list"],uY a "bool"=some (a == "bool"):=by decide +kernel
theorem kit_tuple:∀a∈["NoneType","bool","int","str","tuple","list"],uY a "tuple"=some (a == "tuple"):=by decide +kernel
theorem Hx{pins:List (Addr×Obj)}{σ:L2.St}{H HF:Hp}{s:Shared}{A:Around}{E:Value->Shared->Prop}{Q:Value->Shared->Prop}{d:D}{v:V}{u:Value}{T:String}{k:Bool}(I:Inv X pins σ H s)(sm:aQ HF H)(r:Rep X.K HF d v)(rv:RelV v u)
  (e:uY (iQ d) T=some k) (h:∀tk,Q (.bool k) { s with toks:=tk }):wpAny (model X.prog X.w) A (call (.builtin "isinstance") [u,.type T]) Q E s:=by
 have e':W.kitOne X.K (.type (iQ d)) (.type T)=some k:=e
 cases d<;>simp only[Rep] at r
 ·subst r;cases rv;exact W.kia_one W.kitx_none I.kIn True.intro e' (fun z=>nomatch z) h
 ·subst r;cases rv;exact W.kia_one W.kitx_bool I.kIn True.intro e' (fun z=>nomatch z) h
 ·subst r;obtain⟨t,rfl⟩:=rv;exact W.kia_one W.kitx_int I.kIn True.intro e' (fun z=>nomatch z) h
 ·subst r;obtain⟨t,rfl⟩:=rv;exact W.kia_one W.kitx_str I.kIn True.intro e' (fun z=>nomatch z) h
 ·obtain⟨a,vs,rfl,hs,rr⟩:=r
  cases rv
  obtain⟨its,rv,pl,_⟩:=I.list (sm.seq hs)
  obtain⟨o,ho,hc,n,hd⟩:=pl.isList
  exact W.kia_one W.kitx_list I.kIn ⟨o,ho,hc⟩ e' (fun z=>nomatch z) h
 ·obtain⟨a,vs,rfl,hs,rr⟩:=r
  cases rv
  obtain⟨its,rv,⟨o,ho,hc,n,hd⟩,_⟩:=I.tuple (ay sm hs)
  exact W.kia_one W.kitx_tuple I.kIn ⟨o,ho,hc⟩ e' (fun z=>nomatch z) h
def KY(T:String)(f:Env->Option D):Env->Option D:=fun ρ=>(f ρ).bind fun d=>(uY (iQ d) T).map PyData.bool
theorem NG{T:String}{xT:Str}{pT:Pos}{f:Env->Option D}(B:oK X "isinstance" (.builtin "isinstance"))(C:oK X xT (.type T))(h:DE X e f)(hn:xT≠"__name__":=by decide)(hd:(xT == ("__debug__":Str))=false:=by decide)
  (he:starEach [e,.Name xT pT] X.env=(false,eval e X.env)::starEach [.Name xT pT] X.env:=by rfl):DE X (.Call (.Name "isinstance" p) [e,.Name xT pT] [] pos) (KY T f):=by
 have hc:eL X (.builtin "isinstance") (fun xs H Q=>∃HF d v k,xs=[v,.ty T]/\aQ HF H/\Rep X.K HF d v/\uY (iQ d) T=some k/\Q (.bl k) H):=by
  intro pins s σ H xs us Q I r h
  obtain⟨HF,d,v,k,rfl,sm,rp,hk,q⟩:=h
  cases r with
  | cons ra rr =>
   cases rr with
   | cons rb rn =>
    cases rn
    cases rb
    exact Hx I sm rp ra hk fun tk=>⟨.bl k,H,I.tok _,rfl,q⟩
 refine aY (mF hc B.gl B.mg B.bt (di h (di (Jy (v:=.ty T) C.gl C.mg C.bt rfl hn hd) iN) he) (by decide) (by decide) he rfl) fun σ H Q ⟨HF,ρ,d,sm,eo,hf,q⟩=>?_
 obtain⟨x,hx,hf⟩:=bs hf
 obtain⟨k,hk,rfl⟩:=ag hf
 exact⟨HF,ρ,x,sm,eo,hx,fun v1 H1 HF1 g1 r1=>⟨HF1,x,v1,k,rfl,g1.fh,r1,hk,q _ H1 HF1 g1 (by simp[Rep])⟩⟩
def JI:D->D->Option D
 | .tuple xs,.tuple ys=>(small (xs++ys)).map PyData.tuple
 | _,_=>none
def Cg(K:W.Frag):R2:=fun x y H Q=>∃a b xs ys,x=.ref a/\y=.ref b/\ji K H a xs/\ji K H b ys/\xs.length+ys.length<=sizeLine /\
 (xs=[]->Q (.ref b) H)/\(ys=[]->Q (.ref a) H)/\(∀p,H p=none->Q (.ref p) (upd H p (.tup (xs++ys))))
theorem Eg:i4 X (binaryOp .Add) (Cg X.K):=by
 intro pins s σ H x y v u Q I rx ry h
 obtain⟨a,b,xs,ys,rfl,rfl,ha,hb,hz,q0,q1,q2⟩:=h
 by_cases hx:xs=[]
 ·cases rx
  cases ry
  obtain⟨its,r1,p1,_⟩:=I.tuple ha
  obtain⟨its2,r2,p2,_⟩:=I.tuple hb
  obtain⟨⟨cls,dd,data,sl⟩,ho,hc,n,hd⟩:=id p1
  obtain⟨⟨cls2,dd2,data2,sl2⟩,ho2,hc2,n2,hd2⟩:=id p2
  simp only at hc hd hc2 hd2
  subst hc hd hc2 hd2
  have e:its=[]:=(L2.aB.nil_iff r1).mpr hx
  exact concat_meets ⟨_,ho,rfl⟩ ⟨_,ho2,rfl⟩ noFill_tuple_add seq_tuple_add PySem.F.slot_tuple_add PySem.F.entry_tuple_add (PySem.F.args_tuple_add_2 _ _)
   (tuple_addW0 a b its.toArray its2.toArray n n2 dd dd2 sl sl2 (by simp[e])) ⟨ho,ho2,⟨.ref b,H,I,rfl,q0 hx⟩⟩
 ·exact Ke pins s σ H _ _ v u Q I rx ry ⟨a,b,xs,ys,rfl,rfl,ha,hb,hx,hz,q1,fun _ p hp=>q2 p hp⟩
theorem Kk{K:W.Frag}:gu K (Cg K) JI:=by
 intro HF H x y v1 v2 d Q sm r1 r2 hg q
 cases x<;>cases y<;>simp only[JI] at hg<;>try cases hg
 rename_i xs ys
 obtain⟨es,h1,rfl⟩:=ag hg
 obtain⟨rfl,hz⟩:=eT h1
 have r1':=r1
 have r2':=r2
 simp only[Rep] at r1 r2
 obtain⟨a,vs,rfl,ha,ra⟩:=r1
 obtain⟨b,us,rfl,hb,rb⟩:=r2
 refine⟨a,b,vs,us,rfl,rfl,ay sm ha,ay sm hb,by rw[ra.length,rb.length,<- zN];exact hz,fun e=>?_,fun e=>?_,fun p hp=>q _ _ _ (.new sm hp) (cY (sm.free hp) (ra.append rb))⟩
 ·have:xs=[]:=by have:=ra.length;rw[e] at this;exact List.length_eq_zero_iff.mp this.symm
  subst this
  exact q _ H HF (.refl sm) r2'
 ·have:ys=[]:=by have:=rb.length;rw[e] at this;exact List.length_eq_zero_iff.mp this.symm
  subst this
  rw[List.append_nil] at q
  exact q _ H HF (.refl sm) r1'
end
structure ua(K:W.Frag)(J:It)(HF:Hp)(ds:List D):Prop where
 go:∀i d H₁ HF₁,ds[i]?=some d->aQ HF HF₁->aQ HF₁ H₁->J.go i H₁/\∀x H₂,J.yld i H₁ x H₂->∃HF₂,bM HF₁ H₁ HF₂ H₂/\Rep K HF₂ d x
 stop:∀H₁ HF₁,aQ HF HF₁->aQ HF₁ H₁->J.stop ds.length H₁
def Qd(K:W.Frag)(f:Env->Option (List D)):TI:=fun σ H R=>∃HF ρ ds,aQ HF H/\cW K HF ρ σ/\f ρ=some ds/\∀J H' HF',bM HF H HF' H'->ua K J HF' ds->R J H'
def DI(X:Cx)(tg iter:Expr)(f:Env->Option (List D)):Prop:=PI X tg iter (Qd X.K f)
theorem Dc{K:W.Frag}{HF:Hp}{a:Addr}{ds:List D}{vs:List V}(h:iU K HF a vs)(r:aq K HF ds vs):ua K (Pz K a) HF ds where
 go:=fun i d H₁ HF₁ e s1 s2=>by
  obtain⟨v,hv,rv⟩:=r.getD e
  have q:=s2.seq (s1.seq h)
  refine⟨⟨vs,v,q,hv⟩,fun x H₂ ⟨e2,hy⟩=>⟨HF₁,by rw[e2];exact .refl s2,?_⟩⟩
  have:=hy vs q
  rw[hv] at this
  cases this
  exact rv.mono s1
 stop:=fun H₁ HF₁ s1 s2=>⟨vs,s2.seq (s1.seq h),by rw[r.length];exact Nat.le_refl _⟩
theorem Ht{K:W.Frag}{HF:Hp}{a:Addr}{ds:List D}{vs:List V}(h:ji K HF a vs)(r:aq K HF ds vs):ua K (Pu K a) HF ds where
 go:=fun i d H₁ HF₁ e s1 s2=>by
  obtain⟨v,hv,rv⟩:=r.getD e
  have q:=ay s2 (ay s1 h)
  refine⟨⟨vs,v,q,hv⟩,fun x H₂ ⟨e2,hy⟩=>⟨HF₁,by rw[e2];exact .refl s2,?_⟩⟩
  have:=hy vs q
  rw[hv] at this
  cases this
  exact rv.mono s1
 stop:=fun H₁ HF₁ s1 s2=>⟨vs,ay s2 (ay s1 h),by rw[r.length];exact Nat.le_refl _⟩
theorem Bf{K:W.Frag}{HF:Hp}{lo:Int}{n:Nat}:ua K (ON lo n) HF ((List.range n).map fun i=>PyData.int (lo+(i:Nat))) where
 go:=fun i d H₁ HF₁ e s1 s2=>by
  rw[zO] at e
  obtain⟨j,hj,rfl⟩:=ag e
  obtain⟨hi,hj'⟩:=zU.mp hj
  have hi':i < n:=by simpa using hi
  have:j=i:=by rw[<- hj'];simp
  subst this
  exact⟨hi',fun x H₂ ⟨e2,hx⟩=>⟨HF₁,by rw[e2];exact .refl s2,by simp[Rep,hx]⟩⟩
 stop:=fun H₁ HF₁ s1 s2=>by
  show n<=_
  simp
section
variable {X:Cx}{tg l e:Expr}{f:Env->Option D}{fs:Env->Option (List D)}{pos p:Pos}
theorem uO{t t':TI}(h:PI X tg l t)(i:∀σ H R,t' σ H R->t σ H R):PI X tg l t':=fun pins s σ H R I q=>h pins s σ H R I (i σ H R q)
theorem ME{tl:TE}(hl:PE X l tl):PI X tg l (fun σ H R=>tl σ H fun x H1=>∃a,x=.ref a/\((∃xs,iU X.K H1 a xs/\R (Pz X.K a) H1)\/∃xs,ji X.K H1 a xs/\R (Pu X.K a) H1)):=by
 intro pins s σ H R I h
 refine bW (hl pins s σ H _ I h) fun v s1 ⟨x,H1,I1,r1,q1⟩=>?_
 obtain⟨a,e,q⟩:=q1
 subst e
 cases r1
 rcases q with ⟨xs,hq,q⟩|⟨xs,hq,q⟩
 ·obtain⟨its,rv,pl,hz⟩:=I1.list hq
  refine wpAny_pyIter_list pl.isList ⟨s1.heap.objs.size,[s1.heap.objs.size],_,_,H1,rfl,I1.kept (t':=s1.toks) fun b o e=>zV _ e,DY a _,⟨_,zY _ rfl,rfl,rfl⟩,fun b hb=>?_,q⟩
  cases yL.mp hb
  exact I1.fpOk (Nat.le_refl _) I1.fresh
 ·obtain⟨its,rv,pl,hz⟩:=I1.tuple hq
  refine wpAny_pyIter_tuple (show s1.heap.IsTuple a its.toArray from pl) ⟨s1.heap.objs.size,[s1.heap.objs.size],_,_,H1,rfl,I1.kept (t':=s1.toks) fun b o e=>zV _ e,A0 a _,⟨_,zY _ rfl,rfl,rfl⟩,fun b hb=>?_,q⟩
  cases yL.mp hb
  exact I1.fpOk (Nat.le_refl _) I1.fresh
def aP(f:Env->Option D):Env->Option (List D):=fun ρ=>(f ρ).bind g0
theorem F4(h:DE X l f):DI X tg l (aP f):=uO (ME h) fun σ H R ⟨HF,ρ,ds,sm,eo,hf,q⟩=>by
 obtain⟨x,hx,hf⟩:=bs hf
 refine⟨HF,ρ,x,sm,eo,hx,fun v1 H1 HF1 g1 r1=>?_⟩
 rcases l4 hf with rfl|rfl
 ·simp only[Rep] at r1
  obtain⟨a,vs,rfl,hs,rr⟩:=r1
  exact⟨a,rfl,.inr ⟨vs,ay g1.fh hs,q _ H1 HF1 g1 (Ht hs rr)⟩⟩
 ·simp only[Rep] at r1
  obtain⟨a,vs,rfl,hs,rr⟩:=r1
  exact⟨a,rfl,.inl ⟨vs,g1.fh.seq hs,q _ H1 HF1 g1 (Dc hs rr)⟩⟩
def CS(i:Int):Bool:=decide (-(2 ^ 62)<=i)&&decide (i < 2 ^ 62)
def kr:List D->Option (List D)
 | [.int j]=>if CS j then some ((List.range j.toNat).map fun i=>PyData.int ((i:Nat):Int)) else none
 | _=>none
theorem yO{ds es:List D}(h:kr ds=some es):∃j,ds=[.int j]/\CS j=true/\es=(List.range j.toNat).map fun i=>PyData.int ((i:Nat):Int):=by
 unfold kr at h
 split at h
 ·split at h
  ·cases h;exact⟨_,rfl,‹_›,rfl⟩
  ·cases h
 ·cases h
def bc(fs:Env->Option (List D)):Env->Option (List D):=fun ρ=>(fs ρ).bind kr
theorem Eu(B:oK X "range" (.type "range"))(h:DA X [e] fs)(hs:starEach [e] X.env=[(false,eval e X.env)]:=by rfl):DI X tg (.Call (.Name "range" p) [e] [] pos) (bc fs) :=
 uO (CT B.gl B.mg h hs) fun σ H R ⟨HF,ρ,ds,sm,eo,hf,q⟩=>by
  obtain⟨x,hx,hf⟩:=bs hf
  obtain⟨j,rfl,hj,rfl⟩:=yO hf
  refine⟨HF,ρ,_,sm,eo,hx,fun vs H1 HF1 g1 r1=>?_⟩
  obtain⟨v,r,rfl,a,b⟩:=r1.cons_inv
  rw[b.nil_inv]
  simp only[Rep] at a
  subst a
  unfold CS at hj
  rw[zF] at hj
  refine⟨j,rfl,of_decide_eq_true hj.1,of_decide_eq_true hj.2,q _ H1 HF1 g1 ?_⟩
  have:=Bf (K:=X.K) (HF:=HF1) (lo:=0) (n:=j.toNat)
  simpa using this
def OS(K:W.Frag)(f:Env->D->Option Env):TG:=fun v σ H Q=>∃HF ρ d ρ',aQ HF H/\cW K HF ρ σ/\Rep K HF d v/\f ρ d=some ρ'/\∀σ',cW K HF ρ' σ'->cW K HF ρ σ'->Q σ' H
def DG(X:Cx)(tg:Expr)(f:Env->D->Option Env):Prop:=PG X tg (OS X.K f)
theorem rz{t t':TG}(h:PG X tg t)(i:∀v σ H Q,t' v σ H Q->t v σ H Q):PG X tg t':=fun pins s σ H v u Q I r q=>h pins s σ H v u Q I r (i v σ H Q q)
def isFree(ρ:Env)(i:Nat):Bool:=((ρ[i]?).getD none).isNone
theorem ju{K:W.Frag}{HF:Hp}{ρ:Env}{σ:L2.St}{i:Nat}{d:D}{v:V}(eo:cW K HF ρ σ)(r:Rep K HF d v):cW K HF (ρ.set i (some d)) (σ.set i (some v)):=by
 refine⟨fun j e h=>?_,by rw[yD,yD];exact eo.len,eo.tb⟩
 rw[List.getElem?_set] at h ⊢
 by_cases hij:i=j
 ·rw[if_pos hij] at h ⊢
  by_cases hl:i < ρ.length
  ·rw[if_pos hl] at h
   cases h
   rw[if_pos (zP hl eo.len)]
   exact⟨v,rfl,r⟩
  ·rw[if_neg hl] at h;cases h
 ·rw[if_neg hij] at h ⊢
  exact eo.get j e h
theorem lA{K:W.Frag}{HF:Hp}{ρ:Env}{σ:L2.St}{i:Nat}{v:V}(eo:cW K HF ρ σ)(hf:isFree ρ i=true):cW K HF ρ (σ.set i (some v)):=by
 refine⟨fun j e h=>?_,by rw[yD];exact eo.len,eo.tb⟩
 have hij:i≠j:=by
  intro z;subst z
  unfold isFree at hf;rw[h] at hf;cases hf
 rw[List.getElem?_set,if_neg hij]
 exact eo.get j e h
def fG(i:Nat):Env->D->Option Env:=fun ρ d=>if isFree ρ i=true then some (ρ.set i (some d)) else none
theorem IW(i:Nat){x:Str}(hN:X.N.Nodup)(hi:X.N[i]?=some x)(hx:Loc X.env.scope x)(hf:X.fn x=true\/X.env.scope.names.lookup x=some .local:=by first|exact .inl rfl|exact .inr rfl|assumption):DG X (.Name x pos) (fG i) :=
 rz (gc hN hi hx hf) fun v σ H Q ⟨HF,ρ,d,ρ',sm,eo,r,hf,q⟩=>by
  unfold fG at hf
  split at hf
  ·cases hf;exact q _ (ju eo r) (lA eo ‹_›)
  ·cases hf
def iz(i j:Nat):Env->D->Option Env:=fun ρ d=>match d with
 | .tuple [x,y]=>if isFree ρ i=true/\isFree ρ j=true then some ((ρ.set i (some x)).set j (some y)) else none
 | _=>none
theorem LD(i j:Nat){x y:Str}{px py:Pos}{k:Nat}(hc:X.calm=true)(hN:X.N.Nodup)(hi:X.N[i]?=some x)(hx:Loc X.env.scope x)(hj:X.N[j]?=some y)(hy:Loc X.env.scope y)
  (hf:X.fn x=true\/X.env.scope.names.lookup x=some .local:=by first|exact .inl rfl|exact .inr rfl|assumption) (hf':X.fn y=true\/X.env.scope.names.lookup y=some .local:=by first|exact .inl rfl|exact .inr rfl|assumption) :
  DG X (.Tuple [.Name x px,.Name y py] k pos) (iz i j) :=
 rz (Aa hc (gU (gc hN hi hx hf) (gU (gc hN hj hy hf') vM))) fun v σ H Q ⟨HF,ρ,d,ρ',sm,eo,r,hf,q⟩=>by
  unfold iz at hf
  split at hf
  ·rename_i x' y'
   split at hf
   ·rename_i hh
    cases hf
    simp only[Rep] at r
    obtain⟨a,vs,rfl,hs,rr⟩:=r
    obtain⟨v1,r1,rfl,a1,b1⟩:=rr.cons_inv
    obtain⟨v2,r2,rfl,a2,b2⟩:=b1.cons_inv
    rw[b2.nil_inv] at hs
    exact⟨a,_,rfl,ay sm hs,rfl,v1,_,rfl,v2,_,rfl,rfl,q _ (ju (ju eo a1) a2) (lA (lA eo hh.1) hh.2)⟩
   ·cases hf
  ·cases hf
def cQ(tgt:Env->D->Option Env)(tt:Env->Option Bool)(te:Env->Option D)(ρ:Env):List D->Option (List D)
 | []=>some []
 | d::ds=>(tgt ρ d).bind fun ρ'=>(tt ρ').bind fun b=>if b=true then (te ρ').bind fun x=>(cQ tgt tt te ρ ds).map (x::·) else cQ tgt tt te ρ ds
def NC(X:Cx)(ifs:List Expr)(f:Env->Option Bool):Prop:=Nt X ifs (Ln X.K f)
theorem Iw:NC X [] (fun _=>some true):=fun pins s σ H Q I ⟨HF,ρ,b,sm,eo,hf,q⟩=>HR pins s σ H Q I (by cases hf;exact q H HF (.refl sm))
theorem JV{c:Expr}{t:Env->Option Bool}(h:DT X c t):NC X [c] t:=JB h
def kl(t:Nat)(cs:List Nat)(σ:L2.St):L2.St:=List.replicate t none++cs.map fun j=>(σ[j]?).getD none
def eA(t:Nat)(cs:List Nat)(ρ:Env):Env:=List.replicate t none++cs.map fun j=>(ρ[j]?).getD none
theorem BL{K:W.Frag}{HF:Hp}{ρ:Env}{σ:L2.St}{t:Nat}{cs:List Nat}(eo:cW K HF ρ σ):cW K HF (eA t cs ρ) (kl t cs σ):=by
 refine⟨fun i d h=>?_,by simp[eA,kl],eo.tb⟩
 unfold eA at h
 unfold kl
 by_cases hi:i < t
 ·rw[List.getElem?_append_left (by simpa using hi),List.getElem?_replicate,if_pos hi] at h
  cases h
 ·rw[List.getElem?_append_right (by simpa using hi),zO,List.length_replicate] at h
  rw[List.getElem?_append_right (by simpa using hi),zO,List.length_replicate]
  obtain⟨j,hj,h⟩:=ag h
  rw[hj]
  cases e:ρ[j]? with
  | none=>rw[e] at h;cases h
  | some o =>
   rw[e] at h
   have h:o=some d:=h
   subst h
   obtain⟨v,a,b⟩:=eo.get j d e
   exact⟨v,by show some ((σ[j]?).getD none)=_;rw[a];rfl,b⟩
def ak(t:Nat)(cs:List Nat)(fi:Env->Option (List D))(tgt:Env->D->Option Env)(tt:Env->Option Bool)(te:Env->Option D):Env->Option (List D):=fun ρ=>(fi ρ).bind fun ds=>(cQ tgt tt te (eA t cs ρ) ds).bind small
variable {elt iter:Expr}{ifs:List Expr}{scope:Scope}{N:List Str}{t:Nat}{cs:List Nat}{fi:Env->Option (List D)}{tgt:Env->D->Option Env}{tt:Env->Option Bool}{te:Env->Option D}
theorem Fw:∀σ H Q,tF X.K (ak t cs fi tgt tt te) σ H Q->Fy (Qd X.K fi) (OS X.K tgt) (Ln X.K tt) (tD X.K te) (kl t cs) σ H Q:=fun σ H Q ⟨HF,ρ,out,sm,eo,hf,q⟩=>by
 obtain⟨ds,hx,hf⟩:=bs hf
 obtain⟨out',ho,hf⟩:=bs hf
 obtain⟨rfl,hz⟩:=eT hf
 refine⟨HF,ρ,ds,sm,eo,hx,fun J H1 HF1 g1 it Dn hD=>?_⟩
 have eo1:=BL (t:=t) (cs:=cs) (eo.mono g1.ff)
 have hFD:HF1 Dn=none:=g1.fh.free hD
 refine⟨fun i m σ' H'=>m+i=ds.length/\∃HF' xs ys rest,bM HF1 H1 HF' H'/\HF' Dn=none/\H' Dn=some (.lst ys)/\aq X.K HF' xs ys/\cW X.K HF' (eA t cs ρ) σ'/\cQ tgt tt te (eA t cs ρ) (ds.drop i)=some rest/\xs++rest=out,
  ⟨ds.length,rfl,HF1,[],[],out,.own g1.fh hD,hFD,aJ,aq.nil,eo1,ho,rfl⟩,?_⟩
 rintro i m σ' H' ⟨hm,HF',xs,ys,rest,G,hFD',hHD,rr,eo',hc,hout⟩
 by_cases hi:i < ds.length
 ·refine .inr ?_
  have hd:ds.drop i=ds[i]::ds.drop (i+1):=List.drop_eq_getElem_cons hi
  have he:ds[i]?=some ds[i]:=zU.mpr ⟨hi,rfl⟩
  generalize ds[i]=d at hd he
  rw[hd] at hc
  unfold cQ at hc
  obtain⟨ρ',h1,hc⟩:=bs hc
  obtain⟨b,h2,hc⟩:=bs hc
  obtain⟨go,yld⟩:=it.go i d H' HF' he G.ff G.fh
  refine⟨go,fun x H2 y=>?_⟩
  obtain⟨HF2,G2,rx⟩:=yld x H2 y
  refine⟨HF2,_,d,ρ',G2.fh,eo'.mono G2.ff,rx,h1,fun σ2 eo2 eo2'=>?_⟩
  refine⟨HF2,ρ',b,G2.fh,eo2,h2,fun H3 HF3 G3=>?_⟩
  have nof:∀HF4 H4,bM HF' H' HF4 H4->HF4 Dn=none:=fun HF4 H4 G4=>by
   cases e4:HF4 Dn with
   | none=>rfl
   | some o =>
    rcases G4.nw Dn o e4 with z|z
    ·rw[hFD'] at z;cases z
    ·rw[hHD] at z;cases z
  cases b with
  | false =>
   refine xR ⟨m - 1,by omega,by omega,HF3,xs,ys,rest,(G.trans G2).trans G3,nof _ _ (G2.trans G3),(G2.trans G3).hh _ _ hHD,rr.mono (G2.trans G3).ff,eo2'.mono G3.ff,by simpa using hc,hout⟩
  | true =>
   rw[if_pos rfl] at hc
   obtain⟨z,h3,hc⟩:=bs hc
   obtain⟨rest',h4,rfl⟩:=ag hc
   refine yW ⟨HF3,ρ',z,G3.fh,eo2.mono G3.ff,h3,fun v H4 HF4 G4 rv=>?_⟩
   have GG:=(G2.trans G3).trans G4
   have n4:=nof _ _ GG
   have h4D:=GG.hh _ _ hHD
   have hlen:ys.length < sizeLine:=by
    have e1:=rr.length
    have e2:out.length=xs.length+(rest'.length+1):=by rw[<- hout];simp
    omega
   refine⟨ys,h4D,hlen,m - 1,by omega,by omega,HF4,xs++[z],ys++[v],rest',?_,n4,aJ,(rr.mono GG.ff).append (aq.cons rv aq.nil),eo2'.mono (G3.ff.trans G4.ff),h4,by simp[<- hout]⟩
   have G5:=G.trans GG
   refine⟨fun b o e=>?_,G5.ff,fun b o e=>?_,G5.nw⟩
   ·rw[aA (aL e hD)];exact G5.hh b o e
   ·rw[aA (aL e n4)];exact G5.fh b o e
 ·have hi':i=ds.length:=by omega
  subst hi'
  rw[List.drop_length] at hc
  cases hc
  rw[List.append_nil] at hout
  subst hout
  exact .inl ⟨it.stop H' HF' G.ff G.fh,q Dn ys H' HF' (g1.trans G) (g1.hh.free hD) hFD' hHD rr⟩
theorem IA(hc:X.calm=true)(S:jN X scope N (kl t cs))(hi:DI X tg iter fi)
  (hY:∀fp s H,DG (aR X scope N fp s H) tg tgt/\NC (aR X scope N fp s H) ifs tt/\DE (aR X scope N fp s H) elt te)
  (hs:∀x,foldedSetIterable iter X.env x=pure x:=by intro _;rfl):DF X (.ListComp elt [⟨tg,iter,ifs,0⟩] scope pos) (ak t cs fi tgt tt te):=aY (IS (g:=OS X.K tgt) (tt:=Ln X.K tt) (te:=tD X.K te) hc S hi hY hs) Fw
end
inductive Slot where
 | non|val (d:D)|own (ds:List D)
abbrev aj:=List Slot
def Slot.all:Slot->Option D|.non=>none|.val d=>some d|.own ds=>some (.list ds)
def Slot.frz:Slot->Option D|.val d=>some d|_=>none
def Slot.thaw:Slot->Slot|.own ds=>.val (.list ds)|s=>s
def bp(ρ:aj):Env:=ρ.map Slot.all
def cn(ρ:aj):Env:=ρ.map Slot.frz
def hand(fz:List Nat):Nat->aj->aj
 | _,[]=>[]
 | k,s::r=>(if fz.contains k=true then s.thaw else s)::hand fz (k+1) r
theorem i8(fz:List Nat):∀ (ρ:aj) (k i:Nat),(hand fz k ρ)[i]?=(ρ[i]?).map fun s=>if fz.contains (k+i)=true then s.thaw else s
 | [],k,i=>by simp[hand]
 | s::r,k,0=>by simp[hand]
 | s::r,k,i+1=>by
  simp only[hand,List.getElem?_cons_succ]
  rw[i8 fz r (k+1) i,Nat.add_assoc,Nat.add_comm 1 i]
theorem xY(fz:List Nat):∀ (ρ:aj) (k:Nat),(hand fz k ρ).length=ρ.length
 | [],k=>rfl
 | s::r,k=>by simp[hand,xY fz r (k+1)]
structure j5(K:W.Frag)(HF₀ H₀ HF H:Hp)(ρ:aj)(σ:L2.St):Prop where
 gr:bM HF₀ H₀ HF H
 val:∀ (i:Nat) (d:D),ρ[i]?=some (.val d)->∃v,σ[i]?=some (some v)/\Rep K HF d v
 own:∀ (i:Nat) (ds:List D),ρ[i]?=some (.own ds)->∃a vs,σ[i]?=some (some (.ref a))/\H a=some (.lst vs)/\HF a=none/\H₀ a=none/\aq K HF ds vs
 inj:∀ (i j:Nat) (ds es:List D) (a:Addr),ρ[i]?=some (.own ds)->ρ[j]?=some (.own es)->σ[i]?=some (some (.ref a))->σ[j]?=some (some (.ref a))->i=j
 len:ρ.length<=σ.length
 tb:gX K HF
section
variable {K:W.Frag}{HF₀ H₀ HF H HF' H':Hp}{ρ:aj}{σ:L2.St}
theorem j5.all(S:j5 K HF₀ H₀ HF H ρ σ):cW K H (bp ρ) σ:=by
 refine⟨fun i d h=>?_,by simpa [bp] using S.len,S.tb.mono S.gr.fh⟩
 unfold bp at h
 rw[zO] at h
 obtain⟨s,hs,h⟩:=ag h
 cases s with
 | non=>cases h
 | val e=>cases h;obtain⟨v,a,b⟩:=S.val i _ hs;exact⟨v,a,b.mono S.gr.fh⟩
 | own ds =>
  cases h
  obtain⟨a,vs,e1,e2,e3,_,e4⟩:=S.own i ds hs
  exact⟨.ref a,e1,by simp only[Rep];exact⟨a,vs,rfl,iU.of e2,e4.mono S.gr.fh⟩⟩
theorem j5.frz(S:j5 K HF₀ H₀ HF H ρ σ):cW K HF (cn ρ) σ:=by
 refine⟨fun i d h=>?_,by simpa [cn] using S.len,S.tb⟩
 unfold cn at h
 rw[zO] at h
 obtain⟨s,hs,h⟩:=ag h
 cases s with
 | non=>cases h
 | val e=>cases h;exact S.val i _ hs
 | own ds=>cases h
theorem j5.grow(S:j5 K HF₀ H₀ HF H ρ σ)(g:bM HF H HF' H'):j5 K HF₀ H₀ HF' H' ρ σ where
 gr:=S.gr.trans g
 val:=fun i d h=>let ⟨v,a,b⟩:=S.val i d h;⟨v,a,b.mono g.ff⟩
 own:=fun i ds h=>by
  obtain⟨a,vs,e1,e2,e3,e5,e4⟩:=S.own i ds h
  refine⟨a,vs,e1,g.hh _ _ e2,?_,e5,e4.mono g.ff⟩
  cases e:HF' a with
  | none=>rfl
  | some o =>
   rcases g.nw a o e with z|z
   ·rw[e3] at z;cases z
   ·rw[e2] at z;cases z
 inj:=S.inj
 len:=S.len
 tb:=S.tb.mono g.ff
theorem j5.step(S:j5 K HF₀ H₀ HF H ρ σ)(g:aQ H H'):j5 K HF₀ H₀ HF H' ρ σ:=S.grow ⟨g,.refl _,S.gr.fh.trans g,fun _ _ e=>.inl e⟩
theorem j5.hand(S:j5 K HF₀ H₀ HF H ρ σ)(fz:List Nat):∃HF1,aQ HF HF1/\j5 K HF₀ H₀ HF1 H (hand fz 0 ρ) σ:=by
 let P:Addr->Prop:=fun a=>∃i ds,fz.contains i=true/\ρ[i]?=some (.own ds)/\σ[i]?=some (some (.ref a))
 have cl:=Classical.propDecidable
 let HF1:Hp:=fun a=>if P a then H a else HF a
 have hP:∀a,P a->HF a=none/\H₀ a=none:=fun a ⟨i,ds,_,h1,h2⟩=>by
  obtain⟨a',vs,e1,e2,e3,e5,e4⟩:=S.own i ds h1
  rw[h2] at e1
  cases e1
  exact⟨e3,e5⟩
 have s1:aQ HF HF1:=fun b o e=>by
  show (if P b then H b else HF b)=some o
  by_cases h:P b
  ·rw[(hP b h).1] at e;cases e
  ·rw[if_neg h];exact e
 have s2:aQ HF1 H:=fun b o e=>by
  have e:(if P b then H b else HF b)=some o:=e
  by_cases h:P b
  ·rw[if_pos h] at e;exact e
  ·rw[if_neg h] at e;exact S.gr.fh b o e
 refine⟨HF1,s1,⟨S.gr.hh,S.gr.ff.trans s1,s2,fun b o e=>?_⟩,fun i d h=>?_,fun i ds h=>?_,fun i j ds es a h1 h2=>?_,by rw[xY];exact S.len,S.tb.mono s1⟩
 ·have e:(if P b then H b else HF b)=some o:=e
  by_cases h:P b
  ·exact .inr (hP b h).2
  ·rw[if_neg h] at e;exact S.gr.nw b o e
 ·rw[i8] at h
  obtain⟨s,hs,h⟩:=ag h
  rw[Nat.zero_add] at h
  cases s with
  | non=>split at h<;>cases h
  | val e =>
   have:Slot.val e=Slot.val d:=by split at h<;>exact h
   cases this
   obtain⟨v,a,b⟩:=S.val i _ hs
   exact⟨v,a,b.mono s1⟩
  | own ds =>
   split at h
   ·rename_i hc
    cases h
    obtain⟨a,vs,e1,e2,e3,e5,e4⟩:=S.own i ds hs
    refine⟨.ref a,e1,?_⟩
    simp only[Rep]
    refine⟨a,vs,rfl,.inl (.inl ?_),e4.mono s1⟩
    show (if P a then H a else HF a)=_
    rw[if_pos ⟨i,ds,hc,hs,e1⟩]
    exact e2
   ·cases h
 ·rw[i8] at h
  obtain⟨s,hs,h⟩:=ag h
  rw[Nat.zero_add] at h
  cases s with
  | non=>split at h<;>cases h
  | val e=>split at h<;>cases h
  | own es =>
   split at h
   ·cases h
   ·rename_i hc
    cases h
    obtain⟨a,vs,e1,e2,e3,e5,e4⟩:=S.own i ds hs
    refine⟨a,vs,e1,e2,?_,e5,e4.mono s1⟩
    show (if P a then H a else HF a)=none
    rw[if_neg ?_]
    ·exact e3
    ·rintro⟨j,es,hj,h1,h2⟩
     have:=S.inj i j ds es a hs h1 e1 h2
     subst this
     exact hc hj
 ·rw[i8] at h1 h2
  obtain⟨s,hs,h1⟩:=ag h1
  obtain⟨s',hs',h2⟩:=ag h2
  rw[Nat.zero_add] at h1 h2
  cases s with
  | non=>split at h1<;>cases h1
  | val e=>split at h1<;>cases h1
  | own xs =>
   cases s' with
   | non=>split at h2<;>cases h2
   | val e=>split at h2<;>cases h2
   | own ys=>exact S.inj i j _ _ a hs hs'
theorem j5.setV(S:j5 K HF₀ H₀ HF H ρ σ){i:Nat}{d:D}{v:V}(r:Rep K HF d v):j5 K HF₀ H₀ HF H (ρ.set i (.val d)) (σ.set i (some v)):=by
 have ne:∀ {j:Nat}{s:Slot},(ρ.set i (.val d))[j]?=some s->(∀e,s≠.val e)->i≠j/\ρ[j]?=some s:=fun {j s} h hn=>by
  rw[List.getElem?_set] at h
  by_cases hij:i=j
  ·rw[if_pos hij] at h
   split at h
   ·cases h;exact absurd rfl (hn _)
   ·cases h
  ·rw[if_neg hij] at h;exact⟨hij,h⟩
 refine⟨S.gr,fun j e h=>?_,fun j ds h=>?_,fun j k ds es a h1 h2 h3 h4=>?_,by rw[yD,yD];exact S.len,S.tb⟩
 ·rw[List.getElem?_set] at h ⊢
  by_cases hij:i=j
  ·rw[if_pos hij] at h ⊢
   split at h
   ·rename_i hl
    cases h
    rw[if_pos (zP hl S.len)]
    exact⟨v,rfl,r⟩
   ·cases h
  ·rw[if_neg hij] at h ⊢
   exact S.val j e h
 ·obtain⟨hij,h⟩:=ne h fun e z=>by cases z
  rw[List.getElem?_set,if_neg hij]
  exact S.own j ds h
 ·obtain⟨n1,h1⟩:=ne h1 fun e z=>by cases z
  obtain⟨n2,h2⟩:=ne h2 fun e z=>by cases z
  rw[List.getElem?_set,if_neg n1] at h3
  rw[List.getElem?_set,if_neg n2] at h4
  exact S.inj j k ds es a h1 h2 h3 h4
theorem j5.setO(S:j5 K HF₀ H₀ HF H ρ σ){i:Nat}{ds:List D}{a:Addr}{vs:List V}(hs:aQ H H')(h1:H' a=some (.lst vs))(h2:HF a=none)(h3:H₀ a=none)(r:aq K HF ds vs)
  (fr:∀j es,i≠j->ρ[j]?=some (.own es)->σ[j]?≠some (some (.ref a))):j5 K HF₀ H₀ HF H' (ρ.set i (.own ds)) (σ.set i (some (.ref a))):=by
 have S:=S.step hs
 refine⟨S.gr,fun j e h=>?_,fun j es h=>?_,fun j k xs ys b e1 e2 e3 e4=>?_,by rw[yD,yD];exact S.len,S.tb⟩
 ·rw[List.getElem?_set] at h ⊢
  by_cases hij:i=j
  ·rw[if_pos hij] at h
   split at h<;>cases h
  ·rw[if_neg hij] at h ⊢
   exact S.val j e h
 ·rw[List.getElem?_set] at h ⊢
  by_cases hij:i=j
  ·rw[if_pos hij] at h ⊢
   split at h
   ·rename_i hl
    cases h
    rw[if_pos (zP hl S.len)]
    exact⟨a,vs,rfl,h1,h2,h3,r⟩
   ·cases h
  ·rw[if_neg hij] at h ⊢
   exact S.own j es h
 ·rw[List.getElem?_set] at e1 e2 e3 e4
  by_cases hij:i=j
  ·by_cases hik:i=k
   ·exact hij.symm.trans hik
   ·rw[if_pos hij] at e1 e3
    rw[if_neg hik] at e2 e4
    split at e3
    ·cases e3;exact absurd e4 (fr k ys hik e2)
    ·cases e3
  ·by_cases hik:i=k
   ·rw[if_neg hij] at e1 e3
    rw[if_pos hik] at e2 e4
    split at e4
    ·cases e4;exact absurd e3 (fr j xs hij e1)
    ·cases e4
   ·rw[if_neg hij] at e1 e3
    rw[if_neg hik] at e2 e4
    exact S.inj j k xs ys b e1 e2 e3 e4
end
inductive Out where
 | nx (ρ:aj)|rt (d:D)
def CC(K:W.Frag)(HF₀ H₀ HF:Hp)(E:Ends):Out->Prop
 | .nx ρ'=>∀σ' H' HF',j5 K HF₀ H₀ HF' H' ρ' σ'->aQ HF HF'->E.nx σ' H'
 | .rt d=>∀v H' HF',bM HF₀ H₀ HF' H'->Rep K HF' d v->E.rt v H'
def tS(K:W.Frag)(HF₀ H₀:Hp)(g:aj->Option Out):TS:=fun E σ H=>∃HF ρ o,j5 K HF₀ H₀ HF H ρ σ/\g ρ=some o/\CC K HF₀ H₀ HF E o
def DS(X:Cx)(HF₀ H₀:Hp)(st:Stmt)(g:aj->Option Out):Prop:=PS X st (tS X.K HF₀ H₀ g)
def Eo(X:Cx)(HF₀ H₀:Hp)(st:List Stmt)(g:aj->Option Out):Prop:=zv X st (tS X.K HF₀ H₀ g)
section
variable {X:Cx}{HF₀ H₀:Hp}{st:Stmt}{rest:List Stmt}{g g1 g2:aj->Option Out}{e:Expr}{pos:Pos}
theorem eH{t t':TS}(h:PS X st t)(i:∀E σ H,t' E σ H->t E σ H):PS X st t':=fun pins s σ H E I q=>h pins s σ H E I (i E σ H q)
theorem CI{t t':TS}(h:zv X rest t)(i:∀E σ H,t' E σ H->t E σ H):zv X rest t':=fun pins s σ H E I q=>h pins s σ H E I (i E σ H q)
def gz:aj->Option Out:=fun ρ=>some (.nx ρ)
def av(g1 g2:aj->Option Out):aj->Option Out:=fun ρ=>(g1 ρ).bind fun|.nx ρ'=>g2 ρ'|.rt d=>some (.rt d)
theorem CC.mono{K:W.Frag}{HF HF':Hp}{E:Ends}{o:Out}(s:aQ HF HF')(h:CC K HF₀ H₀ HF E o):CC K HF₀ H₀ HF' E o:=by
 cases o with
 | nx ρ'=>exact fun σ' H' HF2 S s2=>h σ' H' HF2 S (s.trans s2)
 | rt d=>exact h
theorem Jv:Eo X HF₀ H₀ [] gz:=CI IT fun E σ H ⟨HF,ρ,o,S,hg,q⟩=>by cases hg;exact q σ H HF S (.refl _)
theorem Hn(h1:DS X HF₀ H₀ st g1)(h2:Eo X HF₀ H₀ rest g2):Eo X HF₀ H₀ (st::rest) (av g1 g2):=CI (FD h1 h2) fun E σ H ⟨HF,ρ,o,S,hg,q⟩=>by
 obtain⟨o1,h,hg⟩:=bs hg
 refine⟨HF,ρ,o1,S,h,?_⟩
 cases o1 with
 | nx ρ'=>exact fun σ' H' HF' S' s=>⟨HF',ρ',o,S',hg,q.mono s⟩
 | rt d=>cases hg;exact q
theorem Km(h1:DS X HF₀ H₀ st g1):Eo X HF₀ H₀ [st] g1:=Ia h1
theorem HV:DS X HF₀ H₀ (.Pass pos) gz:=eH HW fun E σ H ⟨HF,ρ,o,S,hg,q⟩=>by cases hg;exact q σ H HF S (.refl _)
theorem Mm{x j pos pos'}:DS X HF₀ H₀ (.Expr (.Constant (.str x) j pos) pos') gz:=eH Lk fun E σ H ⟨HF,ρ,o,S,hg,q⟩=>by cases hg;exact q σ H HF S (.refl _)
def gQ(t:Env->Option Bool)(g1 g2:aj->Option Out):aj->Option Out:=fun ρ=>(t (bp ρ)).bind fun b=>if b=true then g1 ρ else g2 ρ
theorem Ou{c:Expr}{a b:List Stmt}{t:Env->Option Bool}(hc:DT X c t)(ha:Eo X HF₀ H₀ a g1)(hb:Eo X HF₀ H₀ b g2):DS X HF₀ H₀ (.If c a b pos) (gQ t g1 g2):=eH (NW hc ha hb) fun E σ H ⟨HF,ρ,o,S,hg,q⟩=>by
 obtain⟨b,h,hg⟩:=bs hg
 refine⟨H,bp ρ,b,.refl _,S.all,h,fun H' HF' G=>?_⟩
 cases b with
 | true=>exact yW ⟨HF,ρ,o,S.step G.hh,hg,q⟩
 | false=>exact xR ⟨HF,ρ,o,S.step G.hh,hg,q⟩
theorem zg:∀ (ρ:aj) (k n:Nat),k+ρ.length<=n->cn (hand (List.range n) k ρ)=bp ρ
 | [],k,n,h=>rfl
 | s::r,k,n,h=>by
  have hk:(List.range n).contains k=true:=by simp at h ⊢;omega
  have ih:=zg r (k+1) n (by simp at h;omega)
  unfold cn bp at ih ⊢
  rw[hand,if_pos hk,zI,zI,ih]
  cases s<;>rfl
def aF(f:Env->Option D):aj->Option Out:=fun ρ=>(f (bp ρ)).map Out.rt
theorem M9{f:Env->Option D}(h:DE X e f):DS X HF₀ H₀ (.Return (some e) pos) (aF f):=eH (Lb h) fun E σ H ⟨HF,ρ,o,S,hg,q⟩=>by
 obtain⟨d,h,rfl⟩:=ag hg
 obtain⟨HF1,s1,S1⟩:=S.hand (List.range ρ.length)
 refine⟨HF1,bp ρ,d,S1.gr.fh,?_,h,fun v H' HF' G r=>q v H' HF' (S1.gr.trans G) r⟩
 have:=S1.frz
 rw[zg ρ 0 ρ.length (by omega)] at this
 exact this
def qF:D->Bool|.none=>true|.bool _=>true|.int _=>true|.str _=>true|_=>false
theorem w6{K:W.Frag}{HF HF':Hp}{d:D}{v:V}(h:qF d=true)(r:Rep K HF d v):Rep K HF' d v:=by
 cases d<;>cases h<;>(simp only[Rep] at r ⊢;exact r)
mutual
def lL:D->Bool
 | .tuple ds=>vB ds
 | .list _=>false
 | .dict _=>false
 | _=>true
def vB:List D->Bool
 | []=>true
 | d::ds=>lL d&&vB ds
end
mutual
theorem xC{K:W.Frag}{H1 H2:Hp}(ht:∀a xs,ji K H1 a xs->ji K H2 a xs):∀ {d:D}{v:V},lL d=true->Rep K H1 d v->Rep K H2 d v
 | .none,_,_,r=>by simp only[Rep] at r ⊢;exact r
 | .bool _,_,_,r=>by simp only[Rep] at r ⊢;exact r
 | .int _,_,_,r=>by simp only[Rep] at r ⊢;exact r
 | .str _,_,_,r=>by simp only[Rep] at r ⊢;exact r
 | .tuple ds,v,h,r=>by
  simp only[lL] at h
  simp only[Rep] at r ⊢
  obtain⟨a,vs,e,q,rr⟩:=r
  exact⟨a,vs,e,ht _ _ q,tZ ht h rr⟩
 | .list _,_,h,_=>by simp[lL] at h
 | .dict _,_,h,_=>by simp[lL] at h
theorem tZ{K:W.Frag}{H1 H2:Hp}(ht:∀a xs,ji K H1 a xs->ji K H2 a xs):∀ {ds:List D}{vs:List V},vB ds=true->aq K H1 ds vs->aq K H2 ds vs
 | [],_,_,r=>by simp only[aq] at r ⊢;exact r
 | d::ds,vs,h,r=>by
  simp only[vB,zF] at h
  simp only[aq] at r ⊢
  obtain⟨v,r',e,a,b⟩:=r
  exact⟨v,r',e,xC ht h.1 a,tZ ht h.2 b⟩
end
theorem j5.back{K:W.Frag}{HF₀ H₀ HF H HF1 HF' H':Hp}{ρ ρ1:aj}{σ:L2.St}(S:j5 K HF₀ H₀ HF H ρ σ)(S1:j5 K HF₀ H₀ HF1 H ρ1 σ)(s1:aQ HF HF1)(G:bM HF1 H HF' H'):∃HF2,aQ HF HF2/\j5 K HF₀ H₀ HF2 H' ρ σ/\∀d v,lL d=true->Rep K HF' d v->Rep K HF2 d v:=by
 have cl:=Classical.propDecidable
 let O:Addr->Prop:=fun a=>∃ (i:Nat) (ds:List D),ρ[i]?=some (Slot.own ds)/\σ[i]?=some (some (V.ref a))
 let HF2:Hp:=fun a=>if O a then none else HF' a
 have hO:∀a,O a->HF a=none/\∃vs,H a=some (.lst vs):=fun a ⟨i,ds,h1,h2⟩=>by
  obtain⟨a',vs,e1,e2,e3,_,_⟩:=S.own i ds h1
  rw[h2] at e1
  cases e1
  exact⟨e3,vs,e2⟩
 have h2:∀a,¬ O a->HF2 a=HF' a:=fun a n=>if_neg n
 have h3:∀a,O a->HF2 a=none:=fun a n=>if_pos n
 have sa:aQ HF HF2:=fun b o e=>by
  have nb:¬ O b:=fun z=>by rw[(hO b z).1] at e;cases e
  rw[h2 b nb]
  exact G.ff b o (s1 b o e)
 have sb:∀b o,HF2 b=some o->HF' b=some o:=fun b o e=>by
  by_cases z:O b
  ·rw[h3 b z] at e;cases e
  ·rwa [h2 b z] at e
 have g2:=S1.gr.trans G
 refine⟨HF2,sa,⟨⟨g2.hh,S.gr.ff.trans sa,fun b o e=>G.fh b o (sb b o e),fun b o e=>g2.nw b o (sb b o e)⟩,fun i d h=>?_,fun i ds h=>?_,S.inj,S.len,S.tb.mono sa⟩,fun d v hn r=>xC (fun a xs q=>?_) hn r⟩
 ·obtain⟨v,e1,r⟩:=S.val i d h
  exact⟨v,e1,r.mono sa⟩
 ·obtain⟨a,vs,e1,e2,e3,e5,e4⟩:=S.own i ds h
  exact⟨a,vs,e1,G.hh _ _ e2,h3 a ⟨i,ds,h,e1⟩,e5,e4.mono sa⟩
 ·have nt:∀o,HF' a=some o->(∀vs,o≠.lst vs)->HF2 a=some o:=fun o e hne=>by
   by_cases z:O a
   ·obtain⟨_,vs,e2⟩:=hO a z
    have:=G.hh _ _ e2
    rw[G.fh a o e] at this
    cases this
    exact absurd rfl (hne vs)
   ·rw[h2 a z];exact e
  rcases q with (q|⟨o,q⟩)|q
  ·exact .inl (.inl (nt _ q fun vs z=>by cases z))
  ·exact .inl (.inr ⟨o,nt _ q fun vs z=>by cases z⟩)
  ·exact .inr q
def az(i:Nat)(fz:List Nat)(f:Env->Option D):aj->Option Out:=fun ρ=>(f (bp ρ)).bind fun d=>if qF d=true then some (.nx (ρ.set i (.val d))) else (f (cn (hand fz 0 ρ))).map fun d'=>.nx ((if lL d'=true then ρ else hand fz 0 ρ).set i (.val d'))
theorem OE{i:Nat}{fz:List Nat}{f:Env->Option D}:∀E σ H,tS X.K HF₀ H₀ (az i fz f) E σ H->GC (tD X.K f) (xB i) E σ H:=fun E σ H ⟨HF,ρ,o,S,hg,q⟩=>by
 obtain⟨d,h,hg⟩:=bs hg
 split at hg
 ·rename_i hs
  cases hg
  exact⟨H,bp ρ,d,.refl _,S.all,h,fun v H' HF' G r=>q _ H' HF ((S.step G.hh).setV (w6 hs r)) (.refl _)⟩
 ·obtain⟨d',h',rfl⟩:=ag hg
  obtain⟨HF1,s1,S1⟩:=S.hand fz
  refine⟨HF1,_,d',S1.gr.fh,S1.frz,h',fun v H' HF' G r=>?_⟩
  by_cases hn:lL d'=true
  ·rw[if_pos hn] at q
   obtain⟨HF2,s2,S2,hb⟩:=S.back S1 s1 G
   exact q _ H' HF2 (S2.setV (hb d' v hn r)) s2
  ·rw[if_neg hn] at q
   exact q _ H' HF' ((S1.grow G).setV r) (s1.trans G.ff)
theorem Nf(i:Nat)(fz:List Nat){x:Str}{f:Env->Option D}{pos':Pos}(hN:X.N.Nodup)(hi:X.N[i]?=some x)(hx:Loc X.env.scope x)(he:DE X e f)(hs:swapsWith e (some (.Name x pos')) pos.line X.env=pure false:=by rfl)
  (hf:X.fn x=true\/X.env.scope.names.lookup x=some .local:=by first|exact .inl rfl|exact .inr rfl|assumption):DS X HF₀ H₀ (.Assign [.Name x pos'] e pos) (az i fz f):=eH (E5 hN hi hx he hs hf) OE
def aK(i:Nat)(fz:List Nat)(f:Env->Option (List D)):aj->Option Out:=fun ρ=>(f (cn (hand fz 0 ρ))).map fun ds=>.nx ((hand fz 0 ρ).set i (.own ds))
theorem Gd{i:Nat}{fz:List Nat}{f:Env->Option (List D)}:∀E σ H,tS X.K HF₀ H₀ (aK i fz f) E σ H->GC (tF X.K f) (xB i) E σ H:=fun E σ H ⟨HF,ρ,o,S,hg,q⟩=>by
 obtain⟨ds,h,rfl⟩:=ag hg
 obtain⟨HF1,s1,S1⟩:=S.hand fz
 refine⟨HF1,_,ds,S1.gr.fh,S1.frz,h,fun a vs H' HF' G ha hf h' r=>q _ H' HF' ?_ (s1.trans G.ff)⟩
 have S2:=S1.grow G
 refine S2.setO (.refl _) h' hf (S1.gr.hh.free ha) r fun j es _ hj z=>?_
 obtain⟨b,us,e1,e2,_⟩:=S1.own j es hj
 rw[e1] at z
 cases z
 rw[ha] at e2;cases e2
theorem uR(i:Nat)(fz:List Nat){x:Str}{f:Env->Option (List D)}{pos':Pos}(hN:X.N.Nodup)(hi:X.N[i]?=some x)(hx:Loc X.env.scope x)(he:DF X e f)(hs:swapsWith e (some (.Name x pos')) pos.line X.env=pure false:=by rfl)
  (hf:X.fn x=true\/X.env.scope.names.lookup x=some .local:=by first|exact .inl rfl|exact .inr rfl|assumption):DS X HF₀ H₀ (.Assign [.Name x pos'] e pos) (aK i fz f):=eH (E5 hN hi hx he hs hf) Gd
theorem Ii(i:Nat)(fz:List Nat){y:Str}{py spos:Pos}{tg iter elt:Expr}{ifs:List Expr}{scope:Scope}{N:List Str}{t:Nat}{cs:List Nat}{fi:Env->Option (List D)}{tgt:Env->D->Option Env}{tt:Env->Option Bool}{te:Env->Option D}
  (hc:X.calm=true) (S:jN X scope N (kl t cs)) (hi:DI X tg iter fi)
  (hY:∀fp s H,DG (aR X scope N fp s H) tg tgt/\NC (aR X scope N fp s H) ifs tt/\DE (aR X scope N fp s H) elt te)
  (hN:X.N.Nodup) (hiy:X.N[i]?=some y) (hy:X.env.scope.names.lookup y=some .local)
  (hsw:swapsWith (.ListComp elt [⟨tg,iter,ifs,0⟩] scope pos) (some (.Name y py)) spos.line X.env=pure true)
  (hs:∀x,foldedSetIterable iter X.env x=pure x:=by intro _;rfl):DS X HF₀ H₀ (.Assign [.Name y py] (.ListComp elt [⟨tg,iter,ifs,0⟩] scope pos) spos) (aK i fz (ak t cs fi tgt tt te)) :=
 eH (Kh (g:=OS X.K tgt) (tt:=Ln X.K tt) (te:=tD X.K te) hc S hi hY hN hiy hy hsw hs) fun E σ H q=>by
  have:=Gd E σ H q
  exact Fw σ H _ this
def Qm(K:W.Frag)(HF₀ H₀:Hp)(f:aj->D->Option aj):TG:=fun v σ H Q=>∃HF ρ d ρ',j5 K HF₀ H₀ HF H ρ σ/\Rep K HF d v/\f ρ d=some ρ'/\∀σ',j5 K HF₀ H₀ HF H ρ' σ'->Q σ' H
def OW(X:Cx)(HF₀ H₀:Hp)(tg:Expr)(f:aj->D->Option aj):Prop:=PG X tg (Qm X.K HF₀ H₀ f)
def nu(i:Nat):aj->D->Option aj:=fun ρ d=>some (ρ.set i (.val d))
theorem GE(i:Nat){x:Str}(hN:X.N.Nodup)(hi:X.N[i]?=some x)(hx:Loc X.env.scope x)(hf:X.fn x=true\/X.env.scope.names.lookup x=some .local:=by first|exact .inl rfl|exact .inr rfl|assumption):OW X HF₀ H₀ (.Name x pos) (nu i) :=
 rz (gc hN hi hx hf) fun v σ H Q ⟨HF,ρ,d,ρ',S,r,hf,q⟩=>by cases hf;exact q _ (S.setV r)
def hU(i j:Nat):aj->D->Option aj:=fun ρ d=>match d with
 | .tuple [x,y]=>some ((ρ.set i (.val x)).set j (.val y))
 | _=>none
theorem Jz(i j:Nat){x y:Str}{px py:Pos}{k:Nat}(hc:X.calm=true)(hN:X.N.Nodup)(hi:X.N[i]?=some x)(hx:Loc X.env.scope x)(hj:X.N[j]?=some y)(hy:Loc X.env.scope y)
  (hf:X.fn x=true\/X.env.scope.names.lookup x=some .local:=by first|exact .inl rfl|exact .inr rfl|assumption) (hf':X.fn y=true\/X.env.scope.names.lookup y=some .local:=by first|exact .inl rfl|exact .inr rfl|assumption) :
  OW X HF₀ H₀ (.Tuple [.Name x px,.Name y py] k pos) (hU i j) :=
 rz (Aa hc (gU (gc hN hi hx hf) (gU (gc hN hj hy hf') vM))) fun v σ H Q ⟨HF,ρ,d,ρ',S,r,hf,q⟩=>by
  unfold hU at hf
  split at hf
  ·cases hf
   simp only[Rep] at r
   obtain⟨a,vs,rfl,hs,rr⟩:=r
   obtain⟨v1,r1,rfl,a1,b1⟩:=rr.cons_inv
   obtain⟨v2,r2,rfl,a2,b2⟩:=b1.cons_inv
   rw[b2.nil_inv] at hs
   exact⟨a,_,rfl,ay S.gr.fh hs,rfl,v1,_,rfl,v2,_,rfl,rfl,q _ ((S.setV a1).setV a2)⟩
  ·cases hf
def cO(tgt:aj->D->Option aj)(gb:aj->Option Out):List D->aj->Option Out
 | [],ρ=>some (.nx ρ)
 | d::ds,ρ=>(tgt ρ d).bind fun ρ1=>(gb ρ1).bind fun|.nx ρ2=>cO tgt gb ds ρ2|.rt v=>some (.rt v)
def dZ(fz:List Nat)(fi:Env->Option (List D))(tgt:aj->D->Option aj)(gb:aj->Option Out):aj->Option Out:=fun ρ=>(fi (cn (hand fz 0 ρ))).bind fun ds=>cO tgt gb ds (hand fz 0 ρ)
theorem L3(fz:List Nat){tg iter:Expr}{body:List Stmt}{fi:Env->Option (List D)}{tgt:aj->D->Option aj}{gb:aj->Option Out}(hp:PassesOwn (model X.prog X.w) X.A X.env X.xe)(hc:X.calm=true)(hi:DI X tg iter fi)(hg:OW X HF₀ H₀ tg tgt)(hb:Eo X HF₀ H₀ body gb)
  (hs:∀x,foldedSetIterable iter X.env x=pure x:=by intro _;rfl):DS X HF₀ H₀ (.For tg iter body [] pos) (dZ fz fi tgt gb):=eH (Mi hp hc hi hg hb hs) fun E σ H ⟨HF,ρ,o,S,hg,q⟩=>by
 obtain⟨ds,h,hg⟩:=bs hg
 obtain⟨HF1,s1,S1⟩:=S.hand fz
 refine⟨HF1,_,ds,S1.gr.fh,S1.frz,h,fun J H2 HF2 G it=>?_⟩
 refine⟨fun i m σ' H'=>m+i=ds.length/\∃HF' ρ',j5 X.K HF₀ H₀ HF' H' ρ' σ'/\aQ HF2 HF'/\cO tgt gb (ds.drop i) ρ'=some o,⟨ds.length,rfl,HF2,_,S1.grow G,.refl _,hg⟩,?_⟩
 rintro i m σ' H' ⟨hm,HF',ρ',S',s',hf⟩
 by_cases hi:i < ds.length
 ·refine .inr ?_
  have hd:ds.drop i=ds[i]::ds.drop (i+1):=List.drop_eq_getElem_cons hi
  have he:ds[i]?=some ds[i]:=zU.mpr ⟨hi,rfl⟩
  generalize ds[i]=d at hd he
  rw[hd] at hf
  unfold cO at hf
  obtain⟨ρ1,h1,hf⟩:=bs hf
  obtain⟨o1,h2,hf⟩:=bs hf
  obtain⟨go,yld⟩:=it.go i d H' HF' he s' S'.gr.fh
  refine⟨go,fun σ2 H3=>∃HF3 ρ3,j5 X.K HF₀ H₀ HF3 H3 ρ3 σ2/\aQ HF2 HF3/\cO tgt gb (ds.drop (i+1)) ρ3=some o,fun σ2 H3 ⟨HF3,ρ3,a1,a2,a3⟩=>⟨m - 1,by omega,by omega,HF3,ρ3,a1,a2,a3⟩,fun x H3 y=>?_⟩
  obtain⟨HF3,G3,rx⟩:=yld x H3 y
  refine⟨HF3,ρ',d,ρ1,S'.grow G3,rx,h1,fun σ2 S2=>⟨HF3,ρ1,o1,S2,h2,?_⟩⟩
  cases o1 with
  | nx ρ2=>exact fun σ4 H4 HF4 S4 s4=>⟨HF4,ρ2,S4,(s'.trans G3.ff).trans s4,hf⟩
  | rt d=>cases hf;exact q
 ·have hi':i=ds.length:=by omega
  subst hi'
  rw[List.drop_length] at hf
  cases hf
  exact .inl ⟨it.stop H' HF' s' S'.gr.fh,q σ' H' HF' S' ((s1.trans G.ff).trans s')⟩
end
def PB(X:Cx)(sc:Scope):Prop:=∀x k,sc.names.lookup x=some k->X.env.kindOf x=some k\/(k=.free/\X.env.kindOf x=some .cell)
structure Bk(X:Cx)(N:List Str)(sc:Scope)(k:Nat):Prop where
 n:X.N=N
 nd:N.Nodup
 tb:PB X sc
 calm:X.calm=true
 fn:∀x,sc.names.lookup x=some .cell->X.fn x=true
 room:ee k X.A
 xe:X.xe=fun _ _=>False
 kd:X.env.scope.kind=.function
def dc:List Str:=["len","isinstance","int","bool","tuple","list","range","all","any","set","sorted","enumerate","zip","sum","min","max","reversed","abs","dict","str","type","iter","next"]
def Bn(X:Cx):Prop:=∀x∈dc,X.mg x=none
def xX(sc:Scope)(x:Str):Bool:=decide (sc.names.lookup x=some .globalImplicit)
def Dx(N:List Str)(sc:Scope)(i:Nat)(x:Str):Bool:=decide (N[i]?=some x)&&(decide (sc.names.lookup x=some .local)||decide (sc.names.lookup x=some .cell)||decide (sc.names.lookup x=some .free))&&!(x == ("__debug__":Str))&&!(x == ("__classdict__":Str))
def AV(N:List Str)(sc:Scope)(i:Nat)(x:Str):Bool:=decide (N[i]?=some x)&&(decide (sc.names.lookup x=some .local)||decide (sc.names.lookup x=some .cell))
section
variable {X:Cx}{N:List Str}{sc:Scope}{k:Nat}
theorem Bk.gl(C:Bk X N sc k){x:Str}(h:xX sc x=true):Gl X x:=by
 rcases C.tb x _ (of_decide_eq_true h) with q|⟨q,_⟩
 ·exact q
 ·cases q
theorem Bk.vis(C:Bk X N sc k){i:Nat}{x:Str}(h:Dx N sc i x=true):X.N[i]?=some x/\KQ X.env.scope x/\(x == ("__debug__":Str))=false/\(x == ("__classdict__":Str))=false:=by
 unfold Dx at h
 simp only[zF,Bool.or_eq_true,zJ,Bool.not_eq_true'] at h
 obtain⟨⟨⟨h1,h2⟩,h3⟩,h4⟩:=h
 refine⟨by rw[C.n];exact h1,?_,h3,h4⟩
 rcases h2 with (h2|h2)|h2
 ·rcases C.tb x _ h2 with q|⟨q,_⟩
  ·exact .inl q
  ·cases q
 ·rcases C.tb x _ h2 with q|⟨q,_⟩
  ·exact .inr (.inl q)
  ·cases q
 ·rcases C.tb x _ h2 with q|⟨_,q⟩
  ·exact .inr (.inr q)
  ·exact .inr (.inl q)
theorem Bk.loc(C:Bk X N sc k){i:Nat}{x:Str}(h:AV N sc i x=true):X.N.Nodup/\X.N[i]?=some x/\Loc X.env.scope x/\(X.fn x=true\/X.env.scope.names.lookup x=some .local):=by
 unfold AV at h
 simp only[zF,Bool.or_eq_true,zJ] at h
 obtain⟨h1,h2⟩:=h
 refine⟨by rw[C.n];exact C.nd,by rw[C.n];exact h1,?_⟩
 rcases h2 with h2|h2
 ·rcases C.tb x _ h2 with q|⟨q,_⟩
  ·exact⟨.inl q,.inr q⟩
  ·cases q
 ·rcases C.tb x _ h2 with q|⟨q,_⟩
  ·exact⟨.inr q,.inl (C.fn x h2)⟩
  ·cases q
theorem Bk.blt(C:Bk X N sc k)(B:Bn X){x:Str}{v:Value}(h:xX sc x=true)(hm:x∈dc)(hv:bootBuiltins x=some v):oK X x v:=⟨C.gl h,B x hm,hv⟩
theorem Bk.v(C:Bk X N sc k)(i:Nat){x:Str}{pos:Pos}(h:Dx N sc i x=true):DE X (.Name x pos) (ab i):=let ⟨a,b,c,d⟩:=C.vis h;M0 i a b c d
theorem Bk.pass(C:Bk X N sc k):PassesOwn (model X.prog X.w) X.A X.env X.xe:=by rw[C.xe];exact PassesOwn.never
def fM(sc scope:Scope)(N N':List Str)(t:Nat)(cs:List Nat):Bool :=
 decide (scope.kind=.function)&&scope.names.all (fun p=>(!decide (p.2=NameKind.free)||decide (sc.names.lookup p.1=some .cell)||decide (sc.names.lookup p.1=some .free))&&(!decide (p.2=NameKind.local)||decide (scope.names.lookup p.1=some .local)))
  &&scope.names.all (fun p=>!decide (p.2=NameKind.cell)||!scope.names.any fun q=>decide (q.1=p.1)&&decide (q.2=NameKind.free))
  &&decide (N'.length=t+cs.length)&&decide (N'.drop t=cs.filterMap fun j=>N[j]?)&&cs.all (fun j=>decide (j < N.length))&&(N'.drop t).all (fun x=>decide (scope.names.lookup x=some .free))&&decide N'.Nodup
theorem filterMap_get{α:Type}(N:List α):∀ (cs:List Nat),(∀j∈cs,j < N.length)->∀ (i:Nat),(cs.filterMap fun j=>N[j]?)[i]?=(cs[i]?).bind fun j=>N[j]?
 | [],_,i=>by simp
 | c::cs,h,i=>by
  have hc:=h c zE
  rw[List.filterMap_cons,zK hc]
  cases i with
  | zero=>simp[hc]
  | succ i =>
   simp only[List.getElem?_cons_succ]
   exact filterMap_get N cs (fun j hj=>h j (zC _ hj)) i
theorem Bk.comp(C:Bk X N sc k){scope:Scope}{N':List Str}{t:Nat}{cs:List Nat}(h:fM sc scope N N' t cs=true):jN X scope N' (kl t cs)/\∀fp s H,Bk (aR X scope N' fp s H) N' scope k:=by
 unfold fM at h
 simp only[zF,zJ,List.all_eq_true,Bool.or_eq_true,Bool.not_eq_true',decide_eq_false_iff_not] at h
 obtain⟨⟨⟨⟨⟨⟨⟨h1,h2⟩,h3⟩,h4⟩,h5⟩,h6⟩,h7⟩,h8⟩:=h
 refine⟨⟨h1,fun x hx hk=>?_,fun {x} a b=>?_,fun x hx hk=>?_,fun σ i x v e1 e2=>?_,fun σ=>?_⟩,fun fp s H=>⟨rfl,h8,fun x k hx=>ow hx,C.calm,fun x hx=>yB hx,C.room,rfl,h1⟩⟩
 ·rcases (h2 x hx).1 with (q|q)|q
  ·exact absurd hk q
  ·rcases C.tb _ _ q with z|⟨z,_⟩
   ·exact .inl z
   ·cases z
  ·rcases C.tb _ _ q with z|⟨_,z⟩
   ·exact .inr z
   ·exact .inl z
 ·rcases h3 _ a with q|q
  ·exact q rfl
  ·have:(scope.names.any fun q=>decide (q.1=x)&&decide (q.2=NameKind.free))=true:=List.any_eq_true.mpr ⟨_,b,by simp⟩
   rw[this] at q
   cases q
 ·rcases (h2 x hx).2 with q|q
  ·exact absurd hk q
  ·exact q
 ·unfold kl at e2
  by_cases hi:i < t
  ·rw[List.getElem?_append_left (by simpa using hi),List.getElem?_replicate,if_pos hi] at e2
   cases e2
  ·rw[List.getElem?_append_right (by simpa using hi),zO,List.length_replicate] at e2
   obtain⟨j,hj,e2⟩:=ag e2
   have e3:(N'.drop t)[i - t]?=some x:=by rw[List.getElem?_drop];rw[show t+(i - t)=i by omega];exact e1
   refine⟨h7 x (List.mem_of_getElem? e3),j,?_,?_⟩
   ·rw[h5,filterMap_get N cs h6,hj] at e3
    rw[C.n];exact e3
   ·cases e:σ[j]? with
    | none=>rw[e] at e2;cases e2
    | some o=>rw[e] at e2;have e2:o=some v:=e2;rw[e2]
 ·unfold kl
  rw[zN,List.length_replicate,zD,h4]
def aU(g:aj->Option Out)(n:Nat)(args:List D):Option D:=(g (args.map Slot.val++List.replicate (n - args.length) .non)).map fun|.rt d=>d|.nx _=>.none
theorem Kq{P:Program}{w:World}{K:W.Frag}{mg:Str->Option Value}{base:Heap}{x qual:Str}{st:Stmt}{f:Addr}{fd:FuncData}{ps:List Str}{g:aj->Option Out}(F:JN K x qual st f fd)(S:gm N ps (aI st))
  (body:∀X:Cx,X.prog=P->X.w=w->X.K=K->X.mg=mg->X.base=base->Bk X N (aI st) k->X.env.code=fd.code->X.env.qual=qual++".<locals>."->∀HF₀ H₀,Eo X HF₀ H₀ (cC st) g):pA P w K mg base Ms (k+1) f fd ps (LP K ps.length (aU g N.length)):=by
 obtain⟨oc,od,kV,doc,pm,an,cdv,ct,osl,rfl,lk,hcd⟩:=F.ex
 refine Om lk hcd S (fun vs H Q E ⟨HF,ds,d,h1,_,h2,h3,_⟩=>by rw[h2.length,h3]) fun A outer s H vs Q E hr ⟨HF,ds,d,sm,tb,rr,hl,hd,q⟩=>?_
 refine⟨_,(body (D4 Ms P w K mg base N qual (aI st) f cdv A outer s H E).nox rfl rfl rfl rfl rfl ⟨rfl,S.nd,fun y kd hy=>.inl hy,rfl,fun _ _=>rfl,hr,rfl,S.kind⟩ rfl rfl HF H).nox,?_⟩
 unfold aU at hd
 obtain⟨o,ho,hd⟩:=ag hd
 have hpl:ps.length<=N.length:=by have:=congrArg List.length S.pre;rw[List.length_take] at this;omega
 refine⟨HF,_,o,⟨.refl sm,fun i e h=>?_,fun i es h=>?_,fun i j es fs a h=>?_,?_,tb⟩,ho,?_⟩
 ·have hi:i < ds.length:=by
   by_cases hi:i < ds.length
   ·exact hi
   ·rw[List.getElem?_append_right (by simpa using hi),List.getElem?_replicate] at h
    split at h<;>cases h
  rw[List.getElem?_append_left (by simpa using hi),zO] at h
  obtain⟨d',hd',h⟩:=ag h
  cases h
  obtain⟨v,hv,rv⟩:=rr.getD hd'
  refine⟨v,?_,rv⟩
  unfold L2.start
  rw[List.getElem?_append_left (by simpa [rr.length] using hi),zO,hv]
  rfl
 ·exfalso
  by_cases hi:i < ds.length
  ·rw[List.getElem?_append_left (by simpa using hi),zO] at h
   obtain⟨d',hd',h⟩:=ag h
   cases h
  ·rw[List.getElem?_append_right (by simpa using hi),List.getElem?_replicate] at h
   split at h<;>cases h
 ·exfalso
  by_cases hi:i < ds.length
  ·rw[List.getElem?_append_left (by simpa using hi),zO] at h
   obtain⟨d',hd',h⟩:=ag h
   cases h
  ·rw[List.getElem?_append_right (by simpa using hi),List.getElem?_replicate] at h
   split at h<;>cases h
 ·unfold L2.start
  rw[zN,zN,zD,zD,List.length_replicate,List.length_replicate,rr.length]
  exact Nat.le_refl _
 ·cases o with
  | rt d'=>cases hd;exact fun v H' HF' G r=>q v H' HF' G r
  | nx ρ'=>cases hd;exact fun σ' H' HF' S' _=>q .non H' HF' S'.gr (by simp[Rep])
theorem Qi{P:Program}{w:World}{K:W.Frag}{mg:Str->Option Value}{base:Heap}{x qual:Str}{st:Stmt}{f:Addr}{fd:FuncData}{ps:List Str}{g:aj->Option Out}(F:JN K x qual st f fd)(S:gm N ps (aI st))(hb:Binds K fd ps [])(hm:mg x=some (.ref f))
  (body:∀X:Cx,X.prog=P->X.w=w->X.K=K->X.mg=mg->X.base=base->Bk X N (aI st) k->X.env.code=fd.code->X.env.qual=qual++".<locals>."->∀HF₀ H₀,Eo X HF₀ H₀ (cC st) g):dm P w K mg base (k+1) x ps.length (aU g N.length):=⟨f,fd,ps,Kq F S body,hm,F.kp,hb⟩
end
section
variable {X:Cx}{HF₀ H₀:Hp}{e e2:Expr}{pos apos cpos px:Pos}{x:Str}
def lS(fz:List Nat)(f:Env->Option D)(ρ:aj):Option (D×aj):=(f (bp ρ)).bind fun d=>if qF d=true then some (d,ρ) else (f (cn (hand fz 0 ρ))).map fun d'=>(d',hand fz 0 ρ)
theorem nK{K:W.Frag}{HF H:Hp}{ρ ρ':aj}{σ:L2.St}{fz:List Nat}{f:Env->Option D}{d:D}(S:j5 K HF₀ H₀ HF H ρ σ)(h:lS fz f ρ=some (d,ρ')){Q:VK}
  (q:∀v H' HF',aQ HF HF'->j5 K HF₀ H₀ HF' H' ρ' σ->aQ H H'->Rep K HF' d v->Q v H'):tD K f σ H Q:=by
 obtain⟨d1,h1,h⟩:=bs h
 split at h
 ·rename_i hs
  cases h
  exact⟨H,bp ρ,d,.refl _,S.all,h1,fun v H' HF' G r=>q v H' HF (.refl _) (S.step G.hh) G.hh (w6 hs r)⟩
 ·obtain⟨d2,h2,h⟩:=ag h
  cases h
  obtain⟨HF1,s1,S1⟩:=S.hand fz
  exact⟨HF1,_,d,S1.gr.fh,S1.frz,h2,fun v H' HF' G r=>q v H' HF' (s1.trans G.ff) (S1.grow G) G.hh r⟩
def nL(i:Nat)(m:List D->Option (List D))(ρ:aj):Option Out:=match ρ[i]? with
 | some (.own ds)=>(m ds).map fun es=>.nx (ρ.set i (.own es))
 | _=>none
theorem k9{i:Nat}{m:List D->Option (List D)}{ρ:aj}{o:Out}(h:nL i m ρ=some o):∃ds es,ρ[i]?=some (.own ds)/\m ds=some es/\o=.nx (ρ.set i (.own es)):=by
 unfold nL at h
 split at h
 ·rename_i ds hd
  obtain⟨es,h1,h2⟩:=ag h
  exact⟨ds,es,hd,h1,h2.symm⟩
 ·cases h
theorem j5.mut{K:W.Frag}{HF H:Hp}{ρ:aj}{σ:L2.St}(S:j5 K HF₀ H₀ HF H ρ σ){i:Nat}{ds es:List D}{a:Addr}{vs us:List V}(h:ρ[i]?=some (.own ds))(ha:σ[i]?=some (some (.ref a)))(hH:H a=some (.lst vs))(r:aq K HF es us) :
  j5 K HF₀ H₀ HF (upd H a (.lst us)) (ρ.set i (.own es)) σ:=by
 obtain⟨a',vs',e1,e2,e3,e5,e4⟩:=S.own i ds h
 rw[ha] at e1;cases e1
 have hl:i < ρ.length:=(zU.mp h).1
 have gr:bM HF₀ H₀ HF (upd H a (.lst us)):=⟨fun b o e=>by rw[aA (aL e e5)];exact S.gr.hh b o e,S.gr.ff,fun b o e=>by rw[aA (aL e e3)];exact S.gr.fh b o e,S.gr.nw⟩
 refine⟨gr,fun j d hj=>?_,fun j xs hj=>?_,fun j k xs ys b f1 f2 f3 f4=>?_,by rw[yD];exact S.len,S.tb⟩
 ·rw[List.getElem?_set] at hj
  by_cases hij:i=j
  ·rw[if_pos hij] at hj
   split at hj<;>cases hj
  ·rw[if_neg hij] at hj;exact S.val j d hj
 ·rw[List.getElem?_set] at hj
  by_cases hij:i=j
  ·subst hij
   rw[if_pos rfl,if_pos hl] at hj
   cases hj
   exact⟨a,us,ha,aJ,e3,e5,r⟩
  ·rw[if_neg hij] at hj
   obtain⟨b,ws,f1,f2,f3,f5,f4⟩:=S.own j xs hj
   refine⟨b,ws,f1,?_,f3,f5,f4⟩
   rw[aA]
   ·exact f2
   ·rintro rfl
    exact hij (S.inj i j ds xs b h hj ha f1)
 ·have old:∀ {j:Nat}{xs:List D},(ρ.set i (.own es))[j]?=some (.own xs)->∃ys,ρ[j]?=some (.own ys):=fun {j xs} hj=>by
   rw[List.getElem?_set] at hj
   by_cases hij:i=j
   ·subst hij;exact⟨ds,h⟩
   ·rw[if_neg hij] at hj;exact⟨xs,hj⟩
  obtain⟨xs',g1⟩:=old f1
  obtain⟨ys',g2⟩:=old f2
  exact S.inj j k xs' ys' b g1 g2 f3 f4
def md(i:Nat)(fz:List Nat)(f:Env->Option D):aj->Option Out:=fun ρ=>(lS fz f ρ).bind fun p=>nL i (fun ds=>if ds.length < sizeLine then some (ds++[p.1]) else none) p.2
theorem D6(i:Nat)(fz:List Nat){f:Env->Option D}(hN:X.N[i]?=some x)(hv:KQ X.env.scope x)(h:DE X e f)(hd:(x == ("__debug__":Str))=false:=by decide)(hcd:(x == ("__classdict__":Str))=false:=by decide)
  (hfew:((backTo cpos (starEach [e] X.env)).all (fun x=>!x.1)&&(backToKw cpos (keywordEach [] X.env)).all (fun x=>x.1.isSome)&&decide ([e].length+([]:List Keyword).length+(if ([]:List Keyword).isEmpty then 0 else 1) < 30))=true:=by rfl)
  (hline:(apos.endLine == cpos.line)=true:=by rfl) (hs:starEach [e] X.env=(false,eval e X.env)::starEach [] X.env:=by rfl) :
  DS X HF₀ H₀ (.Expr (.Call (.Attribute (.Name x px) "append" apos) [e] [] cpos) pos) (md i fz f) :=
 eH (pQ (xW PySem.F.plainAttrs_list PySem.F.slot_list_append PySem.F.type_list_append tY (qT hN hv hd hcd) (di h iN hs) rfl hfew hline hs rfl)) fun E σ H ⟨HF,ρ,o,S,hg,q⟩=>by
  obtain⟨⟨d,ρ'⟩,h1,hg⟩:=bs hg
  obtain⟨ds,es,h2,h3,rfl⟩:=k9 hg
  have hown:∃ds',ρ[i]?=some (.own ds'):=by
   obtain⟨d1,_,h1⟩:=bs h1
   split at h1
   ·cases h1;exact⟨ds,h2⟩
   ·obtain⟨d2,_,h1⟩:=ag h1
    cases h1
    rw[i8] at h2
    obtain⟨s,hs,h2⟩:=ag h2
    cases s with
    | non=>split at h2<;>cases h2
    | val _=>split at h2<;>cases h2
    | own xs=>exact⟨xs,hs⟩
  obtain⟨ds',hown⟩:=hown
  obtain⟨a,vs,e1,e2,e3,e5,e4⟩:=S.own i ds' hown
  refine⟨.ref a,e1,.inl ⟨rfl,vs,iU.of e2⟩,nK S h1 fun v H' HF' s1 S' sh r=>?_⟩
  obtain⟨a',vs',f1,f2,f3,f5,f4⟩:=S'.own i ds h2
  rw[e1] at f1;cases f1
  split at h3
  ·rename_i hz
   cases h3
   exact⟨a,vs',v,rfl,rfl,f2,by rw[f4.length];exact hz,q σ _ HF' (S'.mut h2 e1 f2 (f4.append (aq.cons r aq.nil))) s1⟩
  ·cases h3
end
def uG(K:W.Frag)(o:Obj):Option (Addr×Str):=match o.data with
 | .func fd=>if kX.contains fd.qualname=true then (match fd.code with
   | .ref c=>(match K.lookup c with
    | some ⟨_,_,.fields vs,_⟩=>(match (vs[11]?:Option Value) with
     | some (.ref P)=>if W.codeHdIn K c P=true then some (P,fd.qualname++".<locals>."++"<lambda>") else none
     | _=>none)
    | _=>none)
   | _=>none) else none
 | _=>none
def iS(K:W.Frag):List (Addr×Str):=K.filterMap fun p=>uG K p.2
def m7(K:W.Frag)(ts:List Addr):Bool:=(iS K).all fun p=>ts.contains p.1&&(K.lookup p.1).isNone&&decide ((iS K).lookup p.1=some p.2)
theorem xg{K:W.Frag}{o:Obj}{P:Addr}{q:Str}(h:uG K o=some (P,q)):∃c,W.codeHdIn K c P=true:=by
 unfold uG at h
 split at h
 ·split at h
  ·split at h
   ·split at h
    ·split at h
     ·split at h
      ·cases h;exact⟨_,‹_›⟩
      ·cases h
     ·cases h
    ·cases h
   ·cases h
  ·cases h
 ·cases h
theorem yt{K:W.Frag}{P:Addr}{q:Str}(h:(P,q)∈iS K):∃c,W.codeHdIn K c P=true:=by
 obtain⟨p,_,e⟩:=List.mem_filterMap.mp h
 exact xg e
theorem zw{K:W.Frag}{f c P:Addr}{oc:Value}{od:Option Addr}{fd:FuncData}{sl:Array (Option Value)}(a:K.lookup f=some ⟨oc,od,.func fd,sl⟩)(b:fd.qualname∈kX)(d:fd.code=.ref c)(e:W.codeHdIn K c P=true) :
  (P,fd.qualname++".<locals>."++"<lambda>")∈iS K:=by
 refine List.mem_filterMap.mpr ⟨(f,_),W.mem_of_lookupK a,?_⟩
 have e':=e
 unfold W.codeHdIn at e'
 unfold uG
 simp only[d,List.contains_iff_mem,b,if_true]
 split at e'
 ·rename_i vs sl' hl
  simp only[hl]
  simp only[zF] at e'
  have e1:=e'.1.1.1.1.1
  split at e1
  ·rename_i P' hv
   have:P'=P:=by simpa using e1
   subst this
   simp only[hv,e,if_true]
  ·cases e1
 ·cases e'
theorem GL{α:Type}{b:Addr}{q:α}:∀ {l:List (Addr×α)},l.lookup b=some q->(b,q)∈l
 | [],e=>by cases e
 | (c,x)::r,e=>by
  rw[yC] at e
  cases h:b == c with
  | true=>rw[h] at e;cases e;rw[eq_of_beq h];exact zE
  | false=>rw[h] at e;exact zC _ (GL e)
def eI(K:W.Frag)(h0:Hp):Hp:=fun b=>match (iS K).lookup b with|some q=>some (.tab q)|none=>h0 b
theorem DH{K:W.Frag}{ts:List Addr}{h0:Hp}(h:m7 K ts=true):gX K (eI K h0):=fun f oc od fd sl c P a b d e=>by
 have hm:=zw a b d e
 have:=List.all_eq_true.mp h _ hm
 simp only[zF,zJ] at this
 unfold eI
 rw[this.2]
theorem Ec{P:Program}{w:World}{K:W.Frag}{mg mb:Str->Option Value}{CX:Ep}{k:Nat}{fa a:Addr}{fd:FuncData}{x:Str}{sp:Sp}{s₁:Shared}{vs:List Value}{ns:List Int}{ts:List Addr}
  (KX:K.In s₁.heap) (hns:s₁.heap.Ns mainGlobals mg) (hb:s₁.heap.Ns builtinsNs mb) (hbb:∀x:Str,x≠"__name__"->mb x=bootBuiltins x) (hlim:s₁.heap.NoLimit) (hbm:OQ mg s₁.heap) (hg:s₁.gens=#[])
  (ht:m7 K ts=true) (hts:∀P∈ts,s₁.heap.get? P=some (W.tabObj #[]))
  (ha:s₁.heap.get? a=some { cls:=.type "list",data:=.seq vs.toArray }) (hi:IntsAre vs ns) (hl:ns.length<=sizeLine) (hr:ee k callerA)
  (F:∀base:Heap,K.In base->base.Ns mainGlobals mg->pA P w K mg base CX k fa fd [x] sp) (hbind:∀ (s:Shared) (u:Value),BindsTo s fd ⟨[u],[]⟩ [(x,u)])
  (hsp:∀H:Hp,gX K H->iU K H a (ns.map V.int)->sp [.ref a] H (fun v _=>v=.bl true) fun _ _ _=>False)
  (hCX:∀H e s',CX [] H s₁ (fun _ _ _=>False) e s'->False) :
  codeAny (model P w) callerA (.call (.ref fa) ⟨[.ref a],[]⟩) (fun r s'=>r=.ok (.ret (.bool true))/\OldK s₁.heap s'.heap/\s'.os=s₁.os/\AllBare s'.gens) s₁:=by
 have rv:=uq hi
 have lenV:=hi.length
 have tabAt:∀b q,(iS K).lookup b=some q->s₁.heap.get? b=some (W.tabObj #[])/\K.lookup b=none/\∃c,W.CodeHd s₁.heap c b:=fun b q e=>by
  have hm:=GL e
  have:=List.all_eq_true.mp ht _ hm
  simp only[zF,zJ,List.contains_iff_mem,Option.isNone_iff_eq_none] at this
  obtain⟨c,hc⟩:=yt hm
  exact⟨hts b this.1.1,this.1.2,c,W.codeHd_of_K KX hc⟩
 have aT:(iS K).lookup a=none:=by
  cases e:(iS K).lookup a with
  | none=>rfl
  | some q=>have:=(tabAt a q e).1;rw[ha] at this;cases this
 have core:∀h0:Hp,iU K (eI K h0) a (ns.map V.int)->pJ P w (eI K h0) s₁.heap->(∀b,h0 b≠none->b=a)->(h0 a≠none->K.lookup a=none)->(∀b,h0 b=none\/∃o xs,h0 b=some (.frz o (.lst xs))) ->
   codeAny (model P w) callerA (.call (.ref fa) ⟨[.ref a],[]⟩) (fun r s'=>r=.ok (.ret (.bool true))/\OldK s₁.heap s'.heap/\s'.os=s₁.os/\AllBare s'.gens) s₁:=by
  intro h0 hS hok hA hK hO
  have look:∀b u,eI K h0 b=some u->(∃q,(iS K).lookup b=some q/\u=.tab q)\/(b=a/\h0 b=some u):=fun b u e=>by
   unfold eI at e
   split at e
   ·rename_i q hq;cases e;exact .inl ⟨q,hq,rfl⟩
   ·exact .inr ⟨hA b (by rw[e];simp),e⟩
  have mM:∀ {b:Addr}{o:Obj},s₁.heap.get? b=some o->eI K h0 b=none->(uQ s₁.heap (eI K h0)).get? b=some o:=fun e n=>Ex e n
  have noA:∀ {b:Addr}{o:Obj},s₁.heap.get? b=some o->(∀vs n,o.data≠.seq vs n)->(∀vs,o.data≠.fields vs)->eI K h0 b=none:=fun {b o} e d d2=>by
   cases q:eI K h0 b with
   | none=>rfl
   | some u =>
    rcases look b u q with ⟨q',z,_⟩|⟨z,_⟩
    ·rw[(tabAt b q' z).1] at e;cases e;exact absurd rfl (d2 _)
    ·subst z;rw[ha] at e;cases e;exact absurd rfl (d _ _)
  have nsK:∀ {b:Addr}{m:Str->Option Value},s₁.heap.Ns b m->(uQ s₁.heap (eI K h0)).Ns b m:=fun {b m} ⟨o,es,ep,e,d,r⟩=>⟨o,es,ep,mM e (noA e (fun _ _ z=>by rw[d] at z;cases z) fun _ z=>by rw[d] at z;cases z),d,r⟩
  have hKb:K.In (uQ s₁.heap (eI K h0)):=fun b o e=>mM (KX b o e) (by
   cases q:eI K h0 b with
   | none=>rfl
   | some u =>
    rcases look b u q with ⟨q',z,_⟩|⟨z,z2⟩
    ·rw[(tabAt b q' z).2.1] at e;cases e
    ·subst z;rw[hK (by rw[z2];simp)] at e;cases e)
  have hM:Mod K mg (uQ s₁.heap (eI K h0)):=⟨hKb,nsK hns,⟨mb,nsK hb,hbb⟩,let ⟨mc,h1,h2⟩:=hlim;⟨mc,nsK h1,h2⟩,
   let ⟨bm,o,b1,b2,b3,b4,b5,b6,b7⟩:=hbm;⟨bm,o,b1,b2,b3,mM b4 (noA b4 (fun _ _ z=>by rw[b7] at z;cases z) fun _ z=>by rw[b7] at z;cases z),b5,b6,b7⟩⟩
  have e0:HQ P w K mg (uQ s₁.heap (eI K h0)) callerA [] s₁ (eI K h0):=⟨rfl,hM,fun b o e=>IH e,Nat.le_of_eq (D1 _ _),trivial,fun b hb=>absurd (show b∈([]:List Addr) from hb) (by simp),hok,.of_eq hg⟩
  refine codeAny_mono ((F _ hKb (nsK hns)).run callerA [] s₁ (eI K h0) ⟨[.ref a],[]⟩ [.ref a] [.ref a] _ _ hr e0 (hbind s₁ (.ref a)) (.cons rfl .nil) (hsp _ (DH ht) hS)) fun r s' h=>?_
  cases r with
  | error e=>exact (hCX _ e s' h).elim
  | ok fl =>
   cases fl with
   | next=>exact False.elim h
   | brk=>exact False.elim h
   | cont=>exact False.elim h
   | ret u =>
    obtain⟨v,H',os,bare,un,hok',r',q⟩:=h
    have q':v=.bl true:=q
    subst q'
    obtain rfl:u=Value.bool true:=r'
    have key:∀b o,s₁.heap.get? b=some o->s'.heap.get? b=some o\/(isCodeTable s₁.heap b/\o=W.tabObj #[]/\∃ps,s'.heap.get? b=some (W.tabObj ps)):=fun b o e=>by
     cases q:eI K h0 b with
     | none=>exact .inl (un.keep b o e q (by intro z;exact absurd (show b∈([]:List Addr) from z) (by simp)) (by simp))
     | some u =>
      rcases look b u q with ⟨q',z,rfl⟩|⟨z,z2⟩
      ·obtain⟨t1,_,c,t3⟩:=tabAt b q' z
       obtain⟨more,m1⟩:=un.tbls.gr b q' #[] q t1
       rw[e] at t1
       cases t1
       exact .inr ⟨(t3.tab e).isCodeTable,rfl,_,m1⟩
      ·rcases hO b with z3|⟨ob,xs,z3⟩
       ·rw[z2] at z3;cases z3
       ·rw[z2] at z3
        cases z3
        have z4:=un.frzs b ob _ q
        obtain⟨e1,_⟩:=hok b _ q
        obtain⟨e2,_⟩:=hok' b _ z4
        rw[e] at e1;cases e1
        exact .inl e2
    refine⟨rfl,⟨fun b o e=>?_,fun b o e=>?_⟩,os,bare⟩
    ·rcases key b o e with z|⟨t,rfl,ps,z⟩
     ·exact .inl z
     ·exact .inr (.inl ⟨t,rfl,#[],ps,rfl,by rw[Array.empty_append];exact z⟩)
    ·rcases key b o e with z|⟨_,_,ps,z⟩
     ·exact⟨o,z⟩
     ·exact⟨_,z⟩
 have hoT:∀ (h0:Hp) b q,(iS K).lookup b=some q->fW P w (eI K h0) s₁.heap b (.tab q):=fun h0 b q e=>⟨#[],(tabAt b q e).1,trivial,fun pos v z=>by cases z⟩
 cases hk:K.lookup a with
 | some o =>
  have e:=KX a o hk
  rw[ha] at e
  cases e
  refine core (fun _=>none) (.inr ⟨_,vs.toArray,_,hk,rfl,rfl,rfl,by rw[zH,lenV];exact hl,by simpa using rv⟩) (fun b u z=>?_) (fun b z=>absurd rfl z) (fun z=>absurd rfl z) fun _=>.inl rfl
  unfold eI at z
  split at z
  ·rename_i q hq;cases z;exact hoT _ b q hq
  ·cases z
 | none =>
  refine core (fun b=>if b=a then some (.frz { cls:=.type "list",data:=.seq vs.toArray } (.lst (ns.map V.int))) else none) (.inl (.inr ⟨{ cls:=.type "list",data:=.seq vs.toArray },?_⟩)) (fun b u z=>?_) (fun b z=>?_) (fun _=>hk) fun b=>?_
  ·unfold eI;rw[aT];exact if_pos rfl
  ·unfold eI at z
   split at z
   ·rename_i q hq;cases z;exact hoT _ b q hq
   ·by_cases hb:b=a
    ·replace z:=(if_pos hb).symm.trans z
     cases z
     subst hb
     exact⟨ha,by rw[zD];exact hl,vs,_,rv,ha⟩
    ·replace z:=(if_neg hb).symm.trans z;cases z
  ·by_cases hb:b=a
   ·exact hb
   ·exact absurd (if_neg hb) z
  ·by_cases hb:b=a
   ·exact .inr ⟨_,_,if_pos hb⟩
   ·exact .inl (if_neg hb)
theorem Fp{l:W.OpenLaw}{n k:Nat}{q:Program}{loose:List Str}{XP:(Str->Option Value)->Heap->Prop}{YP:World->Heap->Prop}{d:DefRec}{K:Params->W.Frag}{CX:World->Ep}{sp:World->Sp}{x:Str}{ts:List Addr}
  (hn:l.most=some n) (hn2:n<=sizeLine) (hdf:d.params.defaults=[]) (hr:ee k callerA)
  (hY:∀ (w:World) (h:Heap),YP w h->(K w.params).In h/\∀P∈ts,h.get? P=some (W.tabObj #[])) (ht:∀w:World,m7 (K w.params) ts=true)
  (F:∀ (w:World) (mg:Str->Option Value) (fa:Addr) (h:Heap),(K w.params).In h->h.Ns mainGlobals mg->mg d.name=some (.ref fa) ->
   ∃fd:FuncData,(∀ (s:Shared) (u:Value),BindsTo s fd ⟨[u],[]⟩ [(x,u)]) /\
    ∀base:Heap,(K w.params).In base->base.Ns mainGlobals mg->pA l.prog w (K w.params) mg base (CX w) k fa fd [x] (sp w))
  (hsp:∀ (w:World) (H:Hp) (a:Addr) (ns:List Int),ns.length<=n->gX (K w.params) H->iU (K w.params) H a (ns.map V.int)->sp w [.ref a] H (fun v _=>v=.bl true) fun _ _ _=>False)
  (hCX:∀ (w:World) (H:Hp) (s:Shared) (e:Value) (s':Shared),CX w [] H s (fun _ _ _=>False) e s'->False) :
  W.WalkO q loose XP YP l.row.toRowW d [] (fun f vs=>PySem.call f vs):=by
 refine Att.attach_call hn hdf fun w s₀ s₁ mg mb fa o pm cd doc a vs ns G Y ho hd hcd hmg hobj hints hlen hg=>?_
 obtain⟨KX,hts⟩:=hY w _ Y
 obtain⟨fd,hb,hF⟩:=F w mg fa _ KX G.T.g hmg
 have hbm:OQ mg s₁.heap:=by
  obtain⟨bm,ob,b1,b2,b3,b4,b5,b6⟩:=G.T.bmain
  refine⟨bm,ob,b1,b2,fun z=>?_,b3,b4,b5,b6⟩
  obtain⟨o',es,ep,e1,e2,_⟩:=G.T.g
  rw[<- z,b3] at e1
  cases e1
  rw[b6] at e2;cases e2
 exact Ec KX G.T.g G.T.b G.T.builtins G.T.nolimit hbm hg (ht w) hts hobj hints (yE hlen hn2) hr hF hb (fun H hT hS=>hsp w H a ns hlen hT hS) fun H e s'=>hCX w H s₁ e s'
end Dl
namespace SP
open PySem PySem.W PyProof.Rows
def run{α:Type}(lt:Nat->Nat->Bool):KasT α->α
 | .ret a=>a
 | .ask i j k=>run lt (k (lt i j))
theorem jb{α β:Type}(lt:Nat->Nat->Bool)(f:α->KasT β):∀t:KasT α,run lt (t.bind f)=run lt (f (run lt t))
 | .ret a=>rfl
 | .ask i j k=>by
  show run lt ((k (lt i j)).bind f)=run lt (f (run lt (k (lt i j))))
  exact jb lt f (k (lt i j))
def Ny(n:Nat){α:Type}:KasT α->Prop
 | .ret _=>True
 | .ask i j k=>i < n/\j < n/\∀b,Ny n (k b)
theorem wp_run{α:Type}{n:Nat}{cmp:Nat->Nat->(Bool->Shared->Prop)->Shared->Prop}{lt:Nat->Nat->Bool}{s:Shared}(hc:∀i j C,i < n->j < n->C (lt i j) s->cmp i j C s):∀ (t:KasT α) {Q:α->Shared->Prop},Ny n t->Q (run lt t) s->t.kasWp cmp Q s
 | .ret a,Q,_,h=>h
 | .ask i j k,Q,b,h=>hc i j _ b.1 b.2.1 (wp_run hc (k (lt i j)) (b.2.2 _) h)
def rH(n:Nat){α:Type}(R:α->Prop):KasT α->Prop
 | .ret a=>R a
 | .ask i j k=>i < n/\j < n/\∀b,rH n R (k b)
theorem nJ{α β:Type}{n:Nat}{R:α->Prop}{f:α->KasT β}:∀ {t:KasT α},rH n R t->(∀a,R a->Ny n (f a))->Ny n (t.bind f)
 | .ret a,b,h=>h a b
 | .ask i j k,b,h=>⟨b.1,b.2.1,fun c=>nJ (b.2.2 c) h⟩
theorem jC{α β:Type}{n:Nat}{R:α->Prop}{S:β->Prop}{f:α->KasT β}:∀ {t:KasT α},rH n R t->(∀a,R a->rH n S (f a))->rH n S (t.bind f)
 | .ret a,b,h=>h a b
 | .ask i j k,b,h=>⟨b.1,b.2.1,fun c=>jC (b.2.2 c) h⟩
def Bd(n:Nat)(p:Array Nat):Prop:=∀a,p.getD a 0 < n
theorem Bd.perm{n:Nat}{p q:Array Nat}(h:Bd n p)(e:q.Perm p):Bd n q:=by
 intro a
 rw[Array.getD_eq_getD_getElem?]
 cases ha:q[a]? with
 | none=>have:=h p.size;rw[Array.getD_eq_getD_getElem?] at this;simpa using this
 | some x =>
  have hx:x∈q:=Array.mem_of_getElem? ha
  have hx':x∈p:=e.mem_iff.mp hx
  obtain⟨i,hi,rfl⟩:=Array.mem_iff_getElem.mp hx'
  have:=h i
  rw[Array.getD_eq_getD_getElem?] at this
  simpa [hi] using this
theorem GV{n:Nat}{p:Array Nat}(h:Bd n p):∀f m,rH n (fun _=>True) (kas_asc p f m)
 | 0,m=>trivial
 | f+1,m=>⟨h _,h _,fun c=>by
  dsimp only
  split
  ·trivial
  ·exact GV h f (m+1)⟩
theorem yf{n:Nat}{p:Array Nat}(h:Bd n p)(i j:Nat):Bd n (kas_rev p i j):=h.perm (mirror_perm _ _ _ _)
theorem u3{n:Nat}:∀ (f:Nat) {p:Array Nat}(h:Bd n p) (m q:Nat),rH n (fun r=>Bd n r.1) (kas_desc f p m q)
 | 0,p,h,m,q=>h
 | f+1,p,h,m,q=>⟨h _,h _,fun c=>by
  dsimp only
  split
  ·split
   ·exact u3 f (yf h _ _) (m+1) 0
   ·exact u3 f h (m+1) 0
  ·exact⟨h _,h _,fun d=>by
    dsimp only
    split
    ·exact h
    ·exact u3 f h (m+1) (q+1)⟩⟩
theorem Bw{n:Nat}{p:Array Nat}(h:Bd n p)(m nrem:Nat):rH n (fun r=>Bd n r.2) (kas_tail3 m nrem p):=jC (GV (yf h 0 m) _ _) fun _ _=>yf h 0 m
theorem rO{n:Nat}{p:Array Nat}(h:Bd n p)(m nrem:Nat):rH n (fun r=>Bd n r.2) (kas_descPart m nrem p):=jC (u3 _ h _ _) fun r hr=>by
 split
 ·exact Bw (yf hr _ _) _ _
 ·exact Bw hr _ _
theorem Ji{n:Nat}{p:Array Nat}(h:Bd n p)(nrem:Nat):rH n (fun r=>Bd n r.2) (kas_count nrem p):=jC (GV h _ _) fun m _=>by
 split
 ·exact h
 ·split
  ·exact⟨h _,h _,fun c=>by
    dsimp only
    split
    ·exact h
    ·exact rO (yf h _ _) _ _⟩
  ·exact rO h _ _
theorem wF{n:Nat}{p:Array Nat}(h:Bd n p)(k:Nat):∀f l r,rH n (fun _=>True) (kas_place p k f l r)
 | 0,l,r=>trivial
 | f+1,l,r=>by
  unfold kas_place
  split
  ·trivial
  ·exact⟨h _,h _,fun c=>by
    dsimp only
    split
    ·exact wF h k f _ _
    ·exact wF h k f _ _⟩
theorem KZ{n:Nat}:∀ (f:Nat) {p:Array Nat}(h:Bd n p) (k:Nat),Ny n (kas_bin f p k)
 | 0,p,h,k=>trivial
 | f+1,p,h,k=>nJ (wF h k _ _ _) fun l _=>KZ f (h.perm (bubble_perm _ _ _)) (k+1)
theorem Fx{n:Nat}(h1:1<=n):Ny n (kas_sort n):=by
 have h:Bd n (List.toArray (List.range n)):=fun a=>by
  rw[Array.getD_eq_getD_getElem?]
  by_cases ha:a < n
  ·simp[ha]
  ·simp[ha];omega
 refine nJ (Ji h n) fun r hr=>?_
 split
 ·exact KZ _ hr _
 ·trivial
section
variable (z:Nat->Int)
def Z(p:Array Nat)(a:Nat):Int:=z (p.getD a 0)
def eO:Nat->Nat->Bool:=fun i j=>decide (z i < z j)
theorem nh{p q:Array Nat}{a b:Nat}(h:p[a]?=q[b]?):Z z p a=Z z q b:=by
 unfold Z
 rw[Array.getD_eq_getD_getElem?,Array.getD_eq_getD_getElem?,h]
theorem Hg{p:Array Nat}{i j:Nat}(hj:j<=p.size)(k:Nat):Z z (kas_rev p i j) k=if i<=k/\k < j then Z z p (i+j - 1 - k) else Z z p k:=by
 have e:=getElem?_mirror_all (xs:=p) (i:=i) hj k
 unfold kas_rev
 by_cases h1:i<=k/\k < j
 ·rw[if_pos h1] at e ⊢;exact nh z e
 ·rw[if_neg h1] at e ⊢;exact nh z e
theorem EV{p:Array Nat}{src d:Nat}(hs:src < p.size)(hd:d<=src)(k:Nat):Z z (bubble p src d) k=if k=src - d then Z z p src else if src - d < k/\k<=src then Z z p (k - 1) else Z z p k:=by
 have e:=getElem?_bubble hs d hd k
 by_cases h1:k=src - d
 ·rw[if_pos h1] at e ⊢;exact nh z e
 ·rw[if_neg h1] at e ⊢
  by_cases h2:src - d < k/\k<=src
  ·rw[if_pos h2] at e ⊢;exact nh z e
  ·rw[if_neg h2] at e ⊢;exact nh z e
def Up(p:Array Nat)(n:Nat):Prop:=∀a b,a<=b->b < n->Z z p a<=Z z p b
def Dn(p:Array Nat)(n:Nat):Prop:=∀a b,a<=b->b < n->Z z p b<=Z z p a
variable {z}
theorem IU{p:Array Nat}{n:Nat}(h:Up z p n)(hn:1<=n)(h1:Z z p (n - 1)<=Z z p n):Up z p (n+1):=by
 intro a b hab hb
 by_cases hbn:b < n
 ·exact h a b hab hbn
 ·have e:b=n:=by omega
  subst e
  by_cases ha:a=b
  ·subst ha;exact Int.le_refl _
  ·exact Int.le_trans (h a (b - 1) (by omega) (by omega)) h1
theorem Pv{p:Array Nat}:∀ (f n:Nat),1<=n->Up z p n->n<=run (eO z) (kas_asc p f n)/\run (eO z) (kas_asc p f n)<=n+f/\Up z p (run (eO z) (kas_asc p f n))/\(run (eO z) (kas_asc p f n) < n+f->Z z p (run (eO z) (kas_asc p f n)) < Z z p (run (eO z) (kas_asc p f n) - 1))
 | 0,n,hn,h=>⟨Nat.le_refl _,Nat.le_refl _,h,fun q=>absurd q (Nat.lt_irrefl _)⟩
 | f+1,n,hn,h=>by
  unfold kas_asc
  show n<=run (eO z) (if eO z (p.getD n 0) (p.getD (n - 1) 0)=true then .ret n else kas_asc p f (n+1))/\run (eO z) (if eO z (p.getD n 0) (p.getD (n - 1) 0)=true then .ret n else kas_asc p f (n+1))<=n+(f+1)/\Up z p (run (eO z) (if eO z (p.getD n 0) (p.getD (n - 1) 0)=true then .ret n else kas_asc p f (n+1)))/\(run (eO z) (if eO z (p.getD n 0) (p.getD (n - 1) 0)=true then .ret n else kas_asc p f (n+1)) < n+(f+1)->Z z p (run (eO z) (if eO z (p.getD n 0) (p.getD (n - 1) 0)=true then .ret n else kas_asc p f (n+1))) < Z z p (run (eO z) (if eO z (p.getD n 0) (p.getD (n - 1) 0)=true then .ret n else kas_asc p f (n+1)) - 1))
  by_cases hc:eO z (p.getD n 0) (p.getD (n - 1) 0)=true
  ·rw[if_pos hc]
   exact⟨Nat.le_refl _,Nat.le_add_right _ _,h,fun _=>of_decide_eq_true hc⟩
  ·rw[if_neg hc]
   have h1:Z z p (n - 1)<=Z z p n:=by
    have:¬ (Z z p n < Z z p (n - 1)):=fun q=>hc (yB q)
    omega
   obtain⟨a,b,c,d⟩:=Pv f (n+1) (by omega) (IU h hn h1)
   exact⟨by omega,by omega,c,fun q=>d (by omega)⟩
theorem Bi{p:Array Nat}{i j:Nat}(hj:j<=p.size)(h:∀a b,i<=a->a < j->i<=b->b < j->Z z p a=Z z p b)(k:Nat):Z z (kas_rev p i j) k=Z z p k:=by
 rw[Hg z hj]
 split
 ·rename_i hk
  exact h _ _ (by omega) (by omega) hk.1 hk.2
 ·rfl
theorem GN{p q:Array Nat}{n:Nat}(e:∀k,Z z q k=Z z p k)(h:Dn z p n):Dn z q n:=fun a b hab hb=>by rw[e,e];exact h a b hab hb
theorem LY{p:Array Nat}{n:Nat}(hn:n<=p.size)(h:Dn z p n):Up z (kas_rev p 0 n) n:=by
 intro a b hab hb
 rw[Hg z hn,Hg z hn,if_pos ⟨Nat.zero_le _,by omega⟩,if_pos ⟨Nat.zero_le _,hb⟩]
 exact h _ _ (by omega) (by omega)
theorem mP(p:Array Nat)(i j:Nat):(kas_rev p i j).size=p.size:=mirror_size _ _ _ _
theorem nz(p:Array Nat)(i j:Nat):(kas_rev p i j).Perm p:=mirror_perm _ _ _ _
structure Na(z:Nat->Int)(p₀ p:Array Nat)(n q nrem:Nat):Prop where
 perm:p.Perm p₀
 size:p.size=p₀.size
 le:n<=nrem
 qn:q+1<=n
 dn:Dn z p n
 eq:∀a b,n - (q+1)<=a->a < n->n - (q+1)<=b->b < n->Z z p a=Z z p b
theorem Je{p₀:Array Nat}{nrem:Nat}(hz:nrem<=p₀.size):∀ (f:Nat) (p:Array Nat) (n q:Nat),n+f<=nrem->Na z p₀ p n q nrem ->
  let r:=run (eO z) (kas_desc f p n q);Na z p₀ r.1 r.2.1 r.2.2 nrem
 | 0,p,n,q,hn,h=>h
 | f+1,p,n,q,hn,h=>by
  intro r
  have hr:r=run (eO z) (if eO z (p.getD n 0) (p.getD (n - 1) 0)=true then (if q > 0 then kas_desc f (kas_rev p (n - (q+1)) n) (n+1) 0 else kas_desc f p (n+1) 0)
   else .ask (p.getD (n - 1) 0) (p.getD n 0) fun d=>if d=true then .ret (p,n,q) else kas_desc f p (n+1) (q+1)):=rfl
  have hq:=h.qn
  by_cases hc:eO z (p.getD n 0) (p.getD (n - 1) 0)=true
  ·rw[if_pos hc] at hr
   have hlt:Z z p n < Z z p (n - 1):=of_decide_eq_true hc
   have step:∀p':Array Nat,p'.Perm p₀->p'.size=p₀.size->(∀k,Z z p' k=Z z p k)->Na z p₀ p' (n+1) 0 nrem:=fun p' a1 a2 a3=>by
    refine⟨a1,a2,by omega,by omega,fun a b hab hb=>?_,fun a b h1 h2 h3 h4=>by rw[show a=b by omega]⟩
    rw[a3,a3]
    by_cases hbn:b < n
    ·exact h.dn a b hab hbn
    ·have e:b=n:=by omega
     subst e
     by_cases ha:a=b
     ·subst ha;exact Int.le_refl _
     ·exact Int.le_trans (Int.le_of_lt hlt) (h.dn a (b - 1) (by omega) (by omega))
   by_cases hq0:q > 0
   ·rw[if_pos hq0] at hr
    rw[hr]
    exact Je hz f _ (n+1) 0 (by omega) (step _ ((nz _ _ _).trans h.perm) (by rw[mP,h.size]) (Bi (by rw[h.size];omega) h.eq))
   ·rw[if_neg hq0] at hr
    rw[hr]
    exact Je hz f p (n+1) 0 (by omega) (step p h.perm h.size fun _=>rfl)
  ·rw[if_neg hc] at hr
   have hge:Z z p (n - 1)<=Z z p n:=by
    have:¬ (Z z p n < Z z p (n - 1)):=fun q=>hc (yB q)
    omega
   have hr':r=run (eO z) (if eO z (p.getD (n - 1) 0) (p.getD n 0)=true then .ret (p,n,q) else kas_desc f p (n+1) (q+1)):=hr
   by_cases hd:eO z (p.getD (n - 1) 0) (p.getD n 0)=true
   ·rw[if_pos hd] at hr'
    rw[hr']
    exact h
   ·rw[if_neg hd] at hr'
    rw[hr']
    have heq:Z z p n=Z z p (n - 1):=by
     have:¬ (Z z p (n - 1) < Z z p n):=fun q=>hd (yB q)
     omega
    refine Je hz f p (n+1) (q+1) (by omega) ⟨h.perm,h.size,by omega,by omega,fun a b hab hb=>?_,fun a b h1 h2 h3 h4=>?_⟩
    ·by_cases hbn:b < n
     ·exact h.dn a b hab hbn
     ·have e:b=n:=by omega
      subst e
      by_cases ha:a=b
      ·subst ha;exact Int.le_refl _
      ·rw[heq];exact h.dn a (b - 1) (by omega) (by omega)
    ·have key:∀c,n+1 - (q+1+1)<=c->c < n+1->Z z p c=Z z p (n - 1):=fun c c1 c2=>by
      by_cases hcn:c < n
      ·exact h.eq c (n - 1) (by omega) hcn (by omega) (by omega)
      ·have e:c=n:=by omega
       subst e;exact heq
     rw[key a h1 h2,key b h3 h4]
structure OX(z:Nat->Int)(p₀:Array Nat)(nrem:Nat)(r:Nat×Array Nat):Prop where
 perm:r.2.Perm p₀
 size:r.2.size=p₀.size
 ge:1<=r.1
 le:r.1<=nrem
 up:Up z r.2 r.1
theorem tail3{p₀ p:Array Nat}{n nrem:Nat}(hz:nrem<=p₀.size)(h1:1<=n)(hn:n<=nrem)(hp:p.Perm p₀)(hs:p.size=p₀.size)(hd:Dn z p n):OX z p₀ nrem (run (eO z) (kas_tail3 n nrem p)):=by
 unfold kas_tail3
 rw[jb]
 obtain⟨a,b,c,_⟩:=Pv (nrem - n) n h1 (LY (by omega) hd)
 exact⟨(nz _ _ _).trans hp,by show (kas_rev p 0 n).size=_;rw[mP,hs],by show 1<=run _ (kas_asc _ _ _);omega,by show run _ (kas_asc _ _ _)<=nrem;omega,c⟩
theorem descPart{p₀ p:Array Nat}{n nrem:Nat}(hz:nrem<=p₀.size)(h1:1<=n)(hn:n < nrem)(hp:p.Perm p₀)(hs:p.size=p₀.size)(hd:Dn z p n)(hlt:Z z p n<=Z z p (n - 1)):OX z p₀ nrem (run (eO z) (kas_descPart n nrem p)):=by
 unfold kas_descPart
 rw[jb]
 have D:=Je (z:=z) hz (nrem - (n+1)) p (n+1) 0 (by omega) ⟨hp,hs,by omega,by omega,fun a b hab hb=>by
  by_cases hbn:b < n
  ·exact hd a b hab hbn
  ·have e:b=n:=by omega
   subst e
   by_cases ha:a=b
   ·subst ha;exact Int.le_refl _
   ·exact Int.le_trans hlt (hd a (b - 1) (by omega) (by omega)),fun a b h1 h2 h3 h4=>by rw[show a=b by omega]⟩
 dsimp only at D
 generalize run (eO z) (kas_desc (nrem - (n+1)) p (n+1) 0)=r at D
 have hq:=D.qn
 split
 ·exact tail3 hz (by omega) D.le ((nz _ _ _).trans D.perm) (by rw[mP,D.size]) (GN (Bi (by have:=D.size;have:=D.le;omega) D.eq) D.dn)
 ·exact tail3 hz (by omega) D.le D.perm D.size D.dn
theorem count{p:Array Nat}{nrem:Nat}(hz:nrem<=p.size)(h1:1<=nrem):OX z p nrem (run (eO z) (kas_count nrem p)):=by
 unfold kas_count
 rw[jb]
 obtain⟨a,b,c,d⟩:=Pv (z:=z) (p:=p) (nrem - 1) 1 (Nat.le_refl _) (fun x y hxy hy=>by rw[show x=y by omega];exact Int.le_refl _)
 generalize run (eO z) (kas_asc p (nrem - 1) 1)=n at a b c d
 split
 ·exact⟨Array.Perm.refl _,rfl,a,by show n<=nrem;omega,c⟩
 ·rename_i hne
  have hlt:n < nrem:=by
   have:n≠nrem:=fun e=>hne (by simp[e])
   omega
  have hd:=d (by omega)
  split
  ·rename_i hn1
   show OX z p nrem (run (eO z) (if eO z (p.getD 0 0) (p.getD (n - 1) 0)=true then .ret (n,p) else kas_descPart n nrem (kas_rev p 0 n)))
   by_cases hc:eO z (p.getD 0 0) (p.getD (n - 1) 0)=true
   ·rw[if_pos hc]
    exact⟨Array.Perm.refl _,rfl,a,by show n<=nrem;omega,c⟩
   ·rw[if_neg hc]
    have hge:Z z p (n - 1)<=Z z p 0:=by
     have:¬ (Z z p 0 < Z z p (n - 1)):=fun q=>hc (yB q)
     omega
    have all:∀x,x < n->Z z p x=Z z p 0:=fun x hx=>by
     have e1:=c 0 x (Nat.zero_le _) hx
     have e2:=c x (n - 1) (by omega) (by omega)
     omega
    have same:=Bi (z:=z) (p:=p) (i:=0) (j:=n) (by omega) fun x y _ hx _ hy=>by rw[all x hx,all y hy]
    refine descPart hz (by omega) hlt (nz _ _ _) (by rw[mP]) (fun x y hxy hy=>?_) ?_
    ·rw[same,same,all x (by omega),all y hy];exact Int.le_refl _
    ·rw[same,same];omega
  ·exact descPart hz (by omega) hlt (Array.Perm.refl _) rfl (fun x y hxy hy=>by rw[show x=y by omega];exact Int.le_refl _) (by omega)
theorem place{p:Array Nat}{k:Nat}(hu:Up z p k):∀ (f l r:Nat),r - l<=f->l<=r->r<=k->(∀a,a < l->Z z p a<=Z z p k)->(∀a,r<=a->a < k->Z z p k<=Z z p a) ->
  let m:=run (eO z) (kas_place p k f l r);m<=k/\(∀a,a < m->Z z p a<=Z z p k)/\(∀a,m<=a->a < k->Z z p k<=Z z p a)
 | 0,l,r,hf,hl,hr,h1,h2=>by
  intro m
  have e:l=r:=by omega
  subst e
  exact⟨hr,h1,h2⟩
 | f+1,l,r,hf,hl,hr,h1,h2=>by
  intro m
  have hm:m=run (eO z) (if l >= r then .ret l else .ask (p.getD k 0) (p.getD ((l+r) / 2) 0) fun c=>if c=true then kas_place p k f l ((l+r) / 2) else kas_place p k f ((l+r) / 2+1) r):=rfl
  by_cases hlr:l >= r
  ·rw[if_pos hlr] at hm
   rw[hm]
   have e:l=r:=by omega
   subst e
   exact⟨hr,h1,h2⟩
  ·rw[if_neg hlr] at hm
   have hm':m=run (eO z) (if eO z (p.getD k 0) (p.getD ((l+r) / 2) 0)=true then kas_place p k f l ((l+r) / 2) else kas_place p k f ((l+r) / 2+1) r):=hm
   by_cases hc:eO z (p.getD k 0) (p.getD ((l+r) / 2) 0)=true
   ·rw[if_pos hc] at hm'
    rw[hm']
    have hlt:Z z p k < Z z p ((l+r) / 2):=of_decide_eq_true hc
    exact place hu f l ((l+r) / 2) (by omega) (by omega) (by omega) h1 fun a ha hak=>Int.le_trans (Int.le_of_lt hlt) (hu _ a ha hak)
   ·rw[if_neg hc] at hm'
    rw[hm']
    have hge:Z z p ((l+r) / 2)<=Z z p k:=by
     have:¬ (Z z p k < Z z p ((l+r) / 2)):=fun q=>hc (yB q)
     omega
    exact place hu f ((l+r) / 2+1) r (by omega) (by omega) hr (fun a ha=>Int.le_trans (hu a ((l+r) / 2) (by omega) (by omega)) hge) h2
theorem bin{p₀:Array Nat}:∀ (f:Nat) (p:Array Nat) (k:Nat),p.Perm p₀->p.size=p₀.size->k+f<=p₀.size->Up z p k ->
  (run (eO z) (kas_bin f p k)).Perm p₀/\(run (eO z) (kas_bin f p k)).size=p₀.size/\Up z (run (eO z) (kas_bin f p k)) (k+f)
 | 0,p,k,hp,hs,hk,hu=>⟨hp,hs,hu⟩
 | f+1,p,k,hp,hs,hk,hu=>by
  unfold kas_bin
  rw[jb]
  have P:=place hu k 0 k (by omega) (by omega) (Nat.le_refl _) (fun a ha=>absurd ha (Nat.not_lt_zero _)) fun a ha hak=>absurd ha (by omega)
  dsimp only at P
  generalize run (eO z) (kas_place p k k 0 k)=l at P
  obtain⟨p1,p2,p3⟩:=P
  have zb:=EV z (p:=p) (src:=k) (d:=k - l) (by omega) (by omega)
  have e:k - (k - l)=l:=by omega
  rw[e] at zb
  obtain⟨q1,q2,q3⟩:=bin f (bubble p k (k - l)) (k+1) ((bubble_perm _ _ _).trans hp) (by rw[bubble_size,hs]) (by omega) fun a b hab hb=>by
   rw[zb,zb]
   by_cases ha1:a=l
   ·rw[if_pos ha1]
    by_cases hb1:b=l
    ·rw[if_pos hb1];exact Int.le_refl _
    ·rw[if_neg hb1]
     rw[if_pos (by omega)]
     exact p3 _ (by omega) (by omega)
   ·rw[if_neg ha1]
    by_cases hb1:b=l
    ·rw[if_pos hb1,if_neg (by omega)]
     exact p2 a (by omega)
    ·rw[if_neg hb1]
     by_cases ha2:l < a/\a<=k
     ·rw[if_pos ha2,if_pos (by omega)]
      exact hu _ _ (by omega) (by omega)
     ·rw[if_neg ha2]
      by_cases hb2:l < b/\b<=k
      ·rw[if_pos hb2]
       exact hu _ _ (by omega) (by omega)
      ·rw[if_neg hb2]
       exact hu _ _ hab (by omega)
  exact⟨q1,q2,by rw[show k+(f+1)=k+1+f by omega];exact q3⟩
theorem ix{n:Nat}(h1:1<=n):(run (eO z) (kas_sort n)).toList.Perm (List.range n)/\((run (eO z) (kas_sort n)).toList.map z).Pairwise (·<=·):=by
 have hsz:(List.toArray (List.range n)).size=n:=by simp
 have C:=count (z:=z) (p:=List.toArray (List.range n)) (nrem:=n) (by omega) h1
 have fin:∀p:Array Nat,p.Perm (List.toArray (List.range n))->p.size=n->Up z p n->p.toList.Perm (List.range n)/\(p.toList.map z).Pairwise (·<=·):=fun p a b c=>by
  refine⟨by have:=a.toList;simpa using this,?_⟩
  rw[List.pairwise_iff_getElem]
  intro i j hi hj hij
  have hi':i < n:=by simpa [b] using hi
  have hj':j < n:=by simpa [b] using hj
  have:=c i j (Nat.le_of_lt hij) hj'
  unfold Z at this
  have e1:p.getD i 0=p[i]:=by simp[Array.getD,b,hi']
  have e2:p.getD j 0=p[j]:=by simp[Array.getD,b,hj']
  rw[e1,e2] at this
  simpa using this
 unfold kas_sort
 rw[jb]
 generalize run (eO z) (kas_count n (List.toArray (List.range n)))=r at C
 obtain⟨k,p⟩:=r
 have hs:=C.size
 rw[hsz] at hs
 split
 ·rename_i hlt
  have hge:=C.ge
  have e:max k 1=k:=by have:1<=k:=hge;omega
  rw[e]
  obtain⟨q1,q2,q3⟩:=bin (z:=z) (n - k) p k C.perm C.size (by rw[hsz];have:k < n:=hlt;omega) C.up
  refine fin _ q1 (by rw[q2,hsz]) ?_
  rw[show k+(n - k)=n by have:k < n:=hlt;omega] at q3
  exact q3
 ·rename_i hnlt
  have hle:=C.le
  have e:k=n:=by have h3:k<=n:=hle;have h4:¬ k < n:=hnlt;omega
  subst e
  exact fin p C.perm hs C.up
end
end SP
namespace Srt
open PySem PySem.W PySem.Calls PyProof.Rows
def outV(z:Nat->Int)(vs:List Value):List Value:=if vs.length < 2 then vs else (SP.run (SP.eO z) (kas_sort vs.length)).toList.map fun i=>vs.getD i Value.none
theorem outV_len(z:Nat->Int)(vs:List Value):(outV z vs).length=vs.length:=by
 unfold outV
 split
 ·rfl
 ·rename_i h
  have:=(SP.ix (z:=z) (n:=vs.length) (by omega)).1.length_eq
  simpa using this
section
variable {prog:Program}{w:World}{A:Around}{E:Value->Shared->Prop}{s:Shared}
theorem list_sortG{a:Addr}{vs:List Value}{n:Nat}{P:PySem.Fin->Shared->Prop}(ho:s.heap.get? a=some (seqObj "list" vs.toArray n))(h64:vs.length < 64)(z:Nat->Int)(κ:SortKind)
  (hk:2<=vs.length->∀h':Heap,(∀b o,b≠a->s.heap.get? b=some o->h'.get? b=some o)->∀Q':SortKind->Shared->Prop,Q' κ { s with heap:=h' }->wpAny (model prog w) A (keyKind' vs.toArray) Q' (fun _ _=>False) { s with heap:=h' })
  (hlt:2<=vs.length->∀h':Heap,(∀b o,b≠a->s.heap.get? b=some o->h'.get? b=some o)->∀i j C,i < vs.length->j < vs.length->C (SP.eO z i j) { s with heap:=h' }->kas_ask prog w A κ vs i j C { s with heap:=h' })
  (h:∀ (h':Heap) (c:Nat),(∀b o,b≠a->s.heap.get? b=some o->h'.get? b=some o)->h'.get? a=some (seqObj "list" (outV z vs).toArray c)->P (.done (.ret .none)) { s with heap:=h' }) :
  wpAny (model prog w) A (Builtin.«list.sort» ⟨[.ref a],[]⟩) P E s:=by
 rw[list_sort_plain]
 have ha:a < s.heap.objs.size:=zZ ho
 have hsl:vs.length<=sizeLine:=by rw[sizeLine_eq];omega
 refine zW (listItems_at ho rfl (zW (listUpdate_at ho rfl ?_ (by simpa using hsl) (Nat.zero_le _))))
 obtain⟨e1,ho1⟩:∃e,(s.heap.update a (Obj.mapSeq fun _=>(#[]:Array Value))).get? a=some (seqObj "list" #[] e):=⟨_,get?_update_seq ho fun _=>#[]⟩
 have kp1:∀b o,b≠a->s.heap.get? b=some o->(s.heap.update a (Obj.mapSeq fun _=>(#[]:Array Value))).get? b=some o:=fun b o hb e=>(Heap.get?_update_other _ _ (Ne.symm hb)).trans e
 refine zW (seqEpoch_at ho1 rfl (zW (wpAny_newTuple ?_ (by simpa using hsl))))
 refine zW (wpAny_newList (wpAny_holding ?_) (Nat.zero_le _))
 have ho3:(((s.heap.update a (Obj.mapSeq fun _=>(#[]:Array Value))).push (seqObj "tuple" vs.toArray 0)).push (seqObj "list" #[] 0)).get? a=some (seqObj "list" #[] e1):=zV _ (zV _ ho1)
 have kp3:∀b o,b≠a->s.heap.get? b=some o->(((s.heap.update a (Obj.mapSeq fun _=>(#[]:Array Value))).push (seqObj "tuple" vs.toArray 0)).push (seqObj "list" #[] 0)).get? b=some o:=fun b o hb e=>zV _ (zV _ (kp1 b o hb e))
 show wpAny _ A _ P E { s with heap:=((s.heap.update a (Obj.mapSeq fun _=>(#[]:Array Value))).push (seqObj "tuple" vs.toArray 0)).push (seqObj "list" #[] 0) }
 generalize ((s.heap.update a (Obj.mapSeq fun _=>(#[]:Array Value))).push (seqObj "tuple" vs.toArray 0)).push (seqObj "list" #[] 0)=h3 at ho3 kp3
 clear ho1 kp1
 dsimp only
 have fin:∀st':SortSt,(arrOf st').map (·.2)=(outV z vs).toArray->failedOf st'=none ->
   wpAny (model prog w) A (do
    let sorted:=(arrOf st').map (·.2)
    let touched:=(<- seqEpoch a) != e1
    Builtin.List.listUpdate (.ref a) fun _=>sorted
    if let some e:=failedOf st' then rule "list.sort.comparison-raised";throw e
    if touched then rule "list.sort.modified";raiseError "ValueError" "list modified during sort"
    ret .none) P E { s with heap:=h3 }:=fun st' h1 h2=>by
  dsimp only
  rw[h1,h2]
  refine zW (seqEpoch_at ho3 rfl ?_)
  refine zW (listUpdate_at ho3 rfl ?_ (Nat.zero_le _) (by show (outV z vs).toArray.size<=_;rw[zH,outV_len];omega))
  obtain⟨c,hc⟩:∃c,(h3.update a (Obj.mapSeq fun _=>(outV z vs).toArray)).get? a=some (seqObj "list" (outV z vs).toArray c):=⟨_,get?_update_seq ho3 fun _=>(outV z vs).toArray⟩
  have q:=h _ c (fun b o hb e=>(Heap.get?_update_other _ _ (Ne.symm hb)).trans (kp3 b o hb e)) hc
  simp only[bne_self_eq_false,Bool.false_eq_true,if_false]
  exact zX q
 by_cases h2:vs.toArray.size < 2
 ·rw[if_pos h2,if_pos h2]
  refine zW (zX ?_)
  rw[StateT.run_pure]
  refine zW (zX (fin _ ?_ rfl))
  have h2':vs.length < 2:=by simpa using h2
  unfold outV
  rw[if_pos h2']
  show ((vs.toArray.zip vs.toArray).map (·.2))=vs.toArray
  apply Array.toList_inj.mp
  simp only[Array.toList_map,Array.toList_zip]
  exact List.map_snd_zip (Nat.le_refl _)
 ·rw[if_neg h2,if_neg h2]
  have h2':2<=vs.length:=by
   have:¬ vs.length < 2:=by simpa using h2
   omega
  refine zW (wpAny_mono (hk h2' h3 kp3 (fun κ' s'=>κ'=κ/\s'={ s with heap:=h3 }) ⟨rfl,rfl⟩) (fun κ' s' hs=>?_) fun _ _ x=>x.elim)
  obtain⟨rfl,rfl⟩:=hs
  refine zW (wpAny_mono (kat_run (Q:=fun st' s'=>s'={ s with heap:=h3 }/\(arrOf st').map (·.2)=(outV z vs).toArray/\failedOf st'=none) (G:=fun p s'=>s'={ s with heap:=h3 }/\p=SP.run (SP.eO z) (kas_sort vs.length))
   rfl h2' h64 (fun p st' s' a1 a2 a3 a4=>⟨a4.1,?_,a3⟩) (SP.wp_run (hlt h2' h3 kp3) (kas_sort vs.length) (SP.Fx (by omega)) ⟨rfl,rfl⟩)) ?_ fun _ _ e=>e)
  ·rw[kat_snds rfl a2,a4.2]
   unfold outV
   rw[if_neg (by omega)]
  ·rintro⟨⟨⟩,st'⟩ s' ⟨hs,h4,h5⟩
   subst hs
   exact fin st' h4 h5
def Coll(h:Heap)(l:Addr)(vs:List Value):Prop:=∃ (o:Obj) (T:String) (n:Nat),(T="list"\/T="tuple")/\h.get? l=some o/\o.cls=.type T/\o.data=.seq vs.toArray n
theorem collectC{l:Addr}{vs:List Value}{Q:List Value->Shared->Prop}(hl:Coll s.heap l vs)
  (h:Q vs { s with heap:=(s.heap.push (seqObj "list" #[] 0)).update s.heap.objs.size (Obj.mapSeq (·++vs.toArray)) }) (hsz:vs.length<=sizeLine):wpAny (model prog w) A (collect (.ref l)) Q E s:=by
 obtain⟨o,T,n,hT,ho,hc,hd⟩:=hl
 unfold collect
 refine zW (wpAny_runValue (codeAny_builtin entry_proto_collect' ?_))
 show wpAny _ _ (do again (.builtin "list.__iadd__" ⟨[<- newList [],.ref l],[]⟩)) _ _ s
 refine zW (wpAny_newList (zX ⟨Code.quiet_builtin _ (by decide +kernel),codeAny_builtin entry_list_iadd' ?_⟩))
 show wpAny _ _ (Builtin.List.listExtendWith (.ref s.heap.objs.size) (.ref l) (.ref s.heap.objs.size)) _ _ { s with heap:=s.heap.push (seqObj "list" #[] 0) }
 unfold Builtin.List.listExtendWith
 have ho':(s.heap.push (seqObj "list" #[] 0)).get? l=some o:=zV _ ho
 refine zW (wpAny_typeOf (T:=T) ⟨o,ho',hc⟩ ?_)
 rw[if_pos (by rcases hT with rfl|rfl<;>simp)]
 refine zW (listItems_at ho' hd (zW (listItems_at (xs:=#[]) (n:=0) (zY _ rfl) rfl ?_)))
 rw[if_neg (by simp)]
 refine zW (listUpdate_at (xs:=#[]) (n:=0) (zY _ rfl) rfl ?_ (Nat.zero_le _) (by show (#[]++vs.toArray).size<=sizeLine+1;simp only[Array.size_append,zH,List.length_nil];omega))
 refine zX ?_
 refine zW (wpAny_load (get?_update_seq (zY _ rfl) _) ?_)
 show wpAny _ _ (pure ((#[]:Array Value)++vs.toArray).toList) Q E _
 rw[show ((#[]:Array Value)++vs.toArray).toList=vs by simp]
 exact zX h
theorem sortedG{l:Addr}{vs:List Value}{Q:Value->Shared->Prop}(hl:Coll s.heap l vs)(h64:vs.length < 64)(z:Nat->Int)(κ:SortKind)
  (hk:2<=vs.length->∀h':Heap,(∀b o,s.heap.get? b=some o->h'.get? b=some o)->∀Q':SortKind->Shared->Prop,Q' κ { s with heap:=h' }->wpAny (model prog w) A.in1.in1 (keyKind' vs.toArray) Q' (fun _ _=>False) { s with heap:=h' })
  (hlt:2<=vs.length->∀h':Heap,(∀b o,s.heap.get? b=some o->h'.get? b=some o)->∀i j C,i < vs.length->j < vs.length->C (SP.eO z i j) { s with heap:=h' }->kas_ask prog w A.in1.in1 κ vs i j C { s with heap:=h' })
  (h:∀ (h':Heap) (D:Addr) (c:Nat),(∀b o,s.heap.get? b=some o->h'.get? b=some o)->s.heap.objs.size<=D->h'.get? D=some (seqObj "list" (outV z vs).toArray c)->Q (.ref D) { s with heap:=h' }) :
  wpAny (model prog w) A (call (.builtin "sorted") [.ref l]) Q E s:=by
 have hsl:vs.length<=sizeLine:=by rw[sizeLine_eq];omega
 refine Calls.call_function_entry kind_sorted plain_sorted entry_sorted (args_sorted1 _) ?_
 unfold Builtin.«sorted»
 refine zW (m:=checkCount "sorted" 1 1 _) (zX (zW (collectC hl ?_ hsl)))
 refine zW (wpAny_newList ?_ (by simpa using hsl))
 have hsz:((s.heap.push (seqObj "list" #[] 0)).update s.heap.objs.size (Obj.mapSeq (·++vs.toArray))).objs.size=s.heap.objs.size+1:=by rw[Heap.size_update,size_push']
 have kp:∀b o,s.heap.get? b=some o->(((s.heap.push (seqObj "list" #[] 0)).update s.heap.objs.size (Obj.mapSeq (·++vs.toArray))).push (seqObj "list" vs.toArray 0)).get? b=some o:=fun b o e =>
  zV _ ((Heap.get?_update_other _ _ (Nat.ne_of_gt (zZ e))).trans (zV _ e))
 have hoD:(((s.heap.push (seqObj "list" #[] 0)).update s.heap.objs.size (Obj.mapSeq (·++vs.toArray))).push (seqObj "list" vs.toArray 0)).get? (s.heap.objs.size+1)=some (seqObj "list" vs.toArray 0):=by
  rw[<- hsz];exact zY _ rfl
 show wpAny _ _ _ _ _ { s with heap:=((s.heap.push (seqObj "list" #[] 0)).update s.heap.objs.size (Obj.mapSeq (·++vs.toArray))).push (seqObj "list" vs.toArray 0) }
 rw[hsz]
 generalize ((s.heap.push (seqObj "list" #[] 0)).update s.heap.objs.size (Obj.mapSeq (·++vs.toArray))).push (seqObj "list" vs.toArray 0)=h1 at kp hoD
 have kk:∀h':Heap,(∀b o,b≠s.heap.objs.size+1->h1.get? b=some o->h'.get? b=some o)->∀b o,s.heap.get? b=some o->h'.get? b=some o:=fun h' q b o e=>q b o (Nat.ne_of_lt (Nat.lt_succ_of_lt (zZ e))) (kp b o e)
 refine zW (wpAny_holding (wpAny_call_entry slot_list_sort ⟨_,hoD,rfl⟩ entry_list_sort (list_sortG hoD h64 z κ (fun a h' q=>hk a h' (kk h' q)) (fun a h' q=>hlt a h' (kk h' q)) fun h' c q e=>⟨_,rfl,?_⟩) (args_list_sort _)))
 exact zX ⟨_,rfl,h h' _ c (kk h' q) (by omega) e⟩
end
end Srt
namespace Dl
open PySem L2 PySem.Spec PyProof.Rows
section
variable {X:Cx}{HF₀ H₀:Hp}{e e2:Expr}{es:List Expr}{pos apos cpos px p:Pos}{x:Str}{fs:Env->Option (List D)}
def vP(i:Nat)(fz:List Nat)(f:Env->Option (List D)):aj->Option Out:=fun ρ=>(f (cn (hand fz 0 ρ))).bind fun us=>nL i (fun ds=>if ds.length+us.length<=sizeLine then some (ds++us) else none) (hand fz 0 ρ)
theorem Ef(i:Nat)(fz:List Nat){f:Env->Option (List D)}(hN:X.N[i]?=some x)(hv:KQ X.env.scope x)(h:DF X e f)(hd:(x == ("__debug__":Str))=false:=by decide)(hcd:(x == ("__classdict__":Str))=false:=by decide)
  (hfew:((backTo cpos (starEach [e] X.env)).all (fun x=>!x.1)&&(backToKw cpos (keywordEach [] X.env)).all (fun x=>x.1.isSome)&&decide ([e].length+([]:List Keyword).length+(if ([]:List Keyword).isEmpty then 0 else 1) < 30))=true:=by rfl)
  (hline:(apos.endLine == cpos.line)=true:=by rfl) (hs:starEach [e] X.env=(false,eval e X.env)::starEach [] X.env:=by rfl) :
  DS X HF₀ H₀ (.Expr (.Call (.Attribute (.Name x px) "extend" apos) [e] [] cpos) pos) (vP i fz f) :=
 eH (pQ (xW PySem.F.plainAttrs_list PySem.F.slot_list_extend PySem.F.type_list_extend Dy (qT hN hv hd hcd) (di h iN hs) rfl hfew hline hs rfl)) fun E σ H ⟨HF,ρ,o,S,hg,q⟩=>by
  obtain⟨us,h1,hg⟩:=bs hg
  obtain⟨ds,es,h2,h3,rfl⟩:=k9 hg
  obtain⟨HF1,s1,S1⟩:=S.hand fz
  obtain⟨a,vs,e1,e2,e3,e5,e4⟩:=S1.own i ds h2
  refine⟨.ref a,e1,.inl ⟨rfl,vs,iU.of e2⟩,HF1,_,us,S1.gr.fh,S1.frz,h1,fun b ws H' HF' G hb hf h' r=>?_⟩
  have S2:=S1.grow G
  obtain⟨a',vs',f1,f2,f3,f5,f4⟩:=S2.own i ds h2
  rw[e1] at f1;cases f1
  split at h3
  ·rename_i hz
   cases h3
   exact⟨a,b,vs',ws,rfl,rfl,f2,h',by rw[f4.length,r.length];exact hz,q σ _ HF' (S2.mut h2 e1 f2 (f4.append r)) (s1.trans G.ff)⟩
  ·cases h3
def Br(ds:List D)(k:Int)(d:D):List D:=let j:=if k < 0 then (k+(ds.length:Int)).toNat else min k.toNat ds.length;ds.take j++d::ds.drop j
def HS:V->List V->Hp->VK->Prop:=fun x vs H Q=>∃l xs k y,x=.ref l/\vs=[.int k,y]/\H l=some (.lst xs)/\xs.length < sizeLine/\-(2 ^ 62)<=k/\k < 2 ^ 62 /\
 Q .non (upd H l (.lst (xs.take (if k < 0 then (k+(xs.length:Int)).toNat else min k.toNat xs.length)++y::xs.drop (if k < 0 then (k+(xs.length:Int)).toNat else min k.toNat xs.length))))
theorem Dd:NI X "list.insert" HS:=by
 intro pins s σ H x vs v us Q I rx rv h
 obtain⟨l,xs,k,y,rfl,rfl,hH,hz,k1,k2,q⟩:=h
 cases rx
 obtain⟨u1,u2,rfl,⟨t,rfl⟩,ru⟩:=L2.aB.two rv
 obtain⟨z,its,n,r,hl,e⟩:=I.lstM hH
 have hfit:¬(!Builtin.List.listFitsIndex k)=true:=by
  have:Builtin.List.listFitsIndex k=true:=by
   unfold Builtin.List.listFitsIndex
   simp only[zF,zJ]
   omega
  rw[this];simp
 refine call_meets F.slot_list_insert ⟨_,e,rfl⟩ F.entry_list_insert (F.args_list_insert_3 _ _ _) (AutoListH.list_insert_list_int_val_1 l its.toArray n k t u2 hfit (by rw[zH];omega)) ⟨e,?_⟩
 have hlen:its.length=xs.length:=hl.symm
 refine⟨.non,_,I.lset (its':=its.take (if k < 0 then (k+(xs.length:Int)).toNat else min k.toNat xs.length)++u2::its.drop (if k < 0 then (k+(xs.length:Int)).toNat else min k.toNat xs.length)) hH e ?_ ((r.take _).append (.cons ru (r.drop _))) ?_,rfl,q⟩
 ·dsimp only
  rw[zH,hlen]
  apply Array.toList_inj.mp
  simp
  exact List.take_of_length_le (by rw[List.length_drop,hlen];exact Nat.le_refl _)
 ·rw[zN,zL,List.length_take,List.length_drop]
  omega
def EY(i:Nat)(fz:List Nat)(fk f:Env->Option D):aj->Option Out:=fun ρ=>(fk (bp ρ)).bind fun kd=>match kd with
 | .int k=>(lS fz f ρ).bind fun p=>nL i (fun ds=>if CS k=true/\ds.length < sizeLine then some (Br ds k p.1) else none) p.2
 | _=>none
theorem Dw(i:Nat)(fz:List Nat){fk f:Env->Option D}(hN:X.N[i]?=some x)(hv:KQ X.env.scope x)(hk:DE X e fk)(h:DE X e2 f)(hd:(x == ("__debug__":Str))=false:=by decide)(hcd:(x == ("__classdict__":Str))=false:=by decide)
  (hfew:((backTo cpos (starEach [e,e2] X.env)).all (fun x=>!x.1)&&(backToKw cpos (keywordEach [] X.env)).all (fun x=>x.1.isSome)&&decide ([e,e2].length+([]:List Keyword).length+(if ([]:List Keyword).isEmpty then 0 else 1) < 30))=true:=by rfl)
  (hline:(apos.endLine == cpos.line)=true:=by rfl) (hs:starEach [e,e2] X.env=(false,eval e X.env)::starEach [e2] X.env:=by rfl) (hs2:starEach [e2] X.env=(false,eval e2 X.env)::starEach [] X.env:=by rfl) :
  DS X HF₀ H₀ (.Expr (.Call (.Attribute (.Name x px) "insert" apos) [e,e2] [] cpos) pos) (EY i fz fk f) :=
 eH (pQ (xW PySem.F.plainAttrs_list PySem.F.slot_list_insert PySem.F.type_list_insert Dd (qT hN hv hd hcd) (di hk (di h iN hs2) hs) rfl hfew hline hs (by rw[hs2];rfl))) fun E σ H ⟨HF,ρ,o,S,hg,q⟩=>by
  obtain⟨kd,hkd,hg⟩:=bs hg
  cases kd<;>try cases hg
  rename_i k
  obtain⟨⟨d,ρ'⟩,h1,hg⟩:=bs hg
  obtain⟨ds,es,h2,h3,rfl⟩:=k9 hg
  have hown:∃ds',ρ[i]?=some (.own ds'):=by
   obtain⟨d1,_,h1⟩:=bs h1
   split at h1
   ·cases h1;exact⟨ds,h2⟩
   ·obtain⟨d2,_,h1⟩:=ag h1
    cases h1
    rw[i8] at h2
    obtain⟨s,hs,h2⟩:=ag h2
    cases s with
    | non=>split at h2<;>cases h2
    | val _=>split at h2<;>cases h2
    | own xs=>exact⟨xs,hs⟩
  obtain⟨ds',hown⟩:=hown
  obtain⟨a,vs,e1,e2,e3,e5,e4⟩:=S.own i ds' hown
  refine⟨.ref a,e1,.inl ⟨rfl,vs,iU.of e2⟩,H,bp ρ,_,.refl _,S.all,hkd,fun vk Hk HFk Gk rk=>?_⟩
  simp only[Rep] at rk
  subst rk
  refine nK (S.step Gk.hh) h1 fun v H' HF' s1 S' sh r=>?_
  obtain⟨a',vs',f1,f2,f3,f5,f4⟩:=S'.own i ds h2
  rw[e1] at f1;cases f1
  split at h3
  ·rename_i hz
   cases h3
   have ok:=hz.1
   unfold CS at ok
   rw[zF] at ok
   refine⟨a,vs',k,v,rfl,rfl,f2,by rw[f4.length];exact hz.2,of_decide_eq_true ok.1,of_decide_eq_true ok.2,q σ _ HF' (S'.mut h2 e1 f2 ?_) s1⟩
   unfold Br
   rw[f4.length]
   exact (f4.take _).append (aq.cons r (f4.drop _))
  ·cases h3
def tE:D->D->Option (List D)
 | .list xs,.list ys=>small (xs++ys)
 | _,_=>none
def EJ(K:W.Frag):R2:=fun x y H Q=>∃a b xs ys,x=.ref a/\y=.ref b/\iU K H a xs/\iU K H b ys/\xs.length+ys.length<=sizeLine/\∀p,H p=none->Q (.ref p) (upd H p (.lst (xs++ys)))
theorem xb:i4 X (binaryOp .Add) (EJ X.K):=by
 intro pins s σ H x y v u Q I rx ry h
 obtain⟨a,b,xs,ys,rfl,rfl,ha,hb,hz,q⟩:=h
 cases rx
 cases ry
 obtain⟨its,r1,p1,_⟩:=I.list ha
 obtain⟨its2,r2,p2,_⟩:=I.list hb
 obtain⟨⟨cls,dd,data,sl⟩,ho,hc,n,hd⟩:=id p1.isList
 obtain⟨⟨cls2,dd2,data2,sl2⟩,ho2,hc2,n2,hd2⟩:=id p2.isList
 simp only at hc hd hc2 hd2
 subst hc hd hc2 hd2
 refine concat_meets ⟨_,ho,rfl⟩ ⟨_,ho2,rfl⟩ noFill_list_add seq_list_add PySem.F.slot_list_add PySem.F.entry_list_add (PySem.F.args_list_add_2 _ _) (list_addW a b its.toArray its2.toArray n n2 dd dd2 sl sl2 (by rw[zH,zH,<- r1.length,<- r2.length];exact hz)) ⟨ho,ho2,?_⟩
 have e:its.toArray++its2.toArray=(its++its2).toArray:=by simp
 rw[e]
 exact⟨.ref s.heap.objs.size,_,I.lnew (t':=s.toks) (r1.append r2) (by rw[zN];exact hz),rfl,q _ I.fresh⟩
def Qg(g:D->D->Option (List D))(f1 f2:Env->Option D):Env->Option (List D):=fun ρ=>(f1 ρ).bind fun x=>(f2 ρ).bind fun y=>g x y
theorem Mc{a b:Expr}{fa fb:Env->Option D}(ha:DE X a fa)(hb:DE X b fb):DF X (.BinOp a .Add b pos) (Qg tE fa fb):=aY (Ky xb ha hb) fun σ H Q ⟨HF,ρ,d,sm,eo,hf,q⟩=>by
 obtain⟨x,hx,hf⟩:=bs hf
 obtain⟨y,hy,hg⟩:=bs hf
 refine⟨HF,ρ,x,sm,eo,hx,fun v1 H1 HF1 g1 r1=>⟨HF1,ρ,y,g1.fh,eo.mono g1.ff,hy,fun v2 H2 HF2 g2 r2=>?_⟩⟩
 have r1:=r1.mono g2.ff
 cases x<;>cases y<;>simp only[tE] at hg<;>try cases hg
 rename_i xs ys
 obtain⟨rfl,hz⟩:=eT hg
 simp only[Rep] at r1 r2
 obtain⟨a,vs,rfl,ha,ra⟩:=r1
 obtain⟨b,us,rfl,hb,rb⟩:=r2
 have G:=g1.trans g2
 exact⟨a,b,vs,us,rfl,rfl,g2.fh.seq ha,g2.fh.seq hb,by rw[ra.length,rb.length,<- zN];exact hz,fun p hp=>q p _ _ HF2 (G.trans (.own G.fh hp)) (G.hh.free hp) (G.fh.free hp) aJ (ra.append rb)⟩
def boolsOf:List D->Option (List Bool)
 | []=>some []
 | .bool b::r=>(boolsOf r).map (b::·)
 | _::_=>none
theorem jL:∀ {ds:List D}{bs:List Bool},boolsOf ds=some bs->ds=bs.map PyData.bool
 | [],bs,h=>by cases h;rfl
 | d::r,bs,h=>by
  cases d<;>simp only[boolsOf] at h<;>try cases h
  obtain⟨bs',h1,rfl⟩:=ag h
  rw[jL h1]
  rfl
theorem ml{K:W.Frag}{H:Hp}:∀ {bs:List Bool}{vs:List V},aq K H (bs.map PyData.bool) vs->vs=bs.map V.bl
 | [],vs,h=>h.nil_inv
 | b::bs,vs,h=>by
  obtain⟨v,r,rfl,a,c⟩:=h.cons_inv
  simp only[Rep] at a
  rw[a,ml c]
  rfl
theorem my:∀ {bs:List Bool}{us:List Value},aB (bs.map V.bl) us->us=bs.map Value.bool
 | [],us,h=>by cases h;rfl
 | b::bs,us,h=>by
  cases h with
  | cons r rr=>cases r;rw[my rr];rfl
theorem range_all(bs:List Bool):(List.range bs.length).all (fun i=>bs.getD i false)=bs.all id:=by
 induction bs with
 | nil=>rfl
 | cons b bs ih=>rw[zL,List.range_succ_eq_map,List.all_cons,List.all_map,List.all_cons];simpa [Function.comp_def] using congrArg (b&&·) ih
theorem range_any(bs:List Bool):(List.range bs.length).any (fun i=>bs.getD i false)=bs.any id:=by
 induction bs with
 | nil=>rfl
 | cons b bs ih=>rw[zL,List.range_succ_eq_map,List.any_cons,List.any_map,List.any_cons];simpa [Function.comp_def] using congrArg (b||·) ih
theorem Av(hc:X.calm=true):eL X (.builtin "all") (fun xs H Q=>∃ (a:Addr) (bs:List Bool),xs=[.ref a]/\iU X.K H a (bs.map V.bl)/\Q (.bl (bs.all id)) H):=by
 intro pins s σ H xs us Q I r h
 obtain⟨a,bs,rfl,hq,q⟩:=h
 obtain⟨u,rfl,rx⟩:=vals1 r
 cases rx
 obtain⟨its,rv,pl,hz⟩:=I.list hq
 have hv:=my rv
 subst hv
 have hh:X.A.in1.handled=none:=I.ok.hd hc
 refine call_all_walk (wpAny_pyIter_list pl.isList ?_)
 obtain⟨o,ho,hcl,n,hd⟩:=pl.isList
 have hne:a≠s.heap.objs.size:=Nat.ne_of_lt (zZ ho)
 refine⟨_,_,_,_,_,_,fun i=>bs.getD i false,rfl,Walks.list hh s.heap.objs.size a hne (bs.map Value.bool).toArray,⟨⟨_,zY _ rfl,rfl,rfl⟩,pl.isList.push _⟩,fun i v s' Q' E' hP hQ=>?_,fun h' tk kp=>?_⟩
 ·have e:v=Value.bool (bs.getD i false):=by
   have hP:(bs.map Value.bool).toArray[i]?=some v:=hP
   rw[List.getElem?_toArray,zO] at hP
   obtain⟨b,hb,rfl⟩:=ag hP
   rw[zG,hb]
   rfl
  subst e
  exact wpAny_truthy_bool hQ
 ·refine⟨.bl (bs.all id),H,?_,?_,q⟩
  ·exact I.kept (t':=tk) fun b o' e=>kp b o' (by simp;exact Nat.ne_of_lt (zZ e)) (zV _ e)
  ·show Value.bool _=Value.bool _
   have:=range_all bs
   simp only[zH,zD]
   rw[this]
def nB:List D->Option D:=fun ds=>(oneOf ds).bind fun d=>match d with
 | .list es=>(boolsOf es).map fun bs=>.bool (bs.all id)
 | _=>none
theorem K3(hc:X.calm=true)(B:oK X "all" (.builtin "all"))(ha:DA X [e] fs)(he:starEach [e] X.env=(false,eval e X.env)::starEach [] X.env:=by rfl):DE X (.Call (.Name "all" p) [e] [] pos) (aZ nB fs) :=
 gL (Av hc) (by
  intro HF H ds vs d Q sm r hg q
  obtain⟨x,hx,hg⟩:=bs hg
  rw[gH hx] at r
  cases x<;>try cases hg
  obtain⟨bs,hb,rfl⟩:=ag hg
  obtain⟨v,r',rfl,a,b⟩:=r.cons_inv
  rw[b.nil_inv]
  simp only[Rep] at a
  obtain⟨p,us,rfl,h,rr⟩:=a
  rw[jL hb] at rr
  have:=ml rr
  subst this
  exact⟨p,bs,rfl,sm.seq h,q _ H HF (.refl sm) (by simp[Rep])⟩) B ha (by decide) (by decide) he rfl
end
abbrev lexLt:=HT.lexLt
theorem dN:∀a:List Int,lexLt a a=false
 | []=>rfl
 | x::a=>by show HT.lexLt (x::a) (x::a)=false;rw[HT.cD,if_pos rfl];exact dN a
theorem dR:∀ {a b c:List Int},lexLt a b=true->lexLt b c=true->lexLt a c=true
 | [],[],_,h,_=>by cases h
 | [],_::_,[],_,h=>by cases h
 | [],_::_,_::_,_,_=>rfl
 | _::_,[],_,h,_=>by cases h
 | _::_,_::_,[],_,h=>by cases h
 | x::a,y::b,z::c,h1,h2=>by
  have h1:HT.lexLt (x::a) (y::b)=true:=h1
  have h2:HT.lexLt (y::b) (z::c)=true:=h2
  show HT.lexLt (x::a) (z::c)=true
  rw[HT.cD] at h1 h2 ⊢
  by_cases e1:x=y
  ·rw[if_pos e1] at h1
   by_cases e2:y=z
   ·rw[if_pos e2] at h2
    rw[if_pos (e1.trans e2)]
    exact dR h1 h2
   ·rw[if_neg e2] at h2
    rw[if_neg (by omega)]
    have:=of_decide_eq_true h2
    exact yB (by omega)
  ·rw[if_neg e1] at h1
   have q1:=of_decide_eq_true h1
   by_cases e2:y=z
   ·rw[if_neg (by omega)]
    exact yB (by omega)
   ·rw[if_neg e2] at h2
    have q2:=of_decide_eq_true h2
    rw[if_neg (by omega)]
    exact yB (by omega)
theorem gC:∀ {a b:List Int},lexLt a b=false->lexLt b a=false->a=b
 | [],[],_,_=>rfl
 | [],_::_,h,_=>by cases h
 | _::_,[],_,h=>by cases h
 | x::a,y::b,h1,h2=>by
  have h1:HT.lexLt (x::a) (y::b)=false:=h1
  have h2:HT.lexLt (y::b) (x::a)=false:=h2
  rw[HT.cD] at h1 h2
  by_cases e:x=y
  ·rw[if_pos e] at h1
   rw[if_pos e.symm] at h2
   rw[e,gC h1 h2]
  ·rw[if_neg e] at h1
   rw[if_neg (fun z=>e z.symm)] at h2
   have:=of_decide_eq_false h1
   have:=of_decide_eq_false h2
   omega
def lexLe(a b:List Int):Bool:=!lexLt b a
theorem xV(a b c:List Int)(h1:lexLe a b=true)(h2:lexLe b c=true):lexLe a c=true:=by
 unfold lexLe at *
 rw[Bool.not_eq_true'] at *
 cases e:lexLt c a with
 | false=>rfl
 | true =>
  cases e1:lexLt a b with
  | true=>rw[dR e e1] at h2;cases h2
  | false =>
   have:=gC e1 h1
   subst this
   rw[e] at h2;cases h2
theorem yu(a b:List Int):(lexLe a b||lexLe b a)=true:=by
 unfold lexLe
 cases e1:lexLt b a with
 | false=>rfl
 | true =>
  cases e2:lexLt a b with
  | false=>rfl
  | true=>have:=dR e1 e2;rw[dN] at this;cases this
theorem rA{a b:List Int}(h1:lexLe a b=true)(h2:lexLe b a=true):a=b:=by
 unfold lexLe at *
 rw[Bool.not_eq_true'] at *
 exact gC h2 h1
theorem tw{α:Type}{le:α->α->Bool}(anti:∀a b,le a b=true->le b a=true->a=b):∀ {l m:List α},l.Perm m->l.Pairwise (fun a b=>le a b=true)->m.Pairwise (fun a b=>le a b=true)->l=m
 | [],m,p,_,_=>p.nil_eq
 | a::l,[],p,_,_=>by have:=p.length_eq;simp at this
 | a::l,b::m,p,h1,h2=>by
  obtain⟨h1a,h1b⟩:=List.pairwise_cons.mp h1
  obtain⟨h2a,h2b⟩:=List.pairwise_cons.mp h2
  have e:a=b:=by
   have ha:a∈b::m:=p.mem_iff.mp zE
   have hb:b∈a::l:=p.mem_iff.mpr zE
   rcases zR.mp ha with e|ha
   ·exact e
   ·rcases zR.mp hb with e|hb
    ·exact e.symm
    ·exact anti a b (h1a b hb) (h2a a ha)
  subst e
  rw[tw anti (List.perm_cons a |>.mp p) h1b h2b]
def rT(l:List (List Int)):List (List Int):=l.mergeSort lexLe
theorem Fz(l:List (List Int)):(rT l).Perm l:=List.mergeSort_perm l lexLe
theorem ML(l:List (List Int)):(rT l).Pairwise (fun a b=>lexLe a b=true):=List.pairwise_mergeSort xV yu l
theorem Fh{l m:List (List Int)}(p:l.Perm m)(h:l.Pairwise (fun a b=>lexLe a b=true)):l=rT m:=tw (fun _ _=>rA) (p.trans (Fz m).symm) h (ML m)
def rk(l:List (List Int))(a:List Int):Int:=((l.countP fun b=>lexLt b a:Nat):Int)
theorem BN{l:List (List Int)}{a b:List Int}(ha:a∈l):lexLt a b=decide (rk l a < rk l b):=by
 unfold rk
 have mono:∀ {a b:List Int},lexLt a b=true->(l.countP fun c=>lexLt c a)<=l.countP fun c=>lexLt c b:=fun {a b} h=>List.countP_mono_left fun c _ hc=>dR hc h
 have strict:∀ {a b:List Int}(ha:a∈l),lexLt a b=true->(l.countP fun c=>lexLt c a) < l.countP fun c=>lexLt c b:=fun {a b} ha h=>by
  have key:∀m:List (List Int),a∈m->(m.countP fun c=>lexLt c a) < m.countP fun c=>lexLt c b:=fun m hm=>by
   induction m with
   | nil=>cases hm
   | cons x m ih =>
    rw[List.countP_cons,List.countP_cons]
    have mo:(m.countP fun c=>lexLt c a)<=m.countP fun c=>lexLt c b:=List.countP_mono_left fun c _ hc=>dR hc h
    rcases zR.mp hm with e|hm
    ·subst e
     rw[dN,h]
     simp only[Bool.false_eq_true,if_false,if_true]
     omega
    ·have:=ih hm
     by_cases hx:lexLt x a=true
     ·rw[hx,dR hx h];simp only[if_true];omega
     ·have hx':lexLt x a=false:=by simpa using hx
      rw[hx']
      simp only[Bool.false_eq_true,if_false]
      split<;>omega
  exact key l ha
 cases e:lexLt a b with
 | true=>exact (yB (by have:=strict ha e;omega)).symm
 | false =>
  refine (yA ?_).symm
  cases e2:lexLt b a with
  | true=>have:=mono e2;omega
  | false=>rw[gC e e2];omega
section
variable {prog:Program}{w:World}{A:Around}{E:Value->Shared->Prop}{s:Shared}
theorem qd{Q:Bool->Shared->Prop}:∀ {us ws:List Value}{ns ms:List Int}(i:Nat),IntsAre us ns->IntsAre ws ms->Q (lexLt ns ms) s->W.KatLex prog w A true (decide (ns.length < ms.length)) Q (us.zip ws) i s
 | [],[],_,_,i,.nil,.nil,h=>h
 | [],_::_,_,_,i,.nil,.cons _ _ _,h=>by
  show Q (decide (0 < _+1)) s
  rw[yB (Nat.succ_pos _)]
  exact h
 | _::_,[],_,_,i,.cons _ _ _,.nil,h=>by
  show Q (decide (_+1 < 0)) s
  rw[yA (Nat.not_lt_zero _)]
  exact h
 | _::us,_::ws,_,_,i,.cons n t r1,.cons m u r2,h=>by
  have h:Q (HT.lexLt (n::_) (m::_)) s:=h
  rw[HT.cD] at h
  refine W.kat_cons (SeqAt.EqAt.int_int n t m u prog w _ _ ?_)
  cases e:(n == m) with
  | true =>
   have e':n=m:=eq_of_beq e
   rw[if_pos e'] at h
   refine W.kat_yes ?_
   have:=qd (i+1) r1 r2 h
   simp only[zL,Nat.add_lt_add_iff_right]
   exact this
  | false =>
   have e':¬ n=m:=fun q=>by rw[q] at e;simp at e
   rw[if_neg e'] at h
   refine W.kat_no ?_
   by_cases hi:(true&&i == 0)=true
   ·rw[hi]
    exact oneLt_int h
   ·have hi':(true&&i == 0)=false:=by simpa using hi
    rw[hi']
    refine W.kat_one _ _ (lt_int ?_)
    exact h
end
def af(ns:List Int):D:=.tuple (ns.map PyData.int)
def intsOf:List D->Option (List Int)
 | []=>some []
 | .int n::r=>(intsOf r).map (n::·)
 | _::_=>none
theorem dX:∀ {ds:List D}{ns:List Int},intsOf ds=some ns->ds=ns.map PyData.int
 | [],ns,h=>by cases h;rfl
 | d::r,ns,h=>by
  cases d<;>simp only[intsOf] at h<;>try cases h
  obtain⟨ns',h1,rfl⟩:=ag h
  rw[dX h1]
  rfl
theorem cG:∀ns:List Int,intsOf (ns.map PyData.int)=some ns
 | []=>rfl
 | n::ns=>by simp[intsOf,cG ns]
def Cf:D->Option (List Int)|.tuple ds=>(intsOf ds).bind fun ns=>if ns=[] then none else some ns|_=>none
theorem AN{d:D}{ns:List Int}(h:Cf d=some ns):d=af ns/\ns≠[]:=by
 cases d<;>try cases h
 obtain⟨ms,h1,h2⟩:=bs h
 split at h2
 ·cases h2
 ·rename_i hn
  cases h2
  rw[dX h1]
  exact⟨rfl,hn⟩
theorem Ds{ns:List Int}(h:ns≠[]):Cf (af ns)=some ns:=by
 unfold af Cf
 simp only[cG,zA]
 rw[if_neg h]
def rowsOf:List D->Option (List (List Int))
 | []=>some []
 | d::r=>(Cf d).bind fun ns=>(rowsOf r).map (ns::·)
theorem k3:∀ {ds:List D}{nss:List (List Int)},rowsOf ds=some nss->ds=nss.map af/\∀ns∈nss,ns≠[]
 | [],nss,h=>by cases h;exact⟨rfl,fun _ z=>by cases z⟩
 | d::r,nss,h=>by
  obtain⟨ns,h1,h⟩:=bs h
  obtain⟨rest,h2,rfl⟩:=ag h
  obtain⟨e,hn⟩:=AN h1
  obtain⟨e2,hn2⟩:=k3 h2
  refine⟨by rw[e,e2];rfl,fun m hm=>?_⟩
  rcases zR.mp hm with q|q
  ·subst q;exact hn
  ·exact hn2 m q
theorem me:∀ {nss:List (List Int)},(∀ns∈nss,ns≠[])->rowsOf (nss.map af)=some nss
 | [],_=>rfl
 | ns::r,h=>by
  simp only[zI,rowsOf,Ds (h ns zE),zA,me fun m hm=>h m (zC _ hm),zB]
structure nW(h:Heap)(v:Value)(ns:List Int):Prop where
 ex:∃ (a:Addr) (o:Obj) (its:Array Value) (n:Nat),v=.ref a/\h.get? a=some o/\o.cls=.type "tuple"/\o.data=.seq its n/\IntsAre its.toList ns
theorem nW.keep{h h':Heap}{v:Value}{ns:List Int}(r:nW h v ns)(k:∀b o,h.get? b=some o->h'.get? b=some o):nW h' v ns:=let ⟨a,o,its,n,e,e1,e2,e3,e4⟩:=r.ex;⟨a,o,its,n,e,k _ _ e1,e2,e3,e4⟩
section
variable {prog:Program}{w:World}{A:Around}{E:Value->Shared->Prop}{s:Shared}
theorem qB{h:Heap}:∀ {vs:List Value}{nss:List (List Int)},Paired (nW h) vs nss->(∀ns∈nss,ns≠[])->∃fs:List Value,W.KatTups h vs fs/\fs.length=vs.length/\∀f∈fs,∃n t,f=Value.int n t
 | _,_,.nil,_=>⟨[],trivial,rfl,fun _ z=>by cases z⟩
 | _,_,.cons (a:=v) (b:=ns) r p,hn=>by
  obtain⟨fs,h1,h2,h3⟩:=qB p fun m hm=>hn m (zC _ hm)
  obtain⟨a,o,its,n,rfl,e1,e2,e3,e4⟩:=r.ex
  cases hits:its.toList with
  | nil =>
   rw[hits] at e4
   cases e4
   exact absurd rfl (hn [] zE)
  | cons f rest =>
   rw[hits] at e4
   cases e4 with
   | cons m t e5 =>
    have h0:its[0]?=some (.int m t):=by
     have:its.toList[0]?=some (Value.int m t):=by rw[hits];rfl
     simpa using this
    exact⟨.int m t::fs,W.KatTups.cons e1 e2 e3 h0 h1,by simp[h2],fun g hg=>by
     rcases zR.mp hg with q|q
     ·exact⟨m,t,q⟩
     ·exact h3 g q⟩
theorem gO{α β:Type}{R:α->β->Prop}{d:α}{d':β}:∀ {l:List α}{m:List β}{i:Nat},Paired R l m->i < l.length->R (l.getD i d) (m.getD i d')
 | _,_,i,.nil,h=>by simp at h
 | _,_,0,.cons r _,_=>r
 | _,_,i+1,.cons _ p,h=>by simpa using gO (i:=i) (d:=d) (d':=d') p (by simpa using h)
theorem xl{l:Addr}{vs:List Value}{nss:List (List Int)}{Q:Value->Shared->Prop}(hl:Srt.Coll s.heap l vs)(hp:Paired (nW s.heap) vs nss)(hn:∀ns∈nss,ns≠[])(h64:vs.length < 64)
  (h:∀ (h':Heap) (D:Addr) (c:Nat),(∀b o,s.heap.get? b=some o->h'.get? b=some o)->s.heap.objs.size<=D->h'.get? D=some (seqObj "list" (Srt.outV (fun i=>rk nss (nss.getD i [])) vs).toArray c)->Q (.ref D) { s with heap:=h' }) :
  wpAny (model prog w) A (call (.builtin "sorted") [.ref l]) Q E s:=by
 refine Srt.sortedG hl h64 (fun i=>rk nss (nss.getD i [])) (tuples' true) (fun h2 h' kp Q' q=>?_) (fun h2 h' kp i j C hi hj q=>?_) h
 ·have hp':Paired (nW h') vs nss:=Paired.mapP hp fun _ _ r=>r.keep kp
  obtain⟨fs,t,hlen,hf⟩:=qB hp' hn
  refine W.kat_kind (s:={ s with heap:=h' }) (T:=.type "int") t (by omega) (fun v hv=>?_) (by decide) q
  obtain⟨n,t,rfl⟩:=hf v hv
  exact W.Looks.of_pure rfl
 ·have ri:=(gO (d:=Value.none) (d':=[]) hp hi).keep kp
  have rj:=(gO (d:=Value.none) (d':=[]) hp hj).keep kp
  have hlen:=hp.length
  obtain⟨a,o,its,n,ea,e1,e2,e3,e4⟩:=ri.ex
  obtain⟨b,o',its',n',eb,f1,f2,f3,f4⟩:=rj.ex
  unfold W.kas_ask
  rw[ea,eb]
  have hmem:nss.getD i []∈nss:=by
   rw[zG,zK (by omega)]
   exact List.getElem_mem _
  have q':C (lexLt (nss.getD i []) (nss.getD j [])) { s with heap:=h' }:=by
   rw[BN hmem]
   exact q
  refine W.kat_lt (s:={ s with heap:=h' }) e1 e3 f1 f3 ?_
  have:=qd (prog:=prog) (w:=w) (A:=A.in1.in1) (s:={ s with heap:=h' }) 0 e4 f4 q'
  have l1:its.size=(nss.getD i []).length:=by have:=IntsAre.length e4;simpa using this
  have l2:its'.size=(nss.getD j []).length:=by have:=IntsAre.length f4;simpa using this
  rw[l1,l2]
  exact this
end
def pO{α:Type}(z:Nat->Int)(l:List α)(d:α):List α:=if l.length < 2 then l else (SP.run (SP.eO z) (W.kas_sort l.length)).toList.map fun i=>l.getD i d
theorem kR{α:Type}(l:List α)(d:α):(List.range l.length).map (fun i=>l.getD i d)=l:=by
 apply List.ext_getElem
 ·simp
 ·intro i h1 h2
  simp[h2]
theorem gE{α:Type}(z:Nat->Int)(l:List α)(d:α):(pO z l d).Perm l:=by
 unfold pO
 split
 ·exact List.Perm.refl _
 ·rename_i h
  have:=((SP.ix (z:=z) (n:=l.length) (by omega)).1).map fun i=>l.getD i d
  rw[kR] at this
  exact this
theorem IV(nss:List (List Int)):pO (fun i=>rk nss (nss.getD i [])) nss []=rT nss:=by
 refine Fh (gE _ _ _) ?_
 unfold pO
 split
 ·rename_i h
  match nss,h with
  | [],_=>exact List.Pairwise.nil
  | [a],_=>exact List.pairwise_singleton _ _
 ·rename_i h
  obtain⟨hp,hs⟩:=SP.ix (z:=fun i=>rk nss (nss.getD i [])) (n:=nss.length) (by omega)
  rw[List.pairwise_map] at hs ⊢
  refine hs.imp_of_mem fun {i j} hi hj hij=>?_
  have hj':j < nss.length:=by have:=hp.mem_iff.mp hj;simpa using this
  unfold lexLe
  rw[BN (l:=nss) (a:=nss.getD j []) (by rw[zG,zK hj'];exact List.getElem_mem _)]
  simp only[Bool.not_eq_true',decide_eq_false_iff_not]
  omega
section
variable {X:Cx}
theorem qQ{K:W.Frag}{HF:Hp}{ds:List D}{vs:List V}(z:Nat->Int)(r:aq K HF ds vs):aq K HF (pO z ds .none) (pO z vs .non):=by
 unfold pO
 rw[r.length]
 split
 ·exact r
 ·rename_i h
  obtain⟨hp,_⟩:=SP.ix (z:=z) (n:=ds.length) (by omega)
  have key:∀l:List Nat,(∀i∈l,i < ds.length)->aq K HF (l.map fun i=>ds.getD i .none) (l.map fun i=>vs.getD i .non):=fun l=>by
   induction l with
   | nil=>exact fun _=>aq.nil
   | cons i l ih =>
    intro hl
    have hi:=hl i zE
    obtain⟨v,e1,e2⟩:=r.getD (zK hi)
    refine aq.cons ?_ (ih fun j hj=>hl j (zC _ hj))
    dsimp only
    rw[zG,zG,e1,zK hi]
    exact e2
  exact key _ fun i hi=>by have:=hp.mem_iff.mp hi;simpa using this
theorem qS{vs:List V}{us:List Value}(z:Nat->Int)(r:aB vs us):aB (pO z vs .non) (Srt.outV z us):=by
 unfold pO Srt.outV
 rw[r.length]
 split
 ·exact r
 ·rename_i h
  obtain⟨hp,_⟩:=SP.ix (z:=z) (n:=us.length) (by omega)
  have key:∀l:List Nat,(∀i∈l,i < vs.length)->aB (l.map fun i=>vs.getD i .non) (l.map fun i=>us.getD i Value.none):=fun l=>by
   induction l with
   | nil=>exact fun _=>.nil
   | cons i l ih =>
    intro hl
    have hi:=hl i zE
    obtain⟨v,e1,e2⟩:=r.get (zK hi)
    refine .cons ?_ (ih fun j hj=>hl j (zC _ hj))
    dsimp only
    rw[zG,zG,e1,zK hi]
    exact e2
  exact key _ fun i hi=>by have:=hp.mem_iff.mp hi;rw[r.length];simpa using this
theorem JU(z:Nat->Int)(nss:List (List Int)):pO z (nss.map af) .none=(pO z nss []).map af:=by
 unfold pO
 rw[zD]
 split
 ·rfl
 ·rename_i h
  rw[zM]
  obtain⟨hp,_⟩:=SP.ix (z:=z) (n:=nss.length) (by omega)
  refine yJ fun i hi=>?_
  have hi':i < nss.length:=by have:=hp.mem_iff.mp hi;simpa using this
  simp[hi']
theorem lF{pins:List (Addr×Obj)}{σ:L2.St}{H HF:Hp}{s:Shared}(I:Inv X pins σ H s)(sm:aQ HF H):∀ {nss:List (List Int)}{vs:List V}{us:List Value},aq X.K HF (nss.map af) vs->aB vs us->Paired (nW s.heap) us nss
 | [],_,_,h,r=>by rw[h.nil_inv] at r;cases r;exact .nil
 | ns::nss,_,_,h,r=>by
  obtain⟨v,vr,rfl,a,b⟩:=h.cons_inv
  cases r with
  | cons r rr =>
   refine .cons ?_ (lF I sm b rr)
   unfold af at a
   simp only[Rep] at a
   obtain⟨p,ws,rfl,hs,rw'⟩:=a
   cases r
   obtain⟨its,rv,⟨o,ho,hc,n,hd⟩,_⟩:=I.tuple (ay sm hs)
   have:ws=ns.map V.int:=by
    have key:∀ {ns:List Int}{ws:List V},aq X.K HF (ns.map PyData.int) ws->ws=ns.map V.int:=fun {ns}=>by
     induction ns with
     | nil=>exact fun h=>h.nil_inv
     | cons n ns ih =>
      intro ws h
      obtain⟨v,r,rfl,a,b⟩:=h.cons_inv
      simp only[Rep] at a
      rw[a,ih b]
      rfl
    exact key rw'
   subst this
   exact⟨p,o,its.toArray,n,rfl,ho,hc,hd,intsAre_of rv⟩
theorem oD:eL X (.builtin "sorted") (fun xs H Q=>∃ (HF:Hp) (a:Addr) (vs:List V) (nss:List (List Int)),xs=[.ref a]/\aQ HF H/\(iU X.K HF a vs\/ji X.K HF a vs)/\aq X.K HF (nss.map af) vs/\(∀ns∈nss,ns≠[])/\nss.length < 64 /\
  ∀ (Dn:Addr) (us:List V),H Dn=none->aq X.K HF ((rT nss).map af) us->Q (.ref Dn) (upd H Dn (.lst us))):=by
 intro pins s σ H xs us Q I r h
 obtain⟨HF,a,vs,nss,rfl,sm,hq,rr,hn,h64,q⟩:=h
 obtain⟨u,rfl,rx⟩:=vals1 r
 cases rx
 obtain⟨its,rv,pl,hz⟩:∃its:List Value,aB vs its/\Srt.Coll s.heap a its/\vs.length<=sizeLine:=by
  rcases hq with hq|hq
  ·obtain⟨its,rv,pl,hz⟩:=I.list (sm.seq hq)
   obtain⟨o,ho,hc,n,hd⟩:=pl.isList
   exact⟨its,rv,⟨o,"list",n,.inl rfl,ho,hc,hd⟩,hz⟩
  ·obtain⟨its,rv,pl,hz⟩:=I.tuple (ay sm hq)
   obtain⟨o,ho,hc,n,hd⟩:=(show s.heap.IsTuple a its.toArray from pl)
   exact⟨its,rv,⟨o,"tuple",n,.inr rfl,ho,hc,hd⟩,hz⟩
 have hl1:=rr.length
 rw[zD] at hl1
 refine xl pl (lF I sm rr rv) hn (by have:=rv.length;omega) fun h' Dn c kp hD e=>?_
 have hv:=qS (fun i=>rk nss (nss.getD i [])) rv
 have hr:=qQ (fun i=>rk nss (nss.getD i [])) rr
 rw[JU,IV] at hr
 refine⟨.ref Dn,_,I.laid (t':=s.toks) (o:=.lst (pO (fun i=>rk nss (nss.getD i [])) vs .non)) kp hD ⟨?_,_,c,hv,e⟩,rfl,q Dn _ (I.hok.fresh hD) hr⟩
 rw[(gE _ _ _).length_eq]
 exact hz
def hZ:List D->Option (List D):=fun ds=>(oneOf ds).bind fun d=>match d with
 | .list es=>(rowsOf es).bind fun nss=>if nss.length < 64 then some ((rT nss).map af) else none
 | .tuple es=>(rowsOf es).bind fun nss=>if nss.length < 64 then some ((rT nss).map af) else none
 | _=>none
variable {e:Expr}{fs:Env->Option (List D)}{p pos:Pos}
theorem Da(B:oK X "sorted" (.builtin "sorted"))(ha:DA X [e] fs)(he:starEach [e] X.env=(false,eval e X.env)::starEach [] X.env:=by rfl):DF X (.Call (.Name "sorted" p) [e] [] pos) (sr hZ fs) :=
 ER oD (by
  intro HF H ds vs d Q sm r hg q
  obtain⟨x,hx,hg⟩:=bs hg
  rw[gH hx] at r
  have key:∀ (b:Bool) (es:List D),aq X.K HF [if b then .tuple es else .list es] vs->((rowsOf es).bind fun nss=>if nss.length < 64 then some ((rT nss).map af) else none)=some d->(∃ (HF:Hp) (a:Addr) (us:List V) (nss:List (List Int)),vs=[.ref a]/\aQ HF H/\(iU X.K HF a us\/ji X.K HF a us)/\aq X.K HF (nss.map af) us/\(∀ns∈nss,ns≠[])/\nss.length < 64/\∀ (Dn:Addr) (ws:List V),H Dn=none->aq X.K HF ((rT nss).map af) ws->Q (.ref Dn) (upd H Dn (.lst ws))):=fun b es r hg=>by
   obtain⟨nss,hb,hg⟩:=bs hg
   split at hg
   ·rename_i h64
    cases hg
    obtain⟨v,r',rfl,a,e0⟩:=r.cons_inv
    rw[e0.nil_inv]
    obtain⟨e1,e2⟩:=k3 hb
    obtain⟨p,us,rfl,h,rr⟩:∃p us,v=.ref p/\(iU X.K HF p us\/ji X.K HF p us)/\aq X.K HF es us:=by
     cases b
     ·simp only[Bool.false_eq_true,if_false,Rep] at a
      obtain⟨p,us,rfl,h,rr⟩:=a
      exact⟨p,us,rfl,.inl h,rr⟩
     ·simp only[if_true,Rep] at a
      obtain⟨p,us,rfl,h,rr⟩:=a
      exact⟨p,us,rfl,.inr h,rr⟩
    rw[e1] at rr
    exact⟨HF,p,us,nss,rfl,sm,h,rr,e2,h64,fun Dn ws hD hr=>q Dn ws _ HF (.own sm hD) hD (sm.free hD) aJ hr⟩
   ·cases hg
  cases x<;>try cases hg
  ·exact key false _ r hg
  ·exact key true _ r hg) B ha (by decide) (by decide) he rfl
end
end Dl
namespace En
open PySem PyProof.Rows
open AutoSeq1 (wpAny_loadPart')
section
variable {prog:Program}{w:World}{A:Around}{E:Value->Shared->Prop}{s:Shared}
theorem nextT_item{j t:Addr}{k:Nat}{its:Array Value}{v:Value}{Q:Value->Shared->Prop}(hj:s.heap.IsTupleIter j t k)(ht:s.heap.IsTuple t its)(hv:its[k]?=some v)
  (hQ:∀g,g.IsTupleIter j t (k+1)->Heap.SameBut j s.heap g->Q v { s with heap:=g }):wpAny (model prog w) A (Builtin.SmallTypes.nextOf (.ref j)) Q E s:=by
 obtain⟨oj,gj,cj,dj⟩:=id hj
 obtain⟨ot,gt,_,nt,dt⟩:=ht
 unfold Builtin.SmallTypes.nextOf
 refine zW (wpAny_callSpecial?_slot (name:=Str.ofString "__next__") hj.typeIs F.slot_tuple_iterator_next (wpAny_call_entry F.slot_tuple_iterator_next hj.typeIs F.entry_tuple_iterator_next ?_ (F.args_tuple_iterator_next_1 _)))
 refine zW (m:=field (.ref j) 0) (wpAny_field gj dj (x:=.ref t) rfl ?_)
 show wpAny _ _ (if (Value.ref t == Value.none)=true then _ else _) _ _ s
 rw[if_neg (show ¬ ((Value.ref t == Value.none)=true) by exact Bool.false_ne_true)]
 refine zW (m:=field (.ref j) 1) (wpAny_field gj dj (x:=.int k 0) rfl ?_)
 refine zW (m:=seqItems? (.ref t)) (wpAny_seqItems gt dt ?_)
 simp only[yH,hv]
 refine zW (wpAny_setField gj dj (by simp) (zX ⟨v,rfl,zX (hQ _ ⟨_,Heap.get?_update_self _ gj (Obj.isFreed_of_fields (Obj.data_mapFields dj _)),(Obj.cls_mapFields ..).trans cj,?_⟩ (Heap.SameBut.update ..))⟩))
 rw[Obj.data_mapFields dj];simp[rawInt]
theorem nextT_end{j t:Addr}{k:Nat}{its:Array Value}{Q:Value->Shared->Prop}(hh:A.handled=none)(hj:s.heap.IsTupleIter j t k)(ht:s.heap.IsTuple t its)(hv:its[k]?=none)
  (hE:∀g x,Heap.ExtBut j s.heap g->(∃o,g.get? x=some o/\o.cls=.type "StopIteration")->E (.ref x) { s with heap:=g }):wpAny (model prog w) A (Builtin.SmallTypes.nextOf (.ref j)) Q E s:=by
 obtain⟨oj,gj,cj,dj⟩:=id hj
 obtain⟨ot,gt,_,nt,dt⟩:=ht
 unfold Builtin.SmallTypes.nextOf
 refine zW (wpAny_callSpecial?_slot (name:=Str.ofString "__next__") hj.typeIs F.slot_tuple_iterator_next (wpAny_call_entry F.slot_tuple_iterator_next hj.typeIs F.entry_tuple_iterator_next ?_ (F.args_tuple_iterator_next_1 _)))
 refine zW (m:=field (.ref j) 0) (wpAny_field gj dj (x:=.ref t) rfl ?_)
 show wpAny _ _ (if (Value.ref t == Value.none)=true then _ else _) _ _ s
 rw[if_neg (show ¬ ((Value.ref t == Value.none)=true) by exact Bool.false_ne_true)]
 refine zW (m:=field (.ref j) 1) (wpAny_field gj dj (x:=.int k 0) rfl ?_)
 refine zW (m:=seqItems? (.ref t)) (wpAny_seqItems gt dt ?_)
 simp only[yH,hv]
 refine zW (wpAny_rule (zW (wpAny_setField gj dj (by simp) (zW (m:=newExc (.type "StopIteration") []) ?_))))
 simp only[newExc,newTuple]
 refine zW (wpAny_newObj_type (zW (m:=firstArgMember _ _) (wpAny_of_eq (a:=Value.none) (by first|rfl|(simp only[firstArgMember];rfl)) ?_)) (by size_fits))
 refine wpAny_newObj_type ?_ (by size_fits);simp only[raiseNew]
 refine zW (wpAny_handled ?_)
 first|rw[show A.in1.handled=none from hh]|rw[hh]
 exact zW (zX (wpAny_throw (hE _ _ (((Heap.SameBut.update ..).extBut.push _).push _) ⟨_,zY _ rfl,rfl⟩)))
theorem meets_enumT(t:Addr)(its:Array Value)(n:Nat)(dd:Option Addr)(sl:Array (Option Value)) :
  Meets (Builtin.«enumerate.__new__» ⟨[.type "enumerate",.ref t],[]⟩) (fun _ R s=>s.heap.get? t=some { cls:=.type "tuple",dict:=dd,data:=.seq its n,slots:=sl } /\
   R (.ok (.ret (.ref (s.heap.push { cls:=.type "tuple_iterator",data:=.fields #[.ref t,.int 0 0] }).objs.size)))
    { s with heap:=(s.heap.push { cls:=.type "tuple_iterator",data:=.fields #[.ref t,.int 0 0] }).push { cls:=.type "enumerate",data:=.fields #[.none,.bool false,.ref s.heap.objs.size,rawInt 0,.none,.none] } }) :=
 .of_wp fun prog w A R s h=>by
  obtain⟨hp,g,d,tk,os⟩:=s
  obtain⟨hl,h⟩:=h
  have hsub:=sub_enumerate
  have hL:Heap.IsTuple (Shared.heap ⟨hp,g,d,tk,os⟩) t its:=⟨_,hl,rfl,n,rfl⟩
  wp_walk using wpAny_loadPart' hl
  refine wpAny_stack_any fun st=>zX ?_
  split
  ·rename_i c _ _ _ _ _
   cases (c == Value.type "enumerate")
   ·wp_walk using wpAny_loadPart' hl,wpAny_pyIter_tuple hL
    exact⟨_,rfl,h⟩
   ·wp_walk using wpAny_loadPart' hl,wpAny_pyIter_tuple hL
    exact⟨_,rfl,h⟩
  ·wp_walk using wpAny_loadPart' hl,wpAny_pyIter_tuple hL
   exact⟨_,rfl,h⟩
theorem call_enumT{t:Addr}{its:Array Value}{Q:Value->Shared->Prop}(ht:s.heap.IsTuple t its)
  (h:∀h',IsEnum h' (s.heap.objs.size+1) s.heap.objs.size 0 .none->h'.IsTupleIter s.heap.objs.size t 0->h'.objs.size=s.heap.objs.size+2->(∀b o,s.heap.get? b=some o->h'.get? b=some o)->Q (.ref (s.heap.objs.size+1)) { s with heap:=h' }) :
  wpAny (model prog w) A (call (.type "enumerate") [.ref t]) Q E s:=by
 obtain⟨⟨c,dct,dt,sl⟩,hl,hc,n,hd⟩:=ht
 simp only at hc hd
 subst hc hd
 refine callType_new F.called_enumerate (by decide) (F.typeCall_enumerate_1 _) (F.newCall_enumerate_1 _) (fun obj=>F.args_object_init_2 obj _) F.entry_enumerate_new (meets_enumT t its n dct sl) ⟨hl,?_⟩
 have hz:(s.heap.push { cls:=.type "tuple_iterator",data:=.fields #[.ref t,.int 0 0] }).objs.size=s.heap.objs.size+1:=by rw[Heap.size_push]
 have he:=zY (s.heap.push { cls:=.type "tuple_iterator",data:=.fields #[.ref t,.int 0 0] }) (o:={ cls:=.type "enumerate",data:=.fields #[.none,.bool false,.ref s.heap.objs.size,rawInt 0,.none,.none] }) rfl
 show _/\_
 rw[hz] at he ⊢
 refine⟨⟨_,he,rfl⟩,h _ he ⟨_,zV _ (zY _ rfl),rfl,rfl⟩ ?_ fun b o x=>zV _ (zV _ x)⟩
 show (Heap.push _ _).objs.size=_
 rw[Heap.size_push,hz]
end
end En
namespace Dl
open PySem L2 PySem.Spec PyProof.Rows
section
variable {X:Cx}{pins:List (Addr×Obj)}{σ:L2.St}{H:Hp}{s:Shared}{h':Heap}{t':Nat}{ch:List Addr}
theorem xF(I:Inv X pins σ H s)(hch:∀b∈ch,bJ X pins H b)(k:∀b o,b∉ch->s.heap.get? b=some o->h'.get? b=some o){T:Addr}{vals:List Value}{xs:List V}(hT:s.heap.objs.size<=T)(ht:nU h' T vals.toArray)
  (rv:aB xs vals) (hz:xs.length<=sizeLine):Inv X pins σ (upd H T (.tup xs)) { s with heap:=h',toks:=t' }:=by
 have nT:H T=none:=I.hok.fresh hT
 have ne:∀b o,s.heap.get? b=some o->b≠T:=fun b o e=>Nat.ne_of_lt (zP (zZ e) hT)
 have ne2:∀b o,H b=some o->b≠T:=fun b o e=>aL e nT
 have nch:∀b o,H b=some o->b∉ch:=fun b o e z=>by rw[(hch b z).1] at e;cases e
 refine I.step (g':=s.gens) (d':=s.drawn) (ch:=ch) (fun b hb=>?_) (fun b o _ _ hc e _=>k b o hc e) (fun b o _ _ hc e _=>⟨o.slots,k b o hc e⟩) (fun b o _ e n=>by rw[aA (ne b o e)];exact n)
  (fun b o hc e=>⟨o,k b o hc e⟩) (fun b ys e=>by rw[aA (ne2 b _ e)];exact e) (fun b o u e=>by rw[aA (ne2 b _ e)];exact e) (.kept (fun b u ⟨q,z⟩ e=>k b u (nch b _ z) e) fun b u e _=>by rw[aA (ne2 b _ e)];exact e) (fun m hm=>?_) (fun b u e=>?_) I.bare
 ·obtain⟨f0,f1,f2,f3,f4,f5⟩:=hch b hb
  exact⟨f3,f1,f4,f5⟩
 ·obtain⟨o,es,ep,ho,r⟩:=hm
  exact⟨o,es,ep,k _ o (fun z=>(hch _ z).2.1 rfl) ho,r⟩
 ·by_cases hb:b=T
  ·subst hb
   rw[aJ] at e
   cases e
   exact⟨hz,vals,rv,ht⟩
  ·rw[aA hb] at e
   refine (I.hok b u e).stay (fun c v hc q=>k c v ?_ q) (fun _ q=>?_) fun c v q _=>?_
   ·rcases hc with z|z
    ·rw[z];exact nch b u e
    ·exact nch c _ z
   all_goals first
    | (rw[aA (ne2 _ _ q)];exact q)
    | exact q
theorem Oi(I:Inv X pins σ H s){a b:Addr}{o:Obj}(hf:bJ X pins H b)(h:X.K.lookup a=some o):a≠b:=by
 rintro rfl
 have hb:=I.ok.mod.kin a o h
 rcases hf.2.2.2.1 with z|z
 ·exact I.ok.noex a o hb z
 ·exact absurd (zP (zZ (I.ok.bs a o hb).1) z) (Nat.lt_irrefl _)
theorem Lh(I:Inv X pins σ H s){a b:Addr}{xs:List V}(hf:bJ X pins H b)(h:iU X.K H a xs):a≠b:=by
 rcases h with (h|⟨o,h⟩)|⟨o,its,n,h,_⟩
 ·exact aL h hf.1
 ·exact aL h hf.1
 ·exact Oi I hf h
theorem L7(I:Inv X pins σ H s){a b:Addr}{xs:List V}(hf:bJ X pins H b)(h:ji X.K H a xs):a≠b:=by
 rcases h with (h|⟨o,h⟩)|⟨o,its,n,h,_⟩
 ·exact aL h hf.1
 ·exact aL h hf.1
 ·exact Oi I hf h
end
def Pe(sq:Hp->List V->Prop):It:=⟨fun i H=>∃xs x,sq H xs/\xs[i]?=some x,fun i H v H'=>∃T y,v=.ref T/\H T=none/\H'=upd H T (.tup [.int (i:Nat),y])/\∀xs,sq H xs->xs[i]?=some y,fun i H=>∃xs,sq H xs/\xs.length<=i⟩
def bj(k:Nat):List D->List D
 | []=>[]
 | d::ds=>.tuple [.int (k:Nat),d]::bj (k+1) ds
theorem uh:∀ {ds:List D}{k i:Nat}{d:D},(bj k ds)[i]?=some d->∃x,ds[i]?=some x/\d=.tuple [.int ((k+i:Nat):Int),x]
 | [],k,i,d,h=>by simp[bj] at h
 | x::ds,k,0,d,h=>by simp[bj] at h;exact⟨x,rfl,h.symm⟩
 | x::ds,k,i+1,d,h=>by
  simp only[bj,List.getElem?_cons_succ] at h
  obtain⟨y,h1,h2⟩:=uh h
  refine⟨y,by simpa using h1,?_⟩
  rw[h2,show k+1+i=k+(i+1) by omega]
theorem lb:∀ (ds:List D) (k:Nat),(bj k ds).length=ds.length
 | [],k=>rfl
 | x::ds,k=>by simp[bj,lb ds (k+1)]
theorem C5{K:W.Frag}{HF:Hp}{sq:Hp->List V->Prop}{ds:List D}{vs:List V}(h:sq HF vs)(mo:∀H H',aQ H H'->sq H vs->sq H' vs)(r:aq K HF ds vs):ua K (Pe sq) HF (bj 0 ds) where
 go:=fun i d H₁ HF₁ e s1 s2=>by
  obtain⟨x,hx,rfl⟩:=uh e
  rw[Nat.zero_add]
  obtain⟨v,hv,rv⟩:=r.getD hx
  have q:=mo _ _ s2 (mo _ _ s1 h)
  refine⟨⟨vs,v,q,hv⟩,fun y H₂ ⟨T,z,e1,hT,e2,hy⟩=>?_⟩
  have:=hy vs q
  rw[hv] at this
  cases this
  subst e1 e2
  exact⟨_,.new s2 hT,cY (s2.free hT) (aq.cons (by simp[Rep]) (aq.cons (rv.mono s1) aq.nil))⟩
 stop:=fun H₁ HF₁ s1 s2=>⟨vs,mo _ _ s2 (mo _ _ s1 h),by rw[lb,r.length];exact Nat.le_refl _⟩
def O6(sq1 sq2:Hp->List V->Prop):It:=⟨fun i H=>∃xs ys x y,sq1 H xs/\sq2 H ys/\xs[i]?=some x/\ys[i]?=some y,
 fun i H v H'=>∃T x y,v=.ref T/\H T=none/\H'=upd H T (.tup [x,y])/\(∀xs,sq1 H xs->xs[i]?=some x)/\∀ys,sq2 H ys->ys[i]?=some y,
 fun i H=>∃xs ys,sq1 H xs/\sq2 H ys/\(xs.length<=i\/ys.length<=i)⟩
section
variable {X:Cx}{pins:List (Addr×Obj)}{σ:L2.St}{H:Hp}{s:Shared}{h':Heap}{t':Nat}{ch:List Addr}
theorem Df(I:Inv X pins σ H s)(hch:∀b∈ch,bJ X pins H b)(k:∀b o,b∉ch->s.heap.get? b=some o->h'.get? b=some o):Inv X pins σ H { s with heap:=h',toks:=t' }:=by
 have nch:∀b o,H b=some o->b∉ch:=fun b o e z=>by rw[(hch b z).1] at e;cases e
 refine I.step (g':=s.gens) (d':=s.drawn) (ch:=ch) (fun b hb=>?_) (fun b o _ _ hc e _=>k b o hc e) (fun b o _ _ hc e _=>⟨o.slots,k b o hc e⟩) (fun b o _ e n=>n)
  (fun b o hc e=>⟨o,k b o hc e⟩) (fun b ys e=>e) (fun b o u e=>e) (.kept (fun b u ⟨q,z⟩ e=>k b u (nch b _ z) e) fun b u e _=>e) (fun m hm=>?_) (fun b u e=>?_) I.bare
 ·obtain⟨f0,f1,f2,f3,f4,f5⟩:=hch b hb
  exact⟨f3,f1,f4,f5⟩
 ·obtain⟨o,es,ep,ho,r⟩:=hm
  exact⟨o,es,ep,k _ o (fun z=>(hch _ z).2.1 rfl) ho,r⟩
 ·refine (I.hok b u e).stay (fun c v hc q=>k c v ?_ q) (fun _ q=>q) fun c v q _=>q
  rcases hc with z|z
  ·rw[z];exact nch b u e
  ·exact nch c _ z
end
structure Qy(z TI TO i1 i2:Addr):Prop where
 a1:TI≠z
 a2:TO≠z
 a3:i1≠z
 a4:i2≠z
 a5:TI≠TO
 a6:TI≠i1
 a7:TI≠i2
 a8:TO≠i1
 a9:TO≠i2
 a0:i1≠i2
section
variable {X:Cx}{l l':Expr}{fs:Env->Option (List D)}{elts:List Expr}{k:Nat}{pos p tp:Pos}
def kb:List D->List D->List D
 | x::xs,y::ys=>.tuple [x,y]::kb xs ys
 | _,_=>[]
theorem p8:∀ {xs ys:List D}{i:Nat}{d:D},(kb xs ys)[i]?=some d->∃x y,xs[i]?=some x/\ys[i]?=some y/\d=.tuple [x,y]
 | [],_,i,d,h=>by simp[kb] at h
 | _::_,[],i,d,h=>by simp[kb] at h
 | x::xs,y::ys,0,d,h=>by simp[kb] at h;exact⟨x,y,rfl,rfl,h.symm⟩
 | x::xs,y::ys,i+1,d,h=>by
  simp only[kb,List.getElem?_cons_succ] at h
  obtain⟨a,b,h1,h2,h3⟩:=p8 h
  exact⟨a,b,by simpa using h1,by simpa using h2,h3⟩
theorem nv:∀ (xs ys:List D),(kb xs ys).length=min xs.length ys.length
 | [],_=>by simp[kb]
 | _::_,[]=>by simp[kb]
 | x::xs,y::ys=>by simp[kb,nv xs ys]
theorem Gj{K:W.Frag}{HF:Hp}{sq1 sq2:Hp->List V->Prop}{xs ys:List D}{vs us:List V}(h1:sq1 HF vs)(mo1:∀H H',aQ H H'->sq1 H vs->sq1 H' vs)(h2:sq2 HF us)(mo2:∀H H',aQ H H'->sq2 H us->sq2 H' us)(r1:aq K HF xs vs)(r2:aq K HF ys us) :
  ua K (O6 sq1 sq2) HF (kb xs ys) where
 go:=fun i d H₁ HF₁ e s1 s2=>by
  obtain⟨x,y,hx,hy,rfl⟩:=p8 e
  obtain⟨v,hv,rv⟩:=r1.getD hx
  obtain⟨u,hu,ru⟩:=r2.getD hy
  have q1:=mo1 _ _ s2 (mo1 _ _ s1 h1)
  have q2:=mo2 _ _ s2 (mo2 _ _ s1 h2)
  refine⟨⟨vs,us,v,u,q1,q2,hv,hu⟩,fun w H₂ ⟨T,a,b,e1,hT,e2,ha,hb⟩=>?_⟩
  have ea:=ha vs q1
  have eb:=hb us q2
  rw[hv] at ea
  rw[hu] at eb
  cases ea
  cases eb
  subst e1 e2
  exact⟨_,.new s2 hT,cY (s2.free hT) (aq.cons (rv.mono s1) (aq.cons (ru.mono s1) aq.nil))⟩
 stop:=fun H₁ HF₁ s1 s2=>⟨vs,us,mo1 _ _ s2 (mo1 _ _ s1 h1),mo2 _ _ s2 (mo2 _ _ s1 h2),by rw[nv,r1.length,r2.length];omega⟩
end
def cut{α:Type}(xs:List α)(lo hi:Option Int):List α:=(xs.drop (HT.dQ xs.length 0 lo)).take (HT.dQ xs.length xs.length hi - HT.dQ xs.length 0 lo)
theorem IK{α:Type}(xs:List α)(lo hi:Option Int):(cut xs lo hi).length<=xs.length:=by
 unfold cut;rw[List.length_take,List.length_drop];omega
theorem qy{K:W.Frag}{H:Hp}{ds:List D}{vs:List V}(r:aq K H ds vs)(lo hi:Option Int):aq K H (cut ds lo hi) (cut vs lo hi):=by
 unfold cut;rw[r.length];exact (r.drop _).take _
section
variable {X:Cx}
theorem Dr{prog:Program}{w:World}{A:Around}{E:Value->Shared->Prop}{s:Shared}{t sl:Addr}{its:Array Value}{vl vu:Value}{lo hi:Option Int}{Q:Value->Shared->Prop}(ht:IsTup s.heap t its)(hs:s.heap.IsSliceOf sl vl vu .none)(pl:IsPart vl lo)(pu:IsPart vu hi)
  (hw:HT.dQ its.size 0 lo=0/\HT.dQ its.size its.size hi=its.size) (h:Q (.ref t) s):wpAny (model prog w) A (getItem (.ref t) (.ref sl)) Q E s:=by
 obtain⟨os,hos,hcs,hds⟩:=id hs
 have hTs:s.TypeIs (.ref sl) "slice":=⟨os,hos,hcs⟩
 unfold getItem
 try with_reducible refine wpAny_holding ?_
 first|refine zW (zX ?_)|skip
 refine zW (wpAny_sequenceKey ht.typeIs (by decide) (zW (wpAny_callSpecial?_slot (name:=Str.ofString "__getitem__") ht.typeIs PyProof.Rows.slot_tuple_getitem (wpAny_call_entry PyProof.Rows.slot_tuple_getitem ht.typeIs entry_tuple_getitem ?_ (args_tuple_getitem _ _)))))
 refine zW (m:=Builtin.Tuple.tupleItemsOf (.ref t)) (tupleItemsOf_ ht (zW (wpAny_typeOf hTs ?_)))
 rw[if_pos (by decide)]
 refine zW (HT.jg hs pl pu ?_)
 show wpAny _ _ (if (((HT.dQ its.size 0 lo:Nat):Int) == 0&&(1:Int) == 1&&(HT.dQ its.size its.size hi - HT.dQ its.size 0 lo) == its.size)=true then _ else _) _ _ s
 rw[hw.1,hw.2,if_pos (by simp)]
 unfold Builtin.Tuple.tupleIsExact
 refine zW (zW (wpAny_typeOf ht.typeIs (zX ?_)))
 rw[if_pos (by decide)]
 first
  | exact zW (wpAny_rule (zX ⟨_,rfl,zX h⟩))
  | exact zW (wpAny_rule (zW (zX (zX ⟨_,rfl,zX h⟩))))
def Pp(K:W.Frag):V->Option Int->Option Int->Hp->VK->Prop:=fun x lo hi H Q=>∃a xs,x=.ref a/\ji K H a xs/\(cut xs lo hi=xs->Q (.ref a) H)/\∀p,H p=none->Q (.ref p) (upd H p (.tup (cut xs lo hi)))
theorem LV:KO X (Pp X.K):=by
 intro pins s σ H x v vl vu lo hi sl Q I rx hs pl pu h
 obtain⟨a,xs,rfl,hx,q1,q2⟩:=h
 by_cases hw:HT.dQ xs.length 0 lo=0/\HT.dQ xs.length xs.length hi=xs.length
 ·cases rx
  obtain⟨its,r,ht,hz⟩:=I.tuple hx
  have hlen:its.toArray.size=xs.length:=by rw[zH];exact r.length.symm
  refine⟨"tuple",_,PyProof.Rows.slot_tuple_getitem.lookup,ht.typeIs,Dr ht hs pl pu (by rw[hlen];exact hw) ⟨.ref a,H,I,rfl,q1 ?_⟩⟩
  unfold cut
  rw[hw.1,hw.2,List.drop_zero,Nat.sub_zero,List.take_length]
 ·exact LU pins s σ H (.ref a) v vl vu lo hi sl Q I rx hs pl pu ⟨a,xs,rfl,hx,hw,q2⟩
def Pf(K:W.Frag):V->Option Int->Option Int->Hp->VK->Prop:=fun x lo hi H Q=>∃a xs,x=.ref a/\iU K H a xs/\∀p,H p=none->Q (.ref p) (upd H p (.lst (cut xs lo hi)))
theorem AE(lo hi:Option Int)(n:Nat):sliceBounds lo hi none n=(((HT.dQ n 0 lo:Nat):Int),((HT.dQ n n hi:Nat):Int),1):=by
 have h1:(1:Int) > 0:=by omega
 refine Prod.ext ?_ (Prod.ext ?_ rfl)
 ·cases lo with
  | none=>simp[sliceBounds,HT.dQ]
  | some x =>
   by_cases h:x < 0
   ·simp only[sliceBounds,HT.dQ,Option.getD_none,h1,if_true,if_pos h];omega
   ·simp only[sliceBounds,HT.dQ,Option.getD_none,h1,if_true,if_neg h];omega
 ·cases hi with
  | none=>simp[sliceBounds,HT.dQ]
  | some x =>
   by_cases h:x < 0
   ·simp only[sliceBounds,HT.dQ,Option.getD_none,h1,if_true,if_pos h];omega
   ·simp only[sliceBounds,HT.dQ,Option.getD_none,h1,if_true,if_neg h];omega
theorem Kg:KO X (Pf X.K):=by
 intro pins s σ H x v vl vu lo hi sl Q I rx hs pl pu h
 obtain⟨a,xs,rfl,hx,q⟩:=h
 cases rx
 obtain⟨its,r,p,hz⟩:=I.list hx
 have hlen:=r.length
 refine⟨"list",_,slot_list_getitem.lookup,p.isList.typeIs,wpAny_getItem_list_slice p.isList hs pl pu .none (by simp) ?_ (by rw[zH];omega)⟩
 rw[W.kmk_pick_nat its.toArray (AE lo hi its.toArray.size)]
 have e:((its.toArray.toList.drop (HT.dQ its.toArray.size 0 lo)).take (HT.dQ its.toArray.size its.toArray.size hi - HT.dQ its.toArray.size 0 lo))=cut its lo hi:=by unfold cut;simp
 rw[e]
 have rc:aB (cut xs lo hi) (cut its lo hi):=by unfold cut;rw[hlen];exact (r.drop _).take _
 exact⟨.ref s.heap.objs.size,_,I.lnew (t':=s.toks) rc (yE (IK xs lo hi) hz),rfl,q _ I.fresh⟩
def Qv(K:W.Frag)(f:Env->Option (Option Int)):TO:=fun σ H Q=>∃HF ρ o,aQ HF H/\cW K HF ρ σ/\f ρ=some o/\∀H' HF',bM HF H HF' H'->Q o H'
def DO(X:Cx)(e:Option Expr)(f:Env->Option (Option Int)):Prop:=PO X e (Qv X.K f)
def og:Env->Option (Option Int):=fun _=>some none
def gI:D->Option Int|.int i=>some i|_=>none
def Ee(f:Env->Option D):Env->Option (Option Int):=fun ρ=>(f ρ).bind fun d=>(gI d).map some
theorem Jp:DO X none og:=fun pins s σ H Q I ⟨HF,ρ,o,sm,eo,hf,q⟩=>HU pins s σ H Q I (by cases hf;exact q H HF (.refl sm))
theorem Jc{e:Expr}{f:Env->Option D}(h:DE X e f):DO X (some e) (Ee f):=fun pins s σ H Q I ⟨HF,ρ,o,sm,eo,hf,q⟩=>pI h pins s σ H Q I (by
 obtain⟨d,hd,hf⟩:=bs hf
 obtain⟨i,hi,rfl⟩:=ag hf
 cases d<;>try cases hi
 exact⟨HF,ρ,_,sm,eo,hd,fun v H1 HF1 g1 r1=>⟨_,by simpa only[Rep] using r1,q H1 HF1 g1⟩⟩)
variable {a:Expr}{lo hi:Option Expr}{fa:Env->Option D}{fl fh:Env->Option (Option Int)}{pos p2:Pos}
def n0{β:Type}(g:D->Option Int->Option Int->Option β)(fa:Env->Option D)(fl fh:Env->Option (Option Int)):Env->Option β:=fun ρ=>(fa ρ).bind fun x=>(fl ρ).bind fun l=>(fh ρ).bind fun h=>g x l h
end
theorem yl{α β:Type}{f g:α->Option β}:∀ {l:List α},(∀x∈l,f x=g x)->l.filterMap f=l.filterMap g
 | [],_=>rfl
 | x::l,h=>by rw[List.filterMap_cons,List.filterMap_cons,h x zE,yl fun y hy=>h y (zC _ hy)]
theorem FV(xs:List Value):((List.range xs.length).filterMap fun (k:Nat)=>xs.toArray[(((xs.length:Nat):Int) - 1+(k:Int) * (-1)).toNat]?)=xs.reverse:=by
 have e:∀k∈List.range xs.length,xs.toArray[(((xs.length:Nat):Int) - 1+(k:Int) * (-1)).toNat]?=xs.reverse[k]?:=fun k hk=>by
  have hk':k < xs.length:=by simpa using hk
  have:(((xs.length:Nat):Int) - 1+(k:Int) * (-1)).toNat=xs.length - 1 - k:=by omega
  rw[this,List.getElem?_toArray,List.getElem?_reverse hk']
 rw[yl e]
 have:=xs.length_reverse
 apply List.ext_getElem?
 intro i
 have key:∀ (l:List Value),(List.range l.length).filterMap (fun (k:Nat)=>l[k]?)=l:=fun l=>by
  induction l with
  | nil=>rfl
  | cons x l ih =>
   rw[zL,List.range_succ_eq_map,List.filterMap_cons]
   simp only[List.getElem?_cons_zero]
   rw[List.filterMap_map]
   congr 1
 have k2:=key xs.reverse
 rw[List.length_reverse] at k2
 rw[k2]
theorem Ie{prog:Program}{w:World}{A:Around}{E:Value->Shared->Prop}{s:Shared}{t sl:Addr}{its:List Value}{tk:Tok}{Q:Value->Shared->Prop}(ht:IsTup s.heap t its.toArray)(hs:s.heap.IsSliceOf sl .none .none (.int (-1) tk))
  (hz:its.length<=sizeLine) (h:Q (.ref s.heap.objs.size) { s with heap:=s.heap.push { cls:=.type "tuple",data:=.seq its.reverse.toArray } }):wpAny (model prog w) A (getItem (.ref t) (.ref sl)) Q E s:=by
 obtain⟨os,hos,hcs,hds⟩:=id hs
 have hTs:s.TypeIs (.ref sl) "slice":=⟨os,hos,hcs⟩
 unfold getItem
 try with_reducible refine wpAny_holding ?_
 first|refine zW (zX ?_)|skip
 refine zW (wpAny_sequenceKey ht.typeIs (by decide) (zW (wpAny_callSpecial?_slot (name:=Str.ofString "__getitem__") ht.typeIs PyProof.Rows.slot_tuple_getitem (wpAny_call_entry PyProof.Rows.slot_tuple_getitem ht.typeIs entry_tuple_getitem ?_ (args_tuple_getitem _ _)))))
 refine zW (m:=Builtin.Tuple.tupleItemsOf (.ref t)) (tupleItemsOf_ ht (zW (wpAny_typeOf hTs ?_)))
 rw[if_pos (by decide)]
 have hap:∀ {R:Int×Int×Nat->Shared->Prop},R (((its.length:Nat):Int) - 1,-1,its.length) s->wpAny (model prog w) A.in1 (Builtin.Slice.sliceApplied (.ref sl) (pure ((its.toArray.size:Nat):Int))) R E s:=fun {R} hR=>by
  unfold Builtin.Slice.sliceApplied Builtin.Slice.sliceFields
  refine zW (zW (wpAny_field hos hds (x:=.none) rfl (zW (wpAny_field hos hds (x:=.none) rfl (zW (wpAny_field hos hds (x:=.int (-1) tk) rfl (zX ?_)))))))
  refine zW (slicePart_int ?_)
  show wpAny _ _ (if ((-1:Int) == 0)=true then _ else _) _ _ s
  rw[if_neg (by decide)]
  refine zW (slicePart_none (zW (slicePart_none (zW (zX ?_)))))
  have e1:Builtin.Slice.sliceAdjust none none (-1) ((its.toArray.size:Nat):Int)=(((its.length:Nat):Int) - 1,-1):=by simp[Builtin.Slice.sliceAdjust]
  show wpAny _ _ (match Builtin.Slice.sliceAdjust none none (-1) ((its.toArray.size:Nat):Int) with|(lo,hi)=>pure (lo,(-1:Int),Builtin.Slice.slicePlaces lo hi (-1))) _ _ s
  rw[e1]
  have e2:Builtin.Slice.slicePlaces (((its.length:Nat):Int) - 1) (-1) (-1)=its.length:=by
   unfold Builtin.Slice.slicePlaces
   rw[if_neg (by decide)]
   simp only[Int.neg_neg,Int.ediv_one]
   split<;>omega
  show wpAny _ _ (pure (((its.length:Nat):Int) - 1,(-1:Int),Builtin.Slice.slicePlaces (((its.length:Nat):Int) - 1) (-1) (-1))) _ _ s
  rw[e2]
  exact zX hR
 first
  | refine zW (hap ?_)
  | refine zW (wpAny_of_in1 (hap ?_))
 show wpAny _ _ (if ((((its.length:Nat):Int) - 1) == 0&&(-1:Int) == 1&&its.length == its.toArray.size)=true then _ else _) _ _ s
 rw[if_neg (by simp),FV]
 have hz':sizeOk (.seq its.reverse.toArray):=by show its.reverse.toArray.size<=sizeLine;simpa using hz
 first
  | exact zW (m:=Builtin.Tuple.tupleExact _) (wpAny_newObj_type (zX ⟨_,rfl,zX h⟩) hz')
  | exact zW (m:=Builtin.Tuple.tupleExact _) (wpAny_newObj_type (zW (zX (zX ⟨_,rfl,zX h⟩))) hz')
  | exact zW (zW (m:=Builtin.Tuple.tupleExact _) (wpAny_newObj_type (zX (zX ⟨_,rfl,zX h⟩)) hz'))
  | exact zW (zW (m:=Builtin.Tuple.tupleExact _) (wpAny_newObj_type (zX ⟨_,rfl,zX h⟩) hz'))
section
variable {X:Cx}{a:Expr}{fa:Env->Option D}{pos p2 p3 p4:Pos}{j:Nat}
theorem Md{ta:TE}(ha:PE X a ta):PE X (.Subscript a (.Slice none none (some (.UnaryOp .USub (.Constant (.int 1) j p4) p3)) p2) pos) (fun σ H Q=>ta σ H fun x H1=>∃b xs,x=.ref b/\ji X.K H1 b xs/\∀p,H1 p=none->Q (.ref p) (upd H1 p (.tup xs.reverse))):=by
 intro pins s σ H Q I h
 refine Subscript_ (bW (ha pins s σ H _ I h) fun v s1 ⟨x,H1,I1,r1,b,xs,e,hq,q⟩=>?_)
 subst e
 cases r1
 refine wpAny_Slice ?_
 rw[evalPart_none]
 refine zX (zX ?_)
 have hst:=pI (X:=X) (Kx (op:=.USub) ES (vF (X:=X) (i:=1) (j:=j) (pos:=p4)) (pos:=p3)) pins s1 σ H1 (fun o H'=>o=some (-1)/\H'=H1) I1 ⟨1,rfl,-1,rfl,rfl,rfl⟩
 refine bW hst fun vst s2 ⟨o,H2,I2,pst,e1,e2⟩=>?_
 subst e1 e2
 cases pst with
 | int _ tk =>
 obtain⟨its,r,ht,hz⟩:=I2.tuple hq
 have I4:Inv X pins σ H2 { s2 with heap:=s2.heap.push { cls:=.type "slice",data:=.fields #[.none,.none,.int (-1) tk] } }:=I2.kept (t':=s2.toks) fun b ob q=>zV _ q
 obtain⟨its',r',ht',_⟩:=I4.tuple hq
 refine tail_any (ops:=[.ref b,.ref s2.heap.objs.size]) ht'.typeIs PyProof.Rows.slot_tuple_getitem.lookup (Ie ht' (Heap.IsSliceOf.new ..) (by rw[<- r'.length];exact hz) ?_) (by with_unfolding_all rfl)
 have hv:aB xs.reverse its'.reverse:=L2.aB.reverse r'
 exact⟨.ref _,_,I4.laid (t':=s2.toks) (o:=.tup xs.reverse) (fun b ob q=>zV _ q) (Nat.le_refl _) ⟨by rw[List.length_reverse];exact hz,_,hv,nU.new _ _⟩,rfl,q _ I4.fresh⟩
def Jw:D->Option D|.tuple ds=>some (.tuple ds.reverse)|_=>none
def f1(g:D->Option D)(f:Env->Option D):Env->Option D:=fun ρ=>(f ρ).bind g
theorem Lo(ha:DE X a fa):DE X (.Subscript a (.Slice none none (some (.UnaryOp .USub (.Constant (.int 1) j p4) p3)) p2) pos) (f1 Jw fa):=aY (Md ha) fun σ H Q ⟨HF,ρ,d,sm,eo,hf,q⟩=>by
 obtain⟨x,hx,hf⟩:=bs hf
 refine⟨HF,ρ,x,sm,eo,hx,fun v1 H1 HF1 g1 r1=>?_⟩
 cases x<;>try cases hf
 simp only[Rep] at r1
 obtain⟨b,vs,rfl,hs,rr⟩:=r1
 exact⟨b,vs,rfl,ay g1.fh hs,fun p hp=>q _ _ _ (g1.trans (.new g1.fh hp)) (cY (g1.fh.free hp) rr.reverse)⟩
end
end Dl
namespace HT
open PySem PyProof.Rows
section
open PySem.SeqAt
open PySem.AutoSeq1 (wpAny_loadPart')
open PySem.MeetsSeq PySem.MeetsSeq2 PySem.MeetsSeq3
theorem Gf(A:Around)(s:Shared)(a:Int)(t:Tok)(c:Int)(u:Tok)(prog:Program)(w:World)(E:Value->Shared->Prop)(Q:Value->Shared->Prop)(h:Q (.bool (decide (c<=a))) s) :
  wpAny (model prog w) A (richCompare .GtE (.int a t) (.int c u)) Q E s :=
 (PyProof.Rows.ge_int h:wpAny (model prog w) A (compareOp .GtE (.int a t) (.int c u)) Q E s)
theorem sZ(l b:Addr)(items items2:Array Value)(n n2:Nat)(dd dd2:Option Addr)(sl sl2:Array (Option Value))(ns ms:List Int)(hi:IntsAre items.toList ns)(hj:IntsAre items2.toList ms) :
  Meets (Builtin.«tuple.__ge__» ⟨[.ref l,.ref b],[]⟩)
   (fun _ R s=>s.heap.get? l=some { cls:=.type "tuple",dict:=dd,data:=.seq items n,slots:=sl }/\s.heap.get? b=some { cls:=.type "tuple",dict:=dd2,data:=.seq items2 n2,slots:=sl2 } /\
    R (.ok (.ret (.bool (!lexLt ns ms)))) s) :=
 .of_wp fun prog w A R s h=>by
  obtain⟨hp,g,d,tk,os⟩:=s;obtain⟨hl,hb,h⟩:=h
  have f2:=AutoSeq1.sub_tuple_tuple
  have z1:items.size=ns.length:=by rw[<- hi.length];simp
  have z2:items2.size=ms.length:=by rw[<- hj.length];simp
  wp_walk using wpAny_loadPart' hl,wpAny_loadPart' hb,wpAny_forIn_list _ (fun rest b s'=>b.1=none/\s'=⟨hp,g,d,tk,os⟩/\∃ (vs ws:List Value) (ns' ms':List Int),rest=vs.zip ws /\
   IntsAre vs ns'/\IntsAre ws ms'/\ns'.length+items2.size=ms'.length+items.size/\R (.ok (.ret (.bool (!lexLt ns' ms')))) ⟨hp,g,d,tk,os⟩) _
  case turn =>
   rintro⟨y,x⟩ rest b s' ⟨hb',rfl,vs,ws,ns',ms',hz,hvi,hwi,hlen,hR⟩
   cases hvi with
   | nil=>rw[List.zip_nil_left] at hz;cases hz
   | cons a t hvi' =>
    cases hwi with
    | nil=>rw[List.zip_nil_right] at hz;cases hz
    | cons c u hwi' =>
     rw[List.zip_cons_cons] at hz
     injection hz with hyx hrest
     injection hyx with hy hx
     subst hy hx
     rw[cD] at hR
     simp only[zL] at hlen
     obtain⟨e,he,hiff⟩:=xt A.in1 ⟨hp,g,d,tk,os⟩ a t c u
     refine zW (he prog w _ _ ?_)
     cases e with
     | true =>
      rw[if_pos (hiff.mp rfl)] at hR
      wp_walk
      exact⟨rfl,rfl,_,_,_,_,hrest,hvi',hwi',by omega,hR⟩
     | false =>
      rw[if_neg (fun q=>absurd (hiff.mpr q) Bool.false_ne_true)] at hR
      have hri:=Gf A.in1 ⟨hp,g,d,tk,os⟩ a t c u prog w
      have e1:(!decide (a < c))=decide (c<=a):=by
       rw[<- decide_not]
       exact decide_eq_decide.mpr (by omega)
      rw[e1] at hR
      wp_walk using hri
      exact⟨_,rfl,hR⟩
  case fin =>
   rintro⟨b1,b2⟩ s' ⟨hb',rfl,vs,ws,ns',ms',hz,hvi,hwi,hlen,hR⟩
   simp only at hb'
   subst hb'
   have hv:lexLt ns' ms'=decide (items.size < items2.size):=by
    cases hvi with
    | nil =>
     cases hwi with
     | nil =>
      simp only[List.length_nil] at hlen
      rw[lM]
      exact (yA (by omega)).symm
     | cons c u hw =>
      simp only[List.length_nil,zL] at hlen
      rw[kL]
      exact (yB (by omega)).symm
    | cons a t hv =>
     cases hwi with
     | nil =>
      simp only[List.length_nil,zL] at hlen
      rw[kq]
      exact (yA (by omega)).symm
     | cons c u hw =>
      rw[List.zip_cons_cons] at hz
      cases hz
   have hv2:(!lexLt ns' ms')=decide (items.size >= items2.size):=by
    rw[hv,<- decide_not]
    exact decide_eq_decide.mpr (by omega)
   rw[hv2] at hR
   wp_walk
   exact⟨_,rfl,hR⟩
  case h =>
   exact⟨rfl,rfl,items.toList,items2.toList,ns,ms,rfl,hi,hj,by omega,h⟩
end
end HT
namespace Dl
open PySem L2 PySem.Spec PyProof.Rows
section
variable {X:Cx}
def jl:D->Option (List Int)|.tuple ds=>intsOf ds|_=>none
theorem gf{x:D}{ns:List Int}(h:jl x=some ns):x=.tuple (ns.map PyData.int):=by
 cases x<;>try cases h
 rename_i xs
 have h:intsOf xs=some ns:=h
 rw[dX h]
def N2:D->D->Option Bool:=fun x y=>(jl x).bind fun ns=>(jl y).map fun ms=>!lexLt ns ms
theorem Ft(hu:X.A.units < cLine):i4 X (compareOp .GtE) (N3 X.K N2):=by
 intro pins s σ H v1 v2 u1 u2 Q I rx ry h
 obtain⟨HF,x,y,k,sm,r1,r2,hg,q⟩:=h
 obtain⟨ns,h1,hg⟩:=bs hg
 obtain⟨ms,h2,rfl⟩:=ag hg
 rw[gf h1] at r1
 rw[gf h2] at r2
 have key:∀ {ns:List Int}{v:V}{u:Value},Rep X.K HF (.tuple (ns.map PyData.int)) v->RelV v u->∃a its,u=.ref a/\IsTup s.heap a its/\IntsAre its.toList ns:=fun {ns v u} r rv=>by
  have p:nW s.heap u ns:=by
   cases lF (X:=X) (us:=[u]) (vs:=[v]) (nss:=[ns]) I sm (aq.cons r aq.nil) (.cons rv .nil) with
   | cons p _=>exact p
  obtain⟨a,o,its,n,rfl,e1,e2,e3,e4⟩:=p.ex
  exact⟨a,its,rfl,⟨o,e1,e2,n,e3⟩,e4⟩
 obtain⟨a,its,rfl,⟨⟨cls,dd,data,sl⟩,ho,hc,n,hd⟩,i1⟩:=key r1 rx
 obtain⟨b,its2,rfl,⟨⟨cls2,dd2,data2,sl2⟩,ho2,hc2,n2,hd2⟩,i2⟩:=key r2 ry
 simp only at hc hd hc2 hd2
 subst hc hd hc2 hd2
 exact richCompare_meets_room (op:=.GtE) ⟨_,ho,rfl⟩ ⟨_,ho2,rfl⟩ PySem.F.slot_tuple_ge PySem.F.entry_tuple_ge (PySem.F.args_tuple_ge_2 _ _) (HT.sZ a b its its2 n n2 dd dd2 sl sl2 ns ms i1 i2)
  ⟨ho,ho2,show Value.bool (!lexLt ns ms)≠Value.notImplemented/\EP X pins σ Q (.bool (!lexLt ns ms)) s from ⟨(fun x=>nomatch x),⟨.bl _,H,I,rfl,q⟩⟩⟩ hu
end
end Dl
namespace En
open PySem PyProof.Rows
open AutoSeq1 (wpAny_loadPart')
theorem noFill_tup:fillsNumberSlot (.type "tuple") "mul"=pure false:=PySem.fillsNumberSlot_seq (id:="tuple.__mul__") (r:=some (.builtin "tuple.__rmul__")) F.slot_tuple_mul.lookup (by decide +kernel) F.slot_tuple_rmul.lookup (by decide +kernel)
theorem repeat_tup:seqRepeat? (.type "tuple")=pure (some (.builtin "tuple.__mul__")):=by
 unfold seqRepeat?
 rw[PySem.seqSlot_of (T:="tuple") (name:="__mul__") (id:="tuple.__mul__") F.slot_tuple_mul.lookup (by decide +kernel),PySem.seqSlot_of (T:="tuple") (name:="__rmul__") (id:="tuple.__rmul__") F.slot_tuple_rmul.lookup (by decide +kernel)];rfl
theorem rmul_tup(a:Int)(t:Tok)(l:Addr)(its:Array Value)(n:Nat)(dd:Option Addr)(sl:Array (Option Value)) :
  Meets (Builtin.«int.__rmul__» ⟨[.int a t,.ref l],[]⟩) (fun _ R s=>s.heap.get? l=some { cls:=.type "tuple",dict:=dd,data:=.seq its n,slots:=sl }/\R (.ok (.ret Value.notImplemented)) s) :=
 .of_wp fun prog w A R s h=>by
  obtain⟨hp,g,d,tk,os⟩:=s;obtain⟨hl,h⟩:=h
  wp_walk
  exact⟨_,rfl,h⟩
theorem mulT_same(l:Addr)(its:Array Value)(n:Nat)(dd:Option Addr)(sl:Array (Option Value))(k:Int)(t:Tok)(h1:¬ (decide (k < -(2 ^ 63))||decide (k >= 2 ^ 63))=true)(h2:(its.isEmpty||k == 1)=true) :
  Meets (Builtin.«tuple.__mul__» ⟨[.ref l,.int k t],[]⟩) (fun _ R s=>s.heap.get? l=some { cls:=.type "tuple",dict:=dd,data:=.seq its n,slots:=sl }/\R (.ok (.ret (.ref l))) s) :=
 .of_wp fun prog w A R s h=>by
  obtain⟨hp,g,d,tk,os⟩:=s;obtain⟨hl,h⟩:=h
  have f1:=AutoSeq1.idx_int
  wp_walk using wpAny_loadPart' hl
  rw[if_neg h1]
  wp_walk using wpAny_loadPart' hl
  exact⟨_,rfl,h⟩
theorem mulT_none(l:Addr)(its:Array Value)(n:Nat)(dd:Option Addr)(sl:Array (Option Value))(k:Int)(t:Tok)(h1:¬ (decide (k < -(2 ^ 63))||decide (k >= 2 ^ 63))=true)(h2:¬ (its.isEmpty||k == 1)=true)(h3:(decide (k<=0)||its.isEmpty)=true) :
  Meets (Builtin.«tuple.__mul__» ⟨[.ref l,.int k t],[]⟩) (fun _ R s=>s.heap.get? l=some { cls:=.type "tuple",dict:=dd,data:=.seq its n,slots:=sl }/\R (.ok (.ret (.ref s.heap.objs.size))) { s with heap:=s.heap.push { cls:=.type "tuple",data:=.seq #[] } }) :=
 .of_wp fun prog w A R s h=>by
  obtain⟨hp,g,d,tk,os⟩:=s;obtain⟨hl,h⟩:=h
  have f1:=AutoSeq1.idx_int
  wp_walk using wpAny_loadPart' hl
  rw[if_neg h1]
  wp_walk using wpAny_loadPart' hl
  exact⟨_,rfl,h⟩
theorem mulT_many(l:Addr)(its:Array Value)(n:Nat)(dd:Option Addr)(sl:Array (Option Value))(k:Int)(t:Tok)(h1:¬ (decide (k < -(2 ^ 63))||decide (k >= 2 ^ 63))=true)(h2:¬ (its.isEmpty||k == 1)=true)(h3:¬ (decide (k<=0)||its.isEmpty)=true)
  (h4:¬ ((its.size:Nat):Int) * k > (2 ^ 63 - 1) / 8) (h5:¬ Builtin.Tuple.tupleTooMany (((its.size:Nat):Int) * k)=true) (hz:((List.replicate k.toNat its).foldl (·++·) #[]).size<=sizeLine) :
  Meets (Builtin.«tuple.__mul__» ⟨[.ref l,.int k t],[]⟩) (fun _ R s=>s.heap.get? l=some { cls:=.type "tuple",dict:=dd,data:=.seq its n,slots:=sl }/\R (.ok (.ret (.ref s.heap.objs.size))) { s with heap:=s.heap.push { cls:=.type "tuple",data:=.seq ((List.replicate k.toNat its).foldl (·++·) #[]) } }) :=
 .of_wp fun prog w A R s h=>by
  obtain⟨hp,g,d,tk,os⟩:=s;obtain⟨hl,h⟩:=h
  have f1:=AutoSeq1.idx_int
  wp_walk using wpAny_loadPart' hl
  rw[if_neg h1]
  wp_walk using wpAny_loadPart' hl
  rw[if_neg h4]
  wp_walk using wpAny_loadPart' hl
  exact⟨_,rfl,h⟩
end En
namespace Dl
open PySem L2 PySem.Spec PyProof.Rows
section
variable {X:Cx}
def K1(K:W.Frag):R2:=fun x y H Q=>∃a k xs,x=.ref a/\y=.int k/\ji K H a xs/\-(2 ^ 62)<=k/\k < 2 ^ 62/\xs.length * k.toNat<=sizeLine/\((List.replicate k.toNat xs).flatten=xs->Q (.ref a) H) /\
 ∀p,H p=none->Q (.ref p) (upd H p (.tup (List.replicate k.toNat xs).flatten))
theorem Ig:i4 X (binaryOp .Mult) (K1 X.K):=by
 intro pins s σ H x y v u Q I rx ry h
 obtain⟨a,k,xs,rfl,rfl,hq,k1,k2,hz,q1,q2⟩:=h
 cases rx
 obtain⟨t,rfl⟩:=ry
 obtain⟨its,r,pl,hzx⟩:=I.tuple hq
 have hl:=r.length
 obtain⟨⟨cls,dd,data,sl⟩,ho,hc,n,hd⟩:=id pl
 simp only at hc hd
 subst hc hd
 have b1:¬ (decide (k < -(2 ^ 63))||decide (k >= 2 ^ 63))=true:=by
  simp only[Bool.or_eq_true,zJ]
  omega
 refine wpAny_binaryOp_repeat_ref (T:="tuple") (U:="int") (by decide) ⟨_,ho,rfl⟩ (fun s'=>typeIs_int s' k t) En.noFill_tup F.fills_int_mul F.slot_int_rmul En.repeat_tup F.slot_int_index.lookup
  (call_meets F.slot_int_rmul (typeIs_int s k t) F.entry_int_rmul (F.args_int_rmul_2 _ _) (En.rmul_tup k t a its.toArray n dd sl) ⟨ho,rfl,⟨_,ho,rfl⟩,?_⟩)
 have hfl:∀m:Nat,List.foldl (fun x1 x2=>x1++x2) #[] (List.replicate m its.toArray)=(List.replicate m its).flatten.toArray:=fun m=>by
  have:=foldl_rep its m []
  rw[List.nil_append] at this
  exact this
 by_cases h2:(its.toArray.isEmpty||k == 1)=true
 ·refine call_meets F.slot_tuple_mul ⟨_,ho,rfl⟩ F.entry_tuple_mul (F.args_tuple_mul_2 _ _) (En.mulT_same a its.toArray n dd sl k t b1 h2) ⟨ho,⟨.ref a,H,I,rfl,q1 ?_⟩⟩
  rw[Bool.or_eq_true] at h2
  rcases h2 with h2|h2
  ·have:xs=[]:=by
    have e:its=[]:=by simpa using h2
    rw[e] at hl
    exact List.length_eq_zero_iff.mp hl
   rw[this]
   simp
  ·have:k=1:=eq_of_beq h2
   subst this
   simp
 ·by_cases h3:(decide (k<=0)||its.toArray.isEmpty)=true
  ·refine call_meets F.slot_tuple_mul ⟨_,ho,rfl⟩ F.entry_tuple_mul (F.args_tuple_mul_2 _ _) (En.mulT_none a its.toArray n dd sl k t b1 h2 h3) ⟨ho,?_⟩
   have hk0:k.toNat=0:=by
    simp only[Bool.or_eq_true,zJ] at h3 h2
    rcases h3 with h3|h3
    ·omega
    ·exact absurd (.inl h3) h2
   have q3:=q2 s.heap.objs.size I.fresh
   rw[hk0] at q3
   exact⟨.ref s.heap.objs.size,_,I.laid (t':=s.toks) (o:=.tup []) (fun b ob q=>zV _ q) (Nat.le_refl _) ⟨Nat.zero_le _,[],.nil,nU.new _ _⟩,rfl,q3⟩
  ·have hm:its.length * k.toNat<=sizeLine:=by rw[<- hl];exact hz
   have hkn:(k.toNat:Int)=k:=by
    simp only[Bool.or_eq_true,zJ,not_or] at h3
    omega
   have hmi:((its.toArray.size:Nat):Int) * k=((its.length * k.toNat:Nat):Int):=by rw[zH,Int.natCast_mul,hkn]
   have hv:=L2.aB.rep r k.toNat
   have hlen2:(List.replicate k.toNat xs).flatten.length<=sizeLine:=by rw[len_rep,Nat.mul_comm];exact hz
   have hs8:(sizeLine:Nat)<=(2 ^ 63 - 1) / 8:=by decide
   have h4:¬ ((its.toArray.size:Nat):Int) * k > (2 ^ 63 - 1) / 8:=by rw[hmi];omega
   have h5:¬ Builtin.Tuple.tupleTooMany (((its.toArray.size:Nat):Int) * k)=true:=by
    unfold Builtin.Tuple.tupleTooMany
    rw[hmi]
    simp only[zJ]
    omega
   refine call_meets F.slot_tuple_mul ⟨_,ho,rfl⟩ F.entry_tuple_mul (F.args_tuple_mul_2 _ _) (En.mulT_many a its.toArray n dd sl k t b1 h2 h3 h4 h5 (by rw[hfl,zH,<- hv.length];exact hlen2)) ⟨ho,?_⟩
   rw[hfl]
   exact⟨.ref s.heap.objs.size,_,I.laid (t':=s.toks) (o:=.tup (List.replicate k.toNat xs).flatten) (fun b ob q=>zV _ q) (Nat.le_refl _) ⟨hlen2,_,hv,nU.new _ _⟩,rfl,q2 _ I.fresh⟩
def EX:D->D->Option D
 | .tuple ds,.int k=>if CS k=true/\ds.length * k.toNat<=sizeLine then some (.tuple (List.replicate k.toNat ds).flatten) else none
 | _,_=>none
theorem rq{K:W.Frag}{HF:Hp}{ds:List D}{vs:List V}(r:aq K HF ds vs):∀k:Nat,aq K HF (List.replicate k ds).flatten (List.replicate k vs).flatten
 | 0=>aq.nil
 | k+1=>by rw[List.replicate_succ,List.replicate_succ,List.flatten_cons,List.flatten_cons];exact r.append (rq r k)
theorem G8{K:W.Frag}:gu K (K1 K) EX:=by
 intro HF H x y v1 v2 d Q sm r1 r2 hg q
 cases x<;>cases y<;>simp only[EX] at hg<;>try cases hg
 split at hg
 ·rename_i xs k hh
  cases hg
  simp only[Rep] at r1 r2
  obtain⟨a,vs,rfl,ha,ra⟩:=r1
  have ok:=hh.1
  unfold CS at ok
  rw[zF] at ok
  refine⟨a,k,vs,rfl,r2,ay sm ha,of_decide_eq_true ok.1,of_decide_eq_true ok.2,by rw[ra.length];exact hh.2,fun e=>q _ H HF (.refl sm) ?_,fun p hp=>q _ _ _ (.new sm hp) (cY (sm.free hp) (rq ra _))⟩
  simp only[Rep]
  refine⟨a,vs,rfl,ha,?_⟩
  have:=rq ra k.toNat
  rw[e] at this
  exact this
 ·cases hg
end
end Dl
namespace En
open PySem PyProof.Rows
section
variable {prog:Program}{w:World}{A:Around}{E:Value->Shared->Prop}{s:Shared}
theorem call_setT{l:Addr}{its:Array Value}{ns:List Int}{Q:Value->Shared->Prop}(hh:A.handled=none)(hl:s.heap.IsTuple l its)(hi:IntsAre its.toList ns)(hb:its.size+1 < scanBound)
  (h:∀ (h':Heap) (tk:Nat),h'.SetOf (intKind prog w) s.heap.objs.size (fun k'=>(firstMet (fun i=>ns.getD i 0) its.size).any (· == k')) (firstMet (fun i=>ns.getD i 0) its.size).length->(∀b o,b < s.heap.objs.size->s.heap.get? b=some o->h'.get? b=some o)->Q (.ref s.heap.objs.size) { s with heap:=h',toks:=tk }) :
  wpAny (model prog w) A (call (.type "set") [.ref l]) Q E s:=by
 obtain⟨c,tl,hmro⟩:=F.called_set.mro
 have hmade:=F.called_set.made
 have hsub:=F.called_set.sub
 refine wpAny_call (codeAny_of_tree ?_);show wpAny _ _ (callAny (.type "set") _) _ _ _
 refine zX ⟨Code.quiet_builtin _ (by decide +kernel),codeAny_builtin F.entry_type_call ?_⟩
 rw[Around.under_plain (weight_type_call_type "set" [.ref l] []) rfl]
 have h1:=F.called_set.notType
 have h2:=F.called_set.canCreate
 have hct:=F.typeCall_set_1 (.ref l)
 repeat (any_goals (first|assumption|wp_step))
 refine codeAny_mono (code_set_new_1 (.ref l) (E:=E) (Q₁:=fun obj s1=>∃led:Bool,obj=.ref s.heap.objs.size/\s1={ s with heap:=s.heap.push { cls:=.type "set",dict:=none,data:=.set #[] 0 (.fresh 0 0 led) } }) fun led=>⟨led,rfl,rfl⟩) fun r s1 hr=>?_
 cases r with
 | error e=>exact hr
 | ok fl =>
  cases fl with
  | ret obj =>
   obtain⟨led,rfl,rfl⟩:=hr
   have hS:(s.heap.push { cls:=.type "set",dict:=none,data:=.set #[] 0 (.fresh 0 0 led) }).get? s.heap.objs.size=some { cls:=.type "set",dict:=none,data:=.set #[] 0 (.fresh 0 0 led) }:=by exact zY _ rfl
   have hT:Shared.TypeIs { s with heap:=s.heap.push { cls:=.type "set",dict:=none,data:=.set #[] 0 (.fresh 0 0 led) } } (.ref s.heap.objs.size) "set":=⟨_,hS,rfl⟩
   have hli:=F.called_set.init.lookup
   have hbi:=F.called_set.init.bind (.ref s.heap.objs.size)
   repeat (any_goals (first|assumption|wp_step))
   refine codeAny_mono (codeAny_call_builtin (R:=wants (fun r s2=>r=.none/\∃h' tk,s2={ s with heap:=h',toks:=tk }/\h'.SetOf (intKind prog w) s.heap.objs.size (fun k'=>(firstMet (fun i=>ns.getD i 0) its.size).any (· == k')) (firstMet (fun i=>ns.getD i 0) its.size).length /\
     (∀b o,b < s.heap.objs.size->s.heap.get? b=some o->h'.get? b=some o)) E) F.called_set.init.plain F.entry_set_init (check_set_init_1 hT ?_)) fun r2 s2 hr2=>?_
   ·obtain⟨ol,hol,hcl,nl,hdl⟩:=hl
    obtain⟨ocls,odict,odata,oslots⟩:=ol
    simp only at hcl hdl
    subst hcl hdl
    have hol':(s.heap.push { cls:=.type "set",dict:=none,data:=.set #[] 0 (.fresh 0 0 led) }).get? l=some { cls:=.type "tuple",dict:=odict,data:=.seq its nl,slots:=oslots }:=zV _ hol
    have hsls:=F.sub_tuple_set
    have hslf:=F.sub_tuple_frozenset
    have hne:(Value.type "tuple" == Value.type "dict")=false:=by decide
    have hl1:(s.heap.push { cls:=.type "set",dict:=none,data:=.set #[] 0 (.fresh 0 0 led) }).IsTuple l its:=⟨_,hol',rfl,nl,rfl⟩
    unfold Builtin.«set.__init__» noKeywords Builtin.Frozenset.updateFrom
    generalize hPI:pyIter=PI
    wp_walk
    subst hPI
    refine wpAny_pyIter_tuple hl1 (zW (wpAny_runValue ?_))
    have hlS:l < s.heap.objs.size:=zZ hol
    have hh3:A.in1.in1.in1.handled=none:=by simp[hh]
    have hneI:l≠(s.heap.push { cls:=.type "set",dict:=none,data:=.set #[] 0 (.fresh 0 0 led) }).objs.size:=by rw[Heap.size_push];exact Nat.ne_of_lt (Nat.lt_succ_of_lt hlS)
    have hSf:s.heap.objs.size∉[(s.heap.push { cls:=.type "set",dict:=none,data:=.set #[] 0 (.fresh 0 0 led) }).objs.size,l]:=by
     rw[Heap.size_push];simp only[zR,yG,or_false,not_or]
     exact⟨Nat.ne_of_lt (Nat.lt_succ_self _),Nat.ne_of_gt hlS⟩
    have hval:∀ (i:Nat) (v:Value),its[i]?=some v->∃t,v=.int ((fun i=>ns.getD i 0) i) t:=fun i v hv=>IntsAre.int_at hi i v (by rw[Array.getElem?_toList];exact hv)
    refine codeAny_set_update_loopS ((Walks.tuple hh3 _ l hneI its).toS) s.heap.objs.size hSf (fun i=>ns.getD i 0) hval hb (its.size - 0) 0 _ (by omega) (Nat.zero_le _) ⟨⟨_,zY _ rfl,rfl,rfl⟩,?ht⟩ ?hS0 ?hR
    case ht=>exact⟨_,zV _ hol',rfl,nl,rfl⟩
    case hS0 =>
     have hget:((s.heap.push { cls:=.type "set",dict:=none,data:=.set #[] 0 (.fresh 0 0 led) }).push { cls:=.type "tuple_iterator",data:=.fields #[.ref l,.int 0 0] }).get? s.heap.objs.size=some { cls:=.type "set",dict:=none,data:=.set #[] 0 (.fresh 0 0 led) }:=by exact zV _ hS
     exact SetOf_congr ((setObjOf_fresh (knd:=intKind prog w) led).setOf hget (by unfold scanBound;omega)) (fun _=>rfl) rfl
    case hR =>
     intro s' hm hS'
     obtain⟨h',g',d',tk',os'⟩:=s'
     have eg:g'=s.gens:=hm.gens
     have ed:d'=s.drawn:=hm.drawn
     have eo:os'=s.os:=hm.os
     subst eg ed eo
     show wpAny _ _ _ _ _ _
     refine zX ?_
     show wpAny _ _ (ret Value.none) _ _ _
     refine zX ⟨rfl,h',tk',rfl,hS',fun b o hb' e=>?_⟩
     refine hm.heap b o ?_ (zV _ (zV _ e))
     simp only[zR,yG,or_false,not_or]
     exact⟨Nat.ne_of_lt hb',by rw[Heap.size_push];exact Nat.ne_of_lt (Nat.lt_succ_of_lt hb')⟩
   ·cases r2 with
    | error e=>exact hr2
    | ok fl2 =>
     cases fl2 with
     | ret r =>
      obtain⟨rfl,h',tk,rfl,hS',hk'⟩:=hr2
      repeat (any_goals (first|assumption|wp_step))
      exact h _ _ hS' hk'
     | _=>exact hr2.elim
  | _=>exact hr.elim
end
end En
namespace Dl
open PySem L2 PySem.Spec PyProof.Rows
def many(ns:List Int):Nat:=(firstMet (fun i=>ns.getD i 0) ns.length).length
section
variable {X:Cx}{e:Expr}{f:Env->Option D}{pos p p' pos':Pos}
theorem Dh(hc:X.calm=true):eL X (.type "set") (fun xs H Q=>∃ (a:Addr) (ns:List Int),xs=[.ref a]/\ji X.K H a (ns.map V.int)/\ns.length+1 < scanBound/\∀q S,H q=none->Q (.ref q) (upd H q (.set S (many ns)))):=by
 intro pins s σ H xs us Q I r h
 obtain⟨a,ns,rfl,hq,hb,q⟩:=h
 obtain⟨u,rfl,rx⟩:=vals1 r
 cases rx
 obtain⟨its,rv,pl,hz⟩:=I.tuple hq
 have hi:IntsAre its.toArray.toList ns:=intsAre_of rv
 have hlen:its.toArray.size=ns.length:=by have:=rv.length;simpa using this.symm
 refine En.call_setT (I.ok.hd hc) (show s.heap.IsTuple a its.toArray from pl) hi (by rw[hlen];exact hb) fun h' tk hS hk=>?_
 rw[hlen] at hS
 exact⟨.ref s.heap.objs.size,_,I.laid (t':=tk) (fun b o e=>hk b o (zZ e) e) (Nat.le_refl _) (show fW X.prog X.w _ h' _ (.set _ (many ns)) from hS),rfl,q _ _ I.fresh⟩
theorem D7:eL X (.builtin "len") (fun xs H Q=>∃ (a:Addr) (S:Int->Bool) (n:Nat),xs=[.ref a]/\H a=some (.set S n)/\Q (.int n) H):=by
 intro pins s σ H xs us Q I r h
 obtain⟨a,S,n,rfl,hq,q⟩:=h
 obtain⟨u,rfl,rx⟩:=vals1 r
 cases rx
 obtain⟨o,es,ep,t,ho,hex,hd,hel,hmem,hlt,hf,hn⟩:=(show s.heap.SetOf (intKind X.prog X.w) a S n from I.hok a _ hq)
 have hfit:((es.size:Nat):Int) < 2 ^ 63:=by unfold scanBound at hlt;omega
 refine call_len_set ho hex hd hf hfit ⟨.int n,H,I.tok _,⟨s.toks+1,by rw[hn]⟩,q⟩
def lH:D->Option D:=fun d=>(jl d).bind fun ns=>if ns.length+1 < scanBound then some (.int (many ns)) else none
theorem C8(hc:X.calm=true)(B:oK X "len" (.builtin "len"))(C:oK X "set" (.type "set"))(h:DE X e f)(he:starEach [e] X.env=(false,eval e X.env)::starEach [] X.env:=by rfl) :
  DE X (.Call (.Name "len" p) [.Call (.Name "set" p') [e] [] pos'] [] pos) (f1 lH f) :=
 aY (mF D7 B.gl B.mg B.bt (di (tU (Dh hc) C.gl C.mg C.bt (di h iN he) (by decide) (by decide) he rfl) iN) (by decide) (by decide) rfl rfl) fun σ H Q ⟨HF,ρ,d,sm,eo,hf,q⟩=>by
  obtain⟨x,hx,hf⟩:=bs hf
  obtain⟨ns,h1,hf⟩:=bs hf
  split at hf
  ·rename_i hb
   cases hf
   refine⟨HF,ρ,x,sm,eo,hx,fun v1 H1 HF1 g1 r1=>?_⟩
   rw[gf h1] at r1
   simp only[Rep] at r1
   obtain⟨a,vs,rfl,hs,rr⟩:=r1
   have key:∀ {ns:List Int}{ws:List V},aq X.K HF1 (ns.map PyData.int) ws->ws=ns.map V.int:=fun {ns}=>by
    induction ns with
    | nil=>exact fun h=>h.nil_inv
    | cons n ns ih =>
     intro ws h
     obtain⟨v,r,rfl,a,b⟩:=h.cons_inv
     simp only[Rep] at a
     rw[a,ih b]
     rfl
   have:=key rr
   subst this
   refine⟨a,ns,rfl,ay g1.fh hs,hb,fun b S hb'=>⟨b,S,_,rfl,aJ,q _ _ HF1 (g1.trans (.own g1.fh hb')) (by simp[Rep])⟩⟩
  ·cases hf
end
theorem k5(val:Nat->Int):∀i,(firstMet val i).length=i↔((List.range i).map val).Nodup
 | 0=>by simp[firstMet]
 | i+1=>by
  have hle:=firstMet_length_le val i
  rw[firstMet_succ,step_length,List.range_succ,List.map_append,List.nodup_append]
  have ha:=firstMet_any val i (val i)
  have ih:=k5 val i
  constructor
  ·intro h
   by_cases hin:(firstMet val i).any (· == val i)=true
   ·rw[if_pos hin] at h;omega
   ·rw[if_neg hin] at h
    refine⟨ih.mp (by omega),by simp,fun a hm b hb z=>?_⟩
    have hb':b=val i:=by simpa using hb
    subst z hb'
    rw[ha] at hin
    exact hin (List.any_eq_true.mpr ⟨_,hm,by simp⟩)
  ·rintro⟨h1,_,h3⟩
   rw[if_neg ?_]
   ·rw[ih.mpr h1]
   ·rw[ha]
    intro hin
    obtain⟨x,hx,he⟩:=List.any_eq_true.mp hin
    have he':x=val i:=by simpa using he
    exact h3 x hx (val i) (by simp) he'
theorem zt(ns:List Int):many ns=ns.length↔ns.Nodup:=by
 unfold many
 rw[k5]
 have:(List.range ns.length).map (fun i=>ns.getD i 0)=ns:=kR ns 0
 rw[this]
section
variable {X:Cx}{N:List Str}{sc:Scope}{k:Nat}{a b c e e2:Expr}{es:List Expr}{fa fb fc f:Env->Option D}{fs:Env->Option (List D)}{pos p p' pos' p2 p3 p4 px apos cpos tp:Pos}{x y:Str}{HF₀ H₀:Hp}
theorem qK{K:W.Frag}{r r':R2}{g g':D->D->Option D}(h:gu K r g)(h':gu K r' g'):gu K (fun x y H Q=>r x y H Q\/r' x y H Q) (fun x y=>(g x y).or (g' x y)):=by
 intro HF H x y v1 v2 d Q sm r1 r2 hg q
 cases e:g x y with
 | some d' =>
  have hg:(g x y).or (g' x y)=some d:=hg
  rw[e] at hg
  cases hg
  exact .inl (h HF H x y v1 v2 d Q sm r1 r2 e q)
 | none =>
  have hg:(g x y).or (g' x y)=some d:=hg
  rw[e] at hg
  exact .inr (h' HF H x y v1 v2 d Q sm r1 r2 hg q)
theorem DX{K:W.Frag}:gu K (EJ K) (fun x y=>(tE x y).map PyData.list):=by
 intro HF H x y v1 v2 d Q sm r1 r2 hg q
 obtain⟨zs,hg',rfl⟩:=ag hg
 clear hg
 cases x<;>cases y<;>simp only[tE] at hg'<;>try cases hg'
 obtain⟨rfl,hz⟩:=eT hg'
 simp only[Rep] at r1 r2
 obtain⟨a,vs,rfl,ha,ra⟩:=r1
 obtain⟨b,us,rfl,hb,rb⟩:=r2
 refine⟨a,b,vs,us,rfl,rfl,sm.seq ha,sm.seq hb,by rw[ra.length,rb.length,<- zN];exact hz,fun p hp=>q _ _ _ (.new sm hp) ?_⟩
 simp only[Rep]
 exact⟨p,_,rfl,.inl (.inl aJ),(ra.append rb).mono (d6 (sm.free hp))⟩
def aM:D->D->Option D:=fun x y=>((wY (fun _ _=>True) fun i j=>.int (i+j)) x y).or ((JI x y).or ((tE x y).map PyData.list))
theorem Bk.add(C:Bk X N sc k)(ha:DE X a fa)(hb:DE X b fb):DE X (.BinOp a .Add b pos) (f2 aM fa fb):=xH (M8.or (Eg.or xb)) (qK F0 (qK Kk DX)) ha hb
def iD:D->D->Option D:=wY (fun _ _=>True) fun i j=>.int (i - j)
theorem Bk.sub(C:Bk X N sc k)(ha:DE X a fa)(hb:DE X b fb):DE X (.BinOp a .Sub b pos) (f2 iD fa fb):=xH Ld F0 ha hb
def eK:D->D->Option D:=fun x y=>((wY vx fun i j=>.int (i * j)) x y).or (EX x y)
theorem Bk.mul(C:Bk X N sc k)(ha:DE X a fa)(hb:DE X b fb):DE X (.BinOp a .Mult b pos) (f2 eK fa fb):=xH (MQ.or Ig) (qK EL G8) ha hb
def mY:D->D->Option D:=wY JP fun i j=>.int (i / j)
theorem Bk.div(C:Bk X N sc k)(ha:DE X a fa)(hb:DE X b fb):DE X (.BinOp a .FloorDiv b pos) (f2 mY fa fb):=xH JS EL ha hb
def lJ:D->D->Option D:=wY (fun _ j=>0 < j) fun i j=>.int (i % j)
theorem Bk.mod(C:Bk X N sc k)(ha:DE X a fa)(hb:DE X b fb):DE X (.BinOp a .Mod b pos) (f2 lJ fa fb):=xH Mr EL ha hb
def wX:D->D->Option D:=wY (fun _ _=>True) fun i j=>.bool (decide (i < j))
def B7:D->D->Option D:=wY (fun _ _=>True) fun i j=>.bool (decide (i<=j))
def Er:D->D->Option D:=wY (fun _ _=>True) fun i j=>.bool (decide (j < i))
def PJ:D->D->Option D:=fun x y=>((wY (fun _ _=>True) fun i j=>.bool (decide (j<=i))) x y).or ((N2 x y).map PyData.bool)
def cq:D->D->Option D:=fun x y=>(MA x y).map PyData.bool
def oC:D->D->Option D:=fun x y=>(NJ x y).map PyData.bool
theorem Bk.u64(C:Bk X N sc k):X.A.units+64 < cLine:=C.room.units
theorem Bk.u66(C:Bk X N sc k):X.A.units+66 < cLine:=by have:=C.room.un;omega
theorem Bk.lt(C:Bk X N sc k)(ha:DE X a fa)(hb:DE X b fb):DE X (.Compare a [.Lt] [b] pos) (f2 wX fa fb):=jA EE iO ha hb (dq _)
theorem Bk.le(C:Bk X N sc k)(ha:DE X a fa)(hb:DE X b fb):DE X (.Compare a [.LtE] [b] pos) (f2 B7 fa fb):=jA FB iO ha hb (dq _)
theorem Bk.gt(C:Bk X N sc k)(ha:DE X a fa)(hb:DE X b fb):DE X (.Compare a [.Gt] [b] pos) (f2 Er fa fb):=jA Kp iO ha hb (dq _)
theorem Bk.ge(C:Bk X N sc k)(ha:DE X a fa)(hb:DE X b fb):DE X (.Compare a [.GtE] [b] pos) (f2 PJ fa fb):=jA (Kt.or (Ft C.room.units0)) (qK iO kC) ha hb (dq _)
theorem Bk.eq(C:Bk X N sc k)(ha:DE X a fa)(hb:DE X b fb):DE X (.Compare a [.Eq] [b] pos) (f2 cq fa fb):=jA (EG C.u64) kC ha hb (dq _)
theorem Bk.ne(C:Bk X N sc k)(ha:DE X a fa)(hb:DE X b fb):DE X (.Compare a [.NotEq] [b] pos) (f2 oC fa fb):=jA (FA C.u64) kC ha hb (dq _)
theorem Bk.tlt(C:Bk X N sc k)(ha:DE X a fa)(hb:DE X b fb):DT X (.Compare a [.Lt] [b] pos) (fB (f2 wX fa fb)):=jq EE iO ha hb (dq _)
theorem Bk.tle(C:Bk X N sc k)(ha:DE X a fa)(hb:DE X b fb):DT X (.Compare a [.LtE] [b] pos) (fB (f2 B7 fa fb)):=jq FB iO ha hb (dq _)
theorem Bk.tgt(C:Bk X N sc k)(ha:DE X a fa)(hb:DE X b fb):DT X (.Compare a [.Gt] [b] pos) (fB (f2 Er fa fb)):=jq Kp iO ha hb (dq _)
theorem Bk.tge(C:Bk X N sc k)(ha:DE X a fa)(hb:DE X b fb):DT X (.Compare a [.GtE] [b] pos) (fB (f2 PJ fa fb)):=jq (Kt.or (Ft C.room.units0)) (qK iO kC) ha hb (dq _)
theorem Bk.teq(C:Bk X N sc k)(ha:DE X a fa)(hb:DE X b fb):DT X (.Compare a [.Eq] [b] pos) (fB (f2 cq fa fb)):=jq (EG C.u64) kC ha hb (dq _)
theorem Bk.tne(C:Bk X N sc k)(ha:DE X a fa)(hb:DE X b fb):DT X (.Compare a [.NotEq] [b] pos) (fB (f2 oC fa fb)):=jq (FA C.u64) kC ha hb (dq _)
def jc:D->Option Int->Option Int->Option D|.tuple ds,lo,hi=>some (.tuple (cut ds lo hi))|.list ds,lo,hi=>some (.list (cut ds lo hi))|_,_,_=>none
theorem Bk.cut(C:Bk X N sc k){lo hi:Option Expr}{fl fh:Env->Option (Option Int)}(ha:DE X a fa)(hl:DO X lo fl)(hh:DO X hi fh):DE X (.Subscript a (.Slice lo hi none p2) pos) (n0 jc fa fl fh):=aY (EA (LV.or Kg) ha hl hh) fun σ H Q ⟨HF,ρ,d,sm,eo,hf,q⟩=>by
 obtain⟨x,hx,hf⟩:=bs hf
 obtain⟨l,hl,hf⟩:=bs hf
 obtain⟨u,hu,hf⟩:=bs hf
 refine⟨HF,ρ,x,sm,eo,hx,fun v1 H1 HF1 g1 r1=>⟨HF1,ρ,l,g1.fh,eo.mono g1.ff,hl,fun H2 HF2 g2=>⟨HF2,ρ,u,g2.fh,eo.mono (g1.ff.trans g2.ff),hu,fun H3 HF3 g3=>?_⟩⟩⟩
 have G:=(g1.trans g2).trans g3
 have r3:=r1.mono (g2.ff.trans g3.ff)
 cases x<;>try cases hf
 ·simp only[Rep] at r3
  obtain⟨b,vs,rfl,hs,rr⟩:=r3
  refine .inr ⟨b,vs,rfl,G.fh.seq hs,fun p hp=>q _ _ _ (G.trans (.new G.fh hp)) ?_⟩
  simp only[Rep]
  exact⟨p,_,rfl,.inl (.inl aJ),(qy rr l u).mono (d6 (G.fh.free hp))⟩
 ·simp only[Rep] at r3
  obtain⟨b,vs,rfl,hs,rr⟩:=r3
  refine .inl ⟨b,vs,rfl,ay G.fh hs,fun e=>q _ H3 HF3 G ?_,fun p hp=>q _ _ _ (G.trans (.new G.fh hp)) (cY (G.fh.free hp) (qy rr l u))⟩
  simp only[Rep]
  refine⟨b,vs,rfl,hs,?_⟩
  have:=qy rr l u
  rw[e] at this
  exact this
theorem HC:bootBuiltins "len"=some (.builtin "len"):=by decide +kernel
theorem sL:bootBuiltins "isinstance"=some (.builtin "isinstance"):=by decide +kernel
theorem Fi:bootBuiltins "tuple"=some (.type "tuple"):=by decide +kernel
theorem xU:bootBuiltins "range"=some (.type "range"):=by decide +kernel
theorem MX:bootBuiltins "all"=some (.builtin "all"):=by decide +kernel
theorem Nm:bootBuiltins "set"=some (.type "set"):=by decide +kernel
theorem nO:bootBuiltins "sorted"=some (.builtin "sorted"):=by decide +kernel
theorem vJ:bootBuiltins "enumerate"=some (.type "enumerate"):=by decide +kernel
theorem MS:bootBuiltins "zip"=some (.type "zip"):=by decide +kernel
end
abbrev cX(f:Env->Option (List D)):Env->Option D:=fun ρ=>(f ρ).map PyData.list
abbrev bI:List D->Option D:=fun ds=>(du ds).map PyData.tuple
section
variable {X:Cx}{N:List Str}{sc:Scope}{k:Nat}
theorem Bk.locl(C:Bk X N sc k){x:Str}(h:decide (sc.names.lookup x=some .local)=true):X.env.scope.names.lookup x=some .local:=by
 rcases C.tb x _ (of_decide_eq_true h) with q|⟨q,_⟩
 ·exact q
 ·cases q
def isStar:Expr->Bool|.Starred ..=>true|_=>false
theorem bh{e:Expr}{es:List Expr}{env:PySem.Env}(h:isStar e=false):starEach (e::es) env=(false,eval e env)::starEach es env:=by
 cases e<;>first|rfl|cases h
theorem Lz{e:Expr}{es:List Expr}{f:Env->Option D}{g:Env->Option (List D)}(he:DE X e f)(hs:DA X es g)(h:isStar e=false:=by rfl):DA X (e::es) (aa f g):=wN he hs (bh h)
theorem qC{elt:Expr}{gens:List Comprehension}{scope:Scope}{pos py:Pos}{x:Str}{line:Nat}{env:PySem.Env}:swapsWith (.ListComp elt gens scope pos) (some (.Name x py)) line env=pure (env.blockKind == .function&&env.kindOf x == some .local && py.line == pos.line
     &&!(scope.names.any fun (n,k)=>n == x&&(k == .local || k == .cell))):=rfl
theorem KJ{env:PySem.Env}(h:env.scope.kind=.function):env.blockKind=.function:=by unfold PySem.Env.blockKind;rw[h];rfl
theorem Bk.swap(C:Bk X N sc k){elt:Expr}{gens:List Comprehension}{scope:Scope}{pos py:Pos}{x:Str}{line:Nat}(h:decide (sc.names.lookup x=some .local)=true)(h2:(py.line == pos.line&&!(scope.names.any fun (n,k)=>n == x&&(k == .local || k == .cell)))=true) :
  swapsWith (.ListComp elt gens scope pos) (some (.Name x py)) line X.env=pure true:=by
 rw[qC,KJ C.kd,show X.env.kindOf x=some .local from C.locl h]
 rw[Bool.and_assoc,h2]
 rfl
theorem Bk.noswap(C:Bk X N sc k){elt:Expr}{gens:List Comprehension}{scope:Scope}{pos py:Pos}{x:Str}{line:Nat}(h:decide (sc.names.lookup x=some .cell)=true) :
  swapsWith (.ListComp elt gens scope pos) (some (.Name x py)) line X.env=pure false:=by
 have q:X.env.kindOf x=some .cell:=by
  rcases C.tb x _ (of_decide_eq_true h) with q|⟨q,_⟩
  ·exact q
  ·cases q
 rw[qC,q,KJ C.kd]
 rfl
end
section
variable {K:W.Frag}
structure aC(K:W.Frag)(x:Str)(st:Stmt)(ps:List Str):Prop where
 ex:∃ (f:Addr) (fd:FuncData),W.nsIn K mainGlobals x=some (some (.ref f))/\JN K x x st f fd/\Binds K fd ps []
structure br(K:W.Frag)(mg:Str->Option Value)(x:Str)(st:Stmt)(ps:List Str):Prop where
 ex:∃ (f:Addr) (fd:FuncData),mg x=some (.ref f)/\JN K x x st f fd/\Binds K fd ps []
theorem aC.mg{h:Heap}{mg:Str->Option Value}{x:Str}{st:Stmt}{ps:List Str}(D:aC K x st ps)(X:K.In h)(G:h.Ns mainGlobals mg):br K mg x st ps:=by
 obtain⟨f,fd,a,b,c⟩:=D.ex
 exact⟨f,fd,W.mg_of X G a,b,c⟩
def iG(st:Stmt)(ps:List Str):Prop:=∀ (x qual:Str) (kV doc pm:Value) (an:Option Addr) (cdv ct:Value) (us:List Value),us.length=ps.length->bindArgs (W.fnOf x qual (iq st) (cC st) (aI st) .none kV doc pm an cdv ct) ⟨us,[]⟩=pure (ps.zip us)
theorem NH{x:Str}{st:Stmt}{ps:List Str}{f:Addr}{oc:Value}{od an:Option Addr}{osl:Array (Option Value)}{kV doc pm cdv ct:Value}(hb:iG st ps)(a:W.nsIn K mainGlobals x=some (some (.ref f)))(l:K.lookup f=some ⟨oc,od,.func (W.fnOf x x (iq st) (cC st) (aI st) .none kV doc pm an cdv ct),osl⟩)
  (c:W.codeIn K cdv x=true) (k:W.keepIn K (.ref f)=true):aC K x st ps:=⟨f,_,a,vZ (st:=st) l c k,(vZ (st:=st) l c k).binds fun kV doc pm an cdv ct us h=>hb _ _ kV doc pm an cdv ct us h⟩
structure mJ(K:W.Frag)(x:Str)(st:Stmt)(ps:List Str):Prop where
 ex:∃ (f:Addr) (fd:FuncData) (c P:Addr),W.nsIn K mainGlobals x=some (some (.ref f))/\JN K x x st f fd/\Binds K fd ps []/\fd.code=.ref c/\W.codeHdIn K c P=true
structure DV(K:W.Frag)(mg:Str->Option Value)(x:Str)(st:Stmt)(ps:List Str):Prop where
 ex:∃ (f:Addr) (fd:FuncData) (c P:Addr),mg x=some (.ref f)/\JN K x x st f fd/\Binds K fd ps []/\fd.code=.ref c/\W.codeHdIn K c P=true
theorem mJ.mg{h:Heap}{mg:Str->Option Value}{x:Str}{st:Stmt}{ps:List Str}(D:mJ K x st ps)(X:K.In h)(G:h.Ns mainGlobals mg):DV K mg x st ps:=by
 obtain⟨f,fd,c,P,a,b⟩:=D.ex
 exact⟨f,fd,c,P,W.mg_of X G a,b⟩
def EH(K:W.Frag)(c:Addr):Addr:=match K.lookup c with
 | some ⟨_,_,.fields vs,_⟩=>(match (vs[11]?:Option Value) with|some (.ref P)=>P|_=>0)
 | _=>0
theorem N5{x:Str}{st:Stmt}{ps:List Str}{f c:Addr}{oc:Value}{od an:Option Addr}{osl:Array (Option Value)}{kV doc pm ct:Value}(hb:iG st ps)(a:W.nsIn K mainGlobals x=some (some (.ref f)))(l:K.lookup f=some ⟨oc,od,.func (W.fnOf x x (iq st) (cC st) (aI st) .none kV doc pm an (.ref c) ct),osl⟩)
  (cd:W.codeIn K (.ref c) x=true) (k:W.keepIn K (.ref f)=true) (hh:W.codeHdIn K c (EH K c)=true):mJ K x st ps:=⟨f,_,c,EH K c,a,vZ (st:=st) l cd k,(vZ (st:=st) l cd k).binds fun kV doc pm an cdv ct us h=>hb _ _ kV doc pm an cdv ct us h,rfl,hh⟩
theorem Ga{x:Str}{i:Int}{t:Tok}(h:W.nsIn K mainGlobals x=some (some (.int i t))):∃t,W.nsIn K mainGlobals x=some (some (.int i t)):=⟨t,h⟩
theorem Lq{K:W.Frag}(h:(dc.all fun x=>match W.nsIn K mainGlobals x with|some none=>true|_=>false)=true):∀x∈dc,W.nsIn K mainGlobals x=some none:=by
 intro x hx
 have:=List.all_eq_true.mp h x hx
 split at this
 ·assumption
 ·cases this
theorem AX{K:W.Frag}{H:Hp}{a:Addr}{ns:List Int}{m:List D->Option D}(hS:iU K H a (ns.map V.int))(hT:gX K H)(h:m [.list (ns.map PyData.int)]=some (.bool true)){X:_}:LP K 1 m [.ref a] H (fun v _=>v=.bl true) X:=by
 refine⟨H,[.list (ns.map PyData.int)],.bool true,.refl _,hT,aq.cons ?_ aq.nil,rfl,h,fun v H' HF' G r=>by simpa only[Rep] using r⟩
 simp only[Rep]
 refine⟨a,_,rfl,hS,?_⟩
 clear h hS hT
 induction ns with
 | nil=>exact aq.nil
 | cons n ns ih=>exact aq.cons (by simp[Rep]) ih
end
theorem Ph{X:Cx}{e:Expr}{es:List Expr}{f:Env->Option D}{g:Env->Option (List D)}(h:isStar e=false)(he:DE X e f)(hs:DA X es g):DA X (e::es) (aa f g):=Lz he hs h
section
variable {X:Cx}{N:List Str}{sc:Scope}{k:Nat}{HF₀ H₀:Hp}{e c:Expr}{es:List Expr}{fs:Env->Option (List D)}{pos p:Pos}
def Nw:aj->Option Out:=fun _=>none
theorem Ox{st:Stmt}:DS X HF₀ H₀ st Nw:=fun pins s σ H E I ⟨HF,ρ,o,S,hg,q⟩=>by cases hg
def j4(f:Env->Option D):aj->Option Out:=fun ρ=>(f (bp ρ)).map fun _=>.nx ρ
theorem JE{f:Env->Option D}(hs:swapsWith e none pos.line X.env=pure false)(h:DE X e f):DS X HF₀ H₀ (.Expr e pos) (j4 f):=eH (pQ h hs) fun E σ H ⟨HF,ρ,o,S,hg,q⟩=>by
 obtain⟨d,h,rfl⟩:=ag hg
 exact⟨H,bp ρ,d,.refl _,S.all,h,fun v H' HF' G r=>q σ H' HF (S.step G.hh) (.refl _)⟩
def IQ(t:Env->Option Bool)(gb:aj->Option Out):Nat->aj->Option Out
 | 0,_=>none
 | n+1,ρ=>(t (bp ρ)).bind fun b=>if b=true then (gb ρ).bind fun|.nx ρ'=>IQ t gb n ρ'|.rt d=>some (.rt d) else some (.nx ρ)
theorem Fv(n:Nat){body:List Stmt}{t:Env->Option Bool}{gb:aj->Option Out}(hp:PassesOwn (model X.prog X.w) X.A X.env X.xe)(hc:DT X c t)(hb:Eo X HF₀ H₀ body gb):DS X HF₀ H₀ (.While c body [] pos) (IQ t gb n) :=
 eH (Ew hp hc hb) fun E σ H ⟨HF,ρ,o,S,hg,q⟩=>by
  refine⟨fun m σ' H'=>∃HF' ρ',j5 X.K HF₀ H₀ HF' H' ρ' σ'/\aQ HF HF'/\IQ t gb m ρ'=some o,⟨n,HF,ρ,S,.refl _,hg⟩,?_⟩
  rintro m σ' H' ⟨HF',ρ',S',s',hf⟩
  cases m with
  | zero=>cases hf
  | succ m =>
   unfold IQ at hf
   obtain⟨b,hb,hf⟩:=bs hf
   refine⟨H',bp ρ',b,.refl _,S'.all,hb,fun H1 HF1 G=>?_⟩
   cases b with
   | false =>
    rw[if_neg Bool.false_ne_true] at hf ⊢
    cases hf
    exact q σ' H1 HF' (S'.step G.hh) s'
   | true =>
    rw[if_pos rfl] at hf ⊢
    obtain⟨o1,h2,hf⟩:=bs hf
    refine⟨fun σ2 H3=>∃HF3 ρ3,j5 X.K HF₀ H₀ HF3 H3 ρ3 σ2/\aQ HF HF3/\IQ t gb m ρ3=some o,fun σ2 H3 ⟨HF3,ρ3,a1,a2,a3⟩=>⟨m,Nat.lt_succ_self _,HF3,ρ3,a1,a2,a3⟩,HF',ρ',o1,S'.step G.hh,h2,?_⟩
    cases o1 with
    | nx ρ2=>exact fun σ4 H4 HF4 S4 s4=>⟨HF4,ρ2,S4,s'.trans s4,hf⟩
    | rt d=>cases hf;exact q
def xM:List D->Option D
 | [.int a,.int b]=>some (.int (min a b))
 | [.int a,.int b,.int c]=>some (.int (min (min a b) c))
 | _=>none
theorem Ge(hc:X.calm=true):eL X (.builtin "min") (fun xs H Q=>(∃a b:Int,xs=[.int a,.int b]/\Q (.int (min a b)) H)\/(∃a b c:Int,xs=[.int a,.int b,.int c]/\Q (.int (min (min a b) c)) H)):=by
 intro pins s σ H xs us Q I r h
 have hh:X.A.handled=none:=I.ok.hd hc
 rcases h with ⟨a,b,rfl,q⟩|⟨a,b,c,rfl,q⟩
 ·cases r with
  | cons r1 r =>
   cases r with
   | cons r2 r =>
    cases r
    obtain⟨t,rfl⟩:=r1
    obtain⟨u,rfl⟩:=r2
    refine min_two_ints hh fun h' tk kp=>⟨.int (min a b),H,I.kept (t':=tk) kp,?_,q⟩
    by_cases h:b < a
    ·rw[if_pos h,show min a b=b by omega];exact⟨_,rfl⟩
    ·rw[if_neg h,show min a b=a by omega];exact⟨_,rfl⟩
 ·cases r with
  | cons r1 r =>
   cases r with
   | cons r2 r =>
    cases r with
    | cons r3 r =>
     cases r
     obtain⟨t,rfl⟩:=r1
     obtain⟨u,rfl⟩:=r2
     obtain⟨x,rfl⟩:=r3
     refine min_three_ints hh fun h' tk kp=>⟨.int (min (min a b) c),H,I.kept (t':=tk) kp,?_,q⟩
     by_cases h:b < a
     ·rw[if_pos h]
      by_cases h2:c < b
      ·rw[if_pos h2,show min (min a b) c=c by omega];exact⟨_,rfl⟩
      ·rw[if_neg h2,show min (min a b) c=b by omega];exact⟨_,rfl⟩
     ·rw[if_neg h]
      by_cases h2:c < a
      ·rw[if_pos h2,show min (min a b) c=c by omega];exact⟨_,rfl⟩
      ·rw[if_neg h2,show min (min a b) c=a by omega];exact⟨_,rfl⟩
theorem yP{K:W.Frag}{H:Hp}{d:D}{v:V}(r:Rep K H d v):∀ {ds:List D}{vs:List V}(j:Nat),aq K H ds vs->aq K H (ds.set j d) (vs.set j v)
 | [],vs,j,h=>by rw[h.nil_inv];exact aq.nil
 | x::ds,vs,j,h=>by
  obtain⟨u,us,rfl,a,b⟩:=h.cons_inv
  cases j with
  | zero=>exact aq.cons r b
  | succ j=>exact aq.cons a (yP r j b)
def AU(i:Nat)(fz:List Nat)(fk f:Env->Option D):aj->Option Out:=fun ρ=>(lS fz f ρ).bind fun p=>(fk (bp p.2)).bind fun kd=>match kd with
 | .int k=>nL i (fun ds=>(HL ds.length k).map fun j=>ds.set j p.1) p.2
 | _=>none
theorem G6(i:Nat)(fz:List Nat){x:Str}{e2:Expr}{px spos:Pos}{fk f:Env->Option D}(hN:X.N[i]?=some x)(hv:KQ X.env.scope x)(hk:DE X e fk)(h:DE X e2 f)(hd:(x == ("__debug__":Str))=false:=by decide)(hcd:(x == ("__classdict__":Str))=false:=by decide)
  (ha:∀v,assign (.Subscript (.Name x px) e spos) X.env v=(do
   let ov <- holding [v] (eval (.Name x px) X.env)
   let iv <- holding [v,ov] (eval e X.env)
   standAt spos
   holding [v,ov,iv] (setItem ov iv v)
   release [v,ov,iv] []):=by intro _;rfl)
  (hs:swapsWithSole [.Subscript (.Name x px) e spos] e2 pos.line X.env=pure false:=by rfl) (hw:swappedStores [.Subscript (.Name x px) e spos] e2 X.env=pure none:=by rfl)
  (h1:(assignEach [.Subscript (.Name x px) e spos] X.env).map (·.2)=[assign (.Subscript (.Name x px) e spos) X.env]:=by rfl):DS X HF₀ H₀ (.Assign [.Subscript (.Name x px) e spos] e2 pos) (AU i fz fk f) :=
 eH (Lu h (Mz (qT hN hv hd hcd) hk set_list ha) hs hw h1) fun E σ H ⟨HF,ρ,o,S,hg,q⟩=>by
  obtain⟨⟨d,ρ'⟩,h1,hg⟩:=bs hg
  obtain⟨kd,h2,hg⟩:=bs hg
  cases kd<;>try cases hg
  rename_i k
  obtain⟨ds,es,h3,h4,rfl⟩:=k9 hg
  obtain⟨j,hj,rfl⟩:=ag h4
  refine nK S h1 fun v H1 HF1 s1 S1 s2 r=>?_
  obtain⟨a,vs,e1,e2,e3,e5,e4⟩:=S1.own i ds h3
  refine⟨.ref a,e1,H1,bp ρ',.int k,.refl _,S1.all,h2,fun kv H2 HF2 G rk=>?_⟩
  simp only[Rep] at rk
  have S2:=S1.step G.hh
  obtain⟨a',vs',f1,f2,f3,f5,f4⟩:=S2.own i ds h3
  rw[e1] at f1;cases f1
  exact⟨a,vs',k,j,rfl,rk,f2,by rw[f4.length];exact hj,q σ _ HF1 (S2.mut h3 e1 f2 (yP r j f4)) s1⟩
end
section
variable {X:Cx}{N:List Str}{sc:Scope}{k:Nat}{HF₀ H₀:Hp}{a b e c:Expr}{es:List Expr}{fa fb:Env->Option D}{fs:Env->Option (List D)}{pos p:Pos}
def NY:D->Bool|.none=>true|_=>false
theorem pR{K:W.Frag}{HF:Hp}{d:D}{v:V}(r:Rep K HF d v):decide (v=.non)=NY d:=by
 cases d<;>simp only[Rep] at r<;>first
  | (subst r;rfl)
  | (obtain⟨a,vs,rfl,_⟩:=r;rfl)
  | exact r.elim
def sV:D->D->Option D:=fun x y=>if NY y=true then some (.bool (NY x)) else none
def oH:D->D->Option D:=fun x y=>if NY y=true then some (.bool (!NY x)) else none
theorem Cv{K:W.Frag}:gu K (fun x y H Q=>y=.non/\Q (.bl (decide (x=.non))) H) sV:=by
 intro HF H x y v1 v2 d Q sm r1 r2 hg q
 unfold sV at hg
 split at hg
 ·rename_i h
  cases hg
  have h2:=pR r2
  rw[h,zJ] at h2
  refine⟨h2,?_⟩
  rw[pR r1]
  exact q _ H HF (.refl sm) (by simp[Rep])
 ·cases hg
theorem xo{K:W.Frag}:gu K (fun x y H Q=>y=.non/\Q (.bl (!decide (x=.non))) H) oH:=by
 intro HF H x y v1 v2 d Q sm r1 r2 hg q
 unfold oH at hg
 split at hg
 ·rename_i h
  cases hg
  have h2:=pR r2
  rw[h,zJ] at h2
  refine⟨h2,?_⟩
  rw[pR r1]
  exact q _ H HF (.refl sm) (by simp[Rep])
 ·cases hg
theorem Bk.is0(C:Bk X N sc k)(ha:DE X a fa)(hb:DE X b fb):DE X (.Compare a [.Is] [b] pos) (f2 sV fa fb):=jA E3 Cv ha hb (dq _)
theorem Bk.not0(C:Bk X N sc k)(ha:DE X a fa)(hb:DE X b fb):DE X (.Compare a [.IsNot] [b] pos) (f2 oH fa fb):=jA Bs xo ha hb (dq _)
theorem Bk.tis0(C:Bk X N sc k)(ha:DE X a fa)(hb:DE X b fb):DT X (.Compare a [.Is] [b] pos) (fB (f2 sV fa fb)):=jq E3 Cv ha hb (dq _)
theorem Bk.tnot0(C:Bk X N sc k)(ha:DE X a fa)(hb:DE X b fb):DT X (.Compare a [.IsNot] [b] pos) (fB (f2 oH fa fb)):=jq Bs xo ha hb (dq _)
theorem Ls(hc:X.calm=true)(B:oK X "min" (.builtin "min"))(he:starEach (e::es) X.env=(false,eval e X.env)::starEach es X.env)(hpl:(backTo pos (starEach es X.env)).any (·.1)=false)(ha:DA X (e::es) fs):DE X (.Call (.Name "min" p) (e::es) [] pos) (aZ xM fs) :=
 gL (Ge hc) (by
  intro HF H ds vs d Q sm r hg q
  unfold xM at hg
  split at hg
  ·cases hg
   obtain⟨v1,r1,rfl,a1,b1⟩:=r.cons_inv
   obtain⟨v2,r2,rfl,a2,b2⟩:=b1.cons_inv
   rw[b2.nil_inv]
   simp only[Rep] at a1 a2
   exact .inl ⟨_,_,by rw[a1,a2],q _ H HF (.refl sm) (by simp[Rep])⟩
  ·cases hg
   obtain⟨v1,r1,rfl,a1,b1⟩:=r.cons_inv
   obtain⟨v2,r2,rfl,a2,b2⟩:=b1.cons_inv
   obtain⟨v3,r3,rfl,a3,b3⟩:=b2.cons_inv
   rw[b3.nil_inv]
   simp only[Rep] at a1 a2 a3
   exact .inr ⟨_,_,_,by rw[a1,a2,a3],q _ H HF (.refl sm) (by simp[Rep])⟩
  ·cases hg) B ha (by decide) (by decide) he hpl
end
section
variable {X:Cx}{a b e c:Expr}{es:List Expr}{fa fb:Env->Option D}{fl fs:Env->Option (List D)}{pos p:Pos}
theorem AK(hc:X.calm=true):eL X (.builtin "any") (fun xs H Q=>∃ (a:Addr) (bs:List Bool),xs=[.ref a]/\iU X.K H a (bs.map V.bl)/\Q (.bl (bs.any id)) H):=by
 intro pins s σ H xs us Q I r h
 obtain⟨a,bs,rfl,hq,q⟩:=h
 obtain⟨u,rfl,rx⟩:=vals1 r
 cases rx
 obtain⟨its,rv,pl,hz⟩:=I.list hq
 have hv:=my rv
 subst hv
 have hh:X.A.in1.handled=none:=I.ok.hd hc
 refine call_any_walk (wpAny_pyIter_list pl.isList ?_)
 obtain⟨o,ho,hcl,n,hd⟩:=pl.isList
 have hne:a≠s.heap.objs.size:=Nat.ne_of_lt (zZ ho)
 refine⟨_,_,_,_,_,_,fun i=>bs.getD i false,rfl,Walks.list hh s.heap.objs.size a hne (bs.map Value.bool).toArray,⟨⟨_,zY _ rfl,rfl,rfl⟩,pl.isList.push _⟩,fun i v s' Q' E' hP hQ=>?_,fun h' tk kp=>?_⟩
 ·have e:v=Value.bool (bs.getD i false):=by
   have hP:(bs.map Value.bool).toArray[i]?=some v:=hP
   rw[List.getElem?_toArray,zO] at hP
   obtain⟨b,hb,rfl⟩:=ag hP
   rw[zG,hb]
   rfl
  subst e
  exact wpAny_truthy_bool hQ
 ·refine⟨.bl (bs.any id),H,?_,?_,q⟩
  ·exact I.kept (t':=tk) fun b o' e=>kp b o' (by simp;exact Nat.ne_of_lt (zZ e)) (zV _ e)
  ·show Value.bool _=Value.bool _
   have:=range_any bs
   simp only[zH,zD]
   rw[this]
end
section
variable {X:Cx}{e:Expr}{fs:Env->Option (List D)}{pos p:Pos}
theorem LC(hc:X.calm=true)(B:oK X "any" (.builtin "any"))(he:starEach [e] X.env=(false,eval e X.env)::starEach [] X.env)(ha:DA X [e] fs):DE X (.Call (.Name "any" p) [e] [] pos) (aZ (fun ds=>(oneOf ds).bind fun d=>match d with
 | .list es=>(boolsOf es).map fun bs=>.bool (bs.any id)
 | _=>none) fs) :=
 gL (AK hc) (by
  intro HF H ds vs d Q sm r hg q
  obtain⟨x,hx,hg⟩:=bs hg
  rw[gH hx] at r
  cases x<;>try cases hg
  obtain⟨bs,hb,rfl⟩:=ag hg
  obtain⟨v,r',rfl,a,b⟩:=r.cons_inv
  rw[b.nil_inv]
  simp only[Rep] at a
  obtain⟨p,us,rfl,h,rr⟩:=a
  rw[jL hb] at rr
  have:=ml rr
  subst this
  exact⟨p,bs,rfl,sm.seq h,q _ H HF (.refl sm) (by simp[Rep])⟩) B ha (by decide) (by decide) he rfl
theorem oY(ns:List Int):∀j:Nat,preSum (fun i=>ns.getD i 0) j=(ns.take j).sum
 | 0=>by simp[preSum]
 | j+1=>by
  rw[preSum,oY ns j,List.take_add_one,List.sum_append]
  congr 1
  rw[zG]
  cases ns[j]?<;>simp
theorem tN(val:Nat->Int)(B:Int)(h:∀i,-B<=val i/\val i<=B):∀j:Nat,-(B * j)<=preSum val j/\preSum val j<=B * j
 | 0=>by simp[preSum]
 | j+1=>by
  have ih:=tN val B h j
  have:=h j
  rw[preSum]
  have e:B * ((j+1:Nat):Int)=B * (j:Int)+B:=by rw[Int.natCast_add,Int.mul_add];simp
  rw[e]
  omega
def ID(ns:List Int):Bool:=decide (ns.length<=1000)&&ns.all fun n=>decide (-1000000<=n)&&decide (n<=1000000)
theorem MW{ns:List Int}(h:ID ns=true):ns.length<=1000/\∀i,-1000000<=ns.getD i 0/\ns.getD i 0<=1000000:=by
 unfold ID at h
 rw[zF,zJ,List.all_eq_true] at h
 refine⟨h.1,fun i=>?_⟩
 rw[zG]
 cases e:ns[i]? with
 | none=>simp
 | some n =>
  have:=h.2 n (List.mem_of_getElem? e)
  simpa using this
theorem p5{ns:List Int}{its:List Value}(r:aB (ns.map V.int) its){i:Nat}{v:Value}(h:its.toArray[i]?=some v):∃t,v=.int (ns.getD i 0) t:=by
 rw[List.getElem?_toArray] at h
 induction ns generalizing its i with
 | nil=>cases r;simp at h
 | cons n ns ih =>
  cases r with
  | cons r1 rr =>
   cases i with
   | zero =>
    simp only[List.getElem?_cons_zero,yM] at h
    subst h
    obtain⟨t,rfl⟩:=r1
    exact⟨t,rfl⟩
   | succ i =>
    simp only[List.getElem?_cons_succ] at h
    exact ih rr h
theorem A1(hc:X.calm=true):eL X (.builtin "sum") (fun xs H Q=>∃ (a:Addr) (ns:List Int),xs=[.ref a]/\(iU X.K H a (ns.map V.int)\/ji X.K H a (ns.map V.int))/\ID ns=true/\Q (.int ns.sum) H):=by
 intro pins s σ H xs us Q I r h
 obtain⟨a,ns,rfl,hq,hok,q⟩:=h
 obtain⟨u,rfl,rx⟩:=vals1 r
 cases rx
 have hh:X.A.in1.handled=none:=I.ok.hd hc
 obtain⟨hlen,hbd⟩:=MW hok
 have hin:∀n:Nat,n<=1000->∀j,j < n->InLong ((fun i=>ns.getD i 0) j)/\InLong (preSum (fun i=>ns.getD i 0) (j+1)):=fun n hn j hj=>by
  have h1:=hbd j
  have h2:=tN (fun i=>ns.getD i 0) 1000000 hbd (j+1)
  refine⟨⟨?_,?_⟩,?_,?_⟩
  ·show -(2 ^ 63)<=ns.getD j 0
   omega
  ·show ns.getD j 0 < 2 ^ 63
   omega
  ·omega
  ·omega
 have hsum:preSum (fun i=>ns.getD i 0) ns.length=ns.sum:=by rw[oY,List.take_length]
 rcases hq with hq|hq
 ·obtain⟨its,rv,pl,hz⟩:=I.list hq
  have hl:its.length=ns.length:=by rw[<- rv.length,zD]
  refine call_sum_walk (wpAny_pyIter_list pl.isList ?_)
  obtain⟨o,ho,hcl,n,hd⟩:=pl.isList
  have hlt:=zZ ho
  have hne:a≠s.heap.objs.size:=Nat.ne_of_lt hlt
  refine⟨_,_,_,_,_,_,fun i=>ns.getD i 0,rfl,Walks.list hh s.heap.objs.size a hne its.toArray,⟨⟨_,zY _ rfl,rfl,rfl⟩,pl.isList.push _⟩,fun b hb=>?_,fun i v hP=>p5 rv hP,by rw[zH,hl];exact hin _ hlen,fun h' tk t' kp=>?_⟩
  ·show b < (s.heap.push _).objs.size
   rw[Heap.size_push]
   simp only[zR,yG,or_false] at hb
   rcases hb with rfl|rfl
   ·exact Nat.lt_succ_self _
   ·exact Nat.lt_succ_of_lt hlt
  ·refine⟨.int ns.sum,H,I.kept (t':=tk) fun b o' e=>kp b o' (by simp;exact Nat.ne_of_lt (zZ e)) (zV _ e),⟨t',?_⟩,q⟩
   rw[zH,hl,hsum]
 ·obtain⟨its,rv,pl,hz⟩:=I.tuple hq
  have pl:s.heap.IsTuple a its.toArray:=pl
  have hl:its.length=ns.length:=by rw[<- rv.length,zD]
  refine call_sum_walk (wpAny_pyIter_tuple pl ?_)
  obtain⟨o,ho,hcl,n,hd⟩:=id pl
  have hlt:=zZ ho
  have hne:a≠s.heap.objs.size:=Nat.ne_of_lt hlt
  refine⟨_,_,_,_,_,_,fun i=>ns.getD i 0,rfl,Walks.tuple hh s.heap.objs.size a hne its.toArray,⟨⟨_,zY _ rfl,rfl,rfl⟩,pl.push _⟩,fun b hb=>?_,fun i v hP=>p5 rv hP,by rw[zH,hl];exact hin _ hlen,fun h' tk t' kp=>?_⟩
  ·show b < (s.heap.push _).objs.size
   rw[Heap.size_push]
   simp only[zR,yG,or_false] at hb
   rcases hb with rfl|rfl
   ·exact Nat.lt_succ_self _
   ·exact Nat.lt_succ_of_lt hlt
  ·refine⟨.int ns.sum,H,I.kept (t':=tk) fun b o' e=>kp b o' (by simp;exact Nat.ne_of_lt (zZ e)) (zV _ e),⟨t',?_⟩,q⟩
   rw[zH,hl,hsum]
end
section
variable {X:Cx}{e:Expr}{fs:Env->Option (List D)}{pos p:Pos}
def gw:List D->Option D:=fun ds=>(du ds).bind fun es=>(intsOf es).bind fun ns=>if ID ns=true then some (.int ns.sum) else none
theorem lj{K:W.Frag}{H:Hp}:∀ {ns:List Int}{vs:List V},aq K H (ns.map PyData.int) vs->vs=ns.map V.int
 | [],vs,h=>h.nil_inv
 | b::bs,vs,h=>by
  obtain⟨v,r,rfl,a,c⟩:=h.cons_inv
  simp only[Rep] at a
  rw[a,lj c]
  rfl
theorem Le(hc:X.calm=true)(B:oK X "sum" (.builtin "sum"))(he:starEach [e] X.env=(false,eval e X.env)::starEach [] X.env)(ha:DA X [e] fs):DE X (.Call (.Name "sum" p) [e] [] pos) (aZ gw fs) :=
 gL (A1 hc) (by
  intro HF H ds vs d Q sm r hg q
  obtain⟨es,h1,hg⟩:=bs hg
  obtain⟨ns,h2,hg⟩:=bs hg
  have hg:(if ID ns=true then some (PyData.int ns.sum) else none)=some d:=hg
  split at hg
  ·rename_i hok
   cases hg
   have e2:=dX h2
   subst e2
   rcases k7 h1 with rfl|rfl
   all_goals
    obtain⟨v,r',rfl,a,b⟩:=r.cons_inv
    rw[b.nil_inv]
    simp only[Rep] at a
    obtain⟨p,us,rfl,h,rr⟩:=a
    have:=lj rr
    subst this
   ·exact⟨p,ns,rfl,.inr (ay sm h),hok,q _ H HF (.refl sm) (by simp[Rep])⟩
   ·exact⟨p,ns,rfl,.inl (sm.seq h),hok,q _ H HF (.refl sm) (by simp[Rep])⟩
  ·cases hg) B ha (by decide) (by decide) he rfl
end
section
variable {X:Cx}
def Nx(i:Int):Value->Bool|.int a _=>a == i|_=>false
theorem Eb:NI X "list.index" (fun x vs H Q=>∃ (l:Addr) (ns:List Int) (i:Int) (j:Nat),x=.ref l/\vs=[.int i]/\iU X.K H l (ns.map V.int)/\ns[j]?=some i/\(∀m,m < j->ns[m]?≠some i)/\Q (.int j) H):=by
 intro pins s σ H x vs v us Q I rx rv h
 obtain⟨l,ns,i,j,rfl,rfl,hq,hj,hno,q⟩:=h
 cases rx
 obtain⟨u,rfl,ru⟩:=rv.one
 obtain⟨t,rfl⟩:=ru
 obtain⟨its,r,pl,hz⟩:=I.list hq
 obtain⟨⟨cls,dd,data,sl⟩,ho,hc,n,hd⟩:=id pl.isList
 simp only at hc hd
 subst hc hd
 have hl:its.length=ns.length:=by rw[<- r.length,zD]
 have hj1:j < ns.length:=(zU.mp hj).1
 have hz':ns.length<=sizeLine:=by rw[zD] at hz;exact hz
 have hs63:(sizeLine:Nat) < 2 ^ 62:=by decide
 have at_:∀m (hm:m < its.toArray.size),∃t',its.toArray[m]=.int (ns.getD m 0) t':=fun m hm=>p5 r (Array.getElem?_eq_getElem hm)
 refine call_meets F.slot_list_index ⟨_,ho,rfl⟩ F.entry_list_index (F.args_list_index_2 _ _) (PySem.SeqAt.list_indexAt l its.toArray n dd sl (.int i t) (Nx i) j (by rw[zH,hl];exact hj1) (by omega) ?_ ?_) ⟨ho,?_,?_⟩
 ·obtain⟨t',e⟩:=at_ j (by rw[zH,hl];exact hj1)
  rw[e,Nx,zG,hj]
  simp
 ·intro m hm hmj
  obtain⟨t',e⟩:=at_ m hm
  have hm':m < ns.length:=by omega
  have:=hno m hmj
  rw[e,Nx,zG]
  rw[zK hm'] at this ⊢
  simp only[Option.getD_some,beq_eq_false_iff_ne]
  exact fun h=>this (by rw[h])
 ·intro y hy
  obtain⟨m,hm,rfl⟩:=Array.getElem_of_mem hy
  obtain⟨t',e⟩:=at_ m hm
  rw[e]
  exact PySem.SeqAt.EqAt.int_int _ _ _ _
 ·exact⟨.int j,H,I.tok _,⟨_,rfl⟩,q⟩
def zc(i:Int):List Int->Option Nat
 | []=>none
 | n::ns=>if n=i then some 0 else (zc i ns).map (·+1)
theorem oq{i:Int}:∀ {ns:List Int}{j:Nat},zc i ns=some j->ns[j]?=some i/\∀m,m < j->ns[m]?≠some i
 | [],j,h=>by cases h
 | n::ns,j,h=>by
  unfold zc at h
  split at h
  ·cases h
   rename_i e
   exact⟨by rw[e];rfl,fun m hm=>absurd hm (Nat.not_lt_zero _)⟩
  ·rename_i e
   obtain⟨k,hk,rfl⟩:=ag h
   obtain⟨a,b⟩:=oq hk
   refine⟨by simpa using a,fun m hm=>?_⟩
   cases m with
   | zero=>simpa using e
   | succ m=>simpa using b m (by omega)
def P1:D->D->Option D
 | .list es,.int i=>(intsOf es).bind fun ns=>(zc i ns).map fun j=>.int ((j:Nat):Int)
 | _,_=>none
theorem FR{o e:Expr}{apos cpos:Pos}{fo fe:Env->Option D}(hbase:attributeBase o "index" X.env (eval o X.env)=eval o X.env)
  (hfew:((backTo cpos (starEach [e] X.env)).all (fun x=>!x.1)&&(backToKw cpos (keywordEach [] X.env)).all (fun x=>x.1.isSome)&&decide ([e].length+([]:List Keyword).length+(if ([]:List Keyword).isEmpty then 0 else 1) < 30))=true)
  (hline:(apos.endLine == cpos.line)=true) (hs:starEach [e] X.env=(false,eval e X.env)::starEach [] X.env) (ho:DE X o fo) (he:DE X e fe):DE X (.Call (.Attribute o "index" apos) [e] [] cpos) (f2 P1 fo fe) :=
 aY (xW PySem.F.plainAttrs_list PySem.F.slot_list_index PySem.F.type_list_index Eb ho (di he iN hs) hbase hfew hline hs rfl) fun σ H Q ⟨HF,ρ,d,sm,eo,hf,q⟩=>by
  obtain⟨x,hx,hf⟩:=bs hf
  obtain⟨y,hy,hg⟩:=bs hf
  refine⟨HF,ρ,x,sm,eo,hx,fun v1 H1 HF1 g1 r1=>?_⟩
  cases x<;>try cases hg
  cases y<;>try cases hg
  rename_i es i
  obtain⟨ns,h1,hg⟩:=bs hg
  obtain⟨j,h2,rfl⟩:=ag hg
  have e1:=dX h1
  subst e1
  simp only[Rep] at r1
  obtain⟨l,us,rfl,hq,rr⟩:=r1
  have:=lj rr
  subst this
  refine⟨.inl ⟨rfl,_,g1.fh.seq hq⟩,HF1,ρ,.int i,g1.fh,eo.mono g1.ff,hy,fun v2 H2 HF2 g2 r2=>?_⟩
  simp only[Rep] at r2
  obtain⟨a,b⟩:=oq h2
  exact⟨l,ns,i,j,rfl,by rw[r2],g2.fh.seq (g2.ff.seq hq),a,b,q _ H2 HF2 (g1.trans g2) (by simp[Rep])⟩
end
end Dl
namespace Tx
open PySem PySem.SeqAt PyProof.Rows
open PySem.AutoSeq1 (wpAny_loadPart')
open PySem.MeetsSeq PySem.MeetsSeq2 PySem.MeetsSeq3
theorem wpR{M:Model}{A:Around}{E:Value->Shared->Prop}{s:Shared}{β:Type}(f:Nat->β->Sem (ForInStep β))(I:List Nat->β->Shared->Prop)(Q:β->Shared->Prop)
  (turn:∀x rest b s,I (x::rest) b s->wpAny M A (f x b) (fun r s'=>match r with|.yield b'=>I rest b' s'|.done b'=>Q b' s') E s)
  (fin:∀b s,I [] b s->Q b s) (n:Nat) (b:β) (h:I (List.range' 0 n 1) b s):wpAny M A (forIn [:n] b f) Q E s:=by
 have e:forIn [:n] b f=forIn (List.range' 0 n 1) b f:=by
  rw[Std.Legacy.Range.forIn_eq_forIn_range']
  simp[Std.Legacy.Range.size]
 rw[e]
 exact wpAny_forIn_list f I Q turn fin _ b h
theorem tuple_indexAt(l:Addr)(items:Array Value)(n:Nat)(dd:Option Addr)(sl:Array (Option Value))(x:Value)(e:Value->Bool)(j:Nat)(hj:j < items.size)(h1:e items[j]=true)(h2:∀m (hm:m < items.size),m < j->e items[m]=false) :
  Meets (Builtin.«tuple.index» ⟨[.ref l,x],[]⟩)
   (fun A R s=>s.heap.get? l=some { cls:=.type "tuple",dict:=dd,data:=.seq items n,slots:=sl }/\(∀y,y∈items->EqAt A.in1 s y x (e y))/\R (.ok (.ret (.int (j:Nat) s.toks))) { s with toks:=s.toks+1 }) :=
 .of_wp fun prog w A R s h=>by
  obtain⟨hp,g,d,tk,os⟩:=s;obtain⟨hl,he,h⟩:=h
  wp_walk using wpAny_loadPart' hl,wpR _ (fun rest b s'=>s'=⟨hp,g,d,tk,os⟩/\b.1=none/\∃i,i<=j/\rest=List.range' i (items.size - i) 1) _
  case turn =>
   rintro i rest b s' ⟨rfl,hb,i',hi,e1⟩
   have hlt:i' < items.size:=by omega
   rw[show items.size - i'=(items.size - (i'+1))+1 by omega,List.range'_succ] at e1
   injection e1 with e2 e3
   subst e2
   subst e3
   simp only[Array.getElem?_eq_getElem hlt]
   refine zW (he _ (Array.getElem_mem hlt) prog w _ _ ?_)
   by_cases hij:i=j
   ·subst hij
    rw[h1]
    wp_walk
    exact⟨_,rfl,h⟩
   ·rw[h2 i hlt (by omega)]
    wp_walk
    exact⟨rfl,rfl,i+1,by omega,rfl⟩
  case fin =>
   rintro b s' ⟨rfl,hb,i,hi,e1⟩
   have:=congrArg List.length e1
   simp at this
   omega
  case h =>
   exact⟨rfl,rfl,0,Nat.zero_le _,by simp⟩
end Tx
namespace Dl
open PySem L2 PySem.Spec PyProof.Rows
section
variable {X:Cx}
theorem DP:NI X "tuple.index" (fun x vs H Q=>∃ (l:Addr) (ns:List Int) (i:Int) (j:Nat),x=.ref l/\vs=[.int i]/\ji X.K H l (ns.map V.int)/\ns[j]?=some i/\(∀m,m < j->ns[m]?≠some i)/\Q (.int j) H):=by
 intro pins s σ H x vs v us Q I rx rv h
 obtain⟨l,ns,i,j,rfl,rfl,hq,hj,hno,q⟩:=h
 cases rx
 obtain⟨u,rfl,ru⟩:=rv.one
 obtain⟨t,rfl⟩:=ru
 obtain⟨its,r,pl,hz⟩:=I.tuple hq
 obtain⟨⟨cls,dd,data,sl⟩,ho,hc,n,hd⟩:=id pl
 simp only at hc hd
 subst hc hd
 have hl:its.length=ns.length:=by rw[<- r.length,zD]
 have hj1:j < ns.length:=(zU.mp hj).1
 have at_:∀m (hm:m < its.toArray.size),∃t',its.toArray[m]=.int (ns.getD m 0) t':=fun m hm=>p5 r (Array.getElem?_eq_getElem hm)
 refine call_meets F.slot_tuple_index ⟨_,ho,rfl⟩ F.entry_tuple_index (F.args_tuple_index_2 _ _) (Tx.tuple_indexAt l its.toArray n dd sl (.int i t) (Nx i) j (by rw[zH,hl];exact hj1) ?_ ?_) ⟨ho,?_,?_⟩
 ·obtain⟨t',e⟩:=at_ j (by rw[zH,hl];exact hj1)
  rw[e,Nx,zG,hj]
  simp
 ·intro m hm hmj
  obtain⟨t',e⟩:=at_ m hm
  have hm':m < ns.length:=by
   rw[zH] at hm
   omega
  have:=hno m hmj
  rw[e,Nx,zG]
  rw[zK hm'] at this ⊢
  simp only[Option.getD_some,beq_eq_false_iff_ne]
  exact fun h=>this (by rw[h])
 ·intro y hy
  obtain⟨m,hm,rfl⟩:=Array.getElem_of_mem hy
  obtain⟨t',e⟩:=at_ m hm
  rw[e]
  exact PySem.SeqAt.EqAt.int_int _ _ _ _
 ·exact⟨.int j,H,I.tok _,⟨_,rfl⟩,q⟩
theorem GZ{e:Expr}{t u:TE}(h:PE X e t)(g:PE X e u):PE X e (fun σ H Q=>t σ H Q\/u σ H Q):=fun pins s σ H Q I q=>q.elim (h pins s σ H Q I) (g pins s σ H Q I)
def pH:D->D->Option D
 | .list es,.int i=>(intsOf es).bind fun ns=>(zc i ns).map fun j=>.int ((j:Nat):Int)
 | .tuple es,.int i=>(intsOf es).bind fun ns=>(zc i ns).map fun j=>.int ((j:Nat):Int)
 | _,_=>none
theorem CM{o e:Expr}{apos cpos:Pos}{fo fe:Env->Option D}(hbase:attributeBase o "index" X.env (eval o X.env)=eval o X.env)
  (hfew:((backTo cpos (starEach [e] X.env)).all (fun x=>!x.1)&&(backToKw cpos (keywordEach [] X.env)).all (fun x=>x.1.isSome)&&decide ([e].length+([]:List Keyword).length+(if ([]:List Keyword).isEmpty then 0 else 1) < 30))=true)
  (hline:(apos.endLine == cpos.line)=true) (hs:starEach [e] X.env=(false,eval e X.env)::starEach [] X.env) (ho:DE X o fo) (he:DE X e fe):DE X (.Call (.Attribute o "index" apos) [e] [] cpos) (f2 pH fo fe) :=
 aY (GZ (FR hbase hfew hline hs ho he) (xW PySem.F.plainAttrs_tuple PySem.F.slot_tuple_index PySem.F.type_tuple_index DP ho (di he iN hs) hbase hfew hline hs rfl)) fun σ H Q ⟨HF,ρ,d,sm,eo,hf,q⟩=>by
  obtain⟨x,hx,hf⟩:=bs hf
  obtain⟨y,hy,hg⟩:=bs hf
  cases x<;>try cases hg
  ·cases y<;>try cases hg
   rename_i es i
   exact .inl ⟨HF,ρ,d,sm,eo,by simp only[f2,hx,hy,zA];exact hg,q⟩
  ·cases y<;>try cases hg
   rename_i es i
   obtain⟨ns,h1,hg⟩:=bs hg
   obtain⟨j,h2,rfl⟩:=ag hg
   have e1:=dX h1
   subst e1
   refine .inr ⟨HF,ρ,_,sm,eo,hx,fun v1 H1 HF1 g1 r1=>?_⟩
   simp only[Rep] at r1
   obtain⟨l,us,rfl,hq,rr⟩:=r1
   have:=lj rr
   subst this
   refine⟨?_,HF1,ρ,.int i,g1.fh,eo.mono g1.ff,hy,fun v2 H2 HF2 g2 r2=>?_⟩
   ·first|exact .inr (.inl ⟨rfl,_,ay g1.fh hq⟩)|exact .inl ⟨rfl,_,ay g1.fh hq⟩|exact .inr ⟨rfl,_,ay g1.fh hq⟩
   ·simp only[Rep] at r2
    obtain⟨a,b⟩:=oq h2
    exact⟨l,ns,i,j,rfl,by rw[r2],ay g2.fh (ay g2.ff hq),a,b,q _ H2 HF2 (g1.trans g2) (by simp[Rep])⟩
end
end Dl
namespace Zp
open PySem PyProof.Rows
def IsI(b:Bool)(h:Heap)(it l:Addr)(k:Nat):Prop:=match b with|true=>h.IsTupleIter it l k|false=>h.IsListIter it l k
def IsS(b:Bool)(h:Heap)(l:Addr)(xs:Array Value):Prop:=match b with|true=>h.IsTuple l xs|false=>h.IsList l xs
theorem IsI.obj{b:Bool}{h:Heap}{it l:Addr}{k:Nat}(x:IsI b h it l k):∃o,h.get? it=some o/\∀v,o.data≠.cell v:=by
 cases b
 ·obtain⟨o,e,_,d⟩:=(show h.IsListIter it l k from x);exact⟨o,e,fun v q=>by rw[d] at q;cases q⟩
 ·obtain⟨o,e,_,d⟩:=(show h.IsTupleIter it l k from x);exact⟨o,e,fun v q=>by rw[d] at q;cases q⟩
theorem IsI.at{b:Bool}{h h':Heap}{it l:Addr}{k:Nat}(x:IsI b h it l k)(e:∀o,h.get? it=some o->h'.get? it=some o):IsI b h' it l k:=by
 cases b
 ·exact Heap.IsListIter.at x e
 ·exact Heap.IsTupleIter.at x e
theorem IsI.extBut{b:Bool}{h h':Heap}{a it l:Addr}{k:Nat}(x:IsI b h it l k)(e:Heap.ExtBut a h h')(n:it≠a):IsI b h' it l k:=x.at fun o q=>e it o n q
theorem IsS.at{b:Bool}{h h':Heap}{l:Addr}{xs:Array Value}(x:IsS b h l xs)(e:∀o,h.get? l=some o->h'.get? l=some o):IsS b h' l xs:=by
 cases b
 ·obtain⟨o,q,r⟩:=(show h.IsList l xs from x);exact⟨o,e o q,r⟩
 ·obtain⟨o,q,r⟩:=(show h.IsTuple l xs from x);exact⟨o,e o q,r⟩
theorem IsS.extBut{b:Bool}{h h':Heap}{a l:Addr}{xs:Array Value}(x:IsS b h l xs)(e:Heap.ExtBut a h h')(n:l≠a):IsS b h' l xs:=x.at fun o q=>e l o n q
section
variable {prog:Program}{w:World}{A:Around}{E:Value->Shared->Prop}{s:Shared}
theorem nxt{b:Bool}{j t:Addr}{k:Nat}{its:Array Value}{v:Value}{Q:Value->Shared->Prop}(hj:IsI b s.heap j t k)(ht:IsS b s.heap t its)(hv:its[k]?=some v)
  (hQ:∀g,IsI b g j t (k+1)->Heap.SameBut j s.heap g->Q v { s with heap:=g }):wpAny (model prog w) A (Builtin.SmallTypes.nextOf (.ref j)) Q E s:=by
 cases b
 ·exact wpAny_nextOf_list_item hj ht hv hQ
 ·exact En.nextT_item hj ht hv hQ
theorem nxtE{b:Bool}{j t:Addr}{k:Nat}{its:Array Value}{Q:Value->Shared->Prop}(hh:A.handled=none)(hj:IsI b s.heap j t k)(ht:IsS b s.heap t its)(hv:its[k]?=none)
  (hE:∀g x,Heap.ExtBut j s.heap g->(∃o,g.get? x=some o/\o.cls=.type "StopIteration")->E (.ref x) { s with heap:=g }):wpAny (model prog w) A (Builtin.SmallTypes.nextOf (.ref j)) Q E s:=by
 cases b
 ·exact wpAny_nextOf_list_end hh hj ht hv hE
 ·exact En.nextT_end hh hj ht hv hE
structure ZS(b₁ b₂:Bool)(h₀ h:Heap)(z TI TO i j l m:Addr)(xs ys:Array Value)(f:Value)(p q:Nat)(a b:Value):Prop where
 zo:IsZip h z TI TO f
 ti:IsPair h TI (.ref i) (.ref j)
 to:IsPair h TO a b
 wi:IsI b₁ h i l p
 wj:IsI b₂ h j m q
 sl:IsS b₁ h l xs
 sm:IsS b₂ h m ys
 kp:∀c o,c≠z->c≠TO->c≠i->c≠j->h₀.get? c=some o->h.get? c=some o
 sz:h.objs.size=h₀.objs.size
section
variable {b₁ b₂:Bool}{h₀ h g:Heap}{z TI TO i j l m:Addr}{xs ys:Array Value}{f f':Value}{p q:Nat}{a b x y:Value}
theorem ZS.fl(Z:ZS b₁ b₂ h₀ h z TI TO i j l m xs ys f p q a b)(D:ZipApart z TI TO i j l m)(e:IsZip g z TI TO f')(t:Heap.SameBut z h g):ZS b₁ b₂ h₀ g z TI TO i j l m xs ys f' p q a b :=
 ⟨e,t.extBut _ _ D.TIz Z.ti,t.extBut _ _ D.TOz Z.to,Z.wi.extBut t.extBut D.i1z,Z.wj.extBut t.extBut D.i2z,Z.sl.extBut t.extBut D.l1z,Z.sm.extBut t.extBut D.l2z,fun c o n1 n2 n3 n4 r=>t.extBut _ _ n1 (Z.kp c o n1 n2 n3 n4 r),t.1.trans Z.sz⟩
theorem ZS.fst(Z:ZS b₁ b₂ h₀ h z TI TO i j l m xs ys f p q a b)(D:ZipApart z TI TO i j l m)(e:IsI b₁ g i l (p+1))(t:Heap.SameBut i h g):ZS b₁ b₂ h₀ g z TI TO i j l m xs ys f (p+1) q a b :=
 ⟨t.extBut _ _ D.i1z.symm Z.zo,t.extBut _ _ D.TIi1 Z.ti,t.extBut _ _ D.TOi1 Z.to,e,Z.wj.extBut t.extBut D.i12.symm,Z.sl.extBut t.extBut D.l1i1,Z.sm.extBut t.extBut D.l2i1,fun c o n1 n2 n3 n4 r=>t.extBut _ _ n3 (Z.kp c o n1 n2 n3 n4 r),t.1.trans Z.sz⟩
theorem ZS.snd(Z:ZS b₁ b₂ h₀ h z TI TO i j l m xs ys f p q a b)(D:ZipApart z TI TO i j l m)(e:IsI b₂ g j m (q+1))(t:Heap.SameBut j h g):ZS b₁ b₂ h₀ g z TI TO i j l m xs ys f p (q+1) a b :=
 ⟨t.extBut _ _ D.i2z.symm Z.zo,t.extBut _ _ D.TIi2 Z.ti,t.extBut _ _ D.TOi2 Z.to,Z.wi.extBut t.extBut D.i12,e,Z.sl.extBut t.extBut D.l1i2,Z.sm.extBut t.extBut D.l2i2,fun c o n1 n2 n3 n4 r=>t.extBut _ _ n4 (Z.kp c o n1 n2 n3 n4 r),t.1.trans Z.sz⟩
theorem ZS.put(Z:ZS b₁ b₂ h₀ h z TI TO i j l m xs ys f p q a b)(D:ZipApart z TI TO i j l m)(e:IsPair g TO x y)(t:Heap.SameBut TO h g):ZS b₁ b₂ h₀ g z TI TO i j l m xs ys f p q x y :=
 ⟨t.extBut _ _ D.TOz.symm Z.zo,t.extBut _ _ D.TITO Z.ti,e,Z.wi.extBut t.extBut D.TOi1.symm,Z.wj.extBut t.extBut D.TOi2.symm,Z.sl.extBut t.extBut D.l1TO,Z.sm.extBut t.extBut D.l2TO,fun c o n1 n2 n3 n4 r=>t.extBut _ _ n2 (Z.kp c o n1 n2 n3 n4 r),t.1.trans Z.sz⟩
end
variable {b₁ b₂:Bool}{z TI TO i j l m:Addr}{xs ys:Array Value}{p q:Nat}{a b:Value}
theorem zipN{Q:Value->Shared->Prop}(hn:A.handled=none)(D:ZipApart z TI TO i j l m)(Z:ZS b₁ b₂ s.heap s.heap z TI TO i j l m xs ys .none p q a b)
  (item:∀x y g g',xs[p]?=some x->ys[q]?=some y->ZS b₁ b₂ s.heap g z TI TO i j l m xs ys .ellipsis (p+1) (q+1) x y->IsZip g' z TI TO (rawInt g.objs.size) ->
   Heap.SameBut z (g.push { cls:=.type "tuple",data:=.seq #[x,y] }) g'->Q (.ref g.objs.size) { s with heap:=g' })
  (over:(xs[p]?=none\/ys[q]?=none)->∀g e,(∀c o,c≠z->c≠TO->c≠i->c≠j->s.heap.get? c=some o->g.get? c=some o)->(∃o,g.get? e=some o/\o.cls=.type "StopIteration")->E (.ref e) { s with heap:=g }) :
  wpAny (model prog w) A (Builtin.«zip.__next__» ⟨[.ref z],[]⟩) (fun r s'=>∃v,r=.done (.ret v)/\Q v s') E s:=by
 have stop:∀ {g1 g2:Heap}{e:Addr}{c:Addr}{p' q':Nat}{a' b':Value},ZS b₁ b₂ s.heap g1 z TI TO i j l m xs ys .ellipsis p' q' a' b'->(c=i\/c=j)->(xs[p]?=none\/ys[q]?=none)->Heap.ExtBut c g1 g2 ->
   (∃o,g2.get? e=some o/\o.cls=.type "StopIteration")->wpAny (model prog w) A (setField (.ref z) 0 Value.none) (fun _ t=>E (.ref e) t) E { s with heap:=g2 }:=by
  intro g1 g2 e c p' q' a' b' Y hc hv k ⟨o,ho,ht⟩
  have cz:z≠c:=hc.elim (fun e=>e ▸ D.i1z.symm) fun e=>e ▸ D.i2z.symm
  have Yz:IsZip g2 z TI TO .ellipsis:=k _ _ cz Y.zo
  refine wpAny_setField_rec Yz (by simp) fun g3 _ t=>over hv g3 e (fun d u n1 n2 n3 n4 r=>t.extBut _ _ n1 (k _ _ ?_ (Y.kp d u n1 n2 n3 n4 r))) ⟨o,t.extBut _ _ ?_ ho,ht⟩
  ·exact hc.elim (fun e=>e ▸ n3) fun e=>e ▸ n4
  ·rintro rfl;rw[Yz] at ho;cases ho;simp at ht
 show wpAny _ _ (field (.ref z) 2 >>= _) _ _ _
 refine zW (wpAny_field Z.zo rfl (x:=.bool false) rfl (zW (wpAny_field Z.zo rfl (x:=.ref TI) rfl (zW (wpAny_seqItems Z.ti rfl (zW (m:=Builtin.SmallTypes.ownedTupleIsFree _) ?_))))))
 refine zW (wpAny_field Z.zo rfl (x:=.none) rfl (zX ?_))
 rw[if_pos rfl]
 refine zW (wpAny_rule (zW (wpAny_field Z.zo rfl (x:=.ref TO) rfl (zW (wpAny_setField_rec Z.zo (by simp) fun g1 e1 t1=>?_)))))
 have Z1:=Z.fl D (f':=.ellipsis) e1 t1
 refine zW ?_
 simp only[List.zipIdx_cons,List.zipIdx_nil,List.forIn_cons,List.forIn_nil]
 refine zW (zW (wpAny_onRaise (zW (m:=Builtin.SmallTypes.nextOf _) ?_)))
 cases hx:xs[p]? with
 | none=>exact nxtE hn Z1.wi Z1.sl hx fun g2 e k o=>stop Z1 (.inl rfl) (.inl hx) k o
 | some x =>
 refine nxt Z1.wi Z1.sl hx fun g2 e2 t2=>zX ?_
 have Z2:=Z1.fst D e2 t2
 refine zW (wpAny_seqItems Z2.to rfl (zW (wpAny_updateSeq_pair Z2.to fun g3 e3 t3=>zW (wpAny_letGo (zX ?_)))))
 have Z3:=Z2.put D (x:=x) (y:=b) e3 t3
 refine zW (zW (wpAny_onRaise (zW (m:=Builtin.SmallTypes.nextOf _) ?_)))
 cases hy:ys[q]? with
 | none=>exact nxtE hn Z3.wj Z3.sm hy fun g4 e k o=>stop Z3 (.inr rfl) (.inr hy) k o
 | some y =>
 refine nxt Z3.wj Z3.sm hy fun g4 e4 t4=>zX ?_
 have Z4:=Z3.snd D e4 t4
 refine zW (wpAny_seqItems Z4.to rfl (zW (wpAny_updateSeq_pair Z4.to fun g5 e5 t5=>zW (wpAny_letGo (zX (zX ?_))))))
 have Z5:=Z4.put D (x:=x) (y:=y) e5 t5
 refine zW (wpAny_seqItems Z5.to rfl (zW (wpAny_newTuple (zW (m:=Builtin.SmallTypes.ownedTupleHandOut _ _) ?_))))
 refine zW (wpAny_setField_rec (zV _ Z5.zo) (by simp) fun g6 e6 t6=>wpAny_setField_rec e6 (by simp) fun g7 e7 t7=>zX ⟨_,rfl,?_⟩)
 exact item x y g5 g7 hx hy Z5 e7 (t6.trans t7)
theorem nextZ{x y:Value}{Q:Option Value->Shared->Prop}(hn:A.handled=none)(D:ZipApart z TI TO i j l m)
  (qz:IsZip s.heap z TI TO .none) (qI:IsPair s.heap TI (.ref i) (.ref j)) (qO:IsPair s.heap TO a b)
  (p1:IsI b₁ s.heap i l p) (p2:IsI b₂ s.heap j m q) (r1:IsS b₁ s.heap l xs) (r2:IsS b₂ s.heap m ys) (ex:xs[p]?=some x) (ey:ys[q]?=some y)
  (kQ:∀g,IsZip g z TI TO (rawInt s.heap.objs.size)->IsPair g TO x y->IsI b₁ g i l (p+1)->IsI b₂ g j m (q+1)->IsPair g s.heap.objs.size x y->g.objs.size=s.heap.objs.size+1 ->
   (∀c o,c≠z->c≠TO->c≠i->c≠j->s.heap.get? c=some o->g.get? c=some o)->Q (some (.ref s.heap.objs.size)) { s with heap:=g }) :
  wpAny (model prog w) A (pyNext (.ref z)) Q E s:=by
 have ty:s.TypeIs (.ref z) "zip":=⟨_,qz,rfl⟩
 have Z:ZS b₁ b₂ s.heap s.heap z TI TO i j l m xs ys .none p q a b:=⟨qz,qI,qO,p1,p2,r1,r2,fun _ _ _ _ _ _ e=>e,rfl⟩
 refine zW (wpAny_attempt (wpAny_callSpecial?_slot (name:=Str.ofString "__next__") ty F.slot_zip_next (wpAny_call_entry F.slot_zip_next ty F.entry_zip_next (zipN hn D Z ?_ ?_) (F.args_zip_next_1 _))))
 ·intro x' y' g g' hx hy Y ez t
  rw[ex] at hx;rw[ey] at hy;cases hx;cases hy
  rw[Y.sz] at ez ⊢
  have lt:=zZ Y.zo
  have up:∀c o,c≠z->g.get? c=some o->g'.get? c=some o:=fun c o n e=>t.extBut _ _ n (zV _ e)
  refine zX (kQ g' ez (up _ _ D.TOz Y.to) (Y.wi.at fun o e=>up _ _ D.i1z e) (Y.wj.at fun o e=>up _ _ D.i2z e) ?_ (by rw[t.1,Heap.size_push,Y.sz]) fun c o n1 n2 n3 n4 e=>up c o n1 (Y.kp c o n1 n2 n3 n4 e))
  rw[<- Y.sz]
  exact t.extBut _ _ (Nat.ne_of_gt lt) (zY _ rfl)
 ·intro no
  rw[ex,ey] at no
  rcases no with no|no<;>cases no
theorem nextZE{Q:Option Value->Shared->Prop}(hn:A.handled=none)(D:ZipApart z TI TO i j l m)
  (qz:IsZip s.heap z TI TO .none) (qI:IsPair s.heap TI (.ref i) (.ref j)) (qO:IsPair s.heap TO a b)
  (p1:IsI b₁ s.heap i l p) (p2:IsI b₂ s.heap j m q) (r1:IsS b₁ s.heap l xs) (r2:IsS b₂ s.heap m ys) (ends:xs[p]?=none\/ys[q]?=none)
  (kQ:∀g,(∀c o,c≠z->c≠TO->c≠i->c≠j->s.heap.get? c=some o->g.get? c=some o)->Q none { s with heap:=g }):wpAny (model prog w) A (pyNext (.ref z)) Q E s:=by
 have ty:s.TypeIs (.ref z) "zip":=⟨_,qz,rfl⟩
 have Z:ZS b₁ b₂ s.heap s.heap z TI TO i j l m xs ys .none p q a b:=⟨qz,qI,qO,p1,p2,r1,r2,fun _ _ _ _ _ _ e=>e,rfl⟩
 refine zW (wpAny_attempt (wpAny_callSpecial?_slot (name:=Str.ofString "__next__") ty F.slot_zip_next (wpAny_call_entry F.slot_zip_next ty F.entry_zip_next (zipN hn D Z ?_ ?_) (F.args_zip_next_1 _))))
 ·intro x y g g' hx hy
  rw[hx,hy] at ends
  rcases ends with no|no<;>cases no
 ·rintro _ g e kp ⟨o,ho,ht⟩
  exact zW (wpAny_isInstance (T:="StopIteration") (b:=true) ⟨o,ho,ht⟩ isSubtype_stop (zX (kQ _ kp)))
end
abbrev itO(b:Bool)(l:Addr):Obj:={ cls:=.type (if b then "tuple_iterator" else "list_iterator"),data:=.fields #[.ref l,.int 0 0] }
abbrev z1(b:Bool)(h:Heap)(l:Addr):Heap:=h.push (itO b l)
abbrev z2(b c:Bool)(h:Heap)(l m:Addr):Heap:=(z1 b h l).push (itO c m)
abbrev z3(b c:Bool)(h:Heap)(l m:Addr):Heap:=(z2 b c h l m).push { cls:=.type "tuple",data:=.seq #[.ref h.objs.size,.ref (z1 b h l).objs.size] }
abbrev z4(b c:Bool)(h:Heap)(l m:Addr):Heap:=(z3 b c h l m).push { cls:=.type "tuple",data:=.seq #[.none,.none] }
abbrev z5(b c:Bool)(h:Heap)(l m:Addr):Heap:=(z4 b c h l m).push { cls:=.type "zip",data:=.fields #[.none,.bool false,.bool false,.ref (z2 b c h l m).objs.size,.ref (z3 b c h l m).objs.size] }
theorem IsS.push{b:Bool}{h:Heap}{l:Addr}{xs:Array Value}(x:IsS b h l xs)(o:Obj):IsS b (h.push o) l xs:=x.at fun o' e=>zV _ e
theorem new_zip(b c:Bool)(l m:Addr)(xs ys:Array Value):Meets (Builtin.«zip.__new__» ⟨[.type "zip",.ref l,.ref m],[]⟩) (fun _ R s=>IsS b s.heap l xs/\IsS c s.heap m ys/\R (.ok (.ret (.ref (z4 b c s.heap l m).objs.size))) { s with heap:=z5 b c s.heap l m }) :=
 .of_wp fun prog w A R s h=>by
  obtain⟨hp,g,d,tk,os⟩:=s;obtain⟨q1,q2,h⟩:=h
  have hsub:=sub_zip
  cases b<;>cases c
  ·have L1:Heap.IsList (Shared.heap ⟨hp,g,d,tk,os⟩) l xs:=q1
   have L2:Heap.IsList (Shared.heap ⟨hp.push { cls:=.type "list_iterator",data:=.fields #[.ref l,.int 0 0] },g,d,tk,os⟩) m ys:=IsS.push (b:=false) q2 _
   wp_walk using wpAny_pyIter_list L1,wpAny_pyIter_list L2
   exact⟨_,rfl,h⟩
  ·have L1:Heap.IsList (Shared.heap ⟨hp,g,d,tk,os⟩) l xs:=q1
   have L2:Heap.IsTuple (Shared.heap ⟨hp.push { cls:=.type "list_iterator",data:=.fields #[.ref l,.int 0 0] },g,d,tk,os⟩) m ys:=IsS.push (b:=true) q2 _
   wp_walk using wpAny_pyIter_list L1,wpAny_pyIter_tuple L2
   exact⟨_,rfl,h⟩
  ·have L1:Heap.IsTuple (Shared.heap ⟨hp,g,d,tk,os⟩) l xs:=q1
   have L2:Heap.IsList (Shared.heap ⟨hp.push { cls:=.type "tuple_iterator",data:=.fields #[.ref l,.int 0 0] },g,d,tk,os⟩) m ys:=IsS.push (b:=false) q2 _
   wp_walk using wpAny_pyIter_tuple L1,wpAny_pyIter_list L2
   exact⟨_,rfl,h⟩
  ·have L1:Heap.IsTuple (Shared.heap ⟨hp,g,d,tk,os⟩) l xs:=q1
   have L2:Heap.IsTuple (Shared.heap ⟨hp.push { cls:=.type "tuple_iterator",data:=.fields #[.ref l,.int 0 0] },g,d,tk,os⟩) m ys:=IsS.push (b:=true) q2 _
   wp_walk using wpAny_pyIter_tuple L1,wpAny_pyIter_tuple L2
   exact⟨_,rfl,h⟩
section
variable {prog:Program}{w:World}{A:Around}{E:Value->Shared->Prop}{s:Shared}
theorem isI_new{b:Bool}{h:Heap}{it l:Addr}(e:h.get? it=some (itO b l)):IsI b h it l 0:=by
 cases b
 ·exact⟨_,e,rfl,rfl⟩
 ·exact⟨_,e,rfl,rfl⟩
theorem call_zip{b c:Bool}{l m:Addr}{xs ys:Array Value}{Q:Value->Shared->Prop}(q1:IsS b s.heap l xs)(q2:IsS c s.heap m ys)
  (h:∀g,IsZip g (s.heap.objs.size+4) (s.heap.objs.size+2) (s.heap.objs.size+3) .none->IsPair g (s.heap.objs.size+2) (.ref s.heap.objs.size) (.ref (s.heap.objs.size+1))->IsPair g (s.heap.objs.size+3) .none .none ->
   IsI b g s.heap.objs.size l 0->IsI c g (s.heap.objs.size+1) m 0->(∀a o,s.heap.get? a=some o->g.get? a=some o)->Q (.ref (s.heap.objs.size+4)) { s with heap:=g }) :
  wpAny (model prog w) A (call (.type "zip") [.ref l,.ref m]) Q E s:=by
 refine callType_new F.called_zip (by decide) (F.typeCall_zip_2 _ _) (F.newCall_zip_2 _ _) (fun obj=>F.args_object_init_3 obj _ _) F.entry_zip_new (new_zip b c l m xs ys) ⟨q1,q2,?_⟩
 have n1:(z1 b s.heap l).objs.size=s.heap.objs.size+1:=Heap.size_push ..
 have n2:(z2 b c s.heap l m).objs.size=s.heap.objs.size+2:=by rw[Heap.size_push,n1]
 have n3:(z3 b c s.heap l m).objs.size=s.heap.objs.size+3:=by rw[Heap.size_push,n2]
 have n4:(z4 b c s.heap l m).objs.size=s.heap.objs.size+4:=by rw[Heap.size_push,n3]
 have g5:(z5 b c s.heap l m).get? (z4 b c s.heap l m).objs.size=some _:=zY _ rfl
 have g4:(z5 b c s.heap l m).get? (z3 b c s.heap l m).objs.size=some _:=zV _ (zY _ rfl)
 have g3:(z5 b c s.heap l m).get? (z2 b c s.heap l m).objs.size=some _:=zV _ (zV _ (zY _ rfl))
 have g2:(z5 b c s.heap l m).get? (z1 b s.heap l).objs.size=some (itO c m):=zV _ (zV _ (zV _ (zY _ rfl)))
 have g1:(z5 b c s.heap l m).get? s.heap.objs.size=some (itO b l):=zV _ (zV _ (zV _ (zV _ (zY _ rfl))))
 show _/\_
 rw[n2,n3,n4] at g5
 rw[n1,n2] at g3
 rw[n3] at g4
 rw[n1] at g2
 rw[n4]
 exact⟨⟨_,g5,rfl⟩,h _ g5 g3 g4 (isI_new g1) (isI_new g2) fun a o x=>zV _ (zV _ (zV _ (zV _ (zV _ x))))⟩
end
end Zp
namespace Dl
open PySem L2 PySem.Spec PyProof.Rows Zp
def ui(K:W.Frag)(b:Bool)(a:Addr)(H:Hp)(xs:List V):Prop:=match b with|true=>ji K H a xs|false=>iU K H a xs
section
variable {X:Cx}{pins:List (Addr×Obj)}{σ:L2.St}{H:Hp}{s:Shared}{b:Bool}{a:Addr}{xs ys:List V}
theorem ui.src(I:Inv X pins σ H s)(h:ui X.K b a H xs):∃its:List Value,aB xs its/\IsS b s.heap a its.toArray/\xs.length<=sizeLine:=by
 cases b
 ·obtain⟨its,rv,pl,hz⟩:=I.list (show iU X.K H a xs from h);exact⟨its,rv,pl.isList,hz⟩
 ·obtain⟨its,rv,pl,hz⟩:=I.tuple (show ji X.K H a xs from h);exact⟨its,rv,pl,hz⟩
theorem ui.ne(I:Inv X pins σ H s){c:Addr}(hf:bJ X pins H c)(h:ui X.K b a H xs):a≠c:=by
 cases b
 ·exact Lh I hf h
 ·exact L7 I hf h
theorem ui.inj(I:Inv X pins σ H s)(h:ui X.K b a H xs)(h':ui X.K b a H ys):xs=ys:=by
 cases b
 ·exact I.list_inj h h'
 ·exact I.tuple_inj h h'
theorem ui.mono{K:W.Frag}{H H':Hp}(e:aQ H H')(h:ui K b a H xs):ui K b a H' xs:=by
 cases b
 ·exact e.seq h
 ·exact ay e h
end
theorem Ed{P:Program}{w:World}{K:W.Frag}{elts:List Expr}{k:Nat}{pos:Pos}(b c:Bool)(l1 l2 z TI TO i1 i2:Addr)(Z:Qy z TI TO i1 i2) :
  Turn P w K (.Tuple elts k pos) (O6 (ui K b l1) (ui K c l2)) [z,TI,TO,i1,i2] z (fun i h=>IsZip h z TI TO .none/\IsPair h TI (.ref i1) (.ref i2)/\(∃a b,IsPair h TO a b)/\IsI b h i1 l1 i/\IsI c h i2 l2 i) where
 mem:=by simp
 obj:=fun i h st d hd=>by
  obtain⟨hz,hTI,⟨a,b',hTO⟩,p1,p2⟩:=st
  simp only[zR,yG,or_false] at hd
  rcases hd with rfl|rfl|rfl|rfl|rfl
  ·exact⟨_,hz,fun v q=>by have q:Data.fields _=Data.cell v:=q;cases q⟩
  ·exact⟨_,hTI,fun v q=>by have q:Data.seq _ _=Data.cell v:=q;cases q⟩
  ·exact⟨_,hTO,fun v q=>by have q:Data.seq _ _=Data.cell v:=q;cases q⟩
  ·exact p1.obj
  ·exact p2.obj
 keep:=fun i h h' st kk=>by
  obtain⟨hz,hTI,⟨a,b',hTO⟩,h1,h2⟩:=st
  exact⟨kk z (by simp) _ hz,kk TI (by simp) _ hTI,⟨a,b',kk TO (by simp) _ hTO⟩,h1.at fun o q=>kk i1 (by simp) o q,h2.at fun o q=>kk i2 (by simp) o q⟩
 item:=by
  intro X hP hw hK hc i pins s σ H E I hf st hg
  subst hP hw hK
  obtain⟨xs,ys,x,y,hq1,hq2,hx,hy⟩:=hg
  obtain⟨its1,rv1,p1,hz1⟩:=hq1.src I
  obtain⟨its2,rv2,p2,hz2⟩:=hq2.src I
  obtain⟨u1,hu1,ru1⟩:=rv1.get hx
  obtain⟨u2,hu2,ru2⟩:=rv2.get hy
  have D:ZipApart z TI TO i1 i2 l1 l2:=⟨Z.a1,Z.a2,Z.a3,Z.a4,Z.a5,Z.a6,Z.a7,Z.a8,Z.a9,Z.a0,hq1.ne I (hf z (by simp)),hq1.ne I (hf TO (by simp)),hq1.ne I (hf i1 (by simp)),hq1.ne I (hf i2 (by simp)),hq2.ne I (hf z (by simp)),hq2.ne I (hf TO (by simp)),hq2.ne I (hf i1 (by simp)),hq2.ne I (hf i2 (by simp))⟩
  obtain⟨hz,hTI,⟨a,b',hTO⟩,h1,h2⟩:=st
  refine nextZ (I.ok.hd hc) D hz hTI hTO h1 h2 p1 p2 (x:=u1) (y:=u2) (by simpa using hu1) (by simpa using hu2) fun g b1 b2 b3 b4 b5 b6 hk=>⟨.ref s.heap.objs.size,rfl,?_⟩
  have lt:∀ {c:Addr}{o:Obj},s.heap.get? c=some o->s.heap.objs.size≠c:=fun e=>Nat.ne_of_gt (zZ e)
  refine wpAny_letOwnedTupleGo_zip (s:={ s with heap:=g }) b1 fun g' hz' hs'=>?_
  have b5':g'.get? s.heap.objs.size=some { cls:=.type "tuple",data:=.seq #[u1,u2] }:=hs'.extBut _ _ (lt hz) b5
  have ht:nU g' s.heap.objs.size (List.toArray [u1,u2]):=⟨⟨_,b5',rfl,_,rfl⟩,_,b5',rfl⟩
  refine⟨.ref s.heap.objs.size,_,xF (ch:=[z,TI,TO,i1,i2]) (xs:=[x,y]) (t':=s.toks) I hf (fun b o hb q=>?_) (Nat.le_refl _) ht (.cons ru1 (.cons ru2 .nil)) (by show 2<=sizeLine;decide),rfl,
   ⟨s.heap.objs.size,x,y,rfl,I.fresh,rfl,fun zs hzs=>by rw[hzs.inj I hq1];exact hx,fun zs hzs=>by rw[hzs.inj I hq2];exact hy⟩,
   ⟨hz',hs'.extBut _ _ Z.a1 (hk _ _ D.TIz D.TITO D.TIi1 D.TIi2 hTI),⟨_,_,hs'.extBut _ _ Z.a2 b2⟩,b3.extBut hs'.extBut Z.a3,b4.extBut hs'.extBut Z.a4⟩,fun b hb=>?_⟩
  ·simp only[zR,yG,or_false,not_or] at hb
   exact hs'.extBut _ _ hb.1 (hk b o hb.1 hb.2.2.1 hb.2.2.2.1 hb.2.2.2.2 q)
  ·have:s.heap.objs.size≠b:=by
    simp only[zR,yG,or_false] at hb
    obtain⟨o1,g1,_⟩:=h1.obj
    obtain⟨o2,g2,_⟩:=h2.obj
    rcases hb with rfl|rfl|rfl|rfl|rfl
    ·exact lt hz
    ·exact lt hTI
    ·exact lt hTO
    ·exact lt g1
    ·exact lt g2
   rw[aA (Ne.symm this)]
   exact (hf b hb).1
 done:=by
  intro X hP hw hK hc i pins s σ H E I hf st hg
  subst hP hw hK
  obtain⟨xs,ys,hq1,hq2,hx⟩:=hg
  obtain⟨its1,rv1,p1,hz1⟩:=hq1.src I
  obtain⟨its2,rv2,p2,hz2⟩:=hq2.src I
  have D:ZipApart z TI TO i1 i2 l1 l2:=⟨Z.a1,Z.a2,Z.a3,Z.a4,Z.a5,Z.a6,Z.a7,Z.a8,Z.a9,Z.a0,hq1.ne I (hf z (by simp)),hq1.ne I (hf TO (by simp)),hq1.ne I (hf i1 (by simp)),hq1.ne I (hf i2 (by simp)),hq2.ne I (hf z (by simp)),hq2.ne I (hf TO (by simp)),hq2.ne I (hf i1 (by simp)),hq2.ne I (hf i2 (by simp))⟩
  obtain⟨hz,hTI,⟨a,b',hTO⟩,h1,h2⟩:=st
  have e1:=rv1.length
  have e2:=rv2.length
  refine nextZE (I.ok.hd hc) D hz hTI hTO h1 h2 p1 p2 (hx.elim (fun q=>.inl (by simp;omega)) fun q=>.inr (by simp;omega)) fun g hk=>⟨rfl,?_⟩
  refine Df (ch:=[z,TI,TO,i1,i2]) (t':=s.toks) I hf fun b o hb q=>?_
  simp only[zR,yG,or_false,not_or] at hb
  exact hk b o hb.1 hb.2.2.1 hb.2.2.2.1 hb.2.2.2.2 q
 self:=fun _ _ _ _ _ st h=>wpAny_pyIter_zip st.1 h
section
variable {X:Cx}{l l':Expr}{fs:Env->Option (List D)}{elts:List Expr}{k:Nat}{pos p tp:Pos}
theorem Iu{tl:TA}(B:oK X "zip" (.type "zip"))(ha:PA X [l,l'] tl)(hs:starEach [l,l'] X.env=(false,eval l X.env)::starEach [l'] X.env)(hs2:(backTo pos (starEach [l'] X.env)).any (·.1)=false) :
  PI X (.Tuple elts k tp) (.Call (.Name "zip" p) [l,l'] [] pos) (fun σ H R=>tl σ H fun vs H1=>∃a b,vs=[.ref a,.ref b]/\∃c d xs ys,ui X.K c a H1 xs/\ui X.K d b H1 ys/\R (O6 (ui X.K c a) (ui X.K d b)) H1):=by
 intro pins s σ H R I h
 refine Call_ (iF I B.gl B.mg B.bt (PyProof.Rows.callWith_type1 (bW (ha pos pins s σ H _ I h) fun us s1 ⟨vs,H1,I1,r1,q1⟩=>?_) hs hs2))
 obtain⟨a,b,e,c,d,xs,ys,hq1,hq2,q⟩:=q1
 subst e
 obtain⟨u,u',rfl,rx,ry⟩:=vals2 r1
 cases rx
 cases ry
 obtain⟨its,rv,pl,hz⟩:=hq1.src I1
 obtain⟨its',rv',pl',hz'⟩:=hq2.src I1
 refine call_zip pl pl' fun g b1 b2 b3 b4 b5 kp=>wpAny_pyIter_zip (s:={ s1 with heap:=g }) b1 ?_
 refine⟨_,_,_,_,H1,rfl,I1.kept (t':=s1.toks) kp,Ed c d a b (s1.heap.objs.size+4) (s1.heap.objs.size+2) (s1.heap.objs.size+3) s1.heap.objs.size (s1.heap.objs.size+1) ?_,⟨b1,b2,⟨_,_,b3⟩,b4,b5⟩,fun c hc=>?_,q⟩
 ·constructor<;>(intro z;have z:(_:Nat)=_:=z;omega)
 ·have hge:s1.heap.objs.size<=c:=by
   simp only[zR,yG,or_false] at hc
   rcases hc with rfl|rfl|rfl|rfl|rfl
   ·exact Nat.le_add_right _ _
   ·exact Nat.le_add_right _ _
   ·exact Nat.le_add_right _ _
   ·exact Nat.le_refl _
   ·exact Nat.le_add_right _ _
  exact I1.fpOk hge (I1.hok.fresh hge)
def NN:List D->Option (List D):=fun ds=>match ds with
 | [x,y]=>(g0 x).bind fun xs=>(g0 y).map fun ys=>kb xs ys
 | _=>none
theorem Al{K:W.Frag}{HF:Hp}{d:D}{v:V}{xs:List D}(h:g0 d=some xs)(r:Rep K HF d v):∃b a vs,v=.ref a/\ui K b a HF vs/\aq K HF xs vs:=by
 rcases l4 h with rfl|rfl
 ·simp only[Rep] at r
  obtain⟨a,vs,rfl,q,rr⟩:=r
  exact⟨true,a,vs,rfl,q,rr⟩
 ·simp only[Rep] at r
  obtain⟨a,vs,rfl,q,rr⟩:=r
  exact⟨false,a,vs,rfl,q,rr⟩
def jU(fs:Env->Option (List D)):Env->Option (List D):=fun ρ=>(fs ρ).bind NN
theorem Jk(B:oK X "zip" (.type "zip"))(hs:starEach [l,l'] X.env=(false,eval l X.env)::starEach [l'] X.env)(hs2:(backTo pos (starEach [l'] X.env)).any (·.1)=false)(h:DA X [l,l'] fs) :
  DI X (.Tuple elts k tp) (.Call (.Name "zip" p) [l,l'] [] pos) (jU fs) :=
 uO (Iu B h hs hs2) fun σ H R ⟨HF,ρ,ds,sm,eo,hf,q⟩=>by
  obtain⟨x,hx,hf⟩:=bs hf
  refine⟨HF,ρ,_,sm,eo,hx,fun vs H1 HF1 g1 r1=>?_⟩
  unfold NN at hf
  split at hf
  ·obtain⟨xs,h1,hf⟩:=bs hf
   obtain⟨ys,h2,rfl⟩:=ag hf
   obtain⟨v,r',rfl,a,b⟩:=r1.cons_inv
   obtain⟨v',r'',rfl,a',b'⟩:=b.cons_inv
   rw[b'.nil_inv]
   obtain⟨c,ad,us,rfl,hq,rr⟩:=Al h1 a
   obtain⟨c',ad',us',rfl,hq',rr'⟩:=Al h2 a'
   exact⟨ad,ad',rfl,c,c',us,us',hq.mono g1.fh,hq'.mono g1.fh,q _ H1 HF1 g1 (Gj hq (fun _ _ s h=>h.mono s) hq' (fun _ _ s h=>h.mono s) rr rr')⟩
  ·cases hf
end
end Dl
namespace Zp
open PySem PyProof.Rows
theorem IsI.ne{b:Bool}{h:Heap}{it l:Addr}{k:Nat}{xs:Array Value}(x:IsI b h it l k)(y:IsS b h l xs):l≠it:=by
 rintro rfl
 cases b
 ·obtain⟨o,e,c,d⟩:=(show h.IsListIter l l k from x)
  obtain⟨o',e',r⟩:=(show h.IsList l xs from y)
  rw[e] at e';cases e'
  simp_all
 ·obtain⟨o,e,c,d⟩:=(show h.IsTupleIter l l k from x)
  obtain⟨o',e',r⟩:=(show h.IsTuple l xs from y)
  rw[e] at e';cases e'
  simp_all
section
variable {prog:Program}{w:World}{A:Around}{E:Value->Shared->Prop}{s:Shared}
theorem drawsI(hn:A.handled=none)(b:Bool)(it l:Addr)(xs:Array Value):Draws prog w A it [it,l] xs.size (fun i x=>xs[i]?=some x) (fun i h=>IsI b h it l i/\IsS b h l xs) where
 live:=fun i h st=>let ⟨o,e,_⟩:=st.1.obj;⟨o,e⟩
 frame:=fun i h h' st k=>⟨st.1.at (k it (by simp)),st.2.at (k l (by simp))⟩
 item:=fun i s Q E hi st hQ=>nxt st.1 st.2 (v:=xs[i]) (by simp[hi]) fun g e t=>hQ _ g s.toks (by simp[hi]) ⟨e,st.2.extBut t.extBut (st.1.ne st.2)⟩ t
 done:=fun s Q E st hE=>nxtE hn st.1 st.2 (by simp) hE
theorem nextE{b₁:Bool}{e it l:Addr}{i:Nat}{items:Array Value}{x old:Value}{Q:Option Value->Shared->Prop}(hn:A.handled=none)
  (qe:IsEnum s.heap e it i old) (qi:IsI b₁ s.heap it l i) (ql:IsS b₁ s.heap l items) (ex:items[i]?=some x) (nei:e≠it)
  (kQ:∀g tk,IsEnumOut g e it ((i:Int)+1) x s.heap.objs.size->IsI b₁ g it l (i+1)->g.get? s.heap.objs.size=some { cls:=.type "tuple",data:=.seq #[.int i tk,x] } ->
   g.objs.size=s.heap.objs.size+1->(∀c o,c≠e->c≠it->s.heap.get? c=some o->g.get? c=some o)->Q (some (.ref s.heap.objs.size)) { s with heap:=g,toks:=tk+1 }) :
  wpAny (model prog w) A (pyNext (.ref e)) Q E s:=by
 have nel:e≠l:=by
  rintro rfl
  cases b₁
  ·obtain⟨o,e1,r⟩:=(show s.heap.IsList e items from ql)
   rw[qe] at e1;cases e1;simp at r
  ·obtain⟨o,e1,r⟩:=(show s.heap.IsTuple e items from ql)
   rw[qe] at e1;cases e1;simp at r
 have D:Draws prog w A.in1 it [it,l] items.size (fun i x=>items[i]?=some x) (fun i h=>IsI b₁ h it l i/\IsS b₁ h l items):=drawsI (A:=A.in1) hn b₁ it l items
 refine wpAny_pyNext_enum_itemD D qe ⟨qi,ql⟩ (Array.getElem?_eq_some_iff.mp ex).1 nei (by simp[nei,nel]) fun y g tk hy a b c d k=>?_
 rw[ex] at hy;cases hy
 exact kQ g tk a b.1 c d k
end
end Zp
namespace Dl
open PySem L2 PySem.Spec PyProof.Rows Zp
theorem rG{P:Program}{w:World}{K:W.Frag}{elts:List Expr}{k:Nat}{pos:Pos}(b:Bool)(a it e:Addr)(hei:e≠it):Turn P w K (.Tuple elts k pos) (Pe (ui K b a)) [e,it] e (fun i h=>(∃old,IsEnum h e it i old)/\IsI b h it a i) where
 mem:=by simp
 obj:=fun i h st c hc=>by
  obtain⟨⟨old,he⟩,hi⟩:=st
  rcases zR.mp hc with z|z
  ·subst z;exact⟨_,he,fun v q=>by have q:Data.fields _=Data.cell v:=q;cases q⟩
  ·rw[yL.mp z];exact hi.obj
 keep:=fun i h h' st kk=>⟨let ⟨old,he⟩:=st.1;⟨old,kk e (by simp) _ he⟩,st.2.at fun o q=>kk it (by simp) o q⟩
 item:=by
  intro X hP hw hK hc i pins s σ H E I hf st hg
  subst hP hw hK
  obtain⟨xs,x,hq,hx⟩:=hg
  obtain⟨its,rv,p,hz⟩:=hq.src I
  obtain⟨u,hu,ru⟩:=rv.get hx
  obtain⟨⟨old,he⟩,hi⟩:=st
  refine nextE (I.ok.hd hc) he hi p (x:=u) (by simpa using hu) hei fun g tk b1 b2 b3 b4 hk=>⟨.ref s.heap.objs.size,rfl,?_⟩
  have lt:∀ {c:Addr}{o:Obj},s.heap.get? c=some o->s.heap.objs.size≠c:=fun e=>Nat.ne_of_gt (zZ e)
  have hte:s.heap.objs.size≠e:=lt he
  refine wpAny_letOwnedTupleGo_enum (s:={ s with heap:=g,toks:=tk+1 }) b1 fun g' he' hs'=>?_
  have b3':g'.get? s.heap.objs.size=some { cls:=.type "tuple",data:=.seq #[.int i tk,u] }:=hs'.extBut _ _ hte b3
  have ht:nU g' s.heap.objs.size (List.toArray [Value.int (i:Nat) tk,u]):=⟨⟨_,b3',rfl,_,rfl⟩,_,b3',rfl⟩
  refine⟨.ref s.heap.objs.size,_,xF (ch:=[e,it]) (xs:=[.int (i:Nat),x]) (t':=tk+1) I hf (fun c o hb q=>?_) (Nat.le_refl _) ht (.cons ⟨_,rfl⟩ (.cons ru .nil)) (by show 2<=sizeLine;decide),rfl,
   ⟨s.heap.objs.size,x,rfl,I.fresh,rfl,fun zs hzs=>by rw[hzs.inj I hq];exact hx⟩,⟨⟨_,he'⟩,b2.extBut hs'.extBut (Ne.symm hei)⟩,fun c hc'=>?_⟩
  ·simp only[zR,yG,or_false,not_or] at hb
   exact hs'.extBut _ _ hb.1 (hk c o hb.1 hb.2 q)
  ·have:s.heap.objs.size≠c:=by
    simp only[zR,yG,or_false] at hc'
    obtain⟨o1,g1,_⟩:=hi.obj
    rcases hc' with rfl|rfl
    ·exact lt he
    ·exact lt g1
   rw[aA (Ne.symm this)]
   exact (hf c hc').1
 done:=by
  intro X hP hw hK hc i pins s σ H E I hf st hg
  subst hP hw hK
  obtain⟨xs,hq,hx⟩:=hg
  obtain⟨its,rv,p,hz⟩:=hq.src I
  have hh:X.A.in1.handled=none:=I.ok.hd hc
  have hl:=rv.length
  obtain⟨⟨old,he⟩,hi⟩:=st
  have hT:s.TypeIs (.ref e) "enumerate":=⟨_,he,rfl⟩
  unfold pyNext
  refine zW (wpAny_attempt (wpAny_callSpecial?_slot (name:=Str.ofString "__next__") hT F.slot_enumerate_next (wpAny_call_entry F.slot_enumerate_next hT F.entry_enumerate_next ?_ (F.args_enumerate_next_1 _))))
  refine zW (m:=field (.ref e) 2) (wpAny_field he rfl (x:=.ref it) rfl ?_)
  refine zW (nxtE hh hi p (by simp;omega) fun h1 x k1 hx1=>?_)
  obtain⟨o,ho,hc1⟩:=hx1
  refine zW (wpAny_isInstance (T:="StopIteration") (b:=true) ⟨o,ho,hc1⟩ isSubtype_stop (zX ⟨rfl,?_⟩))
  obtain⟨f0,f1,f2,f3,f4,f5⟩:=hf it (by simp)
  exact I.turned (t':=s.toks) (fun b o hb q=>k1 b o hb q) f0 f1 f3 f4 f5
 self:=fun _ _ _ _ _ st h=>let ⟨_,he⟩:=st.1;wpAny_pyIter_enum he h
section
variable {X:Cx}{l:Expr}{f:Env->Option D}{fs:Env->Option (List D)}{elts:List Expr}{k:Nat}{pos p tp:Pos}
theorem JW{tl:TA}(B:oK X "enumerate" (.type "enumerate"))(ha:PA X [l] tl)(hs:starEach [l] X.env=[(false,eval l X.env)]):PI X (.Tuple elts k tp) (.Call (.Name "enumerate" p) [l] [] pos) (fun σ H R=>tl σ H fun vs H1=>∃a,vs=[.ref a]/\∃b xs,ui X.K b a H1 xs/\R (Pe (ui X.K b a)) H1):=by
 intro pins s σ H R I h
 refine Call_ (iF I B.gl B.mg B.bt (PyProof.Rows.callWith_type1 (bW (ha pos pins s σ H _ I h) fun us s1 ⟨vs,H1,I1,r1,q1⟩=>?_) hs rfl))
 obtain⟨a,e,b,xs,hq,q⟩:=q1
 subst e
 obtain⟨u,rfl,rx⟩:=vals1 r1
 cases rx
 have fresh:∀b∈[s1.heap.objs.size+1,s1.heap.objs.size],bJ X pins H1 b:=fun b hb=>by
  rcases zR.mp hb with z|z
  ·subst z;exact I1.fpOk (Nat.le_succ _) (I1.hok.fresh (Nat.le_succ _))
  ·cases yL.mp z;exact I1.fpOk (Nat.le_refl _) I1.fresh
 obtain⟨its,rv,pl,hz⟩:=hq.src I1
 cases b with
 | false =>
  refine call_enumerate_list pl fun h' he hit hsz kp=>wpAny_pyIter_enum (s:={ s1 with heap:=h' }) he ?_
  exact⟨_,_,_,_,H1,rfl,I1.kept (t':=s1.toks) kp,rG false a s1.heap.objs.size (s1.heap.objs.size+1) (Nat.succ_ne_self _),⟨⟨_,he⟩,hit⟩,fresh,q⟩
 | true =>
  refine En.call_enumT (show s1.heap.IsTuple a its.toArray from pl) fun h' he hit hsz kp=>wpAny_pyIter_enum (s:={ s1 with heap:=h' }) he ?_
  exact⟨_,_,_,_,H1,rfl,I1.kept (t':=s1.toks) kp,rG true a s1.heap.objs.size (s1.heap.objs.size+1) (Nat.succ_ne_self _),⟨⟨_,he⟩,hit⟩,fresh,q⟩
def bC(fs:Env->Option (List D)):Env->Option (List D):=fun ρ=>(fs ρ).bind fun ds=>(du ds).map (bj 0)
theorem IY(B:oK X "enumerate" (.type "enumerate"))(h:DA X [l] fs)(hs:starEach [l] X.env=[(false,eval l X.env)]):DI X (.Tuple elts k tp) (.Call (.Name "enumerate" p) [l] [] pos) (bC fs) :=
 uO (JW B h hs) fun σ H R ⟨HF,ρ,ds,sm,eo,hf,q⟩=>by
  obtain⟨x,hx,hf⟩:=bs hf
  obtain⟨es,h1,rfl⟩:=ag hf
  obtain⟨d,h0,h1⟩:=bs h1
  rw[gH h0] at hx
  refine⟨HF,ρ,_,sm,eo,hx,fun vs H1 HF1 g1 r1=>?_⟩
  obtain⟨v,r',rfl,a,b⟩:=r1.cons_inv
  rw[b.nil_inv]
  obtain⟨c,ad,us,rfl,hq,rr⟩:=Al h1 a
  exact⟨ad,rfl,c,us,hq.mono g1.fh,q _ H1 HF1 g1 (C5 hq (fun _ _ s h=>h.mono s) rr)⟩
end
end Dl
namespace Srt
open PySem PySem.W PySem.Calls PyProof.Rows L2
theorem bJ.at{X:Cx}{pins:List (Addr×Obj)}{H H':Hp}{b:Addr}(h:bJ X pins H b)(e:H' b=none):bJ X pins H' b:=⟨e,h.2⟩
section
variable {X:Cx}{pins:List (Addr×Obj)}{σ:L2.St}{H:Hp}{s:Shared}{A:Around}{E:Value->Shared->Prop}
theorem upd_inv{b:Addr}{g:Array Value->Array Value}(I:Inv X pins σ H s)(f:bJ X pins H b):Inv X pins σ H { s with heap:=s.heap.update b (Obj.mapSeq g) }:=by
 obtain⟨f0,f1,f2,f3,f4,f5⟩:=f
 exact I.turned (t':=s.toks) (h':=s.heap.update b (Obj.mapSeq g)) (fun c o hc e=>(Heap.get?_update_other _ _ (Ne.symm hc)).trans e) f0 f1 f3 f4 f5
theorem pin_get{fp:List Addr}{h:Heap}{b:Addr}{o:Obj}{H':Hp}{s':Shared}(I:Inv X (pins++ox fp h) σ H' s')(hb:b∈fp)(e:h.get? b=some o):s'.heap.get? b=some o/\H' b=none :=
 let q:=I.pin (b,o) (yF _ (yF _ (cZ hb e)));⟨q.1,q.2.1⟩
theorem list_sortK{a:Addr}{f:Value}{vs:List Value}{n:Nat}{P:PySem.Fin->Shared->Prop}(I:Inv X pins σ H s)(ho:s.heap.get? a=some (seqObj "list" vs.toArray n))(fa:bJ X pins H a)(h64:vs.length < 64)
  (J:List Value->Hp->Prop) (j0:J [] H)
  (step:∀us v,vs[us.length]?=some v->∀pl s' H',Inv X (pins++pl) σ H' s'->J us H'->wpAny (model X.prog X.w) A (call f [v]) (fun u s''=>∃H'',Inv X (pins++pl) σ H'' s''/\J (us++[u]) H'') (fun _ _=>False) s')
  (fin:∀us H',us.length=vs.length->J us H'->∃ (z:Nat->Int) (κ:SortKind),(2<=vs.length->∀s',Inv X pins σ H' s'->(∀Q':SortKind->Shared->Prop,Q' κ s'->wpAny (model X.prog X.w) A (keyKind' us.toArray) Q' (fun _ _=>False) s') /\
    ∀i j C,i < vs.length->j < vs.length->C (SP.eO z i j) s'->kas_ask X.prog X.w A κ us i j C s') /\
   ∀s' c,Inv X pins σ H' s'->bJ X pins H' a->s'.heap.get? a=some (seqObj "list" (outV z vs).toArray c)->P (.done (.ret .none)) s') :
  wpAny (model X.prog X.w) A (ksk_tree a f false) P E s:=by
 have hsl:vs.length<=sizeLine:=by rw[sizeLine_eq];omega
 unfold ksk_tree
 refine zW (listItems_at ho rfl ?_)
 refine zW (listUpdate_at ho rfl ?_ (by simpa using hsl) (Nat.zero_le _))
 obtain⟨e1,ho1⟩:∃e,(s.heap.update a (Obj.mapSeq fun _=>(#[]:Array Value))).get? a=some (seqObj "list" #[] e):=⟨_,get?_update_seq ho fun _=>#[]⟩
 have I1:=upd_inv (g:=fun _=>(#[]:Array Value)) I fa
 refine zW (seqEpoch_at ho1 rfl ?_)
 refine zW (wpAny_newTuple ?_ (by simpa using hsl))
 refine zW (wpAny_newList ?_ (Nat.zero_le _))
 refine wpAny_holding ?_
 have ho3:(((s.heap.update a (Obj.mapSeq fun _=>(#[]:Array Value))).push (seqObj "tuple" vs.toArray 0)).push (seqObj "list" #[] 0)).get? a=some (seqObj "list" #[] e1):=zV _ (zV _ ho1)
 have hk3:(((s.heap.update a (Obj.mapSeq fun _=>(#[]:Array Value))).push (seqObj "tuple" vs.toArray 0)).push (seqObj "list" #[] 0)).get? ((s.heap.update a (Obj.mapSeq fun _=>(#[]:Array Value))).push (seqObj "tuple" vs.toArray 0)).objs.size=some (seqObj "list" #[] 0):=zY _ rfl
 have I3:=(I1.kept (t':=s.toks) (h':=((s.heap.update a (Obj.mapSeq fun _=>(#[]:Array Value))).push (seqObj "tuple" vs.toArray 0)).push (seqObj "list" #[] 0)) fun b o e=>zV _ (zV _ e))
 have I2:=(I1.kept (t':=s.toks) (h':=(s.heap.update a (Obj.mapSeq fun _=>(#[]:Array Value))).push (seqObj "tuple" vs.toArray 0)) fun b o e=>zV _ e)
 have fk:bJ X pins H ((s.heap.update a (Obj.mapSeq fun _=>(#[]:Array Value))).push (seqObj "tuple" vs.toArray 0)).objs.size:=I2.fpOk (Nat.le_refl _) (I2.hok.fresh (Nat.le_refl _))
 have hka:((s.heap.update a (Obj.mapSeq fun _=>(#[]:Array Value))).push (seqObj "tuple" vs.toArray 0)).objs.size≠a:=by
  have hlt:=zZ ho1
  rw[Heap.size_push]
  exact Nat.ne_of_gt (Nat.lt_succ_of_lt hlt)
 show wpAny _ A _ P E { s with heap:=((s.heap.update a (Obj.mapSeq fun _=>(#[]:Array Value))).push (seqObj "tuple" vs.toArray 0)).push (seqObj "list" #[] 0) }
 generalize ((s.heap.update a (Obj.mapSeq fun _=>(#[]:Array Value))).push (seqObj "tuple" vs.toArray 0)).objs.size=kS at hk3 fk hka
 generalize e3:({ s with heap:=((s.heap.update a (Obj.mapSeq fun _=>(#[]:Array Value))).push (seqObj "tuple" vs.toArray 0)).push (seqObj "list" #[] 0) }:Shared)=s3 at I3
 have ho3:s3.heap.get? a=some (seqObj "list" #[] e1):=by rw[<- e3];exact ho3
 have hk3:s3.heap.get? kS=some (seqObj "list" #[] 0):=by rw[<- e3];exact hk3
 clear e3 I2 I1 ho1 ho
 unfold ksk_rest
 refine zW (wpAny_rule ?_)
 first
  | rw[List.forIn_toArray]
  | (rw[<- Array.forIn_toList];simp only[List.toList_toArray])
  | rw[<- Array.forIn_toList]
 refine zW (ksk_fold (fun i s'=>∃us H' e,us.length=i/\Inv X pins σ H' s'/\H' a=none/\H' kS=none/\s'.heap.get? a=some (seqObj "list" #[] e1)/\s'.heap.get? kS=some (seqObj "list" us.toArray e)/\J us H') vs 0 s3
  ⟨[],H,0,rfl,I3,fa.1,fk.1,ho3,hk3,j0⟩ ?step ?done)
 case step =>
  rintro j x s' hx ⟨us,H',e,hu,I',ha',hk',hoa,hok,j'⟩
  have hu:us.length=j:=by omega
  have hj:j < vs.length:=(zU.mp hx).1
  have Ip:=I'.pinned (fp:=[a,kS]) (fun b hb=>by
   rcases zR.mp hb with rfl|hb
   ·exact bJ.at fa ha'
   ·rw[yL.mp hb];exact bJ.at fk hk') (fun b hb=>by
   rcases zR.mp hb with rfl|hb
   ·exact⟨_,hoa,fun v z=>by cases z⟩
   ·rw[yL.mp hb];exact⟨_,hok,fun v z=>by cases z⟩)
  refine zW (wpAny_attempt (wpAny_mono (step us x (by rw[hu];exact hx) _ s' H' Ip j') (fun u s'' he=>?_) fun _ _ hF=>hF.elim))
  obtain⟨H'',I'',j''⟩:=he
  try dsimp only
  obtain⟨ga,na⟩:=pin_get I'' (b:=a) zE hoa
  obtain⟨gk,nk⟩:=pin_get I'' (b:=kS) (zC _ zE) hok
  have I4:=I''.unpinned
  obtain⟨c2,hc2⟩:∃c2,(s''.heap.update kS (Obj.mapSeq (·.push u))).get? kS=some (seqObj "list" (us.toArray.push u) c2):=⟨_,get?_update_seq gk (·.push u)⟩
  refine zW (listUpdate_at gk rfl ?_ (by rw[zH,sizeLine_eq];omega) (yE (Nat.le_of_eq (Array.size_push ..)) (by rw[zH,sizeLine_eq];omega)))
  refine zX ⟨rfl,us++[u],H'',c2,by rw[zN,hu];simp,upd_inv I4 (bJ.at fk nk),na,nk,(Heap.get?_update_other _ _ hka).trans ga,?_,j''⟩
  rw[hc2]
  simp
 case done =>
  rintro s' ⟨us,H',e,hu,I',ha',hk',hoa,hok,j'⟩
  have hu:us.length=vs.length:=by omega
  try dsimp only
  refine zW (listItems_at hok rfl ?_)
  obtain⟨z,κ,hz,hP⟩:=fin us H' hu j'
  have last:∀st':SortSt,(arrOf st').map (·.2)=(outV z vs).toArray->failedOf st'=none->wpAny (model X.prog X.w) A (ksk_tail a false e1 (.ref kS) st') P E s':=fun st' h1 h2=>by
   unfold ksk_tail
   try dsimp only
   rw[h1,h2]
   have na1:(s'.heap.update kS (Obj.mapSeq fun _=>(#[]:Array Value))).get? a=some (seqObj "list" #[] e1):=(Heap.get?_update_other _ _ hka).trans hoa
   have I5:=upd_inv (g:=fun _=>(#[]:Array Value)) I' (bJ.at fk hk')
   have I6:=upd_inv (s:={ s' with heap:=s'.heap.update kS (Obj.mapSeq fun _=>(#[]:Array Value)) }) (g:=fun _=>(outV z vs).toArray) I5 (bJ.at fa ha')
   refine zW (listUpdate_at hok rfl ?_ (by rw[zH,sizeLine_eq];omega) (Nat.zero_le _))
   refine zW (wpAny_letGo ?_)
   refine zW (seqEpoch_at na1 rfl ?_)
   refine zW (listUpdate_at na1 rfl ?_ (Nat.zero_le _) (by
    simp only[Bool.false_eq_true,if_false]
    show (outV z vs).toArray.size<=_;rw[zH,outV_len];omega))
   obtain⟨c,hc⟩:∃c,((s'.heap.update kS (Obj.mapSeq fun _=>(#[]:Array Value))).update a (Obj.mapSeq fun _=>(outV z vs).toArray)).get? a=some (seqObj "list" (outV z vs).toArray c):=⟨_,get?_update_seq na1 fun _=>(outV z vs).toArray⟩
   simp only[bne_self_eq_false,Bool.false_eq_true,if_false]
   exact zX (hP _ c I6 (bJ.at fa ha') hc)
  unfold ksk_end
  try dsimp only
  simp only[Bool.false_eq_true,if_false]
  by_cases h2:vs.toArray.size < 2
  ·rw[if_pos h2,if_pos h2]
   refine zW (zX ?_)
   rw[StateT.run_pure]
   refine zW (zX (last _ ?_ rfl))
   have h2':vs.length < 2:=by simpa using h2
   unfold outV
   rw[if_pos h2']
   show ((us.toArray.zip vs.toArray).map (·.2))=vs.toArray
   apply Array.toList_inj.mp
   simp only[Array.toList_map,Array.toList_zip]
   exact List.map_snd_zip (by rw[hu];exact Nat.le_refl _)
  ·rw[if_neg h2,if_neg h2]
   have h2':2<=vs.length:=by
    have:¬ vs.length < 2:=by simpa using h2
    omega
   obtain⟨hk,hlt⟩:=hz h2' s' I'
   refine zW (wpAny_mono (hk (fun κ' s''=>κ'=κ/\s''=s') ⟨rfl,rfl⟩) (fun κ' s'' hs=>?_) fun _ _ x=>x.elim)
   obtain⟨rfl,rfl⟩:=hs
   refine zW (wpAny_mono (kat_run (Q:=fun st' s2=>s2=s''/\(arrOf st').map (·.2)=(outV z vs).toArray/\failedOf st'=none) (G:=fun p s2=>s2=s''/\p=SP.run (SP.eO z) (kas_sort vs.length))
    hu h2' h64 (fun p st' s2 a1 a2 a3 a4=>⟨a4.1,?_,a3⟩) (SP.wp_run hlt (kas_sort vs.length) (SP.Fx (by omega)) ⟨rfl,rfl⟩)) ?_ fun _ _ e=>e)
   ·rw[kat_snds hu a2,a4.2]
    unfold outV
    rw[if_neg (by omega)]
   ·rintro⟨⟨⟩,st'⟩ s2 ⟨hs,h4,h5⟩
    subst hs
    exact last st' h4 h5
theorem sortedK{l:Value}{f:Addr}{vs:List Value}{Q:Value->Shared->Prop}(I:Inv X pins σ H s)(h64:vs.length < 64)
  (hcol:∀ {Q':List Value->Shared->Prop},(∀h':Heap,(∀b o,s.heap.get? b=some o->h'.get? b=some o)->Q' vs { s with heap:=h' })->wpAny (model X.prog X.w) A.in1 (collect l) Q' E s)
  (J:List Value->Hp->Prop) (j0:J [] H)
  (step:∀us v,vs[us.length]?=some v->∀pl s' H',Inv X (pins++pl) σ H' s'->J us H'->wpAny (model X.prog X.w) A.in1.in1 (call (.ref f) [v]) (fun u s''=>∃H'',Inv X (pins++pl) σ H'' s''/\J (us++[u]) H'') (fun _ _=>False) s')
  (fin:∀us H',us.length=vs.length->J us H'->∃ (z:Nat->Int) (κ:SortKind),(2<=vs.length->∀s',Inv X pins σ H' s'->(∀Q':SortKind->Shared->Prop,Q' κ s'->wpAny (model X.prog X.w) A.in1.in1 (keyKind' us.toArray) Q' (fun _ _=>False) s') /\
    ∀i j C,i < vs.length->j < vs.length->C (SP.eO z i j) s'->kas_ask X.prog X.w A.in1.in1 κ us i j C s') /\
   ∀s' D c,Inv X pins σ H' s'->bJ X pins H' D->s'.heap.get? D=some (seqObj "list" (outV z vs).toArray c)->Q (.ref D) s') :
  wpAny (model X.prog X.w) A (call (.builtin "sorted") [l] [(Str.ofString "key",.ref f)]) Q E s:=by
 have hsl:vs.length<=sizeLine:=by rw[sizeLine_eq];omega
 refine call_function_entry_kw kind_sorted plain_sorted entry_sorted (ksk_s1 _ _) ?_
 unfold Builtin.«sorted»
 refine zW (m:=checkCount "sorted" 1 1 _) (zX (zW (hcol fun h1 kp=>?_)))
 refine zW (wpAny_newList ?_ (by simpa using hsl))
 have I1:=I.kept (t':=s.toks) kp
 have fD:bJ X pins H h1.objs.size:=I1.fpOk (Nat.le_refl _) (I1.hok.fresh (Nat.le_refl _))
 have hoD:(h1.push (seqObj "list" vs.toArray 0)).get? h1.objs.size=some (seqObj "list" vs.toArray 0):=zY _ rfl
 have I2:=I1.kept (t':=s.toks) (h':=h1.push (seqObj "list" vs.toArray 0)) fun b o e=>zV _ e
 show wpAny _ _ _ _ _ { s with heap:=h1.push (seqObj "list" vs.toArray 0) }
 refine zW (wpAny_holding (wpAny_call_entry_kw slot_list_sort ⟨_,hoD,rfl⟩ entry_list_sort ?body (ksk_l1 _ _)))
 case body =>
  show wpAny (model X.prog X.w) A.in1.in1 (Builtin.«list.sort» ⟨[.ref h1.objs.size],[(Str.ofString "key",.ref f)]⟩) _ _ _
  rw[ksk_t1]
  refine list_sortK I2 hoD fD h64 J j0 step fun us H' hu j'=>?_
  obtain⟨z,κ,hz,hP⟩:=fin us H' hu j'
  exact⟨z,κ,hz,fun s' c I' f' e=>⟨_,rfl,zX ⟨_,rfl,hP s' _ c I' f' e⟩⟩⟩
end
end Srt
namespace Dl
open PySem L2 PySem.Spec PyProof.Rows
theorem _root_.L2.Inv.track{X:Cx}{pins:List (Addr×Obj)}{σ:L2.St}{H:Hp}{s:Shared}{b:Addr}{o:HO}(I:Inv X pins σ H s)(f:bJ X pins H b)(ho:fW X.prog X.w (upd H b o) s.heap b o):Inv X pins σ (upd H b o) s:=by
 obtain⟨f0,f1,f2,f3,f4,f5⟩:=f
 have up:∀c u,H c=some u->upd H b o c=some u:=fun c u e=>by rw[aA (aL e f0)];exact e
 refine⟨I.ok,I.os,I.bare,⟨I.base.keep,I.base.slot,fun c oc e n hx=>?_,I.base.there,fun c xs e=>up c _ (I.base.tups c xs e),fun c oc u e=>up c _ (I.base.frzs c oc u e),⟨fun c u e t=>up c u (I.base.tbls.st c u e t),I.base.tbls.gr⟩⟩,I.loc,I.cell,?_,fun x c e=>?_,fun p hp=>?_,fun c u e=>?_,I.len⟩
 ·have hne:c≠b:=fun z=>by
   rcases f3 with g|g
   ·exact hx (z ▸ g)
   ·exact absurd (zP (zZ e) (z ▸ g)) (Nat.lt_irrefl _)
  rw[aA hne];exact I.base.free c oc e n hx
 ·rw[aA (Ne.symm f1)];exact I.free
 ·rw[aA (f4 x c e)];exact I.freeC x c e
 ·obtain⟨e,n,r⟩:=I.pin p hp
  exact⟨e,by rw[aA (f5 p hp)];exact n,r⟩
 ·by_cases hc:c=b
  ·subst hc;rw[aJ] at e;cases e;exact ho
  ·rw[aA hc] at e
   exact (I.hok c u e).stay (fun d w _ q=>q) (fun d q=>up d _ q) fun d w q _=>up d _ q
def j8(scope:Scope)(N':List Str)(p:Str):Bool:=scope.names.all (fun q=>!decide (q.2=NameKind.cell))&&decide (N'[0]?=some p)&&decide (scope.names.lookup p=some .local)&&decide (scope.isCoroutine=false)&&decide (scope.isGenerator=false)
section
variable {X:Cx}{N:List Str}{sc:Scope}{k:Nat}
theorem zq{scope:Scope}{N':List Str}{p qual:Str}{A:Around}{f c:Addr}{s:Shared}{H:Hp}(C:Bk X N sc (k+3))(hA:ee (k+1) A)(hk:scope.kind=.function)(hnd:N'.Nodup)(hl:j8 scope N' p=true):Bk (dP X A qual scope N' f c s H) N' scope k where
 n:=rfl
 nd:=hnd
 tb:=fun x kd hx=>.inl hx
 calm:=rfl
 fn:=fun x hx=>by
  unfold j8 at hl
  simp only[zF,List.all_eq_true,Bool.not_eq_true',decide_eq_false_iff_not] at hl
  exact absurd rfl (hl.1.1.1.1 _ (mem_of_lookup hx))
 room:=hA.deeper _
 xe:=rfl
 kd:=hk
structure lN(X:Cx)(qual:Str):Prop where
 ex:∃c P,X.env.code=.ref c/\X.env.qual++"<lambda>"=qual/\W.codeHdIn X.K c P=true/\∀HF,gX X.K HF->HF P=some (.tab qual)
def eM(te:Env->Option D)(ρ:Env):List D->Option (List D)
 | []=>some []
 | d::ds=>(te (ρ.set 0 (some d))).bind fun x=>(eM te ρ ds).map (x::·)
theorem k8{te:Env->Option D}{ρ:Env}:∀ {ds ks:List D},eM te ρ ds=some ks->ks.length=ds.length
 | [],ks,h=>by cases h;rfl
 | d'::ds,ks,h=>by
  unfold eM at h
  obtain⟨y,h1,h⟩:=bs h
  obtain⟨ys,h2,rfl⟩:=ag h
  simp[k8 h2]
theorem mZ{te:Env->Option D}{ρ:Env}:∀ {ds ks:List D}{i:Nat}{d:D},eM te ρ ds=some ks->ds[i]?=some d->∃x,te (ρ.set 0 (some d))=some x/\ks[i]?=some x
 | [],ks,i,d,h,e=>by simp at e
 | d'::ds,ks,i,d,h,e=>by
  unfold eM at h
  obtain⟨y,h1,h⟩:=bs h
  obtain⟨ys,h2,rfl⟩:=ag h
  cases i with
  | zero=>simp at e;subst e;exact⟨y,h1,rfl⟩
  | succ i=>obtain⟨x,a,b⟩:=mZ h2 (by simpa using e);exact⟨x,a,by simpa using b⟩
def oE(cs:List Nat)(fl te:Env->Option D):Env->Option (List D):=fun ρ=>(fl ρ).bind fun l=>match l with
 | .list ds=>(eM te (eA 1 cs ρ) ds).bind fun ks=>(intsOf ks).bind fun zs=>if ds.length < 64 then some (pO (fun i=>zs.getD i 0) ds .none) else none
 | _=>none
theorem rF{K:W.Frag}{HF:Hp}{ρ:Env}{σ:L2.St}{cs:List Nat}{d:D}{v:V}(eo:cW K HF ρ σ)(r:Rep K HF d v):cW K HF ((eA 1 cs ρ).set 0 (some d)) ((kl 1 cs σ).set 0 (some v)):=ju (BL eo) r
theorem nC{K:W.Frag}{HF:Hp}:∀ {ks:List D}{zs:List Int}{kvs:List V}{us:List Value},intsOf ks=some zs->aq K HF ks kvs->aB kvs us->IntsAre us zs
 | [],zs,kvs,us,h,r,v=>by
  cases h
  rw[r.nil_inv] at v
  cases v
  exact .nil
 | d::ks,zs,kvs,us,h,r,v=>by
  cases d<;>simp only[intsOf] at h<;>try cases h
  rename_i i
  obtain⟨ys,h2,rfl⟩:=ag h
  obtain⟨w,ws,rfl,a,b⟩:=r.cons_inv
  simp only[Rep] at a
  subst a
  cases v with
  | cons r1 r2 =>
   obtain⟨t,rfl⟩:=r1
   exact .cons i t (nC h2 b r2)
theorem jD:∀ {us:List Value}{zs:List Int}{i:Nat},IntsAre us zs->i < us.length->∃t,us.getD i Value.none=.int (zs.getD i 0) t
 | _,_,i,.nil,h=>by simp at h
 | _,_,0,.cons n t r,h=>⟨t,rfl⟩
 | _,_,i+1,.cons n t r,h=>by
  obtain⟨t',e⟩:=jD (i:=i) r (by simpa using h)
  exact⟨t',by simpa using e⟩
variable {l body:Expr}{fl te:Env->Option D}{params:Arguments}{scope:Scope}{lpos pos p0 kpos:Pos}{N':List Str}{cs:List Nat}{p qual:Str}
theorem Bk.sortK(C:Bk X N sc (k+3))(B:oK X "sorted" (.builtin "sorted"))(L:lN X qual)(ok:fM sc scope N N' 1 cs=true)(hl:j8 scope N' p=true)
  (hb:∀ (cl:List (Str×Addr)) (pm ctv u:Value) (c:Addr),bindArgs (W.kla_fn "<lambda>" qual params body scope cl pm (.ref c) ctv) ⟨[u],[]⟩=pure [(p,u)]) (hdef:defaultsOf params X.env=([],[])) (h:DE X l fl)
  (hY:∀A f c s H,Bk (dP X A qual scope N' f c s H) N' scope k->DE (dP X A qual scope N' f c s H) body te)
  (hst:starEach [l] X.env=(false,eval l X.env)::starEach [] X.env) (he:backTo pos (starEach [l] X.env)=(false,eval l X.env)::backTo pos (starEach [] X.env)) (hpl:(backTo pos (starEach [l] X.env)).any (·.1)=false) :
  DF X (.Call (.Name "sorted" p0) [l] [⟨some "key",.Lambda params body scope lpos,kpos⟩] pos) (oE cs fl te):=by
 obtain⟨S,_⟩:=C.comp ok
 have hnd:N'.Nodup:=by
  unfold fM at ok
  simp only[zF,zJ] at ok
  exact ok.2
 have hl':=hl
 unfold j8 at hl'
 simp only[zF,List.all_eq_true,Bool.not_eq_true',decide_eq_false_iff_not,zJ] at hl'
 obtain⟨⟨⟨⟨hnc,hN0⟩,hp⟩,hco⟩,hgen⟩:=hl'
 obtain⟨cc,P,hcode,hqual,hhd,eI⟩:=L.ex
 intro pins s σ H Q I ⟨HF,ρ,out,sm,eo,hf,q⟩
 obtain⟨ld,hld,hf⟩:=bs hf
 cases ld<;>try cases hf
 rename_i ds
 obtain⟨ks,hks,hf⟩:=bs hf
 obtain⟨zs,hzs,hf⟩:=bs hf
 split at hf<;>cases hf
 rename_i h64
 refine wpAny_Call_Name_kw (iF I B.gl B.mg B.bt ?_ (by decide) (by decide))
 refine PyProof.Rows.callWith_kw (e:=l) (rest:=[]) (kws:=[⟨some "key",.Lambda params body scope lpos,kpos⟩]) ?_ he hpl rfl rfl
 refine bW (wN h AF hst pos pins s σ H _ I ⟨HF,ρ,[.list ds],sm,eo,by simp[aa,ae,hld],fun vs H1 HF1 g1 r1=>(⟨HF1,g1,r1⟩:∃HF1,bM HF H HF1 H1/\aq X.K HF1 [.list ds] vs)⟩) fun us s1 ⟨vs,H1,I1,rv,HF1,g1,r1⟩=>?_
 obtain⟨v,vr,rfl,a1,b1⟩:=r1.cons_inv
 rw[b1.nil_inv] at rv
 obtain⟨u,rfl,rx⟩:=vals1 rv
 simp only[Rep] at a1
 obtain⟨la,ws,rfl,hq,rr⟩:=a1
 cases rx
 have hT1:H1 P=some (.tab qual):=g1.fh _ _ (eI HF1 (eo.tb.mono g1.ff))
 show wpAny _ _ (evalAll ((do let v <- eval (.Lambda params body scope lpos) X.env;standAt pos;pure v)::[])) _ _ s1
 refine wpAny_evalAll_cons (zW ?_)
 refine qj (P:=P) I1 S hqual hcode (W.codeHd_of_K I1.ok.mod.kin hhd) hT1 I1.ok.mod.bmd hdef fun f c' pm ctv s2 H2 I2 hfo hfn hcod s12 fp2 _=>?_
 refine zW (wpAny_standAt (zX (wpAny_evalAll_nil ?_)))
 show wpAny _ _ (call (.builtin "sorted") [.ref la] [(Str.ofString "key",.ref f)]) _ _ s2
 have Ip:=I2.pinned (fp:=[f]) (fun b hb=>by rw[yL.mp hb];exact fp2) (fun b hb=>by rw[yL.mp hb];exact⟨_,hfo,fun v z=>by cases z⟩)
 have g2:bM HF1 H1 HF1 H2:=⟨s12,.refl _,g1.fh.trans s12,fun _ _ e=>.inl e⟩
 obtain⟨its,rvi,pl,hz⟩:=Ip.list (s12.seq (g1.fh.seq hq))
 have hlen:its.length=ds.length:=by rw[<- rvi.length,rr.length]
 have hkl:=k8 hks
 have hR:ee (k+1) X.A.in1.in1:=C.room.in1.in1
 refine Srt.sortedK (vs:=its) Ip (by omega) (fun {Q'} hQ=>?_) (fun us H'=>∃HF' kvs,bM HF1 H2 HF' H'/\aq X.K HF' (ks.take us.length) kvs/\aB kvs us) ⟨HF1,[],.refl g2.fh,by simpa using aq.nil,.nil⟩ (fun us x hx pl' s3 H3 I3 ⟨HF3,kvs,g3,rk,rvk⟩=>?_) fun us H3 hu ⟨HF3,kvs,g3,rk,rvk⟩=>?_
 ·refine collect_list pl.isList (hQ _ fun b o e=>?_) (by rw[sizeLine_eq];omega)
  exact (Heap.get?_update_other _ _ (Nat.ne_of_gt (zZ e))).trans (zV _ e)
 ·have hi:us.length < its.length:=(zU.mp hx).1
  obtain⟨w,hw⟩:∃w,ws[us.length]?=some w:=⟨_,zK (by rw[rvi.length];exact hi)⟩
  obtain⟨x',hx',rw'⟩:=rvi.get hw
  rw[hx] at hx'
  cases hx'
  obtain⟨d,hd,rd⟩:=rr.get hw
  obtain⟨kd,hkd,hki⟩:=mZ hks hd
  have hfo3:s3.heap.get? f=some (W.kla_obj "<lambda>" qual params body scope (eJ X.env scope.names []) pm c' ctv) :=
   (I3.pin (f,_) (yF _ (List.mem_append_left _ (yF _ (cZ zE hfo))))).1
  refine wpAny_mono (rP (Q:=fun v H4=>∃HF4,bM HF3 H3 HF4 H4/\Rep X.K HF4 kd v) (te:=tD X.K te) I3 hR I3.ok.frames S hnc hN0 hp hnd hco hgen hfo3 (g3.hh _ _ hcod) (hb _ _ _ _ _) rw' (hY _ _ _ _ _ (zq C hR S.kind hnd hl))
   ⟨HF3,_,kd,g3.fh,rF (eo.mono (g1.ff.trans g3.ff)) (rd.mono g3.ff),hkd,fun v H4 HF4 g4 r4=>⟨HF4,g4,r4⟩⟩) (fun u s4 ⟨v4,H4,I4,r4,HF4,g4,rp⟩=>⟨H4,I4,HF4,kvs++[v4],g3.trans g4,?_,rvk.append (.cons r4 .nil)⟩) fun _ _ e=>e
  rw[zN,List.length_singleton,List.take_add_one,hki]
  exact (rk.mono g4.ff).append (aq.cons rp aq.nil)
 ·have hk':ks.take us.length=ks:=List.take_of_length_le (by omega)
  rw[hk'] at rk
  have ia:=nC hzs rk rvk
  refine⟨fun i=>zs.getD i 0,oneType',fun h2 s3 I3=>⟨fun Q' q'=>?_,fun i j Cc hi hj q'=>?_⟩,fun s3 Dn c I3 fD e=>?_⟩
  ·rw[PyProof.Rows.ksk_kind (keys:=us.toArray) (kz:=zs) (by simpa using ia) (by simpa [hu] using h2)]
   exact zX q'
  ·obtain⟨t1,e1⟩:=jD ia (i:=i) (by omega)
   obtain⟨t2,e2⟩:=jD ia (i:=j) (by omega)
   unfold W.kas_ask
   rw[e1,e2]
   exact W.kat_lt_int q'
  ·have hv:=qS (fun i=>zs.getD i 0) rvi
   have hr:=qQ (fun i=>zs.getD i 0) rr
   have hnD:H3 Dn=none:=fD.1
   have I4:=Inv.track (o:=.lst (pO (fun i=>zs.getD i 0) ws .non)) I3 fD ⟨by rw[(gE _ _ _).length_eq];exact hz,_,c,hv,e⟩
   have G:=(g1.trans g2).trans g3
   refine⟨.ref Dn,_,I4.unpinned,rfl,q Dn _ _ HF3 (G.trans (.own G.fh hnD)) (G.hh.free hnD) (G.fh.free hnD) aJ (hr.mono g3.ff)⟩
end
end Dl
namespace Srt
open PySem PySem.W PySem.Calls PyProof.Rows L2
section
variable {prog:Program}{w:World}{A:Around}{E:Value->Shared->Prop}{s:Shared}
theorem iadd_rng{R:Result->Shared->Prop}{r S:Addr}{a b c:Int}{t u v:Tok}{n:Nat}(hh:A.handled=none)(hr:IsRange s.heap r a b c t u v)(hsmall:Builtin.Range.small a b c=true)(hn:Builtin.Range.rangeSize a b c=n)(hlen:n<=2 ^ 24)
  (hS:s.heap.get? S=some { cls:=.type "list",data:=.seq #[] })
  (hR:∀h' tk acc' c',(∀b o,b≠S->s.heap.get? b=some o->h'.get? b=some o)->h'.get? S=some { cls:=.type "list",dict:=none,data:=.seq acc' c',slots:=#[] } ->
   ItemsOf (fun i v=>∃t,v=.int (a+i * c) t) acc' n->R (.ok (.ret (.ref S))) { s with heap:=h',toks:=tk }):codeAny (model prog w) A (.builtin "list.__iadd__" ⟨[.ref S,.ref r],[]⟩) R s:=by
 refine codeAny_builtin entry_list_iadd' ?_
 rw[Around.under_plainId (by decide +kernel:plainId "list.__iadd__"=true) _]
 exact wpAny_extend_range (A:=A) hh hr hsmall hn hlen S (.ref S) _ hS hR
theorem collect_rng{r:Addr}{a b c:Int}{t u v:Tok}{n:Nat}{Q:List Value->Shared->Prop}(hh:A.handled=none)(hr:IsRange s.heap r a b c t u v)(hsmall:Builtin.Range.small a b c=true)(hn:Builtin.Range.rangeSize a b c=n)(hlen:n<=2 ^ 24)
  (h:∀h' tk acc,(∀b o,s.heap.get? b=some o->h'.get? b=some o)->ItemsOf (fun i v=>∃t,v=.int (a+i * c) t) acc n->Q acc.toList { s with heap:=h',toks:=tk }):wpAny (model prog w) A (collect (.ref r)) Q E s:=by
 unfold collect
 refine zW (wpAny_runValue (codeAny_builtin entry_proto_collect' ?_))
 rw[Around.under_plainId (by decide +kernel:plainId "proto.collect"=true) _]
 show wpAny _ A.in1 (newList [] >>= fun l=>again (.builtin "list.__iadd__" ⟨[l,.ref r],[]⟩)) _ _ s
 refine zW (wpAny_newObj_type ?_)
 have hS:(s.heap.push { cls:=.type "list",data:=.seq #[] }).get? s.heap.objs.size=some { cls:=.type "list",data:=.seq #[] }:=zY _ rfl
 refine zX ⟨plainId_quiet (by decide +kernel) _,iadd_rng (s:={ s with heap:=s.heap.push { cls:=.type "list",data:=.seq #[] } }) hh (zV _ hr) hsmall hn hlen hS fun h' tk acc' c' hk hS' hacc=>?_⟩
 show wpAny _ A (load s.heap.objs.size >>= _) _ _ _
 refine zW (wpAny_load hS' ?_)
 exact zX (h h' tk acc' (fun b o e=>hk b o (Nat.ne_of_lt (zZ e)) (zV _ e)) hacc)
end
section
variable {X:Cx}{pins:List (Addr×Obj)}{σ:L2.St}{H:Hp}{s:Shared}{A:Around}{E:Value->Shared->Prop}
theorem sortedR{l:Value}{f:Addr}{PV:List Value->Prop}{Q:Value->Shared->Prop}(I:Inv X pins σ H s)
  (hcol:∀ {Q':List Value->Shared->Prop},(∀ (h':Heap) (tk:Nat) (vs:List Value),PV vs->(∀b o,s.heap.get? b=some o->h'.get? b=some o)->Q' vs { s with heap:=h',toks:=tk })->wpAny (model X.prog X.w) A.in1 (collect l) Q' E s)
  (rest:∀vs,PV vs->vs.length < 64/\∃J:List Value->Hp->Prop,J [] H /\
   (∀us v,vs[us.length]?=some v->∀pl s' H',Inv X (pins++pl) σ H' s'->J us H'->wpAny (model X.prog X.w) A.in1.in1 (call (.ref f) [v]) (fun u s''=>∃H'',Inv X (pins++pl) σ H'' s''/\J (us++[u]) H'') (fun _ _=>False) s') /\
   (∀us H',us.length=vs.length->J us H'->∃ (z:Nat->Int) (κ:SortKind),(2<=vs.length->∀s',Inv X pins σ H' s'->(∀Q':SortKind->Shared->Prop,Q' κ s'->wpAny (model X.prog X.w) A.in1.in1 (keyKind' us.toArray) Q' (fun _ _=>False) s') /\
    ∀i j C,i < vs.length->j < vs.length->C (SP.eO z i j) s'->kas_ask X.prog X.w A.in1.in1 κ us i j C s') /\
   ∀s' D c,Inv X pins σ H' s'->bJ X pins H' D->s'.heap.get? D=some (seqObj "list" (outV z vs).toArray c)->Q (.ref D) s')) :
  wpAny (model X.prog X.w) A (call (.builtin "sorted") [l] [(Str.ofString "key",.ref f)]) Q E s:=by
 refine call_function_entry_kw kind_sorted plain_sorted entry_sorted (ksk_s1 _ _) ?_
 unfold Builtin.«sorted»
 refine zW (m:=checkCount "sorted" 1 1 _) (zX (zW (hcol fun h1 tk vs hv kp=>?_)))
 obtain⟨h64,J,j0,step,fin⟩:=rest vs hv
 have hsl:vs.length<=sizeLine:=by rw[sizeLine_eq];omega
 refine zW (wpAny_newList ?_ (by simpa using hsl))
 have I1:=I.kept (t':=tk) kp
 have fD:bJ X pins H h1.objs.size:=I1.fpOk (Nat.le_refl _) (I1.hok.fresh (Nat.le_refl _))
 have hoD:(h1.push (seqObj "list" vs.toArray 0)).get? h1.objs.size=some (seqObj "list" vs.toArray 0):=zY _ rfl
 have I2:=I1.kept (t':=tk) (h':=h1.push (seqObj "list" vs.toArray 0)) fun b o e=>zV _ e
 show wpAny _ _ _ _ _ { s with heap:=h1.push (seqObj "list" vs.toArray 0),toks:=tk }
 refine zW (wpAny_holding (wpAny_call_entry_kw slot_list_sort ⟨_,hoD,rfl⟩ entry_list_sort ?body (ksk_l1 _ _)))
 case body =>
  show wpAny (model X.prog X.w) A.in1.in1 (Builtin.«list.sort» ⟨[.ref h1.objs.size],[(Str.ofString "key",.ref f)]⟩) _ _ _
  rw[ksk_t1]
  refine list_sortK I2 hoD fD h64 J j0 step fun us H' hu j'=>?_
  obtain⟨z,κ,hz,hP⟩:=fin us H' hu j'
  exact⟨z,κ,hz,fun s' c I' f' e=>⟨_,rfl,zX ⟨_,rfl,hP s' _ c I' f' e⟩⟩⟩
end
end Srt
namespace Dl
open PySem L2 PySem.Spec PyProof.Rows
def qp(n:Nat):List D:=(List.range n).map fun i=>PyData.int ((i:Nat):Int)
def qx(cs:List Nat)(fs:Env->Option (List D))(te:Env->Option D):Env->Option (List D):=fun ρ=>(fs ρ).bind fun l=>match l with
 | [.int n]=>if 0<=n/\n < 64 then (eM te (eA 1 cs ρ) (qp n.toNat)).bind fun ks=>(rowsOf ks).map fun nss=>pO (fun i=>rk nss (nss.getD i [])) (qp n.toNat) .none else none
 | _=>none
theorem tJ:∀ {vs:List Value}{k:Nat},(∀i v,vs[i]?=some v->∃t,v=Value.int ((k+i:Nat):Int) t)->aB ((List.range' k vs.length).map fun i=>V.int ((i:Nat):Int)) vs
 | [],k,_=>.nil
 | v::vs,k,h=>by
  rw[zL,List.range'_succ,zI]
  obtain⟨t,e⟩:=h 0 v rfl
  refine .cons ⟨t,by simpa using e⟩ (tJ fun i u hu=>?_)
  obtain⟨t',e'⟩:=h (i+1) u (by simpa using hu)
  exact⟨t',by rw[e'];congr 1;omega⟩
theorem ux{K:W.Frag}{HF:Hp}:∀ (l:List Nat),aq K HF (l.map fun i=>PyData.int ((i:Nat):Int)) (l.map fun i=>V.int ((i:Nat):Int))
 | []=>aq.nil
 | i::l=>aq.cons (by simp[Rep]) (ux l)
section
variable {X:Cx}{N:List Str}{sc:Scope}{k:Nat}
variable {e body:Expr}{fs:Env->Option (List D)}{te:Env->Option D}{params:Arguments}{scope:Scope}{lpos pos p0 kpos rpos p1:Pos}{N':List Str}{cs:List Nat}{p qual:Str}
theorem Bk.sortR(C:Bk X N sc (k+3))(B:oK X "sorted" (.builtin "sorted"))(BR:oK X "range" (.type "range"))(L:lN X qual)(ok:fM sc scope N N' 1 cs=true)(hl:j8 scope N' p=true)
  (hb:∀ (cl:List (Str×Addr)) (pm ctv u:Value) (c:Addr),bindArgs (W.kla_fn "<lambda>" qual params body scope cl pm (.ref c) ctv) ⟨[u],[]⟩=pure [(p,u)]) (hdef:defaultsOf params X.env=([],[])) (h:DA X [e] fs)
  (hY:∀A f c s H,Bk (dP X A qual scope N' f c s H) N' scope k->DE (dP X A qual scope N' f c s H) body te)
  (hsR:starEach [e] X.env=[(false,eval e X.env)])
  (hst:starEach [.Call (.Name "range" p1) [e] [] rpos] X.env=(false,eval (.Call (.Name "range" p1) [e] [] rpos) X.env)::starEach [] X.env) (he:backTo pos (starEach [.Call (.Name "range" p1) [e] [] rpos] X.env)=(false,eval (.Call (.Name "range" p1) [e] [] rpos) X.env)::backTo pos (starEach [] X.env)) (hpl:(backTo pos (starEach [.Call (.Name "range" p1) [e] [] rpos] X.env)).any (·.1)=false) :
  DF X (.Call (.Name "sorted" p0) [.Call (.Name "range" p1) [e] [] rpos] [⟨some "key",.Lambda params body scope lpos,kpos⟩] pos) (qx cs fs te):=by
 obtain⟨S,_⟩:=C.comp ok
 have hnd:N'.Nodup:=by
  unfold fM at ok
  simp only[zF,zJ] at ok
  exact ok.2
 have hl':=hl
 unfold j8 at hl'
 simp only[zF,List.all_eq_true,Bool.not_eq_true',decide_eq_false_iff_not,zJ] at hl'
 obtain⟨⟨⟨⟨hnc,hN0⟩,hp⟩,hco⟩,hgen⟩:=hl'
 obtain⟨cc,P,hcode,hqual,hhd,eI⟩:=L.ex
 intro pins s σ H Q I ⟨HF,ρ,out,sm,eo,hf,q⟩
 obtain⟨ld,hld,hf⟩:=bs hf
 obtain⟨n,rfl⟩:∃n,ld=[.int n]:=by
  split at hf
  ·exact⟨_,rfl⟩
  ·cases hf
 simp only at hf
 split at hf
 rotate_left
 ·cases hf
 rename_i h64
 obtain⟨ks,hks,hf⟩:=bs hf
 obtain⟨nss,hns,rfl⟩:=ag hf
 obtain⟨hkr,hne⟩:=k3 hns
 refine wpAny_Call_Name_kw (iF I B.gl B.mg B.bt ?_ (by decide) (by decide))
 refine PyProof.Rows.callWith_kw (e:=.Call (.Name "range" p1) [e] [] rpos) (rest:=[]) (kws:=[⟨some "key",.Lambda params body scope lpos,kpos⟩]) ?_ he hpl rfl rfl
 rw[he]
 refine Calls.spliced_cons ?_
 refine Call_ (iF I BR.gl BR.mg boot_range (PyProof.Rows.callWith_type1 (bW (h rpos pins s σ H _ I ⟨HF,ρ,[.int n],sm,eo,hld,fun vs H1 HF1 g1 r1=>(⟨HF1,g1,r1⟩:∃HF1,bM HF H HF1 H1/\aq X.K HF1 [.int n] vs)⟩) fun us s1 ⟨vs,H1,I1,rv,HF1,g1,r1⟩=>?_) hsR rfl))
 obtain⟨v,vr,rfl,a1,b1⟩:=r1.cons_inv
 rw[b1.nil_inv] at rv
 obtain⟨u,rfl,rx⟩:=vals1 rv
 simp only[Rep] at a1
 subst a1
 obtain⟨t,rfl⟩:=rx
 refine call_range_1 ?_
 refine Calls.spliced_nil ?_
 obtain⟨hn0,hn64⟩:=h64
 have I1':=I1.kept (t':=s1.toks+1+1) (h':=s1.heap.push { cls:=Value.type "range",data:=Data.fields #[Value.int 0 s1.toks,Value.int n t,Value.int 1 (s1.toks+1)] }) fun b o e=>zV _ e
 have hro:(s1.heap.push { cls:=Value.type "range",data:=Data.fields #[Value.int 0 s1.toks,Value.int n t,Value.int 1 (s1.toks+1)] }).get? s1.heap.objs.size=some { cls:=Value.type "range",data:=Data.fields #[Value.int 0 s1.toks,Value.int n t,Value.int 1 (s1.toks+1)] }:=zY _ rfl
 have Ir:=I1'.pinned (fp:=[s1.heap.objs.size]) (fun b hb=>by rw[yL.mp hb];exact I1.fpOk (Nat.le_refl _) I1.fresh) (fun b hb=>by rw[yL.mp hb];exact⟨_,hro,fun v z=>by cases z⟩)
 have hT1:H1 P=some (.tab qual):=g1.fh _ _ (eI HF1 (eo.tb.mono g1.ff))
 show wpAny _ _ (evalAll ((do let v <- eval (.Lambda params body scope lpos) X.env;standAt pos;pure v)::[])) _ _ _
 refine wpAny_evalAll_cons (zW ?_)
 refine qj (P:=P) Ir S hqual hcode (W.codeHd_of_K Ir.ok.mod.kin hhd) hT1 Ir.ok.mod.bmd hdef fun f c' pm ctv s2 H2 I2 hfo hfn hcod s12 fp2 _=>?_
 refine zW (wpAny_standAt (zX (wpAny_evalAll_nil ?_)))
 show wpAny _ _ (call (.builtin "sorted") [.ref s1.heap.objs.size] [(Str.ofString "key",.ref f)]) _ _ s2
 have hr2:IsRange s2.heap s1.heap.objs.size 0 n 1 s1.toks t (s1.toks+1):=(Srt.pin_get I2 zE hro).1
 have Ip:=I2.pinned (fp:=[f]) (fun b hb=>by rw[yL.mp hb];exact fp2) (fun b hb=>by rw[yL.mp hb];exact⟨_,hfo,fun v z=>by cases z⟩)
 have g2:bM HF1 H1 HF1 H2:=⟨s12,.refl _,g1.fh.trans s12,fun _ _ e=>.inl e⟩
 have hkl:=k8 hks
 have hnl:(qp n.toNat).length=n.toNat:=by simp[qp]
 have hR:ee (k+1) X.A.in1.in1:=C.room.in1.in1
 refine Srt.sortedR (PV:=fun vs=>vs.length=n.toNat/\∀i v,vs[i]?=some v->∃t,v=Value.int ((i:Nat):Int) t) Ip (fun {Q'} hQ=>?_) fun its ⟨hil,hiv⟩=>⟨by omega,fun us H'=>∃HF' kvs,bM HF1 H2 HF' H'/\aq X.K HF' (ks.take us.length) kvs/\aB kvs us,⟨HF1,[],.refl g2.fh,by simpa using aq.nil,.nil⟩,fun us x hx pl' s3 H3 I3 ⟨HF3,kvs,g3,rk,rvk⟩=>?_,fun us H3 hu ⟨HF3,kvs,g3,rk,rvk⟩=>?_⟩
 ·refine Srt.collect_rng (n:=n.toNat) C.room.in1.hd hr2 (small_one (by omega) (by omega) (by omega) (by omega)) (by rw[rangeSize_one];split<;>omega) (by omega) fun h' tk acc kp ha=>?_
  refine hQ h' tk acc.toList ⟨by have:=ha.1;simpa using this,fun i v hv=>?_⟩ kp
  obtain⟨t',e'⟩:=ha.2 i v (by simpa using hv)
  exact⟨t',by rw[e'];congr 1;omega⟩
 ·have hi:us.length < n.toNat:=by rw[<- hil];exact (zU.mp hx).1
  obtain⟨tx,rfl⟩:=hiv _ _ hx
  have hd:(qp n.toNat)[us.length]?=some (.int ((us.length:Nat):Int)):=by simp[qp,hi]
  obtain⟨kd,hkd,hki⟩:=mZ hks hd
  have hfo3:s3.heap.get? f=some (W.kla_obj "<lambda>" qual params body scope (eJ X.env scope.names []) pm c' ctv) :=
   (I3.pin (f,_) (yF _ (List.mem_append_left _ (yF _ (cZ zE hfo))))).1
  refine wpAny_mono (rP (v:=V.int ((us.length:Nat):Int)) (Q:=fun v H4=>∃HF4,bM HF3 H3 HF4 H4/\Rep X.K HF4 kd v) (te:=tD X.K te) I3 hR I3.ok.frames S hnc hN0 hp hnd hco hgen hfo3 (g3.hh _ _ hcod) (hb _ _ _ _ _) ⟨tx,rfl⟩ (hY _ _ _ _ _ (zq C hR S.kind hnd hl))
   ⟨HF3,_,kd,g3.fh,rF (eo.mono (g1.ff.trans g3.ff)) (by simp[Rep]),hkd,fun v H4 HF4 g4 r4=>⟨HF4,g4,r4⟩⟩) (fun u s4 ⟨v4,H4,I4,r4,HF4,g4,rp⟩=>⟨H4,I4,HF4,kvs++[v4],g3.trans g4,?_,rvk.append (.cons r4 .nil)⟩) fun _ _ e=>e
  rw[zN,List.length_singleton,List.take_add_one,hki]
  exact (rk.mono g4.ff).append (aq.cons rp aq.nil)
 ·have hk':ks.take us.length=ks:=List.take_of_length_le (by omega)
  rw[hk',hkr] at rk
  have hnn:nss.length=n.toNat:=by
   have:=congrArg List.length hkr
   rw[zD] at this
   omega
  refine⟨fun i=>Dl.rk nss (nss.getD i []),tuples' true,fun h2 s3 I3=>⟨fun Q' q'=>?_,fun i j Cc hi hj q'=>?_⟩,fun s3 Dn c I3 fD e=>?_⟩
  ·obtain⟨fs',tt,hlen,hff⟩:=qB (lF I3 g3.fh rk rvk) hne
   refine W.kat_kind (T:=.type "int") tt (by omega) (fun v hv=>?_) (by decide) q'
   obtain⟨n',t',rfl⟩:=hff v hv
   exact W.Looks.of_pure rfl
  ·have hp3:=lF I3 g3.fh rk rvk
   have ri:=gO (d:=Value.none) (d':=[]) hp3 (show i < us.length by omega)
   have rj:=gO (d:=Value.none) (d':=[]) hp3 (show j < us.length by omega)
   obtain⟨a,o,its1,n1,ea,e1,e2,e3,e4⟩:=ri.ex
   obtain⟨b,o',its',n',eb,f1,f2,f3,f4⟩:=rj.ex
   unfold W.kas_ask
   rw[ea,eb]
   have hmem:nss.getD i []∈nss:=by
    rw[zG,zK (by omega)]
    exact List.getElem_mem _
   have q2:Cc (lexLt (nss.getD i []) (nss.getD j [])) s3:=by
    rw[BN hmem]
    exact q'
   refine W.kat_lt e1 e3 f1 f3 ?_
   have:=qd (prog:=X.prog) (w:=X.w) (A:=X.A.in1.in1) (s:=s3) 0 e4 f4 q2
   have l1:its1.size=(nss.getD i []).length:=by have:=IntsAre.length e4;simpa using this
   have l2:its'.size=(nss.getD j []).length:=by have:=IntsAre.length f4;simpa using this
   rw[l1,l2]
   exact this
  ·have rvi:aB ((List.range n.toNat).map fun i=>V.int ((i:Nat):Int)) its:=by
    have:=tJ (vs:=its) (k:=0) fun i v hv=>by
     obtain⟨t',e'⟩:=hiv i v hv
     exact⟨t',by rw[e'];congr 1;omega⟩
    rw[hil,<- yI] at this
    exact this
   have rr:aq X.K HF1 (qp n.toNat) ((List.range n.toNat).map fun i=>V.int ((i:Nat):Int)):=ux _
   have hv:=qS (fun i=>Dl.rk nss (nss.getD i [])) rvi
   have hr:=qQ (fun i=>Dl.rk nss (nss.getD i [])) rr
   have hnD:H3 Dn=none:=fD.1
   have I4:=Inv.track (o:=.lst (pO (fun i=>Dl.rk nss (nss.getD i [])) ((List.range n.toNat).map fun i=>V.int ((i:Nat):Int)) .non)) I3 fD ⟨by rw[(gE _ _ _).length_eq,zD,zS,PySem.sizeLine_eq];omega,_,c,hv,e⟩
   have G:=(g1.trans g2).trans g3
   refine⟨.ref Dn,_,I4.unpinned.unpinned,rfl,q Dn _ _ HF3 (G.trans (.own G.fh hnD)) (G.hh.free hnD) (G.fh.free hnD) aJ (hr.mono g3.ff)⟩
end
section
variable {X:Cx}{pos:Pos}
def HN(i j l:Nat):Env->D->Option Env:=fun ρ d=>match d with
 | .tuple [x,y,z]=>if isFree ρ i=true/\isFree ρ j=true/\isFree ρ l=true then some (((ρ.set i (some x)).set j (some y)).set l (some z)) else none
 | _=>none
theorem Fu(i j l:Nat){x y z:Str}{px py pz:Pos}{k:Nat}(hc:X.calm=true)(hN:X.N.Nodup)(hi:X.N[i]?=some x)(hx:Loc X.env.scope x)(hj:X.N[j]?=some y)(hy:Loc X.env.scope y)(hl:X.N[l]?=some z)(hz:Loc X.env.scope z)
  (hf:X.fn x=true\/X.env.scope.names.lookup x=some .local) (hf':X.fn y=true\/X.env.scope.names.lookup y=some .local) (hf'':X.fn z=true\/X.env.scope.names.lookup z=some .local) :
  DG X (.Tuple [.Name x px,.Name y py,.Name z pz] k pos) (HN i j l) :=
 rz (Aa hc (gU (gc hN hi hx hf) (gU (gc hN hj hy hf') (gU (gc hN hl hz hf'') vM)))) fun v σ H Q ⟨HF,ρ,d,ρ',sm,eo,r,hf,q⟩=>by
  unfold HN at hf
  split at hf
  ·rename_i x' y' z'
   split at hf
   ·rename_i hh
    cases hf
    simp only[Rep] at r
    obtain⟨a,vs,rfl,hs,rr⟩:=r
    obtain⟨v1,r1,rfl,a1,b1⟩:=rr.cons_inv
    obtain⟨v2,r2,rfl,a2,b2⟩:=b1.cons_inv
    obtain⟨v3,r3,rfl,a3,b3⟩:=b2.cons_inv
    rw[b3.nil_inv] at hs
    exact⟨a,_,rfl,ay sm hs,rfl,v1,_,rfl,v2,_,rfl,v3,_,rfl,rfl,q _ (ju (ju (ju eo a1) a2) a3) (lA (lA (lA eo hh.1) hh.2.1) hh.2.2)⟩
   ·cases hf
  ·cases hf
end
theorem OK{xs:List Value}(h:2<=xs.length):((List.range 2).filterMap fun (k:Nat)=>xs.toArray[((1:Int)+(k:Int) * (-1)).toNat]?)=(xs.take 2).reverse:=by
 match xs,h with
 | a::b::r,_=>rfl
theorem Fc{prog:Program}{w:World}{A:Around}{E:Value->Shared->Prop}{s:Shared}{t sl:Addr}{its:List Value}{tk tk1:Tok}{Q:Value->Shared->Prop}(ht:IsTup s.heap t its.toArray)(hs:s.heap.IsSliceOf sl (.int 1 tk1) .none (.int (-1) tk))
  (h2:2<=its.length) (h:Q (.ref s.heap.objs.size) { s with heap:=s.heap.push { cls:=.type "tuple",data:=.seq (its.take 2).reverse.toArray } }):wpAny (model prog w) A (getItem (.ref t) (.ref sl)) Q E s:=by
 obtain⟨os,hos,hcs,hds⟩:=id hs
 have hTs:s.TypeIs (.ref sl) "slice":=⟨os,hos,hcs⟩
 unfold getItem
 try with_reducible refine wpAny_holding ?_
 first|refine zW (zX ?_)|skip
 refine zW (wpAny_sequenceKey ht.typeIs (by decide) (zW (wpAny_callSpecial?_slot (name:=Str.ofString "__getitem__") ht.typeIs PyProof.Rows.slot_tuple_getitem (wpAny_call_entry PyProof.Rows.slot_tuple_getitem ht.typeIs entry_tuple_getitem ?_ (args_tuple_getitem _ _)))))
 refine zW (m:=Builtin.Tuple.tupleItemsOf (.ref t)) (tupleItemsOf_ ht (zW (wpAny_typeOf hTs ?_)))
 rw[if_pos (by decide)]
 have hap:∀ {R:Int×Int×Nat->Shared->Prop},R (1,-1,2) s->wpAny (model prog w) A.in1 (Builtin.Slice.sliceApplied (.ref sl) (pure ((its.toArray.size:Nat):Int))) R E s:=fun {R} hR=>by
  unfold Builtin.Slice.sliceApplied Builtin.Slice.sliceFields
  refine zW (zW (wpAny_field hos hds (x:=.int 1 tk1) rfl (zW (wpAny_field hos hds (x:=.none) rfl (zW (wpAny_field hos hds (x:=.int (-1) tk) rfl (zX ?_)))))))
  refine zW (slicePart_int ?_)
  show wpAny _ _ (if ((-1:Int) == 0)=true then _ else _) _ _ s
  rw[if_neg (by decide)]
  refine zW (slicePart_int (zW (slicePart_none (zW (zX ?_)))))
  have e1:Builtin.Slice.sliceAdjust (some 1) none (-1) ((its.toArray.size:Nat):Int)=(1,-1):=by
   simp[Builtin.Slice.sliceAdjust]
   omega
  show wpAny _ _ (match Builtin.Slice.sliceAdjust (some 1) none (-1) ((its.toArray.size:Nat):Int) with|(lo,hi)=>pure (lo,(-1:Int),Builtin.Slice.slicePlaces lo hi (-1))) _ _ s
  rw[e1]
  have e2:Builtin.Slice.slicePlaces 1 (-1) (-1)=2:=by decide
  show wpAny _ _ (pure ((1:Int),(-1:Int),Builtin.Slice.slicePlaces 1 (-1) (-1))) _ _ s
  rw[e2]
  exact zX hR
 first
  | refine zW (hap ?_)
  | refine zW (wpAny_of_in1 (hap ?_))
 show wpAny _ _ (if ((1:Int) == 0&&(-1:Int) == 1&&2 == its.toArray.size)=true then _ else _) _ _ s
 rw[if_neg (by simp),OK h2]
 have hz':sizeOk (.seq (its.take 2).reverse.toArray):=yE (m:=2) (by simp;omega) (by decide)
 first
  | exact zW (m:=Builtin.Tuple.tupleExact _) (wpAny_newObj_type (zX ⟨_,rfl,zX h⟩) hz')
  | exact zW (m:=Builtin.Tuple.tupleExact _) (wpAny_newObj_type (zW (zX (zX ⟨_,rfl,zX h⟩))) hz')
  | exact zW (zW (m:=Builtin.Tuple.tupleExact _) (wpAny_newObj_type (zX (zX ⟨_,rfl,zX h⟩)) hz'))
  | exact zW (zW (m:=Builtin.Tuple.tupleExact _) (wpAny_newObj_type (zX ⟨_,rfl,zX h⟩) hz'))
section
variable {X:Cx}{a:Expr}{fa:Env->Option D}{pos p1 p2 p3 p4:Pos}{i j:Nat}
theorem J6{ta:TE}(ha:PE X a ta):PE X (.Subscript a (.Slice (some (.Constant (.int 1) i p1)) none (some (.UnaryOp .USub (.Constant (.int 1) j p4) p3)) p2) pos) (fun σ H Q=>ta σ H fun x H1=>∃b xs,x=.ref b/\ji X.K H1 b xs/\2<=xs.length/\∀p,H1 p=none->Q (.ref p) (upd H1 p (.tup (xs.take 2).reverse))):=by
 intro pins s σ H Q I h
 refine Subscript_ (bW (ha pins s σ H _ I h) fun v s1 ⟨x,H1,I1,r1,b,xs,e,hq,h2,q⟩=>?_)
 subst e
 cases r1
 refine wpAny_Slice ?_
 have hlo:=pI (X:=X) (vF (X:=X) (i:=1) (j:=i) (pos:=p1)) pins s1 σ H1 (fun o H'=>o=some 1/\H'=H1) I1 ⟨1,rfl,rfl,rfl⟩
 refine bW hlo fun vlo s0 ⟨o,H0,I0,plo,e1,e2⟩=>?_
 subst e1 e2
 rw[evalPart_none]
 refine zX ?_
 have hst:=pI (X:=X) (Kx (op:=.USub) ES (vF (X:=X) (i:=1) (j:=j) (pos:=p4)) (pos:=p3)) pins s0 σ H0 (fun o H'=>o=some (-1)/\H'=H0) I0 ⟨1,rfl,-1,rfl,rfl,rfl⟩
 refine bW hst fun vst s2 ⟨o,H2,I2,pst,e1,e2⟩=>?_
 subst e1 e2
 cases plo with
 | int _ tk1 =>
 cases pst with
 | int _ tk =>
 obtain⟨its,r,ht,hz⟩:=I2.tuple hq
 have I4:Inv X pins σ H2 { s2 with heap:=s2.heap.push { cls:=.type "slice",data:=.fields #[.int 1 tk1,.none,.int (-1) tk] } }:=I2.kept (t':=s2.toks) fun b ob q=>zV _ q
 obtain⟨its',r',ht',_⟩:=I4.tuple hq
 refine tail_any (ops:=[.ref b,.ref s2.heap.objs.size]) ht'.typeIs PyProof.Rows.slot_tuple_getitem.lookup (Fc ht' (Heap.IsSliceOf.new ..) (by rw[<- r'.length];exact h2) ?_) (by with_unfolding_all rfl)
 have hv:aB (xs.take 2).reverse (its'.take 2).reverse:=L2.aB.reverse (r'.take 2)
 exact⟨.ref _,_,I4.laid (t':=s2.toks) (o:=.tup (xs.take 2).reverse) (fun b ob q=>zV _ q) (Nat.le_refl _) ⟨by rw[List.length_reverse,List.length_take];omega,_,hv,nU.new _ _⟩,rfl,q _ I4.fresh⟩
def F3:D->Option D|.tuple ds=>if 2<=ds.length then some (.tuple (ds.take 2).reverse) else none|_=>none
theorem Kd(ha:DE X a fa):DE X (.Subscript a (.Slice (some (.Constant (.int 1) i p1)) none (some (.UnaryOp .USub (.Constant (.int 1) j p4) p3)) p2) pos) (f1 F3 fa):=aY (J6 ha) fun σ H Q ⟨HF,ρ,d,sm,eo,hf,q⟩=>by
 obtain⟨x,hx,hf⟩:=bs hf
 refine⟨HF,ρ,x,sm,eo,hx,fun v1 H1 HF1 g1 r1=>?_⟩
 unfold F3 at hf
 split at hf<;>try cases hf
 split at hf
 ·rename_i h2
  cases hf
  simp only[Rep] at r1
  obtain⟨b,vs,rfl,hs,rr⟩:=r1
  exact⟨b,vs,rfl,ay g1.fh hs,by rw[rr.length];exact h2,fun p hp=>q _ _ _ (g1.trans (.new g1.fh hp)) (cY (g1.fh.free hp) (rr.take 2).reverse)⟩
 ·cases hf
end
section
variable {X:Cx}
variable {HF₀ H₀:Hp}
end
section
variable {X:Cx}{e:Expr}{es:List Expr}{fs:Env->Option (List D)}{pos p:Pos}
def L9:List D->Option D
 | [.int a,.int b]=>some (.int (max a b))
 | _=>none
theorem Fn(hc:X.calm=true):eL X (.builtin "max") (fun xs H Q=>∃a b:Int,xs=[.int a,.int b]/\Q (.int (max a b)) H):=by
 intro pins s σ H xs us Q I r h
 have hh:X.A.handled=none:=I.ok.hd hc
 obtain⟨a,b,rfl,q⟩:=h
 cases r with
 | cons r1 r =>
  cases r with
  | cons r2 r =>
   cases r
   obtain⟨t,rfl⟩:=r1
   obtain⟨u,rfl⟩:=r2
   refine max_two_ints hh fun h' tk kp=>⟨.int (max a b),H,I.kept (t':=tk) kp,?_,q⟩
   by_cases h:b > a
   ·rw[if_pos h,show max a b=b by omega];exact⟨_,rfl⟩
   ·rw[if_neg h,show max a b=a by omega];exact⟨_,rfl⟩
theorem L0(hc:X.calm=true)(B:oK X "max" (.builtin "max"))(he:starEach (e::es) X.env=(false,eval e X.env)::starEach es X.env)(hpl:(backTo pos (starEach es X.env)).any (·.1)=false)(ha:DA X (e::es) fs):DE X (.Call (.Name "max" p) (e::es) [] pos) (aZ L9 fs) :=
 gL (Fn hc) (by
  intro HF H ds vs d Q sm r hg q
  unfold L9 at hg
  split at hg
  ·cases hg
   obtain⟨v1,r1,rfl,a1,b1⟩:=r.cons_inv
   obtain⟨v2,r2,rfl,a2,b2⟩:=b1.cons_inv
   rw[b2.nil_inv]
   simp only[Rep] at a1 a2
   exact⟨_,_,by rw[a1,a2],q _ H HF (.refl sm) (by simp[Rep])⟩
  ·cases hg) B ha (by decide) (by decide) he hpl
end
section
variable {X:Cx}{N:List Str}{sc:Scope}{k:Nat}{a b e:Expr}{fa fb:Env->Option D}{pos p:Pos}{HF₀ H₀:Hp}
def OU(x y:D):Option Bool:=match y with
 | .tuple ds=>if SeqAt.shaped x=true/\SeqAt.shaped y=true then some (!ds.any fun z=>PyData.eqv z x) else none
 | .list ds=>if SeqAt.shaped x=true/\SeqAt.shaped y=true then some (!ds.any fun z=>PyData.eqv z x) else none
 | _=>none
theorem GX(hu:X.A.units+66 < cLine):i4 X (compareOp .NotIn) (N3 X.K OU):=by
 intro pins s σ H v1 v2 u1 u2 Q I rx ry h
 obtain⟨HF,x,y,k,sm,r1,r2,hg,q⟩:=h
 obtain⟨as,ra⟩:=g9 I sm r1 rx
 obtain⟨bs,rb⟩:=g9 I sm r2 ry
 cases y<;>simp only[OU] at hg<;>try cases hg
 all_goals
  split at hg<;>cases hg
  rename_i ds hh
  have c1:=SeqAt.canLay_of_shaped hh.1
  have c2:=SeqAt.canLay_of_shaped hh.2
  have d1:=SeqAt.depth_of_shaped hh.1
  simp only[PyData.canLay0] at c2
  have m:=Nat.min_le_right (PyData.depthAll ds) x.depth
  first
   | exact SeqAt.notIn_list_reads rb ra c2 c1 (by omega) ⟨.bl _,H,I,rfl,q⟩
   | exact SeqAt.notIn_tuple_reads rb ra c2 c1 (by omega) ⟨.bl _,H,I,rfl,q⟩
def Eh:D->D->Option D:=fun x y=>(OU x y).map PyData.bool
theorem Bk.notin(C:Bk X N sc k)(ha:DE X a fa)(hb:DE X b fb)(hm:behindInMarks .NotIn b=false:=by rfl):DE X (.Compare a [.NotIn] [b] pos) (f2 Eh fa fb):=jA (GX C.u66) kC ha hb hm
theorem Bk.tnin(C:Bk X N sc k)(ha:DE X a fa)(hb:DE X b fb)(hm:behindInMarks .NotIn b=false:=by rfl):DT X (.Compare a [.NotIn] [b] pos) (fB (f2 Eh fa fb)):=jq (GX C.u66) kC ha hb hm
end
section
variable {X:Cx}{e:Expr}{f:Env->Option D}{pos p p' pos':Pos}
end
section
variable {X:Cx}{a b c e:Expr}{es:List Expr}{fk:Env->Option D}{fs:Env->Option (List D)}{pos p p1 p2 p3:Pos}{x y:Str}
def KD(n:Nat)(m m':List D->Option D)(fk:Env->Option D)(fs:Env->Option (List D)):Env->Option D:=fun ρ=>(fk ρ).bind fun kd=>(fs ρ).bind fun ds=>if ds.length=n then (match kd with
 | .int k=>if k=0 then m ds else if k=1 then m' ds else none
 | _=>none) else none
theorem Iz{k n:Nat}{m m':List D->Option D}(F:dm X.prog X.w X.K X.mg X.base k x n m)(F':dm X.prog X.w X.K X.mg X.base k y n m')(hr:ee k X.A)(hg:Gl X x)(hg':Gl X y)(hk:DE X b fk)(ha:DA X (e::es) fs)
  (hdb:(x == ("__debug__":Str))=false:=by decide) (hdb':(y == ("__debug__":Str))=false:=by decide) (hs:pS b:=by intro _ _;rfl)
  (he:starEach (e::es) X.env=(false,eval e X.env)::starEach es X.env:=by rfl) (hpl:(backTo pos (starEach es X.env)).any (·.1)=false:=by rfl)
  (ht:eval (.Call (.Subscript (.List [.Name x p,.Name y p1] p2) b p3) (e::es) [] pos) X.env=(do callWith pos (<- eval (.Subscript (.List [.Name x p,.Name y p1] p2) b p3) X.env) [] (backTo pos (starEach (e::es) X.env)) (backToKw pos (keywordEach [] X.env))):=by rfl) :
  DE X (.Call (.Subscript (.List [.Name x p,.Name y p1] p2) b p3) (e::es) [] pos) (KD n m m' fk fs):=by
 obtain⟨f,fd,ps,ok,hm,hkp,hb⟩:=F.ex
 obtain⟨f',fd',ps',ok',hm',hkp',hb'⟩:=F'.ex
 intro pins s σ H Q I ⟨HF,ρ,d,sm,eo,hf,q⟩
 obtain⟨kd,h1,hf⟩:=bs hf
 obtain⟨ds,h2,hf⟩:=bs hf
 split at hf
 ·rename_i hl
  obtain⟨kk,rfl⟩:∃kk,kd=.int kk:=by cases kd<;>first|exact⟨_,rfl⟩|cases hf
  rw[ht]
  have hc:PE X (.Subscript (.List [.Name x p,.Name y p1] p2) b p3) _:=KE BD (Gw (di (vn (v:=.ref f) hg hm rfl hdb) (di (vn (v:=.ref f') hg' hm' rfl hdb') iN))) hk hs
  have run:∀ {s1:Shared}{H1 HF1:Hp}{g:Addr}{gd:FuncData}{gs:List Str}{M:List D->Option D},pA X.prog X.w X.K X.mg X.base Ms k g gd gs (LP X.K n M)->W.keepIn X.K (.ref g)=true->Binds X.K gd gs []->M ds=some d->Inv X pins σ H1 s1->bM HF H HF1 H1 ->
    wpAny (model X.prog X.w) X.A (callWith pos (.ref g) [] (backTo pos (starEach (e::es) X.env)) (backToKw pos (keywordEach [] X.env))) (EP X pins σ Q) X.xe s1:=by
   intro s1 H1 HF1 g gd gs M P5 kpg bg hM I1 G1
   refine W.callWith_K (h₀:=X.base) I.ok.mod.kin kpg (bW (ha pos pins s1 σ H1 (fun vs H2=>LP X.K n M (vs++[]) H2 Q E0) I1 ⟨HF1,ρ,ds,G1.fh,eo.mono G1.ff,h2,fun vs H2 HF2 G2 r2=>⟨HF2,ds,d,G2.fh,(eo.mono G1.ff).tb.mono G2.ff,by rw[List.append_nil];exact r2,hl,hM,fun v H' HF' g' r=>q v H' HF' (G1.trans (G2.trans g')) r⟩⟩) fun us s2 ⟨vs,H2,I2,r,q2⟩=>⟨I2.kIn,?_⟩) he hpl
   exact GA P5 hr bg .nil Kz I2 r q2
  refine zW (bW (hc pins s σ H (fun v H1=>∃HF1,bM HF H HF1 H1/\v=(if kk=0 then V.ref f else .ref f')) I ⟨by rw[sizeLine_eq];simp,fun z hz=>?_⟩) fun u s1 ⟨v,H1,I1,rv,HF1,G1,ev⟩=>?_)
  ·have G0:bM HF H HF (upd H z (.lst [.ref f,.ref f'])):=.own sm hz
   refine⟨HF,ρ,.int kk,G0.fh,eo,h1,fun v1 H1 HF1 g1 r1=>?_⟩
   simp only[Rep] at r1
   refine⟨z,[.ref f,.ref f'],kk,(if kk=0 then V.ref f else .ref f'),rfl,r1,.of (g1.hh z _ aJ),?_,HF1,G0.trans g1,rfl⟩
   dsimp only at hf
   by_cases h0:kk=0
   ·subst h0;rfl
   ·rw[if_neg h0] at hf ⊢
    by_cases h1:kk=1
    ·subst h1;rfl
    ·rw[if_neg h1] at hf;cases hf
  ·dsimp only at hf
   by_cases h0:kk=0
   ·rw[if_pos h0] at hf ev
    subst ev
    cases rv
    exact run ok hkp hb hf I1 G1
   ·rw[if_neg h0] at hf ev
    subst ev
    cases rv
    by_cases h1:kk=1
    ·rw[if_pos h1] at hf
     exact run ok' hkp' hb' hf I1 G1
    ·rw[if_neg h1] at hf;cases hf
 ·cases hf
end
section
variable {X:Cx}{HF₀ H₀:Hp}{e:Expr}{pos:Pos}
end
structure HD(h:Heap)(v:Value)(r:List Int):Prop where
 ex:∃ (a:Addr) (o:Obj) (n:Nat) (p:Value) (x y m:Int) (t:Tok),v=.ref a/\r=[x,y,m]/\h.get? a=some o/\o.cls=.type "tuple"/\o.data=.seq #[p,.int m t] n/\nW h p [x,y]
theorem HD.keep{h h':Heap}{v:Value}{r:List Int}(q:HD h v r)(k:∀b o,h.get? b=some o->h'.get? b=some o):HD h' v r:=by
 obtain⟨a,o,n,p,x,y,m,t,e,e1,e2,e3,e4,e5⟩:=q.ex
 exact⟨a,o,n,p,x,y,m,t,e,e1,k _ _ e2,e3,e4,e5.keep k⟩
section
variable {prog:Program}{w:World}{A:Around}{E:Value->Shared->Prop}{s:Shared}
end
section
variable {X:Cx}{e:Expr}{fs:Env->Option (List D)}{p pos:Pos}
end
end Dl
namespace HT
open PySem PyProof.Rows
section
open PySem.SeqAt
open PySem.AutoSeq1 (wpAny_loadPart')
open PySem.MeetsSeq PySem.MeetsSeq2 PySem.MeetsSeq3
end
end HT
namespace Dl
open PySem L2 PySem.Spec PyProof.Rows
def ij(nss:List (List Int))(i j:Nat):Bool:=lexLt (nss.getD i []) (nss.getD j [])
section
variable {prog:Program}{w:World}{A:Around}{E:Value->Shared->Prop}{s:Shared}
theorem Os{p q:Value}{ns ms:List Int}{Q:Value->Shared->Prop}(hp:nW s.heap p ns)(hq:nW s.heap q ms)(hu:A.units < cLine)(h:Q (.bool (lexLt ns ms)) s):wpAny (model prog w) A (richCompare .Lt p q) Q E s:=by
 obtain⟨a,o,its,n,rfl,e1,e2,e3,e4⟩:=hp.ex
 obtain⟨b,o',its',n',rfl,f1,f2,f3,f4⟩:=hq.ex
 exact HT.A9 ⟨o,e1,e2,n,e3⟩ ⟨o',f1,f2,n',f3⟩ e4 f4 hu h
end
section
variable {X:Cx}{e:Expr}{fs:Env->Option (List D)}{p pos:Pos}
def fT:List D->Option (List (List Int))
 | []=>some []
 | d::r=>(jl d).bind fun ns=>(fT r).map (ns::·)
theorem qh:∀ {ds:List D}{nss:List (List Int)},fT ds=some nss->ds=nss.map af
 | [],nss,h=>by cases h;rfl
 | d::r,nss,h=>by
  obtain⟨ns,h1,h⟩:=bs h
  obtain⟨rest,h2,rfl⟩:=ag h
  rw[gf h1,qh h2]
  rfl
theorem uu:∀ (nss:List (List Int)),fT (nss.map af)=some nss
 | []=>rfl
 | ns::r=>by
  have h:jl (af ns)=some ns:=cG ns
  simp only[zI,fT,h,zA,uu r,zB]
end
theorem bJ.of{X:Cx}{pins:List (Addr×Obj)}{H H':Hp}{b:Addr}(h:bJ X pins H b)(hn:H' b=none):bJ X pins H' b:=⟨hn,h.2⟩
theorem iY{X:Cx}{pins:List (Addr×Obj)}{σ:L2.St}{H:Hp}{s:Shared}{h':Heap}{it:Addr}{t:Nat}(I:Inv X pins σ H s)(f:bJ X pins H it)(k:∀b o,b≠it->s.heap.get? b=some o->h'.get? b=some o):Inv X pins σ H { s with heap:=h',toks:=t } :=
 I.turned k f.1 f.2.1 f.2.2.2.1 f.2.2.2.2.1 f.2.2.2.2.2
section
variable {X:Cx}{pins:List (Addr×Obj)}{σ:L2.St}{A:Around}
theorem wL(hu:A.in1.units < cLine)(hh:A.in1.handled=none){f I S l:Addr}{xs:List V}{nss:List (List Int)}{J:Hp->Prop}{KR:Nat->Value->Hp->Prop}(hlI:l≠I)(hSI:S≠I)(hSl:S≠l)(hJl:∀H,J H->iU X.K H l xs)
  (step:∀j x v,xs[j]?=some x->RelV x v->∀pl s H,Inv X (pins++pl) σ H s->J H->wpAny (model X.prog X.w) A.in1 (call (.ref f) [v]) (fun u s'=>∃H',Inv X (pins++pl) σ H' s'/\J H'/\KR j u H'/\∀i u0,KR i u0 H->KR i u0 H') (fun _ _=>False) s)
  (row:∀i u H s pl,Inv X (pins++pl) σ H s->KR i u H->nW s.heap u (nss.getD i [])) {R:Result->Shared->Prop} :
  ∀ (k j:Nat) (s:Shared) (H:Hp) (vi vk:Value) (c:Nat),xs.length - (j+1)=k->j+1<=xs.length->Inv X pins σ H s->bJ X pins H I->bJ X pins H S->J H->s.heap.IsListIter I l (j+1) ->
   (∃x,xs[PySem.argBest (ij nss) j]?=some x/\RelV x vi)->KR (PySem.argBest (ij nss) j) vk H ->
   s.heap.get? S=some { cls:=.type "list",dict:=none,data:=.seq #[vi,vk] c,slots:=#[] } ->
   (∀v x s' H',xs[PySem.argBest (ij nss) (xs.length - 1)]?=some x->RelV x v->Inv X pins σ H' s'->J H'->R (.ok (.ret v)) s') ->
   codeAny (model X.prog X.w) A (.builtin "min.loop" ⟨[.ref I,.ref f,.ref S],[]⟩) R s:=by
 have hname:(toString "min"++toString ".loop":String)="min.loop":=by decide
 intro k
 induction k with
 | zero =>
  intro j s H vi vk c hk hj I0 fI fS hJ hit hb hK hS hR
  obtain⟨its,rv,pl0,hz⟩:=I0.list (hJl H hJ)
  have hln:=rv.length
  have W:=Walks.list (prog:=X.prog) (w:=X.w) (A:=A.in1) hh I l hlI its.toArray
  have vsz:its.toArray.size=its.length:=by simp
  refine codeAny_builtin F.entry_min_loop ?_
  rw[Around.under_plainId F.plain_min_loop _]
  show wpAny _ A.in1 (seqItems? (.ref S) >>= _) _ _ s
  refine zW (wpAny_seqItems hS rfl ?_)
  show wpAny _ A.in1 (tryCatch (pyNext (.ref I)) _ >>= _) _ _ s
  have hst:s.heap.IsListIter I l its.toArray.size/\s.heap.IsList l its.toArray:=⟨by rw[vsz,<- hln,show xs.length=j+1 by omega];exact hit,pl0.isList⟩
  refine zW (wpAny_tryCatch (W.done s _ _ hst fun h' tk hk'=>?_))
  have hS':=hk' S _ (by simp[hSI]) hS
  show wpAny _ A.in1 (updateSeq S (fun _=>#[]) >>= _) _ _ _
  refine zW ?_
  refine wpAny_updateSeq hS' rfl (zW (wpAny_letGo (zX ?_)))
  obtain⟨x,hx,rx⟩:=hb
  have I1:Inv X pins σ H { s with heap:=h',toks:=tk }:=iY I0 fI fun b o n e=>hk' b o (by simpa using n) e
  exact hR vi x _ H (by rw[show xs.length - 1=j by omega];exact hx) rx (iY (t:=tk) I1 fS fun b o n e=>(Heap.get?_update_other _ _ (Ne.symm n)).trans e) hJ
 | succ k ih =>
  intro j s H vi vk c hk hj I0 fI fS hJ hit hb hK hS hR
  obtain⟨its,rv,pl0,hz⟩:=I0.list (hJl H hJ)
  have hln:=rv.length
  have W:=Walks.list (prog:=X.prog) (w:=X.w) (A:=A.in1) hh I l hlI its.toArray
  have vsz:its.toArray.size=its.length:=by simp
  have hlt:j+1 < xs.length:=by omega
  refine codeAny_builtin F.entry_min_loop ?_
  rw[Around.under_plainId F.plain_min_loop _]
  show wpAny _ A.in1 (seqItems? (.ref S) >>= _) _ _ s
  refine zW (wpAny_seqItems hS rfl ?_)
  show wpAny _ A.in1 (tryCatch (pyNext (.ref I)) _ >>= _) _ _ s
  refine zW (wpAny_tryCatch (W.item (j+1) s _ _ (by rw[vsz,<- hln];exact hlt) ⟨hit,pl0.isList⟩ fun v h' tk hP hst' hk'=>?_))
  have hS':=hk' S _ (by simp[hSI]) hS
  have I1:Inv X pins σ H { s with heap:=h',toks:=tk }:=iY I0 fI fun b o n e=>hk' b o (by simpa using n) e
  have hv:its[j+1]?=some v:=by simpa using hP
  obtain⟨x,hx⟩:∃x,xs[j+1]?=some x:=⟨_,zK hlt⟩
  obtain⟨v',hv',rx⟩:=rv.get hx
  rw[hv] at hv'
  cases hv'
  obtain⟨oI,hoI,cI,dI⟩:=hst'.1
  have Ip:=I1.pinned (fp:=[I,S]) (fun b hb=>by
   rcases zR.mp hb with rfl|hb
   ·exact fI
   ·rw[yL.mp hb];exact fS) (fun b hb=>by
   rcases zR.mp hb with rfl|hb
   ·exact⟨oI,hoI,fun v z=>by rw[dI] at z;cases z⟩
   ·rw[yL.mp hb];exact⟨_,hS',fun v z=>by cases z⟩)
  show wpAny _ A.in1 (tryCatch (holding [v] (call (.ref f) [v])) _ >>= _) _ _ _
  refine zW (wpAny_tryCatch (wpAny_holding (wpAny_mono (step (j+1) x v hx rx _ _ H Ip hJ) (fun u s2 ⟨H2,I2,J2,K2,kp2⟩=>?_) fun _ _ z=>z.elim)))
  obtain⟨gI,nI⟩:=Srt.pin_get I2 (show I∈[I,S] from zE) hoI
  obtain⟨gS,nS⟩:=Srt.pin_get I2 (show S∈[I,S] from zC _ zE) hS'
  have r1:=row _ _ _ _ _ I2 K2
  have r2:=row _ _ _ _ _ I2 (kp2 _ _ hK)
  have I3:=I2.unpinned
  have fI3:=bJ.of fI nI
  have fS3:=bJ.of fS nS
  have hit2:s2.heap.IsListIter I l (j+1+1):=⟨oI,gI,cI,dI⟩
  show wpAny _ A.in1 (tryCatch (holding [v,u] (richCompare .Lt u vk >>= _)) _ >>= _) _ _ _
  refine zW (wpAny_tryCatch (wpAny_holding (zW (Os r1 r2 hu ?_))))
  refine zW (wpAny_holding (wpAny_truthy_bool ?_))
  refine zW (wpAny_letGo (zX ?_))
  have ebt:lexLt (nss.getD (j+1) []) (nss.getD (PySem.argBest (ij nss) j) [])=ij nss (j+1) (PySem.argBest (ij nss) j):=rfl
  rw[ebt]
  cases hbt:ij nss (j+1) (PySem.argBest (ij nss) j) with
  | true =>
   simp only[if_true]
   refine zW ?_
   refine wpAny_updateSeq gS rfl (zW (wpAny_letGo ?_))
   rw[hname]
   have kp:∀b o,b≠S->s2.heap.get? b=some o->(s2.heap.update S (Obj.mapSeq fun _=>#[v,u])).get? b=some o:=fun b o n e=>(Heap.get?_update_other _ _ (Ne.symm n)).trans e
   refine zX ⟨plainId_quiet F.plain_min_loop _,ih (j+1) _ H2 v u _ (by omega) (by omega) (iY (t:=s2.toks) I3 fS3 kp) fI3 fS3 J2 ⟨oI,kp I oI (Ne.symm hSI) gI,cI,dI⟩ ?_ ?_ (Heap.get?_update_self _ gS rfl) hR⟩
   ·simp only[PySem.argBest,hbt,if_true];exact⟨x,hx,rx⟩
   ·simp only[PySem.argBest,hbt,if_true];exact K2
  | false =>
   simp only[Bool.false_eq_true,if_false]
   refine zW (wpAny_letGo ?_)
   rw[hname]
   refine zX ⟨plainId_quiet F.plain_min_loop _,ih (j+1) _ H2 vi vk c (by omega) (by omega) I3 fI3 fS3 J2 hit2 ?_ ?_ gS hR⟩
   ·simp only[PySem.argBest,hbt,Bool.false_eq_true,if_false];exact hb
   ·simp only[PySem.argBest,hbt,Bool.false_eq_true,if_false];exact kp2 _ _ hK
theorem MP{l f:Value}{Q:Value->Shared->Prop}{E:Value->Shared->Prop}{s:Shared}{prog:Program}{w:World}
  (hc:wpAny (model prog w) A.in1 (Builtin.«min» ⟨[l],[(Str.ofString "key",f)]⟩) (fun fin s'=>match fin with
   | .done g=>(match (Except.ok g:Result) with|.ok (.ret v)=>Q v s'|.ok _=>False|.error e=>E e s')
   | .again c'=>c'.quiet=true/\codeAny (model prog w) A c' (fun r s'=>match r with|.ok (.ret v)=>Q v s'|.ok _=>False|.error e=>E e s') s') E s) :
  wpAny (model prog w) A (call (.builtin "min") [l] [(Str.ofString "key",f)]) Q E s:=by
 refine wpAny_call (codeAny_call_builtin F.plain_min F.entry_min ?_)
 have e:checkBuiltinCall "min" ⟨[l],[(Str.ofString "key",f)]⟩=pure ():=by kernel_rfl
 rw[e]
 exact zX hc
theorem IE(hu:A.in1.units < cLine)(hh:A.handled=none){f l:Addr}{xs:List V}{nss:List (List Int)}{J:Hp->Prop}{KR:Nat->Value->Hp->Prop}{H:Hp}{s:Shared}{Q:Value->Shared->Prop}{E:Value->Shared->Prop}(I0:Inv X pins σ H s)(hJ:J H)(hpos:0 < xs.length)(hJl:∀H,J H->iU X.K H l xs)
  (step:∀j x v,xs[j]?=some x->RelV x v->∀pl s H,Inv X (pins++pl) σ H s->J H->wpAny (model X.prog X.w) A.in1 (call (.ref f) [v]) (fun u s'=>∃H',Inv X (pins++pl) σ H' s'/\J H'/\KR j u H'/\∀i u0,KR i u0 H->KR i u0 H') (fun _ _=>False) s)
  (row:∀i u H s pl,Inv X (pins++pl) σ H s->KR i u H->nW s.heap u (nss.getD i []))
  (h:∀v x s' H',xs[PySem.argBest (ij nss) (xs.length - 1)]?=some x->RelV x v->Inv X pins σ H' s'->J H'->Q v s') :
  wpAny (model X.prog X.w) A (call (.builtin "min") [.ref l] [(Str.ofString "key",.ref f)]) Q E s:=by
 have hname:(toString "min"++toString ".loop":String)="min.loop":=by decide
 obtain⟨its,rv,pl0,hz⟩:=I0.list (hJl H hJ)
 have hln:=rv.length
 have hl:=pl0.isList
 have hlt:l < s.heap.objs.size:=by obtain⟨_,e,_⟩:=hl;exact zZ e
 refine MP ?_
 show wpAny _ A.in1 (Builtin.Builtins.bindParams "min" ["key","default"] 0 ⟨[],[(Str.ofString "key",.ref f)]⟩ >>= _) _ _ s
 refine zW (wpAny_of_eq (show Builtin.Builtins.bindParams "min" ["key","default"] 0 ⟨[],[(Str.ofString "key",.ref f)]⟩=pure [some (.ref f),none] by kernel_rfl) ?_)
 refine zW (zX ?_)
 refine zW (wpAny_pyIter_list hl ?_)
 refine zW (wpAny_newObj_type ?_)
 rw[hname]
 refine zX ⟨plainId_quiet F.plain_min_loop _,codeAny_builtin F.entry_min_loop ?_⟩
 have hz1:(s.heap.push { cls:=.type "list_iterator",data:=.fields #[.ref l,.int 0 0] }).objs.size=s.heap.objs.size+1:=Heap.size_push ..
 have I1:=I0.kept (t':=s.toks) (h':=s.heap.push { cls:=.type "list_iterator",data:=.fields #[.ref l,.int 0 0] }) fun b o e=>zV _ e
 have fI:bJ X pins H s.heap.objs.size:=I0.fpOk (Nat.le_refl _) I0.fresh
 have it1:(s.heap.push { cls:=.type "list_iterator",data:=.fields #[.ref l,.int 0 0] }).IsListIter s.heap.objs.size l 0:=⟨_,zY _ rfl,rfl,rfl⟩
 have k1:∀b o,s.heap.get? b=some o->(s.heap.push { cls:=.type "list_iterator",data:=.fields #[.ref l,.int 0 0] }).get? b=some o:=fun b o e=>zV _ e
 generalize s.heap.push { cls:=.type "list_iterator",data:=.fields #[.ref l,.int 0 0] }=h1 at hz1 I1 it1 k1
 have k2:∀b o,h1.get? b=some o->(h1.push { cls:=.type "list",data:=.seq ([]:List Value).toArray }).get? b=some o:=fun b o e=>zV _ e
 have hS:(h1.push { cls:=.type "list",data:=.seq ([]:List Value).toArray }).get? h1.objs.size=some { cls:=.type "list",dict:=none,data:=.seq #[] 0,slots:=#[] }:=zY _ rfl
 have fS:bJ X pins H h1.objs.size:=I1.fpOk (Nat.le_refl _) I1.fresh
 have I2:=I1.kept (t':=s.toks) k2
 have hSI:h1.objs.size≠s.heap.objs.size:=by rw[hz1];exact Nat.succ_ne_self _
 have hSl:h1.objs.size≠l:=by rw[hz1];exact Nat.ne_of_gt (Nat.lt_succ_of_lt hlt)
 have hlI:l≠s.heap.objs.size:=Nat.ne_of_lt hlt
 generalize h1.push { cls:=.type "list",data:=.seq ([]:List Value).toArray }=h2 at k2 hS I2
 have W:=Walks.list (prog:=X.prog) (w:=X.w) (A:=A.in1) hh s.heap.objs.size l hlI its.toArray
 have st2:h2.IsListIter s.heap.objs.size l 0/\h2.IsList l its.toArray:=⟨it1.at fun o e=>k2 _ _ e,hl.at fun o e=>k2 _ _ (k1 _ _ e)⟩
 rw[Around.under_plainId F.plain_min_loop _]
 show wpAny _ A.in1 (seqItems? (.ref h1.objs.size) >>= _) _ _ { s with heap:=h2 }
 refine zW (wpAny_seqItems hS rfl ?_)
 show wpAny _ A.in1 (tryCatch (pyNext (.ref s.heap.objs.size)) _ >>= _) _ _ { s with heap:=h2 }
 refine zW (wpAny_tryCatch (W.item 0 { s with heap:=h2 } _ _ (by simp;omega) st2 fun v h' tk hP hst' hk'=>?_))
 have hS':=hk' h1.objs.size _ (by simp[hSI]) hS
 have I3:Inv X pins σ H { s with heap:=h',toks:=tk }:=iY (s:={ s with heap:=h2 }) I2 fI fun b o n e=>hk' b o (by simpa using n) e
 have hv:its[0]?=some v:=by simpa using hP
 obtain⟨x,hx⟩:∃x,xs[0]?=some x:=⟨_,zK hpos⟩
 obtain⟨v',hv',rx⟩:=rv.get hx
 rw[hv] at hv'
 cases hv'
 obtain⟨oI,hoI,cI,dI⟩:=hst'.1
 have Ip:=I3.pinned (fp:=[s.heap.objs.size,h1.objs.size]) (fun b hb=>by
  rcases zR.mp hb with rfl|hb
  ·exact fI
  ·rw[yL.mp hb];exact fS) (fun b hb=>by
  rcases zR.mp hb with rfl|hb
  ·exact⟨oI,hoI,fun v z=>by rw[dI] at z;cases z⟩
  ·rw[yL.mp hb];exact⟨_,hS',fun v z=>by cases z⟩)
 show wpAny _ A.in1 (tryCatch (holding [v] (call (.ref f) [v])) _ >>= _) _ _ _
 refine zW (wpAny_tryCatch (wpAny_holding (wpAny_mono (step 0 x v hx rx _ _ H Ip hJ) (fun u s4 ⟨H4,I4,J4,K4,_⟩=>?_) fun _ _ z=>z.elim)))
 obtain⟨gI,nI⟩:=Srt.pin_get I4 (show s.heap.objs.size∈[s.heap.objs.size,h1.objs.size] from zE) hoI
 obtain⟨gS,nS⟩:=Srt.pin_get I4 (show h1.objs.size∈[s.heap.objs.size,h1.objs.size] from zC _ zE) hS'
 have fI4:=bJ.of fI nI
 have fS4:=bJ.of fS nS
 show wpAny _ A.in1 (updateSeq h1.objs.size (fun _=>#[v,u]) >>= _) _ _ _
 refine zW ?_
 refine wpAny_updateSeq gS rfl ?_
 rw[hname]
 have kp:∀b o,b≠h1.objs.size->s4.heap.get? b=some o->(s4.heap.update h1.objs.size (Obj.mapSeq fun _=>#[v,u])).get? b=some o:=fun b o n e=>(Heap.get?_update_other _ _ (Ne.symm n)).trans e
 exact zX ⟨plainId_quiet F.plain_min_loop _,wL (A:=A) hu hh (nss:=nss) hlI hSI hSl hJl step row _ 0 _ H4 v u _ rfl (by omega) (iY (t:=s4.toks) I4.unpinned fS4 kp) fI4 fS4 J4 ⟨oI,kp _ oI (Ne.symm hSI) gI,cI,dI⟩ ⟨x,hx,rx⟩ K4 (Heap.get?_update_self _ gS rfl) h⟩
end
def B5(cs:List Nat)(fl te:Env->Option D):Env->Option D:=fun ρ=>(fl ρ).bind fun l=>match l with
 | .list ds=>(eM te (eA 1 cs ρ) ds).bind fun ks=>(fT ks).bind fun nss=>ds[PySem.argBest (ij nss) (nss.length - 1)]?
 | _=>none
section
variable {X:Cx}{N:List Str}{sc:Scope}{k:Nat}
variable {l body:Expr}{fl te:Env->Option D}{params:Arguments}{scope:Scope}{lpos pos p0 kpos:Pos}{N':List Str}{cs:List Nat}{p qual:Str}
theorem Bk.minK(C:Bk X N sc (k+3))(B:oK X "min" (.builtin "min"))(L:lN X qual)(ok:fM sc scope N N' 1 cs=true)(hl:j8 scope N' p=true)
  (hb:∀ (cl:List (Str×Addr)) (pm ctv u:Value) (c:Addr),bindArgs (W.kla_fn "<lambda>" qual params body scope cl pm (.ref c) ctv) ⟨[u],[]⟩=pure [(p,u)]) (hdef:defaultsOf params X.env=([],[])) (h:DE X l fl)
  (hY:∀A f c s H,Bk (dP X A qual scope N' f c s H) N' scope k->DE (dP X A qual scope N' f c s H) body te)
  (hst:starEach [l] X.env=(false,eval l X.env)::starEach [] X.env) (he:backTo pos (starEach [l] X.env)=(false,eval l X.env)::backTo pos (starEach [] X.env)) (hpl:(backTo pos (starEach [l] X.env)).any (·.1)=false) :
  DE X (.Call (.Name "min" p0) [l] [⟨some "key",.Lambda params body scope lpos,kpos⟩] pos) (B5 cs fl te):=by
 obtain⟨S,_⟩:=C.comp ok
 have hnd:N'.Nodup:=by
  unfold fM at ok
  simp only[zF,zJ] at ok
  exact ok.2
 have hl':=hl
 unfold j8 at hl'
 simp only[zF,List.all_eq_true,Bool.not_eq_true',decide_eq_false_iff_not,zJ] at hl'
 obtain⟨⟨⟨⟨hnc,hN0⟩,hp⟩,hco⟩,hgen⟩:=hl'
 obtain⟨cc,P,hcode,hqual,hhd,eI⟩:=L.ex
 intro pins s σ H Q I ⟨HF,ρ,out,sm,eo,hf,q⟩
 obtain⟨ld,hld,hf⟩:=bs hf
 cases ld<;>try cases hf
 rename_i ds
 obtain⟨ks,hks,hf⟩:=bs hf
 obtain⟨nss,hns,hf⟩:=bs hf
 have hkr:=qh hns
 refine wpAny_Call_Name_kw (iF I B.gl B.mg B.bt ?_ (by decide) (by decide))
 refine PyProof.Rows.callWith_kw (e:=l) (rest:=[]) (kws:=[⟨some "key",.Lambda params body scope lpos,kpos⟩]) ?_ he hpl rfl rfl
 refine bW (wN h AF hst pos pins s σ H _ I ⟨HF,ρ,[.list ds],sm,eo,by simp[aa,ae,hld],fun vs H1 HF1 g1 r1=>(⟨HF1,g1,r1⟩:∃HF1,bM HF H HF1 H1/\aq X.K HF1 [.list ds] vs)⟩) fun us s1 ⟨vs,H1,I1,rv,HF1,g1,r1⟩=>?_
 obtain⟨v,vr,rfl,a1,b1⟩:=r1.cons_inv
 rw[b1.nil_inv] at rv
 obtain⟨u,rfl,rx⟩:=vals1 rv
 simp only[Rep] at a1
 obtain⟨la,ws,rfl,hq,rr⟩:=a1
 cases rx
 have hT1:H1 P=some (.tab qual):=g1.fh _ _ (eI HF1 (eo.tb.mono g1.ff))
 show wpAny _ _ (evalAll ((do let v <- eval (.Lambda params body scope lpos) X.env;standAt pos;pure v)::[])) _ _ s1
 refine wpAny_evalAll_cons (zW ?_)
 refine qj (P:=P) I1 S hqual hcode (W.codeHd_of_K I1.ok.mod.kin hhd) hT1 I1.ok.mod.bmd hdef fun f c' pm ctv s2 H2 I2 hfo hfn hcod s12 fp2 _=>?_
 refine zW (wpAny_standAt (zX (wpAny_evalAll_nil ?_)))
 show wpAny _ _ (call (.builtin "min") [.ref la] [(Str.ofString "key",.ref f)]) _ _ s2
 have Ip:=I2.pinned (fp:=[f]) (fun b hb=>by rw[yL.mp hb];exact fp2) (fun b hb=>by rw[yL.mp hb];exact⟨_,hfo,fun v z=>by cases z⟩)
 have g2:bM HF1 H1 HF1 H2:=⟨s12,.refl _,g1.fh.trans s12,fun _ _ e=>.inl e⟩
 have hkl:=k8 hks
 have hnl:nss.length=ds.length:=by have:=congrArg List.length hkr;rw[zD] at this;omega
 have hR:ee (k+1) X.A.in1:=C.room.in1.mono (by omega)
 have hwl:=rr.length
 obtain⟨hb1,hb2⟩:=zU.mp hf
 refine IE (nss:=nss) (xs:=ws) (J:=fun H'=>∃HF',bM HF1 H2 HF' H') (KR:=fun i u H'=>∃HF' kv,aQ HF' H'/\Rep X.K HF' (af (nss.getD i [])) kv/\RelV kv u)
  (by show X.A.units+1 < cLine;have:=C.room.un;omega) C.room.hd Ip ⟨HF1,.refl g2.fh⟩ (by omega) (fun H' ⟨HF',g'⟩=>g'.fh.seq (g'.ff.seq hq)) (fun j x w hx rw' pl' s3 H3 I3 ⟨HF3,g3⟩=>?_) (fun i u H' s' pl' I' ⟨HF',kv,sm',rp,rl⟩=>?_) fun w x s' H' hx rx I' ⟨HF',g'⟩=>?_
 ·obtain⟨d,hd,rd⟩:=rr.get hx
  obtain⟨kd,hkd,hki⟩:=mZ hks hd
  have hkj:kd=af (nss.getD j []):=by
   rw[hkr,zO] at hki
   rw[zG]
   obtain⟨z,hz,rfl⟩:=ag hki
   rw[hz]
   rfl
  have hfo3:s3.heap.get? f=some (W.kla_obj "<lambda>" qual params body scope (eJ X.env scope.names []) pm c' ctv) :=
   (I3.pin (f,_) (yF _ (List.mem_append_left _ (yF _ (cZ zE hfo))))).1
  exact wpAny_mono (rP (Q:=fun v H4=>∃HF4,bM HF3 H3 HF4 H4/\Rep X.K HF4 kd v) (te:=tD X.K te) I3 hR I3.ok.frames S hnc hN0 hp hnd hco hgen hfo3 (g3.hh _ _ hcod) (hb _ _ _ _ _) rw' (hY _ _ _ _ _ (zq C hR S.kind hnd hl))
   ⟨HF3,_,kd,g3.fh,rF (eo.mono (g1.ff.trans g3.ff)) (rd.mono g3.ff),hkd,fun v H4 HF4 g4 r4=>⟨HF4,g4,r4⟩⟩) (fun u s4 ⟨v4,H4,I4,r4,HF4,g4,rp⟩=>⟨H4,I4,⟨HF4,g3.trans g4⟩,⟨HF4,v4,g4.fh,hkj ▸ rp,r4⟩,fun i u0 ⟨HF5,kv,sm5,rp5,rl5⟩=>⟨HF5,kv,sm5.trans g4.hh,rp5,rl5⟩⟩) fun _ _ e=>e
 ·have:=lF I' sm' (nss:=[nss.getD i []]) (aq.cons rp aq.nil) (.cons rl .nil)
  cases this with
  | cons a _=>exact a
 ·obtain⟨d,hd,rd⟩:=rr.get hx
  rw[hwl,<- hnl] at hd
  rw[hf] at hd
  cases hd
  exact⟨x,H',I'.unpinned,rx,q x H' HF' ((g1.trans g2).trans g') (rd.mono g'.ff)⟩
end
section
variable {X:Cx}{e:Expr}{fs:Env->Option (List D)}{pos p:Pos}
def Dv:List D->Option D
 | [.int a]=>some (.int (if a < 0 then -a else a))
 | _=>none
theorem xh:eL X (.builtin "abs") (fun xs H Q=>∃a:Int,xs=[.int a]/\Q (.int (if a < 0 then -a else a)) H):=by
 intro pins s σ H xs us Q I r h
 obtain⟨a,rfl,q⟩:=h
 cases r with
 | cons r1 r =>
  cases r
  obtain⟨t,rfl⟩:=r1
  exact call_abs_int fun u tk=>⟨.int (if a < 0 then -a else a),H,I.tok tk,⟨_,rfl⟩,q⟩
theorem Nj(B:oK X "abs" (.builtin "abs"))(ha:DA X [e] fs)(he:starEach [e] X.env=(false,eval e X.env)::starEach [] X.env:=by rfl):DE X (.Call (.Name "abs" p) [e] [] pos) (aZ Dv fs) :=
 gL xh (by
  intro HF H ds vs d Q sm r hg q
  unfold Dv at hg
  split at hg
  ·cases hg
   obtain⟨v1,r1,rfl,a1,b1⟩:=r.cons_inv
   rw[b1.nil_inv]
   simp only[Rep] at a1
   exact⟨_,by rw[a1],q _ H HF (.refl sm) (by simp[Rep])⟩
  ·cases hg) B ha (by decide) (by decide) he rfl
end
end Dl
namespace Rf
open PySem L2 Dl PySem.Spec PyProof.Rows
structure Tr where
 e:Expr->Option (Dl.Env->Option D)
 f:Expr->Option (Dl.Env->Option (List D))
 t:Expr->Option (Dl.Env->Option Bool)
structure Sg where
 fn:List (Str×Nat×(List D->Option D))
 int:List (Str×Int)
abbrev FE:=Dl.Env->Option D
def Ab(G:Sg)(sc:Scope)(N:List Str)(x:Str):Option FE:=match N.idxOf? x with
 | some i=>if Dx N sc i x=true then some (ab i) else none
 | none=>if (xX sc x&&!(x == ("__debug__":Str)))=true then (G.int.lookup x).map fun n=>fC (.int n) else none
def CD:Const->Option FE
 | .int i=>some (fC (.int i))
 | .bool b=>some (fC (.bool b))
 | .none=>some (fC .none)
 | .str x=>some (fC (.str x))
 | _=>none
def OM(T:Tr)(op:UnaryOp)(a:Expr):Option FE:=match op with
 | .Not=>(T.e a).map LW
 | _=>none
def O7:Operator->Option (D->D->Option D)
 | .Add=>some aM
 | .Sub=>some Dl.iD
 | .Mult=>some eK
 | .FloorDiv=>some mY
 | .Mod=>some lJ
 | _=>none
def Ol:Expr->Bool
 | .List ..=>true
 | .ListComp ..=>true
 | _=>false
def BM:Expr->Bool
 | .List ..=>true
 | .ListComp ..=>true
 | .BinOp a .Mult _ _=>Ol a
 | .BinOp a .Add b _=>BM a||BM b
 | .Call (.Name x _) _ _ _=>x == ("sorted":Str)||x == ("list":Str)
 | _=>false
def EB(T:Tr)(whole a:Expr)(op:Operator)(b:Expr):Option FE :=
 if BM whole=true then (T.f whole).map cX else (O7 op).bind fun g=>(T.e a).bind fun x=>(T.e b).map fun y=>f2 g x y
def uF(T:Tr)(op:BoolOp):List Expr->Option FE
 | []=>none
 | [a]=>T.e a
 | a::b::r=>(T.e a).bind fun x=>(uF T op (b::r)).map fun y=>match op with|.And=>j6 x y|.Or=>Pd x y
def Oj:CmpOp->Option (D->D->Option D)
 | .Lt=>some wX
 | .LtE=>some B7
 | .Gt=>some Er
 | .GtE=>some PJ
 | .Eq=>some cq
 | .NotEq=>some oC
 | .In=>none
 | .NotIn=>some Eh
 | .Is=>some sV
 | .IsNot=>some oH
def Pq:CmpOp->Option (D->D->Option D)
 | .Lt=>some wX
 | .LtE=>some B7
 | _=>none
def BC(T:Tr)(a:Expr)(ops:List CmpOp)(cs:List Expr):Option FE:=match ops,cs with
 | [op],[b]=>if behindInMarks op b=false then (Oj op).bind fun g=>(T.e a).bind fun x=>(T.e b).map fun y=>f2 g x y else none
 | [op,op'],[b,c]=>if lastMarks [op,op'] [b,c]=false then (Pq op).bind fun g=>(Pq op').bind fun g'=>(T.e a).bind fun x=>(T.e b).bind fun y=>(T.e c).map fun z=>kN g g' x y z else none
 | _,_=>none
def uD(T:Tr):List Expr->Option (Dl.Env->Option (List D))
 | []=>some ae
 | e::es=>if isStar e=false then (T.e e).bind fun x=>(uD T es).map fun r=>aa x r else none
def PY(T:Tr):Option Expr->Option (Dl.Env->Option (Option Int))
 | none=>some og
 | some e=>(T.e e).map Ee
def BH:Expr->Bool
 | .Slice ..=>true
 | .Tuple ..=>true
 | .Starred ..=>true
 | _=>false
def mI:Expr->Bool
 | .UnaryOp .USub (.Constant (.int 1) _ _) _=>true
 | _=>false
def E8:Expr->Bool
 | .Constant (.int 1) _ _=>true
 | _=>false
def Gr(T:Tr)(a b:Expr):Option FE:=match b with
 | .Slice lo hi none _=>(T.e a).bind fun x=>(PY T lo).bind fun l=>(PY T hi).map fun h=>n0 jc x l h
 | .Slice none none (some s) _=>if mI s=true then (T.e a).map fun x=>f1 Jw x else none
 | .Slice (some l) none (some s) _=>if (E8 l&&mI s)=true then (T.e a).map fun x=>f1 F3 x else none
 | _=>if BH b=false then (T.e a).bind fun x=>(T.e b).map fun y=>f2 au x y else none
def Gu:List D->Option D:=fun ds=>(oneOf ds).bind fun d=>match d with
 | .list es=>(boolsOf es).map fun bs=>.bool (bs.any id)
 | _=>none
def n9:Expr->Option Expr
 | .Call (.Name x _) [e] [] _=>if x="set" then some e else none
 | _=>none
def LK(x:Str):Option String:=if x="int" then some "int" else if x="bool" then some "bool" else if x="tuple" then some "tuple" else if x="list" then some "list" else none
def AL(T:Tr)(x:Str)(args:List Expr):Option FE :=
 if x="max" then (if args.isEmpty=true then none else (uD T args).map fun fs=>aZ L9 fs)
 else if x="abs" then (if args.length=1 then (uD T args).map fun fs=>aZ Dv fs else none)
 else none
def A3(G:Sg)(sc:Scope)(T:Tr)(whole:Expr)(x:Str)(args:List Expr):Option FE :=
 if (xX sc x&&args.all fun e=>!isStar e)=true then
  match G.fn.lookup x with
  | some (n,m)=>if (args.isEmpty||x == ("__debug__":Str))=true then none else (uD T args).map fun fs=>ah n m fs
  | none =>
   if x="len" then (match args with
    | [e]=>(match n9 e with
     | some e'=>if (xX sc "set"&&!isStar e')=true then (T.e e').map fun y=>f1 lH y else none
     | none=>(uD T args).map fun fs=>aZ bN fs)
    | _=>none)
   else if x="isinstance" then (match args with
    | [e,.Name y _]=>if xX sc y=true then (LK y).bind fun ty=>(T.e e).map fun z=>KY ty z else none
    | _=>none)
   else if x="tuple" then (if args.length=1 then (uD T args).map fun fs=>aZ bI fs else none)
   else if x="all" then (if args.length=1 then (uD T args).map fun fs=>aZ nB fs else none)
   else if x="any" then (if args.length=1 then (uD T args).map fun fs=>aZ Gu fs else none)
   else if x="sum" then (if args.length=1 then (uD T args).map fun fs=>aZ gw fs else none)
   else if x="min" then (if args.isEmpty=true then none else (uD T args).map fun fs=>aZ xM fs)
   else if (x == ("list":Str)||x == ("sorted":Str))=true then (T.f whole).map cX
   else AL T x args
 else none
def Bu:Expr->Bool
 | .Call ..=>true
 | _=>false
def Ao(T:Tr)(o:Expr)(m:Str)(apos:Pos)(args:List Expr)(cpos:Pos):Option FE :=
 if (m == ("index":Str)&&apos.endLine == cpos.line&&!Bu o)=true then (match args with
  | [e]=>if isStar e=false then (T.e o).bind fun x=>(T.e e).map fun y=>f2 pH x y else none
  | _=>none)
 else none
def Aw(G:Sg)(sc:Scope)(T:Tr)(x y:Str)(b:Expr)(args:List Expr):Option FE :=
 if ((xX sc x&&xX sc y)&&((args.all fun e=>!isStar e)&&(!args.isEmpty&&(!BH b&&(!(x == ("__debug__":Str))&&!(y == ("__debug__":Str)))))))=true then
  (G.fn.lookup x).bind fun p=>(G.fn.lookup y).bind fun q=>if p.1=q.1 then (T.e b).bind fun fk=>(uD T args).map fun fs=>KD p.1 p.2 q.2 fk fs else none
 else none
def BU(G:Sg)(sc:Scope)(N:List Str)(T:Tr)(whole:Expr):Option FE:=match whole with
 | .Name x _=>Ab G sc N x
 | .Constant c _ _=>CD c
 | .UnaryOp op a _=>OM T op a
 | .BinOp a op b _=>EB T whole a op b
 | .BoolOp op es _=>uF T op es
 | .Compare a ops cs _=>BC T a ops cs
 | .IfExp c a b _=>(T.t c).bind fun z=>(T.e a).bind fun x=>(T.e b).map fun y=>P8 z x y
 | .Tuple es _ _=>(uD T es).map aN
 | .Subscript a b _=>Gr T a b
 | .List ..=>(T.f whole).map cX
 | .ListComp ..=>(T.f whole).map cX
 | .Call (.Name x _) args [] _=>A3 G sc T whole x args
 | .Call (.Name _ _) _ (_::_) _=>(T.f whole).map cX
 | .Call (.Attribute o m apos) args [] cpos=>Ao T o m apos args cpos
 | .Call (.Subscript (.List [.Name x _,.Name y _] _) b _) args [] _=>Aw G sc T x y b args
 | _=>none
def OY(T:Tr)(op:BoolOp):List Expr->Option (Dl.Env->Option Bool)
 | []=>none
 | [a]=>T.t a
 | a::b::r=>(T.t a).bind fun x=>(OY T op (b::r)).map fun y=>match op with|.And=>iZ x y|.Or=>td x y
def Gh:Expr->Bool
 | .Name ..=>true
 | .Call ..=>true
 | .Subscript ..=>true
 | _=>false
def stepT(T:Tr)(whole:Expr):Option (Dl.Env->Option Bool):=match whole with
 | .Compare a ops cs _=>(BC T a ops cs).map fB
 | .UnaryOp .Not a _=>(T.t a).map bR
 | .BoolOp op es _=>OY T op es
 | _=>if Gh whole=true then (T.e whole).map fB else none
def wJ:Expr->Bool
 | .Tuple ..=>true
 | _=>false
def OP(sc:Scope)(T:Tr)(tg iter:Expr):Option (Dl.Env->Option (List D)):=match iter with
 | .Call (.Name x _) args [] _ =>
  if x="range" then (match args with|[e]=>if (xX sc "range"&&!isStar e)=true then (uD T args).map bc else none|_=>none)
  else if x="enumerate" then (match args with|[e]=>if (xX sc "enumerate"&&!isStar e&&wJ tg)=true then (uD T args).map bC else none|_=>none)
  else if x="zip" then (match args with|[e,e']=>if (xX sc "zip"&&!isStar e&&!isStar e'&&wJ tg)=true then (uD T args).map jU else none|_=>none)
  else (T.e iter).map aP
 | .Set ..=>none
 | _=>(T.e iter).map aP
def PP:Expr->Option (List Str)
 | .Name x _=>some [x]
 | .Tuple [.Name x _,.Name y _] _ _=>some [x,y]
 | _=>none
def P0:Expr->Option (List Str)
 | .Tuple [.Name x _,.Name y _,.Name z _] _ _=>some [x,y,z]
 | tg=>PP tg
def dC(N:List Str)(scope:Scope):List Nat:=(List.range N.length).filter fun j=>match N[j]? with|some x=>decide (scope.names.lookup x=some .free)|none=>false
def Mv:Expr->Bool
 | .Set ..=>false
 | _=>true
def Kr(B:Tr)(ifs:List Expr):Option (Dl.Env->Option Bool):=match ifs with
 | []=>some fun _=>some true
 | [c]=>B.t c
 | _=>none
def wy(sc:Scope)(N:List Str)(T:Tr)(blk:Scope->List Str->Tr)(elt:Expr)(gens:List Comprehension)(scope:Scope):Option (Dl.Env->Option (List D)):=match gens with
 | [⟨tg,iter,ifs,as⟩] =>
  if as=0 then (P0 tg).bind fun xs =>
   if (fM sc scope N (xs++(dC N scope).filterMap fun j=>N[j]?) xs.length (dC N scope)&&(List.range xs.length).all fun i=>AV (xs++(dC N scope).filterMap fun j=>N[j]?) scope i (xs.getD i ""))=true then
    (OP sc T tg iter).bind fun fi=>(Kr (blk scope (xs++(dC N scope).filterMap fun j=>N[j]?)) ifs).bind fun tt =>
     ((blk scope (xs++(dC N scope).filterMap fun j=>N[j]?)).e elt).map fun te=>ak xs.length (dC N scope) fi (match xs with|[_]=>fG 0|[_,_]=>iz 0 1|_=>HN 0 1 2) tt te
   else none
  else none
 | _=>none
def yU:Arguments->Option Str
 | ⟨[],[⟨x,none,_⟩],none,[],[],none,[]⟩=>if x="number" then some x else if x="plan" then some x else none
 | _=>none
def vh(lam:Option Str)(sc:Scope)(N:List Str)(T:Tr)(lmb:Scope->List Str->Tr)(l:Expr)(params:Arguments)(body:Expr)(scope:Scope):Option (Dl.Env->Option (List D)) :=
 if (lam.isSome&&xX sc "sorted"&&!isStar l)=true then
  (yU params).bind fun p =>
   if (fM sc scope N (p::(dC N scope).filterMap fun j=>N[j]?) 1 (dC N scope)&&j8 scope (p::(dC N scope).filterMap fun j=>N[j]?) p)=true then
    (T.e l).bind fun fl=>((lmb scope (p::(dC N scope).filterMap fun j=>N[j]?)).e body).map fun te=>oE (dC N scope) fl te
   else none
 else none
def uK(lam:Option Str)(sc:Scope)(N:List Str)(T:Tr)(lmb:Scope->List Str->Tr)(l:Expr)(params:Arguments)(body:Expr)(scope:Scope):Option (Dl.Env->Option (List D)):=match l with
 | .Call (.Name r _) [e] [] _ =>
  if (lam.isSome&&xX sc "sorted"&&r == ("range":Str)&&xX sc "range"&&!isStar e)=true then
   (yU params).bind fun p =>
    if (fM sc scope N (p::(dC N scope).filterMap fun j=>N[j]?) 1 (dC N scope)&&j8 scope (p::(dC N scope).filterMap fun j=>N[j]?) p)=true then
     (uD T [e]).bind fun fs=>((lmb scope (p::(dC N scope).filterMap fun j=>N[j]?)).e body).map fun te=>qx (dC N scope) fs te
    else none
  else none
 | _=>none
def Bo(lam:Option Str)(sc:Scope)(N:List Str)(T:Tr)(lmb:Scope->List Str->Tr)(l:Expr)(params:Arguments)(body:Expr)(scope:Scope):Option FE :=
 if (lam.isSome&&xX sc "min"&&!isStar l)=true then
  (yU params).bind fun p =>
   if (fM sc scope N (p::(dC N scope).filterMap fun j=>N[j]?) 1 (dC N scope)&&j8 scope (p::(dC N scope).filterMap fun j=>N[j]?) p)=true then
    (T.e l).bind fun fl=>((lmb scope (p::(dC N scope).filterMap fun j=>N[j]?)).e body).map fun te=>B5 (dC N scope) fl te
   else none
 else none
def Hr(G:Sg)(lam:Option Str)(sc:Scope)(N:List Str)(T:Tr)(lmb:Scope->List Str->Tr)(whole:Expr):Option FE:=match whole with
 | .Call (.Name x _) [l] [⟨some ky,.Lambda params body scope _,_⟩] _=>if (x == ("min":Str)&&ky == ("key":Str))=true then Bo lam sc N T lmb l params body scope else BU G sc N T whole
 | _=>BU G sc N T whole
def Cq(lam:Option Str)(sc:Scope)(N:List Str)(T:Tr)(blk lmb:Scope->List Str->Tr)(whole:Expr):Option (Dl.Env->Option (List D)):=match whole with
 | .List es _=>(uD T es).map fE
 | .ListComp elt gens scope _=>wy sc N T blk elt gens scope
 | .BinOp a .Add b _=>(T.e a).bind fun x=>(T.e b).map fun y=>Qg tE x y
 | .Call (.Name x _) [l] [⟨some ky,.Lambda params body scope _,_⟩] _=>if (x == ("sorted":Str)&&ky == ("key":Str))=true then (match vh lam sc N T lmb l params body scope with|some f=>some f|none=>uK lam sc N T lmb l params body scope) else none
 | .Call (.Name x _) [e] [] _ =>
  if (xX sc x&&!isStar e)=true then
   if x="sorted" then (uD T [e]).map fun fs=>sr hZ fs
   else none
  else none
 | _=>none
def tr(G:Sg):Nat->Option Str->Scope->List Str->Tr
 | 0,_,_,_=>⟨fun _=>none,fun _=>none,fun _=>none⟩
 | n+1,lam,sc,N=>⟨Hr G lam sc N (tr G n lam sc N) (tr G n none),Cq lam sc N (tr G n lam sc N) (tr G n none) (tr G n none),stepT (tr G n lam sc N)⟩
structure MC(G:Sg)(X:Cx)(j:Nat):Prop where
 fn:∀x n m,G.fn.lookup x=some (n,m)->dm X.prog X.w X.K X.mg X.base j x n m
 int:∀x i,G.int.lookup x=some i->∃t,X.mg x=some (.int i t)
 bn:Bn X
structure p7(X:Cx)(tg iter:Expr)(ifs:List Expr)(elt:Expr)(scope:Scope)(f:Dl.Env->Option (List D)):Prop where
 ex:∃ (N':List Str) (t:Nat) (cs:List Nat) (fi:Dl.Env->Option (List D)) (tgt:Dl.Env->D->Option Dl.Env) (tt:Dl.Env->Option Bool) (te:FE),f=ak t cs fi tgt tt te/\jN X scope N' (kl t cs)/\DI X tg iter fi/\(∀x,foldedSetIterable iter X.env x=pure x) /\
  ∀fp s H,DG (aR X scope N' fp s H) tg tgt/\NC (aR X scope N' fp s H) ifs tt/\DE (aR X scope N' fp s H) elt te
structure cT(X:Cx)(T:Tr):Prop where
 c:∀elt gens scope p f,T.f (.ListComp elt gens scope p)=some f->∃tg iter ifs,gens=[⟨tg,iter,ifs,0⟩]/\p7 X tg iter ifs elt scope f
 e:∀e f,T.e e=some f->DE X e f
 f:∀e f,T.f e=some f->DF X e f
 t:∀e f,T.t e=some f->DT X e f
section
variable {G:Sg}{X:Cx}{N:List Str}{sc:Scope}{k j:Nat}{T:Tr}{pos p:Pos}
theorem DQ(C:Bk X N sc k)(g:MC G X j){x:Str}{f:FE}(h:Ab G sc N x=some f):DE X (.Name x pos) f:=by
 unfold Ab at h
 split at h
 ·split at h
  ·cases h;exact C.v _ ‹_›
  ·cases h
 ·split at h
  ·rename_i hg
   obtain⟨n,hn,rfl⟩:=ag h
   obtain⟨t,ht⟩:=g.int x n hn
   simp only[zF,Bool.not_eq_true'] at hg
   exact JR (C.gl hg.1) ht hg.2
  ·cases h
theorem Ag{c:Const}{i:Nat}{f:FE}(h:CD c=some f):DE X (.Constant c i pos) f:=by
 cases c<;>cases h<;>first|exact Lg|exact NB|exact LS|exact Mb
theorem JJ(C:Bk X N sc k)(O:cT X T){op:UnaryOp}{a:Expr}{f:FE}(h:OM T op a=some f):DE X (.UnaryOp op a pos) f:=by
 cases op<;>try cases h
 ·obtain⟨x,hx,rfl⟩:=ag h;exact LX (O.e _ _ hx)
theorem G7(C:Bk X N sc k)(O:cT X T){op:Operator}{a b:Expr}{f:FE}(h:EB T (.BinOp a op b pos) a op b=some f):DE X (.BinOp a op b pos) f:=by
 unfold EB at h
 split at h
 ·obtain⟨x,hx,rfl⟩:=ag h;exact DF.de (O.f _ _ hx)
 ·obtain⟨g,hg,h⟩:=bs h
  obtain⟨x,hx,h⟩:=bs h
  obtain⟨y,hy,rfl⟩:=ag h
  cases op<;>cases hg
  ·exact C.add (O.e _ _ hx) (O.e _ _ hy)
  ·exact C.sub (O.e _ _ hx) (O.e _ _ hy)
  ·exact C.mul (O.e _ _ hx) (O.e _ _ hy)
  ·exact C.mod (O.e _ _ hx) (O.e _ _ hy)
  ·exact C.div (O.e _ _ hx) (O.e _ _ hy)
theorem ue(O:cT X T){op:BoolOp}:∀ {es:List Expr}{f:FE},uF T op es=some f->DE X (.BoolOp op es pos) f
 | [],f,h=>by cases h
 | [a],f,h=>Nh (O.e _ _ h)
 | a::b::r,f,h=>by
  unfold uF at h
  obtain⟨x,hx,h⟩:=bs h
  obtain⟨y,hy,rfl⟩:=ag h
  have ih:=ue O hy
  cases op with
  | And=>exact M1 (O.e _ _ hx) ih
  | Or=>exact NP (O.e _ _ hx) ih
theorem Nr(C:Bk X N sc k){op:CmpOp}{a b:Expr}{g:D->D->Option D}{x y:FE}(hg:Oj op=some g)(hm:behindInMarks op b=false)(ha:DE X a x)(hb:DE X b y):DE X (.Compare a [op] [b] pos) (f2 g x y)/\DT X (.Compare a [op] [b] pos) (fB (f2 g x y)):=by
 cases op<;>cases hg
 ·exact⟨C.eq ha hb,C.teq ha hb⟩
 ·exact⟨C.ne ha hb,C.tne ha hb⟩
 ·exact⟨C.lt ha hb,C.tlt ha hb⟩
 ·exact⟨C.le ha hb,C.tle ha hb⟩
 ·exact⟨C.gt ha hb,C.tgt ha hb⟩
 ·exact⟨C.ge ha hb,C.tge ha hb⟩
 ·exact⟨C.is0 ha hb,C.tis0 ha hb⟩
 ·exact⟨C.not0 ha hb,C.tnot0 ha hb⟩
 ·exact⟨C.notin ha hb hm,C.tnin ha hb hm⟩
theorem Ks{op:CmpOp}{g:D->D->Option D}(h:Pq op=some g):∃r,i4 X (compareOp op) r/\gu X.K r g:=by
 cases op<;>cases h
 ·exact⟨_,EE,iO⟩
 ·exact⟨_,FB,iO⟩
theorem yS(C:Bk X N sc k)(O:cT X T){a:Expr}{ops:List CmpOp}{cs:List Expr}{f:FE}(h:BC T a ops cs=some f):DE X (.Compare a ops cs pos) f/\DT X (.Compare a ops cs pos) (fB f):=by
 unfold BC at h
 split at h
 ·split at h
  ·rename_i hm
   obtain⟨g,hg,h⟩:=bs h
   obtain⟨x,hx,h⟩:=bs h
   obtain⟨y,hy,rfl⟩:=ag h
   exact Nr C hg hm (O.e _ _ hx) (O.e _ _ hy)
  ·cases h
 ·split at h
  ·rename_i hm
   obtain⟨g,hg,h⟩:=bs h
   obtain⟨g',hg',h⟩:=bs h
   obtain⟨x,hx,h⟩:=bs h
   obtain⟨y,hy,h⟩:=bs h
   obtain⟨z,hz,rfl⟩:=ag h
   obtain⟨r,r1,r2⟩:=Ks (X:=X) hg
   obtain⟨r',r1',r2'⟩:=Ks (X:=X) hg'
   exact⟨FC r1 r2 r1' r2' (O.e _ _ hx) (O.e _ _ hy) (O.e _ _ hz) hm,FJ r1 r2 r1' r2' (O.e _ _ hx) (O.e _ _ hy) (O.e _ _ hz) hm⟩
  ·cases h
 ·cases h
theorem cP(O:cT X T):∀ {es:List Expr}{fs:Dl.Env->Option (List D)},uD T es=some fs->DA X es fs
 | [],fs,h=>by cases h;exact AF
 | e::es,fs,h=>by
  unfold uD at h
  split at h
  ·rename_i hs
   obtain⟨x,hx,h⟩:=bs h
   obtain⟨r,hr,rfl⟩:=ag h
   exact Ph hs (O.e _ _ hx) (cP O hr)
  ·cases h
theorem GI(O:cT X T){o:Option Expr}{f:Dl.Env->Option (Option Int)}(h:PY T o=some f):DO X o f:=by
 cases o with
 | none=>cases h;exact Jp
 | some e=>obtain⟨x,hx,rfl⟩:=ag h;exact Jc (O.e _ _ hx)
theorem qP{b:Expr}(h:BH b=false):pS b:=by
 cases b<;>first|(intro _ _;rfl)|cases h
theorem uj{e:Expr}(h:mI e=true):∃j p4 p3,e=.UnaryOp .USub (.Constant (.int 1) j p4) p3:=by
 unfold mI at h
 split at h
 ·exact⟨_,_,_,rfl⟩
 ·cases h
theorem Mx{e:Expr}(h:E8 e=true):∃j p,e=.Constant (.int 1) j p:=by
 unfold E8 at h
 split at h
 ·exact⟨_,_,rfl⟩
 ·cases h
theorem EM(C:Bk X N sc k)(O:cT X T){a b:Expr}{f:FE}(h:Gr T a b=some f):DE X (.Subscript a b pos) f:=by
 unfold Gr at h
 split at h
 ·obtain⟨x,hx,h⟩:=bs h
  obtain⟨l,hl,h⟩:=bs h
  obtain⟨u,hu,rfl⟩:=ag h
  exact C.cut (O.e _ _ hx) (GI O hl) (GI O hu)
 ·split at h
  ·rename_i hm
   obtain⟨x,hx,rfl⟩:=ag h
   obtain⟨_,_,_,rfl⟩:=uj hm
   exact Lo (O.e _ _ hx)
  ·cases h
 ·split at h
  ·rename_i hm
   rw[zF] at hm
   obtain⟨x,hx,rfl⟩:=ag h
   obtain⟨_,_,_,rfl⟩:=uj hm.2
   obtain⟨_,_,rfl⟩:=Mx hm.1
   exact Kd (O.e _ _ hx)
  ·cases h
 ·split at h
  ·rename_i hc
   obtain⟨x,hx,h⟩:=bs h
   obtain⟨y,hy,rfl⟩:=ag h
   exact Oh (O.e _ _ hx) (O.e _ _ hy) (qP hc)
  ·cases h
theorem cE{env:PySem.Env}:∀ {es:List Expr},(es.all fun e=>!isStar e)=true->(backTo pos (starEach es env)).any (·.1)=false
 | [],_=>rfl
 | e::es,h=>by
  rw[List.all_cons,zF,Bool.not_eq_true'] at h
  rw[bh h.1]
  show (false||(backTo pos (starEach es env)).any (·.1))=false
  rw[cE h.2]
  rfl
theorem Gq{e e':Expr}(h:n9 e=some e'):∃p q,e=.Call (.Name "set" p) [e'] [] q:=by
 unfold n9 at h
 split at h
 ·split at h
  ·rename_i hx;cases h;subst hx;exact⟨_,_,rfl⟩
  ·cases h
 ·cases h
theorem Jd{y:Str}{ty:String}(h:LK y=some ty):y∈dc/\bootBuiltins y=some (.type ty)/\y≠"__name__"/\(y == ("__debug__":Str))=false:=by
 unfold LK at h
 split at h
 ·rename_i e;cases h;subst e;exact⟨by decide +kernel,by decide +kernel,by decide,by decide⟩
 ·split at h
  ·rename_i e;cases h;subst e;exact⟨by decide +kernel,by decide +kernel,by decide,by decide⟩
  ·split at h
   ·rename_i e;cases h;subst e;exact⟨by decide +kernel,by decide +kernel,by decide,by decide⟩
   ·split at h
    ·rename_i e;cases h;subst e;exact⟨by decide +kernel,by decide +kernel,by decide,by decide⟩
    ·cases h
theorem LF:bootBuiltins "any"=some (.builtin "any"):=by decide +kernel
theorem LN:bootBuiltins "sum"=some (.builtin "sum"):=by decide +kernel
theorem Nk:bootBuiltins "max"=some (.builtin "max"):=by decide +kernel
theorem Nc:bootBuiltins "abs"=some (.builtin "abs"):=by decide +kernel
theorem HE:bootBuiltins "min"=some (.builtin "min"):=by decide +kernel
theorem wx{α:Type}{l:List α}(h:l.length=1):∃a,l=[a]:=by
 match l,h with
 | [a],_=>exact⟨a,rfl⟩
theorem DK(C:Bk X N sc k)(g:MC G X j)(O:cT X T){x:Str}{args:List Expr}{f:FE}(hg:xX sc x=true)(hs:args.all (fun e=>!isStar e)=true)(h:AL T x args=some f):DE X (.Call (.Name x p) args [] pos) f:=by
 have st1:∀ {e:Expr}{es:List Expr},args=e::es->starEach (e::es) X.env=(false,eval e X.env)::starEach es X.env:=fun {e es} q=>by
  subst q
  rw[List.all_cons,zF,Bool.not_eq_true'] at hs
  exact bh hs.1
 have st2:∀ {e:Expr}{es:List Expr},args=e::es->(backTo pos (starEach es X.env)).any (·.1)=false:=fun {e es} q=>by
  subst q
  rw[List.all_cons,zF] at hs
  exact cE hs.2
 unfold AL at h
 split at h
 ·rename_i hx
  subst hx
  split at h
  ·cases h
  ·rename_i hl
   obtain⟨fs,hfs,rfl⟩:=ag h
   cases args with
   | nil=>exact absurd rfl hl
   | cons e es =>
    exact L0 C.calm (C.blt g.bn hg (by decide +kernel) Nk) (st1 rfl) (st2 rfl) (cP O hfs)
 ·split at h
  ·rename_i hx
   subst hx
   split at h
   ·rename_i hl
    obtain⟨fs,hfs,rfl⟩:=ag h
    obtain⟨e,rfl⟩:=wx hl
    exact Nj (C.blt g.bn hg (by decide +kernel) Nc) (cP O hfs) (st1 rfl)
   ·cases h
  ·cases h
theorem El(C:Bk X N sc k)(g:MC G X j)(hjk:j<=k)(O:cT X T){x:Str}{args:List Expr}{f:FE}(h:A3 G sc T (.Call (.Name x p) args [] pos) x args=some f):DE X (.Call (.Name x p) args [] pos) f:=by
 unfold A3 at h
 split at h
 ·rename_i hg
  rw[zF] at hg
  obtain⟨hg,hs⟩:=hg
  have st1:∀ {e:Expr}{es:List Expr},args=e::es->starEach (e::es) X.env=(false,eval e X.env)::starEach es X.env:=fun {e es} q=>by
   subst q
   rw[List.all_cons,zF,Bool.not_eq_true'] at hs
   exact bh hs.1
  have st2:∀ {e:Expr}{es:List Expr},args=e::es->(backTo pos (starEach es X.env)).any (·.1)=false:=fun {e es} q=>by
   subst q
   rw[List.all_cons,zF] at hs
   exact cE hs.2
  split at h
  ·rename_i n m hfn
   split at h
   ·cases h
   ·rename_i hne
    obtain⟨fs,hfs,rfl⟩:=ag h
    cases args with
    | nil=>exact absurd (by simp) hne
    | cons e es =>
     have hd:(x == ("__debug__":Str))=false:=by simpa using hne
     exact IC (g.fn x n m hfn) (C.room.mono hjk) (C.gl hg) (cP O hfs) hd (st1 rfl) (st2 rfl)
  ·split at h
   ·rename_i hx
    subst hx
    split at h
    ·rename_i e
     split at h
     ·rename_i e' he'
      split at h
      ·rename_i hg2
       rw[zF,Bool.not_eq_true'] at hg2
       obtain⟨y,hy,rfl⟩:=ag h
       obtain⟨p1,p2,rfl⟩:=Gq he'
       exact C8 C.calm (C.blt g.bn hg (by decide +kernel) HC) (C.blt g.bn hg2.1 (by decide +kernel) Nm) (O.e _ _ hy) (bh hg2.2)
      ·cases h
     ·obtain⟨fs,hfs,rfl⟩:=ag h
      exact M6 (C.blt g.bn hg (by decide +kernel) HC) (cP O hfs) (st1 rfl)
    ·cases h
   ·split at h
    ·rename_i hx
     subst hx
     split at h
     ·rename_i e y py
      split at h
      ·rename_i hgy
       obtain⟨ty,hty,h⟩:=bs h
       obtain⟨z,hz,rfl⟩:=ag h
       obtain⟨t1,t2,t3,t4⟩:=Jd hty
       exact NG (C.blt g.bn hg (by decide +kernel) sL) (C.blt g.bn hgy t1 t2) (O.e _ _ hz) t3 t4 (st1 rfl)
      ·cases h
     ·cases h
    ·split at h
     ·rename_i hx
      subst hx
      split at h
      ·rename_i hl
       obtain⟨fs,hfs,rfl⟩:=ag h
       obtain⟨e,rfl⟩:=wx hl
       exact Gy (C.blt g.bn hg (by decide +kernel) Fi) (cP O hfs) (st1 rfl)
      ·cases h
     ·split at h
      ·rename_i hx
       subst hx
       split at h
       ·rename_i hl
        obtain⟨fs,hfs,rfl⟩:=ag h
        obtain⟨e,rfl⟩:=wx hl
        exact K3 C.calm (C.blt g.bn hg (by decide +kernel) MX) (cP O hfs) (st1 rfl)
       ·cases h
      ·split at h
       ·rename_i hx
        subst hx
        split at h
        ·rename_i hl
         obtain⟨fs,hfs,rfl⟩:=ag h
         obtain⟨e,rfl⟩:=wx hl
         exact LC C.calm (C.blt g.bn hg (by decide +kernel) LF) (st1 rfl) (cP O hfs)
        ·cases h
       ·split at h
        ·rename_i hx
         subst hx
         split at h
         ·rename_i hl
          obtain⟨fs,hfs,rfl⟩:=ag h
          obtain⟨e,rfl⟩:=wx hl
          exact Le C.calm (C.blt g.bn hg (by decide +kernel) LN) (st1 rfl) (cP O hfs)
         ·cases h
        ·split at h
         ·rename_i hx
          subst hx
          split at h
          ·cases h
          ·rename_i hl
           obtain⟨fs,hfs,rfl⟩:=ag h
           cases args with
           | nil=>exact absurd rfl hl
           | cons e es =>
            exact Ls C.calm (C.blt g.bn hg (by decide +kernel) HE) (st1 rfl) (st2 rfl) (cP O hfs)
         ·split at h
          ·obtain⟨y,hy,rfl⟩:=ag h
           exact DF.de (O.f _ _ hy)
          ·exact DK C g O hg hs h
 ·cases h
end
section
variable {G:Sg}{X:Cx}{N:List Str}{sc:Scope}{k j:Nat}{T:Tr}{pos p:Pos}
theorem PR{env:PySem.Env}{e:Expr}{cpos:Pos}(h:isStar e=false):((backTo cpos (starEach [e] env)).all (fun x=>!x.1)&&(backToKw cpos (keywordEach [] env)).all (fun x=>x.1.isSome)&&decide ([e].length+([]:List Keyword).length+(if ([]:List Keyword).isEmpty then 0 else 1) < 30))=true:=by
 rw[bh h];rfl
theorem mM{o:Expr}{a:Str}{env:PySem.Env}{w:Sem Value}(h:Bu o=false):attributeBase o a env w=w:=by
 cases o<;>first|rfl|cases h
theorem DN(C:Bk X N sc k)(O:cT X T){o:Expr}{m:Str}{apos cpos:Pos}{args:List Expr}{f:FE}(h:Ao T o m apos args cpos=some f):DE X (.Call (.Attribute o m apos) args [] cpos) f:=by
 unfold Ao at h
 split at h
 ·rename_i hm
  rw[zF,zF,Bool.not_eq_true'] at hm
  obtain⟨⟨hm1,hm⟩,hcl⟩:=hm
  have e1:m="index":=eq_of_beq hm1
  subst e1
  split at h
  ·rename_i e
   split at h
   ·rename_i hs
    obtain⟨x,hx,h⟩:=bs h
    obtain⟨y,hy,rfl⟩:=ag h
    exact CM (mM hcl) (PR hs) hm (bh hs) (O.e _ _ hx) (O.e _ _ hy)
   ·cases h
  ·cases h
 ·cases h
theorem DL(C:Bk X N sc k)(g:MC G X j)(hjk:j<=k)(O:cT X T){x y:Str}{b:Expr}{args:List Expr}{f:FE}{p0 p1 p2 p3:Pos}(h:Aw G sc T x y b args=some f):DE X (.Call (.Subscript (.List [.Name x p0,.Name y p1] p2) b p3) args [] pos) f:=by
 unfold Aw at h
 split at h
 ·rename_i hg
  simp only[zF,Bool.not_eq_true'] at hg
  obtain⟨⟨hx,hy⟩,hs,he,hb,dx,dy⟩:=hg
  obtain⟨⟨n,m⟩,h1,h⟩:=bs h
  obtain⟨⟨n',m'⟩,h2,h⟩:=bs h
  split at h
  ·rename_i hn
   obtain rfl:n=n':=hn
   obtain⟨fk,h3,h⟩:=bs h
   obtain⟨fs,h4,rfl⟩:=ag h
   cases args with
   | nil=>cases he
   | cons e es =>
    rw[List.all_cons,zF,Bool.not_eq_true'] at hs
    exact Iz (g.fn x n m h1) (g.fn y n m' h2) (C.room.mono hjk) (C.gl hx) (C.gl hy) (O.e _ _ h3) (cP O h4) dx dy (qP hb) (bh hs.1) (cE hs.2)
  ·cases h
 ·cases h
theorem yQ(C:Bk X N sc k)(g:MC G X j)(hjk:j<=k)(O:cT X T){e:Expr}{f:FE}(h:BU G sc N T e=some f):DE X e f:=by
 unfold BU at h
 split at h
 ·exact DQ C g h
 ·exact Ag h
 ·exact JJ C O h
 ·exact G7 C O h
 ·exact ue O h
 ·exact (yS C O h).1
 ·obtain⟨z,hz,h⟩:=bs h
  obtain⟨x,hx,h⟩:=bs h
  obtain⟨y,hy,rfl⟩:=ag h
  exact OD (O.t _ _ hz) (O.e _ _ hx) (O.e _ _ hy)
 ·obtain⟨x,hx,rfl⟩:=ag h;exact Mp (cP O hx)
 ·exact EM C O h
 ·obtain⟨x,hx,rfl⟩:=ag h;exact DF.de (O.f _ _ hx)
 ·obtain⟨x,hx,rfl⟩:=ag h;exact DF.de (O.f _ _ hx)
 ·exact El C g hjk O h
 ·obtain⟨x,hx,rfl⟩:=ag h;exact DF.de (O.f _ _ hx)
 ·exact DN C O h
 ·exact DL C g hjk O h
 ·cases h
theorem Ez(O:cT X T){op:BoolOp}:∀ {es:List Expr}{f:Dl.Env->Option Bool},OY T op es=some f->DW X (.BoolOp op es pos) f
 | [],f,h=>by cases h
 | [a],f,h=>by
  cases op with
  | And=>exact Ka (O.t _ _ h)
  | Or=>exact Lx (O.t _ _ h)
 | a::b::r,f,h=>by
  unfold OY at h
  obtain⟨x,hx,h⟩:=bs h
  obtain⟨y,hy,rfl⟩:=ag h
  have ih:=Ez O hy
  cases op with
  | And=>exact LJ (O.t _ _ hx) ih
  | Or=>exact Nz (O.t _ _ hx) ih
theorem EU(C:Bk X N sc k)(O:cT X T){e:Expr}{f:Dl.Env->Option Bool}(h:stepT T e=some f):DT X e f:=by
 unfold stepT at h
 split at h
 ·obtain⟨x,hx,rfl⟩:=ag h;exact (yS C O hx).2
 ·obtain⟨x,hx,rfl⟩:=ag h;exact My (O.t _ _ hx)
 ·exact DW.dt (Ez O h)
 ·split at h
  ·rename_i hp
   obtain⟨x,hx,rfl⟩:=ag h
   refine Mj (O.e _ _ hx) ?_
   revert hp
   cases e<;>first|(intro hp;cases hp;done)|(intro hp _;rfl)
  ·cases h
theorem L4{e:Expr}{env:PySem.Env}(h:Mv e=true):∀x,foldedSetIterable e env x=pure x:=by
 cases e<;>first|(intro _;rfl)|cases h
theorem HI(C:Bk X N sc k)(B:Bn X)(O:cT X T){tg iter:Expr}{fi:Dl.Env->Option (List D)}(h:OP sc T tg iter=some fi):DI X tg iter fi/\∀x,foldedSetIterable iter X.env x=pure x:=by
 unfold OP at h
 split at h
 ·refine⟨?_,fun _=>rfl⟩
  split at h
  ·rename_i hx
   subst hx
   split at h
   ·split at h
    ·rename_i hg
     rw[zF,Bool.not_eq_true'] at hg
     obtain⟨x,hx,rfl⟩:=ag h
     exact Eu (C.blt B hg.1 (by decide +kernel) xU) (cP O hx) (bh hg.2)
    ·cases h
   ·cases h
  ·split at h
   ·rename_i hx
    subst hx
    split at h
    ·split at h
     ·rename_i hg
      simp only[zF,Bool.not_eq_true'] at hg
      obtain⟨x,hx,rfl⟩:=ag h
      cases tg<;>first|exact IY (C.blt B hg.1.1 (by decide +kernel) vJ) (cP O hx) (bh hg.1.2)|exact absurd hg.2 (by simp[wJ])
     ·cases h
    ·cases h
   ·split at h
    ·rename_i hx
     subst hx
     split at h
     ·split at h
      ·rename_i e e' hg
       simp only[zF,Bool.not_eq_true'] at hg
       obtain⟨x,hx,rfl⟩:=ag h
       cases tg<;>first|exact Jk (C.blt B hg.1.1.1 (by decide +kernel) MS) (bh hg.1.1.2) (cE (by simp[hg.1.2])) (cP O hx)|exact absurd hg.2 (by simp[wJ])
      ·cases h
     ·cases h
    ·obtain⟨x,hx,rfl⟩:=ag h
     exact F4 (O.e _ _ hx)
 ·cases h
 ·rename_i h1 h2
  obtain⟨x,hx,rfl⟩:=ag h
  refine⟨F4 (O.e _ _ hx),L4 ?_⟩
  cases iter<;>first|rfl|exact absurd rfl (h2 _ _ _)
theorem K9{tg:Expr}{xs:List Str}(h:PP tg=some xs):(∃x px,tg=.Name x px/\xs=[x])\/∃x px y py m pt,tg=.Tuple [.Name x px,.Name y py] m pt/\xs=[x,y]:=by
 unfold PP at h
 split at h
 ·cases h;exact .inl ⟨_,_,rfl,rfl⟩
 ·cases h;exact .inr ⟨_,_,_,_,_,_,rfl,rfl⟩
 ·cases h
theorem Mw{tg:Expr}{xs:List Str}(h:P0 tg=some xs):((∃x px,tg=.Name x px/\xs=[x])\/∃x px y py m pt,tg=.Tuple [.Name x px,.Name y py] m pt/\xs=[x,y])\/∃x px y py z pz m pt,tg=.Tuple [.Name x px,.Name y py,.Name z pz] m pt/\xs=[x,y,z]:=by
 unfold P0 at h
 split at h
 ·cases h;exact .inr ⟨_,_,_,_,_,_,_,_,rfl,rfl⟩
 ·exact .inl (K9 h)
theorem tT(C:Bk X N sc k)(B:Bn X)(O:cT X T){blk:Scope->List Str->Tr}(OB:∀scope N' fp s H,Bk (aR X scope N' fp s H) N' scope k->cT (aR X scope N' fp s H) (blk scope N')){tg iter elt:Expr}{ifs:List Expr}{as:Int}{scope:Scope}{f:Dl.Env->Option (List D)}
  (h:wy sc N T blk elt [⟨tg,iter,ifs,as⟩] scope=some f):as=0/\p7 X tg iter ifs elt scope f:=by
 unfold wy at h
 dsimp only at h
 split at h
 ·rename_i has
  refine⟨has,?_⟩
  obtain⟨xs,hxs,h⟩:=bs h
  split at h
  ·rename_i hok
   rw[zF] at hok
   obtain⟨fi,hfi,h⟩:=bs h
   obtain⟨tt,htt,h⟩:=bs h
   obtain⟨te,hte,rfl⟩:=ag h
   obtain⟨S,CB⟩:=C.comp hok.1
   obtain⟨hd,hfold⟩:=HI C B O hfi
   refine⟨_,_,_,_,_,_,_,rfl,S,hd,hfold,fun fp s H=>?_⟩
   have C1:=CB fp s H
   have O1:=OB scope _ fp s H C1
   refine⟨?_,?_,O1.e _ _ hte⟩
   ·rcases Mw hxs with (⟨x,px,rfl,rfl⟩|⟨x,px,y,py,m,pt,rfl,rfl⟩)|⟨x,px,y,py,z,pz,m,pt,htg,rfl⟩
    ·have z:=C1.loc (i:=0) (x:=x) (List.all_eq_true.mp hok.2 0 (by simp))
     exact IW 0 z.1 z.2.1 z.2.2.1 z.2.2.2
    ·have z:=C1.loc (i:=0) (x:=x) (List.all_eq_true.mp hok.2 0 (by simp))
     have w:=C1.loc (i:=1) (x:=y) (List.all_eq_true.mp hok.2 1 (by simp))
     exact LD 0 1 C1.calm z.1 z.2.1 z.2.2.1 w.2.1 w.2.2.1 z.2.2.2 w.2.2.2
    ·have z0:=C1.loc (i:=0) (x:=x) (List.all_eq_true.mp hok.2 0 (by simp))
     have w:=C1.loc (i:=1) (x:=y) (List.all_eq_true.mp hok.2 1 (by simp))
     have u:=C1.loc (i:=2) (x:=z) (List.all_eq_true.mp hok.2 2 (by simp))
     subst htg
     exact Fu 0 1 2 C1.calm z0.1 z0.2.1 z0.2.2.1 w.2.1 w.2.2.1 u.2.1 u.2.2.1 z0.2.2.2 w.2.2.2 u.2.2.2
   ·unfold Kr at htt
    split at htt
    ·cases htt;exact Iw
    ·exact JV (O1.t _ _ htt)
    ·cases htt
  ·cases h
 ·cases h
theorem p7.df{tg iter elt:Expr}{ifs:List Expr}{scope:Scope}{f:Dl.Env->Option (List D)}(hc:X.calm=true)(h:p7 X tg iter ifs elt scope f):DF X (.ListComp elt [⟨tg,iter,ifs,0⟩] scope pos) f:=by
 obtain⟨N',t,cs,fi,tgt,tt,te,rfl,S,hd,hfold,hY⟩:=h.ex
 exact IA hc S hd hY hfold
theorem qA{a:Arguments}{x:Str}(h:yU a=some x):∃px,a=⟨[],[⟨x,none,px⟩],none,[],[],none,[]⟩/\(x="number"\/x="plan"):=by
 unfold yU at h
 split at h
 ·split at h
  ·cases h;exact⟨_,rfl,.inl ‹_›⟩
  ·split at h
   ·cases h;exact⟨_,rfl,.inr ‹_›⟩
   ·cases h
 ·cases h
theorem bind1{x q:Str}{px:Pos}{body:Expr}{scope:Scope}{cl:List (Str×Addr)}{pm ctv u:Value}{c:Addr}(h:x="number"\/x="plan") :
  bindArgs (W.kla_fn "<lambda>" q ⟨[],[⟨x,none,px⟩],none,[],[],none,[]⟩ body scope cl pm (.ref c) ctv) ⟨[u],[]⟩=pure [(x,u)]:=by
 rcases h with rfl|rfl<;>rfl
theorem AJ{lam:Option Str}(C:Bk X N sc k)(B:Bn X)(hlam:∀q,lam=some q->lN X q/\j+3<=k)(O:cT X T){lmb:Scope->List Str->Tr}
  (OL:∀scope N' qual A f c s H,Bk (dP X A qual scope N' f c s H) N' scope (k - 3)->j<=k - 3->cT (dP X A qual scope N' f c s H) (lmb scope N')) {l body:Expr}{params:Arguments}{scope:Scope}{p0 lpos kpos:Pos}{f:Dl.Env->Option (List D)}
  (h:vh lam sc N T lmb l params body scope=some f):DF X (.Call (.Name "sorted" p0) [l] [⟨some "key",.Lambda params body scope lpos,kpos⟩] pos) f:=by
 unfold vh at h
 split at h
 ·rename_i hg
  simp only[zF,Bool.not_eq_true'] at hg
  obtain⟨⟨hl,hg⟩,hs⟩:=hg
  obtain⟨q,rfl⟩:=Option.isSome_iff_exists.mp hl
  obtain⟨L,hk⟩:=hlam q rfl
  obtain⟨x,hx,h2⟩:=bs h
  clear h
  obtain⟨px,rfl,hpx⟩:=qA hx
  split at h2
  ·rename_i hok
   rw[zF] at hok
   obtain⟨fl,hfl,h⟩:=bs h2
   obtain⟨te,hte,rfl⟩:=ag h
   obtain⟨k',rfl⟩:∃k',k=k'+3:=⟨k - 3,by omega⟩
   exact Bk.sortK (p:=x) C (C.blt B hg (by decide +kernel) nO) L hok.1 hok.2 (fun _ _ _ _ _=>bind1 hpx) rfl (O.e _ _ hfl) (fun A f c s H C'=>(OL scope _ q A f c s H C' (by omega)).e _ _ hte) (bh hs) (by rw[bh hs];rfl) (cE (by simp[hs]))
  ·cases h2
 ·cases h
theorem AA{lam:Option Str}(C:Bk X N sc k)(B:Bn X)(hlam:∀q,lam=some q->lN X q/\j+3<=k)(O:cT X T){lmb:Scope->List Str->Tr}
  (OL:∀scope N' qual A f c s H,Bk (dP X A qual scope N' f c s H) N' scope (k - 3)->j<=k - 3->cT (dP X A qual scope N' f c s H) (lmb scope N')) {l body:Expr}{params:Arguments}{scope:Scope}{p0 lpos kpos:Pos}{f:Dl.Env->Option (List D)}
  (h:uK lam sc N T lmb l params body scope=some f):DF X (.Call (.Name "sorted" p0) [l] [⟨some "key",.Lambda params body scope lpos,kpos⟩] pos) f:=by
 unfold uK at h
 split at h
 ·split at h
  ·rename_i hg
   simp only[zF,Bool.not_eq_true'] at hg
   obtain⟨⟨⟨⟨hl,hg⟩,hr⟩,hgr⟩,hs⟩:=hg
   have er:=eq_of_beq hr
   subst er
   obtain⟨q,rfl⟩:=Option.isSome_iff_exists.mp hl
   obtain⟨L,hk⟩:=hlam q rfl
   obtain⟨x,hx,h2⟩:=bs h
   clear h
   obtain⟨px,rfl,hpx⟩:=qA hx
   split at h2
   ·rename_i hok
    rw[zF] at hok
    obtain⟨fl,hfl,h⟩:=bs h2
    obtain⟨te,hte,rfl⟩:=ag h
    obtain⟨k',rfl⟩:∃k',k=k'+3:=⟨k - 3,by omega⟩
    exact Bk.sortR (p:=x) C (C.blt B hg (by decide +kernel) nO) (C.blt B hgr (by decide +kernel) xU) L hok.1 hok.2 (fun _ _ _ _ _=>bind1 hpx) rfl (cP O hfl) (fun A f c s H C'=>(OL scope _ q A f c s H C' (by omega)).e _ _ hte) (bh hs) (bh rfl) (by rw[bh rfl];rfl) (cE (by rfl))
   ·cases h2
  ·cases h
 ·cases h
theorem Ey{lam:Option Str}(C:Bk X N sc k)(B:Bn X)(hlam:∀q,lam=some q->lN X q/\j+3<=k)(O:cT X T){blk lmb:Scope->List Str->Tr}
  (OB:∀scope N' fp s H,Bk (aR X scope N' fp s H) N' scope k->cT (aR X scope N' fp s H) (blk scope N'))
  (OL:∀scope N' qual A f c s H,Bk (dP X A qual scope N' f c s H) N' scope (k - 3)->j<=k - 3->cT (dP X A qual scope N' f c s H) (lmb scope N')) {e:Expr}{f:Dl.Env->Option (List D)}(h:Cq lam sc N T blk lmb e=some f):DF X e f:=by
 unfold Cq at h
 split at h
 ·obtain⟨x,hx,rfl⟩:=ag h;exact Nn (cP O hx)
 ·rename_i elt gens scope ps
  match gens,h with
  | [⟨tg,iter,ifs,as⟩],h =>
   obtain⟨rfl,q⟩:=tT C B O OB h
   exact q.df C.calm
 ·obtain⟨x,hx,h⟩:=bs h
  obtain⟨y,hy,rfl⟩:=ag h
  exact Mc (O.e _ _ hx) (O.e _ _ hy)
 ·split at h
  ·rename_i hk
   rw[zF] at hk
   have e1:=eq_of_beq hk.1
   have e2:=eq_of_beq hk.2
   subst e1 e2
   split at h
   ·cases h;exact AJ C B hlam O OL ‹_›
   ·exact AA C B hlam O OL h
  ·cases h
 ·split at h
  ·rename_i hg
   rw[zF,Bool.not_eq_true'] at hg
   split at h
   ·rename_i hx
    subst hx
    obtain⟨x,hx,rfl⟩:=ag h
    exact Da (C.blt B hg.1 (by decide +kernel) nO) (cP O hx) (bh hg.2)
   ·cases h
  ·cases h
 ·cases h
theorem JX{lam:Option Str}(C:Bk X N sc k)(B:Bn X)(O:cT X T){blk lmb:Scope->List Str->Tr}(OB:∀scope N' fp s H,Bk (aR X scope N' fp s H) N' scope k->cT (aR X scope N' fp s H) (blk scope N'))
  {elt:Expr}{gens:List Comprehension}{scope:Scope}{p:Pos}{f:Dl.Env->Option (List D)}(h:Cq lam sc N T blk lmb (.ListComp elt gens scope p)=some f):∃tg iter ifs,gens=[⟨tg,iter,ifs,0⟩]/\p7 X tg iter ifs elt scope f:=by
 have h:wy sc N T blk elt gens scope=some f:=h
 match gens,h with
 | [⟨tg,iter,ifs,as⟩],h =>
  obtain⟨rfl,q⟩:=tT C B O OB h
  exact⟨tg,iter,ifs,rfl,q⟩
theorem C0{lam:Option Str}(C:Bk X N sc k)(B:Bn X)(hlam:∀q,lam=some q->lN X q/\j+3<=k)(O:cT X T){lmb:Scope->List Str->Tr}
  (OL:∀scope N' qual A f c s H,Bk (dP X A qual scope N' f c s H) N' scope (k - 3)->j<=k - 3->cT (dP X A qual scope N' f c s H) (lmb scope N')) {l body:Expr}{params:Arguments}{scope:Scope}{p0 lpos kpos:Pos}{f:FE}
  (h:Bo lam sc N T lmb l params body scope=some f):DE X (.Call (.Name "min" p0) [l] [⟨some "key",.Lambda params body scope lpos,kpos⟩] pos) f:=by
 unfold Bo at h
 split at h
 ·rename_i hg
  simp only[zF,Bool.not_eq_true'] at hg
  obtain⟨⟨hl,hg⟩,hs⟩:=hg
  obtain⟨q,rfl⟩:=Option.isSome_iff_exists.mp hl
  obtain⟨L,hk⟩:=hlam q rfl
  obtain⟨x,hx,h2⟩:=bs h
  clear h
  obtain⟨px,rfl,hpx⟩:=qA hx
  split at h2
  ·rename_i hok
   rw[zF] at hok
   obtain⟨fl,hfl,h⟩:=bs h2
   obtain⟨te,hte,rfl⟩:=ag h
   obtain⟨k',rfl⟩:∃k',k=k'+3:=⟨k - 3,by omega⟩
   exact Bk.minK (p:=x) C (C.blt B hg (by decide +kernel) HE) L hok.1 hok.2 (fun _ _ _ _ _=>bind1 hpx) rfl (O.e _ _ hfl) (fun A f c s H C'=>(OL scope _ q A f c s H C' (by omega)).e _ _ hte) (bh hs) (by rw[bh hs];rfl) (cE (by simp[hs]))
  ·cases h2
 ·cases h
theorem GT{lam:Option Str}(C:Bk X N sc k)(g:MC G X j)(hjk:j<=k)(hlam:∀q,lam=some q->lN X q/\j+3<=k)(O:cT X T){lmb:Scope->List Str->Tr}
  (OL:∀scope N' qual A f c s H,Bk (dP X A qual scope N' f c s H) N' scope (k - 3)->j<=k - 3->cT (dP X A qual scope N' f c s H) (lmb scope N')) {e:Expr}{f:FE}(h:Hr G lam sc N T lmb e=some f):DE X e f:=by
 unfold Hr at h
 split at h
 ·split at h
  ·rename_i hk
   rw[zF] at hk
   have e1:=eq_of_beq hk.1
   have e2:=eq_of_beq hk.2
   subst e1 e2
   exact C0 C g.bn hlam O OL h
  ·exact yQ C g hjk O h
 ·exact yQ C g hjk O h
theorem Kv(n:Nat):∀ {lam:Option Str}{X:Cx}{N:List Str}{sc:Scope}{k:Nat},Bk X N sc k->MC G X j->j<=k->(∀q,lam=some q->lN X q/\j+3<=k)->cT X (tr G n lam sc N):=by
 induction n with
 | zero=>intro lam X N sc k C g hjk hlam;exact⟨fun _ _ _ _ _ h=>(by cases h),fun _ _ h=>(by cases h),fun _ _ h=>(by cases h),fun _ _ h=>(by cases h)⟩
 | succ n ih =>
  intro lam X N sc k C g hjk hlam
  have O:=ih C g hjk hlam
  exact⟨fun elt gens scope p f h=>JX (lam:=lam) (lmb:=tr G n none) (p:=p) C g.bn O (fun scope N' fp s H C'=>ih C' ⟨g.fn,g.int,g.bn⟩ hjk fun q z=>by cases z) h,fun e f h=>GT C g hjk hlam O (lmb:=tr G n none) (fun scope N' qual A f c s H C' hk=>ih C' ⟨g.fn,g.int,g.bn⟩ hk fun q z=>by cases z) h,
   fun e f h=>Ey C g.bn hlam O (fun scope N' fp s H C'=>ih C' ⟨g.fn,g.int,g.bn⟩ hjk fun q z=>by cases z) (fun scope N' qual A f c s H C' hk=>ih C' ⟨g.fn,g.int,g.bn⟩ hk fun q z=>by cases z) h,
   fun e f h=>EU C O h⟩
end
def rJ:Nat->Expr->List Str
 | 0,_=>[]
 | n+1,e=>match e with
  | .Name x _=>[x]
  | .UnaryOp _ a _=>rJ n a
  | .BinOp a _ b _=>rJ n a++rJ n b
  | .BoolOp _ es _=>es.flatMap (rJ n)
  | .Compare a _ cs _=>rJ n a++cs.flatMap (rJ n)
  | .IfExp c a b _=>rJ n c++(rJ n a++rJ n b)
  | .Tuple es _ _=>es.flatMap (rJ n)
  | .List es _=>es.flatMap (rJ n)
  | .Subscript a b _=>rJ n a++rJ n b
  | .Slice lo hi st _=>(lo.toList++(hi.toList++st.toList)).flatMap (rJ n)
  | .Call f args kws _=>rJ n f++(args.flatMap (rJ n)++kws.flatMap fun k=>rJ n k.value)
  | .Attribute o _ _=>rJ n o
  | .ListComp elt gens _ _=>rJ n elt++gens.flatMap fun g=>rJ n g.iter++g.ifs.flatMap (rJ n)
  | .Lambda _ b _ _=>rJ n b
  | _=>[]
def sF(N:List Str)(e:Expr):List Nat:=let ns:=rJ 60 e;(List.range N.length).filter fun j=>match N[j]? with|some x=>ns.contains x|none=>false
abbrev GS:=aj->Option Out
def turns:Nat:=1000000
def ED:Expr->Bool
 | .ListComp ..=>true
 | .SetComp ..=>true
 | .DictComp ..=>true
 | _=>false
def E2(sc:Scope)(N:List Str)(T:Tr)(x:Str)(px:Pos)(e:Expr):Option GS :=
 (N.idxOf? x).bind fun i=>if AV N sc i x=true then
  (if BM e=true then (match e with
   | .ListComp _ _ scope lp =>
    if (decide (sc.names.lookup x=some .local)&&(px.line == lp.line&&!(scope.names.any fun (n,k)=>n == x&&(k == .local || k == .cell))))=true then (T.f e).map fun f=>aK i (sF N e) f
    else if decide (sc.names.lookup x=some .cell)=true then (T.f e).map fun f=>aK i (sF N e) f
    else if (px.line == lp.line)=false then (T.f e).map fun f=>aK i (sF N e) f
    else none
   | _=>(T.f e).map fun f=>aK i (sF N e) f)
  else if ED e=false then (T.e e).map fun f=>az i (sF N e) f else none) else none
def Fs(N:List Str)(sc:Scope)(T:Tr)(e:Expr):Option GS:=match e with
 | .Constant (.str _) _ _=>some gz
 | .Call (.Attribute (.Name x _) m apos) args [] cpos =>
  (N.idxOf? x).bind fun i=>if (Dx N sc i x&&apos.endLine == cpos.line&&args.all fun e=>!isStar e)=true then
   (if m="append" then (match args with
    | [a]=>(T.e a).map fun f=>md i (sF N a) f
    | _=>none)
   else if m="extend" then (match args with
    | [a]=>(T.f a).map fun f=>vP i (sF N a) f
    | _=>none)
   else if m="insert" then (match args with
    | [a,b]=>(T.e a).bind fun fk=>(T.e b).map fun f=>EY i (sF N b) fk f
    | _=>none)
   else none) else none
 | .Call (.Name _ _) _ _ _=>(T.e e).map j4
 | _=>none
def Pj(sc:Scope)(N:List Str)(tg:Expr):Option (aj->D->Option aj):=match tg with
 | .Name x _=>(N.idxOf? x).bind fun i=>if AV N sc i x=true then some (nu i) else none
 | .Tuple [.Name x _,.Name y _] _ _=>(N.idxOf? x).bind fun i=>(N.idxOf? y).bind fun j=>if (AV N sc i x&&AV N sc j y)=true then some (hU i j) else none
 | _=>none
def Hs(sc:Scope)(N:List Str)(T:Tr)(x:Str)(kx e:Expr):Option GS :=
 (N.idxOf? x).bind fun i=>if (Dx N sc i x&&!BH kx)=true then (T.e kx).bind fun fk=>(T.e e).map fun f=>AU i (sF N e) fk f else none
def qf(f:Stmt->Option GS):List Stmt->Option GS
 | []=>some gz
 | [s]=>f s
 | s::r=>(f s).bind fun g=>(qf f r).map fun h=>av g h
def HJ(sc:Scope)(N:List Str)(T:Tr):Nat->Stmt->Option GS
 | 0,_=>none
 | n+1,st=>match st with
  | .Return (some e) _=>(T.e e).map aF
  | .If c a b _=>(T.t c).bind fun t=>(qf (HJ sc N T n) a).bind fun g=>(qf (HJ sc N T n) b).map fun h=>gQ t g h
  | .Assign [.Name x px] e _=>E2 sc N T x px e
  | .Assign [.Subscript (.Name x _) kx _] e _=>Hs sc N T x kx e
  | .For tg iter body [] _=>(OP sc T tg iter).bind fun fi=>(Pj sc N tg).bind fun t=>(qf (HJ sc N T n) body).map fun g=>dZ (sF N iter) fi t g
  | .While c body [] _=>(T.t c).bind fun t=>(qf (HJ sc N T n) body).map fun g=>IQ t g turns
  | .Expr e _=>Fs N sc T e
  | .Raise ..=>some Nw
  | .Pass _=>some gz
  | _=>none
section
variable {X:Cx}{N:List Str}{sc:Scope}{k:Nat}{T:Tr}{HF₀ H₀:Hp}{pos:Pos}
theorem jm{f:Stmt->Option GS}(H:∀s g,f s=some g->DS X HF₀ H₀ s g):∀ {l:List Stmt}{g:GS},qf f l=some g->Eo X HF₀ H₀ l g
 | [],g,h=>by cases h;exact Jv
 | [s],g,h=>Km (H _ _ h)
 | s::t::r,g,h=>by
  unfold qf at h
  obtain⟨x,hx,h⟩:=bs h
  obtain⟨y,hy,rfl⟩:=ag h
  exact Hn (H _ _ hx) (jm H hy)
theorem tV{e:Expr}{x:Str}{px:Pos}{line:Nat}{env:PySem.Env}(h:ED e=false):swapsWith e (some (.Name x px)) line env=pure false:=by
 cases e<;>first|rfl|cases h
theorem FI(C:Bk X N sc k)(O:cT X T){x:Str}{px:Pos}{e:Expr}{g:GS}(h:E2 sc N T x px e=some g):DS X HF₀ H₀ (.Assign [.Name x px] e pos) g:=by
 unfold E2 at h
 obtain⟨i,hi,h⟩:=bs h
 split at h
 ·rename_i hloc
  obtain⟨z1,z2,z3,z4⟩:=C.loc hloc
  split at h
  ·split at h
   ·rename_i elt gens scope lp hl
    split at h
    ·rename_i hc
     rw[zF] at hc
     obtain⟨f,hf,rfl⟩:=ag h
     obtain⟨tg,iter,ifs,rfl,q⟩:=O.c _ _ _ _ _ hf
     obtain⟨N',t,cs,fi,tgt,tt,te,rfl,S,hd,hfold,hY⟩:=q.ex
     exact Ii i _ C.calm S hd hY z1 z2 (C.locl hc.1) (C.swap hc.1 hc.2) hfold
    ·split at h
     ·rename_i hc
      obtain⟨f,hf,rfl⟩:=ag h
      exact uR i _ z1 z2 z3 (O.f _ _ hf) (C.noswap hc) z4
     ·split at h
      ·rename_i hc
       obtain⟨f,hf,rfl⟩:=ag h
       refine uR i _ z1 z2 z3 (O.f _ _ hf) ?_ z4
       rw[qC,hc]
       simp
      ·cases h
   ·rename_i hl hn
    obtain⟨f,hf,rfl⟩:=ag h
    refine uR i _ z1 z2 z3 (O.f _ _ hf) (tV ?_) z4
    cases e<;>first|rfl|exact absurd rfl (hn _ _ _ _)|(rename_i hl _;cases hl;done)
  ·split at h
   ·rename_i hc
    obtain⟨f,hf,rfl⟩:=ag h
    exact Nf i _ z1 z2 z3 (O.e _ _ hf) (tV hc) z4
   ·cases h
 ·cases h
theorem zx{env:PySem.Env}{es:List Expr}{cpos:Pos}(h:(es.all fun e=>!isStar e)=true)(hl:es.length < 20):((backTo cpos (starEach es env)).all (fun x=>!x.1)&&(backToKw cpos (keywordEach [] env)).all (fun x=>x.1.isSome)&&decide (es.length+([]:List Keyword).length+(if ([]:List Keyword).isEmpty then 0 else 1) < 30))=true:=by
 have h1:(backTo cpos (starEach es env)).all (fun x=>!x.1)=true:=by
  have:=cE (pos:=cpos) (env:=env) h
  rw[List.all_eq_not_any_not]
  simpa using this
 rw[h1]
 simp[backToKw,keywordEach]
 omega
theorem F5(C:Bk X N sc k)(O:cT X T){e:Expr}{g:GS}(h:Fs N sc T e=some g):DS X HF₀ H₀ (.Expr e pos) g:=by
 unfold Fs at h
 split at h
 ·cases h;exact Mm
 ·rename_i x px m apos args cpos
  replace h:=bs h
  obtain⟨i,hi,h⟩:=h
  split at h
  ·rename_i hv
   simp only[zF] at hv
   obtain⟨⟨hv,hline⟩,hs⟩:=hv
   obtain⟨z1,z2,z3,z4⟩:=C.vis hv
   split at h
   ·rename_i hm
    subst hm
    split at h
    ·obtain⟨f,hf,rfl⟩:=ag h
     exact D6 i _ z1 z2 (O.e _ _ hf) z3 z4 (zx hs (by simp)) hline (bh (by simpa using hs))
    ·cases h
   ·split at h
    ·rename_i hm
     subst hm
     split at h
     ·obtain⟨f,hf,rfl⟩:=ag h
      exact Ef i _ z1 z2 (O.f _ _ hf) z3 z4 (zx hs (by simp)) hline (bh (by simpa using hs))
     ·cases h
    ·split at h
     ·rename_i hm
      subst hm
      split at h
      ·obtain⟨fk,hfk,h⟩:=bs h
       obtain⟨f,hf,rfl⟩:=ag h
       have hs':=hs
       simp only[List.all_cons,List.all_nil,Bool.and_true,zF,Bool.not_eq_true'] at hs'
       exact Dw i _ z1 z2 (O.e _ _ hfk) (O.e _ _ hf) z3 z4 (zx hs (by simp)) hline (bh hs'.1) (bh hs'.2)
      ·cases h
     ·cases h
  ·cases h
 ·obtain⟨f,hf,rfl⟩:=ag h
  exact JE rfl (O.e _ _ hf)
 ·cases h
theorem Mt(C:Bk X N sc k){tg:Expr}{t:aj->D->Option aj}(h:Pj sc N tg=some t):OW X HF₀ H₀ tg t:=by
 unfold Pj at h
 split at h
 ·obtain⟨i,hi,h⟩:=bs h
  split at h
  ·rename_i hl
   cases h
   have z:=C.loc hl
   exact GE i z.1 z.2.1 z.2.2.1 z.2.2.2
  ·cases h
 ·obtain⟨i,hi,h⟩:=bs h
  obtain⟨j,hj,h⟩:=bs h
  split at h
  ·rename_i hl
   rw[zF] at hl
   cases h
   have z:=C.loc hl.1
   have w:=C.loc hl.2
   exact Jz i j C.calm z.1 z.2.1 z.2.2.1 w.2.1 w.2.2.1 z.2.2.2 w.2.2.2
  ·cases h
 ·cases h
theorem Et(C:Bk X N sc k)(O:cT X T){x:Str}{px spos:Pos}{kx e:Expr}{g:GS}(h:Hs sc N T x kx e=some g):DS X HF₀ H₀ (.Assign [.Subscript (.Name x px) kx spos] e pos) g:=by
 unfold Hs at h
 obtain⟨i,hi,h⟩:=bs h
 split at h
 ·rename_i hv
  simp only[zF,Bool.not_eq_true'] at hv
  obtain⟨hv,hc⟩:=hv
  obtain⟨z1,z2,z3,z4⟩:=C.vis hv
  obtain⟨fk,hfk,h⟩:=bs h
  obtain⟨f,hf,rfl⟩:=ag h
  refine G6 i _ z1 z2 (O.e _ _ hfk) (O.e _ _ hf) z3 z4 (fun v=>?_) ?_ ?_ rfl
  ·cases kx<;>first|rfl|cases hc
  ·cases e<;>rfl
  ·rfl
 ·cases h
theorem Az(C:Bk X N sc k)(B:Bn X)(O:cT X T):∀ (n:Nat) {st:Stmt}{g:GS},HJ sc N T n st=some g->DS X HF₀ H₀ st g
 | 0,st,g,h=>by cases h
 | n+1,st,g,h=>by
  have ih:=fun s g h=>Az C B O n (st:=s) (g:=g) h
  unfold HJ at h
  split at h
  ·obtain⟨f,hf,rfl⟩:=ag h;exact M9 (O.e _ _ hf)
  ·obtain⟨t,ht,h⟩:=bs h
   obtain⟨a,ha,h⟩:=bs h
   obtain⟨b,hb,rfl⟩:=ag h
   exact Ou (O.t _ _ ht) (jm ih ha) (jm ih hb)
  ·exact FI C O h
  ·exact Et C O h
  ·obtain⟨fi,hfi,h⟩:=bs h
   obtain⟨t,ht,h⟩:=bs h
   obtain⟨b,hb,rfl⟩:=ag h
   obtain⟨hd,hfold⟩:=HI C B O hfi
   exact L3 _ C.pass C.calm hd (Mt C ht) (jm ih hb) hfold
  ·obtain⟨t,ht,h⟩:=bs h
   obtain⟨b,hb,rfl⟩:=ag h
   exact Fv _ C.pass (O.t _ _ ht) (jm ih hb)
  ·exact F5 C O h
  ·cases h;exact Ox
  ·cases h;exact HV
  ·cases h
end
section
variable {P:Program}{w:World}{K:W.Frag}{mg:Str->Option Value}{base:Heap}{j:Nat}
def lO(P:Program)(w:World)(K:W.Frag)(mg:Str->Option Value)(base:Heap)(j:Nat)(l:List (Str×Nat×(List D->Option D))):Prop:=∀x n m,l.lookup x=some (n,m)->dm P w K mg base j x n m
def kh(mg:Str->Option Value)(l:List (Str×Int)):Prop:=∀x i,l.lookup x=some i->∃t,mg x=some (.int i t)
theorem bz:lO P w K mg base j []:=fun _ _ _ h=>by cases h
theorem Od{x:Str}{n:Nat}{m:List D->Option D}{l:List (Str×Nat×(List D->Option D))}(F:dm P w K mg base j x n m)(h:lO P w K mg base j l):lO P w K mg base j ((x,n,m)::l):=fun y n' m' e=>by
 rw[yC] at e
 cases q:y == x with
 | true=>rw[q] at e;cases e;rw[eq_of_beq q];exact F
 | false=>rw[q] at e;exact h y n' m' e
theorem bu:kh mg []:=fun _ _ h=>by cases h
theorem Cm{x:Str}{i:Int}{l:List (Str×Int)}(F:∃t,mg x=some (.int i t))(h:kh mg l):kh mg ((x,i)::l):=fun y i' e=>by
 rw[yC] at e
 cases q:y == x with
 | true=>rw[q] at e;cases e;rw[eq_of_beq q];exact F
 | false=>rw[q] at e;exact h y i' e
theorem Ku{X:Cx}{N:List Str}{st:Stmt}{g:aj->Option Out}{fs:List (Str×Nat×(List D->Option D))}{is:List (Str×Int)}{HF₀ H₀:Hp}(C:Bk X N (aI st) j)(B:Bn X)(hf:lO X.prog X.w X.K X.mg X.base j fs)(hi:kh X.mg is)
  (t:qf (HJ (aI st) N (tr ⟨fs,is⟩ 40 none (aI st) N) 40) (cC st)=some g):Eo X HF₀ H₀ (cC st) g :=
 jm (fun s g h=>Az C B (Kv (G:=⟨fs,is⟩) 40 C ⟨hf,hi,B⟩ (Nat.le_refl j) fun q z=>by cases z) 40 h) t
theorem QE{x:Str}{st:Stmt}{ps N:List Str}{g:aj->Option Out}{fs:List (Str×Nat×(List D->Option D))}{is:List (Str×Int)}(D:br K mg x st ps)(S:gm N ps (aI st))(B:∀x∈dc,mg x=none)(hf:lO P w K mg base j fs)(hi:kh mg is)
  (t:qf (HJ (aI st) N (tr ⟨fs,is⟩ 40 none (aI st) N) 40) (cC st)=some g):dm P w K mg base (j+1) x ps.length (aU g N.length):=by
 obtain⟨f,fd,hm,F,hb⟩:=D.ex
 exact Qi F S hb hm fun X hP hw hK hm' hb' C _ _ HF H=>by subst hP;subst hw;subst hK;subst hm';subst hb';exact Ku C B hf hi t
theorem Ql{x q:Str}{st:Stmt}{ps N:List Str}{g:aj->Option Out}{fs:List (Str×Nat×(List D->Option D))}{is:List (Str×Int)}(D:DV K mg x st ps)(S:gm N ps (aI st))(B:∀x∈dc,mg x=none)(hf:lO P w K mg base j fs)(hi:kh mg is)
  (hq:x∈kX/\x++".<locals>."++"<lambda>"=q) (t:qf (HJ (aI st) N (tr ⟨fs,is⟩ 40 (some q) (aI st) N) 40) (cC st)=some g):dm P w K mg base (j+4) x ps.length (aU g N.length):=by
 obtain⟨f,fd,c,P',hm,F,hb,hc,hh⟩:=D.ex
 refine Qi (k:=j+3) F S hb hm fun X hP hw hK hm' hb' C h1 h2 HF H=>?_
 subst hP;subst hw;subst hK;subst hm';subst hb'
 have L:lN X q:=by
  refine⟨c,P',by rw[h1,hc],by rw[h2];exact hq.2,hh,fun HF tb=>?_⟩
  obtain⟨oc,od,kV,doc,pm,an,cdv,ct,osl,rfl,lk,_⟩:=F.ex
  have:=tb f oc od _ osl c P' lk hq.1 hc hh
  rw[<- hq.2]
  exact this
 exact jm (fun s g h=>Az C B (Kv (G:=⟨fs,is⟩) (j:=j) 40 C ⟨hf,hi,B⟩ (Nat.le_add_right _ _) fun q' z=>by cases z;exact⟨L,Nat.le_refl _⟩) 40 h) t
end
abbrev tW(s:Stmt)(N:List Str)(S:Sg)(l:Option Str):Option GS:=qf (HJ (aI s) N (tr S 40 l (aI s) N) 40) (cC s)
theorem Pb{N P:List Str}{sc:Scope}(a:sc.kind=.function:=by rfl)(b:sc.isCoroutine=false:=by rfl)(c:sc.isGenerator=false:=by rfl)(d:N.Nodup:=by decide +kernel)(e:N.take P.length=P:=by rfl)(f:∀x∈P,sc.names.lookup x=some .local \/ sc.names.lookup x=some .cell:=by decide +kernel)(g:∀y∈sc.names,y.2≠.free:=by decide +kernel):gm N P sc:=⟨a,b,c,d,e,f,g⟩
section
variable {P:Program}{w:World}{K:W.Frag}{mg:Str->Option Value}{base:Heap}{i j:Nat}
theorem fm{x:Str}{n:Nat}{m:List D->Option D}{l:List (Str×Nat×(List D->Option D))}(F:dm P w K mg base i x n m)(h:lO P w K mg base j l)(e:i<=j:=by decide):lO P w K mg base j ((x,n,m)::l):=Od (F.mono e) h
theorem fV{x:Str}{st:Stmt}{ps N:List Str}{g:aj->Option Out}{S:Sg}(D:br K mg x st ps)(B:∀x∈dc,mg x=none)(hf:lO P w K mg base j S.fn)(hi:kh mg S.int)(t:tW st N S none=some g)(F:gm N ps (aI st):=by exact Rf.Pb):dm P w K mg base (j+1) x ps.length (aU g N.length):=QE D F B hf hi t
theorem Pw{x q:Str}{st:Stmt}{ps N:List Str}{g:aj->Option Out}{S:Sg}(D:DV K mg x st ps)(B:∀x∈dc,mg x=none)(hf:lO P w K mg base j S.fn)(hi:kh mg S.int)(t:tW st N S (some q)=some g)(F:gm N ps (aI st):=by exact Rf.Pb)(hq:x∈kX/\x++".<locals>."++"<lambda>"=q:=by decide +kernel):dm P w K mg base (j+4) x ps.length (aU g N.length):=Ql D F B hf hi hq t
end
end Rf
namespace Hd
open PySem L2 Dl PySem.Spec PyProof.Rows
section
variable {K:W.Frag}
theorem fIn{x:Str}{st:Stmt}{ps:List Str}{f c:Addr}{pm:Value}(hb:iG st ps)(a:W.nsIn K mainGlobals x=some (some (.ref f)))(l:K.lookup f=some (fo x st pm c))(d:W.codeIn K (.ref c) x=true)(k:W.keepIn K (.ref f)=true):aC K x st ps:=NH hb a l d k
theorem lIn{x:Str}{st:Stmt}{ps:List Str}{f c:Addr}{pm:Value}(hb:iG st ps)(a:W.nsIn K mainGlobals x=some (some (.ref f)))(l:K.lookup f=some (fo x st pm c))(d:W.codeIn K (.ref c) x=true)(k:W.keepIn K (.ref f)=true)(hh:W.codeHdIn K c (EH K c)=true):mJ K x st ps:=N5 hb a l d k hh
end
section
variable {α:Type}{R:List α->Prop}
theorem wx(h:∀a,R [a])(us:List α)(e:us.length=1):R us:=by
 obtain⟨a,rfl⟩:=List.length_eq_one_iff.mp e;exact h a
theorem lenS{n:Nat}(us:List α)(e:us.length=n+1):∃a r,us=a::r/\r.length=n:=by
 cases us with
 | nil=>cases e
 | cons a r=>exact⟨a,r,rfl,by simpa using e⟩
theorem len2(h:∀a b,R [a,b])(us:List α)(e:us.length=2):R us:=by
 obtain⟨a,r,rfl,e'⟩:=lenS us e;exact wx (R:=fun r=>R (a::r)) (h a) r e'
theorem len3(h:∀a b c,R [a,b,c])(us:List α)(e:us.length=3):R us:=by
 obtain⟨a,r,rfl,e'⟩:=lenS us e;exact len2 (R:=fun r=>R (a::r)) (h a) r e'
theorem len4(h:∀a b c d,R [a,b,c,d])(us:List α)(e:us.length=4):R us:=by
 obtain⟨a,r,rfl,e'⟩:=lenS us e;exact len3 (R:=fun r=>R (a::r)) (h a) r e'
end
section
variable {K:W.Frag}
theorem f1(f c:Addr)(pm:Value){x:Str}{st:Stmt}{ps:List Str}(hb:iG st ps:=by exact fun _ _ _ _ _ _ _ _ us hl=>wx (R:=fun us=>bindArgs _ ⟨us,[]⟩=pure (List.zip _ us)) (fun _=>rfl) us hl)(a:W.nsIn K mainGlobals x=some (some (.ref f)):=by kernel_rfl)(l:K.lookup f=some (fo x st pm c):=by kernel_rfl)(d:W.codeIn K (.ref c) x=true:=by kernel_rfl)(k:W.keepIn K (.ref f)=true:=by kernel_rfl):aC K x st ps:=fIn hb a l d k
theorem l1(f c:Addr)(pm:Value){x:Str}{st:Stmt}{ps:List Str}(hb:iG st ps:=by exact fun _ _ _ _ _ _ _ _ us hl=>wx (R:=fun us=>bindArgs _ ⟨us,[]⟩=pure (List.zip _ us)) (fun _=>rfl) us hl)(a:W.nsIn K mainGlobals x=some (some (.ref f)):=by kernel_rfl)(l:K.lookup f=some (fo x st pm c):=by kernel_rfl)(d:W.codeIn K (.ref c) x=true:=by kernel_rfl)(k:W.keepIn K (.ref f)=true:=by kernel_rfl)(hh:W.codeHdIn K c (EH K c)=true:=by kernel_rfl):mJ K x st ps:=lIn hb a l d k hh
theorem f2(f c:Addr)(pm:Value){x:Str}{st:Stmt}{ps:List Str}(hb:iG st ps:=by exact fun _ _ _ _ _ _ _ _ us hl=>len2 (R:=fun us=>bindArgs _ ⟨us,[]⟩=pure (List.zip _ us)) (fun _ _=>rfl) us hl)(a:W.nsIn K mainGlobals x=some (some (.ref f)):=by kernel_rfl)(l:K.lookup f=some (fo x st pm c):=by kernel_rfl)(d:W.codeIn K (.ref c) x=true:=by kernel_rfl)(k:W.keepIn K (.ref f)=true:=by kernel_rfl):aC K x st ps:=fIn hb a l d k
theorem f3(f c:Addr)(pm:Value){x:Str}{st:Stmt}{ps:List Str}(hb:iG st ps:=by exact fun _ _ _ _ _ _ _ _ us hl=>len3 (R:=fun us=>bindArgs _ ⟨us,[]⟩=pure (List.zip _ us)) (fun _ _ _=>rfl) us hl)(a:W.nsIn K mainGlobals x=some (some (.ref f)):=by kernel_rfl)(l:K.lookup f=some (fo x st pm c):=by kernel_rfl)(d:W.codeIn K (.ref c) x=true:=by kernel_rfl)(k:W.keepIn K (.ref f)=true:=by kernel_rfl):aC K x st ps:=fIn hb a l d k
theorem l3(f c:Addr)(pm:Value){x:Str}{st:Stmt}{ps:List Str}(hb:iG st ps:=by exact fun _ _ _ _ _ _ _ _ us hl=>len3 (R:=fun us=>bindArgs _ ⟨us,[]⟩=pure (List.zip _ us)) (fun _ _ _=>rfl) us hl)(a:W.nsIn K mainGlobals x=some (some (.ref f)):=by kernel_rfl)(l:K.lookup f=some (fo x st pm c):=by kernel_rfl)(d:W.codeIn K (.ref c) x=true:=by kernel_rfl)(k:W.keepIn K (.ref f)=true:=by kernel_rfl)(hh:W.codeHdIn K c (EH K c)=true:=by kernel_rfl):mJ K x st ps:=lIn hb a l d k hh
theorem f4(f c:Addr)(pm:Value){x:Str}{st:Stmt}{ps:List Str}(hb:iG st ps:=by exact fun _ _ _ _ _ _ _ _ us hl=>len4 (R:=fun us=>bindArgs _ ⟨us,[]⟩=pure (List.zip _ us)) (fun _ _ _ _=>rfl) us hl)(a:W.nsIn K mainGlobals x=some (some (.ref f)):=by kernel_rfl)(l:K.lookup f=some (fo x st pm c):=by kernel_rfl)(d:W.codeIn K (.ref c) x=true:=by kernel_rfl)(k:W.keepIn K (.ref f)=true:=by kernel_rfl):aC K x st ps:=fIn hb a l d k
end
end Hd
namespace Pg
open PySem L2 Dl PySem.Spec PyProof.Rows
abbrev Aq:List Str:=["thing","least","most"]
def l9:aj->Option Out:=(av (gQ (td (bR (fB (KY "int" (ab 0)))) (fB (KY "bool" (ab 0)))) (aF (fC (.bool false))) gz) (aF (kN B7 B7 (ab 1) (ab 0) (ab 2))))
def aO:List D->Option D:=aU l9 3
abbrev yV:List Str:=["thing","many"]
def kU:aj->Option Out:=(aF (ah 3 aO (aa (ab 0) (aa (fC (.int 0)) (aa (f2 Dl.iD (ab 1) (fC (.int 1))) ae)))))
def bU:List D->Option D:=aU kU 2
abbrev Dz:List Str:=["thing","least","most"]
def nX:aj->Option Out:=(aF (j6 (KY "tuple" (ab 0)) (kN B7 B7 (ab 1) (aZ bN (aa (ab 0) ae)) (ab 2))))
def aW:List D->Option D:=aU nX 3
abbrev xj:List Str:=["thing","many"]
def kY:aj->Option Out:=(av (gQ (bR (fB (KY "tuple" (ab 0)))) (aF (fC (.bool false))) gz) (av (gQ (bR (fB (aZ nB (aa (cX (ak 1 [1] (aP (ab 0)) (fG 0) (fun _=>some true) (ah 2 bU (aa (ab 0) (aa (ab 1) ae))))) ae)))) (aF (fC (.bool false))) gz) (aF (f2 cq (f1 lH (ab 0)) (aZ bN (aa (ab 0) ae))))))
def fx:List D->Option D:=aU kY 2
abbrev Gm:List Str:=["thing","many"]
def rS:aj->Option Out:=(aF (j6 (ah 3 aW (aa (ab 0) (aa (fC (.int 2)) (aa (fC (.int 2)) ae)))) (j6 (ah 3 aO (aa (f2 au (ab 0) (fC (.int 0))) (aa (fC (.int 0)) (aa (fC (.int 9)) ae)))) (ah 2 fx (aa (f2 au (ab 0) (fC (.int 1))) (aa (ab 1) ae))))))
def fy:List D->Option D:=aU rS 2
abbrev Hz:List Str:=["thing","givers","takers"]
def qL:aj->Option Out:=(av (gQ (bR (fB (ah 3 aW (aa (ab 0) (aa (fC (.int 3)) (aa (fC (.int 3)) ae)))))) (aF (fC (.bool false))) gz) (aF (j6 (ah 2 bU (aa (f2 au (ab 0) (fC (.int 0))) (aa (ab 1) ae))) (j6 (ah 2 bU (aa (f2 au (ab 0) (fC (.int 1))) (aa (ab 2) ae))) (ah 3 aO (aa (f2 au (ab 0) (fC (.int 2))) (aa (fC (.int 1)) (aa (fC (.int 9)) ae))))))))
def ja:List D->Option D:=aU qL 3
abbrev xG:List Str:=["givers","takers","ways"]
def ku:aj->Option Out:=(av (gQ (td (bR (fB (ah 3 aW (aa (ab 0) (aa (fC (.int 1)) (aa (fC (.int 4)) ae)))))) (bR (fB (ah 3 aW (aa (ab 1) (aa (fC (.int 1)) (aa (fC (.int 4)) ae))))))) (aF (fC (.bool false))) gz) (av (gQ (bR (fB (aZ nB (aa (cX (ak 1 [1] (aP (ab 0)) (fG 0) (fun _=>some true) (ah 2 fy (aa (ab 0) (aa (aZ bN (aa (ab 1) ae)) ae))))) ae)))) (aF (fC (.bool false))) gz) (av (gQ (bR (fB (aZ nB (aa (cX (ak 1 [0] (aP (ab 1)) (fG 0) (fun _=>some true) (ah 2 fy (aa (ab 0) (aa (aZ bN (aa (ab 1) ae)) ae))))) ae)))) (aF (fC (.bool false))) gz) (aF (j6 (KY "tuple" (ab 2)) (aZ nB (aa (cX (ak 1 [0,1] (aP (ab 2)) (fG 0) (fun _=>some true) (ah 3 ja (aa (ab 0) (aa (aZ bN (aa (ab 1) ae)) (aa (aZ bN (aa (ab 2) ae)) ae)))))) ae)))))))
def fA:List D->Option D:=aU ku 3
abbrev rZ:List Str:=["places","pairs","number","place"]
def iJ:aj->Option Out:=(av (aK 1 [] (fE ae)) (av (dZ [0] (bC (aa (ab 0) ae)) (hU 2 3) (vP 1 [2,3] (ak 1 [2] (aP (f2 au (ab 3) (fC (.int 1)))) (fG 0) (fun _=>some true) (aN (aa (ab 1) (aa (ab 0) ae)))))) (aF (ab 1))))
def bB:List D->Option D:=aU iJ 4
abbrev Ba:List Str:=["thing","joined","by_givers","by_takers"]
def gZ:aj->Option Out:=(av (gQ (td (bR (fB (ah 3 aW (aa (ab 0) (aa (fC (.int 3)) (aa (fC (.int 3)) ae)))))) (bR (fB (ah 3 fA (aa (f2 au (ab 0) (fC (.int 0))) (aa (f2 au (ab 0) (fC (.int 1))) (aa (f2 au (ab 0) (fC (.int 2))) ae))))))) (aF (fC (.bool false))) gz) (av (aK 1 [0] (ak 1 [] (aP (f2 au (ab 0) (fC (.int 2)))) (fG 0) (fun _=>some true) (aN (aa (f2 au (ab 0) (fC (.int 0))) (aa (f2 au (ab 0) (fC (.int 1))) ae))))) (av (aK 2 [0] (sr hZ (aa (ah 1 bB (aa (f2 au (ab 0) (fC (.int 0))) ae)) ae))) (av (aK 3 [0] (sr hZ (aa (cX (ak 2 [] (aP (ah 1 bB (aa (f2 au (ab 0) (fC (.int 1))) ae))) (iz 0 1) (fun _=>some true) (aN (aa (ab 1) (aa (ab 0) ae))))) ae))) (aF (j6 (f2 cq (ab 1) (ab 2)) (f2 cq (ab 1) (ab 3))))))))
def cy:List D->Option D:=aU gZ 4
abbrev r8:List Str:=["world"]
def dA:aj->Option Out:=(gQ (bR (fB (ah 1 cy (aa (ab 0) ae)))) Nw gz)
def bb:List D->Option D:=aU dA 1
abbrev sQ:List Str:=["thing","least","most"]
def dw:aj->Option Out:=(gQ (bR (fB (ah 3 aO (aa (ab 0) (aa (ab 1) (aa (ab 2) ae)))))) Nw gz)
def e9:List D->Option D:=aU dw 3
abbrev qM:List Str:=["thing","many"]
def cU:aj->Option Out:=(j4 (ah 3 e9 (aa (ab 0) (aa (fC (.int 0)) (aa (f2 Dl.iD (ab 1) (fC (.int 1))) ae)))))
def b9:List D->Option D:=aU cU 2
abbrev uL:List Str:=["thing"]
def eD:aj->Option Out:=(j4 (ah 2 b9 (aa (ab 0) (aa (fC (.int 2)) ae))))
def fX:List D->Option D:=aU eD 1
abbrev A7:List Str:=["parts","number","part"]
def lW:aj->Option Out:=(aF (f2 aM (f2 aM (n0 jc (ab 0) og (Ee (ab 1))) (aN (aa (ab 2) ae))) (n0 jc (ab 0) (Ee (f2 aM (ab 1) (fC (.int 1)))) og)))
def jP:List D->Option D:=aU lW 3
abbrev CV:List Str:=["world","side","place","ways","likes","own"]
def lE:aj->Option Out:=(av (az 3 [0] (f2 au (ab 0) (fC (.int 2)))) (av (az 4 [0,1,2] (f2 au (f2 au (f2 au (ab 0) (ab 1)) (ab 2)) (fC (.int 1)))) (av (aK 5 [1,2,3] (ak 2 [1,2] (bC (aa (ab 3) ae)) (iz 0 1) (fB (f2 cq (f2 au (ab 1) (ab 2)) (ab 3))) (ab 0))) (aF (cX (oE [1,3,4] (ab 5) (f2 pH (ab 3) (f2 au (f2 au (ab 2) (ab 0)) (f2 Dl.iD (fC (.int 1)) (ab 1))))))))))
def bQ:List D->Option D:=aU lE 6
abbrev yk:List Str:=["world","side","place","offers","chosen","left","number"]
def ip:aj->Option Out:=(av (aK 4 [0] (ak 1 [] (aP (f2 au (ab 0) (fC (.int 2)))) (fG 0) (fun _=>some true) (fC (.int 0)))) (av (az 5 [0,1,2] (f2 au (f2 au (f2 au (ab 0) (ab 1)) (ab 2)) (fC (.int 0)))) (av (dZ [0,1,2] (aP (ah 3 bQ (aa (ab 0) (aa (ab 1) (aa (ab 2) ae))))) (nu 6) (av (AU 4 [0,3,5,6] (ab 6) (aZ xM (aa (f2 au (ab 3) (ab 6)) (aa (f2 au (f2 au (f2 au (ab 0) (fC (.int 2))) (ab 6)) (fC (.int 2))) (aa (ab 5) ae))))) (az 5 [4,5,6] (f2 Dl.iD (ab 5) (f2 au (ab 4) (ab 6)))))) (aF (aZ bI (aa (ab 4) ae))))))
def dY:List D->Option D:=aU ip 7
abbrev o6:List Str:=["world","side","offers","sums","place","chosen"]
def dD:aj->Option Out:=(av (aK 3 [0] (ak 1 [] (aP (f2 au (ab 0) (fC (.int 2)))) (fG 0) (fun _=>some true) (fC (.int 0)))) (av (dZ [0,1] (bc (aa (aZ bN (aa (f2 au (ab 0) (ab 1)) ae)) ae)) (nu 4) (av (az 5 [0,1,2,4] (ah 4 dY (aa (ab 0) (aa (ab 1) (aa (ab 4) (aa (ab 2) ae)))))) (aK 3 [3,5] (ak 2 [] (jU (aa (ab 3) (aa (ab 5) ae))) (iz 0 1) (fun _=>some true) (f2 aM (ab 0) (ab 1)))))) (aF (aZ bI (aa (ab 3) ae)))))
def aV:List D->Option D:=aU dD 6
abbrev EI:List Str:=["world"]
def qc:aj->Option Out:=(aF (aZ bI (aa (cX (ak 1 [] (aP (f2 au (ab 0) (fC (.int 2)))) (fG 0) (fun _=>some true) (f2 au (ab 0) (fC (.int 2))))) ae)))
def fj:List D->Option D:=aU qc 1
abbrev D9:List Str:=["caps","way","cap"]
def oG:aj->Option Out:=(aF (ah 3 jP (aa (ab 0) (aa (ab 1) (aa (ab 2) ae)))))
def ck:List D->Option D:=aU oG 3
abbrev CP:List Str:=["world","caps","given","kept","way","many"]
def lz:aj->Option Out:=(av (az 2 [0,1] (ah 3 aV (aa (ab 0) (aa (fC (.int 0)) (aa (ab 1) ae))))) (av (az 3 [0,2] (ah 3 aV (aa (ab 0) (aa (fC (.int 1)) (aa (ab 2) ae))))) (av (dZ [3] (bC (aa (ab 3) ae)) (hU 4 5) (gQ (fB (f2 wX (ab 5) (f2 au (ab 2) (ab 4)))) (aF (aN (aa (ab 4) (aa (ab 5) ae)))) gz)) (aF (fC .none)))))
def dS:List D->Option D:=aU lz 6
abbrev Jg:List Str:=["world","rows","caps","row"]
def pX:aj->Option Out:=(av (aK 1 [] (fE ae)) (av (az 2 [0] (ah 1 fj (aa (ab 0) ae))) (av (az 3 [0,2] (ah 2 dS (aa (ab 0) (aa (ab 2) ae)))) (av (IQ (fB (f2 oH (ab 3) (fC .none))) (av (md 1 [3] (ab 3)) (av (az 2 [2,3] (ah 3 ck (aa (ab 2) (aa (f2 au (ab 3) (fC (.int 0))) (aa (f2 au (ab 3) (fC (.int 1))) ae))))) (az 3 [0,2] (ah 2 dS (aa (ab 0) (aa (ab 2) ae)))))) Rf.turns) (aF (ab 1))))))
def pL:List D->Option D:=aU pX 4
abbrev EC:List Str:=["world","rows","caps","way","cap"]
def mX:aj->Option Out:=(av (az 2 [0] (ah 1 fj (aa (ab 0) ae))) (av (dZ [1] (aP (ab 1)) (hU 3 4) (az 2 [2,3,4] (ah 3 ck (aa (ab 2) (aa (ab 3) (aa (ab 4) ae)))))) (aF (ab 2))))
def nc:List D->Option D:=aU mX 5
abbrev sj:List Str:=["world"]
def eV:aj->Option Out:=(av (j4 (ah 1 bb (aa (ab 0) ae))) (aF (ah 3 aV (aa (ab 0) (aa (fC (.int 0)) (aa (ah 2 nc (aa (ab 0) (aa (ah 1 pL (aa (ab 0) ae)) ae))) ae))))))
def ba:List D->Option D:=aU eV 1
abbrev y0:List Str:=["_law_script","_law_k"]
def iy:aj->Option Out:=(av (gQ (fB (f2 cq (ab 0) (cX (fE ae)))) (aF (f2 eK (fC (.int 7)) (ab 1))) gz) (aF (f2 aM (f2 au (ab 0) (f2 lJ (ab 1) (aZ bN (aa (ab 0) ae)))) (f2 eK (fC (.int 6553)) (f2 mY (ab 1) (aZ bN (aa (ab 0) ae)))))))
def dW:List D->Option D:=aU iy 2
abbrev uS:List Str:=["_law_script","_law_k","_law_many","_law_cell_here"]
def jt:aj->Option Out:=(av (az 3 [0,1] (f2 lJ (f2 aM (f2 eK (f2 lJ (ah 2 dW (aa (ab 0) (aa (ab 1) ae))) (fC (.int 2147483563))) (fC (.int 69069))) (f2 eK (fC (.int 104723)) (f2 aM (ab 1) (fC (.int 1))))) (fC (.int 2147483563)))) (av (az 3 [3] (f2 lJ (f2 aM (f2 eK (ab 3) (ab 3)) (f2 mY (ab 3) (fC (.int 3)))) (fC (.int 2147483399)))) (aF (f2 lJ (f2 mY (f2 lJ (f2 aM (f2 eK (ab 3) (ab 3)) (f2 mY (ab 3) (fC (.int 7)))) (fC (.int 2147483647))) (fC (.int 11))) (ab 2)))))
def ar:List D->Option D:=aU jt 4
abbrev sU:List Str:=["_law_script","_law_at","_law_rows","_law_found","_law_k","_law_row","_law_order","_law_j","_law_one"]
def iL:aj->Option Out:=(av (aK 3 [] (fE ae)) (av (dZ [2] (bC (aa (ab 2) ae)) (hU 4 5) (av (aK 6 [] (fE ae)) (av (dZ [5] (bC (aa (ab 5) ae)) (hU 7 8) (EY 6 [8] (ah 3 ar (aa (ab 0) (aa (f2 aM (f2 aM (ab 1) (f2 eK (fC (.int 4)) (ab 4))) (ab 7)) (aa (f2 aM (aZ bN (aa (ab 6) ae)) (fC (.int 1))) ae)))) (ab 8))) (md 3 [6] (aZ bI (aa (ab 6) ae)))))) (aF (ab 3))))
def bL:List D->Option D:=aU iL 9
abbrev wM:List Str:=["_law_script","_law_at","_law_most","_law_each","_law_takers","_law_many","_law_size","_law_ways","_law_k","_law_mine","_law_yours","_law_givers"]
def ej:aj->Option Out:=(av (gQ (iZ (fB (f2 Er (ab 2) (fC (.int 3)))) (fB (f2 cq (ah 3 ar (aa (ab 0) (aa (f2 aM (ab 1) (fC (.int 64))) (aa (fC (.int 4)) ae)))) (fC (.int 0))))) (av (az 3 [0,1] (f2 aM (fC (.int 1)) (ah 3 ar (aa (ab 0) (aa (f2 aM (ab 1) (fC (.int 65))) (aa (fC (.int 2)) ae)))))) (av (az 4 [3] (aN (aa (aN (aa (ab 3) (aa (aN (aa (fC (.int 1)) (aa (fC (.int 0)) ae))) ae))) (aa (aN (aa (ab 3) (aa (aN (aa (fC (.int 0)) (aa (fC (.int 1)) ae))) ae))) ae)))) (aF (aN (aa (aN (aa (aN (aa (ab 3) (aa (aN (aa (fC (.int 0)) (aa (fC (.int 1)) ae))) ae))) (aa (aN (aa (ab 3) (aa (aN (aa (fC (.int 1)) (aa (fC (.int 0)) ae))) ae))) ae))) (aa (ab 4) (aa (aN (aa (aN (aa (fC (.int 0)) (aa (fC (.int 0)) (aa (fC (.int 2)) ae)))) (aa (aN (aa (fC (.int 0)) (aa (fC (.int 1)) (aa (fC (.int 2)) ae)))) (aa (aN (aa (fC (.int 1)) (aa (fC (.int 0)) (aa (fC (.int 2)) ae)))) (aa (aN (aa (fC (.int 1)) (aa (fC (.int 1)) (aa (fC (.int 2)) ae)))) ae))))) ae))))))) gz) (av (az 5 [0,1] (f2 aM (fC (.int 1)) (ah 3 ar (aa (ab 0) (aa (ab 1) (aa (fC (.int 3)) ae)))))) (av (az 6 [0,1] (f2 aM (fC (.int 1)) (ah 3 ar (aa (ab 0) (aa (f2 aM (ab 1) (fC (.int 1))) (aa (fC (.int 3)) ae)))))) (av (aK 7 [] (fE ae)) (av (dZ [5,6] (bc (aa (f2 eK (ab 5) (ab 6)) ae)) (nu 8) (gQ (iZ (fB (f2 wX (aZ bN (aa (ab 7) ae)) (ab 2))) (fB (f2 Er (ah 3 ar (aa (ab 0) (aa (f2 aM (f2 aM (ab 1) (fC (.int 2))) (ab 8)) (aa (fC (.int 4)) ae)))) (fC (.int 0))))) (md 7 [0,1,6,8] (aN (aa (f2 mY (ab 8) (ab 6)) (aa (f2 lJ (ab 8) (ab 6)) (aa (f2 aM (fC (.int 1)) (ah 3 ar (aa (ab 0) (aa (f2 aM (f2 aM (ab 1) (fC (.int 12))) (ab 8)) (aa (fC (.int 2)) ae))))) ae))))) gz)) (av (az 9 [0,1,5,7] (ah 3 bL (aa (ab 0) (aa (f2 aM (ab 1) (fC (.int 24))) (aa (cX (ak 1 [7] (bc (aa (ab 5) ae)) (fG 0) (fun _=>some true) (cX (ak 1 [0] (aP (ab 1)) (fG 0) (fB (f2 cq (f2 au (ab 0) (fC (.int 0))) (ab 1))) (f2 au (ab 0) (fC (.int 1))))))) ae))))) (av (az 10 [0,1,6,7] (ah 3 bL (aa (ab 0) (aa (f2 aM (ab 1) (fC (.int 40))) (aa (cX (ak 1 [7] (bc (aa (ab 6) ae)) (fG 0) (fun _=>some true) (cX (ak 1 [0] (aP (ab 1)) (fG 0) (fB (f2 cq (f2 au (ab 0) (fC (.int 1))) (ab 1))) (f2 au (ab 0) (fC (.int 0))))))) ae))))) (av (az 11 [0,1,8,9] (aZ bI (aa (cX (ak 2 [0,1] (bC (aa (ab 9) ae)) (iz 0 1) (fun _=>some true) (aN (aa (ah 3 ar (aa (ab 2) (aa (f2 aM (f2 aM (ab 3) (fC (.int 56))) (ab 0)) (aa (fC (.int 4)) ae)))) (aa (ab 1) ae))))) ae))) (av (az 4 [0,1,8,10] (aZ bI (aa (cX (ak 2 [0,1] (bC (aa (ab 10) ae)) (iz 0 1) (fun _=>some true) (aN (aa (ah 3 ar (aa (ab 2) (aa (f2 aM (f2 aM (ab 3) (fC (.int 60))) (ab 0)) (aa (fC (.int 4)) ae)))) (aa (ab 1) ae))))) ae))) (aF (aN (aa (ab 11) (aa (ab 4) (aa (aZ bI (aa (ab 7) ae)) ae))))))))))))))
def cF:List D->Option D:=aU ej 12
abbrev Dp:List Str:=["world","plan","side","place"]
def nM:aj->Option Out:=(aF (aZ gw (aa (cX (ak 2 [2,3] (jU (aa (f2 au (ab 0) (fC (.int 2))) (aa (ab 1) ae))) (iz 0 1) (fB (f2 cq (f2 au (ab 0) (ab 2)) (ab 3))) (ab 1))) ae)))
def dk:List D->Option D:=aU nM 4
abbrev o4:List Str:=["world","plan","side"]
def fH:aj->Option Out:=(aF (aZ nB (aa (cX (ak 2 [0,1,2] (bC (aa (f2 au (ab 0) (ab 2)) ae)) (iz 0 1) (fun _=>some true) (f2 B7 (ah 4 dk (aa (ab 2) (aa (ab 3) (aa (ab 4) (aa (ab 0) ae))))) (f2 au (ab 1) (fC (.int 0)))))) ae)))
def cL:List D->Option D:=aU fH 3
abbrev Di:List Str:=["world","thing","ways"]
def lC:aj->Option Out:=(av (az 2 [0] (f2 au (ab 0) (fC (.int 2)))) (av (gQ (bR (fB (ah 3 aW (aa (ab 1) (aa (aZ bN (aa (ab 2) ae)) (aa (aZ bN (aa (ab 2) ae)) ae)))))) (aF (fC (.bool false))) gz) (av (gQ (bR (fB (aZ nB (aa (cX (ak 2 [] (jU (aa (ab 2) (aa (ab 1) ae))) (iz 0 1) (fun _=>some true) (ah 3 aO (aa (ab 1) (aa (fC (.int 0)) (aa (f2 au (ab 0) (fC (.int 2))) ae)))))) ae)))) (aF (fC (.bool false))) gz) (aF (j6 (ah 3 cL (aa (ab 0) (aa (ab 1) (aa (fC (.int 0)) ae)))) (ah 3 cL (aa (ab 0) (aa (ab 1) (aa (fC (.int 1)) ae)))))))))
def eR:List D->Option D:=aU lC 3
abbrev wD:List Str:=["world","plan"]
def d7:aj->Option Out:=(av (j4 (ah 1 bb (aa (ab 0) ae))) (gQ (bR (fB (ah 2 eR (aa (ab 0) (aa (ab 1) ae))))) Nw gz))
def bA:List D->Option D:=aU d7 2
abbrev rM:List Str:=["world","ways"]
def eu:aj->Option Out:=(av (az 1 [0] (f2 au (ab 0) (fC (.int 2)))) (aF (cX (qx [1] (aa (aZ bN (aa (ab 1) ae)) ae) (aN (aa (f2 au (f2 au (ab 1) (ab 0)) (fC (.int 1))) (aa (f2 au (f2 au (ab 1) (ab 0)) (fC (.int 0))) ae)))))))
def aS:List D->Option D:=aU eu 2
abbrev Fk:List Str:=["world","ways"]
def ni:aj->Option Out:=(av (j4 (ah 1 bb (aa (ab 0) ae))) (av (aK 1 [0] (ak 1 [0] (aP (ah 1 aS (aa (ab 0) ae))) (fG 0) (fun _=>some true) (f2 au (f2 au (ab 1) (fC (.int 2))) (ab 0)))) (aF (aN (aa (f2 au (ab 0) (fC (.int 1))) (aa (f2 au (ab 0) (fC (.int 0))) (aa (aZ bI (aa (cX (ak 3 [] (aP (ab 1)) (HN 0 1 2) (fun _=>some true) (aN (aa (ab 1) (aa (ab 0) (aa (ab 2) ae)))))) ae)) ae)))))))
def cK:List D->Option D:=aU ni 2
abbrev sN:List Str:=["world","plan"]
def eW:aj->Option Out:=(av (j4 (ah 2 bA (aa (ab 0) (aa (ab 1) ae)))) (aF (aZ bI (aa (cX (ak 1 [1] (aP (ah 1 aS (aa (ab 0) ae))) (fG 0) (fun _=>some true) (f2 au (ab 1) (ab 0)))) ae))))
def bY:List D->Option D:=aU eW 2
abbrev vR:List Str:=["world","plan","side","way","place","own","less_liked"]
def gg:aj->Option Out:=(av (az 4 [0,2,3] (f2 au (f2 au (f2 au (ab 0) (fC (.int 2))) (ab 3)) (ab 2))) (av (gQ (fB (f2 wX (ah 4 dk (aa (ab 0) (aa (ab 1) (aa (ab 2) (aa (ab 4) ae))))) (f2 au (f2 au (f2 au (ab 0) (ab 2)) (ab 4)) (fC (.int 0))))) (aF (fC (.bool true))) gz) (av (az 5 [0,2,4] (ah 3 bQ (aa (ab 0) (aa (ab 2) (aa (ab 4) ae))))) (av (az 6 [3,5] (n0 jc (ab 5) (Ee (f2 aM (f2 pH (ab 5) (ab 3)) (fC (.int 1)))) og)) (aF (aZ Rf.Gu (aa (cX (ak 1 [1] (aP (ab 6)) (fG 0) (fun _=>some true) (f2 Er (f2 au (ab 1) (ab 0)) (fC (.int 0))))) ae)))))))
def cH:List D->Option D:=aU gg 7
abbrev A5:List Str:=["world","plan","way"]
def jI:aj->Option Out:=(av (gQ (fB (f2 cq (f2 au (ab 1) (ab 2)) (f2 au (f2 au (f2 au (ab 0) (fC (.int 2))) (ab 2)) (fC (.int 2))))) (aF (fC (.str "full"))) gz) (av (gQ (bR (fB (ah 4 cH (aa (ab 0) (aa (ab 1) (aa (fC (.int 0)) (aa (ab 2) ae))))))) (aF (fC (.str "giver"))) gz) (av (gQ (bR (fB (ah 4 cH (aa (ab 0) (aa (ab 1) (aa (fC (.int 1)) (aa (ab 2) ae))))))) (aF (fC (.str "taker"))) gz) (aF (fC .none)))))
def eU:List D->Option D:=aU jI 3
abbrev pq:List Str:=["world","plan","way"]
def dH:aj->Option Out:=(av (dZ [1] (bc (aa (aZ bN (aa (ab 1) ae)) ae)) (nu 2) (gQ (fB (f2 sV (ah 3 eU (aa (ab 0) (aa (ab 1) (aa (ab 2) ae)))) (fC .none))) (aF (ab 2)) gz)) (aF (fC .none)))
def dF:List D->Option D:=aU dH 3
abbrev Ae:List Str:=["world","plan"]
def jv:aj->Option Out:=(aF (f2 sV (ah 2 dF (aa (ab 0) (aa (ab 1) ae))) (fC .none)))
def eP:List D->Option D:=aU jv 2
abbrev IP:List Str:=["world","plan"]
def pM:aj->Option Out:=(av (j4 (ah 2 bA (aa (ab 0) (aa (ab 1) ae)))) (aF (ah 2 eP (aa (ab 0) (aa (ab 1) ae)))))
def mO:List D->Option D:=aU pM 2
abbrev so:List Str:=["world","other"]
def eX:aj->Option Out:=(av (az 1 [0] (ah 1 cK (aa (ab 0) ae))) (aF (ah 2 bY (aa (ab 1) (aa (ah 1 ba (aa (ab 1) ae)) ae)))))
def bZ:List D->Option D:=aU eX 2
abbrev tq:List Str:=["world","side","place"]
def dz:aj->Option Out:=(av (j4 (ah 1 fX (aa (ab 1) ae))) (j4 (ah 2 b9 (aa (ab 2) (aa (aZ bN (aa (f2 au (ab 0) (ab 1)) ae)) ae)))))
def eZ:List D->Option D:=aU dz 3
abbrev wz:List Str:=["world","side","place","numbers"]
def jy:aj->Option Out:=(aF (aZ bI (aa (cX (ak 1 [3] (aP (ah 3 bQ (aa (ab 0) (aa (ab 1) (aa (ab 2) ae))))) (fG 0) (fun _=>some true) (f2 au (ab 1) (ab 0)))) ae)))
def eC:List D->Option D:=aU jy 4
abbrev xu:List Str:=["world"]
def kn:aj->Option Out:=(aF (f2 cq (ah 1 ba (aa (ab 0) ae)) (ah 1 bZ (aa (ab 0) ae))))
def ir:List D->Option D:=aU kn 1
abbrev wu:List Str:=["world","many","way"]
def d9:aj->Option Out:=(av (az 1 [] (fC (.int 1))) (av (dZ [0] (aP (f2 au (ab 0) (fC (.int 2)))) (nu 2) (az 1 [1,2] (f2 eK (ab 1) (f2 aM (f2 au (ab 2) (fC (.int 2))) (fC (.int 1)))))) (gQ (fB (f2 Er (ab 1) (fC (.int 3000)))) Nw gz)))
def f9:List D->Option D:=aU d9 3
abbrev o3:List Str:=["ways","found","way","longer","begun"]
def dE:aj->Option Out:=(av (aK 1 [] (fE (aa (aN ae) ae))) (av (dZ [0] (aP (ab 0)) (nu 2) (av (aK 3 [] (fE ae)) (av (dZ [1] (aP (ab 1)) (nu 4) (vP 3 [2,4] (ak 1 [4] (bc (aa (f2 aM (f2 au (ab 2) (fC (.int 2))) (fC (.int 1))) ae)) (fG 0) (fun _=>some true) (f2 aM (ab 1) (aN (aa (ab 0) ae)))))) (az 1 [3] (ab 3))))) (aF (ab 1))))
def dG:List D->Option D:=aU dE 5
abbrev y1:List Str:=["world"]
def ik:aj->Option Out:=(av (j4 (ah 1 bb (aa (ab 0) ae))) (av (j4 (ah 1 f9 (aa (ab 0) ae))) (aF (cX (ak 1 [0] (aP (ah 1 dG (aa (f2 au (ab 0) (fC (.int 2))) ae))) (fG 0) (fB (ah 2 eR (aa (ab 1) (aa (ab 0) ae)))) (ab 0))))))
def il:List D->Option D:=aU ik 1
abbrev zh:List Str:=["world"]
def iw:aj->Option Out:=(aF (cX (ak 1 [0] (aP (ah 1 il (aa (ab 0) ae))) (fG 0) (fB (ah 2 eP (aa (ab 1) (aa (ab 0) ae)))) (ab 0))))
def cw:List D->Option D:=aU iw 1
abbrev pd:List Str:=["world","side","place","plan","much","left"]
def dJ:aj->Option Out:=(av (az 4 [0,1,2,3] (ah 4 eC (aa (ab 0) (aa (ab 1) (aa (ab 2) (aa (ab 3) ae)))))) (av (az 5 [0,1,2,4] (f2 Dl.iD (f2 au (f2 au (f2 au (ab 0) (ab 1)) (ab 2)) (fC (.int 0))) (aZ gw (aa (ab 4) ae)))) (aF (f2 aM (aZ gw (aa (cX (ak 2 [] (bC (aa (ab 4) ae)) (iz 0 1) (fun _=>some true) (f2 eK (ab 0) (ab 1)))) ae)) (f2 eK (ab 5) (aZ bN (aa (ab 4) ae)))))))
def bH:List D->Option D:=aU dJ 6
abbrev qN:List Str:=["world","side","plan"]
def eh:aj->Option Out:=(aF (aZ gw (aa (cX (ak 1 [0,1,2] (bc (aa (aZ bN (aa (f2 au (ab 0) (ab 1)) ae)) ae)) (fG 0) (fun _=>some true) (ah 4 bH (aa (ab 1) (aa (ab 2) (aa (ab 0) (aa (ab 3) ae))))))) ae)))
def bE:List D->Option D:=aU eh 3
abbrev MV:List Str:=["world","side","place","plan"]
def wH:aj->Option Out:=(av (j4 (ah 2 bA (aa (ab 0) (aa (ab 3) ae)))) (av (j4 (ah 3 eZ (aa (ab 0) (aa (ab 1) (aa (ab 2) ae))))) (aF (ah 4 bH (aa (ab 0) (aa (ab 1) (aa (ab 2) (aa (ab 3) ae))))))))
def ki:List D->Option D:=aU wH 4
abbrev Jo:List Str:=["world","plan"]
def pN:aj->Option Out:=(av (j4 (ah 2 bA (aa (ab 0) (aa (ab 1) ae)))) (aF (aN (aa (ah 3 bE (aa (ab 0) (aa (fC (.int 0)) (aa (ab 1) ae)))) (aa (ah 3 bE (aa (ab 0) (aa (fC (.int 1)) (aa (ab 1) ae)))) ae)))))
def dg:List D->Option D:=aU pN 2
abbrev vT:List Str:=["world","plan","of_givers","of_takers"]
def fZ:aj->Option Out:=(av (az 2 [0,1] (ah 3 bE (aa (ab 0) (aa (fC (.int 0)) (aa (ab 1) ae))))) (av (az 3 [0,1] (ah 3 bE (aa (ab 0) (aa (fC (.int 1)) (aa (ab 1) ae))))) (aF (aN (aa (f2 aM (ab 2) (ab 3)) (aa (aZ Dv (aa (f2 Dl.iD (ab 2) (ab 3)) ae)) ae))))))
def eG:List D->Option D:=aU fZ 4
abbrev Ej:List Str:=["world"]
def lr:aj->Option Out:=(aF (B5 [0] (ah 1 cw (aa (ab 0) ae)) (ah 2 eG (aa (ab 1) (aa (ab 0) ae)))))
def iV:List D->Option D:=aU lr 1
abbrev ug:List Str:=["_law_script","_law_world_here","_law_rows","_law_best","_law_fair","_law_plan","_law_both","_law_side","_law_some","_law_place","_law_many","_law_told","_law_mine"]
def lu:aj->Option Out:=(av (az 1 [0] (ah 3 cF (aa (ab 0) (aa (fC (.int 0)) (aa (fC (.int 7)) ae))))) (av (az 2 [1] (ah 1 cw (aa (ab 1) ae))) (av (az 3 [1] (aN (aa (ah 1 ba (aa (ab 1) ae)) (aa (ah 1 bZ (aa (ab 1) ae)) ae)))) (av (az 4 [1] (ah 1 iV (aa (ab 1) ae))) (av (gQ (td (fB (f2 Eh (ab 4) (ab 2))) (bR (fB (ah 2 mO (aa (ab 1) (aa (ab 4) ae)))))) (aF (fC (.bool false))) gz) (av (dZ [2] (aP (ab 2)) (nu 5) (av (az 6 [1,5] (ah 2 dg (aa (ab 1) (aa (ab 5) ae)))) (av (dZ [] (bc (aa (fC (.int 2)) ae)) (nu 7) (av (gQ (fB (f2 wX (f2 au (ab 6) (ab 7)) (f2 au (ah 2 dg (aa (ab 1) (aa (f2 au (ab 3) (ab 7)) ae))) (ab 7)))) (aF (fC (.bool false))) gz) (av (aK 8 [1,5,7,9] (ak 1 [1,5,7] (bc (aa (aZ bN (aa (f2 au (ab 1) (ab 7)) ae)) ae)) (fG 0) (fun _=>some true) (ah 4 ki (aa (ab 1) (aa (ab 3) (aa (ab 0) (aa (ab 2) ae))))))) (av (gQ (fB (f2 oC (aZ gw (aa (ab 8) ae)) (f2 au (ab 6) (ab 7)))) (aF (fC (.bool false))) gz) (dZ [8] (bC (aa (ab 8) ae)) (hU 9 10) (gQ (fB (f2 wX (ab 10) (ah 4 ki (aa (ab 1) (aa (ab 7) (aa (ab 9) (aa (f2 au (ab 3) (ab 7)) ae))))))) (aF (fC (.bool false))) gz)))))) (av (gQ (fB (f2 wX (aZ gw (aa (ab 6) ae)) (aZ gw (aa (ah 2 dg (aa (ab 1) (aa (ab 4) ae))) ae)))) (aF (fC (.bool false))) gz) (gQ (fB (f2 oC (ah 2 dg (aa (ah 1 cK (aa (ab 1) ae)) (aa (ah 2 bY (aa (ab 1) (aa (ab 5) ae))) ae))) (f1 Jw (ab 6)))) (aF (fC (.bool false))) gz))))) (av (gQ (iZ (fB (ah 1 ir (aa (ab 1) ae))) (fB (f2 oC (ab 4) (f2 au (ab 3) (fC (.int 0)))))) (aF (fC (.bool false))) gz) (av (az 11 [1] (ah 2 dg (aa (ah 1 cK (aa (ab 1) ae)) (aa (ah 1 iV (aa (ah 1 cK (aa (ab 1) ae)) ae)) ae)))) (av (az 12 [1,4] (ah 2 dg (aa (ab 1) (aa (ab 4) ae)))) (aF (j6 (f2 cq (aZ gw (aa (ab 11) ae)) (aZ gw (aa (ab 12) ae))) (f2 cq (aZ Dv (aa (f2 Dl.iD (f2 au (ab 11) (fC (.int 0))) (f2 au (ab 11) (fC (.int 1)))) ae)) (aZ Dv (aa (f2 Dl.iD (f2 au (ab 12) (fC (.int 0))) (f2 au (ab 12) (fC (.int 1)))) ae))))))))))))))
def iX:List D->Option D:=aU lu 13
end Pg
namespace K35
open PySem L2 Dl PySem.Spec PyProof.Rows
open Pg
abbrev l6:Stmt:=top 9
abbrev zy:Rf.Sg:=⟨[],[]⟩
theorem Ay:Rf.tW l6 Aq zy none=some l9:=by kernel_rfl
abbrev kE:Stmt:=top 10
abbrev yi:Rf.Sg:=⟨[("is_whole",3,aO)],[]⟩
theorem xP:Rf.tW kE yV yi none=some kU:=by kernel_rfl
abbrev oi:Stmt:=top 11
abbrev Dj:Rf.Sg:=⟨[],[]⟩
theorem Dk:Rf.tW oi Dz Dj none=some nX:=by kernel_rfl
abbrev kM:Stmt:=top 12
abbrev yN:Rf.Sg:=⟨[("is_number",2,bU)],[]⟩
theorem wZ:Rf.tW kM xj yN none=some kY:=by kernel_rfl
abbrev qD:Stmt:=top 13
abbrev HH:Rf.Sg:=⟨[("is_long",3,aW),("is_whole",3,aO),("are_likes",2,fx)],[("MOST",9)]⟩
theorem F2:Rf.tW qD Gm HH none=some rS:=by kernel_rfl
abbrev rm:Stmt:=top 14
abbrev FS:Rf.Sg:=⟨[("is_long",3,aW),("is_number",2,bU),("is_whole",3,aO)],[("MOST",9)]⟩
theorem Gs:Rf.tW rm Hz FS none=some qL:=by kernel_rfl
abbrev kj:Stmt:=top 15
abbrev xZ:Rf.Sg:=⟨[("is_long",3,aW),("is_end",2,fy),("is_way",3,ja)],[("MOST_PLACES",4)]⟩
theorem yz:Rf.tW kj xG xZ none=some ku:=by kernel_rfl
abbrev iK:Stmt:=top 16
abbrev sg:Rf.Sg:=⟨[],[]⟩
theorem tm:Rf.tW iK rZ sg none=some iJ:=by kernel_rfl
abbrev lX:Stmt:=top 17
abbrev Am:Rf.Sg:=⟨[("liked_pairs",1,bB),("is_long",3,aW),("are_parts",3,fA)],[]⟩
theorem A8:Rf.tW lX Ba Am none=some gZ:=by kernel_rfl
abbrev ou:Stmt:=top 18
abbrev CN:Rf.Sg:=⟨[],[]⟩
theorem C2:Rf.tW ou Dp CN none=some nM:=by kernel_rfl
abbrev fO:Stmt:=top 19
abbrev o5:Rf.Sg:=⟨[("through",4,dk)],[]⟩
theorem pk:Rf.tW fO o4 o5 none=some fH:=by kernel_rfl
abbrev oo:Stmt:=top 20
abbrev CW:Rf.Sg:=⟨[("is_long",3,aW),("keeps_amounts",3,cL),("is_whole",3,aO)],[]⟩
theorem DC:Rf.tW oo Di CW none=some lC:=by kernel_rfl
abbrev iI:Stmt:=top 21
abbrev sP:Rf.Sg:=⟨[("is_world",1,cy)],[]⟩
theorem sE:Rf.tW iI r8 sP none=some dA:=by kernel_rfl
abbrev jG:Stmt:=top 22
abbrev uE:Rf.Sg:=⟨[("check_world",1,bb),("is_plan",2,eR)],[]⟩
theorem vb:Rf.tW jG wD uE none=some d7:=by kernel_rfl
abbrev iP:Stmt:=top 23
abbrev sJ:Rf.Sg:=⟨[("is_whole",3,aO)],[]⟩
theorem sH:Rf.tW iP sQ sJ none=some dw:=by kernel_rfl
abbrev gR:Stmt:=top 24
abbrev qw:Rf.Sg:=⟨[("check_whole",3,e9)],[]⟩
theorem rC:Rf.tW gR qM qw none=some cU:=by kernel_rfl
abbrev jw:Stmt:=top 25
abbrev wb:Rf.Sg:=⟨[("check_number",2,b9)],[]⟩
theorem vf:Rf.tW jw uL wb none=some eD:=by kernel_rfl
abbrev iT:Stmt:=top 26
abbrev sx:Rf.Sg:=⟨[("check_side",1,fX),("check_number",2,b9)],[]⟩
theorem r0:Rf.tW iT tq sx none=some dz:=by kernel_rfl
abbrev lY:Stmt:=top 27
abbrev AY:Rf.Sg:=⟨[],[]⟩
theorem Ap:Rf.tW lY A7 AY none=some lW:=by kernel_rfl
abbrev g8:Stmt:=top 28
abbrev qY:Rf.Sg:=⟨[],[]⟩
theorem qH:Rf.tW g8 rM qY (some "turned_order.<locals>.<lambda>")=some eu:=by kernel_rfl
abbrev qr:Stmt:=top 29
abbrev HB:Rf.Sg:=⟨[("check_world",1,bb),("turned_order",1,aS)],[]⟩
theorem FP:Rf.tW qr Fk HB none=some ni:=by kernel_rfl
abbrev iE:Stmt:=top 30
abbrev sy:Rf.Sg:=⟨[("check_plan",2,bA),("turned_order",1,aS)],[]⟩
theorem r9:Rf.tW iE sN sy none=some eW:=by kernel_rfl
abbrev nV:Stmt:=top 32
abbrev Ea:Rf.Sg:=⟨[],[]⟩
theorem D2:Rf.tW nV CV Ea (some "ways_of.<locals>.<lambda>")=some lE:=by kernel_rfl
abbrev kJ:Stmt:=top 33
abbrev ym:Rf.Sg:=⟨[("ways_of",3,bQ)],[]⟩
theorem za:Rf.tW kJ yk ym none=some ip:=by kernel_rfl
abbrev jQ:Stmt:=top 34
abbrev uT:Rf.Sg:=⟨[("ways_of",3,bQ),("through",4,dk)],[]⟩
theorem wA:Rf.tW jQ vR uT none=some gg:=by kernel_rfl
abbrev l5:Stmt:=top 35
abbrev Aj:Rf.Sg:=⟨[("wants_more",4,cH)],[]⟩
theorem AC:Rf.tW l5 A5 Aj none=some jI:=by kernel_rfl
abbrev fL:Stmt:=top 36
abbrev pF:Rf.Sg:=⟨[("why_kept",3,eU)],[]⟩
theorem pG:Rf.tW fL pq pF none=some dH:=by kernel_rfl
abbrev l0:Stmt:=top 37
abbrev Bm:Rf.Sg:=⟨[("first_leaving",2,dF)],[]⟩
theorem Bj:Rf.tW l0 Ae Bm none=some jv:=by kernel_rfl
abbrev vp:Stmt:=top 38
abbrev HZ:Rf.Sg:=⟨[("check_plan",2,bA),("is_still",2,eP)],[]⟩
theorem Ib:Rf.tW vp IP HZ none=some pM:=by kernel_rfl
abbrev fQ:Stmt:=top 40
abbrev pD:Rf.Sg:=⟨[("chosen_by",4,dY)],[]⟩
theorem o8:Rf.tW fQ o6 pD none=some dD:=by kernel_rfl
abbrev qq:Stmt:=top 41
abbrev EZ:Rf.Sg:=⟨[],[]⟩
theorem Fj:Rf.tW qq EI EZ none=some qc:=by kernel_rfl
abbrev nQ:Stmt:=top 42
abbrev DD:Rf.Sg:=⟨[("replaced",3,jP)],[]⟩
theorem Dq:Rf.tW nQ D9 DD none=some oG:=by kernel_rfl
abbrev n5:Stmt:=top 43
abbrev CY:Rf.Sg:=⟨[("chosen_by_all",3,aV)],[]⟩
theorem C3:Rf.tW n5 CP CY none=some lz:=by kernel_rfl
abbrev uI:Stmt:=top 44
abbrev J0:Rf.Sg:=⟨[("limits",1,fj),("refused",2,dS),("lowered",3,ck)],[]⟩
theorem Jj:Rf.tW uI Jg J0 none=some pX:=by kernel_rfl
abbrev qk:Stmt:=top 45
abbrev GU:Rf.Sg:=⟨[("limits",1,fj),("lowered",3,ck)],[]⟩
theorem Gg:Rf.tW qk EC GU none=some mX:=by kernel_rfl
abbrev iR:Stmt:=top 46
abbrev sS:Rf.Sg:=⟨[("check_world",1,bb),("chosen_by_all",3,aV),("capped",2,nc),("steps",1,pL)],[]⟩
theorem sD:Rf.tW iR sj sS none=some eV:=by kernel_rfl
abbrev iH:Stmt:=top 47
abbrev sY:Rf.Sg:=⟨[("turned",1,cK),("turned_plan",2,bY),("givers_best",1,ba)],[]⟩
theorem sR:Rf.tW iH so sY none=some eX:=by kernel_rfl
abbrev jE:Stmt:=top 49
abbrev wR:Rf.Sg:=⟨[("ways_of",3,bQ)],[]⟩
theorem vA:Rf.tW jE wz wR none=some jy:=by kernel_rfl
abbrev jr:Stmt:=top 52
abbrev u5:Rf.Sg:=⟨[],[("MOST_LISTED",3000)]⟩
theorem wI:Rf.tW jr wu u5 none=some d9:=by kernel_rfl
abbrev fJ:Stmt:=top 53
abbrev ph:Rf.Sg:=⟨[],[]⟩
theorem pE:Rf.tW fJ o3 ph none=some dE:=by kernel_rfl
abbrev kg:Stmt:=top 54
abbrev xK:Rf.Sg:=⟨[("check_world",1,bb),("check_many",1,f9),("within_limits",1,dG),("is_plan",2,eR)],[]⟩
theorem xx:Rf.tW kg y1 xK none=some ik:=by kernel_rfl
abbrev kO:Stmt:=top 55
abbrev xq:Rf.Sg:=⟨[("all_plans",1,il),("is_still",2,eP)],[]⟩
theorem xr:Rf.tW kO zh xq none=some iw:=by kernel_rfl
abbrev kF:Stmt:=top 56
abbrev yR:Rf.Sg:=⟨[("givers_best",1,ba),("takers_best",1,bZ)],[]⟩
theorem zd:Rf.tW kF xu yR none=some kn:=by kernel_rfl
abbrev fF:Stmt:=top 58
abbrev pC:Rf.Sg:=⟨[("on_ways_of",4,eC)],[]⟩
theorem o9:Rf.tW fF pd pC none=some dJ:=by kernel_rfl
abbrev gW:Stmt:=top 59
abbrev qm:Rf.Sg:=⟨[("cost_of_place",4,bH)],[]⟩
theorem p6:Rf.tW gW qN qm none=some eh:=by kernel_rfl
abbrev AW:Stmt:=top 60
abbrev MU:Rf.Sg:=⟨[("check_plan",2,bA),("check_place",3,eZ),("cost_of_place",4,bH)],[]⟩
theorem Li:Rf.tW AW MV MU none=some wH:=by kernel_rfl
abbrev wV:Stmt:=top 61
abbrev HY:Rf.Sg:=⟨[("check_plan",2,bA),("cost_of_side",3,bE)],[]⟩
theorem Jf:Rf.tW wV Jo HY none=some pN:=by kernel_rfl
abbrev jO:Stmt:=top 62
abbrev wt:Rf.Sg:=⟨[("cost_of_side",3,bE)],[]⟩
theorem wU:Rf.tW jO vT wt none=some fZ:=by kernel_rfl
abbrev nR:Stmt:=top 63
abbrev Dm:Rf.Sg:=⟨[("all_rests",1,cw),("unfairness",2,eG)],[]⟩
theorem Du:Rf.tW nR Ej Dm (some "fairest.<locals>.<lambda>")=some lr:=by kernel_rfl
abbrev kP:Stmt:=top 65
abbrev zf:Rf.Sg:=⟨[],[]⟩
theorem xk:Rf.tW kP y0 zf none=some iy:=by kernel_rfl
abbrev jK:Stmt:=top 66
abbrev wk:Rf.Sg:=⟨[("_law_cell",2,dW)],[]⟩
theorem vN:Rf.tW jK uS wk none=some jt:=by kernel_rfl
abbrev iC:Stmt:=top 67
abbrev sd:Rf.Sg:=⟨[("_law_drawn",3,ar)],[]⟩
theorem sM:Rf.tW iC sU sd none=some iL:=by kernel_rfl
abbrev jH:Stmt:=top 68
abbrev vE:Rf.Sg:=⟨[("_law_orders",3,bL),("_law_drawn",3,ar)],[]⟩
theorem vd:Rf.tW jH wM vE none=some ej:=by kernel_rfl
abbrev Hu:Stmt:=top 69
abbrev NR:Rf.Sg:=⟨[("_law_world",3,cF),("all_rests",1,cw),("fairest",1,iV),("costs",2,dg),("givers_best",1,ba),("takers_best",1,bZ),("is_single",1,ir),("turned",1,cK),("rests",2,mO),("cost",4,ki),("turned_plan",2,bY)],[]⟩
theorem Oa:Rf.tW Hu ug NR none=some lu:=by kernel_rfl
structure NF(K:W.Frag):Prop where
 c0:aC K "is_whole" l6 ["thing","least","most"]
 c1:aC K "is_number" kE ["thing","many"]
 c2:aC K "is_long" oi ["thing","least","most"]
 c3:aC K "are_likes" kM ["thing","many"]
 c4:aC K "is_end" qD ["thing","many"]
 c5:aC K "is_way" rm ["thing","givers","takers"]
 c6:aC K "are_parts" kj ["givers","takers","ways"]
 c7:aC K "liked_pairs" iK ["places"]
 c8:aC K "is_world" lX ["thing"]
 c9:aC K "through" ou ["world","plan","side","place"]
 c10:aC K "keeps_amounts" fO ["world","plan","side"]
 c11:aC K "is_plan" oo ["world","thing"]
 c12:aC K "check_world" iI ["world"]
 c13:aC K "check_plan" jG ["world","plan"]
 c14:aC K "check_whole" iP ["thing","least","most"]
 c15:aC K "check_number" gR ["thing","many"]
 c16:aC K "check_side" jw ["thing"]
 c17:aC K "check_place" iT ["world","side","place"]
 c18:aC K "replaced" lY ["parts","number","part"]
 c19:mJ K "turned_order" g8 ["world"]
 c20:aC K "turned" qr ["world"]
 c21:aC K "turned_plan" iE ["world","plan"]
 c22:mJ K "ways_of" nV ["world","side","place"]
 c23:aC K "chosen_by" kJ ["world","side","place","offers"]
 c24:aC K "wants_more" jQ ["world","plan","side","way"]
 c25:aC K "why_kept" l5 ["world","plan","way"]
 c26:aC K "first_leaving" fL ["world","plan"]
 c27:aC K "is_still" l0 ["world","plan"]
 c28:aC K "rests" vp ["world","plan"]
 c29:aC K "chosen_by_all" fQ ["world","side","offers"]
 c30:aC K "limits" qq ["world"]
 c31:aC K "lowered" nQ ["caps","way","cap"]
 c32:aC K "refused" n5 ["world","caps"]
 c33:aC K "steps" uI ["world"]
 c34:aC K "capped" qk ["world","rows"]
 c35:aC K "givers_best" iR ["world"]
 c36:aC K "takers_best" iH ["world"]
 c37:aC K "on_ways_of" jE ["world","side","place","numbers"]
 c38:aC K "check_many" jr ["world"]
 c39:aC K "within_limits" fJ ["ways"]
 c40:aC K "all_plans" kg ["world"]
 c41:aC K "all_rests" kO ["world"]
 c42:aC K "is_single" kF ["world"]
 c43:aC K "cost_of_place" fF ["world","side","place","plan"]
 c44:aC K "cost_of_side" gW ["world","side","plan"]
 c45:aC K "cost" AW ["world","side","place","plan"]
 c46:aC K "costs" wV ["world","plan"]
 c47:aC K "unfairness" jO ["world","plan"]
 c48:mJ K "fairest" nR ["world"]
 c49:aC K "_law_cell" kP ["_law_script","_law_k"]
 c50:aC K "_law_drawn" jK ["_law_script","_law_k","_law_many"]
 c51:aC K "_law_orders" iC ["_law_script","_law_at","_law_rows"]
 c52:aC K "_law_world" jH ["_law_script","_law_at","_law_most"]
 c53:aC K "law" Hu ["_law_script"]
 i_MOST_PLACES:∃t,W.nsIn K mainGlobals "MOST_PLACES"=some (some (.int 4 t))
 i_MOST:∃t,W.nsIn K mainGlobals "MOST"=some (some (.int 9 t))
 i_MOST_LISTED:∃t,W.nsIn K mainGlobals "MOST_LISTED"=some (some (.int 3000 t))
 b:∀x∈dc,W.nsIn K mainGlobals x=some none
structure bx(K:W.Frag)(mg:Str->Option Value):Prop where
 c0:br K mg "is_whole" l6 ["thing","least","most"]
 c1:br K mg "is_number" kE ["thing","many"]
 c2:br K mg "is_long" oi ["thing","least","most"]
 c3:br K mg "are_likes" kM ["thing","many"]
 c4:br K mg "is_end" qD ["thing","many"]
 c5:br K mg "is_way" rm ["thing","givers","takers"]
 c6:br K mg "are_parts" kj ["givers","takers","ways"]
 c7:br K mg "liked_pairs" iK ["places"]
 c8:br K mg "is_world" lX ["thing"]
 c9:br K mg "through" ou ["world","plan","side","place"]
 c10:br K mg "keeps_amounts" fO ["world","plan","side"]
 c11:br K mg "is_plan" oo ["world","thing"]
 c12:br K mg "check_world" iI ["world"]
 c13:br K mg "check_plan" jG ["world","plan"]
 c14:br K mg "check_whole" iP ["thing","least","most"]
 c15:br K mg "check_number" gR ["thing","many"]
 c16:br K mg "check_side" jw ["thing"]
 c17:br K mg "check_place" iT ["world","side","place"]
 c18:br K mg "replaced" lY ["parts","number","part"]
 c19:DV K mg "turned_order" g8 ["world"]
 c20:br K mg "turned" qr ["world"]
 c21:br K mg "turned_plan" iE ["world","plan"]
 c22:DV K mg "ways_of" nV ["world","side","place"]
 c23:br K mg "chosen_by" kJ ["world","side","place","offers"]
 c24:br K mg "wants_more" jQ ["world","plan","side","way"]
 c25:br K mg "why_kept" l5 ["world","plan","way"]
 c26:br K mg "first_leaving" fL ["world","plan"]
 c27:br K mg "is_still" l0 ["world","plan"]
 c28:br K mg "rests" vp ["world","plan"]
 c29:br K mg "chosen_by_all" fQ ["world","side","offers"]
 c30:br K mg "limits" qq ["world"]
 c31:br K mg "lowered" nQ ["caps","way","cap"]
 c32:br K mg "refused" n5 ["world","caps"]
 c33:br K mg "steps" uI ["world"]
 c34:br K mg "capped" qk ["world","rows"]
 c35:br K mg "givers_best" iR ["world"]
 c36:br K mg "takers_best" iH ["world"]
 c37:br K mg "on_ways_of" jE ["world","side","place","numbers"]
 c38:br K mg "check_many" jr ["world"]
 c39:br K mg "within_limits" fJ ["ways"]
 c40:br K mg "all_plans" kg ["world"]
 c41:br K mg "all_rests" kO ["world"]
 c42:br K mg "is_single" kF ["world"]
 c43:br K mg "cost_of_place" fF ["world","side","place","plan"]
 c44:br K mg "cost_of_side" gW ["world","side","plan"]
 c45:br K mg "cost" AW ["world","side","place","plan"]
 c46:br K mg "costs" wV ["world","plan"]
 c47:br K mg "unfairness" jO ["world","plan"]
 c48:DV K mg "fairest" nR ["world"]
 c49:br K mg "_law_cell" kP ["_law_script","_law_k"]
 c50:br K mg "_law_drawn" jK ["_law_script","_law_k","_law_many"]
 c51:br K mg "_law_orders" iC ["_law_script","_law_at","_law_rows"]
 c52:br K mg "_law_world" jH ["_law_script","_law_at","_law_most"]
 c53:br K mg "law" Hu ["_law_script"]
 i_MOST_PLACES:∃t,mg "MOST_PLACES"=some (.int 4 t)
 i_MOST:∃t,mg "MOST"=some (.int 9 t)
 i_MOST_LISTED:∃t,mg "MOST_LISTED"=some (.int 3000 t)
 b:∀x∈dc,mg x=none
theorem NF.defs{K:W.Frag}{h:Heap}{mg:Str->Option Value}(I:NF K)(X:K.In h)(G:h.Ns mainGlobals mg):bx K mg :=
 ⟨I.c0.mg X G,I.c1.mg X G,I.c2.mg X G,I.c3.mg X G,I.c4.mg X G,I.c5.mg X G,I.c6.mg X G,I.c7.mg X G,I.c8.mg X G,I.c9.mg X G,I.c10.mg X G,I.c11.mg X G,I.c12.mg X G,I.c13.mg X G,I.c14.mg X G,I.c15.mg X G,I.c16.mg X G,I.c17.mg X G,I.c18.mg X G,I.c19.mg X G,I.c20.mg X G,I.c21.mg X G,I.c22.mg X G,I.c23.mg X G,I.c24.mg X G,I.c25.mg X G,I.c26.mg X G,I.c27.mg X G,I.c28.mg X G,I.c29.mg X G,I.c30.mg X G,I.c31.mg X G,I.c32.mg X G,I.c33.mg X G,I.c34.mg X G,I.c35.mg X G,I.c36.mg X G,I.c37.mg X G,I.c38.mg X G,I.c39.mg X G,I.c40.mg X G,I.c41.mg X G,I.c42.mg X G,I.c43.mg X G,I.c44.mg X G,I.c45.mg X G,I.c46.mg X G,I.c47.mg X G,I.c48.mg X G,I.c49.mg X G,I.c50.mg X G,I.c51.mg X G,I.c52.mg X G,I.c53.mg X G,(let ⟨t,h⟩:=I.i_MOST_PLACES;⟨t,W.mg_of X G h⟩),(let ⟨t,h⟩:=I.i_MOST;⟨t,W.mg_of X G h⟩),(let ⟨t,h⟩:=I.i_MOST_LISTED;⟨t,W.mg_of X G h⟩),fun x hx=>W.mg_none_of X G (I.b x hx)⟩
section
variable {P:Program}{w:World}{K:W.Frag}{mg:Str->Option Value}{base:Heap}
theorem gP(D:bx K mg):dm P w K mg base 1 "is_whole" 3 aO:=Rf.fV (j:=0) D.c0 D.b Rf.bz Rf.bu Ay
theorem oO(D:bx K mg):dm P w K mg base 2 "is_number" 2 bU:=Rf.fV (j:=1) D.c1 D.b (Rf.fm (gP D) Rf.bz) Rf.bu xP
theorem jf(D:bx K mg):dm P w K mg base 1 "is_long" 3 aW:=Rf.fV (j:=0) D.c2 D.b Rf.bz Rf.bu Dk
theorem w4(D:bx K mg):dm P w K mg base 3 "are_likes" 2 fx:=Rf.fV (j:=2) D.c3 D.b (Rf.fm (oO D) Rf.bz) Rf.bu wZ
theorem F7(D:bx K mg):dm P w K mg base 4 "is_end" 2 fy:=Rf.fV (j:=3) D.c4 D.b (Rf.fm (jf D) (Rf.fm (gP D) (Rf.fm (w4 D) Rf.bz))) (Rf.Cm D.i_MOST Rf.bu) F2
theorem FN(D:bx K mg):dm P w K mg base 3 "is_way" 3 ja:=Rf.fV (j:=2) D.c5 D.b (Rf.fm (jf D) (Rf.fm (oO D) (Rf.fm (gP D) Rf.bz))) (Rf.Cm D.i_MOST Rf.bu) Gs
theorem zj(D:bx K mg):dm P w K mg base 5 "are_parts" 3 fA:=Rf.fV (j:=4) D.c6 D.b (Rf.fm (jf D) (Rf.fm (F7 D) (Rf.fm (FN D) Rf.bz))) (Rf.Cm D.i_MOST_PLACES Rf.bu) yz
theorem si(D:bx K mg):dm P w K mg base 1 "liked_pairs" 1 bB:=Rf.fV (j:=0) D.c7 D.b Rf.bz Rf.bu tm
theorem zu(D:bx K mg):dm P w K mg base 6 "is_world" 1 cy:=Rf.fV (j:=5) D.c8 D.b (Rf.fm (si D) (Rf.fm (jf D) (Rf.fm (zj D) Rf.bz))) Rf.bu A8
theorem uA(D:bx K mg):dm P w K mg base 1 "through" 4 dk:=Rf.fV (j:=0) D.c9 D.b Rf.bz Rf.bu C2
theorem oZ(D:bx K mg):dm P w K mg base 2 "keeps_amounts" 3 cL:=Rf.fV (j:=1) D.c10 D.b (Rf.fm (uA D) Rf.bz) Rf.bu pk
theorem ud(D:bx K mg):dm P w K mg base 3 "is_plan" 2 eR:=Rf.fV (j:=2) D.c11 D.b (Rf.fm (jf D) (Rf.fm (oZ D) (Rf.fm (gP D) Rf.bz))) Rf.bu DC
theorem eY(D:bx K mg):dm P w K mg base 7 "check_world" 1 bb:=Rf.fV (j:=6) D.c12 D.b (Rf.fm (zu D) Rf.bz) Rf.bu sE
theorem gq(D:bx K mg):dm P w K mg base 8 "check_plan" 2 bA:=Rf.fV (j:=7) D.c13 D.b (Rf.fm (eY D) (Rf.fm (ud D) Rf.bz)) Rf.bu vb
theorem sO(D:bx K mg):dm P w K mg base 2 "check_whole" 3 e9:=Rf.fV (j:=1) D.c14 D.b (Rf.fm (gP D) Rf.bz) Rf.bu sH
theorem kc(D:bx K mg):dm P w K mg base 3 "check_number" 2 b9:=Rf.fV (j:=2) D.c15 D.b (Rf.fm (sO D) Rf.bz) Rf.bu rC
theorem wK(D:bx K mg):dm P w K mg base 4 "check_side" 1 fX:=Rf.fV (j:=3) D.c16 D.b (Rf.fm (kc D) Rf.bz) Rf.bu vf
theorem se(D:bx K mg):dm P w K mg base 5 "check_place" 3 eZ:=Rf.fV (j:=4) D.c17 D.b (Rf.fm (wK D) (Rf.fm (kc D) Rf.bz)) Rf.bu r0
theorem AZ(D:bx K mg):dm P w K mg base 1 "replaced" 3 jP:=Rf.fV (j:=0) D.c18 D.b Rf.bz Rf.bu Ap
theorem kW(D:bx K mg):dm P w K mg base 4 "turned_order" 1 aS:=Rf.Pw (j:=0) D.c19 D.b Rf.bz Rf.bu qH
theorem yT(D:bx K mg):dm P w K mg base 8 "turned" 1 cK:=Rf.fV (j:=7) D.c20 D.b (Rf.fm (eY D) (Rf.fm (kW D) Rf.bz)) Rf.bu FP
theorem lR(D:bx K mg):dm P w K mg base 9 "turned_plan" 2 bY:=Rf.fV (j:=8) D.c21 D.b (Rf.fm (gq D) (Rf.fm (kW D) Rf.bz)) Rf.bu r9
theorem oz(D:bx K mg):dm P w K mg base 4 "ways_of" 3 bQ:=Rf.Pw (j:=0) D.c22 D.b Rf.bz Rf.bu D2
theorem xJ(D:bx K mg):dm P w K mg base 5 "chosen_by" 4 dY:=Rf.fV (j:=4) D.c23 D.b (Rf.fm (oz D) Rf.bz) Rf.bu za
theorem uJ(D:bx K mg):dm P w K mg base 5 "wants_more" 4 cH:=Rf.fV (j:=4) D.c24 D.b (Rf.fm (oz D) (Rf.fm (uA D) Rf.bz)) Rf.bu wA
theorem zz(D:bx K mg):dm P w K mg base 6 "why_kept" 3 eU:=Rf.fV (j:=5) D.c25 D.b (Rf.fm (uJ D) Rf.bz) Rf.bu AC
theorem pw(D:bx K mg):dm P w K mg base 7 "first_leaving" 2 dF:=Rf.fV (j:=6) D.c26 D.b (Rf.fm (zz D) Rf.bz) Rf.bu pG
theorem qa(D:bx K mg):dm P w K mg base 8 "is_still" 2 eP:=Rf.fV (j:=7) D.c27 D.b (Rf.fm (pw D) Rf.bz) Rf.bu Bj
theorem JQ(D:bx K mg):dm P w K mg base 9 "rests" 2 mO:=Rf.fV (j:=8) D.c28 D.b (Rf.fm (gq D) (Rf.fm (qa D) Rf.bz)) Rf.bu Ib
theorem jS(D:bx K mg):dm P w K mg base 6 "chosen_by_all" 3 aV:=Rf.fV (j:=5) D.c29 D.b (Rf.fm (xJ D) Rf.bz) Rf.bu o8
theorem yg(D:bx K mg):dm P w K mg base 1 "limits" 1 fj:=Rf.fV (j:=0) D.c30 D.b Rf.bz Rf.bu Fj
theorem tX(D:bx K mg):dm P w K mg base 2 "lowered" 3 ck:=Rf.fV (j:=1) D.c31 D.b (Rf.fm (AZ D) Rf.bz) Rf.bu Dq
theorem CQ(D:bx K mg):dm P w K mg base 7 "refused" 2 dS:=Rf.fV (j:=6) D.c32 D.b (Rf.fm (jS D) Rf.bz) Rf.bu C3
theorem Jm(D:bx K mg):dm P w K mg base 8 "steps" 1 pL:=Rf.fV (j:=7) D.c33 D.b (Rf.fm (yg D) (Rf.fm (CQ D) (Rf.fm (tX D) Rf.bz))) Rf.bu Jj
theorem Hc(D:bx K mg):dm P w K mg base 3 "capped" 2 nc:=Rf.fV (j:=2) D.c34 D.b (Rf.fm (yg D) (Rf.fm (tX D) Rf.bz)) Rf.bu Gg
theorem iA(D:bx K mg):dm P w K mg base 9 "givers_best" 1 ba:=Rf.fV (j:=8) D.c35 D.b (Rf.fm (eY D) (Rf.fm (jS D) (Rf.fm (Hc D) (Rf.fm (Jm D) Rf.bz)))) Rf.bu sD
theorem lU(D:bx K mg):dm P w K mg base 10 "takers_best" 1 bZ:=Rf.fV (j:=9) D.c36 D.b (Rf.fm (yT D) (Rf.fm (lR D) (Rf.fm (iA D) Rf.bz))) Rf.bu sR
theorem wQ(D:bx K mg):dm P w K mg base 5 "on_ways_of" 4 eC:=Rf.fV (j:=4) D.c37 D.b (Rf.fm (oz D) Rf.bz) Rf.bu vA
theorem uU(D:bx K mg):dm P w K mg base 1 "check_many" 1 f9:=Rf.fV (j:=0) D.c38 D.b Rf.bz (Rf.Cm D.i_MOST_LISTED Rf.bu) wI
theorem pe(D:bx K mg):dm P w K mg base 1 "within_limits" 1 dG:=Rf.fV (j:=0) D.c39 D.b Rf.bz Rf.bu pE
theorem yd(D:bx K mg):dm P w K mg base 8 "all_plans" 1 il:=Rf.fV (j:=7) D.c40 D.b (Rf.fm (eY D) (Rf.fm (uU D) (Rf.fm (pe D) (Rf.fm (ud D) Rf.bz)))) Rf.bu xx
theorem oN(D:bx K mg):dm P w K mg base 9 "all_rests" 1 cw:=Rf.fV (j:=8) D.c41 D.b (Rf.fm (yd D) (Rf.fm (qa D) Rf.bz)) Rf.bu xr
theorem xf(D:bx K mg):dm P w K mg base 11 "is_single" 1 ir:=Rf.fV (j:=10) D.c42 D.b (Rf.fm (iA D) (Rf.fm (lU D) Rf.bz)) Rf.bu zd
theorem jV(D:bx K mg):dm P w K mg base 6 "cost_of_place" 4 bH:=Rf.fV (j:=5) D.c43 D.b (Rf.fm (wQ D) Rf.bz) Rf.bu o9
theorem k6(D:bx K mg):dm P w K mg base 7 "cost_of_side" 3 bE:=Rf.fV (j:=6) D.c44 D.b (Rf.fm (jV D) Rf.bz) Rf.bu p6
theorem MB(D:bx K mg):dm P w K mg base 9 "cost" 4 ki:=Rf.fV (j:=8) D.c45 D.b (Rf.fm (gq D) (Rf.fm (se D) (Rf.fm (jV D) Rf.bz))) Rf.bu Li
theorem Io(D:bx K mg):dm P w K mg base 9 "costs" 2 dg:=Rf.fV (j:=8) D.c46 D.b (Rf.fm (gq D) (Rf.fm (k6 D) Rf.bz)) Rf.bu Jf
theorem ve(D:bx K mg):dm P w K mg base 8 "unfairness" 2 eG:=Rf.fV (j:=7) D.c47 D.b (Rf.fm (k6 D) Rf.bz) Rf.bu wU
theorem DM(D:bx K mg):dm P w K mg base 13 "fairest" 1 iV:=Rf.Pw (j:=9) D.c48 D.b (Rf.fm (oN D) (Rf.fm (ve D) Rf.bz)) Rf.bu Du
theorem yq(D:bx K mg):dm P w K mg base 1 "_law_cell" 2 dW:=Rf.fV (j:=0) D.c49 D.b Rf.bz Rf.bu xk
theorem mQ(D:bx K mg):dm P w K mg base 2 "_law_drawn" 3 ar:=Rf.fV (j:=1) D.c50 D.b (Rf.fm (yq D) Rf.bz) Rf.bu vN
theorem su(D:bx K mg):dm P w K mg base 3 "_law_orders" 3 bL:=Rf.fV (j:=2) D.c51 D.b (Rf.fm (mQ D) Rf.bz) Rf.bu sM
theorem vy(D:bx K mg):dm P w K mg base 4 "_law_world" 3 cF:=Rf.fV (j:=3) D.c52 D.b (Rf.fm (su D) (Rf.fm (mQ D) Rf.bz)) Rf.bu vd
end
theorem MY{P:Program}{w:World}{K:W.Frag}{h:Heap}{mg:Str->Option Value}{fa:Addr}(X:K.In h)(G:h.Ns mainGlobals mg)(hfa:mg "law"=some (.ref fa))(I:NF K):∃fd:FuncData,(∀ (s:Shared) (v:Value),BindsTo s fd ⟨[v],[]⟩ [("_law_script",v)])/\∀base:Heap,K.In base->base.Ns mainGlobals mg->pA P w K mg base Ms 14 fa fd ["_law_script"] (LP K 1 iX):=by
 have D:=I.defs X G
 obtain⟨f,fd,hm,F,hb⟩:=D.c53.ex
 rw[hfa] at hm;cases hm
 refine⟨fd,fun s v=>?_,fun base _ _=>Kq F (Rf.Pb (N:=ug)) fun X hP hw hK hm' hb' C _ _ HF H=>by subst hP;subst hw;subst hK;subst hm';subst hb';exact Rf.Ku (j:=13) C D.b (Rf.fm (vy D) (Rf.fm (oN D) (Rf.fm (DM D) (Rf.fm (Io D) (Rf.fm (iA D) (Rf.fm (lU D) (Rf.fm (xf D) (Rf.fm (yT D) (Rf.fm (JQ D) (Rf.fm (MB D) (Rf.fm (lR D) Rf.bz))))))))))) Rf.bu Oa⟩
 obtain⟨oc,od,kV,doc,pm,an,cdv,ct,osl,rfl,lk,hcd⟩:=F.ex
 exact .of_eq rfl
theorem walk{l:W.OpenLaw}{q:Program}{loose:List Str}{XP:(Str->Option Value)->Heap->Prop}{YP:World->Heap->Prop}{d:DefRec}{K:Params->W.Frag}{ts:List Addr}(hn:l.most=some 63)(hdf:d.params.defaults=[])(hname:d.name="law")
  (hY:∀ (w:World) (h:Heap),YP w h->(K w.params).In h/\∀P∈ts,h.get? P=some (W.tabObj #[])) (ht:∀w:World,m7 (K w.params) ts=true) (hI:∀w:World,NF (K w.params)) (main:∀ns:List Int,ns.length<=63->iX [.list (ns.map PyData.int)]=some (.bool true)) :
  W.WalkO q loose XP YP l.row.toRowW d [] (fun f vs=>PySem.call f vs) :=
 Fp (n:=63) (k:=14) (x:="_law_script") (CX:=fun _=>Ms) (sp:=fun w=>LP (K w.params) 1 iX) hn (by decide) hdf ⟨rfl,by decide,by decide⟩ hY ht (fun w mg fa h KX G hmg=>MY KX G (by rw[<- hname];exact hmg) (hI w)) (fun _ _ a ns hl hT hS=>AX hS hT (main ns hl)) fun _ _ _ _ _ z=>z
end K35
namespace Dl
open PySem L2 PySem.Spec PyProof.Rows
def yx:D->Prop|.none=>True|.bool _=>True|.int _=>True|.str x=>PyData.canLay0 (.str x)=true|_=>False
def jz(b:Nat):Nat->D->Prop
 | 0,d=>yx d
 | k+1,d=>yx d\/(∃xs,(d=.list xs\/d=.tuple xs)/\xs.length<=b/\∀x∈xs,jz b k x)
theorem jz.leaf{b k:Nat}{d:D}(h:yx d):jz b k d:=by
 cases k with
 | zero=>exact h
 | succ k=>exact .inl h
theorem jz.tup{b k:Nat}{xs:List D}(hb:xs.length<=b)(h:∀x∈xs,jz b k x):jz b (k+1) (.tuple xs):=.inr ⟨xs,.inr rfl,hb,h⟩
theorem jz.lst{b k:Nat}{xs:List D}(hb:xs.length<=b)(h:∀x∈xs,jz b k x):jz b (k+1) (.list xs):=.inr ⟨xs,.inl rfl,hb,h⟩
theorem jz.of_tup{b k:Nat}{xs:List D}(h:jz b k (.tuple xs)):∃j,k=j+1/\xs.length<=b/\∀x∈xs,jz b j x:=by
 cases k with
 | zero=>cases h
 | succ k =>
  rcases h with h|⟨ys,h|h,h1,h2⟩
  ·cases h
  ·cases h
  ·cases h;exact⟨k,rfl,h1,h2⟩
theorem jz.mono{b b':Nat}(hb:b<=b'):∀ {k k':Nat}{d:D},k<=k'->jz b k d->jz b' k' d
 | 0,k',d,_,h=>.leaf h
 | k+1,0,d,hk,h=>by omega
 | k+1,k'+1,d,hk,h=>by
  rcases h with h|⟨xs,h,h1,h2⟩
  ·exact .inl h
  ·exact .inr ⟨xs,h,yE h1 hb,fun x hx=>(h2 x hx).mono hb (by omega)⟩
theorem Ck{b k:Nat}:∀ {xs:List D},(∀x∈xs,PyData.canLay0 x=true/\x.depth<=k)->PyData.canLayAll0 xs=true/\PyData.depthAll xs<=k
 | [],_=>⟨by simp[PyData.canLayAll0],by simp[PyData.depthAll]⟩
 | x::xs,h=>by
  obtain⟨a,c⟩:=Ck (b:=b) (xs:=xs) fun y hy=>h y (zC _ hy)
  obtain⟨a',c'⟩:=h x zE
  exact⟨by simp[PyData.canLayAll0,a,a'],by simp[PyData.depthAll];omega⟩
theorem jz.lay{b:Nat}:∀ {k:Nat}{d:D},jz b k d->PyData.canLay0 d=true/\d.depth<=k:=by
 have lf:∀ {k:Nat}{d:D},yx d->PyData.canLay0 d=true/\d.depth<=k:=fun {k d} h=>by
  cases d<;>simp only[yx] at h<;>first|exact⟨h,by simp[PyData.depth]⟩|exact⟨by simp[PyData.canLay0],by simp[PyData.depth]⟩
 intro k
 induction k with
 | zero=>exact fun h=>lf h
 | succ k ih =>
  intro d h
  rcases h with h|⟨xs,h,h1,h2⟩
  ·exact lf h
  ·obtain⟨a,c⟩:=Ck (b:=b) (xs:=xs) fun y hy=>ih (h2 y hy)
   rcases h with rfl|rfl
   ·exact⟨by simp[PyData.canLay0,a],by simp[PyData.depth];omega⟩
   ·exact⟨by simp[PyData.canLay0,a],by simp[PyData.depth];omega⟩
theorem jz.shaped{b k:Nat}{d:D}(h:jz b k d)(hk:k<=64):SeqAt.shaped d=true:=by
 obtain⟨a,c⟩:=h.lay
 simp[SeqAt.shaped,a];omega
theorem jz.noDict{b k:Nat}{d:D}(h:jz b k d):∀kv,d≠.dict kv:=by
 rintro kv rfl
 have:=h.lay.1
 simp[PyData.canLay0] at this
def oQ:D->Bool|.dict _=>false|_=>true
theorem jz.nd{b k:Nat}{d:D}(h:jz b k d):oQ d=true:=by
 cases d<;>first|rfl|exact absurd rfl (h.noDict _)
def P9:D->Bool|.int _=>true|.bool _=>true|_=>false
def Qe:D->Bool|.bool _=>true|_=>false
def KP:D->Bool|.tuple _=>true|_=>false
theorem kI{d:D}(h:oQ d=true):uY (iQ d) "int"=some (P9 d):=by cases d<;>first|cases h;done|exact JA _ (by simp[iQ])
theorem kB{d:D}(h:oQ d=true):uY (iQ d) "bool"=some (Qe d):=by cases d<;>first|cases h;done|exact FO _ (by simp[iQ])
theorem kT{d:D}(h:oQ d=true):uY (iQ d) "tuple"=some (KP d):=by cases d<;>first|cases h;done|exact kit_tuple _ (by simp[iQ])
def whole(a b:Int):D->Bool|.int i=>decide (a<=i)&&decide (i<=b)|_=>false
theorem tQ{tgt:Env->D->Option Env}{te:Env->Option D}{ρ:Env}{h:D->D}:∀ {ds:List D},(∀d∈ds,∃ρ',tgt ρ d=some ρ'/\te ρ'=some (h d))->cQ tgt (fun _=>some true) te ρ ds=some (ds.map h)
 | [],_=>rfl
 | d::ds,hh=>by
  obtain⟨ρ',h1,h2⟩:=hh d zE
  have ih:=tQ (ds:=ds) fun y hy=>hh y (zC _ hy)
  unfold cQ
  rw[h1]
  simp[h2,ih]
theorem nA{tgt:Env->D->Option Env}{tt:Env->Option Bool}{te:Env->Option D}{ρ:Env}{p:D->Bool}{h:D->D}:∀ {ds:List D},(∀d∈ds,∃ρ',tgt ρ d=some ρ'/\tt ρ'=some (p d)/\(p d=true->te ρ'=some (h d)))->cQ tgt tt te ρ ds=some ((ds.filter p).map h)
 | [],_=>rfl
 | d::ds,hh=>by
  obtain⟨ρ',h1,h2,h3⟩:=hh d zE
  have ih:=nA (ds:=ds) fun y hy=>hh y (zC _ hy)
  unfold cQ
  rw[h1]
  simp only[zA,h2]
  cases hp:p d with
  | true=>rw[if_pos rfl,h3 hp];simp[ih,List.filter_cons,hp]
  | false=>simp[ih,List.filter_cons,hp]
theorem oU{p:D->Bool}:∀ds:List D,boolsOf (ds.map fun d=>.bool (p d))=some (ds.map p)
 | []=>rfl
 | d::ds=>by simp[boolsOf,oU ds]
theorem mH{p:D->Bool}(ds:List D):nB [.list (ds.map fun d=>.bool (p d))]=some (.bool (ds.all p)):=by
 simp only[nB,oneOf,zA,oU,zB,List.all_map]
 rfl
theorem bq{ds:List D}(h:ds.length<=4000):small ds=some ds:=if_pos (yE h (by decide))
theorem nj{ds:List D}{i:Nat}(h:i < ds.length):wc ds (i:Nat)=some (ds.getD i .none):=by
 have:=uM (xs:=ds) (j:=i) (v:=ds[i]) (zU.mpr ⟨h,rfl⟩)
 rw[this]
 simp[List.getD,h]
theorem CG{ds:List D}(h:0 < ds.length):wc ds 0=some (ds.getD 0 .none):=nj (i:=0) h
theorem zk{ds:List D}(h:1 < ds.length):wc ds 1=some (ds.getD 1 .none):=nj (i:=1) h
theorem KH{ds:List D}(h:2 < ds.length):wc ds 2=some (ds.getD 2 .none):=nj (i:=2) h
end Dl
namespace Wm
open PySem L2 Dl PySem.Spec PyProof.Rows Pg
theorem xE{fa fb fc:Dl.Env->Option D}{ρ:Dl.Env}{a i b:Int}(ha:fa ρ=some (.int a))(hb:fb ρ=some (.int i))(hc:fc ρ=some (.int b)):kN B7 B7 fa fb fc ρ=some (.bool (decide (a<=i)&&decide (i<=b))):=by
 simp only[kN,ha,hb,hc,zA,B7,wY,if_true]
 by_cases h:a<=i<;>simp[h]
theorem gM(i j:Int):Dl.iD (.int i) (.int j)=some (.int (i - j)):=rfl
theorem fv(i j:Int):Dl.aM (.int i) (.int j)=some (.int (i+j)):=rfl
theorem uZ(d:D):Slot.all (.val d)=some d:=rfl
theorem uH(ds:List D):Slot.all (.own ds)=some (.list ds):=rfl
theorem CA:Slot.all .non=none:=rfl
theorem B8(d:D):Slot.frz (.val d)=some d:=rfl
theorem Bx(ds:List D):Slot.frz (.own ds)=none:=rfl
theorem BQ:Slot.frz .non=none:=rfl
local macro_rules|`(tactic| simp! [$ts,*])=>`(tactic| simp only[aU,av,gQ,aF,gz,td,iZ,bR,fB,gB,KY,ab,fC,j6,Pd,LW,OF,f1,f2,gM,fv,aa,ae,ah,aZ,sr,bN,du,oneOf,g0,bp,uZ,uH,CA,B8,Bx,BQ,aP,cX,bI,aN,fE,au,  zI,List.map_nil,List.cons_append,List.nil_append,zL,List.length_nil,List.replicate,List.getElem?_cons_zero,List.getElem?_cons_succ,Option.getD_some,Option.getD_none,zA,Option.bind_none,zB,Option.map_none,Nat.reduceAdd,Nat.reduceSub,Nat.zero_add,Nat.sub_self,if_true,reduceIte,$ts,*])
theorem gJ{d:D}(h:oQ d=true)(a b:Int):aO [d,.int a,.int b]=some (.bool (whole a b d)):=by
 simp! [aO,l9,kI h,kB h]
 cases d<;>simp[P9,Qe,whole]
 rw[xE rfl rfl rfl]
theorem j7{d:D}(h:oQ d=true)(n:Int):bU [d,.int n]=some (.bool (whole 0 (n - 1) d)):=by
 simp! [bU,kU,gJ h]
def long(a b:Int):D->Bool|.tuple ds=>decide (a<=(ds.length:Int))&&decide ((ds.length:Int)<=b)|_=>false
theorem eS{d:D}(h:oQ d=true)(a b:Int):aW [d,.int a,.int b]=some (.bool (long a b d)):=by
 simp! [aW,nX,kT h]
 cases d<;>simp[KP,long]
 rw[xE rfl (i:=_) rfl rfl]
def jj:D->Int|.int i=>i|_=>0
theorem gD{a b:Int}{d:D}(h:whole a b d=true):d=.int (jj d)/\a<=jj d/\jj d<=b:=by
 cases d<;>simp[whole] at h
 exact⟨rfl,h⟩
theorem mv{a b:Int}:∀ {ls:List D},ls.all (whole a b)=true->ls=(ls.map jj).map PyData.int
 | [],_=>rfl
 | d::ls,h=>by
  rw[List.all_cons,zF] at h
  rw[zI,zI,<- (gD h.1).1,<- mv h.2]
def jx(n:Int):D->Bool|.tuple ls=>ls.all (whole 0 (n - 1))&&decide ((ls.map jj).Nodup)|_=>false
theorem dB(i j:Int):cq (.int i) (.int j)=some (.bool (decide (i=j))):=by
 simp[cq,MA,SeqAt.shaped,PyData.canLay0,PyData.depth,PyData.eqv]
 rfl
theorem FH(i j:Int):oC (.int i) (.int j)=some (.bool (!decide (i=j))):=by
 simp[oC,NJ,SeqAt.shaped,PyData.canLay0,PyData.depth,PyData.eqv]
 rfl
theorem Dt{ls:List D}{a b:Int}(h:ls.all (whole a b)=true)(hl:ls.length<=100):f2 cq (f1 lH (fun _=>some (.tuple ls))) (aZ bN (aa (fun _=>some (.tuple ls)) ae)) []=some (.bool (decide ((ls.map jj).Nodup))):=by
 have e:=mv h
 have e1:lH (.tuple ls)=some (.int (many (ls.map jj))):=by
  simp only[lH,jl]
  conv=>lhs;rw[e]
  rw[cG,zA,if_pos]
  rw[zD]
  exact Nat.lt_of_le_of_lt (Nat.add_le_add_right hl 1) (by decide)
 simp! [e1,dB]
 have:=zt (ls.map jj)
 rw[zD] at this
 simp only[<- this,Int.ofNat_inj,yM,PyData.bool.injEq]
theorem Oq(r:Dl.Env)(d:D):fG 0 (none::r) d=some (some d::r):=by simp[fG,isFree]
theorem cf{cs:List Nat}{fi:Dl.Env->Option (List D)}{ds:List D}{te:Dl.Env->Option D}{h:D->D}{ρ:Dl.Env}(hfi:fi ρ=some ds)(hl:ds.length<=4000)(hh:∀d∈ds,te (some d::cs.map fun j=>(ρ[j]?).getD none)=some (h d)):ak 1 cs fi (fG 0) (fun _=>some true) te ρ=some (ds.map h):=by
 simp only[ak,hfi,zA,eA,List.replicate,List.cons_append,List.nil_append]
 rw[tQ (h:=h) fun d hd=>⟨_,Oq _ d,hh d hd⟩,zA,bq (by rw[zD];exact hl)]
theorem nE{cs:List Nat}{fi:Dl.Env->Option (List D)}{ds:List D}{tt:Dl.Env->Option Bool}{te:Dl.Env->Option D}{p:D->Bool}{h:D->D}{ρ:Dl.Env}(hfi:fi ρ=some ds)(hl:ds.length<=4000)
  (hp:∀d∈ds,tt (some d::cs.map fun j=>(ρ[j]?).getD none)=some (p d)) (hh:∀d∈ds,p d=true->te (some d::cs.map fun j=>(ρ[j]?).getD none)=some (h d)):ak 1 cs fi (fG 0) tt te ρ=some ((ds.filter p).map h):=by
 simp only[ak,hfi,zA,eA,List.replicate,List.cons_append,List.nil_append]
 rw[nA (p:=p) (h:=h) fun d hd=>⟨_,Oq _ d,hp d hd,hh d hd⟩,zA,bq (by rw[zD];exact yE (List.length_filter_le _ _) hl)]
theorem yn{b k:Nat}{d:D}(h:jz b k d)(hb:b<=100)(n:Int):fx [d,.int n]=some (.bool (jx n d)):=by
 simp! [fx,kY,kT h.nd]
 cases d<;>try (simp[KP,jx];done)
 rename_i ls
 obtain⟨j,rfl,hl,hf⟩:=h.of_tup
 have c:=cf (cs:=[1]) (fi:=aP (ab 0)) (te:=(ah 2 bU (aa (ab 0) (aa (ab 1) ae)))) (h:=fun x=>.bool (whole 0 (n - 1) x)) (ρ:=[some (.tuple ls),some (.int n)]) rfl (by omega) fun x hx=>by simp! [j7 (hf x hx).nd]
 simp! [KP,Bool.not_true,Bool.false_eq_true,c,mH]
 cases e:ls.all (whole 0 (n - 1)) with
 | false=>simp[jx,e]
 | true =>
  have:=Dt e (yE hl hb)
  simp only[f2,f1,aZ,aa,ae,zA,zB] at this
  simp! [jx,e,Bool.not_true,Bool.false_eq_true,Bool.true_and]
  simp only[bN,du,oneOf,zA,g0,zB] at this
  simp! [this]
def placeOk(n:Int):D->Bool|.tuple ds=>decide (ds.length=2)&&(whole 0 9 (ds.getD 0 .none)&&jx n (ds.getD 1 .none))|_=>false
def jW(g t:Int):D->Bool|.tuple ds=>decide (ds.length=3)&&(whole 0 (g - 1) (ds.getD 0 .none)&&(whole 0 (t - 1) (ds.getD 1 .none)&&whole 1 9 (ds.getD 2 .none)))|_=>false
theorem vO(n:Nat)(ds:List D):long (n:Int) (n:Int) (.tuple ds)=decide (ds.length=n):=by
 simp only[long]
 by_cases h:ds.length=n
 ·simp[h]
 ·rw[yA h,Bool.and_eq_false_iff,decide_eq_false_iff_not,decide_eq_false_iff_not];omega
theorem getD_mem{ds:List D}{i:Nat}(h:i < ds.length):ds.getD i .none∈ds:=by simp[List.getD,h]
theorem yj{b k:Nat}{d:D}(h:jz b k d)(hb:b<=100)(n:Int):fy [d,.int n]=some (.bool (placeOk n d)):=by
 simp! [fy,rS,eS h.nd]
 cases d<;>try (simp[long,placeOk];done)
 rename_i ds
 obtain⟨j,rfl,hl,hf⟩:=h.of_tup
 rw[show long 2 2 (.tuple ds)=decide (ds.length=2) from vO 2 ds]
 by_cases e:ds.length=2
 ·have f0:=hf _ (getD_mem (i:=0) (by omega))
  have f1:=hf _ (getD_mem (i:=1) (by omega))
  simp! [e,decide_true,CG (show 0 < ds.length by omega),zk (show 1 < ds.length by omega),gJ f0.nd,yn f1 hb,placeOk]
  cases whole 0 9 (ds.getD 0 .none)<;>simp
 ·simp[e,placeOk]
theorem Hy{b k:Nat}{d:D}(h:jz b k d)(hb:b<=100)(g t:Int):ja [d,.int g,.int t]=some (.bool (jW g t d)):=by
 simp! [ja,qL,eS h.nd]
 cases d<;>try (simp[long,jW];done)
 rename_i ds
 obtain⟨j,rfl,hl,hf⟩:=h.of_tup
 rw[show long 3 3 (.tuple ds)=decide (ds.length=3) from vO 3 ds]
 by_cases e:ds.length=3
 ·have f0:=hf _ (getD_mem (i:=0) (by omega))
  have f1:=hf _ (getD_mem (i:=1) (by omega))
  have f2':=hf _ (getD_mem (i:=2) (by omega))
  simp! [e,decide_true,Bool.not_true,Bool.false_eq_true,CG (show 0 < ds.length by omega),zk (show 1 < ds.length by omega),KH (show 2 < ds.length by omega),gJ f2'.nd,j7 f0.nd,j7 f1.nd,jW]
  cases whole 0 (g - 1) (ds.getD 0 .none)<;>cases whole 0 (t - 1) (ds.getD 1 .none)<;>simp
 ·simp[e,jW]
def cR:D->List D|.tuple ds=>ds|_=>[]
def nN(d:D):Bool:=long 1 4 d
def jJ(g t w:D):Bool:=nN g&&(nN t&&((cR g).all (placeOk (cR t).length)&&((cR t).all (placeOk (cR g).length)&&(KP w&&(cR w).all (jW (cR g).length (cR t).length)))))
theorem kf{a b:Int}{d:D}(h:long a b d=true):d=.tuple (cR d):=by cases d<;>first|rfl|cases h
theorem oM{b k:Nat}{g t w:D}(hg:jz b k g)(ht:jz b k t)(hw:jz b k w)(hb:b<=100):fA [g,t,w]=some (.bool (jJ g t w)):=by
 simp! [fA,ku,eS hg.nd,eS ht.nd,kT hw.nd]
 unfold jJ nN
 cases e1:long 1 4 g with
 | false=>simp
 | true =>
  cases e2:long 1 4 t with
  | false=>simp
  | true =>
   obtain⟨gs,rfl⟩:∃gs,g=.tuple gs:=⟨_,kf e1⟩
   obtain⟨ts,rfl⟩:∃ts,t=.tuple ts:=⟨_,kf e2⟩
   obtain⟨j,rfl,hgl,hgf⟩:=hg.of_tup
   obtain⟨j',hj,htl,htf⟩:=ht.of_tup
   have c1:=cf (cs:=[1]) (fi:=aP (ab 0)) (te:=(ah 2 fy (aa (ab 0) (aa (aZ bN (aa (ab 1) ae)) ae)))) (h:=fun x=>.bool (placeOk ts.length x)) (ρ:=[some (.tuple gs),some (.tuple ts),some w]) rfl (by omega) fun x hx=>by simp! [yj (hgf x hx) hb]
   have c2:=cf (cs:=[0]) (fi:=aP (ab 1)) (te:=(ah 2 fy (aa (ab 0) (aa (aZ bN (aa (ab 1) ae)) ae)))) (h:=fun x=>.bool (placeOk gs.length x)) (ρ:=[some (.tuple gs),some (.tuple ts),some w]) rfl (by omega) fun x hx=>by simp! [yj (htf x hx) hb]
   simp! [Bool.not_true,Bool.false_eq_true,c1,mH,cR,Bool.true_and]
   cases e3:gs.all (placeOk ts.length) with
   | false=>simp
   | true =>
    simp! [Bool.not_true,Bool.false_eq_true,c2,mH,Bool.true_and]
    cases e4:ts.all (placeOk gs.length) with
    | false=>simp
    | true =>
     cases hT:KP w with
     | false=>simp! [Bool.not_true,Bool.false_eq_true,kT hw.nd,hT,Bool.false_and,Bool.and_false]
     | true =>
     obtain⟨ws,rfl⟩:∃ws,w=.tuple ws:=by cases w<;>first|exact⟨_,rfl⟩|cases hT
     obtain⟨j2,hj2,hwl,hwf⟩:=hw.of_tup
     have c3:=cf (cs:=[0,1]) (fi:=aP (ab 2)) (te:=(ah 3 ja (aa (ab 0) (aa (aZ bN (aa (ab 1) ae)) (aa (aZ bN (aa (ab 2) ae)) ae))))) (h:=fun x=>.bool (jW gs.length ts.length x)) (ρ:=[some (.tuple gs),some (.tuple ts),some (.tuple ws)]) rfl (by omega) fun x hx=>by simp! [Hy (hwf x hx) hb]
     simp! [Bool.not_true,Bool.false_eq_true,c3,mH,Bool.true_and,kT hw.nd,KP]
theorem ny:∀ (a b:List Int),PyData.eqvAll (a.map PyData.int) (b.map PyData.int)=decide (a=b)
 | [],[]=>by simp[PyData.eqvAll]
 | [],_::_=>by simp[PyData.eqvAll]
 | _::_,[]=>by simp[PyData.eqvAll]
 | i::a,j::b=>by
  rw[zI,zI,PyData.eqvAll,ny a b]
  by_cases h:i=j
  ·subst h;simp[PyData.eqv]
  ·simp[PyData.eqv,h]
theorem xa:∀ (a b:List (List Int)),PyData.eqvAll (a.map af) (b.map af)=decide (a=b)
 | [],[]=>by simp[PyData.eqvAll]
 | [],_::_=>by simp[PyData.eqvAll]
 | _::_,[]=>by simp[PyData.eqvAll]
 | x::a,y::b=>by
  rw[zI,zI,PyData.eqvAll,xa a b,af,af,PyData.eqv,ny]
  by_cases h:x=y
  ·subst h;simp
  ·simp[h]
theorem mE{b k:Nat}(i:Int):jz b k (.int i):=.leaf trivial
theorem Cb{b k:Nat}{r:List Int}(h:r.length<=b):jz b (k+1) (af r):=.tup (by rw[zD];exact h) fun x hx=>by
 obtain⟨i,_,rfl⟩:=zQ.mp hx
 exact mE i
theorem Fd{b k:Nat}{a:List (List Int)}(h:a.length<=b)(hr:∀r∈a,r.length<=b):jz b (k+2) (.list (a.map af)):=.lst (by rw[zD];exact h) fun x hx=>by
 obtain⟨r,hr',rfl⟩:=zQ.mp hx
 exact Cb (hr r hr')
theorem C4(a:List (List Int)):∃b,a.length<=b/\∀r∈a,r.length<=b:=by
 induction a with
 | nil=>exact⟨0,Nat.le_refl _,fun r h=>by cases h⟩
 | cons x a ih =>
  obtain⟨b,h1,h2⟩:=ih
  refine⟨b+1+x.length,by rw[zL];omega,fun r hr=>?_⟩
  rcases zR.mp hr with rfl|hr
  ·omega
  ·have:=h2 r hr;omega
theorem oW(a:List (List Int)):SeqAt.shaped (.list (a.map af))=true:=by
 obtain⟨b,h1,h2⟩:=C4 a
 exact (Fd (b:=b) (k:=0) h1 h2).shaped (by decide)
theorem C7(a b:List (List Int)):cq (.list (a.map af)) (.list (b.map af))=some (.bool (decide (a=b))):=by
 simp only[cq,MA,oW,and_self,if_true,PyData.eqv,xa,zB]
def jh(d:D):List Int:=(cR ((cR d).getD 1 .none)).map jj
theorem jn{n:Int}{d:D}(h:placeOk n d=true):∃a ds,d=.tuple ds/\ds.length=2/\ds.getD 0 .none=.int a/\0<=a/\a<=9/\ds.getD 1 .none=.tuple ((jh d).map PyData.int)/\(jh d).Nodup/\∀j∈jh d,0<=j/\j<=n - 1:=by
 cases d<;>simp only[placeOk] at h<;>try cases h
 rename_i ds
 simp only[zF,zJ] at h
 obtain⟨h1,h2,h3⟩:=h
 have e:jh (.tuple ds)=(cR (ds.getD 1 .none)).map jj:=rfl
 rw[e]
 generalize hl:ds.getD 1 .none=l at h3
 cases l<;>simp only[jx] at h3<;>try cases h3
 rename_i ls
 simp only[zF,zJ] at h3
 obtain⟨w1,w2,w3⟩:=gD h2
 refine⟨_,ds,rfl,h1,w1,w2,w3,?_,h3.2,fun j hj=>?_⟩
 ·rw[show cR (.tuple ls)=ls from rfl,<- mv h3.1];exact hl
 ·obtain⟨x,hx,rfl⟩:=zQ.mp hj
  exact (gD (List.all_eq_true.mp h3.1 x hx)).2
def mD(k:Nat):List D->List (List Int)|[]=>[]|p::ps=>(jh p).map (fun j=>[((k:Nat):Int),j])++mD (k+1) ps
theorem rh:∀ (n:Nat) {l:List Int},l.Nodup->(∀j∈l,0<=j/\j<=(n:Int) - 1)->l.length<=n:=by
 intro n l hn h
 have hs:l.map Int.toNat ⊆ List.range n:=fun x hx=>by
  obtain⟨j,hj,rfl⟩:=zQ.mp hx
  have:=h j hj
  exact zT.mpr (by omega)
 have hnd:(l.map Int.toNat).Nodup:=by
  refine List.pairwise_map.mpr (hn.imp_of_mem fun {x y} hx hy hne e=>hne ?_)
  have:=h x hx;have:=h y hy;omega
 have:=List.Nodup.length_le_of_subset hnd hs
 simpa using this
theorem vV{n:Nat}:∀ {ps:List D}{k:Nat},(∀p∈ps,placeOk n p=true)->(mD k ps).length<=ps.length * n
 | [],k,_=>Nat.zero_le _
 | p::ps,k,h=>by
  obtain⟨_,_,_,_,_,_,_,_,hn,hr⟩:=jn (h p zE)
  have h1:=rh n hn hr
  have h2:=vV (ps:=ps) (k:=k+1) fun q hq=>h q (zC _ hq)
  rw[mD,zN,zD,zL,Nat.succ_mul]
  omega
def pB:aj->Option Out:=vP 1 [2,3] (ak 1 [2] (aP (f2 au (ab 3) (fC (.int 1)))) (fG 0) (fun _=>some true) (aN (aa (ab 1) (aa (ab 0) ae))))
theorem Ar{n:Nat}{p x:D}{acc:List D}{k:Nat}(hp:placeOk n p=true)(hn:n<=100)(ha:acc.length<=1000):pB [.val x,.own acc,.val (.int (k:Nat)),.val p]=some (.nx [.val x,.own (acc++((jh p).map fun j=>af [((k:Nat):Int),j])),.val (.int (k:Nat)),.val p]):=by
 obtain⟨a,ds,rfl,hl,_,_,_,h1,hnd,hr⟩:=jn hp
 have hb:=rh n hnd hr
 generalize jh (.tuple ds)=ls at *
 have c:=cf (cs:=[2]) (fi:=aP (f2 au (ab 3) (fC (.int 1)))) (te:=aN (aa (ab 1) (aa (ab 0) ae))) (h:=fun y=>.tuple [.int (k:Nat),y]) (ρ:=[some x,none,some (.int (k:Nat)),some (.tuple ds)]) (ds:=ls.map PyData.int)
  (by simp! [zk (show 1 < ds.length by omega),h1]) (by rw[zD];omega) fun y hy=>by
   simp! [bq (show [PyData.int (k:Nat),y].length<=4000 by simp)]
 have hh:hand [2,3] 0 [Slot.val x,.own acc,.val (.int (k:Nat)),.val (.tuple ds)]=[Slot.val x,.own acc,.val (.int (k:Nat)),.val (.tuple ds)]:=rfl
 simp only[pB,vP,hh,cn,zI,List.map_nil,Slot.frz,c,zA,nL,List.getElem?_cons_succ,List.getElem?_cons_zero]
 rw[if_pos]
 ·simp only[zB,List.set_cons_succ,List.set_cons_zero,zM]
  rfl
 ·simp only[zD]
  exact yE (show acc.length+ls.length<=1100 by omega) (by decide)
theorem tL{n:Nat}{x:D}(hn:n<=100):∀ {ps:List D}{k:Nat}{acc:List D}{s2 s3:Slot},(∀p∈ps,placeOk n p=true)->acc.length+ps.length * n<=1000 ->
  ∃t2 t3,cO (hU 2 3) pB (bj k ps) [.val x,.own acc,s2,s3]=some (.nx [.val x,.own (acc++(mD k ps).map af),t2,t3])
 | [],k,acc,s2,s3,_,_=>⟨s2,s3,by simp[bj,cO,mD]⟩
 | p::ps,k,acc,s2,s3,h,hl=>by
  have hp:=h p zE
  obtain⟨_,_,_,_,_,_,_,_,hnd,hr⟩:=jn hp
  have hb:=rh n hnd hr
  rw[zL,Nat.succ_mul] at hl
  obtain⟨t2,t3,e⟩:=tL hn (x:=x) (ps:=ps) (k:=k+1) (acc:=acc++((jh p).map fun j=>af [((k:Nat):Int),j])) (s2:=.val (.int (k:Nat))) (s3:=.val p) (fun q hq=>h q (zC _ hq)) (by rw[zN,zD];omega)
  refine⟨t2,t3,?_⟩
  have hs:hU 2 3 [.val x,.own acc,s2,s3] (.tuple [.int (k:Nat),p])=some [.val x,.own acc,.val (.int (k:Nat)),.val p]:=rfl
  simp only[bj,cO,hs,zA,Ar hp hn (show acc.length<=1000 by omega)]
  rw[e]
  simp[mD,zM,Function.comp_def]
theorem CF{n:Nat}{ps:List D}(h:∀p∈ps,placeOk n p=true)(hn:n<=100)(hl:ps.length * n<=1000):bB [.tuple ps]=some (.list ((mD 0 ps).map af)):=by
 obtain⟨t2,t3,e⟩:=tL hn (x:=.tuple ps) (k:=0) (acc:=[]) (s2:=.non) (s3:=.non) h (by simpa using hl)
 have hs:aK 1 [] (fE ae) [Slot.val (.tuple ps),.non,.non,.non]=some (.nx [.val (.tuple ps),.own [],.non,.non]):=rfl
 have hh:hand [0] 0 [Slot.val (.tuple ps),.own [],.non,.non]=[Slot.val (.tuple ps),.own [],.non,.non]:=rfl
 have hf:bC (aa (ab 0) ae) (cn [Slot.val (.tuple ps),.own [],.non,.non])=some (bj 0 ps):=rfl
 simp! [bB,iJ,hs,dZ,hh,hf]
 rw[show vP 1 [2,3] (ak 1 [2] (aP (f2 au (ab 3) (fC (.int 1)))) (fG 0) (fun _=>some true) (aN (aa (ab 1) (aa (ab 0) ae))))=pB from rfl,e]
 simp! []
def fU(d:D):List Int:=[jj ((cR d).getD 0 .none),jj ((cR d).getD 1 .none)]
theorem AH{g t:Int}{d:D}(h:jW g t d=true):∃ds c,d=.tuple ds/\ds.length=3/\ds.getD 0 .none=.int (jj (ds.getD 0 .none))/\ds.getD 1 .none=.int (jj (ds.getD 1 .none))/\ds.getD 2 .none=.int c/\1<=c/\c<=9 /\
  0<=jj (ds.getD 0 .none)/\jj (ds.getD 0 .none)<=g - 1/\0<=jj (ds.getD 1 .none)/\jj (ds.getD 1 .none)<=t - 1:=by
 cases d<;>simp only[jW] at h<;>try cases h
 rename_i ds
 simp only[zF,zJ] at h
 obtain⟨h1,h2,h3,h4⟩:=h
 have a:=gD h2
 have b:=gD h3
 have c:=gD h4
 exact⟨ds,_,rfl,h1,a.1,b.1,c.1,c.2.1,c.2.2,a.2.1,a.2.2,b.2.1,b.2.2⟩
def Bg(g t w:D):Bool:=decide ((cR w).map fU=rT (mD 0 (cR g)))&&decide ((cR w).map fU=rT ((mD 0 (cR t)).map List.reverse))
def OZ(d:D):Bool:=long 3 3 d&&(jJ ((cR d).getD 0 .none) ((cR d).getD 1 .none) ((cR d).getD 2 .none)&&Bg ((cR d).getD 0 .none) ((cR d).getD 1 .none) ((cR d).getD 2 .none))
theorem ll:∀ {ps:List D}{k:Nat},∀r∈mD k ps,∃i j,r=[i,j]
 | [],k,r,h=>by cases h
 | p::ps,k,r,h=>by
  rcases List.mem_append.mp h with h|h
  ·obtain⟨j,_,rfl⟩:=zQ.mp h;exact⟨_,_,rfl⟩
  ·exact ll r h
theorem mR{a:List (List Int)}(h:∀r∈a,∃i j,r=[i,j])(hl:a.length < 64):hZ [.list (a.map af)]=some ((rT a).map af):=by
 have:∀ns∈a,ns≠[]:=fun ns hn=>by obtain⟨i,j,rfl⟩:=h ns hn;exact List.cons_ne_nil _ _
 simp only[hZ,oneOf,zA,me this,if_pos hl]
theorem tK:∀ {a:List (List Int)},(∀r∈a,∃i j,r=[i,j])->cQ (iz 0 1) (fun _=>some true) (aN (aa (ab 1) (aa (ab 0) ae))) [none,none] (a.map af)=some ((a.map List.reverse).map af)
 | [],_=>rfl
 | r::a,h=>by
  obtain⟨i,j,rfl⟩:=h r zE
  have ih:=tK (a:=a) fun q hq=>h q (zC _ hq)
  have e:iz 0 1 [none,none] (af [i,j])=some [some (.int i),some (.int j)]:=rfl
  rw[zI,cQ,e,zA,zA,if_pos rfl,ih]
  simp! [bq (show [PyData.int j,.int i].length<=4000 by simp)]
  rfl
theorem CZ{a:List (List Int)}{fi:Dl.Env->Option (List D)}{ρ:Dl.Env}(hfi:fi ρ=some (a.map af))(hl:a.length<=4000)(h:∀r∈a,∃i j,r=[i,j]):ak 2 [] fi (iz 0 1) (fun _=>some true) (aN (aa (ab 1) (aa (ab 0) ae))) ρ=some ((a.map List.reverse).map af):=by
 simp only[ak,hfi,zA,eA,List.replicate,List.cons_append,List.nil_append,List.map_nil]
 rw[tK h,zA,bq (by rw[zD,zD];exact hl)]
theorem xi{g t w:D}(h:jJ g t w=true):∃gs ts ws,g=.tuple gs/\t=.tuple ts/\w=.tuple ws/\1<=gs.length/\gs.length<=4/\1<=ts.length/\ts.length<=4/\(∀p∈gs,placeOk ts.length p=true)/\(∀p∈ts,placeOk gs.length p=true)/\∀x∈ws,jW gs.length ts.length x=true:=by
 simp only[jJ,nN,zF] at h
 obtain⟨h1,h2,h3,h4,h5,h6⟩:=h
 cases w<;>try cases h5
 rename_i ws
 have e1:=kf h1
 have e2:=kf h2
 generalize cR g=gs at *
 generalize cR t=ts at *
 subst e1 e2
 simp only[long,zF,zJ] at h1 h2
 exact⟨gs,ts,ws,rfl,rfl,rfl,by omega,by omega,by omega,by omega,List.all_eq_true.mp h3,List.all_eq_true.mp h4,List.all_eq_true.mp h6⟩
theorem Bb{b k:Nat}{d:D}(h:jz b k d)(hb:b<=100):cy [d]=some (.bool (OZ d)):=by
 unfold OZ
 cases e1:long 3 3 d with
 | false=>simp! [cy,gZ,eS h.nd,e1,Bool.not_false,Bool.false_and]
 | true =>
  obtain⟨ds,rfl⟩:∃ds,d=.tuple ds:=⟨_,kf e1⟩
  obtain⟨j,rfl,hl,hf⟩:=h.of_tup
  rw[show long 3 3 (.tuple ds)=decide (ds.length=3) from vO 3 ds,zJ] at e1
  have f0:=hf _ (getD_mem (i:=0) (by omega))
  have f1:=hf _ (getD_mem (i:=1) (by omega))
  have f2':=hf _ (getD_mem (i:=2) (by omega))
  have i0:=CG (show 0 < ds.length by omega)
  have i1:=zk (show 1 < ds.length by omega)
  have i2:=KH (show 2 < ds.length by omega)
  have el:aW [.tuple ds,.int 3,.int 3]=some (.bool true):=by rw[eS rfl,show long 3 3 (.tuple ds)=decide (ds.length=3) from vO 3 ds,yB e1]
  rw[show cR (.tuple ds)=ds from rfl,Bool.true_and]
  generalize hg:ds.getD 0 .none=g at *
  generalize ht:ds.getD 1 .none=t at *
  generalize hw:ds.getD 2 .none=w at *
  cases e2:jJ g t w with
  | false=>simp! [cy,gZ,el,i0,i1,i2,oM f0 f1 f2' hb,e2,Bool.not_false,Bool.not_true,Bool.false_and]
  | true =>
   obtain⟨gs,ts,ws,rfl,rfl,rfl,g1,g4,t1,t4,hG,hT,hW⟩:=xi e2
   have hfw:=f2'.of_tup
   obtain⟨j2,_,hwl,_⟩:=hfw
   have q1:=vV (k:=0) hG
   have q2:=vV (k:=0) hT
   have m1:gs.length * ts.length<=16:=Nat.mul_le_mul g4 t4
   have m2:ts.length * gs.length<=16:=Nat.mul_le_mul t4 g4
   have l1:=CF hG (by omega) (by omega)
   have l2:=CF hT (by omega) (by omega)
   have s1:=mR (a:=mD 0 gs) ll (by omega)
   have s2:=mR (a:=(mD 0 ts).map List.reverse) (fun r hr=>by
    obtain⟨q,hq,rfl⟩:=zQ.mp hr
    obtain⟨i,j,rfl⟩:=ll q hq
    exact⟨j,i,rfl⟩) (by rw[zD];omega)
   have c1:ak 1 [] (aP (f2 au (ab 0) (fC (.int 2)))) (fG 0) (fun _=>some true) (aN (aa (f2 au (ab 0) (fC (.int 0))) (aa (f2 au (ab 0) (fC (.int 1))) ae))) [some (.tuple ds),none,none,none]=some ((ws.map fU).map af):=by
    rw[cf (ds:=ws) (h:=fun x=>af (fU x)) (by simp! [i2]) (by omega) fun x hx=>?_,zM]
    ·rfl
    ·obtain⟨vs,c,rfl,v3,v0,v1,_⟩:=AH (hW x hx)
     simp! [CG (show 0 < vs.length by omega),zk (show 1 < vs.length by omega),bq (show [vs.getD 0 PyData.none,vs.getD 1 .none].length<=4000 by simp),af,fU,cR]
     rw[<- v0,<- v1]
   have c2:∀x y z,ak 2 [] (aP (ah 1 bB (aa (f2 au (ab 0) (fC (.int 1))) ae))) (iz 0 1) (fun _=>some true) (aN (aa (ab 1) (aa (ab 0) ae))) [some (.tuple ds),x,y,z]=some (((mD 0 ts).map List.reverse).map af):=fun x y z =>
    CZ (by simp! [i1,l2]) (by omega) ll
   have st1:aK 1 [0] (ak 1 [] (aP (f2 au (ab 0) (fC (.int 2)))) (fG 0) (fun _=>some true) (aN (aa (f2 au (ab 0) (fC (.int 0))) (aa (f2 au (ab 0) (fC (.int 1))) ae)))) [Slot.val (.tuple ds),.non,.non,.non]=some (.nx [.val (.tuple ds),.own ((ws.map fU).map af),.non,.non]):=by
    have hh:hand [0] 0 [Slot.val (.tuple ds),.non,.non,.non]=[Slot.val (.tuple ds),.non,.non,.non]:=rfl
    simp only[aK,hh,cn,zI,List.map_nil,Slot.frz,c1,zB,List.set_cons_succ,List.set_cons_zero]
   have st2:aK 2 [0] (sr hZ (aa (ah 1 bB (aa (f2 au (ab 0) (fC (.int 0))) ae)) ae)) [Slot.val (.tuple ds),.own ((ws.map fU).map af),.non,.non]=some (.nx [.val (.tuple ds),.own ((ws.map fU).map af),.own ((rT (mD 0 gs)).map af),.non]):=by
    have hh:hand [0] 0 [Slot.val (.tuple ds),.own ((ws.map fU).map af),.non,.non]=[Slot.val (.tuple ds),.own ((ws.map fU).map af),.non,.non]:=rfl
    simp only[aK,hh,cn,zI,List.map_nil,Slot.frz]
    simp! [i0,l1,s1,List.set_cons_succ,List.set_cons_zero]
   have st3:aK 3 [0] (sr hZ (aa (cX (ak 2 [] (aP (ah 1 bB (aa (f2 au (ab 0) (fC (.int 1))) ae))) (iz 0 1) (fun _=>some true) (aN (aa (ab 1) (aa (ab 0) ae))))) ae)) [Slot.val (.tuple ds),.own ((ws.map fU).map af),.own ((rT (mD 0 gs)).map af),.non]
      =some (.nx [.val (.tuple ds),.own ((ws.map fU).map af),.own ((rT (mD 0 gs)).map af),.own ((rT ((mD 0 ts).map List.reverse)).map af)]):=by
    have hh:hand [0] 0 [Slot.val (.tuple ds),.own ((ws.map fU).map af),.own ((rT (mD 0 gs)).map af),.non]=[Slot.val (.tuple ds),.own ((ws.map fU).map af),.own ((rT (mD 0 gs)).map af),.non]:=rfl
    simp only[aK,hh,cn,zI,List.map_nil,Slot.frz]
    simp! [c2,s2,List.set_cons_succ,List.set_cons_zero]
   simp! [cy,gZ,el,i0,i1,i2,oM f0 f1 f2' hb,e2,Bool.not_true,Bool.false_eq_true,st1,st2,st3,C7,Bg,cR,Bool.true_and]
   by_cases hq:List.map fU ws=rT (mD 0 gs)<;>simp[hq]
theorem Ai(xs:List D):PyData.eqvAll xs []=xs.isEmpty:=by cases xs<;>simp[PyData.eqvAll]
theorem Bh:SeqAt.shaped (.list [])=true:=by simp[SeqAt.shaped,PyData.canLay0,PyData.canLayAll0,PyData.depth,PyData.depthAll]
theorem GR{b k:Nat}{xs:List D}(h:∀x∈xs,jz b k x)(hk:k<=60):cq (.list xs) (.list [])=some (.bool xs.isEmpty):=by
 have hs:SeqAt.shaped (.list xs)=true:=(jz.lst (b:=max b xs.length) (k:=k) (Nat.le_max_right _ _) fun x hx=>(h x hx).mono (Nat.le_max_left _ _) (Nat.le_refl _)).shaped (by omega)
 simp only[cq,MA,hs,Bh,and_self,if_true,PyData.eqv,Ai,zB]
theorem jd:small []=some []:=rfl
theorem FW{α:Type}(xs:List α)(k:Nat):cut xs none (some (k:Int))=xs.take k:=by
 simp only[cut,HT.xD,HT.Bt,List.drop_zero,Nat.sub_zero]
 rw[List.take_eq_take_iff];omega
theorem yZ{α:Type}(xs:List α)(k:Nat):cut xs (some (k:Int)) none=xs.drop k:=by
 simp only[cut,HT.xD,HT.Bt]
 rw[List.take_of_length_le (by rw[List.length_drop];omega)]
 by_cases h:k<=xs.length
 ·rw[Nat.min_eq_left h]
 ·rw[Nat.min_eq_right (by omega),List.drop_of_length_le (Nat.le_refl _),List.drop_of_length_le (by omega)]
theorem iu(b:Bool):gB (.bool b)=some b:=rfl
theorem IG(a b:List Int):PyData.eqv (af a) (af b)=decide (a=b):=by rw[af,af,PyData.eqv,ny]
theorem J8(P:List (List Int))(a:List Int):((P.map af).any fun z=>PyData.eqv z (af a))=decide (a∈P):=by
 rw[List.any_map]
 induction P with
 | nil=>simp
 | cons r P ih =>
  rw[List.any_cons,ih,Function.comp_apply,IG]
  by_cases h:r=a
  ·subst h;simp
  ·simp[h,Ne.symm h]
def Qr(P:List (List Int))(i j:Int)(lp lq:List Int):Bool:=decide ([i,j]∈P) == decide (j∈lp)&&decide ([i,j]∈P) == decide (i∈lq)
def Qb(P:List (List Int))(i:Int)(lp:List Int):Nat->List D->Bool|_,[]=>true|k,q::qs=>Qr P i k lp (jh q)&&Qb P i lp (k+1) qs
def P5(P:List (List Int))(ts:List D):Nat->List D->Bool|_,[]=>true|k,p::ps=>Qb P k (jh p) 0 ts&&P5 P ts (k+1) ps
theorem AD(a b:D):small [a,b]=some [a,b]:=rfl
theorem L5(ρ:Dl.Env):bc (aa (fC (.int 2)) ae) ρ=some [.int 0,.int 1]:=by
 have:CS 2=true:=by decide
 simp! [bc,kr,this]
 rfl
theorem mU:∀ (ρ:aj) (k:Nat),hand [] k ρ=ρ
 | [],k=>rfl
 | s::r,k=>by simp[hand,mU r]
theorem pP:∀ {ps:List D}{k:Nat}{i j:Int},[i,j]∈mD k ps↔∃m p,ps[m]?=some p/\i=((k+m:Nat):Int)/\j∈jh p
 | [],k,i,j=>by simp[mD]
 | p::ps,k,i,j=>by
  rw[mD,List.mem_append,pP (ps:=ps)]
  constructor
  ·rintro (h|⟨m,q,h1,h2,h3⟩)
   ·obtain⟨y,hy,e⟩:=zQ.mp h
    injection e with e1 e2
    injection e2 with e2 _
    exact⟨0,p,rfl,by simpa using e1.symm,e2 ▸ hy⟩
   ·exact⟨m+1,q,by simpa using h1,by rw[h2];congr 1;omega,h3⟩
  ·rintro⟨m,q,h1,h2,h3⟩
   cases m with
   | zero =>
    simp at h1
    subst h1
    exact .inl (zQ.mpr ⟨j,h3,by rw[h2];rfl⟩)
   | succ m=>exact .inr ⟨m,q,by simpa using h1,by rw[h2];congr 1;omega,h3⟩
theorem tI:∀ {ps:List D}{k:Nat},(∀p∈ps,(jh p).Nodup)->(mD k ps).Nodup
 | [],k,_=>List.nodup_nil
 | p::ps,k,h=>by
  rw[mD,List.nodup_append]
  refine⟨List.pairwise_map.mpr ((h p zE).imp fun hne e=>hne ?_),tI fun q hq=>h q (zC _ hq),?_⟩
  rotate_left
  ·injection e with _ e2
   injection e2
  ·rintro a ha b hb rfl
   obtain⟨y,hy,rfl⟩:=zQ.mp ha
   obtain⟨m,q,h1,h2,h3⟩:=pP.mp hb
   omega
theorem OA{a b:List Int}(h:Dl.lexLt a b=true):lexLe a b=true:=by
 unfold lexLe
 cases e:Dl.lexLt b a with
 | false=>rfl
 | true=>have:=dR h e;rw[dN] at this;cases this
theorem da{i j:Int}(h:vx i j):Dl.eK (.int i) (.int j)=some (.int (i * j)):=by
 simp only[Dl.eK,wY,if_pos h,Option.some_or]
theorem i6{i j:Int}(h:0 < j):Dl.lJ (.int i) (.int j)=some (.int (i % j)):=if_pos h
theorem ka{i j:Int}(h:0 < j/\j < 1073741824):Dl.mY (.int i) (.int j)=some (.int (i / j)):=if_pos h
theorem ig(i j:Int):Dl.Er (.int i) (.int j)=some (.bool (decide (j < i))):=rfl
theorem hV(i j:Int):Dl.wX (.int i) (.int j)=some (.bool (decide (i < j))):=rfl
theorem l7{i j:Int}(h:-(2 ^ 64) < i/\i < 2 ^ 64):vx i j:=.inl h
theorem M5{i j:Int}(h:-(2 ^ 64) < j/\j < 2 ^ 64):vx i j:=.inr h
theorem yp(i:Int):Dl.qF (.int i)=true:=rfl
theorem yv(i:List D):Dl.qF (.tuple i)=false:=rfl
def dU(ns:List Int):D:=.list (ns.map PyData.int)
theorem Nb{ns:List Int}(k:Int)(hl:ns.length<=63):∃c,dW [dU ns,.int k]=some (.int c):=by
 have heq:cq (.list (ns.map PyData.int)) (.list [])=some (.bool ns.isEmpty):=by
  have:=GR (b:=0) (k:=0) (xs:=ns.map PyData.int) (fun x hx=>by obtain⟨i,_,rfl⟩:=zQ.mp hx;exact mE i) (by decide)
  rw[this];cases ns<;>rfl
 by_cases hn:ns=[]
 ·subst hn
  refine⟨7 * k,?_⟩
  rw[List.map_nil,List.isEmpty_nil] at heq
  simp! [dW,iy,dU,jd,heq,List.isEmpty_nil,da (l7 (i:=7) (j:=k) (by decide))]
 ·have hpos:(0:Int) < (ns.length:Int):=by have:=List.length_pos_iff.mpr hn;omega
  have he:ns.isEmpty=false:=by cases ns<;>first|rfl|exact absurd rfl hn
  obtain⟨j,hj⟩:=Int.eq_ofNat_of_zero_le (Int.emod_nonneg k (show (ns.length:Int)≠0 by omega))
  have hlt:=Int.emod_lt_of_pos k hpos
  have hx:wc (ns.map PyData.int) (k % (ns.length:Int))=some (.int (ns.getD j 0)):=by
   rw[hj]
   have:j < (ns.map PyData.int).length:=by rw[zD];omega
   rw[nj this,zG,zO,zG]
   rw[zK (by omega)]
   rfl
  refine⟨ns.getD j 0+6553 * (k / (ns.length:Int)),?_⟩
  simp! [dW,iy,dU,jd,heq,he,Bool.false_eq_true,zD,i6 hpos,hx,ka (i:=k) (j:=(ns.length:Int)) ⟨hpos,by omega⟩,da (l7 (i:=6553) (j:=k / (ns.length:Int)) (by decide))]
theorem Ju{ns:List Int}(k many:Int)(hl:ns.length<=63)(hm:0 < many):∃r,ar [dU ns,.int k,.int many]=some (.int r)/\0<=r/\r < many:=by
 obtain⟨c,hc⟩:=Nb k hl
 have m1:∀i:Int,Dl.lJ (.int i) (.int 2147483563)=some (.int (i % 2147483563)):=fun i=>i6 (by decide)
 have m2:∀i:Int,Dl.lJ (.int i) (.int 2147483399)=some (.int (i % 2147483399)):=fun i=>i6 (by decide)
 have m3:∀i:Int,Dl.lJ (.int i) (.int 2147483647)=some (.int (i % 2147483647)):=fun i=>i6 (by decide)
 have d1:∀i:Int,Dl.mY (.int i) (.int 3)=some (.int (i / 3)):=fun i=>ka (by decide)
 have d2:∀i:Int,Dl.mY (.int i) (.int 7)=some (.int (i / 7)):=fun i=>ka (by decide)
 have d3:∀i:Int,Dl.mY (.int i) (.int 11)=some (.int (i / 11)):=fun i=>ka (by decide)
 have u1:∀i:Int,Dl.eK (.int i) (.int 69069)=some (.int (i * 69069)):=fun i=>da (M5 (by decide))
 have u2:∀i:Int,Dl.eK (.int 104723) (.int i)=some (.int (104723 * i)):=fun i=>da (l7 (by decide))
 have b1:∀x:Int,Dl.eK (.int (x % 2147483563)) (.int (x % 2147483563))=some (.int (x % 2147483563 * (x % 2147483563))):=fun x=>da (l7 (by
  have:=Int.emod_nonneg x (show (2147483563:Int)≠0 by decide)
  have:=Int.emod_lt_of_pos x (show (0:Int) < 2147483563 by decide)
  omega))
 have b2:∀x:Int,Dl.eK (.int (x % 2147483399)) (.int (x % 2147483399))=some (.int (x % 2147483399 * (x % 2147483399))):=fun x=>da (l7 (by
  have:=Int.emod_nonneg x (show (2147483399:Int)≠0 by decide)
  have:=Int.emod_lt_of_pos x (show (0:Int) < 2147483399 by decide)
  omega))
 suffices h:∃x,ar [dU ns,.int k,.int many]=some (.int (x % many)) by
  obtain⟨x,hx⟩:=h
  exact⟨_,hx,Int.emod_nonneg x (show many≠0 by omega),Int.emod_lt_of_pos x hm⟩
 ·refine⟨(((((c % 2147483563 * 69069+104723 * (k+1)) % 2147483563) * ((c % 2147483563 * 69069+104723 * (k+1)) % 2147483563)+((c % 2147483563 * 69069+104723 * (k+1)) % 2147483563) / 3) % 2147483399) * ((((c % 2147483563 * 69069+104723 * (k+1)) % 2147483563) * ((c % 2147483563 * 69069+104723 * (k+1)) % 2147483563)+((c % 2147483563 * 69069+104723 * (k+1)) % 2147483563) / 3) % 2147483399)+((((c % 2147483563 * 69069+104723 * (k+1)) % 2147483563) * ((c % 2147483563 * 69069+104723 * (k+1)) % 2147483563)+((c % 2147483563 * 69069+104723 * (k+1)) % 2147483563) / 3) % 2147483399) / 7) % 2147483647 / 11,?_⟩
  simp! [ar,jt,hc,m1,u1,u2,Dl.az,yp,List.set_cons_succ,List.set_cons_zero,b1,d1,m2,b2,d2,m3,d3,i6 (j:=many) hm]
def dr(ns:List Int)(k many:Int):Int:=jj ((ar [dU ns,.int k,.int many]).getD .none)
theorem gK{ns:List Int}(k many:Int)(hl:ns.length<=63)(hm:0 < many):ar [dU ns,.int k,.int many]=some (.int (dr ns k many))/\0<=dr ns k many/\dr ns k many < many:=by
 obtain⟨r,h1,h2⟩:=Ju k many hl hm
 have:dr ns k many=r:=by simp only[dr,h1,Option.getD_some,jj]
 rw[this];exact⟨h1,h2⟩
theorem yY{ns:List Int}(k many:Int)(hl:ns.length<=63)(hm:0 < many):ar [dU ns,.int k,.int many]=some (.int (dr ns k many)):=(gK k many hl hm).1
theorem NM{ns:List Int}(k many:Int)(hl:ns.length<=63)(hm:0 < many):0<=dr ns k many:=(gK k many hl hm).2.1
theorem NK{ns:List Int}(k many:Int)(hl:ns.length<=63)(hm:0 < many):dr ns k many < many:=(gK k many hl hm).2.2
def cm(r:List Int):D:=.list (r.map PyData.int)
def insI(ds:List Int)(k:Int)(d:Int):List Int:=let j:=if k < 0 then (k+(ds.length:Int)).toNat else min k.toNat ds.length;ds.take j++d::ds.drop j
theorem D5(ds:List Int)(k d:Int):Br (ds.map PyData.int) k (.int d)=(insI ds k d).map PyData.int:=by
 simp only[Br,insI,zD,List.map_append,zI,List.map_take,List.map_drop]
theorem insI_perm(ds:List Int)(k d:Int):(insI ds k d).Perm (d::ds):=by
 simp only[insI]
 refine List.perm_middle.trans ?_
 rw[List.take_append_drop]
def oB:aj->Option Out:=(EY 6 [8] (ah 3 ar (aa (ab 0) (aa (f2 aM (f2 aM (ab 1) (f2 eK (fC (.int 4)) (ab 4))) (ab 7)) (aa (f2 aM (aZ bN (aa (ab 6) ae)) (fC (.int 1))) ae)))) (ab 8))
theorem Lv{ns order:List Int}{a k j x:Int}{s2 s3 s5:Slot}(hl:ns.length<=63)(ho:order.length<=1000) :
  oB [.val (dU ns),.val (.int a),s2,s3,.val (.int k),s5,.own (order.map PyData.int),.val (.int j),.val (.int x)] =
   some (.nx [.val (dU ns),.val (.int a),s2,s3,.val (.int k),s5,.own ((insI order (dr ns (a+4 * k+j) ((order.length:Int)+1)) x).map PyData.int),.val (.int j),.val (.int x)]):=by
 have h4:Dl.eK (.int 4) (.int k)=some (.int (4 * k)):=da (l7 (by decide))
 have hd:=gK (ns:=ns) (a+4 * k+j) ((order.length:Int)+1) hl (by omega)
 have hr:CS (dr ns (a+4 * k+j) ((order.length:Int)+1))=true:=by
  simp only[CS,zF,zJ]
  omega
 have hz:(order.map PyData.int).length < sizeLine:=by rw[zD];exact Nat.lt_of_le_of_lt ho (by decide)
 simp! [oB,EY,lS,yp,nL,zD,h4,hd.1]
 rw[zD] at hz
 simp only[hr,hz,and_self,if_true,zB,D5,List.set_cons_succ,List.set_cons_zero]
theorem Gp{ns:List Int}{a k:Int}{s2 s3 s5:Slot}(hl:ns.length<=63):∀ {row order:List Int}{j:Nat}{s7 s8:Slot},order.length+row.length<=1000 ->
  ∃ (o:List Int) (t7 t8:Slot),cO (hU 7 8) oB (bj j (row.map PyData.int)) [.val (dU ns),.val (.int a),s2,s3,.val (.int k),s5,.own (order.map PyData.int),s7,s8] =
   some (.nx [.val (dU ns),.val (.int a),s2,s3,.val (.int k),s5,.own (o.map PyData.int),t7,t8])/\o.Perm (row++order)
 | [],order,j,s7,s8,_=>⟨order,s7,s8,by simp[bj,cO],by simp⟩
 | x::row,order,j,s7,s8,h=>by
  rw[zL] at h
  have hp:=insI_perm order (dr ns (a+4 * k+((j:Nat):Int)) ((order.length:Int)+1)) x
  have hlen:=hp.length_eq
  rw[zL] at hlen
  obtain⟨o,t7,t8,e,p⟩:=Gp (s2:=s2) (s3:=s3) (s5:=s5) (a:=a) (k:=k) hl (row:=row) (order:=insI order (dr ns (a+4 * k+((j:Nat):Int)) ((order.length:Int)+1)) x) (j:=j+1) (s7:=.val (.int (j:Nat))) (s8:=.val (.int x)) (by omega)
  refine⟨o,t7,t8,?_,p.trans ?_⟩
  ·have hs:hU 7 8 [.val (dU ns),.val (.int a),s2,s3,.val (.int k),s5,.own (order.map PyData.int),s7,s8] (.tuple [.int (j:Nat),.int x])=some [.val (dU ns),.val (.int a),s2,s3,.val (.int k),s5,.own (order.map PyData.int),.val (.int (j:Nat)),.val (.int x)]:=rfl
   simp only[zI,bj,cO,hs,zA,Lv hl (show order.length<=1000 by omega),e]
  ·refine (hp.append_left row).trans ?_
   rw[List.cons_append]
   exact List.perm_middle
def qg:List (List Int)->List (List Int)->Prop|[],[]=>True|a::l,b::m=>a.Perm b/\qg l m|_,_=>False
def rB:aj->Option Out:=(av (aK 6 [] (fE ae)) (av (dZ [5] (bC (aa (ab 5) ae)) (hU 7 8) oB) (md 3 [6] (aZ bI (aa (ab 6) ae)))))
theorem LR{ns row:List Int}{a k:Int}{rows:D}{found:List D}{s6 s7 s8:Slot}(hl:ns.length<=63)(hr:row.length<=1000)(hf:found.length<=1000) :
  ∃ (o:List Int) (t7 t8:Slot),rB [.val (dU ns),.val (.int a),.val rows,.own found,.val (.int k),.val (cm row),s6,s7,s8]=some (.nx [.val (dU ns),.val (.int a),.val rows,.own (found++[af o]),.val (.int k),.val (cm row),.val (cm o),t7,t8])/\o.Perm row:=by
 obtain⟨o,t7,t8,e,p⟩:=Gp (s2:=.val rows) (s3:=.own found) (s5:=.val (cm row)) (a:=a) (k:=k) hl (row:=row) (order:=[]) (j:=0) (s7:=s7) (s8:=s8) (by simpa using hr)
 rw[List.append_nil] at p
 refine⟨o,t7,t8,?_,p⟩
 have h1:aK 6 [] (fE ae) [.val (dU ns),.val (.int a),.val rows,.own found,.val (.int k),.val (cm row),s6,s7,s8]=some (.nx [.val (dU ns),.val (.int a),.val rows,.own found,.val (.int k),.val (cm row),.own [],s7,s8]):=by
  simp only[aK,mU,fE,ae,zA,jd,zB,List.set_cons_succ,List.set_cons_zero]
 have h2:dZ [5] (bC (aa (ab 5) ae)) (hU 7 8) oB [.val (dU ns),.val (.int a),.val rows,.own found,.val (.int k),.val (cm row),.own [],s7,s8]=some (.nx [.val (dU ns),.val (.int a),.val rows,.own found,.val (.int k),.val (cm row),.own (o.map PyData.int),t7,t8]):=by
  have hh:hand [5] 0 [Slot.val (dU ns),.val (.int a),.val rows,.own found,.val (.int k),.val (cm row),.own [],s7,s8]=[Slot.val (dU ns),.val (.int a),.val rows,.own found,.val (.int k),.val (cm row),.own [],s7,s8]:=rfl
  have hq:bC (aa (ab 5) ae) (cn [Slot.val (dU ns),.val (.int a),.val rows,.own found,.val (.int k),.val (cm row),.own [],s7,s8])=some (bj 0 (row.map PyData.int)):=by
   simp only[cn,zI,List.map_nil]
   simp! [bC,cm]
  simp only[dZ,hh,hq,zA]
  exact e
 have h3:md 3 [6] (aZ bI (aa (ab 6) ae)) [.val (dU ns),.val (.int a),.val rows,.own found,.val (.int k),.val (cm row),.own (o.map PyData.int),t7,t8]=some (.nx [.val (dU ns),.val (.int a),.val rows,.own (found++[af o]),.val (.int k),.val (cm row),.val (cm o),t7,t8]):=by
  have hz:found.length < sizeLine:=Nat.lt_of_le_of_lt hf (by decide)
  have hh:hand [6] 0 [Slot.val (dU ns),.val (.int a),.val rows,.own found,.val (.int k),.val (cm row),.own (o.map PyData.int),t7,t8]=[Slot.val (dU ns),.val (.int a),.val rows,.own found,.val (.int k),.val (cm row),.val (cm o),t7,t8]:=rfl
  simp only[md,lS,hh,cn,zI,List.map_nil]
  simp! [yv,Bool.false_eq_true,nL,hz,List.set_cons_succ,List.set_cons_zero,cm,af]
 simp only[rB,av,h1,h2,h3,zA]
theorem ET{ns:List Int}{a:Int}{rws:D}(hl:ns.length<=63):∀ {rows:List (List Int)}{found:List D}{k:Nat}{s4 s5 s6 s7 s8:Slot},(∀r∈rows,r.length<=1000)->found.length+rows.length<=1000 ->
  ∃ (os:List (List Int)) (t4 t5 t6 t7 t8:Slot),cO (hU 4 5) rB (bj k (rows.map cm)) [.val (dU ns),.val (.int a),.val rws,.own found,s4,s5,s6,s7,s8]=some (.nx [.val (dU ns),.val (.int a),.val rws,.own (found++os.map af),t4,t5,t6,t7,t8])/\qg os rows
 | [],found,k,s4,s5,s6,s7,s8,_,_=>⟨[],s4,s5,s6,s7,s8,by simp[bj,cO],trivial⟩
 | r::rows,found,k,s4,s5,s6,s7,s8,h,hf=>by
  rw[zL] at hf
  obtain⟨o,u7,u8,e1,p1⟩:=LR (rows:=rws) (a:=a) (k:=((k:Nat):Int)) (s6:=s6) (s7:=s7) (s8:=s8) hl (h r zE) (show found.length<=1000 by omega)
  obtain⟨os,t4,t5,t6,t7,t8,e,p⟩:=ET hl (rws:=rws) (a:=a) (rows:=rows) (found:=found++[af o]) (k:=k+1) (s4:=.val (.int (k:Nat))) (s5:=.val (cm r)) (s6:=.val (cm o)) (s7:=u7) (s8:=u8) (fun r' hr'=>h r' (zC _ hr')) (by rw[zN,List.length_singleton];omega)
  refine⟨o::os,t4,t5,t6,t7,t8,?_,p1,p⟩
  have hs:hU 4 5 [.val (dU ns),.val (.int a),.val rws,.own found,s4,s5,s6,s7,s8] (.tuple [.int (k:Nat),cm r])=some [.val (dU ns),.val (.int a),.val rws,.own found,.val (.int (k:Nat)),.val (cm r),s6,s7,s8]:=rfl
  simp only[zI,bj,cO,hs,zA,e1]
  rw[e,List.append_assoc]
  rfl
theorem xO{ns:List Int}{a:Int}{rows:List (List Int)}(hl:ns.length<=63)(hr:∀r∈rows,r.length<=1000)(hn:rows.length<=1000):∃os:List (List Int),bL [dU ns,.int a,.list (rows.map cm)]=some (.list (os.map af))/\qg os rows:=by
 obtain⟨os,t4,t5,t6,t7,t8,e,p⟩:=ET hl (rws:=.list (rows.map cm)) (a:=a) (rows:=rows) (found:=[]) (k:=0) (s4:=.non) (s5:=.non) (s6:=.non) (s7:=.non) (s8:=.non) hr (by simpa using hn)
 refine⟨os,?_,p⟩
 rw[List.nil_append] at e
 have h1:aK 3 [] (fE ae) [.val (dU ns),.val (.int a),.val (.list (rows.map cm)),.non,.non,.non,.non,.non,.non]=some (.nx [.val (dU ns),.val (.int a),.val (.list (rows.map cm)),.own [],.non,.non,.non,.non,.non]):=by
  simp only[aK,mU,fE,ae,zA,jd,zB,List.set_cons_succ,List.set_cons_zero]
 have h2:dZ [2] (bC (aa (ab 2) ae)) (hU 4 5) rB [.val (dU ns),.val (.int a),.val (.list (rows.map cm)),.own [],.non,.non,.non,.non,.non]=some (.nx [.val (dU ns),.val (.int a),.val (.list (rows.map cm)),.own (os.map af),t4,t5,t6,t7,t8]):=by
  have hh:hand [2] 0 [Slot.val (dU ns),.val (.int a),.val (.list (rows.map cm)),.own [],.non,.non,.non,.non,.non]=[Slot.val (dU ns),.val (.int a),.val (.list (rows.map cm)),.own [],.non,.non,.non,.non,.non]:=rfl
  have hq:bC (aa (ab 2) ae) (cn [Slot.val (dU ns),.val (.int a),.val (.list (rows.map cm)),.own [],.non,.non,.non,.non,.non])=some (bj 0 (rows.map cm)):=by
   simp only[cn,zI,List.map_nil]
   simp! [bC]
  simp only[dZ,hh,hq,zA]
  exact e
 unfold rB oB at h2
 simp! [bL,iL,h1,h2]
abbrev Pl:=Int×List Int
abbrev Wy:=Int×Int×Int
def bK(p:Pl):D:=.tuple [.int p.1,af p.2]
def ao(w:Wy):D:=.tuple [.int w.1,.int w.2.1,.int w.2.2]
def ax(G T:List Pl)(W:List Wy):D:=.tuple [.tuple (G.map bK),.tuple (T.map bK),.tuple (W.map ao)]
def Ct(W:List Wy)(i:Int):List Int:=(W.filter fun w=>decide (w.1=i)).map fun w=>w.2.1
def ofT(W:List Wy)(j:Int):List Int:=(W.filter fun w=>decide (w.2.1=j)).map fun w=>w.1
abbrev uz(W:List Wy):Prop:=W.Pairwise fun a b=>a.1 < b.1\/(a.1=b.1/\a.2.1 < b.2.1)
structure Wd(G T:List Pl)(W:List Wy):Prop where
 g1:1<=G.length
 g4:G.length<=4
 t1:1<=T.length
 t4:T.length<=4
 ga:∀p∈G,0<=p.1/\p.1<=9
 ta:∀p∈T,0<=p.1/\p.1<=9
 gl:∀ (i:Nat) (p:Pl),G[i]?=some p->p.2.Perm (Ct W i)
 tl:∀ (j:Nat) (p:Pl),T[j]?=some p->p.2.Perm (ofT W j)
 wr:∀w∈W,(0<=w.1/\w.1 < G.length)/\(0<=w.2.1/\w.2.1 < T.length)/\1<=w.2.2/\w.2.2<=9
 wp:uz W
 wl:W.length<=16
theorem vD{W:List Wy}{i j:Int}:j∈Ct W i↔[i,j]∈W.map fun w=>[w.1,w.2.1]:=by
 simp only[Ct,zQ,List.mem_filter,zJ,List.cons.injEq,and_true]
 constructor
 ·rintro⟨w,⟨h1,h2⟩,h3⟩;exact⟨w,h1,h2,h3⟩
 ·rintro⟨w,h1,h2,h3⟩;exact⟨w,⟨h1,h2⟩,h3⟩
theorem vL{W:List Wy}{i j:Int}:i∈ofT W j↔[i,j]∈W.map fun w=>[w.1,w.2.1]:=by
 simp only[ofT,zQ,List.mem_filter,zJ,List.cons.injEq,and_true]
 constructor
 ·rintro⟨w,⟨h1,h2⟩,h3⟩;exact⟨w,h1,h3,h2⟩
 ·rintro⟨w,h1,h2,h3⟩;exact⟨w,⟨h1,h3⟩,h2⟩
theorem oh{W:List Wy}(h:uz W)(i:Int):(Ct W i).Nodup:=by
 unfold Ct List.Nodup
 rw[List.pairwise_map,List.pairwise_filter]
 refine h.imp fun hab ha hb=>?_
 rw[zJ] at ha hb
 omega
theorem oe{W:List Wy}(h:uz W)(i:Int):(ofT W i).Nodup:=by
 unfold ofT List.Nodup
 rw[List.pairwise_map,List.pairwise_filter]
 refine h.imp fun hab ha hb=>?_
 rw[zJ] at ha hb
 omega
theorem gx(p:Pl):jh (bK p)=p.2:=by
 show ((p.2.map PyData.int).map jj)=p.2
 rw[zM]
 exact List.map_id _
theorem oR{n:Int}{p:Pl}(ha:0<=p.1/\p.1<=9)(hn:p.2.Nodup)(hr:∀j∈p.2,0<=j/\j < n):placeOk n (bK p)=true:=by
 have e:(p.2.map PyData.int).map jj=p.2:=gx p
 have e2:(p.2.map PyData.int).all (whole 0 (n - 1))=true:=by
  rw[List.all_eq_true]
  intro x hx
  obtain⟨j,hj,rfl⟩:=zQ.mp hx
  have:=hr j hj
  simp only[whole,zF,zJ]
  omega
 simp only[placeOk,bK,af,zL,List.length_nil,List.getD_cons_zero,List.getD_cons_succ,jx,whole,e,e2,ha.1,ha.2,hn,decide_true,Bool.and_self]
theorem DR{g t:Int}{w:Wy}(h:(0<=w.1/\w.1 < g)/\(0<=w.2.1/\w.2.1 < t)/\1<=w.2.2/\w.2.2<=9):jW g t (ao w)=true:=by
 obtain⟨⟨a,b⟩,⟨c,d⟩,e,f⟩:=h
 have b':w.1<=g - 1:=by omega
 have d':w.2.1<=t - 1:=by omega
 simp only[jW,ao,zL,List.length_nil,List.getD_cons_zero,List.getD_cons_succ,whole,a,b',c,d',e,f,decide_true,Bool.and_self]
theorem PZ{a b c d:Int}(h:a < c\/(a=c/\b < d)):Dl.lexLt [a,b] [c,d]=true:=by
 show HT.lexLt [a,b] [c,d]=true
 rw[HT.cD]
 by_cases e:a=c
 ·rw[if_pos e,HT.cD,if_neg (by omega)]
  simp only[zJ];omega
 ·rw[if_neg e];simp only[zJ];omega
theorem Wd.glike{G T:List Pl}{W:List Wy}(h:Wd G T W){p:Pl}(hp:p∈G):∃i:Nat,i < G.length/\p.2.Perm (Ct W i):=by
 obtain⟨i,hi,e⟩:=List.getElem_of_mem hp
 exact⟨i,hi,h.gl i p (by rw[zK hi,e])⟩
theorem Wd.tlike{G T:List Pl}{W:List Wy}(h:Wd G T W){p:Pl}(hp:p∈T):∃i:Nat,i < T.length/\p.2.Perm (ofT W i):=by
 obtain⟨i,hi,e⟩:=List.getElem_of_mem hp
 exact⟨i,hi,h.tl i p (by rw[zK hi,e])⟩
theorem Wd.gok{G T:List Pl}{W:List Wy}(h:Wd G T W):(G.map bK).all (placeOk T.length)=true:=by
 rw[List.all_eq_true]
 intro x hx
 obtain⟨p,hp,rfl⟩:=zQ.mp hx
 obtain⟨i,hi,q⟩:=h.glike hp
 refine oR (h.ga p hp) (q.nodup_iff.mpr (oh h.wp _)) fun j hj=>?_
 obtain⟨w,hw,e⟩:=zQ.mp (vD.mp (q.mem_iff.mp hj))
 injection e with e1 e2
 injection e2 with e2 _
 have:=(h.wr w hw).2.1
 rw[e2] at this;exact this
theorem Wd.tok{G T:List Pl}{W:List Wy}(h:Wd G T W):(T.map bK).all (placeOk G.length)=true:=by
 rw[List.all_eq_true]
 intro x hx
 obtain⟨p,hp,rfl⟩:=zQ.mp hx
 obtain⟨i,hi,q⟩:=h.tlike hp
 refine oR (h.ta p hp) (q.nodup_iff.mpr (oe h.wp _)) fun j hj=>?_
 obtain⟨w,hw,e⟩:=zQ.mp (vL.mp (q.mem_iff.mp hj))
 injection e with e1 e2
 have:=(h.wr w hw).1
 rw[e1] at this;exact this
theorem rg{W:List Wy}{p:Wy->Bool}(h:W.length<=16):(W.filter p).length<=16:=yE (List.length_filter_le _ _) h
theorem B6{p:Pl}(h:p.2.length<=16):jz 16 2 (bK p):=.tup (by simp only[zL,List.length_nil];omega) fun x hx=>by
 rcases zR.mp hx with rfl|hx
 ·exact mE _
 ·rw[yL] at hx
  subst hx
  exact Cb h
theorem II(w:Wy):jz 16 1 (ao w):=.tup (by simp only[zL,List.length_nil];omega) fun x hx=>by
 simp only[zR,yG,or_false] at hx
 rcases hx with rfl|rfl|rfl<;>exact mE _
theorem Wd.fit{G T:List Pl}{W:List Wy}(h:Wd G T W):jz 16 4 (ax G T W):=by
 refine .tup (by simp only[zL,List.length_nil];omega) fun x hx=>?_
 simp only[zR,yG,or_false] at hx
 have h4:=h.g4
 have h5:=h.t4
 have h6:=h.wl
 rcases hx with rfl|rfl|rfl
 ·refine .tup (by rw[zD];omega) fun x hx=>?_
  obtain⟨p,hp,rfl⟩:=zQ.mp hx
  obtain⟨i,hi,q⟩:=h.glike hp
  exact B6 (by rw[q.length_eq,Ct,zD];exact rg h.wl)
 ·refine .tup (by rw[zD];omega) fun x hx=>?_
  obtain⟨p,hp,rfl⟩:=zQ.mp hx
  obtain⟨i,hi,q⟩:=h.tlike hp
  exact B6 (by rw[q.length_eq,ofT,zD];exact rg h.wl)
 ·refine .tup (by rw[zD];omega) fun x hx=>?_
  obtain⟨p,hp,rfl⟩:=zQ.mp hx
  exact (II p).mono (Nat.le_refl _) (by decide)
theorem Dg{c:Int}(h0:0<=c)(h9:c<=9):Wd [(c,[0,1]),(c,[1,0])] [(c,[1,0]),(c,[0,1])] [(0,0,2),(0,1,2),(1,0,2),(1,1,2)] where
 g1:=by simp only[zL,List.length_nil];omega
 g4:=by simp only[zL,List.length_nil];omega
 t1:=by simp only[zL,List.length_nil];omega
 t4:=by simp only[zL,List.length_nil];omega
 ga:=by intro p hp;simp only[zR,yG,or_false] at hp;rcases hp with rfl|rfl<;>exact⟨h0,h9⟩
 ta:=by intro p hp;simp only[zR,yG,or_false] at hp;rcases hp with rfl|rfl<;>exact⟨h0,h9⟩
 gl:=by
  intro i p hp
  match i,hp with
  | 0,hp=>injection hp with hp;subst hp;exact (show List.Perm ([0,1]:List Int) (Ct [(0,0,2),(0,1,2),(1,0,2),(1,1,2)] ((0:Nat):Int)) by decide)
  | 1,hp=>injection hp with hp;subst hp;exact (show List.Perm ([1,0]:List Int) (Ct [(0,0,2),(0,1,2),(1,0,2),(1,1,2)] ((1:Nat):Int)) by decide)
 tl:=by
  intro i p hp
  match i,hp with
  | 0,hp=>injection hp with hp;subst hp;exact (show List.Perm ([1,0]:List Int) (ofT [(0,0,2),(0,1,2),(1,0,2),(1,1,2)] ((0:Nat):Int)) by decide)
  | 1,hp=>injection hp with hp;subst hp;exact (show List.Perm ([0,1]:List Int) (ofT [(0,0,2),(0,1,2),(1,0,2),(1,1,2)] ((1:Nat):Int)) by decide)
 wr:=show ∀w∈([(0,0,2),(0,1,2),(1,0,2),(1,1,2)]:List Wy),(0<=w.1/\w.1 < ((2:Nat):Int))/\(0<=w.2.1/\w.2.1 < ((2:Nat):Int))/\1<=w.2.2/\w.2.2<=9 by decide
 wp:=by decide
 wl:=by decide
def j1(f:Nat->Int):Nat->List (List Int)->List Pl|_,[]=>[]|k,r::rs=>(f k,r)::j1 f (k+1) rs
theorem je(f:Nat->Int):∀ (rs:List (List Int)) (k:Nat),(j1 f k rs).length=rs.length
 | [],k=>rfl
 | r::rs,k=>by rw[j1,zL,zL,je f rs]
theorem iW(f:Nat->Int):∀ {rs:List (List Int)}{k i:Nat}{p:Pl},(j1 f k rs)[i]?=some p->∃r,rs[i]?=some r/\p=(f (k+i),r)
 | [],k,i,p,h=>by simp[j1] at h
 | r::rs,k,0,p,h=>by simp[j1] at h;exact⟨r,rfl,h.symm⟩
 | r::rs,k,i+1,p,h=>by
  simp only[j1,List.getElem?_cons_succ] at h
  obtain⟨y,h1,h2⟩:=iW f h
  exact⟨y,by simpa using h1,by rw[h2];congr 2;omega⟩
theorem eN:∀ {a b:List (List Int)},qg a b->a.length=b.length
 | [],[],_=>rfl
 | x::a,y::b,h=>by rw[zL,zL,eN h.2]
 | [],_::_,h=>h.elim
 | _::_,[],h=>h.elim
theorem nZ:∀ {a b:List (List Int)}{i:Nat}{r:List Int},qg a b->a[i]?=some r->∃s,b[i]?=some s/\r.Perm s
 | [],[],i,r,_,h=>by simp at h
 | x::a,y::b,0,r,h,e=>by
  simp only[List.getElem?_cons_zero,yM] at e
  subst e
  exact⟨y,rfl,h.1⟩
 | x::a,y::b,i+1,r,h,e=>by
  simp only[List.getElem?_cons_succ] at e
  obtain⟨s,h1,h2⟩:=nZ h.2 e
  exact⟨s,by simpa using h1,h2⟩
 | [],_::_,i,r,h,_=>h.elim
 | _::_,[],i,r,h,_=>h.elim
def lT(W:List Wy)(m:Nat):List (List Int):=(List.range m).map fun i=>Ct W ((i:Nat):Int)
def fT(W:List Wy)(m:Nat):List (List Int):=(List.range m).map fun i=>ofT W ((i:Nat):Int)
theorem J7{m s:Nat}{W:List Wy}{mine yours:List (List Int)}{f g:Nat->Int}(m1:1<=m)(m4:m<=4)(s1:1<=s)(s4:s<=4)(hf:∀k,0<=f k/\f k<=9)(hg:∀k,0<=g k/\g k<=9)
  (hm:qg mine (lT W m)) (hy:qg yours (fT W s)) (wr:∀w∈W,(0<=w.1/\w.1 < m)/\(0<=w.2.1/\w.2.1 < s)/\1<=w.2.2/\w.2.2<=9) (wp:uz W) (wl:W.length<=16):Wd (j1 f 0 mine) (j1 g 0 yours) W:=by
 have lm:(j1 f 0 mine).length=m:=by rw[je,eN hm,lT,zD,zS]
 have ly:(j1 g 0 yours).length=s:=by rw[je,eN hy,fT,zD,zS]
 have am:∀ {h:Nat->Int}{rs:List (List Int)},(∀k,0<=h k/\h k<=9)->∀p∈j1 h 0 rs,0<=p.1/\p.1<=9:=fun {h rs} hh p hp=>by
  obtain⟨i,hi⟩:=List.mem_iff_getElem?.mp hp
  obtain⟨r,_,rfl⟩:=iW h hi
  exact hh _
 refine⟨by omega,by omega,by omega,by omega,am hf,am hg,fun i p hp=>?_,fun i p hp=>?_,by rw[lm,ly];exact wr,wp,wl⟩
 ·obtain⟨r,h1,rfl⟩:=iW f hp
  obtain⟨t,h2,h3⟩:=nZ hm h1
  rw[lT,zO] at h2
  obtain⟨k,hk,rfl⟩:=Option.map_eq_some_iff.mp h2
  have:k=i:=by
   rw[zU] at hk
   obtain⟨h,e⟩:=hk
   rw[List.getElem_range] at e
   exact e.symm
  subst this
  exact h3
 ·obtain⟨r,h1,rfl⟩:=iW g hp
  obtain⟨t,h2,h3⟩:=nZ hy h1
  rw[fT,zO] at h2
  obtain⟨k,hk,rfl⟩:=Option.map_eq_some_iff.mp h2
  have:k=i:=by
   rw[zU] at hk
   obtain⟨h,e⟩:=hk
   rw[List.getElem_range] at e
   exact e.symm
  subst this
  exact h3
theorem cg{i:Nat}{fz:List Nat}{f:Dl.Env->Option D}{ρ ρ':aj}{d:D}(hf:f (bp ρ)=some d)(hs:Dl.qF d=false)(hh:hand fz 0 ρ=ρ')(hv:cn ρ'=bp ρ)(hr:lL d=false\/ρ'=ρ:=by first|exact .inr rfl|exact .inl rfl):Dl.az i fz f ρ=some (.nx (ρ'.set i (.val d))):=by
 rcases hr with hr|hr
 ·simp only[Dl.az,hf,zA,hs,Bool.false_eq_true,if_false,hh,hv,zB,hr]
 ·subst hr
  simp only[Dl.az,hf,zA,hs,Bool.false_eq_true,if_false,hh,hv,zB,ite_self]
theorem bO{i:Nat}{fz:List Nat}{f:Dl.Env->Option D}{ρ:aj}{d:D}(hf:f (bp ρ)=some d)(hs:Dl.qF d=true):Dl.az i fz f ρ=some (.nx (ρ.set i (.val d))):=by
 simp only[Dl.az,hf,zA,hs,if_true]
theorem KS(w:Wy):au (ao w) (.int 0)=some (.int w.1):=rfl
theorem Ko(w:Wy):au (ao w) (.int 1)=some (.int w.2.1):=rfl
theorem AO(a b c:D):small [a,b,c]=some [a,b,c]:=rfl
theorem ND{a b s:Int}(hs:s=1\/s=2\/s=3)(h:a < b):a / s < b / s\/(a / s=b / s/\a % s < b % s):=by rcases hs with rfl|rfl|rfl<;>omega
theorem Me{k m s:Int}(hs:s=1\/s=2\/s=3)(hm:m=1\/m=2\/m=3)(h0:0<=k)(h:k < m * s):(0<=k / s/\k / s < m)/\0<=k % s/\k % s < s:=by
 rcases hs with rfl|rfl|rfl<;>rcases hm with rfl|rfl|rfl<;>omega
def lB:aj->Option Out:=(gQ (iZ (fB (f2 wX (aZ bN (aa (ab 7) ae)) (ab 2))) (fB (f2 Er (ah 3 ar (aa (ab 0) (aa (f2 aM (f2 aM (ab 1) (fC (.int 2))) (ab 8)) (aa (fC (.int 4)) ae)))) (fC (.int 0))))) (md 7 [0,1,6,8] (aN (aa (f2 mY (ab 8) (ab 6)) (aa (f2 lJ (ab 8) (ab 6)) (aa (f2 aM (fC (.int 1)) (ah 3 ar (aa (ab 0) (aa (f2 aM (f2 aM (ab 1) (fC (.int 12))) (ab 8)) (aa (fC (.int 2)) ae))))) ae))))) gz)
abbrev st(ns:List Int)(a mo m s:Int)(x4 x7 x8 x9 x10 x11:Slot):aj:=[.val (dU ns),.val (.int a),.val (.int mo),.non,x4,.val (.int m),.val (.int s),x7,x8,x9,x10,x11]
def HX(ns:List Int)(a mo s k:Int)(W:List Wy):List Wy:=if (W.length:Int) < mo/\0 < dr ns (a+2+k) 4 then W++[(k / s,k % s,1+dr ns (a+12+k) 2)] else W
theorem AQ{ns:List Int}{a mo m s k:Int}{W:List Wy}(hl:ns.length<=63)(hs:s=1\/s=2\/s=3)(hw:W.length<=9) :
  lB (st ns a mo m s .non (.own (W.map ao)) (.val (.int k)) .non .non .non)=some (.nx (st ns a mo m s .non (.own ((HX ns a mo s k W).map ao)) (.val (.int k)) .non .non .non)):=by
 have hs0:0 < s:=by omega
 have hz:W.length < sizeLine:=Nat.lt_of_le_of_lt hw (by decide)
 have hd:Dl.mY (.int k) (.int s)=some (.int (k / s)):=ka ⟨hs0,by omega⟩
 have hm:Dl.lJ (.int k) (.int s)=some (.int (k % s)):=i6 hs0
 have e4:=yY (ns:=ns) (a+2+k) 4 hl (by decide)
 have e2:=yY (ns:=ns) (a+12+k) 2 hl (by decide)
 have hh:hand [0,1,6,8] 0 (st ns a mo m s .non (.own (W.map ao)) (.val (.int k)) .non .non .non)=st ns a mo m s .non (.own (W.map ao)) (.val (.int k)) .non .non .non:=rfl
 have ha:md 7 [0,1,6,8] (aN (aa (f2 mY (ab 8) (ab 6)) (aa (f2 lJ (ab 8) (ab 6)) (aa (f2 aM (fC (.int 1)) (ah 3 ar (aa (ab 0) (aa (f2 aM (f2 aM (ab 1) (fC (.int 12))) (ab 8)) (aa (fC (.int 2)) ae))))) ae)))) (st ns a mo m s .non (.own (W.map ao)) (.val (.int k)) .non .non .non)=some (.nx (st ns a mo m s .non (.own ((W++[(k / s,k % s,1+dr ns (a+12+k) 2)]).map ao)) (.val (.int k)) .non .non .non)):=by
  simp only[md,lS,hh,cn,zI,List.map_nil]
  simp! [yv,Bool.false_eq_true,nL,hd,hm,e2,AO,zD,hz,List.set_cons_succ,List.set_cons_zero,List.map_append]
  rfl
 by_cases c1:(W.length:Int) < mo
 ·by_cases c2:0 < dr ns (a+2+k) 4
  ·rw[show HX ns a mo s k W=W++[(k / s,k % s,1+dr ns (a+12+k) 2)] from if_pos ⟨c1,c2⟩,<- ha]
   simp! [lB,hV,ig,zD,c1,c2,decide_true,iu,e4]
  ·rw[show HX ns a mo s k W=W from if_neg fun h=>c2 h.2]
   simp! [lB,hV,ig,zD,c1,c2,decide_true,decide_false,iu,e4,Bool.false_eq_true]
 ·rw[show HX ns a mo s k W=W from if_neg fun h=>c1 h.1]
  simp! [lB,hV,ig,zD,c1,decide_false,iu,Bool.false_eq_true]
structure Do(mo s k:Int)(W:List Wy):Prop where
 mem:∀w∈W,∃j:Int,0<=j/\j < k/\w.1=j / s/\w.2.1=j % s/\1<=w.2.2/\w.2.2<=2
 ris:uz W
 len:(W.length:Int)<=k
 lem:(W.length:Int)<=mo
theorem Do.next{ns:List Int}{a mo s k:Int}{W:List Wy}(hl:ns.length<=63)(hs:s=1\/s=2\/s=3)(hk:0<=k)(h:Do mo s k W):Do mo s (k+1) (HX ns a mo s k W):=by
 have old:∀w∈W,∃j:Int,0<=j/\j < k+1/\w.1=j / s/\w.2.1=j % s/\1<=w.2.2/\w.2.2<=2:=fun w hw=>by
  obtain⟨j,a,b,c⟩:=h.mem w hw
  exact⟨j,a,by omega,c⟩
 by_cases c:(W.length:Int) < mo/\0 < dr ns (a+2+k) 4
 ·rw[show HX ns a mo s k W=W++[(k / s,k % s,1+dr ns (a+12+k) 2)] from if_pos c]
  have g1:=NM (ns:=ns) (a+12+k) 2 hl (by decide)
  have g2:=NK (ns:=ns) (a+12+k) 2 hl (by decide)
  refine⟨fun w hw=>?_,?_,?_,?_⟩
  ·rcases List.mem_append.mp hw with hw|hw
   ·exact old w hw
   ·rw[yL] at hw
    subst hw
    exact⟨k,hk,by omega,rfl,rfl,by simp only;omega,by simp only;omega⟩
  ·refine List.pairwise_append.mpr ⟨h.ris,List.pairwise_singleton _ _,fun a ha b hb=>?_⟩
   rw[yL] at hb
   subst hb
   obtain⟨j,_,b,c1,c2,_⟩:=h.mem a ha
   rw[c1,c2]
   exact ND hs b
  ·have:=h.len;rw[zN,List.length_singleton];omega
  ·have:=c.1;rw[zN,List.length_singleton];omega
 ·rw[show HX ns a mo s k W=W from if_neg c]
  exact⟨old,h.ris,by have:=h.len;omega,h.lem⟩
theorem Gx{ns:List Int}{a mo m s:Int}(hl:ns.length<=63)(hs:s=1\/s=2\/s=3):∀ (n k:Nat) {W:List Wy}{x8:Slot},k+n<=9->Do mo s k W ->
  ∃W' t8,cO (nu 8) lB ((List.range' k n).map fun i=>PyData.int ((i:Nat):Int)) (st ns a mo m s .non (.own (W.map ao)) x8 .non .non .non)=some (.nx (st ns a mo m s .non (.own (W'.map ao)) t8 .non .non .non))/\(n=0/\t8=x8\/∃d,t8=.val d)/\Do mo s ((k+n:Nat):Int) W'
 | 0,k,W,x8,hk,h=>⟨W,x8,rfl,.inl ⟨rfl,rfl⟩,h⟩
 | n+1,k,W,x8,hk,h=>by
  have h':Do mo s ((k+1:Nat):Int) (HX ns a mo s k W):=by
   have:=h.next (ns:=ns) (a:=a) hl hs (by omega)
   rwa [show ((k:Int)+1)=((k+1:Nat):Int) by omega] at this
  obtain⟨W',t8,e,q,b⟩:=Gx hl hs n (k+1) (W:=HX ns a mo s k W) (x8:=.val (.int (k:Nat))) (by omega) h'
  refine⟨W',t8,?_,.inr (q.elim (fun z=>⟨_,z.2⟩) id),by rw[show k+(n+1)=k+1+n by omega];exact b⟩
  have hsg:∀d,nu 8 (st ns a mo m s .non (.own (W.map ao)) x8 .non .non .non) d=some (st ns a mo m s .non (.own (W.map ao)) (.val d) .non .non .non):=fun d=>rfl
  rw[List.range'_succ,zI,cO,hsg,zA,AQ hl hs (by have:=h.len;omega)]
  exact e
theorem QC(W:List Wy)(i:Int)(hw:W.length<=20):ak 1 [0] (aP (ab 1)) (fG 0) (fB (f2 cq (f2 au (ab 0) (fC (.int 0))) (ab 1))) (f2 au (ab 0) (fC (.int 1))) [some (.int i),some (.list (W.map ao))]=some ((Ct W i).map PyData.int):=by
 rw[nE (ds:=W.map ao) (p:=fun d=>decide (jj ((cR d).getD 0 .none)=i)) (h:=fun d=>(cR d).getD 1 .none) rfl (by rw[zD];omega) (fun d hd=>?_) fun d hd _=>?_]
 ·rw[List.filter_map,zM,Ct,zM];rfl
 ·obtain⟨w,_,rfl⟩:=zQ.mp hd
  simp! [KS,dB,iu]
  rfl
 ·obtain⟨w,_,rfl⟩:=zQ.mp hd
  simp! [Ko]
  rfl
theorem Qu(W:List Wy)(i:Int)(hw:W.length<=20):ak 1 [0] (aP (ab 1)) (fG 0) (fB (f2 cq (f2 au (ab 0) (fC (.int 1))) (ab 1))) (f2 au (ab 0) (fC (.int 0))) [some (.int i),some (.list (W.map ao))]=some ((ofT W i).map PyData.int):=by
 rw[nE (ds:=W.map ao) (p:=fun d=>decide (jj ((cR d).getD 1 .none)=i)) (h:=fun d=>(cR d).getD 0 .none) rfl (by rw[zD];omega) (fun d hd=>?_) fun d hd _=>?_]
 ·rw[List.filter_map,zM,ofT,zM];rfl
 ·obtain⟨w,_,rfl⟩:=zQ.mp hd
  simp! [Ko,dB,iu]
  rfl
 ·obtain⟨w,_,rfl⟩:=zQ.mp hd
  simp! [KS]
  rfl
theorem Bq{m:Nat}(hm:m<=1000):CS ((m:Nat):Int)=true:=by
 unfold CS
 rw[zF,zJ,zJ]
 have h1:(0:Int)<=(m:Int):=Int.natCast_nonneg m
 have h2:(m:Int)<=1000:=by omega
 exact⟨Int.le_trans (by decide) h1,Int.lt_of_le_of_lt h2 (by decide)⟩
theorem xc{j:Int}(h:CS j=true):kr [.int j]=some ((List.range j.toNat).map fun i=>PyData.int ((i:Nat):Int)):=by
 rw[kr,if_pos h]
theorem wG{fi:Dl.Env->Option D}{ρ:Dl.Env}(m:Nat)(hm:m<=1000)(h:fi ρ=some (.int (m:Nat))):bc (aa fi ae) ρ=some ((List.range m).map fun i=>PyData.int ((i:Nat):Int)):=by
 have e:aa fi ae ρ=some [.int ((m:Nat):Int)]:=by simp only[aa,ae,h,zA,zB]
 have e2:bc (aa fi ae) ρ=(aa fi ae ρ).bind kr:=rfl
 rw[e2,e,zA,xc (Bq hm),yH]
theorem IX{W:List Wy}{m:Nat}{i7 i5:Nat}{ρ:Dl.Env}(hw:W.length<=20)(hm:m<=1000)(h5:ab i5 ρ=some (.int (m:Nat)))(h7:(ρ[i7]?).getD none=some (.list (W.map ao))) :
  ak 1 [i7] (bc (aa (ab i5) ae)) (fG 0) (fun _=>some true) (cX (ak 1 [0] (aP (ab 1)) (fG 0) (fB (f2 cq (f2 au (ab 0) (fC (.int 0))) (ab 1))) (f2 au (ab 0) (fC (.int 1))))) ρ=some ((lT W m).map cm):=by
 rw[cf (h:=fun d=>cm (Ct W (jj d))) (wG m hm h5) (by rw[zD,zS];omega) fun d hd=>?_]
 ·rw[lT,zM,zM];rfl
 ·obtain⟨i,_,rfl⟩:=zQ.mp hd
  simp only[zI,List.map_nil,h7,cX,QC W _ hw,zB,cm,jj]
theorem JZ{W:List Wy}{m:Nat}{i7 i5:Nat}{ρ:Dl.Env}(hw:W.length<=20)(hm:m<=1000)(h5:ab i5 ρ=some (.int (m:Nat)))(h7:(ρ[i7]?).getD none=some (.list (W.map ao))) :
  ak 1 [i7] (bc (aa (ab i5) ae)) (fG 0) (fun _=>some true) (cX (ak 1 [0] (aP (ab 1)) (fG 0) (fB (f2 cq (f2 au (ab 0) (fC (.int 1))) (ab 1))) (f2 au (ab 0) (fC (.int 0))))) ρ=some ((fT W m).map cm):=by
 rw[cf (h:=fun d=>cm (ofT W (jj d))) (wG m hm h5) (by rw[zD,zS];omega) fun d hd=>?_]
 ·rw[fT,zM,zM];rfl
 ·obtain⟨i,_,rfl⟩:=zQ.mp hd
  simp only[zI,List.map_nil,h7,cX,Qu W _ hw,zB,cm,jj]
def KA(c:Int):Dl.Env->Option D:=(aN (aa (ah 3 ar (aa (ab 2) (aa (f2 aM (f2 aM (ab 3) (fC (.int c))) (ab 0)) (aa (fC (.int 4)) ae)))) (aa (ab 1) ae)))
theorem N6{ns:List Int}{a:Int}(c:Int)(hl:ns.length<=63):∀ (mine:List (List Int)) (k:Nat),cQ (iz 0 1) (fun _=>some true) (KA c) [none,none,some (dU ns),some (.int a)] (bj k (mine.map af))=some ((j1 (fun k=>dr ns (a+c+((k:Nat):Int)) 4) k mine).map bK)
 | [],k=>rfl
 | r::mine,k=>by
  have hg:iz 0 1 [none,none,some (dU ns),some (.int a)] (.tuple [.int ((k:Nat):Int),af r])=some [some (.int ((k:Nat):Int)),some (af r),some (dU ns),some (.int a)]:=rfl
  have he:KA c [some (.int ((k:Nat):Int)),some (af r),some (dU ns),some (.int a)]=some (bK (dr ns (a+c+((k:Nat):Int)) 4,r)):=by
   simp! [KA,yY (ns:=ns) (a+c+((k:Nat):Int)) 4 hl (by decide),AD,bK]
  have ih:=N6 (a:=a) c hl mine (k+1)
  rw[zI,bj,cQ,hg]
  simp only[zA,if_true,he,ih,zB,j1,zI]
theorem lb:∀ (ds:List D) (k:Nat),(bj k ds).length=ds.length
 | [],k=>rfl
 | d::ds,k=>by rw[bj,zL,zL,lb ds]
theorem xy{ns:List Int}{a c:Int}{i9:Nat}{ρ:Dl.Env}{mine:List (List Int)}(hl:ns.length<=63)(hm:mine.length<=1000)(h9:ab i9 ρ=some (.list (mine.map af)))(h0:(ρ[0]?).getD none=some (dU ns))(h1:(ρ[1]?).getD none=some (.int a)) :
  aZ bI (aa (cX (ak 2 [0,1] (bC (aa (ab i9) ae)) (iz 0 1) (fun _=>some true) (KA c))) ae) ρ=some (.tuple ((j1 (fun k=>dr ns (a+c+((k:Nat):Int)) 4) 0 mine).map bK)):=by
 have hi:bC (aa (ab i9) ae) ρ=some (bj 0 (mine.map af)):=by
  simp only[bC,aa,ae,h9,zA,zB,du,oneOf,g0]
 have hc:ak 2 [0,1] (bC (aa (ab i9) ae)) (iz 0 1) (fun _=>some true) (KA c) ρ=some ((j1 (fun k=>dr ns (a+c+((k:Nat):Int)) 4) 0 mine).map bK):=by
  simp only[ak,hi,zA,eA,zI,List.map_nil,h0,h1,List.replicate,List.cons_append,List.nil_append,N6 c hl]
  exact bq (by rw[zD,je];omega)
 simp only[aZ,aa,ae,cX,hc,zB,zA,bI,du,oneOf,g0]
theorem ai{g1 g2:aj->Option Out}{ρ ρ':aj}(h:g1 ρ=some (.nx ρ')):av g1 g2 ρ=g2 ρ':=by
 simp only[av,h,zA]
theorem aD{g:aj->Option Out}{n:Nat}{args:List D}{d:D}(h:g (args.map Slot.val++List.replicate (n - args.length) .non)=some (.rt d)):aU g n args=some d:=by
 simp only[aU,h,zB]
theorem jR{g:D->D->Option D}{fa fb:Dl.Env->Option D}{ρ:Dl.Env}{a b:D}(ha:fa ρ=some a)(hb:fb ρ=some b):f2 g fa fb ρ=g a b:=by
 simp only[f2,ha,hb,zA]
theorem Ly{ns:List Int}{a mo:Int}{m s:Nat}(m1:m<=3)(s1:s<=3):f2 eK (ab 5) (ab 6) (cn (st ns a mo m s .non (.own []) .non .non .non .non))=some (.int ((m * s:Nat):Int)):=by
 have h:Dl.eK (.int (m:Int)) (.int (s:Int))=some (.int ((m:Int) * (s:Int))):=da (l7 (by omega))
 rw[jR (a:=.int (m:Int)) (b:=.int (s:Int)) rfl rfl,h,Int.natCast_mul]
theorem MR{ns:List Int}{a mo:Int}{m s:Nat}(m1:m<=3)(s1:s<=3)(hms:m * s<=9){W:List Wy}{t8:Slot}(e: cO (nu 8) lB ((List.range' 0 (m * s)).map fun i=>PyData.int ((i:Nat):Int)) (st ns a mo m s .non (.own (([]:List Wy).map ao)) .non .non .non .non)=some (.nx (st ns a mo m s .non (.own (W.map ao)) t8 .non .non .non))):dZ [5,6] (bc (aa (f2 eK (ab 5) (ab 6)) ae)) (nu 8) lB (st ns a mo m s .non (.own []) .non .non .non .non)=some (.nx (st ns a mo m s .non (.own (W.map ao)) t8 .non .non .non)):=by
 have hh:hand [5,6] 0 (st ns a mo m s .non (.own []) .non .non .non .non)=st ns a mo m s .non (.own []) .non .non .non .non:=rfl
 have hr:=wG (fi:=f2 eK (ab 5) (ab 6)) (ρ:=cn (st ns a mo m s .non (.own []) .non .non .non .non)) (m * s) (by omega) (Ly m1 s1)
 rw[yI] at hr
 rw[List.map_nil] at e
 simp only[dZ,hh,hr,zA]
 exact e
structure PM(mo:Int)(G T:List Pl)(W:List Wy):Prop where
 g3:G.length<=3
 t3:T.length<=3
 w2:∀w∈W,w.2.2<=2
 ga:∀p∈G,p.1<=3
 ta:∀p∈T,p.1<=3
 wm:(W.length:Int)<=mo
theorem vI{ns:List Int}{a mo:Int}(hl:ns.length<=63)(hmo:3 < mo)(c:dr ns (a+64) 4=0):∃G T W,cF [dU ns,.int a,.int mo]=some (ax G T W)/\Wd G T W/\PM mo G T W:=by
 have e64:=yY (ns:=ns) (a+64) 4 hl (by decide)
 have e65:=gK (ns:=ns) (a+65) 2 hl (by decide)
 refine⟨_,_,_,?_,Dg (c:=1+dr ns (a+65) 2) (by omega) (by omega),⟨by simp,by simp,by decide,fun p hp=>?_,fun p hp=>?_,by simp;omega⟩⟩
 rotate_left
 ·simp only[zR,yG,or_false] at hp;rcases hp with rfl|rfl<;>(simp only;omega)
 ·simp only[zR,yG,or_false] at hp;rcases hp with rfl|rfl<;>(simp only;omega)
 have s1:Dl.az 3 [0,1] (f2 aM (fC (.int 1)) (ah 3 ar (aa (ab 0) (aa (f2 aM (ab 1) (fC (.int 65))) (aa (fC (.int 2)) ae))))) [.val (dU ns),.val (.int a),.val (.int mo),.non,.non,.non,.non,.non,.non,.non,.non,.non]=some (.nx [.val (dU ns),.val (.int a),.val (.int mo),.val (.int (1+dr ns (a+65) 2)),.non,.non,.non,.non,.non,.non,.non,.non]) :=
  bO (d:=.int (1+dr ns (a+65) 2)) (by simp! [e65.1]) rfl
 generalize 1+dr ns (a+65) 2=x at *
 have s2:Dl.az 4 [3] (aN (aa (aN (aa (ab 3) (aa (aN (aa (fC (.int 1)) (aa (fC (.int 0)) ae))) ae))) (aa (aN (aa (ab 3) (aa (aN (aa (fC (.int 0)) (aa (fC (.int 1)) ae))) ae))) ae))) [.val (dU ns),.val (.int a),.val (.int mo),.val (.int x),.non,.non,.non,.non,.non,.non,.non,.non]=some (.nx [.val (dU ns),.val (.int a),.val (.int mo),.val (.int x),.val (.tuple [bK (x,[1,0]),bK (x,[0,1])]),.non,.non,.non,.non,.non,.non,.non]) :=
  cg (d:=.tuple [bK (x,[1,0]),bK (x,[0,1])]) (by simp! [AD];rfl) rfl rfl rfl
 simp! [cF,ej,ig,e64,c,dB,decide_true,iu,show decide ((3:Int) < mo)=true from yB hmo,s1,s2,AD,AO,show ∀a b c d:D,small [a,b,c,d]=some [a,b,c,d] from fun _ _ _ _=>rfl]
 rfl
theorem uV{ns:List Int}{a mo:Int}(hl:ns.length<=63)(hm0:0<=mo)(c:¬ (3 < mo/\dr ns (a+64) 4=0)):∃G T W,cF [dU ns,.int a,.int mo]=some (ax G T W)/\Wd G T W/\PM mo G T W:=by
 have e64:=yY (ns:=ns) (a+64) 4 hl (by decide)
 have em:=gK (ns:=ns) a 3 hl (by decide)
 have es:=gK (ns:=ns) (a+1) 3 hl (by decide)
 obtain⟨m,hm⟩:=Int.eq_ofNat_of_zero_le (show 0<=1+dr ns a 3 by omega)
 obtain⟨s,hs⟩:=Int.eq_ofNat_of_zero_le (show 0<=1+dr ns (a+1) 3 by omega)
 have m1:1<=m/\m<=3:=by omega
 have s1:1<=s/\s<=3:=by omega
 have hs':(s:Int)=1\/(s:Int)=2\/(s:Int)=3:=by omega
 have hm':(m:Int)=1\/(m:Int)=2\/(m:Int)=3:=by omega
 have t5:Dl.az 5 [0,1] (f2 aM (fC (.int 1)) (ah 3 ar (aa (ab 0) (aa (ab 1) (aa (fC (.int 3)) ae))))) [.val (dU ns),.val (.int a),.val (.int mo),.non,.non,.non,.non,.non,.non,.non,.non,.non]=some (.nx [.val (dU ns),.val (.int a),.val (.int mo),.non,.non,.val (.int (m:Nat)),.non,.non,.non,.non,.non,.non]) :=
  bO (d:=.int (m:Nat)) (by simp! [em.1,hm]) rfl
 have t6:Dl.az 6 [0,1] (f2 aM (fC (.int 1)) (ah 3 ar (aa (ab 0) (aa (f2 aM (ab 1) (fC (.int 1))) (aa (fC (.int 3)) ae))))) [.val (dU ns),.val (.int a),.val (.int mo),.non,.non,.val (.int (m:Nat)),.non,.non,.non,.non,.non,.non]=some (.nx (st ns a mo m s .non .non .non .non .non .non)) :=
  bO (d:=.int (s:Nat)) (by simp! [es.1,hs]) rfl
 have t7:aK 7 [] (fE ae) (st ns a mo m s .non .non .non .non .non .non)=some (.nx (st ns a mo m s .non (.own []) .non .non .non .non)):=by
  simp only[aK,mU,fE,ae,zA,jd,zB,List.set_cons_succ,List.set_cons_zero]
 have hms:m * s<=9:=Nat.mul_le_mul m1.2 s1.2
 have hms1:1<=m * s:=Nat.mul_le_mul m1.1 s1.1
 obtain⟨W,t8,e,h8,I⟩:=Gx (ns:=ns) (a:=a) (m:=m) (s:=s) hl hs' (m * s) 0 (W:=[]) (x8:=.non) (by omega) (mo:=mo) ⟨fun w hw=>(by cases hw),List.Pairwise.nil,by decide,hm0⟩
 rw[Nat.zero_add] at I
 obtain⟨d8,rfl⟩:∃d,t8=.val d:=h8.elim (fun z=>by omega) id
 have hlen9:W.length<=9:=by have:=I.len;omega
 have tf:=MR m1.2 s1.2 hms e
 unfold lB at tf
 have hwl:W.length<=20:=by omega
 have wr:∀w∈W,(0<=w.1/\w.1 < m)/\(0<=w.2.1/\w.2.1 < s)/\1<=w.2.2/\w.2.2<=9:=fun w hw=>by
  obtain⟨j,j0,jk,ea,b,c1,c2⟩:=I.mem w hw
  have:=Me hs' hm' j0 (by rw[<- Int.natCast_mul];exact jk)
  rw[ea,b]
  exact⟨this.1,this.2,c1,by omega⟩
 have lenG:∀r∈lT W m,r.length<=1000:=fun r hr=>by
  obtain⟨i,_,rfl⟩:=zQ.mp hr
  rw[Ct,zD]
  exact yE (List.length_filter_le _ _) (by omega)
 have lenT:∀r∈fT W s,r.length<=1000:=fun r hr=>by
  obtain⟨i,_,rfl⟩:=zQ.mp hr
  rw[ofT,zD]
  exact yE (List.length_filter_le _ _) (by omega)
 obtain⟨mine,om,pm⟩:=xO (ns:=ns) (a:=a+24) (rows:=lT W m) hl lenG (by rw[lT,zD,zS];omega)
 obtain⟨yours,oy,py⟩:=xO (ns:=ns) (a:=a+40) (rows:=fT W s) hl lenT (by rw[fT,zD,zS];omega)
 have lm:mine.length<=1000:=by rw[eN pm,lT,zD,zS];omega
 have ly:yours.length<=1000:=by rw[eN py,fT,zD,zS];omega
 have t9:Dl.az 9 [0,1,5,7] (ah 3 bL (aa (ab 0) (aa (f2 aM (ab 1) (fC (.int 24))) (aa (cX (ak 1 [7] (bc (aa (ab 5) ae)) (fG 0) (fun _=>some true) (cX (ak 1 [0] (aP (ab 1)) (fG 0) (fB (f2 cq (f2 au (ab 0) (fC (.int 0))) (ab 1))) (f2 au (ab 0) (fC (.int 1))))))) ae)))) (st ns a mo m s .non (.own (W.map ao)) (.val d8) .non .non .non)=some (.nx (st ns a mo m s .non (.val (.list (W.map ao))) (.val d8) (.val (.list (mine.map af))) .non .non)):=by
  refine (cg (ρ':=st ns a mo m s .non (.val (.list (W.map ao))) (.val d8) .non .non .non) (d:=.list (mine.map af)) ?_ rfl rfl ?_).trans rfl
  ·have q:=IX (ρ:=bp (st ns a mo m s .non (.own (W.map ao)) (.val d8) .non .non .non)) (i5:=5) (i7:=7) hwl (show m<=1000 by omega) rfl rfl
   simp only[ah,aa,ae,cX,q,zB,zA]
   simp! [om]
  ·simp only[st,cn,bp,zI,List.map_nil];rfl
 have t10:Dl.az 10 [0,1,6,7] (ah 3 bL (aa (ab 0) (aa (f2 aM (ab 1) (fC (.int 40))) (aa (cX (ak 1 [7] (bc (aa (ab 6) ae)) (fG 0) (fun _=>some true) (cX (ak 1 [0] (aP (ab 1)) (fG 0) (fB (f2 cq (f2 au (ab 0) (fC (.int 1))) (ab 1))) (f2 au (ab 0) (fC (.int 0))))))) ae)))) (st ns a mo m s .non (.val (.list (W.map ao))) (.val d8) (.val (.list (mine.map af))) .non .non)=some (.nx (st ns a mo m s .non (.val (.list (W.map ao))) (.val d8) (.val (.list (mine.map af))) (.val (.list (yours.map af))) .non)):=by
  refine (cg (ρ':=st ns a mo m s .non (.val (.list (W.map ao))) (.val d8) (.val (.list (mine.map af))) .non .non) (d:=.list (yours.map af)) ?_ rfl ?_ ?_).trans rfl
  ·have q:=JZ (ρ:=bp (st ns a mo m s .non (.val (.list (W.map ao))) (.val d8) (.val (.list (mine.map af))) .non .non)) (i5:=6) (i7:=7) hwl (show s<=1000 by omega) rfl rfl
   simp only[ah,aa,ae,cX,q,zB,zA]
   simp! [oy]
  ·rfl
  ·simp only[st,cn,bp,zI,List.map_nil];rfl
 have t11:Dl.az 11 [0,1,8,9] (aZ bI (aa (cX (ak 2 [0,1] (bC (aa (ab 9) ae)) (iz 0 1) (fun _=>some true) (KA 56))) ae)) (st ns a mo m s .non (.val (.list (W.map ao))) (.val d8) (.val (.list (mine.map af))) (.val (.list (yours.map af))) .non)=some (.nx (st ns a mo m s .non (.val (.list (W.map ao))) (.val d8) (.val (.list (mine.map af))) (.val (.list (yours.map af))) (.val (.tuple ((j1 (fun k=>dr ns (a+56+((k:Nat):Int)) 4) 0 mine).map bK))))):=by
  refine (cg (ρ':=st ns a mo m s .non (.val (.list (W.map ao))) (.val d8) (.val (.list (mine.map af))) (.val (.list (yours.map af))) .non) (xy hl lm rfl rfl rfl) rfl rfl ?_).trans rfl
  simp only[st,cn,bp,zI,List.map_nil];rfl
 have t4:∀G:D,Dl.az 4 [0,1,8,10] (aZ bI (aa (cX (ak 2 [0,1] (bC (aa (ab 10) ae)) (iz 0 1) (fun _=>some true) (KA 60))) ae)) (st ns a mo m s .non (.val (.list (W.map ao))) (.val d8) (.val (.list (mine.map af))) (.val (.list (yours.map af))) (.val G))=some (.nx (st ns a mo m s (.val (.tuple ((j1 (fun k=>dr ns (a+60+((k:Nat):Int)) 4) 0 yours).map bK))) (.val (.list (W.map ao))) (.val d8) (.val (.list (mine.map af))) (.val (.list (yours.map af))) (.val G))):=fun G=>by
  refine (cg (ρ':=st ns a mo m s .non (.val (.list (W.map ao))) (.val d8) (.val (.list (mine.map af))) (.val (.list (yours.map af))) (.val G)) (xy hl ly rfl rfl rfl) rfl rfl ?_).trans rfl
  simp only[st,cn,bp,zI,List.map_nil];rfl
 refine⟨_,_,W,?_,J7 (f:=fun k=>dr ns (a+56+((k:Nat):Int)) 4) (g:=fun k=>dr ns (a+60+((k:Nat):Int)) 4) m1.1 (by omega) s1.1 (by omega) (fun k=>?_) (fun k=>?_) pm py wr I.ris (by omega),⟨by rw[je,eN pm,lT,zD,zS];omega,by rw[je,eN py,fT,zD,zS];omega,fun w hw=>(by obtain⟨j,_,_,_,_,_,z⟩:=I.mem w hw;exact z),fun p hp=>?_,fun p hp=>?_,I.lem⟩⟩
 ·unfold KA at t11 t4
  have tA:∀g,gQ (iZ (fB (f2 Er (ab 2) (fC (.int 3)))) (fB (f2 cq (ah 3 ar (aa (ab 0) (aa (f2 aM (ab 1) (fC (.int 64))) (aa (fC (.int 4)) ae)))) (fC (.int 0))))) g gz [.val (dU ns),.val (.int a),.val (.int mo),.non,.non,.non,.non,.non,.non,.non,.non,.non]=some (.nx [.val (dU ns),.val (.int a),.val (.int mo),.non,.non,.non,.non,.non,.non,.non,.non,.non]):=fun g=>by
   by_cases c1:3 < mo
   ·have c2:¬ dr ns (a+64) 4=0:=fun z=>c ⟨c1,z⟩
    simp! [ig,e64,c1,c2,dB,decide_false,decide_true,iu,Bool.false_eq_true]
   ·simp! [ig,c1,decide_false,iu,Bool.false_eq_true]
  refine aD ?_
  show ej [.val (dU ns),.val (.int a),.val (.int mo),.non,.non,.non,.non,.non,.non,.non,.non,.non]=_
  unfold ej
  rw[ai (tA _),ai t5,ai t6,ai t7,ai tf,ai t9,ai t10,ai t11,ai (t4 _)]
  simp! [AO,ax]
 ·have q:=gK (ns:=ns) (a+56+((k:Nat):Int)) 4 hl (by decide)
  exact⟨q.2.1,by omega⟩
 ·have q:=gK (ns:=ns) (a+60+((k:Nat):Int)) 4 hl (by decide)
  exact⟨q.2.1,by omega⟩
 ·obtain⟨i,hi⟩:=List.getElem?_of_mem hp
  obtain⟨r,_,rfl⟩:=iW _ hi
  have q:=gK (ns:=ns) (a+56+((0+i:Nat):Int)) 4 hl (by decide)
  simp only;omega
 ·obtain⟨i,hi⟩:=List.getElem?_of_mem hp
  obtain⟨r,_,rfl⟩:=iW _ hi
  have q:=gK (ns:=ns) (a+60+((0+i:Nat):Int)) 4 hl (by decide)
  simp only;omega
theorem yX{ns:List Int}{a mo:Int}(hl:ns.length<=63)(hm0:0<=mo):∃G T W,cF [dU ns,.int a,.int mo]=some (ax G T W)/\Wd G T W/\PM mo G T W:=by
 by_cases c:3 < mo/\dr ns (a+64) 4=0
 ·exact vI hl c.1 c.2
 ·exact uV hl hm0 c
section
variable {G T:List Pl}{W:List Wy}
theorem KM(h:uz W):(W.map fun w=>[w.1,w.2.1]).Pairwise fun a b=>Dl.lexLt a b=true:=List.pairwise_map.mpr (h.imp fun hab=>PZ hab)
theorem Hq(h:uz W):(W.map fun w=>[w.1,w.2.1]).Nodup:=(KM h).imp fun {a b} hab e=>by
 rw[e,dN] at hab
 cases hab
theorem Hb(h:uz W){m:List (List Int)}(hn:m.Nodup)(hm:∀r,r∈W.map (fun w=>[w.1,w.2.1])↔r∈m):W.map (fun w=>[w.1,w.2.1])=rT m :=
 Fh ((List.perm_ext_iff_of_nodup (Hq h) hn).mpr hm) ((KM h).imp fun hab=>OA hab)
theorem Wd.wok(h:Wd G T W):OZ (ax G T W)=true:=by
 have hP:(W.map ao).map fU=W.map fun w=>[w.1,w.2.1]:=by rw[zM];rfl
 have hpg:∀i j:Int,[i,j]∈W.map (fun w=>[w.1,w.2.1])↔[i,j]∈mD 0 (G.map bK):=fun i j=>by
  rw[pP]
  constructor
  ·intro hm
   obtain⟨w,hw,e⟩:=zQ.mp hm
   simp only[List.cons.injEq,and_true] at e
   have hr:=(h.wr w hw).1
   obtain⟨p,hp⟩:∃p,G[i.toNat]?=some p:=⟨G[i.toNat]'(by omega),zK (by omega)⟩
   refine⟨i.toNat,bK p,by rw[zO,hp];rfl,by omega,?_⟩
   rw[gx,(h.gl _ p hp).mem_iff,vD,show ((i.toNat:Nat):Int)=i by omega]
   exact hm
  ·rintro⟨m,p,hp,rfl,hj⟩
   rw[zO] at hp
   obtain⟨p',hp',rfl⟩:=Option.map_eq_some_iff.mp hp
   rw[gx,(h.gl m p' hp').mem_iff,vD] at hj
   rwa [Nat.zero_add]
 have hpt:∀i j:Int,[i,j]∈W.map (fun w=>[w.1,w.2.1])↔[j,i]∈mD 0 (T.map bK):=fun i j=>by
  rw[pP]
  constructor
  ·intro hm
   obtain⟨w,hw,e⟩:=zQ.mp hm
   simp only[List.cons.injEq,and_true] at e
   have hr:=(h.wr w hw).2.1
   obtain⟨p,hp⟩:∃p,T[j.toNat]?=some p:=⟨T[j.toNat]'(by omega),zK (by omega)⟩
   refine⟨j.toNat,bK p,by rw[zO,hp];rfl,by omega,?_⟩
   rw[gx,(h.tl _ p hp).mem_iff,vL,show ((j.toNat:Nat):Int)=j by omega]
   exact hm
  ·rintro⟨m,p,hp,rfl,hj⟩
   rw[zO] at hp
   obtain⟨p',hp',rfl⟩:=Option.map_eq_some_iff.mp hp
   rw[gx,(h.tl m p' hp').mem_iff,vL] at hj
   rwa [Nat.zero_add]
 have two:∀ {r:List Int},r∈W.map (fun w=>[w.1,w.2.1])->∃i j,r=[i,j]:=fun hr=>by
  obtain⟨w,_,rfl⟩:=zQ.mp hr
  exact⟨_,_,rfl⟩
 have ng:∀ (L:List Pl),(∀p∈L,p.2.Nodup)->(mD 0 (L.map bK)).Nodup:=fun L hL=>tI fun p hp=>by
  obtain⟨p',hp',rfl⟩:=zQ.mp hp
  rw[gx]
  exact hL p' hp'
 have e1:W.map (fun w=>[w.1,w.2.1])=rT (mD 0 (G.map bK)):=Hb h.wp (ng G fun p hp=>by
   obtain⟨i,hi,e⟩:=List.getElem_of_mem hp
   exact (h.gl i p (by rw[zK hi,e])).nodup_iff.mpr (oh h.wp i)) fun r=>⟨fun hr=>by
   obtain⟨i,j,rfl⟩:=two hr
   exact (hpg i j).mp hr,fun hr=>by
   obtain⟨i,j,rfl⟩:=ll r hr
   exact (hpg i j).mpr hr⟩
 have e2:W.map (fun w=>[w.1,w.2.1])=rT ((mD 0 (T.map bK)).map List.reverse):=Hb h.wp (by
   exact List.pairwise_map.mpr (List.Pairwise.imp (fun {a b} hne e=>hne (List.reverse_inj.mp e)) (ng T fun p hp=>by
    obtain⟨i,hi,e⟩:=List.getElem_of_mem hp
    exact (h.tl i p (by rw[zK hi,e])).nodup_iff.mpr (oe h.wp i)))) fun r=>⟨fun hr=>by
   obtain⟨i,j,rfl⟩:=two hr
   exact zQ.mpr ⟨[j,i],(hpt i j).mp hr,rfl⟩,fun hr=>by
   obtain⟨r',hr',rfl⟩:=zQ.mp hr
   obtain⟨i,j,rfl⟩:=ll r' hr'
   exact (hpt j i).mpr hr'⟩
 have hw:(W.map ao).all (jW G.length T.length)=true:=by
  rw[List.all_eq_true]
  intro x hx
  obtain⟨w,hw,rfl⟩:=zQ.mp hx
  exact DR (h.wr w hw)
 have hs:∀ {L:List Pl},1<=L.length->L.length<=4->nN (.tuple (L.map bK))=true:=fun {L} a b=>by
  simp only[nN,long,zD,zF,zJ];omega
 have h3:long 3 3 (ax G T W)=true:=rfl
 have hg:=h.gok
 have ht:=h.tok
 unfold OZ Bg
 rw[h3,Bool.true_and]
 simp only[ax,cR,List.getD_cons_zero,List.getD_cons_succ,hP,<- e1,<- e2,decide_true,Bool.and_true,jJ,hs h.g1 h.g4,hs h.t1 h.t4,zD,hg,ht,hw,KP]
end
def sI(b:Bool):Int:=if b then 1 else 0
def bw(b:Bool)(w:Wy):Int:=if b then w.2.1 else w.1
def b8(b:Bool)(w:Wy):Int:=bw (!b) w
def aG(b:Bool)(G T:List Pl):List Pl:=if b then T else G
theorem jF(b:Bool)(G T:List Pl)(W:List Wy):au (ax G T W) (.int (sI b))=some (.tuple ((aG b G T).map bK)):=by cases b<;>rfl
theorem uW(G T:List Pl)(W:List Wy):au (ax G T W) (.int 2)=some (.tuple (W.map ao)):=rfl
theorem vz(b:Bool)(w:Wy):au (ao w) (.int (sI b))=some (.int (bw b w)):=by cases b<;>rfl
theorem J1(b:Bool)(w:Wy):au (ao w) (.int (1 - sI b))=some (.int (b8 b w)):=by cases b<;>rfl
theorem uX(w:Wy):au (ao w) (.int 2)=some (.int w.2.2):=rfl
theorem IL(p:Pl):au (bK p) (.int 0)=some (.int p.1):=rfl
theorem Kc(p:Pl):au (bK p) (.int 1)=some (af p.2):=rfl
theorem qb{ds:List D}{i:Nat}{d:D}(h:ds[i]?=some d):au (.tuple ds) (.int ((i:Nat):Int))=some d:=by
 show wc ds (i:Nat)=_
 exact uM h
theorem MI{ds:List D}{i:Nat}{d:D}(h:ds[i]?=some d):au (.list ds) (.int ((i:Nat):Int))=some d:=by
 show wc ds (i:Nat)=_
 exact uM h
theorem mi{α:Type}{f:α->D}{l:List α}{i:Nat}{x:α}(h:l[i]?=some x):au (.tuple (l.map f)) (.int ((i:Nat):Int))=some (f x):=qb (by rw[zO,h];rfl)
theorem Il{α:Type}{f:α->D}{l:List α}{i:Nat}{x:α}(h:l[i]?=some x):au (.list (l.map f)) (.int ((i:Nat):Int))=some (f x):=MI (by rw[zO,h];rfl)
def Nu(b:Bool)(W:List Wy)(p:Int):List Int:=(W.filter fun w=>decide (bw b w=p)).map (b8 b)
theorem Wd.lik{G T:List Pl}{W:List Wy}(h:Wd G T W){b:Bool}{i:Nat}{p:Pl}(e:(aG b G T)[i]?=some p):p.2.Perm (Nu b W i):=by
 cases b
 ·exact h.gl i p e
 ·exact h.tl i p e
theorem Wd.nod{G T:List Pl}{W:List Wy}(h:Wd G T W)(b:Bool)(i:Int):(Nu b W i).Nodup:=by
 cases b
 ·exact oh h.wp i
 ·exact oe h.wp i
theorem qJ{tt:Dl.Env->Option Bool}{te:Dl.Env->Option D}{r:List (Option D)}{p:Nat->D->Bool}{h:Nat->D->D}:∀ {ds:List D}{k:Nat},
  (∀i d,ds[i]?=some d->tt (some (.int ((k+i:Nat):Int))::some d::r)=some (p (k+i) d)/\(p (k+i) d=true->te (some (.int ((k+i:Nat):Int))::some d::r)=some (h (k+i) d))) ->
  cQ (iz 0 1) tt te (none::none::r) (bj k ds)=some (((ds.zipIdx k).filter fun q=>p q.2 q.1).map fun q=>h q.2 q.1)
 | [],k,_=>rfl
 | d::ds,k,hh=>by
  obtain⟨h1,h2⟩:=hh 0 d rfl
  have ih:=qJ (ds:=ds) (k:=k+1) fun i x hx=>by
   have:=hh (i+1) x (by simpa using hx)
   rw[show k+1+i=k+(i+1) by omega]
   exact this
  have hg:iz 0 1 (none::none::r) (.tuple [.int ((k:Nat):Int),d])=some (some (.int ((k:Nat):Int))::some d::r):=by
   simp only[iz,isFree,List.getElem?_cons_zero,List.getElem?_cons_succ,Option.getD_some,Option.isNone_none,and_self,if_true,List.set_cons_zero,List.set_cons_succ]
  rw[bj,cQ,hg,List.zipIdx_cons]
  simp only[Nat.add_zero] at h1 h2
  simp only[zA,h1]
  cases hp:p k d with
  | true=>simp[h2 hp,ih,hp]
  | false=>simp[ih,hp]
theorem D8{cs:List Nat}{fi:Dl.Env->Option (List D)}{tt:Dl.Env->Option Bool}{te:Dl.Env->Option D}{ρ:Dl.Env}{ds:List D}{p:Nat->D->Bool}{h:Nat->D->D}(hfi:fi ρ=some (bj 0 ds))(hl:ds.length<=1000)
  (hh:∀i d,ds[i]?=some d->tt (some (.int ((i:Nat):Int))::some d::cs.map fun j=>(ρ[j]?).getD none)=some (p i d)/\(p i d=true->te (some (.int ((i:Nat):Int))::some d::cs.map fun j=>(ρ[j]?).getD none)=some (h i d))) :
  ak 2 cs fi (iz 0 1) tt te ρ=some ((ds.zipIdx.filter fun q=>p q.2 q.1).map fun q=>h q.2 q.1):=by
 have:=qJ (tt:=tt) (te:=te) (r:=cs.map fun j=>(ρ[j]?).getD none) (p:=p) (h:=h) (ds:=ds) (k:=0) (by simpa using hh)
 simp only[ak,hfi,zA,eA,List.replicate,List.cons_append,List.nil_append,this]
 refine bq ?_
 rw[zD]
 refine yE (List.length_filter_le _ _) ?_
 rw[List.length_zipIdx]
 omega
theorem iM{α:Type}(f:α->Int):∀ {l m:List α},l.Perm m->(l.Pairwise fun a b=>f a<=f b)->(m.Pairwise fun a b=>f a < f b)->l=m
 | l,[],hp,_,_=>hp.eq_nil
 | [],x::m,hp,_,_=>absurd hp.symm.eq_nil (by simp)
 | y::l,x::m,hp,h1,h2=>by
  rw[List.pairwise_cons] at h1 h2
  have e:y=x:=by
   have hx:x∈y::l:=hp.mem_iff.mpr zE
   rcases zR.mp hx with z|hx
   ·exact z.symm
   ·have hy:y∈x::m:=hp.mem_iff.mp zE
    rcases zR.mp hy with z|hy
    ·exact z
    ·have:=h1.1 x hx
     have:=h2.1 y hy
     omega
  subst e
  rw[iM f ((List.perm_cons y).mp hp) h1.2 h2.2]
theorem rD{α:Type}(z:Nat->Int)(l:List α)(d:α)(f:α->Int)(h:∀i,i < l.length->z i=f (l.getD i d)):(pO z l d).Pairwise fun a b=>f a<=f b:=by
 unfold pO
 split
 ·rename_i hl
  match l,hl with
  | [],_=>exact List.Pairwise.nil
  | [a],_=>exact List.pairwise_singleton _ _
 ·rename_i hl
  obtain⟨hp,hs⟩:=SP.ix (z:=z) (n:=l.length) (by omega)
  rw[List.pairwise_map] at hs ⊢
  refine hs.imp_of_mem fun {i j} hi hj hij=>?_
  have hi':i < l.length:=by have:=hp.mem_iff.mp hi;simpa using this
  have hj':j < l.length:=by have:=hp.mem_iff.mp hj;simpa using this
  rw[<- h i hi',<- h j hj']
  exact hij
def aE(W:List Wy)(i:Nat):Wy:=W.getD i (0,0,0)
theorem jB{W:List Wy}{k:Nat}(hk:k < W.length):W[k]=aE W k:=by simp[aE,hk]
theorem mS{W:List Wy}{k:Nat}(hk:k < W.length):W[k]?=some (aE W k):=by rw[zK hk,jB hk]
def own(b:Bool)(W:List Wy)(p:Int):List Nat:=(List.range W.length).filter fun i=>decide (bw b (aE W i)=p)
def oP(b:Bool)(W:List Wy)(p o:Int):Nat:=W.findIdx fun w=>decide (bw b w=p)&&decide (b8 b w=o)
def fw(b:Bool)(W:List Wy)(p:Int)(L:List Int):List Nat:=L.map (oP b W p)
theorem cx{b:Bool}{W:List Wy}{p:Int}{i:Nat}:i∈own b W p↔i < W.length/\bw b (aE W i)=p:=by simp[own]
theorem map_range{α β:Type}(d:α)(f:α->β)(l:List α):(List.range l.length).map (fun i=>f (l.getD i d))=l.map f:=by
 apply List.ext_getElem
 ·simp
 ·intro i h1 h2
  have:i < l.length:=by simpa using h2
  simp[this]
theorem v7{α:Type}(d:α)(q:α->Bool):∀ (l:List α),((List.range l.length).filter fun i=>q (l.getD i d)).map (fun i=>l.getD i d)=l.filter q:=by
 intro l
 have e:l=(List.range l.length).map fun i=>l.getD i d:=by
  have:=map_range d (fun x=>x) l
  simp at this
  simpa using this.symm
 conv=>rhs;rw[e]
 rw[List.filter_map]
 rfl
theorem lG(b:Bool)(W:List Wy)(p:Int):(own b W p).map (fun i=>b8 b (aE W i))=Nu b W p:=by
 unfold own Nu aE
 rw[<- v7 (0,0,0) (fun w=>decide (bw b w=p)) W,zM]
 rfl
theorem vt{W:List Wy}(h:uz W){i j:Nat}(hi:i < W.length)(hj:j < W.length)(h1:(aE W i).1=(aE W j).1)(h2:(aE W i).2.1=(aE W j).2.1):i=j:=by
 have e:∀k,k < W.length->W[k]?=some (aE W k):=fun k hk=>by simp[aE,hk]
 rcases Nat.lt_trichotomy i j with z|z|z
 ·have:=List.pairwise_iff_getElem.mp h i j hi hj z
  have a:=e i hi
  have b:=e j hj
  rw[zK hi] at a
  rw[zK hj] at b
  rw[Option.some.inj a,Option.some.inj b] at this
  rcases this with z|z<;>omega
 ·exact z
 ·have:=List.pairwise_iff_getElem.mp h j i hj hi z
  have a:=e i hi
  have b:=e j hj
  rw[zK hi] at a
  rw[zK hj] at b
  rw[Option.some.inj a,Option.some.inj b] at this
  rcases this with z|z<;>omega
theorem yb{W:List Wy}(h:uz W){b:Bool}{i j:Nat}(hi:i < W.length)(hj:j < W.length)(h1:bw b (aE W i)=bw b (aE W j))(h2:b8 b (aE W i)=b8 b (aE W j)):i=j:=by
 cases b
 ·exact vt h hi hj h1 h2
 ·exact vt h hi hj h2 h1
theorem vS{W:List Wy}(h:uz W){b:Bool}{p:Int}{i:Nat}(hi:i∈own b W p):oP b W p (b8 b (aE W i))=i:=by
 obtain⟨hl,he⟩:=cx.mp hi
 have hw:W[i]=aE W i:=by simp[aE,hl]
 unfold oP
 have hlt:W.findIdx (fun w=>decide (bw b w=p)&&decide (b8 b w=b8 b (aE W i))) < W.length:=by
  apply List.findIdx_lt_length_of_exists
  exact⟨W[i],List.getElem_mem _,by rw[hw];simp[he]⟩
 have hq:=List.findIdx_getElem (w:=hlt)
 rw[zF,zJ,zJ] at hq
 rw[jB hlt] at hq
 exact yb h hlt hl (by rw[hq.1,he]) hq.2
theorem fg{G T:List Pl}{W:List Wy}(h:Wd G T W){b:Bool}{i:Nat}{p:Pl}(e:(aG b G T)[i]?=some p):(fw b W i p.2).Perm (own b W i):=by
 have h1:=(h.lik e).map (oP b W i)
 rw[<- lG b W i,zM] at h1
 have e2:(own b W i).map (oP b W i ∘ fun j=>b8 b (aE W j))=own b W i:=by
  conv=>rhs;rw[<- List.map_id (own b W i)]
  exact yJ fun j hj=>vS h.wp hj
 rw[e2] at h1
 exact h1
theorem nF{G T:List Pl}{W:List Wy}(h:Wd G T W){b:Bool}{i:Nat}{p:Pl}(e:(aG b G T)[i]?=some p){o:Int}(ho:o∈p.2):oP b W i o < W.length/\bw b (aE W (oP b W i o))=i/\b8 b (aE W (oP b W i o))=o:=by
 have hm:=(h.lik e).mem_iff.mp ho
 rw[<- lG b W i] at hm
 obtain⟨j,hj,rfl⟩:=zQ.mp hm
 rw[vS h.wp hj]
 obtain⟨h1,h2⟩:=cx.mp hj
 exact⟨h1,h2,rfl⟩
def kD(b:Bool)(W:List Wy)(L:List Int)(d:D):Int:=(L.findIdx fun o=>decide (o=b8 b (aE W (jj d).toNat)):Nat)
theorem n8:∀ {L:List Int}{x:Int},x∈L->zc x L=some (L.findIdx fun o=>decide (o=x))
 | [],x,h=>by cases h
 | o::L,x,h=>by
  unfold zc
  by_cases e:o=x
  ·simp[e,List.findIdx_cons]
  ·rw[if_neg e]
   have hx:x∈L:=(zR.mp h).resolve_left fun z=>e z.symm
   rw[n8 hx]
   simp[List.findIdx_cons,e]
theorem EN{G T:List Pl}{W:List Wy}(h:Wd G T W){b:Bool}{i:Nat}{p:Pl}(e:(aG b G T)[i]?=some p)(z:Nat->Int)(hz:∀j,j < (own b W i).length->z j=kD b W p.2 (((own b W i).map fun n=>PyData.int ((n:Nat):Int)).getD j .none)) :
  pO z ((own b W i).map fun n=>PyData.int ((n:Nat):Int)) .none=(fw b W i p.2).map fun n=>PyData.int ((n:Nat):Int):=by
 refine iM (kD b W p.2) ((gE _ _ _).trans ((fg h e).symm.map _)) (rD z _ _ _ fun j hj=>hz j (by simpa using hj)) ?_
 have hn:p.2.Nodup:=(h.lik e).nodup_iff.mpr (h.nod b i)
 unfold fw
 rw[zM,List.pairwise_map]
 have key:∀k (hk:k < p.2.length),kD b W p.2 (PyData.int ((oP b W i p.2[k]:Nat):Int))=(k:Nat):=fun k hk=>by
  obtain⟨_,_,e3⟩:=nF h e (List.getElem_mem hk)
  unfold kD
  simp only[jj,yH,e3]
  congr 1
  rw[List.findIdx_eq (by exact hk)]
  refine⟨by simp,fun j hj=>?_⟩
  have:=List.pairwise_iff_getElem.mp hn j k (by omega) hk hj
  simpa using this
 refine List.pairwise_iff_getElem.mpr fun j k hj hk hjk=>?_
 show kD b W p.2 (PyData.int ((oP b W i p.2[j]:Nat):Int)) < kD b W p.2 (PyData.int ((oP b W i p.2[k]:Nat):Int))
 rw[key j hj,key k hk]
 omega
abbrev nD(n:Nat):D:=.int ((n:Nat):Int)
theorem nY{te:Dl.Env->Option D}{ρ:Dl.Env}{h:D->D}:∀ {ds:List D},(∀d∈ds,te (ρ.set 0 (some d))=some (h d))->eM te ρ ds=some (ds.map h)
 | [],_=>rfl
 | d::ds,hh=>by
  unfold eM
  rw[hh d zE,zA,nY fun x hx=>hh x (zC _ hx)]
  rfl
theorem pZ(b:Bool)(W:List Wy)(p:Int):(own b W p).length<=W.length:=by
 unfold own
 refine yE (List.length_filter_le _ _) ?_
 rw[zS]
 exact Nat.le_refl _
theorem Ac(b:Bool)(W:List Wy)(p:Int):(((W.map ao).zipIdx.filter fun q=>decide (bw b (aE W q.2)=p)).map fun q=>nD q.2)=(own b W p).map nD:=by
 have e:(W.map ao).zipIdx=(List.range W.length).map fun i=>(ao (aE W i),i):=by
  apply List.ext_getElem
  ·simp
  ·intro i h1 h2
   have:i < W.length:=by simpa using h2
   simp[jB this]
 rw[e,List.filter_map,zM]
 rfl
theorem n6{G T:List Pl}{W:List Wy}(h:Wd G T W){b:Bool}{i:Nat}{p:Pl}(e:(aG b G T)[i]?=some p):bQ [ax G T W,.int (sI b),nD i]=some (.list ((fw b W i p.2).map nD)):=by
 have hw:=h.wl
 have ep:au (.tuple ((aG b G T).map bK)) (nD i)=some (bK p):=mi e
 have hl:=pZ b W i
 have t3:Dl.az 3 [0] (f2 au (ab 0) (fC (.int 2))) [.val (ax G T W),.val (.int (sI b)),.val (nD i),.non,.non,.non]=some (.nx [.val (ax G T W),.val (.int (sI b)),.val (nD i),.val (.tuple (W.map ao)),.non,.non]) :=
  cg (d:=.tuple (W.map ao)) rfl rfl rfl rfl
 have t4:Dl.az 4 [0,1,2] (f2 au (f2 au (f2 au (ab 0) (ab 1)) (ab 2)) (fC (.int 1))) [.val (ax G T W),.val (.int (sI b)),.val (nD i),.val (.tuple (W.map ao)),.non,.non]=some (.nx [.val (ax G T W),.val (.int (sI b)),.val (nD i),.val (.tuple (W.map ao)),.val (af p.2),.non]):=by
  refine cg (d:=af p.2) ?_ rfl rfl rfl
  rw[jR (a:=bK p) (b:=.int 1) ?_ rfl,Kc]
  rw[jR (a:=.tuple ((aG b G T).map bK)) (b:=nD i) ?_ rfl,ep]
  rw[jR (a:=ax G T W) (b:=.int (sI b)) rfl rfl,jF]
 have c5:ak 2 [1,2] (bC (aa (ab 3) ae)) (iz 0 1) (fB (f2 cq (f2 au (ab 1) (ab 2)) (ab 3))) (ab 0) [some (ax G T W),some (.int (sI b)),some (nD i),some (.tuple (W.map ao)),some (af p.2),none]=some ((own b W i).map nD):=by
  rw[D8 (ds:=W.map ao) (p:=fun j _=>decide (bw b (aE W j)=i)) (h:=fun j _=>nD j) rfl (by rw[zD];omega) fun j d hd=>?_,Ac]
  rw[zO] at hd
  obtain⟨w,hw',rfl⟩:=Dl.ag hd
  have hj:j < W.length:=(zU.mp hw').1
  rw[mS hj] at hw'
  cases hw'
  refine⟨?_,fun _=>rfl⟩
  show fB (f2 cq (f2 au (ab 1) (ab 2)) (ab 3)) [some (nD j),some (ao (aE W j)),some (.int (sI b)),some (nD i)]=_
  simp only[fB]
  rw[jR (a:=.int (bw b (aE W j))) (b:=nD i) (by rw[jR (a:=ao (aE W j)) (b:=.int (sI b)) rfl rfl,vz]) rfl,dB]
  rfl
 have t5:aK 5 [1,2,3] (ak 2 [1,2] (bC (aa (ab 3) ae)) (iz 0 1) (fB (f2 cq (f2 au (ab 1) (ab 2)) (ab 3))) (ab 0)) [.val (ax G T W),.val (.int (sI b)),.val (nD i),.val (.tuple (W.map ao)),.val (af p.2),.non]=some (.nx [.val (ax G T W),.val (.int (sI b)),.val (nD i),.val (.tuple (W.map ao)),.val (af p.2),.own ((own b W i).map nD)]):=by
  have hh:hand [1,2,3] 0 [Slot.val (ax G T W),.val (.int (sI b)),.val (nD i),.val (.tuple (W.map ao)),.val (af p.2),.non]=[Slot.val (ax G T W),.val (.int (sI b)),.val (nD i),.val (.tuple (W.map ao)),.val (af p.2),.non]:=rfl
  simp only[aK,hh,cn,zI,List.map_nil,Slot.frz,c5,zB,List.set_cons_succ,List.set_cons_zero]
 have hk:eM (f2 pH (ab 3) (f2 au (f2 au (ab 2) (ab 0)) (f2 Dl.iD (fC (.int 1)) (ab 1)))) [none,some (.int (sI b)),some (.tuple (W.map ao)),some (af p.2)] ((own b W i).map nD)=some (((own b W i).map nD).map fun d=>.int (kD b W p.2 d)):=by
  refine nY fun d hd=>?_
  obtain⟨j,hj,rfl⟩:=zQ.mp hd
  obtain⟨hjl,hje⟩:=cx.mp hj
  show f2 pH (ab 3) (f2 au (f2 au (ab 2) (ab 0)) (f2 Dl.iD (fC (.int 1)) (ab 1))) [some (nD j),some (.int (sI b)),some (.tuple (W.map ao)),some (af p.2)]=_
  have ew:au (.tuple (W.map ao)) (nD j)=some (ao (aE W j)):=mi (mS hjl)
  rw[jR (a:=af p.2) (b:=.int (b8 b (aE W j))) rfl ?_]
  ·have hm:b8 b (aE W j)∈p.2:=(h.lik e).mem_iff.mpr (by rw[<- lG];exact zQ.mpr ⟨j,hj,rfl⟩)
   simp only[pH,af,cG,zA,n8 hm,zB,kD,jj,yH]
   all_goals first|rfl|(congr 3;funext o;congr)
  ·rw[jR (a:=ao (aE W j)) (b:=.int (1 - sI b)) ?_ ?_,J1]
   ·rw[jR (a:=.tuple (W.map ao)) (b:=nD j) rfl rfl,ew]
   ·rw[jR (a:=.int 1) (b:=.int (sI b)) rfl rfl,gM]
 have hi:intsOf (((own b W i).map nD).map fun d=>PyData.int (kD b W p.2 d))=some (((own b W i).map nD).map (kD b W p.2)):=by
  rw[show (((own b W i).map nD).map fun d=>PyData.int (kD b W p.2 d))=(((own b W i).map nD).map (kD b W p.2)).map PyData.int by simp only[zM];rfl,cG]
 have t6:aF (cX (oE [1,3,4] (ab 5) (f2 pH (ab 3) (f2 au (f2 au (ab 2) (ab 0)) (f2 Dl.iD (fC (.int 1)) (ab 1)))))) [.val (ax G T W),.val (.int (sI b)),.val (nD i),.val (.tuple (W.map ao)),.val (af p.2),.own ((own b W i).map nD)]=some (.rt (.list ((fw b W i p.2).map nD))):=by
  have es:oE [1,3,4] (ab 5) (f2 pH (ab 3) (f2 au (f2 au (ab 2) (ab 0)) (f2 Dl.iD (fC (.int 1)) (ab 1)))) [some (ax G T W),some (.int (sI b)),some (nD i),some (.tuple (W.map ao)),some (af p.2),some (.list ((own b W i).map nD))]=some ((fw b W i p.2).map nD):=by
   unfold oE
   show (eM _ [none,some (.int (sI b)),some (.tuple (W.map ao)),some (af p.2)] ((own b W i).map nD)).bind _=_
   rw[hk,zA,hi,zA,if_pos (by rw[zD];omega),EN h e _ fun j hj=>?_]
   simp[hj]
  simp only[aF,bp,zI,List.map_nil,uZ,uH,cX,es,zB]
 refine aD ?_
 show lE [.val (ax G T W),.val (.int (sI b)),.val (nD i),.non,.non,.non]=_
 unfold lE
 rw[ai t3,ai t4,ai t5,t6]
local macro_rules|`(tactic| dsimp! [$ts,*])=>`(tactic| simp only[ab,fC,f1,f2,aa,ae,ah,aZ,sr,aP,g0,cX,fB,gB,bR,iZ,td,bC,bp,cn,uZ,uH,CA,B8,Bx,BQ,zI,List.map_nil,List.getElem?_cons_zero,List.getElem?_cons_succ,zA,zB,Option.getD_some,zL,List.length_nil,Nat.reduceAdd,Nat.zero_add,reduceIte,List.set_cons_succ,List.set_cons_zero,$ts,*])
theorem m6{S α:Type}{tgt:aj->D->Option aj}{gb:aj->Option Out}(R:S->aj->Prop)(f:α->D)(st:S->α->S):∀ {l:List α}{s:S}{ρ:aj},
  (∀s ρ x,x∈l->R s ρ->∃ρ1 ρ2,tgt ρ (f x)=some ρ1/\gb ρ1=some (.nx ρ2)/\R (st s x) ρ2)->R s ρ->∃ρ',cO tgt gb (l.map f) ρ=some (.nx ρ')/\R (l.foldl st s) ρ'
 | [],s,ρ,_,h=>⟨ρ,rfl,h⟩
 | d::ds,s,ρ,hh,h=>by
  obtain⟨ρ1,ρ2,e1,e2,h2⟩:=hh s ρ d zE h
  obtain⟨ρ',e3,h3⟩:=m6 R f st (fun s ρ x hx=>hh s ρ x (zC _ hx)) h2
  refine⟨ρ',?_,h3⟩
  rw[zI,cO,e1,zA,e2]
  exact e3
theorem ma{α:Type}{tgt:aj->D->Option aj}{gb:aj->Option Out}(R:aj->Prop)(f:α->D)(q:α->Bool)(out:α->D):∀ {l:List α}{ρ:aj},
  (∀ρ x,x∈l->R ρ->∃ρ1,tgt ρ (f x)=some ρ1/\(q x=true->gb ρ1=some (.rt (out x)))/\(q x=false->∃ρ2,gb ρ1=some (.nx ρ2)/\R ρ2))->R ρ ->
  (∀x,l.find? q=some x->cO tgt gb (l.map f) ρ=some (.rt (out x)))/\(l.find? q=none->∃ρ',cO tgt gb (l.map f) ρ=some (.nx ρ')/\R ρ')
 | [],ρ,_,h=>⟨fun x hx=>(by cases hx),fun _=>⟨ρ,rfl,h⟩⟩
 | x::l,ρ,hh,h=>by
  obtain⟨ρ1,e1,e2,e3⟩:=hh ρ x zE h
  rw[zI,cO,e1,zA]
  cases hq:q x with
  | true =>
   rw[List.find?_cons_of_pos (by simpa using hq),e2 hq]
   exact⟨fun y hy=>(by cases hy;rfl),fun hn=>(by cases hn)⟩
  | false =>
   obtain⟨ρ2,e4,h2⟩:=e3 hq
   rw[List.find?_cons_of_neg (by simp[hq]),e4]
   exact ma R f q out (fun ρ x hx=>hh ρ x (zC _ hx)) h2
theorem dh{fz:List Nat}{fi:Dl.Env->Option (List D)}{tgt:aj->D->Option aj}{gb:aj->Option Out}{ρ ρ1:aj}{ds:List D}{o:Option Out}(h:cO tgt gb ds ρ1=o)(hi:fi (cn ρ1)=some ds)(hh:hand fz 0 ρ=ρ1):dZ fz fi tgt gb ρ=o:=by
 simp only[dZ,hh,hi,zA,h]
theorem wq{i:Nat}{fz:List Nat}{f:Dl.Env->Option (List D)}{ρ ρ':aj}{ds:List D}(hh:hand fz 0 ρ=ρ')(hf:f (cn ρ')=some ds):aK i fz f ρ=some (.nx (ρ'.set i (.own ds))):=by
 simp only[aK,hh,hf,zB]
theorem gy{i:Nat}{fz:List Nat}{f:Dl.Env->Option (List D)}{ρ:aj}{ds:List D}(hf:f (cn ρ)=some ds)(hh:hand fz 0 ρ=ρ):aK i fz f ρ=some (.nx (ρ.set i (.own ds))):=wq hh hf
theorem mn{i:Nat}{fz:List Nat}{f:Dl.Env->Option D}{ρ ρ':aj}(hh:hand fz 0 ρ=ρ'){d:D}(hA:f (bp ρ)=some d)(hF:f (cn ρ')=some d)(hs:Dl.qF d=false)(hr:lL d=false\/ρ'=ρ:=by first|exact .inr rfl|exact .inl rfl):Dl.az i fz f ρ=some (.nx (ρ'.set i (.val d))):=by
 rcases hr with hr|hr
 ·simp only[Dl.az,hA,zA,hs,Bool.false_eq_true,if_false,hh,hF,zB,hr]
 ·subst hr
  simp only[Dl.az,hA,zA,hs,Bool.false_eq_true,if_false,hh,hF,zB,ite_self]
theorem call_of{n:Nat}{m:List D->Option D}{fs:Dl.Env->Option (List D)}{ρ:Dl.Env}{ds:List D}{d:D}(h:m ds=some d)(hf:fs ρ=some ds)(hn:ds.length=n):ah n m fs ρ=some d:=by
 unfold ah
 rw[hf,zA,if_pos hn,h]
theorem cons_of{f:Dl.Env->Option D}{fs:Dl.Env->Option (List D)}{ρ:Dl.Env}{d:D}{ds:List D}(h:f ρ=some d)(hs:fs ρ=some ds):aa f fs ρ=some (d::ds):=by
 unfold aa
 rw[h,hs]
 rfl
theorem aH{f:Dl.Env->Option D}{ρ:aj}{d:D}(hf:f (bp ρ)=some d):aF f ρ=some (.rt d):=by
 simp only[aF,hf,zB]
theorem eB{f:Dl.Env->Option D}{ρ:aj}{d:D}(hf:f (bp ρ)=some d):j4 f ρ=some (.nx ρ):=by
 simp only[j4,hf,zB]
theorem cB{t:Dl.Env->Option Bool}{g:aj->Option Out}{ρ:aj}(h:t (bp ρ)=some false):gQ t g gz ρ=some (.nx ρ):=by
 simp[gQ,h,gz]
theorem jM{t:Dl.Env->Option Bool}{g g2:aj->Option Out}{ρ:aj}(h:t (bp ρ)=some true):gQ t g g2 ρ=g ρ:=by
 simp[gQ,h]
theorem mq{g1 g2:aj->Option Out}{ρ:aj}{d:D}(h:g1 ρ=some (.rt d)):av g1 g2 ρ=some (.rt d):=by
 simp only[av,h,zA]
theorem Ek{i:Nat}{fz:List Nat}{fk f:Dl.Env->Option D}{ρ:aj}{d:D}{k:Nat}{ds:List D}(hf:f (bp ρ)=some d)(hs:Dl.qF d=true)(hk:fk (bp ρ)=some (nD k))(ho:ρ[i]?=some (.own ds))(hl:k < ds.length):AU i fz fk f ρ=some (.nx (ρ.set i (.own (ds.set k d)))):=by
 have hx:HL ds.length ((k:Nat):Int)=some k:=by
  unfold HL
  rw[if_pos (Int.natCast_nonneg k),if_pos (by omega)]
  simp
 simp only[AU,lS,hf,zA,hs,if_true,hk,nL,ho,hx,zB]
def lp{S:Type}(cont:S->Bool)(st:S->S):Nat->S->S
 | 0,s=>s
 | n+1,s=>if cont s=true then lp cont st n (st s) else s
theorem ye{S:Type}{t:Dl.Env->Option Bool}{gb:aj->Option Out}(R:S->aj->Prop)(cont:S->Bool)(st:S->S)(μ:S->Nat)
  (ht:∀s ρ,R s ρ->t (bp ρ)=some (cont s)) (hb:∀s ρ,R s ρ->cont s=true->∃ρ',gb ρ=some (.nx ρ')/\R (st s) ρ'/\μ (st s) < μ s) :
  ∀ (n:Nat) (s:S) (ρ:aj),μ s < n->R s ρ->∃ρ',IQ t gb n ρ=some (.nx ρ')/\R (lp cont st n s) ρ'/\cont (lp cont st n s)=false
 | 0,s,ρ,h,_=>absurd h (by omega)
 | n+1,s,ρ,h,r=>by
  rw[IQ,ht s ρ r,zA,lp]
  cases hc:cont s with
  | false=>exact⟨ρ,by simp,by simpa [hc] using r,by simpa [hc] using hc⟩
  | true =>
   obtain⟨ρ',e,r',hm⟩:=hb s ρ r hc
   obtain⟨ρ2,e2,r2,c2⟩:=ye R cont st μ ht hb n (st s) ρ' (by omega) r'
   refine⟨ρ2,?_,by simpa [hc] using r2,by simpa [hc] using c2⟩
   simp only[if_true,e,zA]
   exact e2
theorem oa{off:List Int}{i:Nat}(h:i < off.length):au (af off) (nD i)=some (.int (off.getD i 0)):=mi (f:=PyData.int) (l:=off) (by simp[h])
theorem Nl{off:List Int}{i:Nat}(h:i < off.length):au (.list (off.map PyData.int)) (nD i)=some (.int (off.getD i 0)):=Il (f:=PyData.int) (l:=off) (by simp[h])
theorem rL{W:List Wy}{i:Nat}(h:i < W.length):au (.tuple (W.map ao)) (nD i)=some (ao (aE W i)):=mi (mS h)
theorem O5(a b c:Int):xM [.int a,.int b,.int c]=some (.int (min (min a b) c)):=rfl
theorem Iq(l:List Int)(k:Nat)(v:Int):(l.map PyData.int).set k (.int v)=(l.set k v).map PyData.int:=by rw[List.map_set]
theorem JH(l:List Int):bI [.list (l.map PyData.int)]=some (af l):=rfl
theorem A4(l:List D):bI [.list l]=some (.tuple l):=rfl
theorem Bz(l:List D):bN [.tuple l]=some (nD l.length):=rfl
theorem Cw(l:List Int):bN [af l]=some (nD l.length):=by
 show some (PyData.int ((l.map PyData.int).length:Nat))=_
 rw[zD]
theorem D0{n:Nat}(h:n<=1000):kr [nD n]=some ((List.range n).map nD):=by
 rw[xc (Bq h),yH]
theorem qv{fs:Dl.Env->Option (List D)}{ρ:Dl.Env}{n:Nat}(h:fs ρ=some [nD n])(hn:n<=1000):bc fs ρ=some ((List.range n).map nD):=by
 unfold bc
 rw[h,zA,D0 hn]
theorem sub_int(i j:Int):Dl.iD (.int i) (.int j)=some (.int (i - j)):=gM i j
theorem zeros{fi:Dl.Env->Option (List D)}{ρ:Dl.Env}{ds:List D}(hfi:fi ρ=some ds)(hl:ds.length<=1000):ak 1 [] fi (fG 0) (fun _=>some true) (fC (.int 0)) ρ=some ((List.replicate ds.length (0:Int)).map PyData.int):=by
 rw[cf (h:=fun _=>.int 0) hfi (by omega) fun d hd=>rfl]
 simp[List.map_const']
theorem ub{r:List (Option D)}:∀ (a b:List Int),cQ (iz 0 1) (fun _=>some true) (f2 aM (ab 0) (ab 1)) (none::none::r) (kb (a.map PyData.int) (b.map PyData.int))=some ((List.zipWith (·+·) a b).map PyData.int)
 | [],b=>by cases b<;>rfl
 | x::a,[]=>rfl
 | x::a,y::b=>by
  have ih:=ub (r:=r) a b
  have hg:iz 0 1 (none::none::r) (.tuple [.int x,.int y])=some (some (.int x)::some (.int y)::r):=by
   simp only[iz,isFree,List.getElem?_cons_zero,List.getElem?_cons_succ,Option.getD_some,Option.isNone_none,and_self,if_true,List.set_cons_zero,List.set_cons_succ]
  rw[zI,zI,kb,cQ,hg,zA]
  dsimp! [fv,ih,List.zipWith_cons_cons]
theorem GB{fi:Dl.Env->Option (List D)}{ρ:Dl.Env}{a b:List Int}(hfi:fi ρ=some (kb (a.map PyData.int) (b.map PyData.int)))(hl:a.length<=1000) :
  ak 2 [] fi (iz 0 1) (fun _=>some true) (f2 aM (ab 0) (ab 1)) ρ=some ((List.zipWith (·+·) a b).map PyData.int):=by
 have:=ub (r:=[]) a b
 simp only[ak,hfi,zA,eA,List.replicate,List.map_nil,List.append_nil,this]
 refine bq ?_
 rw[zD,List.length_zipWith]
 omega
def cV(W:List Wy)(off:List Int)(left:Int)(i:Nat):Int:=min (min (off.getD i 0) (aE W i).2.2) left
def mz(W:List Wy)(off:List Int)(s:Int×List Int)(i:Nat):Int×List Int:=(s.1 - cV W off s.1 i,s.2.set i (cV W off s.1 i))
def rX(W:List Wy)(off:List Int)(amt:Int)(is:List Nat):List Int:=(is.foldl (mz W off) (amt,List.replicate W.length 0)).2
theorem By(W:List Wy)(off:List Int):∀ (is:List Nat) (s:Int×List Int),(is.foldl (mz W off) s).2.length=s.2.length
 | [],s=>rfl
 | i::is,s=>by rw[yK,By W off is];simp[mz]
theorem vQ(W:List Wy)(off:List Int)(amt:Int)(is:List Nat):(rX W off amt is).length=W.length:=by rw[rX,By];simp
theorem NL{G T:List Pl}{W:List Wy}{b:Bool}{i:Nat}{p:Pl}(e:(aG b G T)[i]?=some p):au (.tuple ((aG b G T).map bK)) (nD i)=some (bK p):=mi e
theorem MD{G T:List Pl}{W:List Wy}{off:List Int}{d1 d2:D}{s:Int×List Int}{i:Nat}(hi:i < W.length)(ho:off.length=W.length)(hs:s.2.length=W.length) :
  (av (AU 4 [0,3,5,6] (ab 6) (aZ xM (aa (f2 au (ab 3) (ab 6)) (aa (f2 au (f2 au (f2 au (ab 0) (fC (.int 2))) (ab 6)) (fC (.int 2))) (aa (ab 5) ae))))) (Dl.az 5 [4,5,6] (f2 Dl.iD (ab 5) (f2 au (ab 4) (ab 6))))) [.val (ax G T W),.val d1,.val d2,.val (af off),.own (s.2.map PyData.int),.val (.int s.1),.val (nD i)]=some (.nx [.val (ax G T W),.val d1,.val d2,.val (af off),.own ((mz W off s i).2.map PyData.int),.val (.int (mz W off s i).1),.val (nD i)]):=by
 have hv:(aZ xM (aa (f2 au (ab 3) (ab 6)) (aa (f2 au (f2 au (f2 au (ab 0) (fC (.int 2))) (ab 6)) (fC (.int 2))) (aa (ab 5) ae)))) (bp [.val (ax G T W),.val d1,.val d2,.val (af off),.own (s.2.map PyData.int),.val (.int s.1),.val (nD i)])=some (.int (cV W off s.1 i)):=by
  dsimp! [oa (show i < off.length by omega),uW,rL hi,uX,O5,cV]
 have t1:=Ek (i:=4) (fz:=[0,3,5,6]) (fk:=ab 6) (k:=i) (ds:=s.2.map PyData.int) hv rfl rfl rfl (by rw[zD];omega)
 rw[Iq] at t1
 rw[ai t1]
 have hl:i < (s.2.set i (cV W off s.1 i)).length:=by rw[yD];omega
 have hg:(s.2.set i (cV W off s.1 i)).getD i 0=cV W off s.1 i:=by
  have:i < s.2.length:=by omega
  simp[this]
 have hv2:(f2 Dl.iD (ab 5) (f2 au (ab 4) (ab 6))) (bp ([.val (ax G T W),.val d1,.val d2,.val (af off),.own (s.2.map PyData.int),.val (.int s.1),.val (nD i)].set 4 (.own ((s.2.set i (cV W off s.1 i)).map PyData.int))))=some (.int (mz W off s i).1):=by
  dsimp! [Nl hl,sub_int,hg,mz]
 rw[bO hv2 rfl]
 rfl
theorem oS{G T:List Pl}{W:List Wy}{off:List Int}(h:Wd G T W)(ho:off.length=W.length){b:Bool}{i:Nat}{p:Pl}(e:(aG b G T)[i]?=some p) :
  dY [ax G T W,.int (sI b),nD i,af off]=some (af (rX W off p.1 (fw b W i p.2))):=by
 have hw:W.length<=16:=h.wl
 have t4:aK 4 [0] (ak 1 [] (aP (f2 au (ab 0) (fC (.int 2)))) (fG 0) (fun _=>some true) (fC (.int 0))) [.val (ax G T W),.val (.int (sI b)),.val (nD i),.val (af off),.non,.non,.non]=some (.nx [.val (ax G T W),.val (.int (sI b)),.val (nD i),.val (af off),.own ((List.replicate W.length (0:Int)).map PyData.int),.non,.non]):=by
  have z:=zeros (fi:=aP (f2 au (ab 0) (fC (.int 2)))) (ρ:=cn [.val (ax G T W),.val (.int (sI b)),.val (nD i),.val (af off),.non,.non,.non]) (ds:=W.map ao) rfl (by rw[zD];omega)
  rw[zD] at z
  exact wq rfl z
 have t5:Dl.az 5 [0,1,2] (f2 au (f2 au (f2 au (ab 0) (ab 1)) (ab 2)) (fC (.int 0))) [.val (ax G T W),.val (.int (sI b)),.val (nD i),.val (af off),.own ((List.replicate W.length (0:Int)).map PyData.int),.non,.non]=some (.nx [.val (ax G T W),.val (.int (sI b)),.val (nD i),.val (af off),.own ((List.replicate W.length (0:Int)).map PyData.int),.val (.int p.1),.non]) :=
  bO (d:=.int p.1) (by dsimp! [jF,NL (W:=W) e,IL]) rfl
 obtain⟨ρ',e3,hs',x,rfl⟩:=m6 (tgt:=nu 6) (gb:=(av (AU 4 [0,3,5,6] (ab 6) (aZ xM (aa (f2 au (ab 3) (ab 6)) (aa (f2 au (f2 au (f2 au (ab 0) (fC (.int 2))) (ab 6)) (fC (.int 2))) (aa (ab 5) ae))))) (Dl.az 5 [4,5,6] (f2 Dl.iD (ab 5) (f2 au (ab 4) (ab 6)))))) (R:=fun s ρ=>s.2.length=W.length/\∃x,ρ=[.val (ax G T W),.val (.int (sI b)),.val (nD i),.val (af off),.own (s.2.map PyData.int),.val (.int s.1),x]) nD (mz W off)
  (l:=fw b W i p.2) (s:=(p.1,List.replicate W.length (0:Int))) (ρ:=[.val (ax G T W),.val (.int (sI b)),.val (nD i),.val (af off),.own ((List.replicate W.length (0:Int)).map PyData.int),.val (.int p.1),.non])
  (fun s ρ j hj ⟨hs,x,hρ⟩=>by
   subst hρ
   obtain⟨hjl,_⟩:=cx.mp ((fg h e).mem_iff.mp hj)
   refine⟨_,_,rfl,MD hjl ho hs,?_,.val (nD j),rfl⟩
   simp[mz,hs]) ⟨by simp,_,rfl⟩
 refine aD ?_
 show ip [.val (ax G T W),.val (.int (sI b)),.val (nD i),.val (af off),.non,.non,.non]=_
 unfold ip
 rw[ai t4,ai t5,ai (dh e3 (by dsimp! [n6 h e]) rfl)]
 exact aH rfl
def cA(b:Bool)(G T:List Pl)(i:Nat):Pl:=(aG b G T).getD i (0,[])
def ze(b:Bool)(G T:List Pl)(W:List Wy)(off s:List Int)(i:Nat):List Int:=List.zipWith (·+·) s (rX W off (cA b G T i).1 (fw b W i (cA b G T i).2))
def bo(b:Bool)(G T:List Pl)(W:List Wy)(off:List Int):List Int:=(List.range (aG b G T).length).foldl (ze b G T W off) (List.replicate W.length 0)
theorem gT{b:Bool}{G T:List Pl}{i:Nat}(h:i < (aG b G T).length):(aG b G T)[i]?=some (cA b G T i):=by simp[cA,h]
theorem pK{b:Bool}{G T:List Pl}{W:List Wy}{off s:List Int}{i:Nat}(h:s.length=W.length):(ze b G T W off s i).length=W.length:=by
 unfold ze
 rw[List.length_zipWith,vQ,h,Nat.min_self]
theorem lg{S α:Type}{f:S->α->S}(R:S->Prop):∀ {l:List α}{s:S},(∀s x,x∈l->R s->R (f s x))->R s->R (l.foldl f s)
 | [],s,_,h=>h
 | x::l,s,hh,h=>by
  rw[yK]
  exact lg (l:=l) R (fun s y hy=>hh s y (zC _ hy)) (hh s x zE h)
theorem gp(b:Bool)(G T:List Pl)(W:List Wy)(off:List Int):(bo b G T W off).length=W.length :=
 lg (fun s:List Int=>s.length=W.length) (fun s i _ h=>pK h) (by simp)
theorem Wd.pl{G T:List Pl}{W:List Wy}(h:Wd G T W)(b:Bool):(aG b G T).length<=4:=by
 cases b
 ·exact h.g4
 ·exact h.t4
def Qo:aj->Option Out:=(av (Dl.az 5 [0,1,2,4] (ah 4 dY (aa (ab 0) (aa (ab 1) (aa (ab 4) (aa (ab 2) ae)))))) (aK 3 [3,5] (ak 2 [] (jU (aa (ab 3) (aa (ab 5) ae))) (iz 0 1) (fun _=>some true) (f2 aM (ab 0) (ab 1)))))
theorem fK{G T:List Pl}{W:List Wy}{off:List Int}(h:Wd G T W)(ho:off.length=W.length)(b:Bool) :
  aV [ax G T W,.int (sI b),af off]=some (af (bo b G T W off)):=by
 have hw:W.length<=16:=h.wl
 have hp:=h.pl b
 have t3:aK 3 [0] (ak 1 [] (aP (f2 au (ab 0) (fC (.int 2)))) (fG 0) (fun _=>some true) (fC (.int 0))) [.val (ax G T W),.val (.int (sI b)),.val (af off),.non,.non,.non]=some (.nx [.val (ax G T W),.val (.int (sI b)),.val (af off),.own ((List.replicate W.length (0:Int)).map PyData.int),.non,.non]):=by
  have z:=zeros (fi:=aP (f2 au (ab 0) (fC (.int 2)))) (ρ:=cn [.val (ax G T W),.val (.int (sI b)),.val (af off),.non,.non,.non]) (ds:=W.map ao) rfl (by rw[zD];omega)
  rw[zD] at z
  exact gy z rfl
 obtain⟨ρ',e3,hs',x,y,rfl⟩:=m6 (tgt:=nu 4) (gb:=Qo) (R:=fun s ρ=>s.length=W.length/\∃x y,ρ=[.val (ax G T W),.val (.int (sI b)),.val (af off),.own (s.map PyData.int),x,y]) nD (ze b G T W off)
  (l:=List.range (aG b G T).length) (s:=List.replicate W.length (0:Int)) (ρ:=[.val (ax G T W),.val (.int (sI b)),.val (af off),.own ((List.replicate W.length (0:Int)).map PyData.int),.non,.non])
  (fun s ρ i hi ⟨hs,x,y,hρ⟩=>by
   subst hρ
   have ei:=gT (zT.mp hi)
   have t1:Dl.az 5 [0,1,2,4] (ah 4 dY (aa (ab 0) (aa (ab 1) (aa (ab 4) (aa (ab 2) ae))))) [.val (ax G T W),.val (.int (sI b)),.val (af off),.own (s.map PyData.int),.val (nD i),y]=some (.nx [.val (ax G T W),.val (.int (sI b)),.val (af off),.own (s.map PyData.int),.val (nD i),.val (af (rX W off (cA b G T i).1 (fw b W i (cA b G T i).2)))]):=by
    refine mn (ρ':=[.val (ax G T W),.val (.int (sI b)),.val (af off),.own (s.map PyData.int),.val (nD i),y]) rfl (d:=af (rX W off (cA b G T i).1 (fw b W i (cA b G T i).2))) ?_ ?_ rfl
    ·dsimp! [oS h ho ei]
    ·dsimp! [oS h ho ei]
   have t2:aK 3 [3,5] (ak 2 [] (jU (aa (ab 3) (aa (ab 5) ae))) (iz 0 1) (fun _=>some true) (f2 aM (ab 0) (ab 1))) [.val (ax G T W),.val (.int (sI b)),.val (af off),.own (s.map PyData.int),.val (nD i),.val (af (rX W off (cA b G T i).1 (fw b W i (cA b G T i).2)))]=some (.nx [.val (ax G T W),.val (.int (sI b)),.val (af off),.own ((ze b G T W off s i).map PyData.int),.val (nD i),.val (af (rX W off (cA b G T i).1 (fw b W i (cA b G T i).2)))]):=by
    refine wq (ρ':=[.val (ax G T W),.val (.int (sI b)),.val (af off),.val (.list (s.map PyData.int)),.val (nD i),.val (af (rX W off (cA b G T i).1 (fw b W i (cA b G T i).2)))]) rfl (ds:=(ze b G T W off s i).map PyData.int) ?_
    exact GB (a:=s) (b:=rX W off (cA b G T i).1 (fw b W i (cA b G T i).2)) rfl (by omega)
   exact⟨_,_,rfl,(ai t1).trans t2,pK hs,_,_,rfl⟩) ⟨by simp,_,_,rfl⟩
 refine aD ?_
 show dD [.val (ax G T W),.val (.int (sI b)),.val (af off),.non,.non,.non]=_
 unfold dD
 rw[ai t3]
 refine (ai (dh e3 (qv (by dsimp! [jF,Bz,zD]) (by omega)) rfl)).trans ?_
 exact aH rfl
theorem wg{xs ys:List D}(h:(xs++ys).length<=4000):Dl.aM (.tuple xs) (.tuple ys)=some (.tuple (xs++ys)):=by
 simp only[Dl.aM,wY,JI,bq h,zB,Option.none_or,Option.some_or]
theorem N9{f:Dl.Env->Option D}{ρ:Dl.Env}{d:D}(h:f ρ=some d):aN (aa f ae) ρ=some (.tuple [d]):=by
 simp only[aN,aa,ae,h,zA,zB]
 rw[bq (by simp),zB]
theorem F8{f g:Dl.Env->Option D}{ρ:Dl.Env}{d e:D}(h:f ρ=some d)(h2:g ρ=some e):aN (aa f (aa g ae)) ρ=some (.tuple [d,e]):=by
 simp only[aN,aa,ae,h,h2,zA,zB]
 rw[bq (by simp),zB]
theorem aw{g:D->D->Option D}{fa fb:Dl.Env->Option D}{ρ:Dl.Env}{a b c:D}(h:g a b=some c)(ha:fa ρ=some a)(hb:fb ρ=some b):f2 g fa fb ρ=some c:=by rw[jR ha hb,h]
theorem MZ{f g:Dl.Env->Option D}{ρ:Dl.Env}{ds:List D}{k:Nat}(h:f ρ=some (.tuple ds))(h2:g ρ=some (nD k)):n0 jc f og (Ee g) ρ=some (.tuple (ds.take k)):=by
 simp only[n0,h,og,Ee,h2,zA,gI,zB,jc,FW]
theorem La{f g:Dl.Env->Option D}{ρ:Dl.Env}{ds:List D}{k:Nat}(h:f ρ=some (.tuple ds))(h2:g ρ=some (nD k)):n0 jc f (Ee g) og ρ=some (.tuple (ds.drop k)):=by
 simp only[n0,h,og,Ee,h2,zA,gI,zB,jc,yZ]
theorem Ob(d:D)(ds:List D):au (.tuple (d::ds)) (.int 0)=some d:=qb (i:=0) rfl
theorem P2(c d:D)(ds:List D):au (.tuple (c::d::ds)) (.int 1)=some d:=qb (i:=1) rfl
theorem Cs(c:List Int)(i:Nat)(v:Int)(h:i < c.length):((c.map PyData.int).take i++[PyData.int v])++(c.map PyData.int).drop (i+1)=(c.set i v).map PyData.int:=by
 rw[List.set_eq_take_append_cons_drop,if_pos h]
 simp
theorem Qz(i:Nat):Dl.aM (nD i) (.int 1)=some (nD (i+1)):=by
 rw[fv]
 rfl
theorem Ak{c:List Int}{i:Nat}{v:Int}(h:i < c.length)(hl:c.length<=1000):jP [af c,nD i,.int v]=some (af (c.set i v)):=by
 refine aD ?_
 show lW [.val (af c),.val (nD i),.val (.int v)]=_
 refine aH ?_
 refine aw (a:=.tuple ((c.map PyData.int).take i++[PyData.int v])) (b:=.tuple ((c.map PyData.int).drop (i+1))) ?_ (aw (a:=.tuple ((c.map PyData.int).take i)) (b:=.tuple [.int v]) (wg ?_) (MZ rfl rfl) (N9 rfl)) (La rfl (aw (Qz i) rfl rfl))
 ·rw[wg,Cs c i v h]
  ·rfl
  ·rw[Cs c i v h];simp;omega
 ·simp;omega
theorem ur{c:List Int}{i:Nat}{v:Int}(h:i < c.length)(hl:c.length<=1000):ck [af c,nD i,.int v]=some (af (c.set i v)):=by
 refine aD ?_
 show oG [.val (af c),.val (nD i),.val (.int v)]=_
 exact aH (call_of (Ak h hl) rfl rfl)
def d5(W:List Wy):List Int:=W.map fun w=>w.2.2
theorem FQ{G T:List Pl}{W:List Wy}(h:Wd G T W){f:Dl.Env->Option D}{ρ:Dl.Env}(hf:f ρ=some (ax G T W)):(aZ bI (aa (cX (ak 1 [] (aP (f2 au f (fC (.int 2)))) (fG 0) (fun _=>some true) (f2 au (ab 0) (fC (.int 2))))) ae)) ρ=some (af (d5 W)):=by
 have hw:=h.wl
 have hs:(aP (f2 au f (fC (.int 2)))) ρ=some (W.map ao):=by
  unfold aP
  rw[aw (uW G T W) hf rfl]
  rfl
 have e:ak 1 [] (aP (f2 au f (fC (.int 2)))) (fG 0) (fun _=>some true) (f2 au (ab 0) (fC (.int 2))) ρ=some ((d5 W).map PyData.int):=by
  rw[cf (h:=fun d=>.int (jj ((cR d).getD 2 .none))) hs (by rw[zD];omega) fun d hd=>?_]
  ·rw[d5,zM,zM]
   rfl
  ·obtain⟨w,hw',rfl⟩:=zQ.mp hd
   rfl
 simp only[aZ,aa,ae,cX,e,zB,zA,JH]
theorem mN{G T:List Pl}{W:List Wy}(h:Wd G T W):fj [ax G T W]=some (af (d5 W)):=by
 refine aD ?_
 show qc [.val (ax G T W)]=_
 exact aH (FQ h rfl)
theorem mV(W:List Wy):(d5 W).length=W.length:=by simp[d5]
def jT(G T:List Pl)(W:List Wy)(c:List Int):List Int:=bo true G T W (bo false G T W c)
def qR(G T:List Pl)(W:List Wy)(c:List Int)(k:Nat):Bool:=decide ((jT G T W c).getD k 0 < (bo false G T W c).getD k 0)
def rV(G T:List Pl)(W:List Wy)(c:List Int):Option (Nat×Int):=((List.range W.length).find? (qR G T W c)).map fun k=>(k,(jT G T W c).getD k 0)
def AI:Option (Nat×Int)->D
 | none=>.none
 | some p=>.tuple [nD p.1,.int p.2]
theorem enum_zip:∀ (ds:List D) (k:Nat),bj k ds=(ds.zipIdx k).map fun q=>.tuple [nD q.2,q.1]
 | [],k=>rfl
 | d::ds,k=>by rw[bj,enum_zip ds (k+1),List.zipIdx_cons];rfl
theorem CU(l:List Int):bj 0 (l.map PyData.int)=(List.range l.length).map fun k=>.tuple [nD k,.int (l.getD k 0)]:=by
 rw[enum_zip]
 apply List.ext_getElem
 ·simp
 ·intro i h1 h2
  have:i < l.length:=by simpa using h2
  simp[this]
theorem Lw(G T:List Pl)(W:List Wy)(c:List Int):(jT G T W c).length=W.length:=gp _ _ _ _ _
def O3:aj->Option Out:=(gQ (fB (f2 wX (ab 5) (f2 au (ab 2) (ab 4)))) (aF (aN (aa (ab 4) (aa (ab 5) ae)))) gz)
theorem lx{G T:List Pl}{W:List Wy}{c:List Int}(h:Wd G T W)(ho:c.length=W.length):dS [ax G T W,af c]=some (AI (rV G T W c)):=by
 have hw:W.length<=16:=h.wl
 have t2:Dl.az 2 [0,1] (ah 3 aV (aa (ab 0) (aa (fC (.int 0)) (aa (ab 1) ae)))) [.val (ax G T W),.val (af c),.non,.non,.non,.non]=some (.nx [.val (ax G T W),.val (af c),.val (af (bo false G T W c)),.non,.non,.non]) :=
  cg (call_of (fK h ho false) rfl rfl) rfl rfl rfl
 have t3:Dl.az 3 [0,2] (ah 3 aV (aa (ab 0) (aa (fC (.int 1)) (aa (ab 2) ae)))) [.val (ax G T W),.val (af c),.val (af (bo false G T W c)),.non,.non,.non]=some (.nx [.val (ax G T W),.val (af c),.val (af (bo false G T W c)),.val (af (jT G T W c)),.non,.non]) :=
  cg (call_of (fK h (gp _ _ _ _ _) true) rfl rfl) rfl rfl rfl
 have hl:=ma (tgt:=hU 4 5) (gb:=O3) (R:=fun ρ=>∃x y,ρ=[.val (ax G T W),.val (af c),.val (af (bo false G T W c)),.val (af (jT G T W c)),x,y]) (fun k=>.tuple [nD k,.int ((jT G T W c).getD k 0)]) (qR G T W c) (fun k=>.tuple [nD k,.int ((jT G T W c).getD k 0)])
  (l:=List.range W.length) (ρ:=[.val (ax G T W),.val (af c),.val (af (bo false G T W c)),.val (af (jT G T W c)),.non,.non])
  (fun ρ k hk ⟨x,y,hρ⟩=>by
   subst hρ
   have hk':k < (bo false G T W c).length:=by rw[gp];exact zT.mp hk
   have hc:(fB (f2 wX (ab 5) (f2 au (ab 2) (ab 4)))) (bp [.val (ax G T W),.val (af c),.val (af (bo false G T W c)),.val (af (jT G T W c)),.val (nD k),.val (.int ((jT G T W c).getD k 0))])=some (qR G T W c k):=by
    dsimp! [oa hk',hV,qR]
   refine⟨[.val (ax G T W),.val (af c),.val (af (bo false G T W c)),.val (af (jT G T W c)),.val (nD k),.val (.int ((jT G T W c).getD k 0))],rfl,fun hq=>?_,fun hq=>?_⟩
   ·rw[hq] at hc
    unfold O3
    rw[jM hc]
    exact aH (F8 rfl rfl)
   ·rw[hq] at hc
    unfold O3
    rw[cB hc]
    exact⟨_,rfl,_,_,rfl⟩) ⟨_,_,rfl⟩
 have hi:(bC (aa (ab 3) ae)) (cn [.val (ax G T W),.val (af c),.val (af (bo false G T W c)),.val (af (jT G T W c)),.non,.non])=some ((List.range W.length).map fun k=>.tuple [nD k,.int ((jT G T W c).getD k 0)]):=by
  have:=CU (jT G T W c)
  rw[Lw] at this
  rw[<- this]
  rfl
 refine aD ?_
 show lz [.val (ax G T W),.val (af c),.non,.non,.non,.non]=_
 unfold lz
 rw[ai t2,ai t3]
 unfold rV
 cases hq:(List.range W.length).find? (qR G T W c) with
 | some k =>
  exact mq (dh (hl.1 k hq) hi rfl)
 | none =>
  obtain⟨ρ',e,x,y,rfl⟩:=hl.2 hq
  exact (ai (dh e hi rfl)).trans (aH rfl)
theorem cJ(l:List Int)(k:Nat)(v:Int)(i:Nat):(l.set k v).getD i 0=if k=i/\i < l.length then v else l.getD i 0:=by
 simp only[zG,List.getElem?_set]
 by_cases h:k=i
 ·subst h
  by_cases h2:k < l.length
  ·simp[h2]
  ·simp[h2]
 ·simp[h]
theorem xA{a b:List Int}{i:Nat}(ha:i < a.length)(hb:i < b.length):(List.zipWith (·+·) a b).getD i 0=a.getD i 0+b.getD i 0:=by
 rw[zG,zG,zG,List.getElem?_zipWith,zK ha,zK hb]
 rfl
def Off(off:List Int):Prop:=∀i,0<=off.getD i 0
def Py(W:List Wy):Prop:=∀i,0<=(aE W i).2.2
theorem Wd.lim{G T:List Pl}{W:List Wy}(h:Wd G T W):Py W:=fun i=>by
 by_cases hi:i < W.length
 ·have:=h.wr (aE W i) (by rw[<- jB hi];exact List.getElem_mem hi)
  omega
 ·simp only[aE,zG]
  rw[List.getElem?_eq_none (by omega)]
  simp
theorem Wd.amt{G T:List Pl}{W:List Wy}(h:Wd G T W)(b:Bool)(i:Nat):0<=(cA b G T i).1:=by
 unfold cA
 rw[zG]
 cases e:(aG b G T)[i]? with
 | none=>simp
 | some p =>
  have hm:=List.mem_of_getElem? e
  cases b
  ·exact (h.ga p hm).1
  ·exact (h.ta p hm).1
theorem MK{W:List Wy}{off:List Int}(ho:Off off)(hl:Py W){amt:Int}(ha:0<=amt)(is:List Nat)(i:Nat):0<=(rX W off amt is).getD i 0/\(rX W off amt is).getD i 0<=off.getD i 0:=by
 have:=lg (l:=is) (f:=mz W off) (s:=(amt,List.replicate W.length 0)) (fun s=>0<=s.1/\∀i,0<=s.2.getD i 0/\s.2.getD i 0<=off.getD i 0) (fun s k _ ⟨h1,h2⟩=>by
  have ok:=ho k
  have lk:=hl k
  have v0:0<=cV W off s.1 k:=by unfold cV;omega
  have v1:cV W off s.1 k<=off.getD k 0:=by unfold cV;omega
  have v2:cV W off s.1 k<=s.1:=by unfold cV;omega
  refine⟨by simp only[mz];omega,fun i=>?_⟩
  simp only[mz,cJ]
  split
  ·rename_i z
   rw[<- z.1]
   exact⟨v0,v1⟩
  ·exact h2 i) ⟨ha,fun i=>by
   have:=ho i
   have z:(List.replicate W.length (0:Int)).getD i 0=0:=by
    simp only[zG,List.getElem?_replicate]
    split<;>rfl
   simp only[z]
   omega⟩
 exact this.2 i
theorem BI{W:List Wy}{off:List Int}{amt:Int}{is:List Nat}{i:Nat}(hi:i∉is):(rX W off amt is).getD i 0=0:=by
 refine lg (l:=is) (f:=mz W off) (s:=(amt,List.replicate W.length 0)) (fun s=>s.2.getD i 0=0) (fun s k hk h=>?_) ?_
 ·simp only[mz,cJ]
  have hki:¬ (k=i/\i < s.2.length):=fun z=>hi (z.1 ▸ hk)
  rw[if_neg hki,h]
 ·simp only[zG,List.getElem?_replicate]
  split<;>rfl
theorem vo{G T:List Pl}{W:List Wy}(h:Wd G T W){off:List Int}(ho:Off off)(b:Bool):∀ (n:Nat),n<=(aG b G T).length ->
  ((List.range n).foldl (ze b G T W off) (List.replicate W.length 0)).length=W.length/\∀i,i < W.length->(0<=((List.range n).foldl (ze b G T W off) (List.replicate W.length 0)).getD i 0/\((List.range n).foldl (ze b G T W off) (List.replicate W.length 0)).getD i 0<=off.getD i 0)/\((n:Nat)<=bw b (aE W i)->((List.range n).foldl (ze b G T W off) (List.replicate W.length 0)).getD i 0=0)
 | 0,_=>by
  refine⟨by simp,fun i hi=>?_⟩
  have:=ho i
  have z:((List.range 0).foldl (ze b G T W off) (List.replicate W.length 0)).getD i 0=0:=by simp[zG,hi]
  rw[z]
  exact⟨by omega,fun _=>rfl⟩
 | n+1,hn=>by
  obtain⟨h1,h2⟩:=vo h ho b n (by omega)
  rw[List.range_succ,List.foldl_append,yK,List.foldl_nil]
  generalize (List.range n).foldl (ze b G T W off) (List.replicate W.length 0)=s at h1 h2
  refine⟨pK h1,fun i hi=>?_⟩
  obtain⟨h3,h4⟩:=h2 i hi
  have e:=gT (b:=b) (G:=G) (T:=T) (i:=n) (by omega)
  have hc:=MK ho h.lim (h.amt b n) (fw b W n (cA b G T n).2) i
  have hz:(ze b G T W off s n).getD i 0=s.getD i 0+(rX W off (cA b G T n).1 (fw b W n (cA b G T n).2)).getD i 0:=xA (by omega) (by rw[vQ];exact hi)
  rw[hz]
  by_cases he:bw b (aE W i)=n
  ·rw[h4 (by omega)]
   exact⟨by omega,fun z=>by omega⟩
  ·have hni:i∉fw b W n (cA b G T n).2:=fun z=>he (cx.mp ((fg h e).mem_iff.mp z)).2
   rw[BI hni]
   exact⟨by omega,fun z=>by rw[h4 (by omega)];rfl⟩
theorem gF{l:List Int}{i:Nat}(h:l.length<=i):l.getD i 0=0:=by simp[zG,h]
theorem jo{G T:List Pl}{W:List Wy}(h:Wd G T W){off:List Int}(ho:Off off)(b:Bool):Off (bo b G T W off):=fun i=>by
 by_cases hi:i < W.length
 ·exact ((vo h ho b _ (Nat.le_refl _)).2 i hi).1.1
 ·rw[gF (by rw[gp];omega)]
  exact Int.le_refl 0
theorem Af{G T:List Pl}{W:List Wy}(h:Wd G T W){off:List Int}(ho:Off off)(b:Bool){i:Nat}(hi:i < W.length):(bo b G T W off).getD i 0<=off.getD i 0 :=
 ((vo h ho b _ (Nat.le_refl _)).2 i hi).1.2
theorem CK{G T:List Pl}{W:List Wy}(h:Wd G T W){c:List Int}(ho:Off c){p:Nat×Int}(e:rV G T W c=some p):p.1 < W.length/\0<=p.2/\p.2 < c.getD p.1 0:=by
 unfold rV at e
 obtain⟨k,hk,rfl⟩:=Dl.ag e
 have hm:=List.mem_of_find?_eq_some hk
 have hq:=List.find?_some hk
 have hi:=zT.mp hm
 rw[qR,zJ] at hq
 have a:=Af h ho false hi
 have b:=jo h (jo h ho false) true k
 exact⟨hi,b,by simp only;omega⟩
def mea(c:List Int):Nat:=(c.map Int.toNat).sum
theorem BB:∀ {c:List Int}{k:Nat}{v:Int},0<=v->v < c.getD k 0->mea (c.set k v) < mea c
 | [],k,v,h0,h1=>by simp at h1;omega
 | x::c,0,v,h0,h1=>by
  simp at h1
  simp only[mea,List.set_cons_zero,zI,List.sum_cons]
  omega
 | x::c,k+1,v,h0,h1=>by
  have:=BB (c:=c) (k:=k) h0 (by simpa using h1)
  simp only[mea,List.set_cons_succ,zI,List.sum_cons] at this ⊢
  omega
theorem BS:∀ {W:List Wy},(∀w∈W,w.2.2<=9)->mea (d5 W)<=9 * W.length
 | [],_=>by simp[mea,d5]
 | w::W,h=>by
  have:=BS (W:=W) fun x hx=>h x (zC _ hx)
  have:=h w zE
  simp only[mea,d5,zI,List.sum_cons,zL] at *
  omega
theorem Iy{G T:List Pl}{W:List Wy}(h:Wd G T W):Off (d5 W):=fun i=>by
 have:=h.lim i
 by_cases hi:i < W.length
 ·simpa [d5,aE,zG,hi] using this
 ·rw[gF (by rw[mV];omega)]
  exact Int.le_refl 0
theorem Cr{c:List Int}(h:Off c){k:Nat}{v:Int}(hv:0<=v):Off (c.set k v):=fun i=>by
 rw[cJ]
 split
 ·exact hv
 ·exact h i
theorem mh(a:List Int):SeqAt.shaped (af a)=true :=
 (jz.tup (b:=a.length) (k:=0) (by simp) fun x hx=>by obtain⟨i,_,rfl⟩:=zQ.mp hx;exact mE _).shaped (by decide)
theorem xN(a b:List Int):PyData.eqv (af a) (af b)=decide (a=b):=by
 rw[af,af,PyData.eqv,ny]
theorem cM{f:Dl.Env->Option D}{ρ:Dl.Env}{b:Bool}(h:f ρ=some (.bool b)):fB f ρ=some b:=by
 simp only[fB,h,zA,gB]
theorem gn{t:Dl.Env->Option Bool}{ρ:Dl.Env}{b:Bool}(h:t ρ=some b):bR t ρ=some (!b):=by
 simp only[bR,h,zB]
theorem K7{t u:Dl.Env->Option Bool}{ρ:Dl.Env}(h:t ρ=some false)(h2:u ρ=some false):td t u ρ=some false:=by
 simp only[td,h,zA,h2]
theorem xQ(a b:List Int):oC (af a) (af b)=some (.bool (!decide (a=b))):=by
 simp only[oC,NJ,mh,and_self,if_true,xN,zB]
theorem FK(a b:List Int):cq (af a) (af b)=some (.bool (decide (a=b))):=by
 simp only[cq,MA,mh,and_self,if_true,xN,zB]
theorem De(a:List Int):oC (af a) (af a)=some (.bool false):=by rw[xQ];simp
theorem JF(x:Option (Nat×Int)):oH (AI x) .none=some (.bool x.isSome):=by cases x<;>rfl
theorem bD{i:Nat}{fz:List Nat}{f:Dl.Env->Option D}{ρ:aj}{d:D}(hA:f (bp ρ)=some d)(hF:f (cn ρ)=some d)(hh:hand fz 0 ρ=ρ):Dl.az i fz f ρ=some (.nx (ρ.set i (.val d))):=by
 cases hs:Dl.qF d with
 | true=>exact bO hA hs
 | false=>exact mn hh hA hF hs (.inr rfl)
theorem Mg{i:Nat}{fz:List Nat}{f:Dl.Env->Option D}{ρ:aj}{d:D}{ds:List D}(hA:f (bp ρ)=some d)(hF:f (cn ρ)=some d)(hh:hand fz 0 ρ=ρ)(ho:ρ[i]?=some (.own ds))(hl:ds.length < 4000):md i fz f ρ=some (.nx (ρ.set i (.own (ds++[d])))):=by
 have hz:ds.length < sizeLine:=zP hl (by decide)
 have hi:lS fz f ρ=some (d,ρ):=by
  unfold lS
  rw[hA,zA,hh,hF]
  cases Dl.qF d<;>rfl
 simp only[md,hi,zA,nL,ho,hz,if_true,zB]
theorem e8{G T:List Pl}{W:List Wy}(h:Wd G T W):bb [ax G T W]=some .none:=by
 have hw:cy [ax G T W]=some (.bool true):=by rw[Bb h.fit (by decide),h.wok]
 have hc:(bR (fB (ah 1 cy (aa (ab 0) ae)))) (bp [.val (ax G T W)])=some false:=gn (cM (call_of hw rfl rfl))
 have:dA [.val (ax G T W)]=some (.nx [.val (ax G T W)]):=by
  unfold dA
  rw[cB hc]
 show (dA [.val (ax G T W)]).map _=_
 rw[this]
 rfl
theorem sX{a b:Int}{i:Int}(h1:a<=i)(h2:i<=b):e9 [.int i,.int a,.int b]=some .none:=by
 have hw:aO [.int i,.int a,.int b]=some (.bool true):=by rw[gJ rfl];simp[whole,h1,h2]
 have hc:(bR (fB (ah 3 aO (aa (ab 0) (aa (ab 1) (aa (ab 2) ae)))))) (bp [.val (.int i),.val (.int a),.val (.int b)])=some false:=gn (cM (call_of hw rfl rfl))
 have:dw [.val (.int i),.val (.int a),.val (.int b)]=some (.nx [.val (.int i),.val (.int a),.val (.int b)]):=by
  unfold dw
  rw[cB hc]
 show (dw [.val (.int i),.val (.int a),.val (.int b)]).map _=_
 rw[this]
 rfl
theorem j9{n i:Int}(h1:0<=i)(h2:i<=n - 1):b9 [.int i,.int n]=some .none:=by
 have:cU [.val (.int i),.val (.int n)]=some (.nx [.val (.int i),.val (.int n)]):=by
  unfold cU
  exact eB (call_of (sX h1 h2) (cons_of rfl (cons_of rfl (cons_of (aw (sub_int n 1) rfl rfl) rfl))) rfl)
 show (cU [.val (.int i),.val (.int n)]).map _=_
 rw[this]
 rfl
theorem u6(b:Bool):fX [.int (sI b)]=some .none:=by
 have:eD [.val (.int (sI b))]=some (.nx [.val (.int (sI b))]):=by
  unfold eD
  exact eB (call_of (j9 (n:=2) (i:=sI b) (by cases b<;>decide) (by cases b<;>decide)) rfl rfl)
 show (eD [.val (.int (sI b))]).map _=_
 rw[this]
 rfl
abbrev Sp:=List (Nat×Int)×List Int
def KL(G T:List Pl)(W:List Wy)(s:Sp):Bool:=(rV G T W s.2).isSome
def spS(G T:List Pl)(W:List Wy)(s:Sp):Sp:=match rV G T W s.2 with|some p=>(s.1++[p],s.2.set p.1 p.2)|none=>s
def low(c:List Int)(p:Nat×Int):List Int:=c.set p.1 p.2
structure zl(W:List Wy)(s:Sp):Prop where
 len:s.2.length=W.length
 off:Off s.2
 eq:s.2=s.1.foldl low (d5 W)
 bd:s.1.length+mea s.2<=mea (d5 W)
 mem:∀p∈s.1,p.1 < W.length
theorem zl.start{G T:List Pl}{W:List Wy}(h:Wd G T W):zl W ([],d5 W):=⟨mV W,Iy h,rfl,by simp,fun p hp=>by cases hp⟩
theorem rE{G T:List Pl}{W:List Wy}{s:Sp}{p:Nat×Int}(e:rV G T W s.2=some p):spS G T W s=(s.1++[p],s.2.set p.1 p.2):=by
 unfold spS
 rw[e]
theorem zl.step{G T:List Pl}{W:List Wy}(h:Wd G T W){s:Sp}(i:zl W s){p:Nat×Int}(e:rV G T W s.2=some p):zl W (spS G T W s)/\mea (spS G T W s).2 < mea s.2:=by
 obtain⟨h1,h2,h3⟩:=CK h i.off e
 have hm:=BB h2 h3
 rw[rE e]
 refine⟨⟨by simp[i.len],Cr i.off h2,?_,?_,fun q hq=>?_⟩,hm⟩
 ·rw[List.foldl_append,<- i.eq]
  rfl
 ·have:=i.bd
  simp only[zN,List.length_singleton]
  omega
 ·rcases List.mem_append.mp hq with z|z
  ·exact i.mem q z
  ·rw[yL] at z
   rw[z]
   exact h1
theorem Wd.mea{G T:List Pl}{W:List Wy}(h:Wd G T W):mea (d5 W)<=144:=by
 have:=BS (W:=W) fun w hw=>(h.wr w hw).2.2.2
 have:=h.wl
 omega
def rW(r:List (Nat×Int)):List D:=(r.map fun p=>[((p.1:Nat):Int),p.2]).map af
theorem IJ(r:List (Nat×Int))(p:Nat×Int):rW (r++[p])=rW r++[AI (some p)]:=by simp[rW];rfl
theorem Im(r:List (Nat×Int)):(rW r).length=r.length:=by simp[rW]
def fin(G T:List Pl)(W:List Wy):Sp:=lp (KL G T W) (spS G T W) Rf.turns ([],d5 W)
def Pm:aj->Option Out:=(av (md 1 [3] (ab 3)) (av (Dl.az 2 [2,3] (ah 3 ck (aa (ab 2) (aa (f2 au (ab 3) (fC (.int 0))) (aa (f2 au (ab 3) (fC (.int 1))) ae))))) (Dl.az 3 [0,2] (ah 2 dS (aa (ab 0) (aa (ab 2) ae))))))
def KN(G T:List Pl)(W:List Wy)(s:Sp):aj:=[.val (ax G T W),.own (rW s.1),.val (af s.2),.val (AI (rV G T W s.2))]
theorem JY{G T:List Pl}{W:List Wy}(h:Wd G T W){s:Sp}(i:zl W s){p:Nat×Int}(e:rV G T W s.2=some p):Pm (KN G T W s)=some (.nx (KN G T W (spS G T W s))):=by
 obtain⟨h1,h2,h3⟩:=CK h i.off e
 obtain⟨i2,hm⟩:=i.step h e
 have hb:=h.mea
 have hbd:=i.bd
 have hw:=h.wl
 have t1:md 1 [3] (ab 3) (KN G T W s)=some (.nx [.val (ax G T W),.own (rW s.1++[AI (some p)]),.val (af s.2),.val (AI (some p))]):=by
  unfold KN
  rw[e]
  exact Mg rfl rfl rfl rfl (by rw[Im];omega)
 have hlow:∀ρ:Dl.Env,ab 2 ρ=some (af s.2)->ab 3 ρ=some (AI (some p))->(ah 3 ck (aa (ab 2) (aa (f2 au (ab 3) (fC (.int 0))) (aa (f2 au (ab 3) (fC (.int 1))) ae)))) ρ=some (af (s.2.set p.1 p.2)):=fun ρ a b =>
  call_of (ur (c:=s.2) (i:=p.1) (v:=p.2) (by rw[i.len];exact h1) (by rw[i.len];omega)) (cons_of a (cons_of (aw (Ob _ _) b rfl) (cons_of (aw (P2 _ _ _) b rfl) rfl))) rfl
 have t2:Dl.az 2 [2,3] (ah 3 ck (aa (ab 2) (aa (f2 au (ab 3) (fC (.int 0))) (aa (f2 au (ab 3) (fC (.int 1))) ae)))) [.val (ax G T W),.own (rW s.1++[AI (some p)]),.val (af s.2),.val (AI (some p))]=some (.nx [.val (ax G T W),.own (rW s.1++[AI (some p)]),.val (af (s.2.set p.1 p.2)),.val (AI (some p))]) :=
  bD (hlow _ rfl rfl) (hlow _ rfl rfl) rfl
 have hl2:(s.2.set p.1 p.2).length=W.length:=by rw[yD,i.len]
 have t3:Dl.az 3 [0,2] (ah 2 dS (aa (ab 0) (aa (ab 2) ae))) [.val (ax G T W),.own (rW s.1++[AI (some p)]),.val (af (s.2.set p.1 p.2)),.val (AI (some p))]=some (.nx [.val (ax G T W),.own (rW s.1++[AI (some p)]),.val (af (s.2.set p.1 p.2)),.val (AI (rV G T W (s.2.set p.1 p.2)))]) :=
  bD (call_of (lx h hl2) rfl rfl) (call_of (lx h hl2) rfl rfl) rfl
 unfold Pm
 rw[ai t1,ai t2,t3,rE e]
 unfold KN
 rw[IJ]
theorem mG{G T:List Pl}{W:List Wy}{s:Sp}(h:KL G T W s=true):∃p,rV G T W s.2=some p:=Option.isSome_iff_exists.mp h
theorem Ki{G T:List Pl}{W:List Wy}(h:Wd G T W):pL [ax G T W]=some (.list (rW (fin G T W).1))/\zl W (fin G T W):=by
 have hb:=h.mea
 have t1:aK 1 [] (fE ae) [.val (ax G T W),.non,.non,.non]=some (.nx [.val (ax G T W),.own [],.non,.non]):=gy (f:=fE ae) (ds:=[]) (show small []=some [] from bq (by simp)) rfl
 have t2:Dl.az 2 [0] (ah 1 fj (aa (ab 0) ae)) [.val (ax G T W),.own [],.non,.non]=some (.nx [.val (ax G T W),.own [],.val (af (d5 W)),.non]) :=
  bD (call_of (mN h) rfl rfl) (call_of (mN h) rfl rfl) rfl
 have t3:Dl.az 3 [0,2] (ah 2 dS (aa (ab 0) (aa (ab 2) ae))) [.val (ax G T W),.own [],.val (af (d5 W)),.non]=some (.nx (KN G T W ([],d5 W))) :=
  bD (call_of (lx h (mV W)) rfl rfl) (call_of (lx h (mV W)) rfl rfl) rfl
 obtain⟨ρ',ew,⟨rfl,iv⟩,_⟩:=ye (t:=(fB (f2 oH (ab 3) (fC .none)))) (gb:=Pm) (R:=fun s ρ=>ρ=KN G T W s/\zl W s) (KL G T W) (spS G T W) (fun s=>mea s.2)
  (fun s ρ ⟨hρ,i⟩=>by
   subst hρ
   exact cM (aw (JF _) rfl rfl))
  (fun s ρ ⟨hρ,i⟩ hc=>by
   subst hρ
   obtain⟨p,e⟩:=mG hc
   exact⟨_,JY h i e,⟨rfl,(i.step h e).1⟩,(i.step h e).2⟩)
  Rf.turns ([],d5 W) (KN G T W ([],d5 W)) (Nat.lt_of_le_of_lt hb (by decide)) ⟨rfl,zl.start h⟩
 refine⟨?_,iv⟩
 refine aD ?_
 show pX [.val (ax G T W),.non,.non,.non]=_
 unfold pX
 rw[ai t1,ai t2,ai t3]
 refine (ai ew).trans ?_
 exact aH rfl
theorem Jb(c:List Int)(p:Nat×Int):(low c p).length=c.length:=by simp[low]
theorem Hv{G T:List Pl}{W:List Wy}(h:Wd G T W){r:List (Nat×Int)}(hr:∀p∈r,p.1 < W.length):nc [ax G T W,.list (rW r)]=some (af (r.foldl low (d5 W))):=by
 have hw:=h.wl
 have t2:Dl.az 2 [0] (ah 1 fj (aa (ab 0) ae)) [.val (ax G T W),.val (.list (rW r)),.non,.non,.non]=some (.nx [.val (ax G T W),.val (.list (rW r)),.val (af (d5 W)),.non,.non]) :=
  bD (call_of (mN h) rfl rfl) (call_of (mN h) rfl rfl) rfl
 obtain⟨ρ',e3,hs',x,y,rfl⟩:=m6 (tgt:=hU 3 4) (gb:=Dl.az 2 [2,3,4] (ah 3 ck (aa (ab 2) (aa (ab 3) (aa (ab 4) ae))))) (R:=fun (c:List Int) ρ=>c.length=W.length/\∃x y,ρ=[.val (ax G T W),.val (.list (rW r)),.val (af c),x,y]) (fun p:Nat×Int=>af [((p.1:Nat):Int),p.2]) low
  (l:=r) (s:=d5 W) (ρ:=[.val (ax G T W),.val (.list (rW r)),.val (af (d5 W)),.non,.non])
  (fun c ρ p hp ⟨hc,x,y,hρ⟩=>by
   subst hρ
   have el:=ur (c:=c) (i:=p.1) (v:=p.2) (by rw[hc];exact hr p hp) (by omega)
   have t:Dl.az 2 [2,3,4] (ah 3 ck (aa (ab 2) (aa (ab 3) (aa (ab 4) ae)))) [.val (ax G T W),.val (.list (rW r)),.val (af c),.val (nD p.1),.val (.int p.2)]=some (.nx [.val (ax G T W),.val (.list (rW r)),.val (af (low c p)),.val (nD p.1),.val (.int p.2)]) :=
    bD (call_of el rfl rfl) (call_of el rfl rfl) rfl
   exact⟨_,_,rfl,t,by rw[Jb,hc],_,_,rfl⟩) ⟨mV W,_,_,rfl⟩
 refine aD ?_
 show mX [.val (ax G T W),.val (.list (rW r)),.non,.non,.non]=_
 unfold mX
 rw[ai t2]
 refine (ai (dh e3 ?_ rfl)).trans (aH rfl)
 show some (rW r)=_
 rw[rW,zM]
 rfl
theorem tj{G T:List Pl}{W:List Wy}(h:Wd G T W):ba [ax G T W]=some (af (bo false G T W (fin G T W).2)):=by
 obtain⟨e1,i⟩:=Ki h
 have e2:=Hv h i.mem
 rw[<- i.eq] at e2
 refine aD ?_
 show eV [.val (ax G T W)]=_
 unfold eV
 refine (ai (eB (call_of (e8 h) rfl rfl))).trans ?_
 exact aH (call_of (fK h i.len false) (cons_of rfl (cons_of rfl (cons_of (call_of e2 (cons_of rfl (cons_of (call_of e1 rfl rfl) rfl)) rfl) rfl))) rfl)
def LZ(w:Wy):Wy:=(w.2.1,w.1,w.2.2)
structure Ord(W:List Wy)(π:List Nat):Prop where
 perm:π.Perm (List.range W.length)
 up:π.Pairwise fun i j=>(aE W i).2.1 < (aE W j).2.1\/((aE W i).2.1=(aE W j).2.1/\(aE W i).1 < (aE W j).1)
def dv(W:List Wy)(π:List Nat):List Wy:=π.map fun i=>LZ (aE W i)
def j3(P:List Int)(π:List Nat):List Int:=π.map fun i=>P.getD i 0
section
variable {W:List Wy}{π π':List Nat}{P:List Int}{G T:List Pl}
theorem Ord.len(o:Ord W π):π.length=W.length:=by rw[o.perm.length_eq,zS]
theorem Ord.lt(o:Ord W π){k:Nat}(hk:k < W.length):π.getD k 0 < W.length:=by
 have h:k < π.length:=by rw[o.len];exact hk
 have:=o.perm.mem_iff.mp (List.getElem_mem h)
 rw[zG,zK h]
 simpa using this
theorem Ord.ex(o:Ord W π){i:Nat}(hi:i < W.length):∃k,k < W.length/\π.getD k 0=i:=by
 have:i∈π:=o.perm.mem_iff.mpr (by simpa using hi)
 obtain⟨k,hk,e⟩:=List.getElem_of_mem this
 exact⟨k,by rw[<- o.len];exact hk,by rw[zG,zK hk];exact e⟩
theorem bS(o:Ord W π):(dv W π).length=W.length:=by simp[dv,o.len]
theorem Ic(o:Ord W π):(j3 P π).length=W.length:=by simp[j3,o.len]
theorem fN(o:Ord W π){k:Nat}(hk:k < W.length):aE (dv W π) k=LZ (aE W (π.getD k 0)):=by
 have h:k < π.length:=by rw[o.len];exact hk
 simp[aE,dv,h,zG]
theorem kG(o:Ord W π){k:Nat}(hk:k < W.length):(j3 P π).getD k 0=P.getD (π.getD k 0) 0:=by
 have h:k < π.length:=by rw[o.len];exact hk
 simp[j3,h,zG]
theorem pW(b:Bool)(w:Wy):bw (!b) (LZ w)=bw b w:=by cases b<;>rfl
theorem vq(b:Bool)(w:Wy):b8 (!b) (LZ w)=b8 b w:=by cases b<;>rfl
theorem Ord.ris(o:Ord W π):uz (dv W π):=by
 unfold uz dv
 rw[List.pairwise_map]
 exact o.up
theorem L8(h:uz W){i j:Nat}(hi:i < W.length)(hj:j < W.length)(e:(aE W i).1 < (aE W j).1\/((aE W i).1=(aE W j).1/\(aE W i).2.1 < (aE W j).2.1)):i < j:=by
 rcases Nat.lt_or_ge i j with q|q
 ·exact q
 ·exfalso
  rcases Nat.eq_or_lt_of_le q with q|q
  ·subst q;omega
  ·have:=List.pairwise_iff_getElem.mp h j i hj hi q
   rw[jB hi,jB hj] at this
   omega
theorem AM{l:List Nat}{n:Nat}(p:l.Perm (List.range n))(h:l.Pairwise (· < ·)):l=List.range n:=by
 refine iM (fun i=>((i:Nat):Int)) p (h.imp fun {a b} q=>by omega) (List.pairwise_lt_range.imp fun {a b} q=>by omega)
theorem map_getD(l:List Nat):(List.range l.length).map (fun k=>l.getD k 0)=l:=by
 apply List.ext_getElem
 ·simp
 ·intro i h1 h2
  simp[h2]
theorem Ord.back(h:uz W)(o:Ord W π)(o':Ord (dv W π) π'):π'.map (fun k=>π.getD k 0)=List.range W.length:=by
 have hl:(dv W π).length=W.length:=bS o
 refine AM ?_ ?_
 ·have:=(o'.perm.map fun k=>π.getD k 0)
  rw[hl,<- o.len,map_getD] at this
  exact this.trans o.perm
 ·rw[List.pairwise_map]
  refine o'.up.imp_of_mem fun {i j} hi hj q=>?_
  have hi':i < W.length:=by have:=o'.perm.mem_iff.mp hi;rw[hl] at this;simpa using this
  have hj':j < W.length:=by have:=o'.perm.mem_iff.mp hj;rw[hl] at this;simpa using this
  rw[fN o hi',fN o hj'] at q
  exact L8 h (o.lt hi') (o.lt hj') q
theorem pV(h:uz W)(o:Ord W π)(o':Ord (dv W π) π'):dv (dv W π) π'=W:=by
 have hl:(dv W π).length=W.length:=bS o
 have e:dv (dv W π) π'=(π'.map fun k=>π.getD k 0).map fun i=>aE W i:=by
  unfold dv
  rw[zM]
  refine yJ fun k hk=>?_
  have hk':k < W.length:=by have:=o'.perm.mem_iff.mp hk;rw[hl] at this;simpa using this
  have:=fN o hk'
  unfold dv at this
  rw[this];rfl
 rw[e,o.back h o']
 have:=map_range (0,0,0) (fun w:Wy=>w) W
 simpa [aE] using this
theorem Jl(h:uz W)(o:Ord W π)(o':Ord (dv W π) π')(hp:P.length=W.length):j3 (j3 P π) π'=P:=by
 have hl:(dv W π).length=W.length:=bS o
 have e:j3 (j3 P π) π'=(π'.map fun k=>π.getD k 0).map fun i=>P.getD i 0:=by
  rw[zM]
  unfold j3
  refine yJ fun k hk=>?_
  have hk':k < W.length:=by have:=o'.perm.mem_iff.mp hk;rw[hl] at this;simpa using this
  have:=kG (P:=P) o hk'
  unfold j3 at this
  rw[this];rfl
 rw[e,o.back h o',<- hp]
 have:=map_range 0 (fun x:Int=>x) P
 simpa using this
theorem Hj(o:Ord W π)(b:Bool)(p:Int):((own (!b) (dv W π) p).map fun k=>π.getD k 0).Perm (own b W p):=by
 have hl:(dv W π).length=W.length:=bS o
 have e:((own (!b) (dv W π) p).map fun k=>π.getD k 0)=π.filter fun i=>decide (bw b (aE W i)=p):=by
  conv=>rhs;rw[<- map_getD π,List.filter_map,o.len]
  unfold own
  rw[hl]
  congr 1
  refine List.filter_congr fun k hk=>?_
  have hk':k < W.length:=by simpa using hk
  rw[fN o hk',pW];rfl
 rw[e]
 exact o.perm.filter _
theorem Hm(o:Ord W π)(b:Bool)(p:Int):(Nu (!b) (dv W π) p).Perm (Nu b W p):=by
 have hl:(dv W π).length=W.length:=bS o
 rw[<- lG,<- lG]
 have:=(Hj o b p).map fun i=>b8 b (aE W i)
 rw[zM] at this
 refine List.Perm.trans (List.Perm.of_eq ?_) this
 refine yJ fun k hk=>?_
 have hk':k < W.length:=by have:=(cx.mp hk).1;rwa [hl] at this
 show b8 (!b) (aE (dv W π) k)=b8 b (aE W (π.getD k 0))
 rw[fN o hk',vq]
theorem Ord.wd(h:Wd G T W)(o:Ord W π):Wd T G (dv W π) where
 g1:=h.t1
 g4:=h.t4
 t1:=h.g1
 t4:=h.g4
 ga:=h.ta
 ta:=h.ga
 gl:=fun i p e=>(h.tl i p e).trans (Hm o true i).symm
 tl:=fun i p e=>(h.gl i p e).trans (Hm o false i).symm
 wr:=fun w hw=>by
  obtain⟨i,hi,rfl⟩:=zQ.mp hw
  have hi':i < W.length:=by have:=o.perm.mem_iff.mp hi;simpa using this
  have:=h.wr (aE W i) (by rw[<- jB hi'];exact List.getElem_mem _)
  exact⟨this.2.1,this.1,this.2.2⟩
 wp:=o.ris
 wl:=by rw[bS o];exact h.wl
theorem lh(b:Bool)(G T:List Pl):aG (!b) T G=aG b G T:=by cases b<;>rfl
theorem qE(b:Bool)(G T:List Pl)(i:Nat):cA (!b) T G i=cA b G T i:=by unfold cA;rw[lh]
def pj(b:Bool)(W:List Wy)(P:List Int)(p:Int):Int:=((own b W p).map fun i=>P.getD i 0).sum
theorem yw{l m:List Int}(p:l.Perm m):l.sum=m.sum:=by
 induction p with
 | nil=>rfl
 | cons x _ ih=>simp[ih]
 | swap x y l=>simp only[List.sum_cons];omega
 | trans _ _ h1 h2=>exact h1.trans h2
theorem Gv(o:Ord W π)(b:Bool)(p:Int):pj (!b) (dv W π) (j3 P π) p=pj b W P p:=by
 have hl:(dv W π).length=W.length:=bS o
 have:=yw ((Hj o b p).map fun i=>P.getD i 0)
 unfold pj
 rw[<- this,zM]
 congr 1
 refine yJ fun k hk=>?_
 have hk':k < W.length:=by have:=(cx.mp hk).1;rwa [hl] at this
 exact kG o hk'
theorem Hw(h:Wd G T W)(o:Ord W π){b:Bool}{i:Nat}{p:Pl}(e:(aG b G T)[i]?=some p){x:Int}(hx:x∈p.2):oP (!b) (dv W π) i x < W.length/\π.getD (oP (!b) (dv W π) i x) 0=oP b W i x:=by
 have e':(aG (!b) T G)[i]?=some p:=by rw[lh];exact e
 obtain⟨h1,h2,h3⟩:=nF (o.wd h) e' hx
 obtain⟨g1,g2,g3⟩:=nF h e hx
 rw[bS o] at h1
 rw[fN o h1,pW] at h2
 rw[fN o h1,vq] at h3
 exact⟨h1,yb h.wp (o.lt h1) g1 (by rw[h2,g2]) (by rw[h3,g3])⟩
end
def sk(L:List Int)(x:Int):Nat:=L.findIdx fun o=>decide (o=x)
def vg(b:Bool)(G T:List Pl)(W:List Wy)(P:List Int)(k:Nat):Bool :=
 decide (pj b W P (bw b (aE W k)) < (cA b G T (bw b (aE W k)).toNat).1) ||
 ((cA b G T (bw b (aE W k)).toNat).2.drop (sk (cA b G T (bw b (aE W k)).toNat).2 (b8 b (aE W k))+1)).any fun o=>decide (0 < P.getD (oP b W (bw b (aE W k)) o) 0)
def lK(G T:List Pl)(W:List Wy)(P:List Int)(k:Nat):Nat :=
 if P.getD k 0=(aE W k).2.2 then 0 else if vg false G T W P k=false then 1 else if vg true G T W P k=false then 2 else 3
def AR(G T:List Pl)(W:List Wy)(P:List Int):List Nat:=(List.range W.length).filter fun k=>decide (lK G T W P k=3)
section
variable {W:List Wy}{π π':List Nat}{P:List Int}{G T:List Pl}
theorem Wd.end_pl(h:Wd G T W)(b:Bool){k:Nat}(hk:k < W.length):0<=bw b (aE W k)/\(bw b (aE W k)).toNat < (aG b G T).length/\((bw b (aE W k)).toNat:Int)=bw b (aE W k):=by
 have:=h.wr (aE W k) (by rw[<- jB hk];exact List.getElem_mem _)
 cases b
 ·simp only[bw,aG,Bool.false_eq_true,if_false];omega
 ·simp only[bw,aG,if_true];omega
theorem uB{α:Type}{p q:α->Bool}:∀ {l:List α},(∀x∈l,p x=q x)->l.any p=l.any q
 | [],_=>rfl
 | a::l,h=>by rw[List.any_cons,List.any_cons,h a zE,uB fun x hx=>h x (zC _ hx)]
theorem Gi(h:Wd G T W)(o:Ord W π)(b:Bool){k:Nat}(hk:k < W.length):vg (!b) T G (dv W π) (j3 P π) k=vg b G T W P (π.getD k 0):=by
 obtain⟨h1,h2,h3⟩:=h.end_pl b (o.lt hk)
 unfold vg
 rw[fN o hk,pW,vq,qE,Gv o]
 congr 1
 rw[<- h3]
 simp only[yH]
 refine uB fun x hx=>?_
 obtain⟨e1,e2⟩:=Hw h o (gT h2) (List.mem_of_mem_drop hx)
 rw[kG o e1,e2]
theorem LI(h:Wd G T W)(o:Ord W π){k:Nat}(hk:k < W.length):(lK T G (dv W π) (j3 P π) k=3)↔(lK G T W P (π.getD k 0)=3):=by
 have e1:=Gi (P:=P) h o false hk
 have e2:=Gi (P:=P) h o true hk
 simp only[Bool.not_false,Bool.not_true] at e1 e2
 unfold lK
 rw[kG o hk,fN o hk,e1,e2]
 have:(LZ (aE W (π.getD k 0))).2.2=(aE W (π.getD k 0)).2.2:=rfl
 rw[this]
 cases vg false G T W P (π.getD k 0)<;>cases vg true G T W P (π.getD k 0)<;>simp<;>split<;>simp
theorem NO(h:Wd G T W)(o:Ord W π):((AR T G (dv W π) (j3 P π)).map fun k=>π.getD k 0).Perm (AR G T W P):=by
 have hl:(dv W π).length=W.length:=bS o
 have e:((AR T G (dv W π) (j3 P π)).map fun k=>π.getD k 0)=π.filter fun i=>decide (lK G T W P i=3):=by
  conv=>rhs;rw[<- map_getD π,List.filter_map,o.len]
  unfold AR
  rw[hl]
  congr 1
  refine List.filter_congr fun k hk=>?_
  have hk':k < W.length:=by simpa using hk
  exact decide_eq_decide.mpr (LI h o hk')
 rw[e]
 exact o.perm.filter _
theorem Nq(h:Wd G T W)(o:Ord W π):(AR T G (dv W π) (j3 P π)=[])↔(AR G T W P=[]):=by
 have:=(NO (P:=P) h o).length_eq
 rw[zD] at this
 rw[<- List.length_eq_zero_iff,<- List.length_eq_zero_iff,this]
structure Pn(G T:List Pl)(W:List Wy)(P:List Int):Prop where
 len:P.length=W.length
 bd:∀k,k < W.length->0<=P.getD k 0/\P.getD k 0<=(aE W k).2.2
 am:∀ (b:Bool) (i:Nat),i < (aG b G T).length->pj b W P i<=(cA b G T i).1
theorem Pn.tu(h:Wd G T W)(o:Ord W π)(p:Pn G T W P):Pn T G (dv W π) (j3 P π) where
 len:=by rw[Ic o,bS o]
 bd:=fun k hk=>by
  rw[bS o] at hk
  rw[kG o hk,fN o hk]
  exact p.bd _ (o.lt hk)
 am:=fun b i hi=>by
  have:=p.am (!b) i (by rw[<- lh b T G] at hi;exact hi)
  rw[<- Gv o (!b),<- qE (!b),Bool.not_not] at this
  exact this
end
section
variable {W:List Wy}{G T:List Pl}{off:List Int}
theorem B3(h:Wd G T W)(b:Bool):∀ (n:Nat),n<=(aG b G T).length ->
  ((List.range n).foldl (ze b G T W off) (List.replicate W.length 0)).length=W.length/\∀k,k < W.length ->
   ((List.range n).foldl (ze b G T W off) (List.replicate W.length 0)).getD k 0=if bw b (aE W k) < n then (rX W off (cA b G T (bw b (aE W k)).toNat).1 (fw b W (bw b (aE W k)).toNat (cA b G T (bw b (aE W k)).toNat).2)).getD k 0 else 0
 | 0,_=>by
  refine⟨by simp,fun k hk=>?_⟩
  obtain⟨h1,_,_⟩:=h.end_pl b hk
  rw[if_neg (by omega)]
  simp[zG,hk]
 | n+1,hn=>by
  obtain⟨h1,h2⟩:=B3 h b n (by omega)
  rw[List.range_succ,List.foldl_append,yK,List.foldl_nil]
  generalize (List.range n).foldl (ze b G T W off) (List.replicate W.length 0)=s at h1 h2
  refine⟨pK h1,fun k hk=>?_⟩
  have hz:(ze b G T W off s n).getD k 0=s.getD k 0+(rX W off (cA b G T n).1 (fw b W n (cA b G T n).2)).getD k 0:=xA (by omega) (by rw[vQ];exact hk)
  rw[hz,h2 k hk]
  obtain⟨g1,_,_⟩:=h.end_pl b hk
  have e:=gT (b:=b) (G:=G) (T:=T) (i:=n) (by omega)
  by_cases he:bw b (aE W k)=n
  ·have hn':(bw b (aE W k)).toNat=n:=by omega
   rw[if_neg (by omega),if_pos (by omega),hn']
   omega
  ·have hni:k∉fw b W n (cA b G T n).2:=fun z=>he (cx.mp ((fg h e).mem_iff.mp z)).2
   rw[BI hni]
   by_cases hlt:bw b (aE W k) < n
   ·rw[if_pos hlt,if_pos (by omega)];omega
   ·rw[if_neg hlt,if_neg (by omega)];rfl
theorem Fg(h:Wd G T W)(b:Bool){k:Nat}(hk:k < W.length):(bo b G T W off).getD k 0=(rX W off (cA b G T (bw b (aE W k)).toNat).1 (fw b W (bw b (aE W k)).toNat (cA b G T (bw b (aE W k)).toNat).2)).getD k 0:=by
 have:=(B3 (off:=off) h b _ (Nat.le_refl _)).2 k hk
 obtain⟨_,h2,h3⟩:=h.end_pl b hk
 rw[if_pos (by omega)] at this
 exact this
theorem BY{amt:Int}:∀ (is:List Nat) (s:Int×List Int),is.Nodup->(∀i∈is,i < s.2.length/\s.2.getD i 0=0) ->
  ((is.foldl (mz W off) s).2.length=s.2.length)/\(is.map fun i=>(is.foldl (mz W off) s).2.getD i 0).sum=s.1 - (is.foldl (mz W off) s).1/\∀j,j∉is->(is.foldl (mz W off) s).2.getD j 0=s.2.getD j 0
 | [],s,_,_=>⟨rfl,by simp,fun _ _=>rfl⟩
 | i::is,s,hn,hz=>by
  rw[List.nodup_cons] at hn
  obtain⟨hi,h0⟩:=hz i zE
  have hs:∀j∈is,j < (mz W off s i).2.length/\(mz W off s i).2.getD j 0=0:=fun j hj=>by
   obtain⟨a,b⟩:=hz j (zC _ hj)
   refine⟨by simpa [mz] using a,?_⟩
   simp only[mz,cJ]
   have hne:¬ (i=j/\j < s.2.length):=fun z=>hn.1 (z.1 ▸ hj)
   rw[if_neg hne,b]
  obtain⟨r1,r2,r3⟩:=BY (amt:=amt) is (mz W off s i) hn.2 hs
  rw[yK]
  refine⟨by rw[r1];simp[mz],?_,fun j hj=>?_⟩
  ·rw[zI,List.sum_cons,r2,r3 i hn.1]
   simp only[mz,cJ]
   rw[if_pos ⟨trivial,hi⟩]
   omega
  ·rw[r3 j fun z=>hj (zC _ z)]
   simp only[mz,cJ]
   have hne:¬ (i=j/\j < s.2.length):=fun z=>hj (z.1 ▸ zE)
   rw[if_neg hne]
theorem zi(ho:Off off)(hl:Py W):∀ (is:List Nat) (s:Int×List Int),0<=s.1->0<=(is.foldl (mz W off) s).1
 | [],s,h=>h
 | i::is,s,h=>by
  rw[yK]
  refine zi ho hl is _ ?_
  simp only[mz,cV]
  have:=ho i;have:=hl i
  omega
theorem IM(h:Wd G T W)(ho:Off off){b:Bool}{i:Nat}(hi:i < (aG b G T).length) :
  ((own b W i).map fun k=>(rX W off (cA b G T i).1 (fw b W i (cA b G T i).2)).getD k 0).sum<=(cA b G T i).1:=by
 have e:=gT hi
 have pm:=fg h e
 rw[<- yw (pm.map fun k=>(rX W off (cA b G T i).1 (fw b W i (cA b G T i).2)).getD k 0)]
 have hn:(fw b W i (cA b G T i).2).Nodup:=pm.nodup_iff.mpr (List.nodup_range.filter _)
 obtain⟨_,r2,_⟩:=BY (W:=W) (off:=off) (amt:=0) (fw b W i (cA b G T i).2) ((cA b G T i).1,List.replicate W.length 0) hn fun k hk=>by
  have hk':=(cx.mp (pm.mem_iff.mp hk)).1
  refine⟨by simpa using hk',by simp[zG,hk']⟩
 have:=zi ho h.lim (fw b W i (cA b G T i).2) ((cA b G T i).1,List.replicate W.length 0) (h.amt b i)
 unfold rX
 rw[r2]
 show (cA b G T i).1 - _<=(cA b G T i).1
 omega
theorem BA(h:Wd G T W)(ho:Off off){b:Bool}{i:Nat}(hi:i < (aG b G T).length):pj b W (bo b G T W off) i<=(cA b G T i).1:=by
 refine Int.le_trans (Int.le_of_eq ?_) (IM h ho hi)
 unfold pj
 congr 1
 refine yJ fun k hk=>?_
 obtain⟨hk',he⟩:=cx.mp hk
 have:=Fg (off:=off) h b hk'
 rw[he,yH] at this
 exact this
theorem DU{b:Bool}{P Q:List Int}{p:Int}(h:∀k,k < W.length->P.getD k 0=Q.getD k 0):pj b W P p=pj b W Q p:=by
 unfold pj
 congr 1
 exact yJ fun k hk=>h k (cx.mp hk).1
theorem IF(h:Wd G T W){c:List Int}(ho:Off c)(hc:∀k,k < W.length->c.getD k 0<=(aE W k).2.2)(e:rV G T W c=none):Pn G T W (bo false G T W c) where
 len:=gp _ _ _ _ _
 bd:=fun k hk=>⟨jo h ho false k,Int.le_trans (Af h ho false hk) (hc k hk)⟩
 am:=fun b i hi=>by
  cases b
  ·exact BA h ho hi
  ·have hke:∀k,k < W.length->(jT G T W c).getD k 0=(bo false G T W c).getD k 0:=fun k hk=>by
    have h1:=Af h (jo h ho false) true hk
    have h2:qR G T W c k=false:=by
     unfold rV at e
     rw[Option.map_eq_none_iff] at e
     have:=List.find?_eq_none.mp e k (by simpa using hk)
     simpa using this
    unfold qR at h2
    have h3:=of_decide_eq_false h2
    unfold jT at h3 ⊢
    omega
   rw[<- DU hke]
   exact BA h (jo h ho false) hi
end
def Mo(G T:List Pl)(W:List Wy)(P:List Int):Bool :=
 ((List.range G.length).all fun i=>decide (pj false W P i<=(cA false G T i).1))&&((List.range T.length).all fun i=>decide (pj true W P i<=(cA true G T i).1))
def zs(n:Nat):List Int:=List.replicate n 0
section
variable {W:List Wy}{G T:List Pl}{d:Nat->Int}
theorem FL{P:List Int}:Mo G T W P=true↔∀ (b:Bool) (i:Nat),i < (aG b G T).length->pj b W P i<=(cA b G T i).1:=by
 unfold Mo
 rw[zF,List.all_eq_true,List.all_eq_true]
 constructor
 ·rintro⟨h1,h2⟩ b i hi
  cases b
  ·exact of_decide_eq_true (h1 i (by simpa [aG] using hi))
  ·exact of_decide_eq_true (h2 i (by simpa [aG] using hi))
 ·intro h
  exact⟨fun i hi=>yB (h false i (by simpa [aG] using hi)),fun i hi=>yB (h true i (by simpa [aG] using hi))⟩
theorem Pn.fit{P:List Int}(p:Pn G T W P):Mo G T W P=true:=FL.mpr p.am
end
theorem uf{tt:Dl.Env->Option Bool}{te:Dl.Env->Option D}{r:List (Option D)}{x y h:Nat->D}{p:Nat->Bool}:∀ (is:List Nat),
  (∀i∈is,tt (some (x i)::some (y i)::r)=some (p i)/\(p i=true->te (some (x i)::some (y i)::r)=some (h i))) ->
  cQ (iz 0 1) tt te (none::none::r) (is.map fun i=>.tuple [x i,y i])=some ((is.filter p).map h)
 | [],_=>rfl
 | i::is,hh=>by
  obtain⟨h1,h2⟩:=hh i zE
  have ih:=uf is fun j hj=>hh j (zC _ hj)
  have hg:iz 0 1 (none::none::r) (.tuple [x i,y i])=some (some (x i)::some (y i)::r):=by
   simp only[iz,isFree,List.getElem?_cons_zero,List.getElem?_cons_succ,Option.getD_some,Option.isNone_none,and_self,if_true,List.set_cons_zero,List.set_cons_succ]
  rw[zI,cQ,hg]
  simp only[zA,h1]
  cases hp:p i with
  | true=>simp[h2 hp,ih,hp]
  | false=>simp[ih,hp]
theorem m8{cs:List Nat}{fi:Dl.Env->Option (List D)}{tt:Dl.Env->Option Bool}{te:Dl.Env->Option D}{ρ:Dl.Env}{n:Nat}{x y h:Nat->D}{p:Nat->Bool}(hfi:fi ρ=some ((List.range n).map fun i=>.tuple [x i,y i]))(hl:n<=1000)
  (hh:∀i,i < n->tt (some (x i)::some (y i)::cs.map fun j=>(ρ[j]?).getD none)=some (p i)/\(p i=true->te (some (x i)::some (y i)::cs.map fun j=>(ρ[j]?).getD none)=some (h i))) :
  ak 2 cs fi (iz 0 1) tt te ρ=some (((List.range n).filter p).map h):=by
 have:=uf (tt:=tt) (te:=te) (r:=cs.map fun j=>(ρ[j]?).getD none) (p:=p) (h:=h) (List.range n) fun i hi=>hh i (by simpa using hi)
 simp only[ak,hfi,zA,eA,List.replicate,List.cons_append,List.nil_append,this]
 refine bq ?_
 rw[zD]
 refine yE (List.length_filter_le _ _) ?_
 rw[zS]
 omega
theorem tP{W:List Wy}{P:List Int}(h:P.length=W.length):kb (W.map ao) (P.map PyData.int)=(List.range W.length).map fun i=>.tuple [ao (aE W i),.int (P.getD i 0)]:=by
 apply List.ext_getElem?
 intro i
 by_cases hi:i < W.length
 ·have hz:i < (kb (W.map ao) (P.map PyData.int)).length:=by rw[nv];simp[h];exact hi
  rw[zK hz]
  obtain⟨x,y,e1,e2,e3⟩:=p8 (zK hz)
  rw[zO,mS hi] at e1
  rw[zO,zK (by omega)] at e2
  cases e1
  have e2:PyData.int P[i]=y:=by simpa using e2
  rw[e3,<- e2]
  have:i < P.length:=by omega
  simp[hi,this,zG]
 ·rw[List.getElem?_eq_none (by rw[nv];simp;omega),List.getElem?_eq_none (by simp;omega)]
def Sm(P:List Int):Prop:=∀k,-1000000<=P.getD k 0/\P.getD k 0<=1000000
theorem Iv{W:List Wy}{P:List Int}(hs:Sm P)(hw:W.length<=16)(b:Bool)(p:Int):ID ((own b W p).map fun i=>P.getD i 0)=true:=by
 unfold ID
 rw[zF,zJ,List.all_eq_true]
 refine⟨?_,fun x hx=>?_⟩
 ·have:=pZ b W p
  rw[zD]
  omega
 ·obtain⟨i,_,rfl⟩:=zQ.mp hx
  rw[zF,zJ,zJ]
  exact hs i
theorem tM{G T:List Pl}{W:List Wy}(h:Wd G T W){P:List Int}(hp:P.length=W.length)(hs:Sm P)(b:Bool)(p:Int):dk [ax G T W,af P,.int (sI b),.int p]=some (.int (pj b W P p)):=by
 have hw:=h.wl
 refine aD ?_
 show nM [.val (ax G T W),.val (af P),.val (.int (sI b)),.val (.int p)]=_
 have hz:jU (aa (f2 au (ab 0) (fC (.int 2))) (aa (ab 1) ae)) [some (ax G T W),some (af P),some (.int (sI b)),some (.int p)]=some ((List.range W.length).map fun i=>.tuple [ao (aE W i),.int (P.getD i 0)]):=by
  rw[<- tP hp]
  rfl
 have c:ak 2 [2,3] (jU (aa (f2 au (ab 0) (fC (.int 2))) (aa (ab 1) ae))) (iz 0 1) (fB (f2 cq (f2 au (ab 0) (ab 2)) (ab 3))) (ab 1) [some (ax G T W),some (af P),some (.int (sI b)),some (.int p)]=some ((own b W p).map fun i=>.int (P.getD i 0)):=by
  rw[m8 (p:=fun i=>decide (bw b (aE W i)=p)) (h:=fun i=>.int (P.getD i 0)) hz (by omega) fun i hi=>⟨?_,fun _=>rfl⟩]
  ·rfl
  ·show fB (f2 cq (f2 au (ab 0) (ab 2)) (ab 3)) [some (ao (aE W i)),some (.int (P.getD i 0)),some (.int (sI b)),some (.int p)]=_
   exact cM (by rw[jR (a:=.int (bw b (aE W i))) (b:=.int p) (aw (vz b _) rfl rfl) rfl,dB])
 refine aH ?_
 have e:((own b W p).map fun i=>PyData.int (P.getD i 0))=((own b W p).map fun i=>P.getD i 0).map PyData.int:=by rw[zM];rfl
 show aZ gw (aa (cX (ak 2 [2,3] (jU (aa (f2 au (ab 0) (fC (.int 2))) (aa (ab 1) ae))) (iz 0 1) (fB (f2 cq (f2 au (ab 0) (ab 2)) (ab 3))) (ab 1))) ae) [some (ax G T W),some (af P),some (.int (sI b)),some (.int p)]=_
 rw[e] at c
 simp only[aZ,aa,ae,cX,c,zB,zA]
 show gw [.list (((own b W p).map fun i=>P.getD i 0).map PyData.int)]=_
 simp only[gw,du,oneOf,g0,zA,cG,Iv hs hw b p,if_true]
 rfl
theorem An(L:List Pl):bj 0 (L.map bK)=(List.range L.length).map fun i=>.tuple [nD i,bK (L.getD i (0,[]))]:=by
 rw[enum_zip]
 apply List.ext_getElem
 ·simp
 ·intro i h1 h2
  have:i < L.length:=by simpa using h2
  simp[this,zG]
theorem tO{p:Nat->Bool}(is:List Nat):nB [.list (is.map fun i=>.bool (p i))]=some (.bool (is.all p)):=by
 have:∀is:List Nat,boolsOf (is.map fun i=>PyData.bool (p i))=some (is.map p):=fun is=>by
  induction is with
  | nil=>rfl
  | cons i is ih=>simp[boolsOf,ih]
 simp only[nB,oneOf,zA,this,zB,List.all_map]
 rfl
theorem CL{G T:List Pl}{W:List Wy}(h:Wd G T W){P:List Int}(hp:P.length=W.length)(hs:Sm P)(b:Bool):cL [ax G T W,af P,.int (sI b)]=some (.bool ((List.range (aG b G T).length).all fun i=>decide (pj b W P i<=(cA b G T i).1))):=by
 have hl:=h.pl b
 refine aD ?_
 show fH [.val (ax G T W),.val (af P),.val (.int (sI b))]=_
 have he:bC (aa (f2 au (ab 0) (ab 2)) ae) [some (ax G T W),some (af P),some (.int (sI b))]=some ((List.range (aG b G T).length).map fun i=>.tuple [nD i,bK (cA b G T i)]):=by
  have:=An (aG b G T)
  unfold cA
  rw[<- this]
  cases b<;>rfl
 have c:=m8 (cs:=[0,1,2]) (tt:=fun _=>some true) (te:=f2 B7 (ah 4 dk (aa (ab 2) (aa (ab 3) (aa (ab 4) (aa (ab 0) ae))))) (f2 au (ab 1) (fC (.int 0)))) (p:=fun _=>true) (h:=fun i=>.bool (decide (pj b W P i<=(cA b G T i).1))) he (by omega) fun i hi=>⟨rfl,fun _=>aw (a:=.int (pj b W P i)) (b:=.int (cA b G T i).1) rfl (call_of (tM h hp hs b i) rfl rfl) rfl⟩
 refine aH ?_
 show aZ nB (aa (cX (ak 2 [0,1,2] (bC (aa (f2 au (ab 0) (ab 2)) ae)) (iz 0 1) (fun _=>some true) (f2 B7 (ah 4 dk (aa (ab 2) (aa (ab 3) (aa (ab 4) (aa (ab 0) ae))))) (f2 au (ab 1) (fC (.int 0)))))) ae) [some (ax G T W),some (af P),some (.int (sI b))]=_
 simp only[aZ,aa,ae,cX,c,zB,zA]
 rw[show (List.range (aG b G T).length).filter (fun _=>true)=List.range (aG b G T).length by simp,tO]
theorem Fe{fa fb:Dl.Env->Option D}{ρ:Dl.Env}{d:D}(ha:fa ρ=some (.bool true))(hb:fb ρ=some d):j6 fa fb ρ=some d:=by
 simp only[j6,ha,zA,hb]
theorem Ik{fa fb:Dl.Env->Option D}{ρ:Dl.Env}(ha:fa ρ=some (.bool false)):j6 fa fb ρ=some (.bool false):=by
 simp only[j6,ha,zA]
theorem BZ{fa fb:Dl.Env->Option D}{ρ:Dl.Env}{a b:Bool}(ha:fa ρ=some (.bool a))(hb:fb ρ=some (.bool b)):j6 fa fb ρ=some (.bool (a&&b)):=by
 cases a
 ·exact Ik ha
 ·exact Fe ha hb
theorem dO{g:List D->Option D}{f:Dl.Env->Option D}{ρ:Dl.Env}{d:D}(h:f ρ=some d):aZ g (aa f ae) ρ=g [d]:=by
 simp only[aZ,aa,ae,h,zB,zA]
theorem vY{α:Type}{k:α->D}{f:Dl.Env->Option D}{ρ:Dl.Env}{l:List α}(h:f ρ=some (.tuple (l.map k))):aZ bN (aa f ae) ρ=some (nD l.length):=by
 rw[dO h,Bz,zD]
def O0(W:List Wy)(P:List Int):Bool:=(List.range W.length).all fun k=>decide (0<=P.getD k 0)&&decide (P.getD k 0<=(aE W k).2.2)
def P6(b:Bool)(G T:List Pl)(W:List Wy)(P:List Int):Bool:=(List.range (aG b G T).length).all fun i=>decide (pj b W P i<=(cA b G T i).1)
def K5(G T:List Pl)(W:List Wy)(P:List Int):Bool:=O0 W P&&(P6 false G T W P&&P6 true G T W P)
theorem vU{G T:List Pl}{W:List Wy}{P:List Int}(hp:P.length=W.length):K5 G T W P=true↔Pn G T W P:=by
 simp only[K5,O0,P6,zF,List.all_eq_true,zT,zJ]
 constructor
 ·rintro⟨h1,h2,h3⟩
  exact⟨hp,h1,fun b=>by cases b<;>assumption⟩
 ·intro p
  exact⟨p.bd,p.am false,p.am true⟩
theorem LB(P:List Int):oQ (af P)=true:=rfl
theorem tG{G T:List Pl}{W:List Wy}(h:Wd G T W){P:List Int}(hp:P.length=W.length)(hs:Sm P):eR [ax G T W,af P]=some (.bool (K5 G T W P)):=by
 have hw:=h.wl
 have hlen:(P.map PyData.int).length=W.length:=by rw[zD,hp]
 refine aD ?_
 show lC [.val (ax G T W),.val (af P),.non]=_
 unfold lC
 have t1:Dl.az 2 [0] (f2 au (ab 0) (fC (.int 2))) [.val (ax G T W),.val (af P),.non]=some (.nx [.val (ax G T W),.val (af P),.val (.tuple (W.map ao))]):=cg (d:=.tuple (W.map ao)) rfl rfl rfl rfl
 rw[ai t1]
 have el:aW [af P,nD W.length,nD W.length]=some (.bool true):=by
  rw[show nD W.length=.int ((W.length:Nat):Int) from rfl,eS (LB P)]
  simp[long,af,hp]
 have hl:∀ρ:Dl.Env,ab 2 ρ=some (.tuple (W.map ao))->aZ bN (aa (ab 2) ae) ρ=some (nD W.length):=fun ρ hr=>vY hr
 have c1:(bR (fB (ah 3 aW (aa (ab 1) (aa (aZ bN (aa (ab 2) ae)) (aa (aZ bN (aa (ab 2) ae)) ae)))))) (bp [.val (ax G T W),.val (af P),.val (.tuple (W.map ao))])=some false :=
  gn (cM (call_of el (cons_of rfl (cons_of (hl _ rfl) (cons_of (hl _ rfl) rfl))) rfl))
 rw[ai (cB c1)]
 have hz:jU (aa (ab 2) (aa (ab 1) ae)) [some (ax G T W),some (af P),some (.tuple (W.map ao))]=some ((List.range W.length).map fun i=>.tuple [ao (aE W i),.int (P.getD i 0)]):=by
  rw[<- tP hp]
  rfl
 have c2:=m8 (cs:=[]) (tt:=fun _=>some true) (te:=ah 3 aO (aa (ab 1) (aa (fC (.int 0)) (aa (f2 au (ab 0) (fC (.int 2))) ae)))) (p:=fun _=>true) (h:=fun k=>.bool (decide (0<=P.getD k 0)&&decide (P.getD k 0<=(aE W k).2.2))) hz (by omega)
  fun i hi=>⟨rfl,fun _=>call_of (gJ (d:=.int (P.getD i 0)) rfl 0 (aE W i).2.2) rfl rfl⟩
 have hall:(fB (aZ nB (aa (cX (ak 2 [] (jU (aa (ab 2) (aa (ab 1) ae))) (iz 0 1) (fun _=>some true) (ah 3 aO (aa (ab 1) (aa (fC (.int 0)) (aa (f2 au (ab 0) (fC (.int 2))) ae)))))) ae))) [some (ax G T W),some (af P),some (.tuple (W.map ao))]=some (O0 W P):=by
  refine cM ?_
  simp only[aZ,aa,ae,cX,c2,zB,zA]
  rw[show (List.range W.length).filter (fun _=>true)=List.range W.length by simp,tO]
  rfl
 have k0:=CL h hp hs false
 have k1:=CL h hp hs true
 cases hb:O0 W P with
 | false =>
  rw[hb] at hall
  refine mq ((jM (gn hall)).trans ?_)
  rw[K5,hb]
  exact aH rfl
 | true =>
  rw[hb] at hall
  rw[ai (cB (gn hall)),K5,hb,Bool.true_and]
  exact aH (BZ (call_of k0 rfl rfl) (call_of k1 rfl rfl))
theorem vj{W:List Wy}{k:Nat}(hk:k < W.length):aE W k∈W:=jB hk ▸ List.getElem_mem hk
theorem Pn.smP{G T:List Pl}{W:List Wy}(h:Wd G T W){P:List Int}(p:Pn G T W P):Sm P:=fun k=>by
 by_cases hk:k < W.length
 ·have:=p.bd k hk
  have:=(h.wr _ (vj hk)).2.2.2
  omega
 ·rw[zG,List.getElem?_eq_none (by rw[p.len];omega)]
  simp
section
variable {G T:List Pl}{W:List Wy}{P:List Int}
theorem sf(h:Wd G T W)(p:Pn G T W P):eR [ax G T W,af P]=some (.bool true):=by
 rw[tG h p.len (p.smP h),(vU p.len).mpr p]
theorem f7(h:Wd G T W)(p:Pn G T W P):bA [ax G T W,af P]=some .none:=by
 have:d7 [.val (ax G T W),.val (af P)]=some (.nx [.val (ax G T W),.val (af P)]):=by
  unfold d7
  refine (ai (eB (call_of (e8 h) rfl rfl))).trans ?_
  exact cB (gn (cM (call_of (sf h p) rfl rfl)))
 show (d7 [.val (ax G T W),.val (af P)]).map _=_
 rw[this]
 rfl
end
def nr(W:List Wy)(i:Nat):List Int:=[(aE W i).2.1,(aE W i).1]
def ie(W:List Wy):List (List Int):=(List.range W.length).map (nr W)
def bF(W:List Wy):List Nat:=pO (fun i=>rk (ie W) ((ie W).getD i [])) (List.range W.length) 0
theorem Gc(z:Nat->Int)(n:Nat):pO z ((List.range n).map nD) .none=(pO z (List.range n) 0).map nD:=by
 unfold pO
 rw[zD]
 split
 ·rfl
 ·rename_i h
  rw[zM]
  obtain⟨hp,_⟩:=SP.ix (z:=z) (n:=(List.range n).length) (by omega)
  refine yJ fun i hi=>?_
  have hi':i < (List.range n).length:=by have:=hp.mem_iff.mp hi;simpa using this
  rw[zS] at hi'
  simp[hi']
theorem Fm{W:List Wy}{i:Nat}(hi:i < W.length):(ie W).getD i []=nr W i:=by
 simp[ie,hi]
theorem bT{W:List Wy}(h:uz W):Ord W (bF W) where
 perm:=gE _ _ _
 up:=by
  have hp:(bF W).Perm (List.range W.length):=gE _ _ _
  have hs:(bF W).Pairwise fun i j=>rk (ie W) (nr W i)<=rk (ie W) (nr W j):=by
   refine rD _ _ _ (fun i=>rk (ie W) (nr W i)) fun i hi=>?_
   rw[zS] at hi
   have e:(List.range W.length).getD i 0=i:=by simp[hi]
   show rk (ie W) ((ie W).getD i [])=rk (ie W) (nr W ((List.range W.length).getD i 0))
   rw[e,Fm hi]
  have hn:(bF W).Nodup:=hp.nodup_iff.mpr List.nodup_range
  refine (hs.and hn).imp_of_mem fun {i j} hi hj hij=>?_
  have hi':i < W.length:=by have:=hp.mem_iff.mp hi;simpa using this
  have hj':j < W.length:=by have:=hp.mem_iff.mp hj;simpa using this
  obtain⟨hle,hne⟩:=hij
  have mj:nr W j∈ie W:=zQ.mpr ⟨j,by simpa using hj',rfl⟩
  have n1:Dl.lexLt (nr W j) (nr W i)=false:=by
   rw[BN mj,decide_eq_false_iff_not]
   omega
  simp only[nr,HT.lexLt] at n1
  by_cases e1:(aE W j).2.1=(aE W i).2.1
  ·rw[if_pos e1] at n1
   by_cases e2:(aE W j).1=(aE W i).1
   ·exact absurd (vt h hj' hi' e2 e1).symm hne
   ·rw[if_neg e2,decide_eq_false_iff_not] at n1
    exact .inr ⟨e1.symm,by omega⟩
  ·rw[if_neg e1,decide_eq_false_iff_not] at n1
   exact .inl (by omega)
theorem tup_is{fs:Dl.Env->Option (List D)}{ρ:Dl.Env}{ds:List D}(h:fs ρ=some ds)(hl:ds.length<=1000):aN fs ρ=some (.tuple ds):=by
 simp only[aN,h,zA,bq (show ds.length<=4000 by omega),zB]
theorem PN(w:Wy):au (ao w) (.int 0)=some (.int w.1):=rfl
theorem Px(w:Wy):au (ao w) (.int 1)=some (.int w.2.1):=rfl
section
variable {G T:List Pl}{W:List Wy}{P:List Int}
theorem k4(h:Wd G T W):aS [ax G T W]=some (.list ((bF W).map nD)):=by
 have hw:=h.wl
 have t1:Dl.az 1 [0] (f2 au (ab 0) (fC (.int 2))) [.val (ax G T W),.non]=some (.nx [.val (ax G T W),.val (.tuple (W.map ao))]):=cg (d:=.tuple (W.map ao)) rfl rfl rfl rfl
 have hl:(aZ bN (aa (ab 1) ae)) [some (ax G T W),some (.tuple (W.map ao))]=some (nD W.length):=vY (l:=W) (k:=ao) rfl
 have hk:eM (aN (aa (f2 au (f2 au (ab 1) (ab 0)) (fC (.int 1))) (aa (f2 au (f2 au (ab 1) (ab 0)) (fC (.int 0))) ae))) [none,some (.tuple (W.map ao))] ((List.range W.length).map nD)=some (((List.range W.length).map nD).map fun d=>af (nr W (jj d).toNat)):=by
  refine nY fun d hd=>?_
  obtain⟨j,hj,rfl⟩:=zQ.mp hd
  have hj':j < W.length:=by simpa using hj
  have a:∀ρ:Dl.Env,ab 1 ρ=some (.tuple (W.map ao))->ab 0 ρ=some (nD j)->(f2 au (ab 1) (ab 0)) ρ=some (ao (aE W j)):=fun ρ e1 e2=>aw (rL hj') e1 e2
  show aN (aa (f2 au (f2 au (ab 1) (ab 0)) (fC (.int 1))) (aa (f2 au (f2 au (ab 1) (ab 0)) (fC (.int 0))) ae)) [some (nD j),some (.tuple (W.map ao))]=_
  have c2:(aa (f2 au (f2 au (ab 1) (ab 0)) (fC (.int 1))) (aa (f2 au (f2 au (ab 1) (ab 0)) (fC (.int 0))) ae)) [some (nD j),some (.tuple (W.map ao))]=some [.int (aE W j).2.1,.int (aE W j).1] :=
   cons_of (aw (Px (aE W j)) (a _ rfl rfl) rfl) (cons_of (aw (PN (aE W j)) (a _ rfl rfl) rfl) rfl)
  rw[tup_is c2 (by simp)]
  simp[jj,nr,af]
 have hr:rowsOf (((List.range W.length).map nD).map fun d=>af (nr W (jj d).toNat))=some (ie W):=by
  have e:(((List.range W.length).map nD).map fun d=>af (nr W (jj d).toNat))=(ie W).map af:=by
   simp only[zM,ie]
   refine yJ fun j hj=>?_
   simp[jj]
  rw[e,me]
  intro ns hns
  obtain⟨j,_,rfl⟩:=zQ.mp hns
  exact List.cons_ne_nil _ _
 refine aD ?_
 show eu [.val (ax G T W),.non]=_
 unfold eu
 rw[ai t1]
 refine aH ?_
 have es:qx [1] (aa (aZ bN (aa (ab 1) ae)) ae) (aN (aa (f2 au (f2 au (ab 1) (ab 0)) (fC (.int 1))) (aa (f2 au (f2 au (ab 1) (ab 0)) (fC (.int 0))) ae))) [some (ax G T W),some (.tuple (W.map ao))]=some ((bF W).map nD):=by
  unfold qx
  rw[cons_of hl rfl,zA]
  show (if (0:Int)<=((W.length:Nat):Int)/\((W.length:Nat):Int) < 64 then _ else none)=_
  rw[if_pos ⟨by omega,by omega⟩,yH]
  show (eM _ [none,some (.tuple (W.map ao))] ((List.range W.length).map nD)).bind _=_
  rw[hk,zA,hr,zB]
  exact congrArg some (Gc _ _)
 show cX _ [some (ax G T W),some (.tuple (W.map ao))]=_
 simp only[cX,es,zB]
theorem eQ{cs:List Nat}{fi:Dl.Env->Option (List D)}{te:Dl.Env->Option D}{ρ:Dl.Env}{is:List Nat}{f:Nat->D}(hfi:fi ρ=some (is.map nD))(hl:is.length<=1000)(hh:∀i∈is,te (some (nD i)::cs.map fun j=>(ρ[j]?).getD none)=some (f i)):ak 1 cs fi (fG 0) (fun _=>some true) te ρ=some (is.map f):=by
 rw[cf (h:=fun d=>f (jj d).toNat) hfi (by rw[zD];omega) fun d hd=>?_]
 ·rw[zM]
  refine congrArg some (yJ fun i _=>?_)
  simp[jj]
 ·obtain⟨i,hi,rfl⟩:=zQ.mp hd
  rw[hh i hi]
  simp[jj]
theorem kH{n:Nat}{m:List D->Option D}{fs:Dl.Env->Option (List D)}{ρ:Dl.Env}{ds es:List D}(h:m ds=some (.list es))(hf:fs ρ=some ds)(hn:ds.length=n):aP (ah n m fs) ρ=some es:=by
 simp only[aP,call_of h hf hn,zA,g0]
theorem vK(h:uz W){i:Nat}(hi:i∈bF W):i < W.length:=by
 have:=(bT h).perm.mem_iff.mp hi
 simpa using this
theorem yo(h:uz W):(bF W).length=W.length:=(bT h).len
theorem oX{r:List (Option D)}:∀ (l:List Wy),cQ (HN 0 1 2) (fun _=>some true) (aN (aa (ab 1) (aa (ab 0) (aa (ab 2) ae)))) (none::none::none::r) (l.map ao)=some ((l.map LZ).map ao)
 | []=>rfl
 | w::l=>by
  have ih:=oX (r:=r) l
  have hg:HN 0 1 2 (none::none::none::r) (ao w)=some (some (.int w.1)::some (.int w.2.1)::some (.int w.2.2)::r):=rfl
  rw[zI,cQ,hg,zA]
  have e:aN (aa (ab 1) (aa (ab 0) (aa (ab 2) ae))) (some (.int w.1)::some (.int w.2.1)::some (.int w.2.2)::r)=some (ao (LZ w)):=rfl
  simp only[zA,if_true,e,ih,zB,zI]
theorem hC(h:Wd G T W):cK [ax G T W]=some (ax T G (dv W (bF W))):=by
 have hw:=h.wl
 have hn:=yo h.wp
 refine aD ?_
 show ni [.val (ax G T W),.non]=_
 unfold ni
 refine (ai (eB (call_of (e8 h) rfl rfl))).trans ?_
 have c:ak 1 [0] (aP (ah 1 aS (aa (ab 0) ae))) (fG 0) (fun _=>some true) (f2 au (f2 au (ab 1) (fC (.int 2))) (ab 0)) [some (ax G T W),none]=some ((bF W).map fun i=>ao (aE W i)) :=
  eQ (kH (k4 h) rfl rfl) (by omega) fun i hi=>aw (rL (vK h.wp hi)) rfl rfl
 have t2:aK 1 [0] (ak 1 [0] (aP (ah 1 aS (aa (ab 0) ae))) (fG 0) (fun _=>some true) (f2 au (f2 au (ab 1) (fC (.int 2))) (ab 0))) [.val (ax G T W),.non]=some (.nx [.val (ax G T W),.own ((bF W).map fun i=>ao (aE W i))]):=gy c rfl
 rw[ai t2]
 refine aH ?_
 have e3:ak 3 [] (aP (ab 1)) (HN 0 1 2) (fun _=>some true) (aN (aa (ab 1) (aa (ab 0) (aa (ab 2) ae)))) [some (ax G T W),some (.list ((bF W).map fun i=>ao (aE W i)))]=some ((dv W (bF W)).map ao):=by
  have:=oX (r:=[]) ((bF W).map fun i=>aE W i)
  rw[zM,zM] at this
  have hf:aP (ab 1) [some (ax G T W),some (.list ((bF W).map fun i=>ao (aE W i)))]=some ((bF W).map fun i=>ao (aE W i)):=rfl
  unfold ak
  rw[hf,zA]
  show (cQ (HN 0 1 2) (fun _=>some true) (aN (aa (ab 1) (aa (ab 0) (aa (ab 2) ae)))) [none,none,none] ((bF W).map fun i=>ao (aE W i))).bind small=_
  rw[show ((bF W).map fun i=>ao (aE W i))=List.map (ao ∘ fun i=>aE W i) (bF W) from rfl,this,zA]
  rw[bq (by simp;omega),dv]
  simp only[zM]
  rfl
 show aN (aa (f2 au (ab 0) (fC (.int 1))) (aa (f2 au (ab 0) (fC (.int 0))) (aa (aZ bI (aa (cX (ak 3 [] (aP (ab 1)) (HN 0 1 2) (fun _=>some true) (aN (aa (ab 1) (aa (ab 0) (aa (ab 2) ae)))))) ae)) ae))) [some (ax G T W),some (.list ((bF W).map fun i=>ao (aE W i)))]=_
 have e4:(aZ bI (aa (cX (ak 3 [] (aP (ab 1)) (HN 0 1 2) (fun _=>some true) (aN (aa (ab 1) (aa (ab 0) (aa (ab 2) ae)))))) ae)) [some (ax G T W),some (.list ((bF W).map fun i=>ao (aE W i)))]=some (.tuple ((dv W (bF W)).map ao)):=by
  simp only[aZ,aa,ae,cX,e3,zB,zA,A4]
 exact tup_is (ds:=[.tuple (T.map bK),.tuple (G.map bK),.tuple ((dv W (bF W)).map ao)]) (cons_of (aw (a:=ax G T W) (b:=.int 1) (c:=.tuple (T.map bK)) rfl rfl rfl) (cons_of (aw (a:=ax G T W) (b:=.int 0) (c:=.tuple (G.map bK)) rfl rfl rfl) (cons_of e4 rfl))) (by simp)
theorem lP(h:Wd G T W)(p:Pn G T W P):bY [ax G T W,af P]=some (af (j3 P (bF W))):=by
 have hw:=h.wl
 have hn:=yo h.wp
 refine aD ?_
 show eW [.val (ax G T W),.val (af P)]=_
 unfold eW
 refine (ai (eB (call_of (f7 h p) rfl rfl))).trans ?_
 have c:ak 1 [1] (aP (ah 1 aS (aa (ab 0) ae))) (fG 0) (fun _=>some true) (f2 au (ab 1) (ab 0)) [some (ax G T W),some (af P)]=some ((bF W).map fun i=>.int (P.getD i 0)) :=
  eQ (kH (k4 h) rfl rfl) (by omega) fun i hi=>aw (oa (by rw[p.len];exact vK h.wp hi)) rfl rfl
 refine aH ?_
 show aZ bI (aa (cX (ak 1 [1] (aP (ah 1 aS (aa (ab 0) ae))) (fG 0) (fun _=>some true) (f2 au (ab 1) (ab 0)))) ae) [some (ax G T W),some (af P)]=_
 simp only[aZ,aa,ae,cX,c,zB,zA,A4]
 simp[af,j3]
end
theorem JD{f g:Dl.Env->Option D}{ρ:Dl.Env}{ds:List D}{k:Nat}(h:f ρ=some (.list ds))(h2:g ρ=some (nD k)):n0 jc f (Ee g) og ρ=some (.list (ds.drop k)):=by
 have:=yZ ds k
 simp only[n0,h,Ee,h2,og,gI,jc,zA,zB,this]
theorem CO{p:Nat->Bool}(is:List Nat):Rf.Gu [.list (is.map fun i=>.bool (p i))]=some (.bool (is.any p)):=by
 have:∀is:List Nat,boolsOf (is.map fun i=>PyData.bool (p i))=some (is.map p):=fun is=>by
  induction is with
  | nil=>rfl
  | cons i is ih=>simp[boolsOf,ih]
 simp only[Rf.Gu,oneOf,zA,this,zB,List.any_map]
 rfl
theorem nq{α β:Type}(f:α->β)(p:β->Bool)(q:α->Bool):∀ (l:List α),(∀x∈l,p (f x)=q x)->(l.map f).findIdx p=l.findIdx q
 | [],_=>rfl
 | x::l,h=>by
  rw[zI,List.findIdx_cons,List.findIdx_cons,h x zE,nq f p q l fun y hy=>h y (zC _ hy)]
section
variable {G T:List Pl}{W:List Wy}{P:List Int}
theorem LO(h:Wd G T W){b:Bool}{i:Nat}{p:Pl}(e:(aG b G T)[i]?=some p){k:Nat}(hk:k < W.length)(he:bw b (aE W k)=i):pH (.list ((fw b W i p.2).map nD)) (nD k)=some (nD (sk p.2 (b8 b (aE W k)))):=by
 have ko:k∈own b W i:=cx.mpr ⟨hk,he⟩
 have km:k∈fw b W i p.2:=(fg h e).mem_iff.mpr ko
 have e1:(fw b W i p.2).map nD=((fw b W i p.2).map fun j=>((j:Nat):Int)).map PyData.int:=by rw[zM];rfl
 have m1:((k:Nat):Int)∈(fw b W i p.2).map fun j=>((j:Nat):Int):=zQ.mpr ⟨k,km,rfl⟩
 rw[e1]
 show (intsOf _).bind _=_
 rw[cG,zA,n8 m1,zB]
 have e2:((fw b W i p.2).map fun j=>((j:Nat):Int)).findIdx (fun o=>decide (o=((k:Nat):Int)))=sk p.2 (b8 b (aE W k)):=by
  unfold fw sk
  rw[zM]
  refine nq _ _ _ _ fun x hx=>?_
  obtain⟨hl,h1,h2⟩:=nF h e hx
  show decide (((oP b W i x:Nat):Int)=(k:Int))=decide (x=b8 b (aE W k))
  rw[decide_eq_decide]
  constructor
  ·intro z
   have z:oP b W i x=k:=by omega
   rw[<- z,h2]
  ·intro z
   rw[z,vS h.wp ko]
 rw[e2]
theorem mW(h:Wd G T W)(hp:P.length=W.length)(hs:Sm P)(b:Bool){k:Nat}(hk:k < W.length):cH [ax G T W,af P,.int (sI b),nD k]=some (.bool (vg b G T W P k)):=by
 have hw:=h.wl
 obtain⟨z1,z2,z3⟩:=h.end_pl b hk
 have hx:(aG b G T)[(bw b (aE W k)).toNat]?=some (cA b G T (bw b (aE W k)).toNat):=by
  rw[zK z2]
  simp[cA,z2]
 have hL:∀x∈(cA b G T (bw b (aE W k)).toNat).2,_:=fun x hx'=>nF h hx hx'
 have hb:(cA b G T (bw b (aE W k)).toNat).2.length<=16:=by
  have:=(fg h hx).length_eq
  have h2:=pZ b W ((bw b (aE W k)).toNat:Int)
  unfold fw at this
  rw[zD] at this
  omega
 have ei:=LO h hx hk z3.symm
 have ew:=n6 h hx
 generalize hpl:cA b G T (bw b (aE W k)).toNat=pl at *
 generalize hj:(bw b (aE W k)).toNat=j at *
 have ez:PyData.int (bw b (aE W k))=nD j:=by rw[<- z3]
 refine aD ?_
 show gg [.val (ax G T W),.val (af P),.val (.int (sI b)),.val (nD k),.non,.non,.non]=_
 unfold gg
 have t4:Dl.az 4 [0,2,3] (f2 au (f2 au (f2 au (ab 0) (fC (.int 2))) (ab 3)) (ab 2)) [.val (ax G T W),.val (af P),.val (.int (sI b)),.val (nD k),.non,.non,.non]=some (.nx [.val (ax G T W),.val (af P),.val (.int (sI b)),.val (nD k),.val (nD j),.non,.non]):=by
  rw[<- ez]
  exact bO (d:=.int (bw b (aE W k))) (aw (vz b _) (aw (rL hk) rfl rfl) rfl) rfl
 rw[ai t4]
 have ep:au (.tuple ((aG b G T).map bK)) (nD j)=some (bK pl):=mi hx
 have ct:(fB (f2 wX (ah 4 dk (aa (ab 0) (aa (ab 1) (aa (ab 2) (aa (ab 4) ae))))) (f2 au (f2 au (f2 au (ab 0) (ab 2)) (ab 4)) (fC (.int 0))))) (bp [.val (ax G T W),.val (af P),.val (.int (sI b)),.val (nD k),.val (nD j),.non,.non])=some (decide (pj b W P j < pl.1)):=by
  refine cM (aw (hV _ _) (call_of (tM h hp hs b j) rfl rfl) ?_)
  refine aw (a:=bK pl) (b:=.int 0) rfl (aw ep (aw (jF b G T W) rfl rfl) rfl) rfl
 have hm:vg b G T W P k=(decide (pj b W P j < pl.1)||(pl.2.drop (sk pl.2 (b8 b (aE W k))+1)).any fun o=>decide (0 < P.getD (oP b W j o) 0)):=by
  unfold vg
  rw[hj,hpl,z3]
 rw[hm]
 cases hc:decide (pj b W P j < pl.1) with
 | true =>
  rw[hc] at ct
  exact mq ((jM ct).trans (aH rfl))
 | false =>
  rw[hc] at ct
  rw[ai (cB ct),Bool.false_or]
  have t5:Dl.az 5 [0,2,4] (ah 3 bQ (aa (ab 0) (aa (ab 2) (aa (ab 4) ae)))) [.val (ax G T W),.val (af P),.val (.int (sI b)),.val (nD k),.val (nD j),.non,.non]=some (.nx [.val (ax G T W),.val (af P),.val (.int (sI b)),.val (nD k),.val (nD j),.val (.list ((fw b W j pl.2).map nD)),.non]) :=
   bD (call_of ew rfl rfl) (call_of ew rfl rfl) rfl
  rw[ai t5]
  have cu:∀ρ:Dl.Env,ab 5 ρ=some (.list ((fw b W j pl.2).map nD))->ab 3 ρ=some (nD k)->(n0 jc (ab 5) (Ee (f2 aM (f2 pH (ab 5) (ab 3)) (fC (.int 1)))) og) ρ=some (.list (((fw b W j pl.2).map nD).drop (sk pl.2 (b8 b (aE W k))+1))):=fun ρ a c =>
   JD a (aw (fv _ _) (aw ei a c) rfl)
  have t6:Dl.az 6 [3,5] (n0 jc (ab 5) (Ee (f2 aM (f2 pH (ab 5) (ab 3)) (fC (.int 1)))) og) [.val (ax G T W),.val (af P),.val (.int (sI b)),.val (nD k),.val (nD j),.val (.list ((fw b W j pl.2).map nD)),.non]=some (.nx [.val (ax G T W),.val (af P),.val (.int (sI b)),.val (nD k),.val (nD j),.val (.list ((fw b W j pl.2).map nD)),.val (.list (((fw b W j pl.2).drop (sk pl.2 (b8 b (aE W k))+1)).map nD))]):=by
   rw[List.map_drop]
   exact bD (cu _ rfl rfl) (cu _ rfl rfl) rfl
  rw[ai t6]
  have c:ak 1 [1] (aP (ab 6)) (fG 0) (fun _=>some true) (f2 Er (f2 au (ab 1) (ab 0)) (fC (.int 0))) [some (ax G T W),some (af P),some (.int (sI b)),some (nD k),some (nD j),some (.list ((fw b W j pl.2).map nD)),some (.list (((fw b W j pl.2).drop (sk pl.2 (b8 b (aE W k))+1)).map nD))]=some (((fw b W j pl.2).drop (sk pl.2 (b8 b (aE W k))+1)).map fun i=>.bool (decide (0 < P.getD i 0))):=by
   refine eQ rfl ?_ fun i hi=>?_
   ·rw[List.length_drop,fw,zD]
    omega
   ·have hi':=List.mem_of_mem_drop hi
    unfold fw at hi'
    obtain⟨x,hx',rfl⟩:=zQ.mp hi'
    exact aw (ig _ _) (aw (oa (by rw[hp];exact (hL x hx').1)) rfl rfl) rfl
  refine aH ?_
  show aZ Rf.Gu (aa (cX (ak 1 [1] (aP (ab 6)) (fG 0) (fun _=>some true) (f2 Er (f2 au (ab 1) (ab 0)) (fC (.int 0))))) ae) [some (ax G T W),some (af P),some (.int (sI b)),some (nD k),some (nD j),some (.list ((fw b W j pl.2).map nD)),some (.list (((fw b W j pl.2).drop (sk pl.2 (b8 b (aE W k))+1)).map nD))]=_
  simp only[aZ,aa,ae,cX,c,zB,zA,CO]
  unfold fw
  rw[<- List.map_drop,List.any_map]
  rfl
def Oe:Nat->D|0=>.str "full" | 1=>.str "giver" | 2=>.str "taker" | _=>.none
theorem As(h:Wd G T W)(hp:P.length=W.length)(hs:Sm P){k:Nat}(hk:k < W.length):eU [ax G T W,af P,nD k]=some (Oe (lK G T W P k)):=by
 refine aD ?_
 show jI [.val (ax G T W),.val (af P),.val (nD k)]=_
 unfold jI lK
 have c1:(fB (f2 cq (f2 au (ab 1) (ab 2)) (f2 au (f2 au (f2 au (ab 0) (fC (.int 2))) (ab 2)) (fC (.int 2))))) (bp [.val (ax G T W),.val (af P),.val (nD k)])=some (decide (P.getD k 0=(aE W k).2.2)) :=
  cM (aw (dB _ _) (aw (oa (by rw[hp];exact hk)) rfl rfl) (aw (a:=ao (aE W k)) (b:=.int 2) rfl (aw (rL hk) rfl rfl) rfl))
 have w0:=mW h hp hs false hk
 have w1:=mW h hp hs true hk
 have c2:(bR (fB (ah 4 cH (aa (ab 0) (aa (ab 1) (aa (fC (.int 0)) (aa (ab 2) ae))))))) (bp [.val (ax G T W),.val (af P),.val (nD k)])=some (!(vg false G T W P k)):=gn (cM (call_of w0 rfl rfl))
 have c3:(bR (fB (ah 4 cH (aa (ab 0) (aa (ab 1) (aa (fC (.int 1)) (aa (ab 2) ae))))))) (bp [.val (ax G T W),.val (af P),.val (nD k)])=some (!(vg true G T W P k)):=gn (cM (call_of w1 rfl rfl))
 by_cases e1:P.getD k 0=(aE W k).2.2
 ·rw[yB e1] at c1
  rw[if_pos e1]
  exact mq ((jM c1).trans (aH rfl))
 ·rw[yA e1] at c1
  rw[if_neg e1,ai (cB c1)]
  cases e2:vg false G T W P k with
  | false =>
   rw[e2] at c2
   rw[if_pos rfl]
   exact mq ((jM c2).trans (aH rfl))
  | true =>
   rw[e2] at c2
   rw[if_neg (by simp),ai (cB c2)]
   cases e3:vg true G T W P k with
   | false =>
    rw[e3] at c3
    rw[if_pos rfl]
    exact mq ((jM c3).trans (aH rfl))
   | true =>
    rw[e3] at c3
    rw[if_neg (by simp),ai (cB c3)]
    exact aH rfl
theorem Lj(G T:List Pl)(W:List Wy)(P:List Int)(k:Nat):lK G T W P k<=3:=by
 unfold lK
 split
 ·omega
 ·split
  ·omega
  ·split<;>omega
theorem JC(n:Nat)(h:n<=3):sV (Oe n) .none=some (.bool (decide (n=3))):=by
 match n,h with
 | 0,_=>rfl
 | 1,_=>rfl
 | 2,_=>rfl
 | 3,_=>rfl
theorem GM{ρ:Dl.Env}{f:Dl.Env->Option D}(hp:P.length=W.length)(hf:f ρ=some (af P)):(aa (aZ bN (aa f ae)) ae) ρ=some [nD W.length]:=by
 have:=Cw P
 rw[hp] at this
 refine cons_of ?_ rfl
 rw[dO hf,this]
theorem o7(h:Wd G T W)(hp:P.length=W.length)(hs:Sm P):dF [ax G T W,af P]=some (match (List.range W.length).find? fun k=>decide (lK G T W P k=3) with|some k=>nD k|none=>.none):=by
 have hw:=h.wl
 refine aD ?_
 show dH [.val (ax G T W),.val (af P),.non]=_
 unfold dH
 obtain⟨f1,f2'⟩:=ma (tgt:=nu 2) (gb:=gQ (fB (f2 sV (ah 3 eU (aa (ab 0) (aa (ab 1) (aa (ab 2) ae)))) (fC .none))) (aF (ab 2)) gz) (fun ρ=>∃x,ρ=[.val (ax G T W),.val (af P),x]) nD (fun k=>decide (lK G T W P k=3)) nD
  (l:=List.range W.length) (ρ:=[.val (ax G T W),.val (af P),.non])
  (fun ρ k hk hρ=>by
   obtain⟨x,rfl⟩:=hρ
   have hk':k < W.length:=by simpa using hk
   have c:(fB (f2 sV (ah 3 eU (aa (ab 0) (aa (ab 1) (aa (ab 2) ae)))) (fC .none))) (bp [.val (ax G T W),.val (af P),.val (nD k)])=some (decide (lK G T W P k=3)) :=
    cM (aw (JC _ (Lj G T W P k)) (call_of (As h hp hs hk') rfl rfl) rfl)
   refine⟨_,rfl,fun hq=>?_,fun hq=>?_⟩
   ·show gQ _ _ _ [.val (ax G T W),.val (af P),.val (nD k)]=_
    rw[hq] at c
    exact (jM c).trans (aH rfl)
   ·rw[hq] at c
    exact⟨_,cB c,_,rfl⟩) ⟨_,rfl⟩
 have hr:bc (aa (aZ bN (aa (ab 1) ae)) ae) [some (ax G T W),some (af P),none]=some ((List.range W.length).map nD):=qv (GM hp rfl) (by omega)
 cases e:(List.range W.length).find? fun k=>decide (lK G T W P k=3) with
 | some k=>exact mq (dh (f1 k e) hr rfl)
 | none =>
  obtain⟨ρ',e',x,rfl⟩:=f2' e
  exact (ai (dh e' hr rfl)).trans (aH rfl)
theorem rK(h:Wd G T W)(hp:P.length=W.length)(hs:Sm P):eP [ax G T W,af P]=some (.bool (decide (AR G T W P=[]))):=by
 refine aD ?_
 show jv [.val (ax G T W),.val (af P)]=_
 unfold jv
 refine aH (aw ?_ (call_of (o7 h hp hs) rfl rfl) rfl)
 cases e:(List.range W.length).find? fun k=>decide (lK G T W P k=3) with
 | some k =>
  have:AR G T W P≠[]:=fun z=>by
   have hm:=List.mem_of_find?_eq_some e
   have hq:=List.find?_some e
   have:k∈AR G T W P:=List.mem_filter.mpr ⟨hm,hq⟩
   rw[z] at this
   cases this
  rw[yA this]
  rfl
 | none =>
  have:AR G T W P=[]:=by
   rw[List.find?_eq_none] at e
   exact List.filter_eq_nil_iff.mpr e
  rw[yB this]
  rfl
theorem Jt(h:Wd G T W)(p:Pn G T W P):mO [ax G T W,af P]=some (.bool (decide (AR G T W P=[]))):=by
 refine aD ?_
 show pM [.val (ax G T W),.val (af P)]=_
 unfold pM
 refine (ai (eB (call_of (f7 h p) rfl rfl))).trans ?_
 exact aH (call_of (rK h p.len (p.smP h)) rfl rfl)
theorem sC(h:Wd G T W){c:List Int}(hb:ba [ax T G (dv W (bF W))]=some (af c))(p:Pn T G (dv W (bF W)) c):bZ [ax G T W]=some (af (j3 c (bF (dv W (bF W))))):=by
 have o:=bT h.wp
 have h':=o.wd h
 refine aD ?_
 show eX [.val (ax G T W),.non]=_
 unfold eX
 have t1:Dl.az 1 [0] (ah 1 cK (aa (ab 0) ae)) [.val (ax G T W),.non]=some (.nx [.val (ax G T W),.val (ax T G (dv W (bF W)))]):=bD (call_of (hC h) rfl rfl) (call_of (hC h) rfl rfl) rfl
 rw[ai t1]
 exact aH (call_of (lP h' p) (cons_of rfl (cons_of (call_of hb rfl rfl) rfl)) rfl)
end
theorem wa{tgt:aj->D->Option aj}{gb:aj->Option Out}(f:Nat->D)(R:Nat->aj->Prop):∀ (n k:Nat) (ρ:aj),
  (∀j ρ,k<=j->j < k+n->R j ρ->∃ρ1 ρ2,tgt ρ (f j)=some ρ1/\gb ρ1=some (.nx ρ2)/\R (j+1) ρ2)->R k ρ->∃ρ',cO tgt gb ((List.range' k n).map f) ρ=some (.nx ρ')/\R (k+n) ρ'
 | 0,k,ρ,_,h=>⟨ρ,rfl,h⟩
 | n+1,k,ρ,hh,h=>by
  obtain⟨ρ1,ρ2,e1,e2,h2⟩:=hh k ρ (Nat.le_refl _) (by omega) h
  obtain⟨ρ',e3,h3⟩:=wa f R n (k+1) ρ2 (fun j ρ a b=>hh j ρ (by omega) (by omega)) h2
  refine⟨ρ',?_,by rw[show k+(n+1)=k+1+n by omega];exact h3⟩
  rw[List.range'_succ,zI,cO,e1,zA,e2]
  exact e3
section
variable {G T:List Pl}{W:List Wy}{P:List Int}
end
section
variable {ns:List Int}{G T:List Pl}{W:List Wy}{at':Int}
theorem Js{a b:List Int}(h:a.length+b.length<=1000):Dl.aM (af a) (af b)=some (af (a++b)):=by
 unfold af
 rw[wg (by simp;omega),List.map_append]
end
theorem pY{S:Type}(cont:S->Bool)(st:S->S)(μ:S->Nat)(I:S->Prop)(hb:∀s,I s->cont s=true->I (st s)/\μ (st s) < μ s):∀ (n:Nat) (s:S),μ s < n->I s->cont (lp cont st n s)=false/\I (lp cont st n s)
 | 0,s,h,_=>absurd h (by omega)
 | n+1,s,h,i=>by
  rw[lp]
  cases hc:cont s with
  | false=>exact⟨by simpa [hc] using hc,by simpa using i⟩
  | true =>
   obtain⟨i2,hm⟩:=hb s i hc
   have:=pY cont st μ I hb n (st s) (by omega) i2
   simpa using this
section
variable {G T:List Pl}{W:List Wy}
theorem AS{k:Nat}(hk:k < W.length):(d5 W).getD k 0=(aE W k).2.2:=by
 unfold d5
 rw[zG,zO,mS hk]
 rfl
theorem nH(h:Wd G T W):rV G T W (fin G T W).2=none/\zl W (fin G T W)/\∀k,k < W.length->(fin G T W).2.getD k 0<=(aE W k).2.2:=by
 have hb:=h.mea
 obtain⟨h1,i,h2⟩:=pY (KL G T W) (spS G T W) (fun s=>mea s.2) (fun s=>zl W s/\∀k,k < W.length->s.2.getD k 0<=(aE W k).2.2)
  (fun s ⟨i,l⟩ hc=>by
   obtain⟨p,e⟩:=mG hc
   obtain⟨a,b,c⟩:=CK h i.off e
   obtain⟨i2,hm⟩:=i.step h e
   refine⟨⟨i2,fun k hk=>?_⟩,hm⟩
   rw[rE e]
   show (s.2.set p.1 p.2).getD k 0<=_
   by_cases z:k=p.1
   ·subst z
    have:=l p.1 a
    have hl:p.1 < s.2.length:=by rw[i.len];exact a
    rw[show (s.2.set p.1 p.2).getD p.1 0=p.2 by simp[hl]]
    omega
   ·rw[show (s.2.set p.1 p.2).getD k 0=s.2.getD k 0 by simp[List.getElem?_set_ne (Ne.symm z)]]
    exact l k hk) Rf.turns ([],d5 W) (Nat.lt_of_le_of_lt hb (by decide)) ⟨zl.start h,fun k hk=>by rw[AS hk];omega⟩
 refine⟨?_,i,h2⟩
 have:KL G T W (fin G T W)=false:=h1
 unfold KL at this
 exact Option.isNone_iff_eq_none.mp (by simpa using this)
def mC(G T:List Pl)(W:List Wy):List Int:=bo false G T W (fin G T W).2
theorem kK(h:Wd G T W):Pn G T W (mC G T W):=by
 obtain⟨h1,i,h2⟩:=nH h
 exact IF h i.off h2 h1
theorem vm(h:Wd G T W):ba [ax G T W]=some (af (mC G T W)):=tj h
end
section
variable {W:List Wy}{G T:List Pl}{P off:List Int}
theorem E6:∀ (xs:List Nat),(∀i∈xs,0<=off.getD i 0)->0<=(xs.map fun i=>off.getD i 0).sum
 | [],_=>by simp
 | i::xs,h=>by
  have:=E6 xs fun j hj=>h j (zC _ hj)
  have:=h i zE
  rw[zI,List.sum_cons];omega
theorem BP:∀ (xs:List Nat),(∀i∈xs,0<=P.getD i 0)->(0 < (xs.map fun i=>P.getD i 0).sum↔(xs.any fun i=>decide (0 < P.getD i 0))=true)
 | [],_=>by simp
 | i::xs,h=>by
  have ih:=BP xs fun j hj=>h j (zC _ hj)
  have h0:=E6 (off:=P) xs fun j hj=>h j (zC _ hj)
  have hi:=h i zE
  rw[zI,List.sum_cons,List.any_cons,Bool.or_eq_true,zJ,<- ih]
  omega
theorem Jx(h:Wd G T W){b:Bool}{k:Nat}(hk:k < W.length) :
  let i:=(bw b (aE W k)).toNat
  let L:=(cA b G T i).2
  fw b W i L=(L.take (sk L (b8 b (aE W k)))).map (oP b W i)++k::(L.drop (sk L (b8 b (aE W k))+1)).map (oP b W i):=by
 intro i L
 obtain⟨h1,h2,h3⟩:=h.end_pl b hk
 have e:=gT h2
 have hm:b8 b (aE W k)∈L:=by
  rw[(h.lik e).mem_iff,<- lG]
  exact zQ.mpr ⟨k,cx.mpr ⟨hk,h3.symm⟩,rfl⟩
 have hlt:sk L (b8 b (aE W k)) < L.length:=by
  unfold sk
  exact List.findIdx_lt_length_of_exists ⟨_,hm,by simp⟩
 have hg:L[sk L (b8 b (aE W k))]=b8 b (aE W k):=by
  have:=List.findIdx_getElem (w:=hlt)
  exact of_decide_eq_true this
 have hx:oP b W i (b8 b (aE W k))=k:=vS h.wp (cx.mpr ⟨hk,h3.symm⟩)
 unfold fw
 conv=>lhs;rw[<- List.take_append_drop (sk L (b8 b (aE W k))) L,List.drop_eq_getElem_cons hlt,hg,List.map_append,zI,hx]
end
def sm(l:List Nat)(f:Nat->Int):Int:=(l.map f).sum
theorem bG(q:Nat)(l:List Nat)(f:Nat->Int):sm (q::l) f=f q+sm l f:=by simp[sm]
theorem qu(l r:List Nat)(f:Nat->Int):sm (l++r) f=sm l f+sm r f:=by simp[sm]
theorem mL(q:Nat)(f:Nat->Int):sm [q] f=f q:=by simp[sm]
theorem gY:∀ {l:List Nat}{f g:Nat->Int},(∀q∈l,f q=g q)->sm l f=sm l g
 | [],_,_,_=>rfl
 | q::l,f,g,h=>by rw[bG,bG,h q zE,gY fun x hx=>h x (zC _ hx)]
theorem uv:∀ {l:List Nat}{f g:Nat->Int},(∀q∈l,f q<=g q)->sm l f<=sm l g
 | [],_,_,_=>Int.le_refl _
 | q::l,f,g,h=>by
  have h1:=h q zE
  have h2:=uv (l:=l) fun x hx=>h x (zC _ hx)
  rw[bG,bG]
  omega
theorem oJ{l:List Nat}{f:Nat->Int}(h:∀q∈l,0<=f q):0<=sm l f:=by
 have:sm l (fun _=>0)=0:=by induction l with
  | nil=>rfl
  | cons q l ih=>rw[bG,ih fun x hx=>h x (zC _ hx)];rfl
 rw[<- this]
 exact uv h
theorem F9:∀ {l:List Nat}{f g:Nat->Int}{p:Nat},(∀q∈l,f q<=g q)->p∈l->f p < g p->sm l f < sm l g
 | q::l,f,g,p,h,hp,e=>by
  have h1:=h q zE
  have h2:=uv (l:=l) fun x hx=>h x (zC _ hx)
  rw[bG,bG]
  rcases zR.mp hp with z|z
  ·subst z;omega
  ·have:=F9 (l:=l) (fun x hx=>h x (zC _ hx)) z e
   omega
theorem NU{l:List Nat}{f g:Nat->Int}{p:Nat}(h:sm l f<=sm l g)(hp:p∈l)(e:g p < f p):∃q∈l,f q < g q:=by
 refine Classical.byContradiction fun hn=>?_
 have:∀q∈l,g q<=f q:=fun q hq=>by
  refine Classical.byContradiction fun z=>hn ⟨q,hq,by omega⟩
 have:=F9 this hp e
 omega
theorem Lc{l:List Nat}{f:Nat->Int}{p:Nat}(h:∀q∈l,0<=f q)(hp:p∈l):f p<=sm l f:=by
 obtain⟨xs,ys,rfl⟩:=List.append_of_mem hp
 rw[qu,bG]
 have h1:=oJ (l:=xs) fun q hq=>h q (List.mem_append_left _ hq)
 have h2:=oJ (l:=ys) fun q hq=>h q (yF _ (zC _ hq))
 omega
theorem IR{l r:List Nat}(p:l.Perm r)(f:Nat->Int):sm l f=sm r f:=by
 induction p with
 | nil=>rfl
 | cons x _ ih=>rw[bG,bG,ih]
 | swap x y l=>rw[bG,bG,bG,bG];omega
 | trans _ _ h1 h2=>rw[h1,h2]
def ch(m:Nat->Int):Int->List Nat->Nat->Int
 | _,[],_=>0
 | a,q::r,k=>if k=q then min (m q) a else ch m (a - min (m q) a) r k
theorem bf(m:Nat->Int)(a:Int)(q:Nat)(r:List Nat):ch m a (q::r) q=min (m q) a:=by simp[ch]
theorem aX{m:Nat->Int}{a:Int}{q k:Nat}{r:List Nat}(h:k≠q):ch m a (q::r) k=ch m (a - min (m q) a) r k:=by simp[ch,h]
theorem FF{m:Nat->Int}:∀ {a:Int}{l:List Nat},(∀q∈l,0<=m q)->0<=a->∀k,0<=ch m a l k/\ch m a l k<=a/\(k∈l->ch m a l k<=m k)
 | a,[],_,ha,k=>⟨Int.le_refl _,ha,fun h=>by cases h⟩
 | a,q::r,hm,ha,k=>by
  have h0:=hm q zE
  by_cases e:k=q
  ·subst e
   rw[bf]
   exact⟨by omega,by omega,fun _=>by omega⟩
  ·rw[aX e]
   obtain⟨h1,h2,h3⟩:=FF (m:=m) (a:=a - min (m q) a) (l:=r) (fun x hx=>hm x (zC _ hx)) (by omega) k
   refine⟨h1,by omega,fun hk=>?_⟩
   rcases zR.mp hk with z|z
   ·exact absurd z e
   ·exact h3 z
theorem Ci{m:Nat->Int}:∀ {a a':Int}{l:List Nat}{k:Nat},a<=a'->ch m a l k<=ch m a' l k
 | _,_,[],_,_=>Int.le_refl _
 | a,a',q::r,k,h=>by
  by_cases e:k=q
  ·subst e
   rw[bf,bf]
   omega
  ·rw[aX e,aX e]
   exact Ci (by omega)
theorem Cz{m m':Nat->Int}:∀ {a:Int}{l:List Nat},l.Nodup->(∀q∈l,ch m a l q<=m' q/\m' q<=m q)->∀k,ch m' a l k=ch m a l k
 | _,[],_,_,_=>rfl
 | a,q::r,hn,h,k=>by
  rw[List.nodup_cons] at hn
  have h0:=h q zE
  rw[bf] at h0
  have e0:min (m' q) a=min (m q) a:=by omega
  by_cases e:k=q
  ·subst e
   rw[bf,bf,e0]
  ·rw[aX e,aX e,e0]
   exact Cz hn.2 (fun x hx=>by
    have:=h x (zC _ hx)
    rwa [aX (show x≠q from fun z=>hn.1 (z ▸ hx))] at this) k
theorem qZ{m m':Nat->Int}:∀ {a:Int}{l:List Nat},(∀q∈l,m q=m' q)->∀k,ch m a l k=ch m' a l k
 | _,[],_,_=>rfl
 | a,q::r,h,k=>by
  have h0:=h q zE
  by_cases e:k=q
  ·subst e
   rw[bf,bf,h0]
  ·rw[aX e,aX e,h0]
   exact qZ (fun x hx=>h x (zC _ hx)) k
def up:List Nat->Nat->List Nat
 | [],_=>[]
 | q::r,k=>if k=q then [q] else q::up r k
theorem gh(q:Nat)(r:List Nat):up (q::r) q=[q]:=by simp[up]
theorem fY{q k:Nat}{r:List Nat}(h:k≠q):up (q::r) k=q::up r k:=by simp[up,h]
theorem fR:∀ {l:List Nat}{k q:Nat},q∈up l k->q∈l
 | [],_,_,h=>by cases h
 | x::l,k,q,h=>by
  by_cases e:k=x
  ·subst e
   rw[gh,yL] at h
   exact h ▸ zE
  ·rw[fY e] at h
   rcases zR.mp h with z|z
   ·exact z ▸ zE
   ·exact zC _ (fR z)
theorem va:∀ {l:List Nat}{k:Nat},k∈l->k∈up l k
 | x::l,k,h=>by
  by_cases e:k=x
  ·subst e
   rw[gh]
   exact zE
  ·rw[fY e]
   rcases zR.mp h with z|z
   ·exact absurd z e
   ·exact zC _ (va z)
theorem vH:∀ {xs ys:List Nat}{k:Nat},k∉xs->up (xs++k::ys) k=xs++[k]
 | [],ys,k,_=>gh _ _
 | x::xs,ys,k,h=>by
  rw[zR,not_or] at h
  rw[List.cons_append,fY h.1,vH h.2]
  rfl
theorem CH{l:List Nat}{k:Nat}(hn:l.Nodup)(hk:k∈l):∃ys,l=up l k++ys/\(∀q∈ys,q∉up l k):=by
 obtain⟨xs,ys,rfl⟩:=List.append_of_mem hk
 have hx:k∉xs:=fun z=>by
  rw[List.nodup_append] at hn
  exact hn.2.2 k z k zE rfl
 refine⟨ys,by rw[vH hx];simp,fun q hq hq2=>?_⟩
 rw[vH hx] at hq2
 rw[show xs++k::ys=(xs++[k])++ys by simp,List.nodup_append] at hn
 exact hn.2.2 q hq2 q hq rfl
theorem BE:∀ {l:List Nat}{k q:Nat},l.Nodup->q∈up l k->k∈up l q->k=q
 | [],_,_,_,h,_=>by cases h
 | x::l,k,q,hn,h1,h2=>by
  rw[List.nodup_cons] at hn
  by_cases e:k=x
  ·subst e
   rw[gh,yL] at h1
   exact h1.symm
  ·by_cases e2:q=x
   ·subst e2
    rw[gh,yL] at h2
    exact h2
   ·rw[fY e] at h1
    rw[fY e2] at h2
    rcases zR.mp h1 with z|z
    ·exact absurd z e2
    ·rcases zR.mp h2 with z2|z2
     ·exact absurd z2 e
     ·exact BE hn.2 z z2
theorem Co{m:Nat->Int}:∀ {a:Int}{l:List Nat}{k:Nat},l.Nodup->k∈l->ch m a l k < m k->sm (up l k) (ch m a l)=a
 | a,q::r,k,hn,hk,h=>by
  rw[List.nodup_cons] at hn
  by_cases e:k=q
  ·subst e
   rw[bf] at h
   rw[gh,mL,bf]
   omega
  ·rw[aX e] at h
   have hk':k∈r:=by
    rcases zR.mp hk with z|z
    ·exact absurd z e
    ·exact z
   have ih:=Co hn.2 hk' h
   rw[fY e,bG,bf,gY (g:=ch m (a - min (m q) a) r) fun x hx=>aX fun z=>hn.1 (z ▸ fR hx),ih]
   omega
theorem He{m:Nat->Int}:∀ {a:Int}{l:List Nat}{k q:Nat},l.Nodup->(∀x∈l,0<=m x)->0<=a->0 < ch m a l k->q∈up l k->q≠k->ch m a l q=m q
 | a,[],_,_,_,_,_,_,h,_=>by cases h
 | a,x::r,k,q,hn,hm,ha,h,hq,hne=>by
  rw[List.nodup_cons] at hn
  have h0:=hm x zE
  have hr:∀y∈r,0<=m y:=fun y hy=>hm y (zC _ hy)
  by_cases e:k=x
  ·subst e
   rw[gh,yL] at hq
   exact absurd hq hne
  ·rw[aX e] at h
   rw[fY e] at hq
   rcases zR.mp hq with z|z
   ·subst z
    rw[bf]
    have:=(FF (m:=m) (a:=a - min (m q) a) hr (by omega) k).2.1
    omega
   ·have hqx:q≠x:=fun w=>hn.1 (w ▸ fR z)
    rw[aX hqx]
    exact He hn.2 hr (by omega) h z hne
theorem KG{m:Nat->Int}:∀ {a:Int}{l:List Nat}{k:Nat},l.Nodup->(∀x∈l,0<=m x)->0<=a->k∈l->sm (up l k) (ch m a l)=min a (sm (up l k) m)
 | a,q::r,k,hn,hm,ha,hk=>by
  rw[List.nodup_cons] at hn
  have h0:=hm q zE
  have hr:∀y∈r,0<=m y:=fun y hy=>hm y (zC _ hy)
  by_cases e:k=q
  ·subst e
   rw[gh,mL,mL,bf]
   omega
  ·have hk':k∈r:=by
    rcases zR.mp hk with z|z
    ·exact absurd z e
    ·exact z
   have ih:=KG (m:=m) (a:=a - min (m q) a) hn.2 hr (by omega) hk'
   have hs:=oJ (l:=up r k) fun y hy=>hr y (fR hy)
   rw[fY e,bG,bG,bf,gY (g:=ch m (a - min (m q) a) r) fun x hx=>aX fun z=>hn.1 (z ▸ fR hx),ih]
   omega
theorem FM{m m':Nat->Int}{p:Nat}:∀ {a:Int}{l:List Nat},l.Nodup->(∀x∈l,x≠p->m' x=m x)->m' p<=ch m a l p->(∀k∈l,k≠p->ch m a l k<=ch m' a l k)/\(p∈l->ch m' a l p=m' p)
 | _,[],_,_,_=>⟨fun _ h=>absurd h yG,fun h=>absurd h yG⟩
 | a,q::r,hn,h,hp=>by
  rw[List.nodup_cons] at hn
  by_cases e:q=p
  ·subst e
   rw[bf] at hp
   have hs:∀x∈r,m' x=m x:=fun x hx=>h x (zC _ hx) fun z=>hn.1 (z ▸ hx)
   refine⟨fun k hk hne=>?_,fun _=>?_⟩
   ·rw[aX hne,aX hne,qZ (m:=m') (m':=m) hs]
    exact Ci (by omega)
   ·rw[bf];omega
  ·have hq:=h q zE e
   rw[aX (Ne.symm e)] at hp
   obtain⟨i1,i2⟩:=FM (m:=m) (m':=m') (p:=p) (a:=a - min (m q) a) hn.2 (fun x hx=>h x (zC _ hx)) hp
   refine⟨fun k hk hne=>?_,fun hk=>?_⟩
   ·by_cases e2:k=q
    ·subst e2
     rw[bf,bf,hq]
     exact Int.le_refl _
    ·rw[aX e2,aX e2,hq]
     rcases zR.mp hk with z|z
     ·exact absurd z e2
     ·exact i1 k z hne
   ·rw[aX (Ne.symm e),hq]
    rcases zR.mp hk with z|z
    ·exact absurd z.symm e
    ·exact i2 z
theorem Kw{m X:Nat->Int}:∀ {a:Int}{l:List Nat},l.Nodup->(∀q∈l,0<=X q/\X q<=m q)->sm l X<=a->(∀k∈l,X k=m k\/sm (up l k) X=a)->∀k∈l,ch m a l k=X k
 | _,[],_,_,_,_,_,h=>by cases h
 | a,q::r,hn,hX,hs,h,k,hk=>by
  rw[List.nodup_cons] at hn
  have h0:=hX q zE
  have hr:∀y∈r,0<=X y/\X y<=m y:=fun y hy=>hX y (zC _ hy)
  have hnn:=oJ (l:=r) fun y hy=>(hr y hy).1
  rw[bG] at hs
  have e0:min (m q) a=X q:=by
   rcases h q zE with z|z
   ·omega
   ·rw[gh,mL] at z
    omega
  by_cases e:k=q
  ·subst e
   rw[bf,e0]
  ·rw[aX e,e0]
   rcases zR.mp hk with z|z
   ·exact absurd z e
   ·refine Kw hn.2 hr (by omega) (fun j hj=>?_) k z
    have hjq:j≠q:=fun w=>hn.1 (w ▸ hj)
    rcases h j (zC _ hj) with w|w
    ·exact .inl w
    ·rw[fY hjq,bG] at w
     exact .inr (by omega)
def cS(b:Bool)(W:List Wy)(k:Nat):Nat:=(bw b (aE W k)).toNat
def lst(b:Bool)(G T:List Pl)(W:List Wy)(i:Nat):List Nat:=fw b W i (cA b G T i).2
def amt(b:Bool)(G T:List Pl)(i:Nat):Int:=(cA b G T i).1
def mm(W:List Wy)(off:List Int)(q:Nat):Int:=min (off.getD q 0) (aE W q).2.2
def vl(P:List Int)(q:Nat):Int:=P.getD q 0
section
variable {G T:List Pl}{W:List Wy}{P X c off:List Int}{b:Bool}{i k q:Nat}
theorem dM(h:Wd G T W)(b:Bool)(hk:k < W.length):cS b W k < (aG b G T).length:=(h.end_pl b hk).2.1
theorem ke(h:Wd G T W)(hi:i < (aG b G T).length):(lst b G T W i).Perm (own b W i):=fg h (gT hi)
theorem bP(h:Wd G T W)(hi:i < (aG b G T).length):(lst b G T W i).Nodup:=(ke h hi).nodup_iff.mpr (List.nodup_range.filter _)
theorem eE(h:Wd G T W)(hi:i < (aG b G T).length):q∈lst b G T W i↔q < W.length/\cS b W q=i:=by
 rw[(ke h hi).mem_iff,cx]
 constructor
 ·rintro⟨h1,h2⟩
  exact⟨h1,by unfold cS;rw[h2];simp⟩
 ·rintro⟨h1,h2⟩
  have:=(h.end_pl b h1).2.2
  unfold cS at h2
  rw[h2] at this
  exact⟨h1,this.symm⟩
theorem cN(h:Wd G T W)(b:Bool)(hk:k < W.length):k∈lst b G T W (cS b W k):=(eE h (dM h b hk)).mpr ⟨hk,rfl⟩
theorem EW(h:Wd G T W)(ho:Off off)(q:Nat):0<=mm W off q:=by
 have h1:=ho q
 have h2:=h.lim q
 unfold mm
 omega
theorem FG:∀ (is:List Nat) (a:Int) (l:List Int),is.Nodup->(∀i∈is,i < l.length)->∀k,(is.foldl (mz W off) (a,l)).2.getD k 0=if k∈is then ch (mm W off) a is k else l.getD k 0
 | [],a,l,_,_,k=>by simp
 | q::is,a,l,hn,hl,k=>by
  rw[List.nodup_cons] at hn
  have ih:=FG is (a - cV W off a q) (l.set q (cV W off a q)) hn.2 (fun i hi=>by rw[yD];exact hl i (zC _ hi)) k
  rw[yK]
  show (is.foldl (mz W off) (a - cV W off a q,l.set q (cV W off a q))).2.getD k 0=_
  rw[ih]
  have hq:=hl q zE
  by_cases e:k=q
  ·subst e
   rw[if_neg hn.1,if_pos zE,bf,cJ,if_pos ⟨rfl,hq⟩]
   rfl
  ·rw[aX e]
   by_cases hk:k∈is
   ·rw[if_pos hk,if_pos (zC _ hk)]
    rfl
   ·rw[if_neg hk,if_neg (by rw[zR,not_or];exact⟨e,hk⟩),cJ,if_neg (fun z=>e z.1.symm)]
theorem fP(h:Wd G T W)(b:Bool)(off:List Int)(hk:k < W.length):(bo b G T W off).getD k 0=ch (mm W off) (amt b G T (cS b W k)) (lst b G T W (cS b W k)) k:=by
 have hi:=dM h b hk
 rw[Fg h b hk]
 show (rX W off (amt b G T (cS b W k)) (lst b G T W (cS b W k))).getD k 0=_
 unfold rX
 rw[FG _ _ _ (bP h hi) (fun j hj=>by rw[List.length_replicate];exact ((eE h hi).mp hj).1),if_pos (cN h b hk)]
theorem vc(h:Wd G T W)(b:Bool)(i:Nat):0<=amt b G T i:=h.amt b i
theorem GY(h:Wd G T W)(hi:i < (aG b G T).length):pj b W P i=sm (lst b G T W i) (vl P):=by
 unfold pj
 rw[IR (ke h hi)]
 rfl
def Fl(b:Bool)(G T:List Pl)(W:List Wy)(P:List Int)(k:Nat):Prop:=sm (up (lst b G T W (cS b W k)) k) (vl P)=amt b G T (cS b W k)
def Rs(G T:List Pl)(W:List Wy)(P:List Int):Prop:=∀k,k < W.length->P.getD k 0=(aE W k).2.2\/Fl false G T W P k\/Fl true G T W P k
theorem Pn.nn(p:Pn G T W P)(q:Nat):0<=vl P q:=by
 by_cases hq:q < W.length
 ·exact (p.bd q hq).1
 ·unfold vl
  rw[gF (by rw[p.len];omega)]
  omega
theorem Pn.le_sm(h:Wd G T W)(p:Pn G T W P)(hi:i < (aG b G T).length):sm (lst b G T W i) (vl P)<=amt b G T i:=by
 rw[<- GY h hi]
 exact p.am b i hi
theorem Cp(h:Wd G T W)(p:Pn G T W P)(b:Bool)(hk:k < W.length):vg b G T W P k=false↔Fl b G T W P k:=by
 obtain⟨z1,z2,z3⟩:=h.end_pl b hk
 have hc:lst b G T W (cS b W k)=((cA b G T (cS b W k)).2.take (sk (cA b G T (cS b W k)).2 (b8 b (aE W k)))).map (oP b W (cS b W k))++k::((cA b G T (cS b W k)).2.drop (sk (cA b G T (cS b W k)).2 (b8 b (aE W k))+1)).map (oP b W (cS b W k)):=Jx h hk
 have hn:=bP (b:=b) h z2
 change (lst b G T W (cS b W k)).Nodup at hn
 have hle:=p.le_sm h z2
 change sm (lst b G T W (cS b W k)) (vl P)<=amt b G T (cS b W k) at hle
 have hth:=GY (P:=P) h z2
 have hy:vg b G T W P k=(decide (pj b W P ((cS b W k:Nat):Int) < amt b G T (cS b W k))||(((cA b G T (cS b W k)).2.drop (sk (cA b G T (cS b W k)).2 (b8 b (aE W k))+1)).map (oP b W (cS b W k))).any fun q=>decide (0 < vl P q)):=by
  unfold vg
  rw[List.any_map]
  unfold cS amt
  rw[z3]
  rfl
 change pj b W P ((cS b W k:Nat):Int)=sm (lst b G T W (cS b W k)) (vl P) at hth
 unfold Fl
 rw[hy,hth]
 revert hc
 generalize ((cA b G T (cS b W k)).2.take (sk (cA b G T (cS b W k)).2 (b8 b (aE W k)))).map (oP b W (cS b W k))=xs
 generalize ((cA b G T (cS b W k)).2.drop (sk (cA b G T (cS b W k)).2 (b8 b (aE W k))+1)).map (oP b W (cS b W k))=ys
 intro hc
 have hx:k∉xs:=fun z=>by
  rw[hc,List.nodup_append] at hn
  exact hn.2.2 k z k zE rfl
 rw[hc,vH hx]
 rw[hc] at hle
 have e:sm (xs++k::ys) (vl P)=sm (xs++[k]) (vl P)+sm ys (vl P):=by
  rw[<- qu]
  simp
 have hnn:=oJ (l:=ys) fun q _=>p.nn q
 have hpos:=BP (P:=P) ys fun q _=>p.nn q
 change (0 < sm ys (vl P)↔(ys.any fun q=>decide (0 < vl P q))=true) at hpos
 rw[e] at hle ⊢
 rw[Bool.or_eq_false_iff,decide_eq_false_iff_not]
 constructor
 ·rintro⟨h1,h2⟩
  have:¬ 0 < sm ys (vl P):=fun z=>by rw[hpos.mp z] at h2;cases h2
  omega
 ·intro h1
  refine⟨by omega,?_⟩
  cases hh:(ys.any fun q=>decide (0 < vl P q)) with
  | false=>rfl
  | true=>have:=hpos.mpr hh;omega
theorem kZ(h:Wd G T W)(p:Pn G T W P):AR G T W P=[]↔Rs G T W P:=by
 unfold AR
 rw[List.filter_eq_nil_iff]
 constructor
 ·intro hh k hk
  have:=hh k (by simpa using hk)
  rw[zJ] at this
  unfold lK at this
  by_cases e1:P.getD k 0=(aE W k).2.2
  ·exact .inl e1
  ·rw[if_neg e1] at this
   by_cases e2:vg false G T W P k=false
   ·exact .inr (.inl ((Cp h p false hk).mp e2))
   ·rw[if_neg e2] at this
    by_cases e3:vg true G T W P k=false
    ·exact .inr (.inr ((Cp h p true hk).mp e3))
    ·rw[if_neg e3] at this
     exact absurd rfl this
 ·intro hh k hk
  rw[zJ]
  unfold lK
  rcases hh k (by simpa using hk) with e|e|e
  ·rw[if_pos e];omega
  ·rw[if_pos ((Cp h p false (by simpa using hk)).mpr e)]
   split<;>omega
  ·rw[if_pos ((Cp h p true (by simpa using hk)).mpr e)]
   split
   ·omega
   ·split<;>omega
theorem vX(e:rV G T W c=some (k,q')):k < W.length/\q'=(jT G T W c).getD k 0/\(jT G T W c).getD k 0 < (bo false G T W c).getD k 0:=by
 unfold rV at e
 obtain⟨j,hj,e2⟩:=Dl.ag e
 cases e2
 have hm:=List.mem_of_find?_eq_some hj
 have hq:=List.find?_some hj
 rw[qR,zJ] at hq
 exact⟨zT.mp hm,rfl,hq⟩
theorem Kj(e:rV G T W c=none)(hk:k < W.length):(bo false G T W c).getD k 0<=(jT G T W c).getD k 0:=by
 unfold rV at e
 rw[Option.map_eq_none_iff] at e
 have:=List.find?_eq_none.mp e k (by simpa using hk)
 rw[qR,zJ] at this
 omega
end
section
variable {G T:List Pl}{W:List Wy}{P X c off:List Int}{b:Bool}{i k q:Nat}
theorem mw(h:Wd G T W)(hk:k < W.length)(hq:q∈lst b G T W (cS b W k)):q < W.length/\cS b W q=cS b W k:=(eE h (dM h b hk)).mp hq
theorem oA(h:Wd G T W)(hi:i < (aG b G T).length)(hq:q∈lst b G T W i):vl (bo b G T W off) q=ch (mm W off) (amt b G T i) (lst b G T W i) q:=by
 obtain⟨h1,h2⟩:=(eE h hi).mp hq
 have:=fP h b off h1
 rw[h2] at this
 exact this
theorem Fq(h:Wd G T W)(ho:Off off)(b:Bool)(hk:k < W.length):sm (up (lst b G T W (cS b W k)) k) (vl (bo b G T W off))=min (amt b G T (cS b W k)) (sm (up (lst b G T W (cS b W k)) k) (mm W off)):=by
 have hi:=dM h b hk
 rw[gY fun q hq=>oA h hi (fR hq)]
 exact KG (bP h hi) (fun q _=>EW h ho q) (vc h b _) (cN h b hk)
theorem qV(h:Wd G T W)(b:Bool)(hk:k < W.length)(e:(bo b G T W off).getD k 0 < mm W off k):Fl b G T W (bo b G T W off) k:=by
 have hi:=dM h b hk
 rw[fP h b off hk] at e
 unfold Fl
 rw[gY fun q hq=>oA h hi (fR hq)]
 exact Co (bP h hi) (cN h b hk) e
theorem Ij(h:Wd G T W)(ho:Off off)(hk:k < W.length)(e:0 < (bo b G T W off).getD k 0)(hq:q∈up (lst b G T W (cS b W k)) k)(hne:q≠k):(bo b G T W off).getD q 0=mm W off q:=by
 have hi:=dM h b hk
 rw[fP h b off hk] at e
 have:=oA (off:=off) h hi (fR hq)
 unfold vl at this
 rw[this]
 exact He (bP h hi) (fun q _=>EW h ho q) (vc h b _) e hq hne
theorem Ad(h:Wd G T W)(ho:Off off)(b:Bool)(hk:k < W.length):0<=(bo b G T W off).getD k 0/\(bo b G T W off).getD k 0<=mm W off k:=by
 have hi:=dM h b hk
 rw[fP h b off hk]
 have:=FF (m:=mm W off) (a:=amt b G T (cS b W k)) (l:=lst b G T W (cS b W k)) (fun q _=>EW h ho q) (vc h b _) k
 exact⟨this.1,this.2.2 (cN h b hk)⟩
theorem Ow(h:Wd G T W)(p:Pn G T W X)(b:Bool)(hk:k < W.length):sm (up (lst b G T W (cS b W k)) k) (vl X)<=amt b G T (cS b W k):=by
 have hi:=dM h b hk
 have:=p.le_sm h hi
 obtain⟨ys,e,_⟩:=CH (bP h hi) (cN h b hk)
 rw[e,qu] at this
 have hn:=oJ (l:=ys) fun q _=>p.nn q
 omega
theorem Ah(h:Wd G T W)(p:Pn G T W X)(hq:q < W.length)(f:Fl b G T W X q)(hk:k∈lst b G T W (cS b W q))(hn:k∉up (lst b G T W (cS b W q)) q):X.getD k 0=0:=by
 have hi:=dM h b hq
 have hle:=p.le_sm h hi
 obtain⟨ys,e,_⟩:=CH (bP h hi) (cN h b hq)
 have hy:k∈ys:=by
  rw[e] at hk
  rcases List.mem_append.mp hk with z|z
  ·exact absurd z hn
  ·exact z
 rw[e,qu] at hle
 unfold Fl at f
 have:=Lc (l:=ys) (fun q _=>p.nn q) hy
 have h0:=p.nn k
 unfold vl at this h0
 have:sm ys (vl X)=sm ys fun q=>X.getD q 0:=rfl
 omega
theorem xp(h:Wd G T W)(p:Pn G T W X)(ho:Off c)(hc:∀k,k < W.length->X.getD k 0<=c.getD k 0)(hq:q < W.length)(e:X.getD q 0 < (bo false G T W c).getD q 0):¬ Fl false G T W X q:=fun f=>by
 have hi:=dM h false hq
 have hpos:0 < (bo false G T W c).getD q 0:=by have:=p.nn q;unfold vl at this;omega
 have hlt:sm (up (lst false G T W (cS false W q)) q) (vl X) < sm (up (lst false G T W (cS false W q)) q) (vl (bo false G T W c)):=by
  refine F9 (p:=q) (fun r hr=>?_) (va (cN h false hq)) e
  by_cases z:r=q
  ·subst z;exact Int.le_of_lt e
  ·have hr':=(mw h hq (fR hr)).1
   unfold vl
   rw[Ij h ho hq hpos hr z]
   have h1:=hc r hr'
   have h2:=(p.bd r hr').2
   unfold mm
   omega
 have h2:=Fq h ho false hq
 unfold Fl at f
 omega
end
section
variable {G T:List Pl}{W:List Wy}{P X c off:List Int}{b:Bool}{i k q:Nat}{v:Int}
theorem m5(h:Wd G T W)(ho:Off c)(hk:k < W.length):0<=(jT G T W c).getD k 0/\(jT G T W c).getD k 0<=(bo false G T W c).getD k 0/\(bo false G T W c).getD k 0<=c.getD k 0/\(bo false G T W c).getD k 0<=(aE W k).2.2/\mm W (bo false G T W c) k=(bo false G T W c).getD k 0:=by
 have h1:=Ad h ho false hk
 have h2:=Ad h (jo h ho false) true hk
 change 0<=(jT G T W c).getD k 0/\(jT G T W c).getD k 0<=_ at h2
 unfold mm at h1 h2 ⊢
 omega
theorem F6(h:Wd G T W)(p:Pn G T W X)(r:Rs G T W X)(ho:Off c)(hc:∀k,k < W.length->X.getD k 0<=c.getD k 0)(e:rV G T W c=some (k,v)):X.getD k 0<=v:=by
 obtain⟨hk,rfl,hlt⟩:=vX e
 refine Classical.byContradiction fun hn=>?_
 have hn:(jT G T W c).getD k 0 < X.getD k 0:=by omega
 obtain⟨b0,b1,b2,b3,b4⟩:=m5 h ho hk
 have ff:Fl true G T W (jT G T W c) k:=qV h true hk (by rw[b4];exact hlt)
 have hle:=Ow h p true hk
 unfold Fl at ff
 obtain⟨q,hq,hqx⟩:=NU (f:=vl X) (g:=vl (jT G T W c)) (l:=up (lst true G T W (cS true W k)) k) (p:=k) (by omega) (va (cN h true hk)) hn
 obtain⟨hq1,hq2⟩:=mw h hk (fR hq)
 unfold vl at hqx
 have hne:q≠k:=fun z=>by subst z;omega
 obtain⟨d0,d1,d2,d3,d4⟩:=m5 h ho hq1
 have hxq:=(p.bd q hq1).1
 rcases r q hq1 with z|z|z
 ·omega
 ·exact xp h p ho hc hq1 (by omega) z
 ·have hn2:k∉up (lst true G T W (cS true W q)) q:=fun w=>by
   rw[hq2] at w
   exact hne (BE (bP h (dM h true hk)) hq w).symm
  have:=Ah h p hq1 z (by rw[hq2];exact cN h true hk) hn2
  omega
theorem BJ(h:Wd G T W)(p:Pn G T W X)(r:Rs G T W X)(hk:k < W.length):X.getD k 0<=(fin G T W).2.getD k 0:=by
 have hb:=h.mea
 obtain⟨_,_,h2⟩:=pY (KL G T W) (spS G T W) (fun s=>mea s.2) (fun s=>zl W s/\∀k,k < W.length->X.getD k 0<=s.2.getD k 0)
  (fun s ⟨i,l⟩ hc=>by
   obtain⟨⟨k,v⟩,e⟩:=mG hc
   obtain⟨i2,hm⟩:=i.step h e
   have hx:=F6 h p r i.off l e
   refine⟨⟨i2,fun j hj=>?_⟩,hm⟩
   rw[rE e]
   show _<=(s.2.set k v).getD j 0
   rw[cJ]
   split
   ·rename_i z
    rw[<- z.1]
    exact hx
   ·exact l j hj) Rf.turns ([],d5 W) (Nat.lt_of_le_of_lt hb (by decide)) ⟨zl.start h,fun k hk=>by rw[AS hk];exact (p.bd k hk).2⟩
 exact h2 k hk
def Jn(G T:List Pl)(W:List Wy)(c:List Int):Prop:=∀k,k < W.length->c.getD k 0 < (aE W k).2.2->Fl true G T W (jT G T W c) k
theorem Mu(h:Wd G T W)(ho:Off c)(hl:c.length=W.length)(e:rV G T W c=some (k,v))(hq:q < W.length):(jT G T W c).getD q 0<=(bo false G T W (c.set k v)).getD q 0:=by
 obtain⟨hk,rfl,hlt⟩:=vX e
 obtain⟨b0,b1,b2,b3,b4⟩:=m5 h ho hk
 obtain⟨d0,d1,d2,d3,d4⟩:=m5 h ho hq
 have hi:=dM h false hq
 have hm:∀x,x≠k->mm W (c.set k ((jT G T W c).getD k 0)) x=mm W c x:=fun x hx=>by
  unfold mm
  rw[cJ,if_neg (fun z=>hx z.1.symm)]
 have hmk:mm W (c.set k ((jT G T W c).getD k 0)) k=(jT G T W c).getD k 0:=by
  unfold mm
  rw[cJ,if_pos ⟨rfl,by rw[hl];exact hk⟩]
  omega
 rw[fP h false _ hq]
 by_cases z:cS false W q=cS false W k
 ·have hkL:k∈lst false G T W (cS false W q):=by rw[z];exact cN h false hk
  have hA:vl (bo false G T W c) k=ch (mm W c) (amt false G T (cS false W q)) (lst false G T W (cS false W q)) k:=oA h hi hkL
  unfold vl at hA
  obtain⟨l1,l2⟩:=FM (m:=mm W c) (m':=mm W (c.set k ((jT G T W c).getD k 0))) (p:=k) (a:=amt false G T (cS false W q)) (l:=lst false G T W (cS false W q)) (bP h hi) (fun x _ hx=>hm x hx) (by rw[hmk,<- hA];exact b1)
  by_cases y:q=k
  ·subst y
   rw[l2 hkL,hmk]
   exact Int.le_refl _
  ·have:=l1 q (cN h false hq) y
   rw[<- fP h false c hq] at this
   omega
 ·rw[qZ (m:=mm W (c.set k ((jT G T W c).getD k 0))) (m':=mm W c) fun x hx=>hm x fun w=>by
   subst w
   exact z ((eE h hi).mp hx).2.symm]
  rw[<- fP h false c hq]
  exact d1
theorem Jn.step(h:Wd G T W)(ho:Off c)(hl:c.length=W.length)(j:Jn G T W c)(e:rV G T W c=some (k,v)):Jn G T W (c.set k v):=fun q hq hlim=>by
 have ho':Off (c.set k v):=Cr ho (CK h ho e).2.1
 have fq:Fl true G T W (jT G T W c) q:=by
  obtain⟨hk,rfl,hlt⟩:=vX e
  by_cases z:q=k
  ·subst z
   exact qV h true hq (by rw[(m5 h ho hq).2.2.2.2];exact hlt)
  ·rw[cJ,if_neg (fun w=>z w.1.symm)] at hlim
   exact j q hq hlim
 have hu:=Fq h (jo h ho' false) true hq
 change sm _ (vl (jT G T W (c.set k v)))=_ at hu
 unfold Fl at fq ⊢
 have hs:sm (up (lst true G T W (cS true W q)) q) (vl (jT G T W c))<=sm (up (lst true G T W (cS true W q)) q) (mm W (bo false G T W (c.set k v))):=uv fun x hx=>by
  have hx':=(mw h hq (fR hx)).1
  have h1:=Mu h ho hl e hx'
  have h2:=m5 h ho hx'
  unfold vl mm
  omega
 rw[hu]
 omega
theorem On(h:Wd G T W):Jn G T W (fin G T W).2:=by
 have hb:=h.mea
 obtain⟨_,_,h2⟩:=pY (KL G T W) (spS G T W) (fun s=>mea s.2) (fun s=>zl W s/\Jn G T W s.2)
  (fun s ⟨i,j⟩ hc=>by
   obtain⟨⟨k,v⟩,e⟩:=mG hc
   obtain⟨i2,hm⟩:=i.step h e
   refine⟨⟨i2,?_⟩,hm⟩
   rw[rE e]
   exact j.step h i.off i.len e) Rf.turns ([],d5 W) (Nat.lt_of_le_of_lt hb (by decide)) ⟨zl.start h,fun k hk hl=>by rw[AS hk] at hl;omega⟩
 exact h2
theorem MM(h:Wd G T W):Rs G T W (mC G T W):=fun k hk=>by
 obtain⟨hnone,i,hlim⟩:=nH h
 have j:=On h
 have heq:∀q,q < W.length->(mC G T W).getD q 0=(jT G T W (fin G T W).2).getD q 0:=fun q hq=>by
  have h1:=Kj hnone hq
  have h2:=(m5 h i.off hq).2.1
  unfold mC
  omega
 obtain⟨d0,d1,d2,d3,d4⟩:=m5 h i.off hk
 by_cases e:(mC G T W).getD k 0=(aE W k).2.2
 ·exact .inl e
 ·by_cases e2:(mC G T W).getD k 0 < mm W (fin G T W).2 k
  ·exact .inr (.inl (qV h false hk e2))
  ·have h3:=(Ad h i.off false hk).2
   have:(fin G T W).2.getD k 0 < (aE W k).2.2:=by
    unfold mC at e e2
    unfold mm at e2 h3
    omega
   have f:=j k hk this
   refine .inr (.inr ?_)
   unfold Fl at f ⊢
   rw[<- f]
   exact gY fun q hq=>heq q (mw h hk (fR hq)).1
theorem Jr(h:Wd G T W)(hk:k < W.length):(mC G T W).getD k 0<=(fin G T W).2.getD k 0:=(m5 h (nH h).2.1.off hk).2.2.1
def mx(P X:List Int):List Int:=List.zipWith max P X
theorem KI(hp:P.length=X.length)(q:Nat)(hn:0<=P.getD q 0\/q < P.length):(mx P X).getD q 0=max (P.getD q 0) (X.getD q 0):=by
 unfold mx
 by_cases hq:q < P.length
 ·rw[zG,List.getElem?_zipWith,zK hq,zK (by omega)]
  simp[hq,show q < X.length by omega]
 ·rw[gF (by simp;omega),gF (by omega),gF (by omega)]
  rfl
theorem Lm(hp:P.length=X.length):(mx P X).length=P.length:=by unfold mx;simp;omega
theorem Cj(p:Pn G T W P)(x:Pn G T W X)(hq:q < W.length):mm W (mx P X) q=max (P.getD q 0) (X.getD q 0):=by
 unfold mm
 rw[KI (by rw[p.len,x.len]) q (.inl (p.nn q))]
 have h1:=(p.bd q hq).2
 have h2:=(x.bd q hq).2
 omega
theorem uo(h:Wd G T W)(x:Pn G T W X)(r:Rs G T W X)(hk:k < W.length):(bo false G T W (mx (mC G T W) X)).getD k 0=(mC G T W).getD k 0:=by
 have p:=kK h
 obtain⟨_,i,_⟩:=nH h
 have hi:=dM h false hk
 rw[fP h false _ hk,show (mC G T W).getD k 0=ch (mm W (fin G T W).2) (amt false G T (cS false W k)) (lst false G T W (cS false W k)) k from fP h false _ hk]
 refine Cz (bP h hi) (fun q hq=>?_) k
 have hq':=(mw h hk hq).1
 have hA:vl (bo false G T W (fin G T W).2) q=ch (mm W (fin G T W).2) (amt false G T (cS false W k)) (lst false G T W (cS false W k)) q:=oA h hi hq
 rw[<- hA,Cj p x hq']
 have h1:=Jr h hq'
 have h2:=BJ h x r hq'
 have h3:=(p.bd q hq').2
 have h4:=(x.bd q hq').2
 change (mC G T W).getD q 0<=_/\_
 unfold mm
 omega
theorem Ei(h:Wd G T W)(x:Pn G T W X)(r:Rs G T W X)(hk:k < W.length):(bo true G T W (mx (mC G T W) X)).getD k 0=X.getD k 0:=by
 have p:=kK h
 obtain⟨_,i,_⟩:=nH h
 have hi:=dM h true hk
 rw[fP h true _ hk]
 refine Kw (X:=vl X) (bP h hi) (fun q hq=>?_) (x.le_sm h hi) (fun q hq=>?_) k (cN h true hk)
 ·have hq':=(mw h hk hq).1
  rw[Cj p x hq']
  have:=(x.bd q hq').1
  unfold vl
  omega
 ·obtain⟨hq',hpl⟩:=mw h hk hq
  rw[Cj p x hq']
  by_cases e:X.getD q 0 < (mC G T W).getD q 0
  ·refine .inr ?_
   rcases r q hq' with z|z|z
   ·have:=(p.bd q hq').2
    omega
   ·exact absurd z (xp h x i.off (fun k hk=>BJ h x r hk) hq' e)
   ·unfold Fl at z
    rwa [hpl] at z
  ·refine .inl ?_
   unfold vl
   omega
end
theorem E9{m m':Nat->Int}{f:Nat->Nat}:∀ {a:Int}{l:List Nat}{k:Nat},(∀q∈l,m' q=m (f q))->(∀q∈l,f q=f k->q=k)->ch m' a l k=ch m a (l.map f) (f k)
 | _,[],_,_,_=>rfl
 | a,q::l,k,h,hi=>by
  have h0:=h q zE
  rw[zI]
  by_cases e:k=q
  ·subst e
   rw[bf,bf,h0]
  ·have e2:f k≠f q:=fun z=>e (hi q zE z.symm).symm
   rw[aX e,aX e2,h0]
   exact E9 (fun x hx=>h x (zC _ hx)) fun x hx=>hi x (zC _ hx)
section
variable {G T:List Pl}{W:List Wy}{P X c off:List Int}{b:Bool}{i k q:Nat}{π:List Nat}
theorem Ml(o:Ord W π)(b:Bool)(hk:k < W.length):cS (!b) (dv W π) k=cS b W (π.getD k 0):=by
 unfold cS
 rw[fN o hk,pW]
theorem Ha(h:Wd G T W)(o:Ord W π)(hi:i < (aG b G T).length):(lst (!b) T G (dv W π) i).map (fun k=>π.getD k 0)=lst b G T W i:=by
 unfold lst fw
 rw[qE,zM]
 exact yJ fun x hx=>(Hw h o (gT hi) hx).2
theorem M3(o:Ord W π){j:Nat}(hk:k < W.length)(hj:j < W.length)(e:π.getD k 0=π.getD j 0):k=j:=by
 have hn:π.Nodup:=o.perm.nodup_iff.mpr List.nodup_range
 have hl:=o.len
 have h1:π[k]?=some (π.getD k 0):=by simp[show k < π.length by omega]
 have h2:π[j]?=some (π.getD j 0):=by simp[show j < π.length by omega]
 rw[<- e] at h2
 exact (List.getElem?_inj (by omega) hn).mp (h1.trans h2.symm)
theorem Ng(h:Wd G T W)(o:Ord W π)(b:Bool)(hl:off.length=W.length)(hk:k < W.length):(bo (!b) T G (dv W π) (j3 off π)).getD k 0=(bo b G T W off).getD (π.getD k 0) 0:=by
 have h':=o.wd h
 have hk':k < (dv W π).length:=by rw[bS o];exact hk
 have hp:=o.lt hk
 have hi:=dM h b hp
 rw[fP h' (!b) _ hk',fP h b _ hp,Ml o b hk]
 have hi':cS b W (π.getD k 0) < (aG (!b) T G).length:=by rw[lh];exact hi
 rw[<- Ha h o hi,show amt (!b) T G (cS b W (π.getD k 0))=amt b G T (cS b W (π.getD k 0)) by unfold amt;rw[qE]]
 refine E9 (f:=fun k=>π.getD k 0) (fun q hq=>?_) fun q hq e=>?_
 ·have hq':=((eE h' hi').mp hq).1
  rw[bS o] at hq'
  unfold mm
  rw[kG o hq',fN o hq']
  rfl
 ·have hq':=((eE h' hi').mp hq).1
  rw[bS o] at hq'
  exact M3 o hq' hk e
theorem Oy(o:Ord W π)(hp:P.length=W.length)(hx:X.length=W.length):mx (j3 P π) (j3 X π)=j3 (mx P X) π:=by
 unfold j3
 unfold mx
 rw[List.zipWith_map,List.zipWith_self]
 refine yJ fun i hi=>?_
 have:=KI (P:=P) (X:=X) (by omega) i (.inr (by
  have:=o.perm.mem_iff.mp hi
  rw[zT] at this
  omega))
 exact this.symm
theorem BF{P X:List Int}(h:P.length=X.length)(e:∀k,k < P.length->P.getD k 0=X.getD k 0):P=X:=by
 apply List.ext_getElem h
 intro k h1 h2
 have:=e k h1
 simpa [h1,h2] using this
theorem Rs.tu(h:Wd G T W)(o:Ord W π)(p:Pn G T W P)(r:Rs G T W P):Rs T G (dv W π) (j3 P π):=(kZ (o.wd h) (p.tu h o)).mp ((Nq h o).mpr ((kZ h p).mpr r))
def mr(G T:List Pl)(W:List Wy):List Int:=j3 (mC T G (dv W (bF W))) (bF (dv W (bF W)))
theorem B4(h:Wd G T W):j3 (mr G T W) (bF W)=mC T G (dv W (bF W)):=by
 have o:=bT h.wp
 have h':=o.wd h
 have o':=bT h'.wp
 have o2:Ord (dv (dv W (bF W)) (bF (dv W (bF W)))) (bF W):=by rw[pV h.wp o o'];exact o
 exact Jl h'.wp o' o2 (kK h').len
theorem Kn(h:Wd G T W):Pn G T W (mr G T W):=by
 have o:=bT h.wp
 have h':=o.wd h
 have o':=bT h'.wp
 have:=(kK h').tu h' o'
 rwa [pV h.wp o o'] at this
theorem GW(h:Wd G T W)(b:Bool)(hl:off.length=W.length)(hx:X.length=W.length)(e:∀k,k < W.length->(bo (!b) T G (dv W (bF W)) (j3 off (bF W))).getD k 0=(j3 X (bF W)).getD k 0):bo b G T W off=X:=by
 have o:=bT h.wp
 refine BF (by rw[gp,hx]) fun k hk=>?_
 rw[gp] at hk
 obtain⟨j,hj,rfl⟩:=o.ex hk
 rw[<- Ng h o b hl hj,e j hj,kG o hj]
theorem Cn(h:Wd G T W)(x:Pn G T W X)(r:Rs G T W X):bo false G T W (mx (mC G T W) X)=mC G T W :=
 BF (by rw[gp,(kK h).len]) fun k hk=>uo h x r (by rw[gp] at hk;exact hk)
theorem yh(h:Wd G T W)(x:Pn G T W X)(r:Rs G T W X):bo true G T W (mx (mr G T W) X)=mr G T W/\bo false G T W (mx (mr G T W) X)=X:=by
 have o:=bT h.wp
 have h':=o.wd h
 have pl:=(Kn h).len
 have hm:(mx (mr G T W) X).length=W.length:=by rw[Lm (by rw[pl,x.len]),pl]
 have em:j3 (mx (mr G T W) X) (bF W)=mx (mC T G (dv W (bF W))) (j3 X (bF W)):=by rw[<- Oy o pl x.len,B4 h]
 have x':=x.tu h o
 have r':=r.tu h o x
 have l':=bS o
 constructor
 ·refine GW h true hm pl fun k hk=>?_
  rw[em,B4 h]
  exact uo h' x' r' (by rw[l'];exact hk)
 ·refine GW h false hm x.len fun k hk=>?_
  rw[em]
  exact Ei h' x' r' (by rw[l'];exact hk)
theorem single(h:Wd G T W)(x:Pn G T W X)(r:Rs G T W X)(e:mC G T W=mr G T W):X=mC G T W:=by
 have h1:=Cn h x r
 have h2:=(yh h x r).2
 rw[<- e,h1] at h2
 exact h2.symm
end
section
variable {G T:List Pl}{W:List Wy}{P X:List Int}{b:Bool}{i:Nat}
theorem C6(h:Wd G T W)(hi:i < (aG b G T).length)(hp:P.length=W.length):eC [ax G T W,.int (sI b),nD i,af P]=some (af ((lst b G T W i).map (vl P))):=by
 have hw:=h.wl
 have hl:(lst b G T W i).length<=16:=by
  rw[(ke h hi).length_eq]
  exact yE (pZ b W i) hw
 have ew:bQ [ax G T W,.int (sI b),nD i]=some (.list ((lst b G T W i).map nD)):=n6 h (gT hi)
 refine aD ?_
 show jy [.val (ax G T W),.val (.int (sI b)),.val (nD i),.val (af P)]=_
 have c:ak 1 [3] (aP (ah 3 bQ (aa (ab 0) (aa (ab 1) (aa (ab 2) ae))))) (fG 0) (fun _=>some true) (f2 au (ab 1) (ab 0)) [some (ax G T W),some (.int (sI b)),some (nD i),some (af P)]=some ((lst b G T W i).map fun q=>.int (P.getD q 0)) :=
  eQ (kH ew rfl rfl) (by omega) fun q hq=>aw (oa (by rw[hp];exact ((eE h hi).mp hq).1)) rfl rfl
 refine aH ?_
 show aZ bI (aa (cX (ak 1 [3] (aP (ah 3 bQ (aa (ab 0) (aa (ab 1) (aa (ab 2) ae))))) (fG 0) (fun _=>some true) (f2 au (ab 1) (ab 0)))) ae) [some (ax G T W),some (.int (sI b)),some (nD i),some (af P)]=_
 rw[dO (d:=.list ((lst b G T W i).map fun q=>.int (P.getD q 0))) (by simp only[cX,c,zB]),A4,af,zM]
 rfl
theorem uP(h:Wd G T W):bZ [ax G T W]=some (af (mr G T W)):=by
 have h':=(bT h.wp).wd h
 exact sC h (vm h') (kK h')
theorem oV(h:Wd G T W):ir [ax G T W]=some (.bool (decide (mC G T W=mr G T W))):=by
 refine aD ?_
 show kn [.val (ax G T W)]=_
 exact aH (aw (FK _ _) (call_of (vm h) rfl rfl) (call_of (uP h) rfl rfl))
end
theorem vW{f:Dl.Env->Option (List D)}{ρ:Dl.Env}{ds:List D}(h:f ρ=some ds):cX f ρ=some (.list ds):=by
 simp only[cX,h,zB]
theorem GH{fs:Dl.Env->Option (List D)}{ρ:Dl.Env}{ds:List D}(h:fs ρ=some ds)(hl:ds.length<=1000):fE fs ρ=some ds:=by
 simp only[fE,h,zA,bq (show ds.length<=4000 by omega)]
theorem J5{t u:Dl.Env->Option Bool}{ρ:Dl.Env}(h:t ρ=some false):iZ t u ρ=some false:=by
 simp only[iZ,h,zA]
theorem GD{t u:Dl.Env->Option Bool}{ρ:Dl.Env}{b:Bool}(h:t ρ=some true)(h2:u ρ=some b):iZ t u ρ=some b:=by
 simp only[iZ,h,zA,h2]
theorem yy{ρ:Dl.Env}{f g:Dl.Env->Option D}{G T:List Pl}{W:List Wy}{b:Bool}(hf:f ρ=some (ax G T W))(hg:g ρ=some (.int (sI b))):(aa (aZ bN (aa (f2 au f g) ae)) ae) ρ=some [nD (aG b G T).length] :=
 cons_of (vY (l:=aG b G T) (k:=bK) (aw (jF b G T W) hf hg)) rfl
section
variable {G T:List Pl}{W:List Wy}{P X:List Int}
theorem yr(h:Wd G T W)(p:Pn G T W P)(r:Rs G T W P):mO [ax G T W,af P]=some (.bool true):=by
 rw[Jt h p,yB ((kZ h p).mpr r)]
end
section
variable {G T:List Pl}{W:List Wy}{P X c:List Int}{b:Bool}{k:Nat}
end
structure Wk(G T G' T':List Pl):Prop where
 len:∀b,(aG b G' T').length=(aG b G T).length
 lik:∀b i,(cA b G' T' i).2=(cA b G T i).2
 gv:∀i,amt false G' T' i<=amt false G T i
 tk:∀i,amt true G T i<=amt true G' T' i
section
variable {G T G' T':List Pl}{W:List Wy}{P X c:List Int}{b:Bool}{i k q:Nat}{v:Int}
theorem Wk.lst(w:Wk G T G' T')(b:Bool)(i:Nat):lst b G' T' W i=lst b G T W i:=by unfold Wm.lst;rw[w.lik]
end
section
variable {G T G' T':List Pl}{W:List Wy}{P X off:List Int}{b:Bool}{i j k:Nat}{a:Int}
theorem rQ(h:Wd G T W)(b:Bool)(hi:i < (aG b G T).length):eZ [ax G T W,.int (sI b),nD i]=some .none:=by
 have:dz [.val (ax G T W),.val (.int (sI b)),.val (nD i)]=some (.nx [.val (ax G T W),.val (.int (sI b)),.val (nD i)]):=by
  unfold dz
  refine (ai (eB (call_of (u6 b) rfl rfl))).trans ?_
  exact eB (call_of (j9 (n:=((aG b G T).length:Nat)) (i:=(i:Nat)) (by omega) (by omega)) (cons_of rfl (cons_of (vY (l:=aG b G T) (k:=bK) (aw (jF b G T W) rfl rfl)) rfl)) rfl)
 show (dz [.val (ax G T W),.val (.int (sI b)),.val (nD i)]).map _=_
 rw[this]
 rfl
end
def wW(l:Int)(fs:List (List Int)):List (List Int):=(fs.map fun r=>(List.range (l+1).toNat).map fun m=>r++[((m:Nat):Int)]).flatten
def B9:List Wy->List (List Int)->List (List Int)
 | [],fs=>fs
 | w::W,fs=>B9 W (wW w.2.2 fs)
theorem uN{l:Int}{fs:List (List Int)}{r:List Int}:r∈wW l fs↔∃r'∈fs,∃v:Int,0<=v/\v<=l/\r=r'++[v]:=by
 unfold wW
 rw[List.mem_flatten]
 constructor
 ·rintro⟨L,hL,hr⟩
  obtain⟨r',h',rfl⟩:=zQ.mp hL
  obtain⟨m,hm,rfl⟩:=zQ.mp hr
  rw[zT] at hm
  exact⟨r',h',_,by omega,by omega,rfl⟩
 ·rintro⟨r',h',v,h0,h1,rfl⟩
  exact⟨_,zQ.mpr ⟨r',h',rfl⟩,zQ.mpr ⟨v.toNat,by rw[zT];omega,by rw[show ((v.toNat:Nat):Int)=v by omega]⟩⟩
theorem Ce:∀ {W:List Wy}{fs:List (List Int)}{r:List Int},r∈B9 W fs↔∃r'∈fs,∃q:List Int,q.length=W.length/\(∀k,k < W.length->0<=q.getD k 0/\q.getD k 0<=(aE W k).2.2)/\r=r'++q
 | [],fs,r=>by
  unfold B9
  constructor
  ·intro h
   exact⟨r,h,[],rfl,fun k hk=>by simp at hk,by simp⟩
  ·rintro⟨r',h',q,hq,_,rfl⟩
   have:q=[]:=List.length_eq_zero_iff.mp hq
   subst this
   simpa using h'
 | w::W,fs,r=>by
  rw[B9,Ce]
  constructor
  ·rintro⟨r',h',q,hq,hb,rfl⟩
   obtain⟨r2,h2,v,h0,h1,rfl⟩:=uN.mp h'
   refine⟨r2,h2,v::q,by simp[hq],fun k hk=>?_,by simp⟩
   cases k with
   | zero=>exact⟨h0,h1⟩
   | succ k=>exact hb k (by simpa using hk)
  ·rintro⟨r',h',q,hq,hb,rfl⟩
   cases q with
   | nil=>simp at hq
   | cons v q =>
    refine⟨r'++[v],uN.mpr ⟨r',h',v,(hb 0 (by simp)).1,(hb 0 (by simp)).2,rfl⟩,q,by simpa using hq,fun k hk=>hb (k+1) (by simpa using hk),by simp⟩
theorem CJ(l:Int)(fs:List (List Int)):(wW l fs).length=fs.length * (l+1).toNat:=by
 unfold wW
 induction fs with
 | nil=>simp
 | cons r fs ih=>rw[zI,List.flatten_cons,zN,ih,zL,Nat.add_mul];simp;omega
section
variable {G T:List Pl}{W:List Wy}{P X:List Int}
def wB:aj->Option Out:=(vP 3 [2,4] (ak 1 [4] (bc (aa (f2 Dl.aM (f2 au (ab 2) (fC (.int 2))) (fC (.int 1))) ae)) (fG 0) (fun _=>some true) (f2 Dl.aM (ab 1) (aN (aa (ab 0) ae)))))
def ext(l:Int)(r:List Int):List (List Int):=(List.range (l+1).toNat).map fun m=>r++[((m:Nat):Int)]
theorem M4{d:D}{x1:Slot}{w:Wy}{acc:List (List Int)}{r:List Int}(hl:0<=w.2.2/\w.2.2<=9)(hr:r.length<=100)(ha:acc.length<=7000):wB [.val d,x1,.val (ao w),.own (acc.map af),.val (af r)]=some (.nx [.val d,x1,.val (ao w),.own ((acc++ext w.2.2 r).map af),.val (af r)]):=by
 have c:ak 1 [4] (bc (aa (f2 Dl.aM (f2 au (ab 2) (fC (.int 2))) (fC (.int 1))) ae)) (fG 0) (fun _=>some true) (f2 Dl.aM (ab 1) (aN (aa (ab 0) ae))) (cn [.val d,x1,.val (ao w),.own (acc.map af),.val (af r)])=some ((List.range (w.2.2+1).toNat).map fun m=>af (r++[((m:Nat):Int)])):=by
  refine eQ (qv (n:=(w.2.2+1).toNat) (cons_of ?_ rfl) (by omega)) (by rw[zS];omega) fun m _=>aw (Js (a:=r) (b:=[((m:Nat):Int)]) (by simp;omega)) rfl (N9 rfl)
  rw[show nD (w.2.2+1).toNat=.int (w.2.2+1) by show PyData.int _=_;congr 1;omega]
  exact aw (fv w.2.2 1) (aw (uX w) rfl rfl) rfl
 have hh:hand [2,4] 0 [Slot.val d,x1,.val (ao w),.own (acc.map af),.val (af r)]=[Slot.val d,x1,.val (ao w),.own (acc.map af),.val (af r)]:=rfl
 have hz:(acc.map af).length+((List.range (w.2.2+1).toNat).map fun m=>af (r++[((m:Nat):Int)])).length<=sizeLine:=by
  rw[zD,zD,zS]
  exact yE (show acc.length+(w.2.2+1).toNat<=8000 by omega) (by decide)
 have e:(acc++ext w.2.2 r).map af=acc.map af++(List.range (w.2.2+1).toNat).map fun m=>af (r++[((m:Nat):Int)]):=by
  rw[List.map_append,ext,zM]
  rfl
 unfold wB vP
 rw[hh,c,zA,e]
 simp only[nL,List.getElem?_cons_succ,List.getElem?_cons_zero,hz,if_true,zB,zA]
 rfl
def wO:aj->Option Out:=(av (aK 3 [] (fE ae)) (av (dZ [1] (aP (ab 1)) (nu 4) wB) (Dl.az 1 [3] (ab 3))))
theorem GK(l:Int)(r:List Int)(fs:List (List Int)):wW l (r::fs)=ext l r++wW l fs:=by simp[wW,ext]
theorem E7{d:D}{x1:Slot}{w:Wy}(hl:0<=w.2.2/\w.2.2<=2):∀ (fs acc:List (List Int)) (x4:Slot),(∀r∈fs,r.length<=16)->acc.length+3 * fs.length<=7000->∃y4,cO (nu 4) wB (fs.map af) [.val d,x1,.val (ao w),.own (acc.map af),x4]=some (.nx [.val d,x1,.val (ao w),.own ((acc++wW w.2.2 fs).map af),y4])
 | [],acc,x4,_,_=>⟨x4,by simp[wW,cO]⟩
 | r::fs,acc,x4,hr,hb=>by
  have he:(ext w.2.2 r).length<=3:=by unfold ext;rw[zD,zS];omega
  rw[zL] at hb
  obtain⟨y4,e⟩:=E7 (d:=d) (x1:=x1) hl fs (acc++ext w.2.2 r) (.val (af r)) (fun q hq=>hr q (zC _ hq)) (by rw[zN];omega)
  have h1:=M4 (d:=d) (x1:=x1) (w:=w) (acc:=acc) (r:=r) ⟨hl.1,by omega⟩ (by have:=hr r zE;omega) (by omega)
  have ht:nu 4 [.val d,x1,.val (ao w),.own (acc.map af),x4] (af r)=some [.val d,x1,.val (ao w),.own (acc.map af),.val (af r)]:=rfl
  refine⟨y4,?_⟩
  rw[zI,cO,ht,zA,h1]
  show cO (nu 4) wB (fs.map af) _=_
  rw[e,GK,List.append_assoc]
theorem LL{d:D}{s1 x3 x4:Slot}{w:Wy}{fs:List (List Int)}(hl:0<=w.2.2/\w.2.2<=2)(hr:∀r∈fs,r.length<=16)(hf:fs.length<=2187)(h1:s1=.own (fs.map af)\/s1=.val (.list (fs.map af))):∃y3 y4,wO [.val d,s1,.val (ao w),x3,x4]=some (.nx [.val d,.val (.list ((wW w.2.2 fs).map af)),.val (ao w),y3,y4]):=by
 obtain⟨y4,e⟩:=E7 (d:=d) (x1:=.val (.list (fs.map af))) hl fs [] x4 hr (by simp;omega)
 rw[List.nil_append] at e
 have t1:aK 3 [] (fE ae) [.val d,s1,.val (ao w),x3,x4]=some (.nx [.val d,s1,.val (ao w),.own [],x4]):=gy (GH (ds:=[]) rfl (by simp)) rfl
 have hh:hand [1] 0 [.val d,s1,.val (ao w),.own [],x4]=[Slot.val d,.val (.list (fs.map af)),.val (ao w),.own [],x4]:=by
  rcases h1 with rfl|rfl<;>rfl
 unfold wO
 rw[ai t1]
 refine⟨.val (.list ((wW w.2.2 fs).map af)),y4,?_⟩
 refine (ai (dh e rfl hh)).trans ?_
 exact mn (ρ':=[.val d,.val (.list (fs.map af)),.val (ao w),.val (.list ((wW w.2.2 fs).map af)),y4]) rfl (d:=.list ((wW w.2.2 fs).map af)) rfl rfl rfl (.inl rfl)
theorem JT{l:Int}{fs:List (List Int)}{n:Nat}(h:∀r∈fs,r.length<=n):∀r∈wW l fs,r.length<=n+1:=fun r hr=>by
 obtain⟨r',h',v,_,_,rfl⟩:=uN.mp hr
 have:=h r' h'
 simp
 omega
theorem FY{d:D}:∀ (W:List Wy) (fs:List (List Int)) (s1 x2 x3 x4:Slot),(∀w∈W,0<=w.2.2/\w.2.2<=2)->fs.length * 3 ^ W.length<=2187->(∀r∈fs,r.length<=16 - W.length)->W.length<=16->(s1=.own (fs.map af)\/s1=.val (.list (fs.map af))) ->
  ∃s1' y2 y3 y4,cO (nu 2) wO (W.map ao) [.val d,s1,x2,x3,x4]=some (.nx [.val d,s1',y2,y3,y4])/\(s1'=.own ((B9 W fs).map af)\/s1'=.val (.list ((B9 W fs).map af)))
 | [],fs,s1,x2,x3,x4,_,_,_,_,h1=>⟨s1,x2,x3,x4,rfl,h1⟩
 | w::W,fs,s1,x2,x3,x4,hl,hf,hr,hw,h1=>by
  rw[zL] at hf hr hw
  have hp:1<=3 ^ W.length:=Nat.one_le_pow _ _ (by omega)
  have hf1:fs.length<=2187:=by
   refine yE ?_ hf
   exact Nat.le_mul_of_pos_right _ (Nat.pow_pos (by omega))
  have hlw:=hl w zE
  obtain⟨y3,y4,e⟩:=LL (d:=d) (x3:=x3) (x4:=x4) hlw (fun r hr'=>by have:=hr r hr';omega) hf1 h1
  have hll:(wW w.2.2 fs).length<=fs.length * 3:=by rw[CJ];exact Nat.mul_le_mul_left _ (by omega)
  obtain⟨s1',z2,z3,z4,e2,h2⟩:=FY (d:=d) W (wW w.2.2 fs) (.val (.list ((wW w.2.2 fs).map af))) (.val (ao w)) y3 y4 (fun q hq=>hl q (zC _ hq)) (by
   refine yE (Nat.mul_le_mul_right _ hll) ?_
   rw[Nat.mul_assoc,<- Nat.pow_succ']
   exact hf) (fun r hr'=>by
   have:=JT (n:=16 - (W.length+1)) hr r hr'
   omega) (by omega) (.inr rfl)
  have ht:nu 2 [.val d,s1,x2,x3,x4] (ao w)=some [.val d,s1,.val (ao w),x3,x4]:=rfl
  refine⟨s1',z2,z3,z4,?_,h2⟩
  rw[zI,cO,ht,zA,e]
  exact e2
theorem EK(hl:∀w∈W,0<=w.2.2/\w.2.2<=2)(hw:W.length<=7):dG [.tuple (W.map ao)]=some (.list ((B9 W [[]]).map af)):=by
 obtain⟨s1',z2,z3,z4,e2,h2⟩:=FY (d:=.tuple (W.map ao)) W [[]] (.own ([[]].map af)) .non .non .non hl (by
  rw[List.length_singleton,Nat.one_mul]
  exact yE (Nat.pow_le_pow_right (by omega) hw) (by decide)) (fun r hr=>by simp at hr;subst hr;simp) (by omega) (.inl rfl)
 refine aD ?_
 show dE [.val (.tuple (W.map ao)),.non,.non,.non,.non]=_
 unfold dE
 refine (ai (gy (ds:=[[]].map af) (GH (cons_of (tup_is (ds:=[]) rfl (by simp)) rfl) (by simp)) rfl)).trans ?_
 refine (ai (dh e2 rfl rfl)).trans ?_
 refine aH ?_
 rcases h2 with rfl|rfl<;>rfl
theorem qG{α:Type}{tt:Dl.Env->Option Bool}{te:Dl.Env->Option D}{r:List (Option D)}{g f:α->D}{q:α->Bool}:∀ (l:List α),(∀x∈l,tt (some (g x)::r)=some (q x)/\(q x=true->te (some (g x)::r)=some (f x)))->cQ (fG 0) tt te (none::r) (l.map g)=some ((l.filter q).map f)
 | [],_=>rfl
 | x::l,h=>by
  have ih:=qG (tt:=tt) (te:=te) (r:=r) (g:=g) (f:=f) (q:=q) l fun y hy=>h y (zC _ hy)
  obtain⟨h1,h2⟩:=h x zE
  have hg:fG 0 (none::r) (g x)=some (some (g x)::r):=rfl
  rw[zI,cQ,hg,zA,h1,zA,List.filter_cons]
  cases e:q x with
  | true =>
   rw[if_pos rfl,if_pos rfl,h2 e,zA,ih]
   rfl
  | false =>
   rw[if_neg (by simp),if_neg (by simp),ih]
theorem um{α:Type}{cs:List Nat}{fi:Dl.Env->Option (List D)}{tt:Dl.Env->Option Bool}{te:Dl.Env->Option D}{ρ:Dl.Env}{l:List α}{g f:α->D}{q:α->Bool}(hfi:fi ρ=some (l.map g))(hl:l.length<=3000)(hh:∀x∈l,tt (some (g x)::cs.map fun j=>(ρ[j]?).getD none)=some (q x)/\(q x=true->te (some (g x)::cs.map fun j=>(ρ[j]?).getD none)=some (f x))):ak 1 cs fi (fG 0) tt te ρ=some ((l.filter q).map f):=by
 have:=qG l hh
 simp only[ak,hfi,zA,eA,List.replicate,List.cons_append,List.nil_append,this]
 refine bq ?_
 rw[zD]
 refine yE (List.length_filter_le _ _) ?_
 omega
def mB:aj->Option Out:=(Dl.az 1 [1,2] (f2 Dl.eK (ab 1) (f2 Dl.aM (f2 au (ab 2) (fC (.int 2))) (fC (.int 1)))))
theorem GO{d:D}:∀ (W:List Wy) (p:Nat) (x2:Slot),(∀w∈W,0<=w.2.2/\w.2.2<=2)->p * 3 ^ W.length<=2187->∃p' y2,cO (nu 2) mB (W.map ao) [.val d,.val (nD p),x2]=some (.nx [.val d,.val (nD p'),y2])/\p'<=2187
 | [],p,x2,_,hp=>⟨p,x2,rfl,by simpa using hp⟩
 | w::W,p,x2,hl,hp=>by
  have hlw:=hl w zE
  rw[zL] at hp
  have hp1:p<=2187:=yE (Nat.le_mul_of_pos_right _ (Nat.pow_pos (by omega))) hp
  obtain⟨p',y2,e,h2⟩:=GO (d:=d) W (p * (w.2.2+1).toNat) (.val (ao w)) (fun q hq=>hl q (zC _ hq)) (by
   refine yE (Nat.mul_le_mul_right _ (Nat.mul_le_mul_left p (show (w.2.2+1).toNat<=3 by omega))) ?_
   rw[Nat.mul_assoc,<- Nat.pow_succ']
   exact hp)
  have ht:nu 2 [.val d,.val (nD p),x2] (ao w)=some [.val d,.val (nD p),.val (ao w)]:=rfl
  have hm:mB [.val d,.val (nD p),.val (ao w)]=some (.nx [.val d,.val (nD (p * (w.2.2+1).toNat)),.val (ao w)]):=by
   have hv:nD (p * (w.2.2+1).toNat)=.int (((p:Nat):Int) * (w.2.2+1)):=by
    show PyData.int _=_
    rw[Int.natCast_mul,show (((w.2.2+1).toNat:Nat):Int)=w.2.2+1 by omega]
   rw[hv]
   unfold mB
   exact bO (aw (da (.inl ⟨by omega,by omega⟩)) rfl (aw (fv _ _) (aw (uX w) rfl rfl) rfl)) rfl
  refine⟨p',y2,?_,h2⟩
  rw[zI,cO,ht,zA,hm]
  exact e
theorem wC(hl:∀w∈W,0<=w.2.2/\w.2.2<=2)(hw:W.length<=7):f9 [ax G T W]=some .none:=by
 obtain⟨p',y2,e,h2⟩:=GO (d:=ax G T W) W 1 .non hl (by rw[Nat.one_mul];exact yE (Nat.pow_le_pow_right (by omega) hw) (by decide))
 have:d9 [.val (ax G T W),.non,.non]=some (.nx [.val (ax G T W),.val (nD p'),y2]):=by
  unfold d9
  refine (ai (bO (d:=.int 1) rfl rfl)).trans ?_
  refine (ai (dh e rfl rfl)).trans ?_
  exact cB (cM (aw ((ig _ _).trans (by rw[yA (by omega)])) rfl rfl))
 show (d9 [.val (ax G T W),.non,.non]).map _=_
 rw[this]
 rfl
def Gb(G T:List Pl)(W:List Wy):List (List Int):=(B9 W [[]]).filter (K5 G T W)
def allR(G T:List Pl)(W:List Wy):List (List Int):=(Gb G T W).filter fun P=>decide (AR G T W P=[])
theorem Bv{r:List Int}:r∈B9 W [[]]↔r.length=W.length/\∀k,k < W.length->0<=r.getD k 0/\r.getD k 0<=(aE W k).2.2:=by
 rw[Ce]
 constructor
 ·rintro⟨r',h',q,hq,hb,rfl⟩
  simp at h'
  subst h'
  exact⟨hq,hb⟩
 ·rintro⟨h1,h2⟩
  exact⟨[],by simp,r,h1,h2,rfl⟩
theorem xI:X∈Gb G T W↔Pn G T W X:=by
 unfold Gb
 rw[List.mem_filter,Bv]
 constructor
 ·rintro⟨⟨h1,h2⟩,h3⟩
  exact (vU h1).mp h3
 ·intro p
  exact⟨⟨p.len,p.bd⟩,(vU p.len).mpr p⟩
theorem ft(h:Wd G T W):X∈allR G T W↔Pn G T W X/\Rs G T W X:=by
 unfold allR
 rw[List.mem_filter,xI,zJ]
 constructor
 ·rintro⟨p,r⟩
  exact⟨p,(kZ h p).mp r⟩
 ·rintro⟨p,r⟩
  exact⟨p,(kZ h p).mpr r⟩
theorem B0:∀ (W:List Wy) (fs:List (List Int)),(∀w∈W,0<=w.2.2/\w.2.2<=2)->(B9 W fs).length<=fs.length * 3 ^ W.length
 | [],fs,_=>by simp[B9]
 | w::W,fs,hl=>by
  rw[B9]
  refine yE (B0 W _ fun q hq=>hl q (zC _ hq)) ?_
  have:=hl w zE
  rw[CJ,zL,Nat.pow_succ',<- Nat.mul_assoc]
  exact Nat.mul_le_mul_right _ (Nat.mul_le_mul_left _ (by omega))
theorem w8(h:Wd G T W)(hl:∀w∈W,0<=w.2.2/\w.2.2<=2)(hw:W.length<=7):il [ax G T W]=some (.list ((Gb G T W).map af))/\(B9 W [[]]).length<=2187:=by
 have hlen:(B9 W [[]]).length<=2187:=by
  have:=B0 W [[]] hl
  rw[List.length_singleton,Nat.one_mul] at this
  exact yE this (yE (Nat.pow_le_pow_right (by omega) hw) (by decide))
 refine⟨?_,hlen⟩
 refine aD ?_
 show ik [.val (ax G T W)]=_
 unfold ik
 refine (ai (eB (call_of (e8 h) rfl rfl))).trans ?_
 refine (ai (eB (call_of (wC hl hw) rfl rfl))).trans ?_
 refine aH (vW (um (g:=af) (f:=af) (q:=K5 G T W) (kH (EK hl hw) (cons_of (aw (uW G T W) rfl rfl) rfl) rfl) (by omega) fun x hx=>⟨?_,fun _=>rfl⟩))
 obtain⟨h1,h2⟩:=Bv.mp hx
 exact cM (call_of (tG h h1 fun k=>by
  by_cases hk:k < W.length
  ·have a:=h2 k hk
   have b:=(h.wr _ (vj hk)).2.2.2
   omega
  ·rw[gF (by omega)]
   omega) rfl rfl)
theorem mK(h:Wd G T W)(hl:∀w∈W,0<=w.2.2/\w.2.2<=2)(hw:W.length<=7):cw [ax G T W]=some (.list ((allR G T W).map af))/\(allR G T W).length<=2187:=by
 obtain⟨e,hlen⟩:=w8 h hl hw
 have hp:(Gb G T W).length<=2187:=yE (List.length_filter_le _ _) hlen
 refine⟨?_,yE (List.length_filter_le _ _) hp⟩
 refine aD ?_
 show iw [.val (ax G T W)]=_
 unfold iw
 refine aH (vW (um (g:=af) (f:=af) (q:=fun P=>decide (AR G T W P=[])) (kH e rfl rfl) (by omega) fun x hx=>⟨?_,fun _=>rfl⟩))
 have p:=xI.mp hx
 exact cM (call_of (rK h p.len (p.smP h)) rfl rfl)
end
section
variable {G T:List Pl}{W:List Wy}{P X:List Int}{b:Bool}{i k q:Nat}
end
section
variable {G T:List Pl}{W:List Wy}{P X:List Int}{b:Bool}{i k:Nat}
theorem xv(P:List Int):bj 0 (P.map PyData.int)=(List.range P.length).map fun i=>.tuple [nD i,.int (P.getD i 0)]:=by
 rw[enum_zip]
 apply List.ext_getElem
 ·simp
 ·intro i h1 h2
  have:i < P.length:=by simpa using h2
  simp[this]
end
theorem any_rows(l:List (List Int))(a:List Int):((l.map af).any fun z=>PyData.eqv z (af a))=decide (a∈l):=J8 l a
theorem C9(l:List (List Int))(a:List Int):Eh (af a) (.list (l.map af))=some (.bool (!decide (a∈l))):=by
 simp only[Eh,OU,mh,oW,and_self,if_true,any_rows,zB]
theorem rR{l:List Int}(hl:l.length<=1000)(hb:∀x∈l,-1000000<=x/\x<=1000000):gw [af l]=some (.int l.sum):=by
 have hok:ID l=true:=by
  unfold ID
  rw[zF,zJ,List.all_eq_true]
  refine⟨hl,fun x hx=>?_⟩
  rw[zF,zJ,zJ]
  exact hb x hx
 show gw [.tuple (l.map PyData.int)]=_
 simp only[gw,du,oneOf,g0,zA,cG,hok,if_true]
def sh(k q:Nat):Nat:=if q < k then q else q+1
def nk(k:Nat):Nat->Bool:=fun q=>!decide (q=k)
section
variable {G T:List Pl}{W:List Wy}{P X:List Int}{b:Bool}{i k q:Nat}
end
section
variable {G T:List Pl}{W:List Wy}{P X Y:List Int}{b:Bool}{i k:Nat}
def Em(b:Bool)(G T:List Pl)(W:List Wy)(i:Nat)(P:List Int):List Int:=(lst b G T W i).map (vl P)
theorem rN(bt:Nat->Nat->Bool):∀n,PySem.argBest bt n<=n
 | 0=>Nat.le_refl _
 | n+1=>by
  unfold PySem.argBest
  have:=rN bt n
  split<;>omega
theorem gC{a c:List Int}(h:lexLt a c=false)(h2:lexLt c a=false):a=c:=rA (by unfold lexLe;rw[h2];rfl) (by unfold lexLe;rw[h];rfl)
theorem qX(f:Nat->List Int):∀n j,j<=n->lexLt (f j) (f (PySem.argBest (fun i j=>lexLt (f i) (f j)) n))=false
 | 0,j,hj=>by
  have:j=0:=by omega
  subst this
  exact dN _
 | n+1,j,hj=>by
  unfold PySem.argBest
  by_cases e:lexLt (f (n+1)) (f (PySem.argBest (fun i j=>lexLt (f i) (f j)) n))=true
  ·rw[if_pos e]
   by_cases z:j=n+1
   ·subst z;exact dN _
   ·have ih:=qX f n j (by omega)
    refine Bool.eq_false_iff.mpr fun y=>?_
    have:=dR y e
    rw[ih] at this
    cases this
  ·rw[if_neg e]
   by_cases z:j=n+1
   ·subst z;simpa using e
   ·exact qX f n j (by omega)
end
theorem p9{l:List Int}(hl:l.length<=1000)(hb:∀x∈l,-1000000<=x/\x<=1000000):gw [.list (l.map PyData.int)]=some (.int l.sum):=by
 have:=rR hl hb
 simp only[gw,du,oneOf,g0,zA,af] at this ⊢
 exact this
section
variable {G T:List Pl}{W:List Wy}{off off':List Int}{b:Bool}{i k q:Nat}
end
def cs:Int->List Int->Int
 | _,[]=>0
 | a,y::ys=>(a - y)+cs (a - y) ys
def Nv:Int->List Int->Int
 | _,[]=>0
 | s,y::ys=>s * y+Nv (s+1) ys
theorem E4:∀ (ys:List Int) (a s:Int),Nv s ys+(a - ys.sum) * (s+((ys.length:Nat):Int))=s * a+cs a ys
 | [],a,s=>by simp[Nv,cs,Int.mul_comm]
 | y::ys,a,s=>by
  have ih:=E4 ys (a - y) (s+1)
  rw[Nv,cs,List.sum_cons,zL]
  rw[Int.add_mul,Int.one_mul,Int.mul_sub] at ih
  rw[show a - (y+ys.sum)=a - y - ys.sum by omega,show s+((ys.length+1:Nat):Int)=s+1+((ys.length:Nat):Int) by omega]
  omega
theorem Cd:∀ (ys:List Int) (s:Nat),((List.range ys.length).map fun k=>((s+k:Nat):Int) * ys.getD k 0).sum=Nv s ys
 | [],s=>rfl
 | y::ys,s=>by
  have ih:=Cd ys (s+1)
  rw[zL,List.range_succ_eq_map,zI,zM,List.sum_cons,Nv]
  rw[show ((s:Nat):Int)+1=((s+1:Nat):Int) by omega,<- ih]
  congr 1
  refine congrArg List.sum (yJ fun k _=>?_)
  show ((s+(k+1):Nat):Int) * ys.getD k 0=_
  rw[show s+(k+1)=s+1+k by omega]
theorem KW:∀ {ys:List Int}{a:Int},(∀y∈ys,0<=y)->ys.sum<=a->a<=9->0<=cs a ys/\cs a ys<=9 * ((ys.length:Nat):Int)
 | [],a,_,_,_=>by simp[cs]
 | y::ys,a,h0,hs,h9=>by
  have hy:=h0 y zE
  rw[List.sum_cons] at hs
  have hr:0<=ys.sum:=by
   have:∀ {l:List Int},(∀y∈l,0<=y)->0<=l.sum:=fun {l}=>by
    induction l with
    | nil=>intro _;simp
    | cons z l ih =>
     intro hz
     have h1:=ih fun q hq=>hz q (zC _ hq)
     have h2:=hz z zE
     rw[List.sum_cons]
     omega
   exact this fun q hq=>h0 q (zC _ hq)
  have ih:=KW (ys:=ys) (a:=a - y) (fun q hq=>h0 q (zC _ hq)) (by omega) (by omega)
  rw[cs,zL]
  omega
theorem K0{m X Y:Nat->Int}:∀ {l:List Nat}{a c:Int},l.Nodup->(∀q∈l,0<=X q)->sm l X<=c->a<=c->(∀q∈l,Y q=ch m a l q)->(∀q∈l,m q=max (Y q) (X q))->cs a (l.map Y)<=cs c (l.map X)
 | [],_,_,_,_,_,_,_,_=>Int.le_refl _
 | q::r,a,c,hn,h0,hs,hac,hY,hm=>by
  rw[List.nodup_cons] at hn
  have e:=hY q zE
  rw[bf] at e
  have em:=hm q zE
  have hr:0<=sm r X:=oJ fun x hx=>h0 x (zC _ hx)
  rw[bG] at hs
  rw[zI,zI,cs,cs]
  have hk:a - Y q<=c - X q:=by omega
  have ih:=K0 (m:=m) (X:=X) (Y:=Y) (l:=r) (a:=a - Y q) (c:=c - X q) hn.2 (fun x hx=>h0 x (zC _ hx)) (by omega) hk (fun x hx=>by
   have hne:x≠q:=fun y=>hn.1 (y ▸ hx)
   rw[hY x (zC _ hx),aX hne,<- e]) fun x hx=>hm x (zC _ hx)
  omega
section
variable {G T:List Pl}{W:List Wy}{P X Y:List Int}{b:Bool}{i k:Nat}
def cst(b:Bool)(G T:List Pl)(W:List Wy)(P:List Int)(i:Nat):Int:=cs (amt b G T i) (Em b G T W i P)
def lI(b:Bool)(G T:List Pl)(W:List Wy)(P:List Int):Int:=sm (List.range (aG b G T).length) (cst b G T W P)
theorem F1(h:Wd G T W)(y:Pn G T W Y)(x:Pn G T W X)(hi:i < (aG b G T).length)(e:bo b G T W (mx Y X)=Y):cst b G T W Y i<=cst b G T W X i:=by
 refine K0 (m:=mm W (mx Y X)) (bP h hi) (fun q _=>x.nn q) (x.le_sm h hi) (Int.le_refl _) (fun q hq=>?_) fun q hq=>?_
 ·have:=oA (off:=mx Y X) h hi hq
  rw[e] at this
  exact this
 ·exact Cj y x ((eE h hi).mp hq).1
theorem LH(h:Wd G T W)(y:Pn G T W Y)(x:Pn G T W X)(e:bo b G T W (mx Y X)=Y):lI b G T W Y<=lI b G T W X:=uv fun i hi=>F1 h y x (zT.mp hi) e
theorem NS(h:Wd G T W)(hi:i < (aG b G T).length):amt b G T i<=9:=by
 have hm:=List.mem_of_getElem? (gT hi)
 cases b
 ·exact (h.ga _ hm).2
 ·exact (h.ta _ hm).2
theorem LG(p:Pn G T W P):∀y∈Em b G T W i P,0<=y:=fun y hy=>by
 obtain⟨q,_,rfl⟩:=zQ.mp hy
 exact p.nn q
theorem Cy(h:Wd G T W)(hi:i < (aG b G T).length):(Em b G T W i P).length<=16:=by
 rw[Em,zD,(ke h hi).length_eq]
 refine yE (List.length_filter_le _ _) ?_
 rw[zS]
 exact h.wl
theorem we(h:Wd G T W)(p:Pn G T W P)(hi:i < (aG b G T).length):0<=cst b G T W P i/\cst b G T W P i<=144:=by
 have h1:=KW (a:=amt b G T i) (LG (b:=b) (i:=i) p) (p.le_sm h hi) (NS h hi)
 have h2:=Cy (P:=P) h hi
 unfold cst
 omega
theorem Gn(h:Wd G T W)(p:Pn G T W P)(b:Bool):0<=lI b G T W P/\lI b G T W P<=576:=by
 refine⟨oJ fun i hi=>(we h p (zT.mp hi)).1,?_⟩
 have h1:lI b G T W P<=sm (List.range (aG b G T).length) fun _=>144:=uv fun i hi=>(we h p (zT.mp hi)).2
 have h2:∀n:Nat,sm (List.range n) (fun _=>144)=144 * ((n:Nat):Int):=fun n=>by
  induction n with
  | zero=>rfl
  | succ n ih=>rw[List.range_succ,qu,ih,mL];omega
 rw[h2] at h1
 have:=h.pl b
 omega
theorem K6{π:List Nat}(h:Wd G T W)(o:Ord W π)(hi:i < (aG b G T).length):cst (!b) T G (dv W π) (j3 P π) i=cst b G T W P i:=by
 unfold cst amt
 rw[qE]
 congr 1
 unfold Em
 rw[<- Ha h o hi,zM]
 refine yJ fun k hk=>?_
 have hk':=(eE (o.wd h) (by rw[lh];exact hi)).mp hk
 exact kG o (by have:=hk'.1;rwa [bS o] at this)
theorem vC{π:List Nat}(h:Wd G T W)(o:Ord W π)(b:Bool):lI (!b) T G (dv W π) (j3 P π)=lI b G T W P:=by
 unfold lI
 rw[lh]
 exact gY fun i hi=>K6 h o (zT.mp hi)
end
section
variable {G T:List Pl}{W:List Wy}{P X Y:List Int}{b:Bool}{i k:Nat}
theorem JK(h:Wd G T W)(p:Pn G T W P)(hi:i < (aG b G T).length):∀y∈Em b G T W i P,0<=y/\y<=9:=fun y hy=>by
 obtain⟨q,hq,rfl⟩:=zQ.mp hy
 have hqW:=((eE h hi).mp hq).1
 have h1:=p.bd q hqW
 have h2:=(h.wr _ (vj hqW)).2.2
 show 0<=P.getD q 0/\P.getD q 0<=9
 omega
theorem jX(h:Wd G T W)(p:Pn G T W P)(hi:i < (aG b G T).length):bH [ax G T W,.int (sI b),nD i,af P]=some (.int (cst b G T W P i)):=by
 have hl:=Cy (P:=P) h hi
 have h9:=JK h p hi
 have ha:=NS h hi
 have ha0:=vc h b i
 have eo:eC [ax G T W,.int (sI b),nD i,af P]=some (af (Em b G T W i P)):=C6 h hi p.len
 have hsle:(Em b G T W i P).sum<=amt b G T i:=p.le_sm h hi
 have es:=rR (l:=Em b G T W i P) (by omega) fun x hx=>by have:=h9 x hx;omega
 have key:=E4 (Em b G T W i P) (amt b G T i) 0
 have kw:=Cd (Em b G T W i P) 0
 generalize hR:Em b G T W i P=R at *
 have hy:∀k,k < R.length->0<=R.getD k 0/\R.getD k 0<=9:=fun k hk=>h9 _ (by simp[hk])
 have hn:0<=R.sum:=by
  have:∀ {l:List Int},(∀y∈l,0<=y/\y<=9)->0<=l.sum:=fun {l}=>by
   induction l with
   | nil=>intro _;simp
   | cons z l ih =>
    intro hz
    have h1:=ih fun q hq=>hz q (zC _ hq)
    have h2:=hz z zE
    rw[List.sum_cons]
    omega
  exact this h9
 refine aD ?_
 show dJ [.val (ax G T W),.val (.int (sI b)),.val (nD i),.val (af P),.non,.non]=_
 unfold dJ
 refine (ai (bD (call_of eo rfl rfl) (call_of eo rfl rfl) rfl)).trans ?_
 refine (ai (bO (d:=.int (amt b G T i - R.sum)) (aw (gM _ _) (aw (a:=bK (cA b G T i)) (b:=.int 0) rfl (aw (mi (gT hi)) (aw (jF b G T W) rfl rfl) rfl) rfl) ((dO rfl).trans es)) rfl)).trans ?_
 have hval:cst b G T W P i=((List.range R.length).map fun k=>((k:Nat):Int) * R.getD k 0).sum+(amt b G T i - R.sum) * ((R.length:Nat):Int):=by
  unfold cst
  rw[hR]
  simp only[Nat.zero_add] at kw
  rw[kw]
  simp only[Int.zero_add,Int.zero_mul] at key
  exact key.symm
 rw[hval]
 have c:∀ρ:Dl.Env,ab 4 ρ=some (af R)->ak 2 [] (bC (aa (ab 4) ae)) (iz 0 1) (fun _=>some true) (f2 Dl.eK (ab 0) (ab 1)) ρ=some (((List.range R.length).map fun k=>((k:Nat):Int) * R.getD k 0).map PyData.int):=fun ρ e4=>by
  have c:=m8 (ρ:=ρ) (fi:=bC (aa (ab 4) ae)) (cs:=[]) (tt:=fun _=>some true) (te:=f2 Dl.eK (ab 0) (ab 1)) (n:=R.length) (x:=nD) (y:=fun k=>.int (R.getD k 0)) (p:=fun _=>true) (h:=fun k=>.int (((k:Nat):Int) * R.getD k 0)) (by
   show ((aa _ ae) ρ).bind (fun ds=>(du ds).map (bj 0))=_
   rw[cons_of e4 rfl]
   show some (bj 0 (R.map PyData.int))=_
   rw[xv]) (by omega) fun k hk=>⟨rfl,fun _=>aw (da (.inl ⟨by omega,by omega⟩)) rfl rfl⟩
  rw[List.filter_eq_self.mpr fun _ _=>rfl] at c
  rw[c,zM]
  rfl
 have bd:∀x∈(List.range R.length).map fun k=>((k:Nat):Int) * R.getD k 0,-1000000<=x/\x<=1000000:=fun x hx=>by
  obtain⟨k,hk,rfl⟩:=zQ.mp hx
  have hk:=zT.mp hk
  have h1:=hy k hk
  have h2:0<=((k:Nat):Int) * R.getD k 0:=Int.mul_nonneg (by omega) h1.1
  have h3:((k:Nat):Int) * R.getD k 0<=16 * 9:=Int.mul_le_mul (by omega) h1.2 h1.1 (by omega)
  omega
 exact aH (aw (fv _ _) ((dO (vW (c _ rfl))).trans (p9 (by simp;omega) bd)) (aw (da (.inl ⟨by omega,by omega⟩)) rfl ((dO rfl).trans (Cw _))))
theorem eF(h:Wd G T W)(p:Pn G T W P)(b:Bool):bE [ax G T W,.int (sI b),af P]=some (.int (lI b G T W P)):=by
 have h4:=h.pl b
 refine aD ?_
 show eh [.val (ax G T W),.val (.int (sI b)),.val (af P)]=_
 unfold eh
 have c:=eQ (ρ:=bp [.val (ax G T W),.val (.int (sI b)),.val (af P)]) (fi:=bc (aa (aZ bN (aa (f2 au (ab 0) (ab 1)) ae)) ae)) (cs:=[0,1,2]) (te:=ah 4 bH (aa (ab 1) (aa (ab 2) (aa (ab 0) (aa (ab 3) ae))))) (is:=List.range (aG b G T).length) (f:=fun i=>.int (cst b G T W P i))
  (qv (yy (b:=b) rfl rfl) (by omega)) (by rw[zS];omega) fun i hi=>call_of (jX h p (zT.mp hi)) rfl rfl
 refine aH ((dO (vW c)).trans ?_)
 have:=p9 (l:=(List.range (aG b G T).length).map (cst b G T W P)) (by simp;omega) fun x hx=>by
  obtain⟨k,hk,rfl⟩:=zQ.mp hx
  have:=we (b:=b) h p (zT.mp hk)
  omega
 rw[zM] at this
 exact this
theorem Hf(h:Wd G T W)(p:Pn G T W P)(hi:i < (aG b G T).length):ki [ax G T W,.int (sI b),nD i,af P]=some (.int (cst b G T W P i)):=by
 refine aD ?_
 show wH [.val (ax G T W),.val (.int (sI b)),.val (nD i),.val (af P)]=_
 unfold wH
 refine (ai (eB (call_of (f7 h p) rfl rfl))).trans ?_
 refine (ai (eB (call_of (rQ h b hi) rfl rfl))).trans ?_
 exact aH (call_of (jX h p hi) rfl rfl)
def vG(G T:List Pl)(W:List Wy)(P:List Int):List Int:=[lI false G T W P,lI true G T W P]
theorem js(h:Wd G T W)(p:Pn G T W P):dg [ax G T W,af P]=some (af (vG G T W P)):=by
 refine aD ?_
 show pN [.val (ax G T W),.val (af P)]=_
 unfold pN
 refine (ai (eB (call_of (f7 h p) rfl rfl))).trans ?_
 exact aH (F8 (call_of (eF h p false) rfl rfl) (call_of (eF h p true) rfl rfl))
def rY(G T:List Pl)(W:List Wy)(P:List Int):List Int:=[lI false G T W P+lI true G T W P,if lI false G T W P - lI true G T W P < 0 then -(lI false G T W P - lI true G T W P) else lI false G T W P - lI true G T W P]
theorem v5(h:Wd G T W)(p:Pn G T W P):eG [ax G T W,af P]=some (af (rY G T W P)):=by
 refine aD ?_
 show fZ [.val (ax G T W),.val (af P),.non,.non]=_
 unfold fZ
 refine (ai (bO (call_of (eF h p false) rfl rfl) rfl)).trans ?_
 refine (ai (bO (call_of (eF h p true) rfl rfl) rfl)).trans ?_
 exact aH (F8 (aw (fv _ _) rfl rfl) ((dO (aw (gM _ _) rfl rfl)).trans rfl))
theorem yc{te:Dl.Env->Option D}{ρ:Dl.Env}{f:List Int->List Int}:∀ {l:List (List Int)},(∀x∈l,te (ρ.set 0 (some (af x)))=some (af (f x)))->eM te ρ (l.map af)=some ((l.map f).map af)
 | [],_=>rfl
 | x::l,hh=>by
  have ih:=yc (te:=te) (ρ:=ρ) (f:=f) (l:=l) fun y hy=>hh y (zC _ hy)
  rw[zI,eM,hh x zE,zA,ih]
  rfl
def BW(G T:List Pl)(W:List Wy):List Int:=(allR G T W).getD (PySem.argBest (ij ((allR G T W).map (rY G T W))) ((allR G T W).length - 1)) []
theorem zr(h:Wd G T W):PySem.argBest (ij ((allR G T W).map (rY G T W))) ((allR G T W).length - 1) < (allR G T W).length:=by
 have hpos:0 < (allR G T W).length:=List.length_pos_of_mem ((ft h).mpr ⟨kK h,MM h⟩)
 have:=rN (ij ((allR G T W).map (rY G T W))) ((allR G T W).length - 1)
 omega
theorem mT(h:Wd G T W):BW G T W∈allR G T W:=by
 have:=zr h
 unfold BW
 rw[zG,zK this]
 exact List.getElem_mem _
theorem Bc(h:Wd G T W)(hX:X∈allR G T W):lexLt (rY G T W X) (rY G T W (BW G T W))=false:=by
 obtain⟨j,hj,rfl⟩:=List.mem_iff_getElem.mp hX
 have h1:=qX (fun k=>((allR G T W).map (rY G T W)).getD k []) ((allR G T W).length - 1) j (by omega)
 have d:∀k,k < (allR G T W).length->((allR G T W).map (rY G T W)).getD k []=rY G T W ((allR G T W).getD k []):=fun k hk=>by simp[hk]
 have h2:lexLt (((allR G T W).map (rY G T W)).getD j []) (((allR G T W).map (rY G T W)).getD (PySem.argBest (ij ((allR G T W).map (rY G T W))) ((allR G T W).length - 1)) [])=false:=h1
 rw[d _ hj,d _ (zr h)] at h2
 have e:(allR G T W).getD j []=(allR G T W)[j]:=by simp[hj]
 rw[e] at h2
 exact h2
theorem uy(h:Wd G T W)(ea:cw [ax G T W]=some (.list ((allR G T W).map af))):iV [ax G T W]=some (af (BW G T W)):=by
 refine aD ?_
 show lr [.val (ax G T W)]=_
 unfold lr
 refine aH ?_
 have ek:eM (ah 2 eG (aa (ab 1) (aa (ab 0) ae))) (eA 1 [0] (bp [.val (ax G T W)])) ((allR G T W).map af)=some (((allR G T W).map (rY G T W)).map af) :=
  yc fun X hX=>call_of (v5 h ((ft h).mp hX).1) rfl rfl
 have ec:ah 1 cw (aa (ab 0) ae) (bp [.val (ax G T W)])=some (.list ((allR G T W).map af)):=call_of ea rfl rfl
 unfold B5
 rw[ec,zA]
 show (eM _ _ _).bind _=_
 rw[ek,zA,uu,zA,zD,zO]
 unfold BW
 rw[zG,zK (zr h)]
 rfl
theorem E1{π:List Nat}(h:Wd G T W)(o:Ord W π):rY T G (dv W π) (j3 P π)=rY G T W P:=by
 have e0:=vC (P:=P) h o false
 have e1:=vC (P:=P) h o true
 simp only[Bool.not_false,Bool.not_true] at e0 e1
 unfold rY
 rw[e0,e1,Int.add_comm]
 congr 2
 split<;>split<;>omega
end
namespace K35M
theorem Ca{tgt:aj->D->Option aj}{gb:aj->Option Out}{d:D}{ds:List D}{ρ ρ1 ρ2:aj}(h1:tgt ρ d=some ρ1)(h2:gb ρ1=some (.nx ρ2)):cO tgt gb (d::ds) ρ=cO tgt gb ds ρ2:=by rw[cO,h1,zA,h2];rfl
section
variable {G T:List Pl}{W:List Wy}{P:List Int}{b:Bool}{i k:Nat}
abbrev st(d0:D)(G T:List Pl)(W:List Wy)(x5 x6 x7 x8 x9 x10:Slot):aj:=[.val d0,.val (ax G T W),.val (.list ((allR G T W).map af)),.val (.tuple [af (mC G T W),af (mr G T W)]),.val (af (BW G T W)),x5,x6,x7,x8,x9,x10,.non,.non]
def NT(b:Bool)(G T:List Pl)(W:List Wy):List Int:=if b then mr G T W else mC G T W
theorem Fb(h:Wd G T W)(b:Bool):Pn G T W (NT b G T W):=by cases b;exact kK h;exact Kn h
theorem Hi(b:Bool):au (.tuple [af (mC G T W),af (mr G T W)]) (.int (sI b))=some (af (NT b G T W)):=by cases b<;>rfl
theorem BV(h:Wd G T W)(p:Pn G T W P)(r:Rs G T W P)(b:Bool):bo b G T W (mx (NT b G T W) P)=NT b G T W:=by
 cases b
 ·exact Cn h p r
 ·exact (yh h p r).1
theorem l8(b:Bool):au (af (vG G T W P)) (.int (sI b))=some (.int (lI b G T W P)):=by cases b<;>rfl
theorem pU(h:Wd G T W)(p:Pn G T W P):gw [af (vG G T W P)]=some (.int (lI false G T W P+lI true G T W P)):=by
 have h0:=Gn h p false
 have h1:=Gn h p true
 refine (rR (by simp[vG]) fun x hx=>?_).trans (by simp[vG])
 simp only[vG,zR,yG,or_false] at hx
 rcases hx with rfl|rfl<;>omega
def pB:aj->Option Out:=(gQ (fB (f2 wX (ab 10) (ah 4 ki (aa (ab 1) (aa (ab 7) (aa (ab 9) (aa (f2 au (ab 3) (ab 7)) ae))))))) (aF (fC (.bool false))) gz)
theorem Ar{d0:D}(h:Wd G T W)(p:Pn G T W P)(r:Rs G T W P)(hi:i < (aG b G T).length){x5 x6 x8:Slot}:pB (st d0 G T W x5 x6 (.val (.int (sI b))) x8 (.val (nD i)) (.val (.int (cst b G T W P i))))=some (.nx (st d0 G T W x5 x6 (.val (.int (sI b))) x8 (.val (nD i)) (.val (.int (cst b G T W P i))))):=by
 have pb:=Fb h b
 have hle:=F1 h pb p hi (BV h p r b)
 unfold pB
 exact cB (cM (aw ((hV _ _).trans (by rw[yA (by omega)])) rfl (call_of (Hf h pb hi) (cons_of rfl (cons_of rfl (cons_of rfl (cons_of (aw (Hi b) rfl rfl) rfl)))) rfl)))
def Vs(x:Slot):Prop:=x=.non\/∃d,x=.val d
def sB:aj->Option Out:=(av (gQ (fB (f2 wX (f2 au (ab 6) (ab 7)) (f2 au (ah 2 dg (aa (ab 1) (aa (f2 au (ab 3) (ab 7)) ae))) (ab 7)))) (aF (fC (.bool false))) gz) (av (aK 8 [1,5,7,9] (ak 1 [1,5,7] (bc (aa (aZ bN (aa (f2 au (ab 1) (ab 7)) ae)) ae)) (fG 0) (fun _=>some true) (ah 4 ki (aa (ab 1) (aa (ab 3) (aa (ab 0) (aa (ab 2) ae))))))) (av (gQ (fB (f2 oC (aZ gw (aa (ab 8) ae)) (f2 au (ab 6) (ab 7)))) (aF (fC (.bool false))) gz) (dZ [8] (bC (aa (ab 8) ae)) (hU 9 10) pB))))
theorem GP{d0:D}(h:Wd G T W)(p:Pn G T W P)(r:Rs G T W P){x8 x9 x10:Slot}(v9:Vs x9):∃y8 y9 y10,Vs y9/\sB (st d0 G T W (.val (af P)) (.val (af (vG G T W P))) (.val (.int (sI b))) x8 x9 x10)=some (.nx (st d0 G T W (.val (af P)) (.val (af (vG G T W P))) (.val (.int (sI b))) y8 y9 y10)):=by
 have pb:=Fb h b
 have h4:=h.pl b
 have hle:=LH h pb p (BV h p r b)
 have es:=p9 (l:=(List.range (aG b G T).length).map (cst b G T W P)) (by simp;omega) fun x hx=>by
  obtain⟨k,hk,rfl⟩:=zQ.mp hx
  have:=we (b:=b) h p (zT.mp hk)
  omega
 have esv:gw [.list ((List.range (aG b G T).length).map fun i=>.int (cst b G T W P i))]=some (.int (lI b G T W P)):=by
  rw[zM] at es
  exact es
 have c:∀ρ:Dl.Env,ab 1 ρ=some (ax G T W)->ab 5 ρ=some (af P)->ab 7 ρ=some (.int (sI b))->ak 1 [1,5,7] (bc (aa (aZ bN (aa (f2 au (ab 1) (ab 7)) ae)) ae)) (fG 0) (fun _=>some true) (ah 4 ki (aa (ab 1) (aa (ab 3) (aa (ab 0) (aa (ab 2) ae))))) ρ=some ((List.range (aG b G T).length).map fun i=>.int (cst b G T W P i)):=fun ρ a1 a5 a7=>by
  have a1':(ρ[1]?).getD none=some (ax G T W):=a1
  have a5':(ρ[5]?).getD none=some (af P):=a5
  have a7':(ρ[7]?).getD none=some (.int (sI b)):=a7
  refine eQ (qv (yy (b:=b) a1 a7) (by omega)) (by rw[zS];omega) fun i hi=>?_
  rw[zI,zI,zI,List.map_nil,a1',a5',a7']
  exact call_of (Hf h p (zT.mp hi)) rfl rfl
 obtain⟨ρ1,e1,y9,y10,w9,rfl⟩:=wa (tgt:=hU 9 10) (gb:=pB) (fun j=>.tuple [nD j,.int (cst b G T W P j)]) (fun _ ρ=>∃y9 y10,Vs y9/\ρ=st d0 G T W (.val (af P)) (.val (af (vG G T W P))) (.val (.int (sI b))) (.val (.list ((List.range (aG b G T).length).map fun i=>.int (cst b G T W P i)))) y9 y10) (aG b G T).length 0 (st d0 G T W (.val (af P)) (.val (af (vG G T W P))) (.val (.int (sI b))) (.val (.list ((List.range (aG b G T).length).map fun i=>.int (cst b G T W P i)))) x9 x10)
  (fun j ρ _ hj hρ=>by
   obtain⟨y9,y10,_,rfl⟩:=hρ
   exact⟨_,_,rfl,Ar h p r (by omega),_,_,.inr ⟨_,rfl⟩,rfl⟩) ⟨_,_,v9,rfl⟩
 rw[<- yI] at e1
 refine⟨.val (.list ((List.range (aG b G T).length).map fun i=>.int (cst b G T W P i))),y9,y10,w9,?_⟩
 have hh:hand [1,5,7,9] 0 (st d0 G T W (.val (af P)) (.val (af (vG G T W P))) (.val (.int (sI b))) x8 x9 x10)=st d0 G T W (.val (af P)) (.val (af (vG G T W P))) (.val (.int (sI b))) x8 x9 x10:=by
  rcases v9 with rfl|⟨d,rfl⟩<;>rfl
 unfold sB
 refine (ai (cB (cM (aw ((hV (lI b G T W P) (lI b G T W (NT b G T W))).trans (by rw[yA (by omega)])) (aw (l8 b) rfl rfl) (aw (l8 b) (call_of (js h pb) (cons_of rfl (cons_of (aw (Hi b) rfl rfl) rfl)) rfl) rfl))))).trans ?_
 refine (ai (gy (c _ rfl rfl rfl) hh)).trans ?_
 refine (ai (cB (cM (aw ((FH _ _).trans (by rw[yB rfl];rfl)) ((dO rfl).trans esv) (aw (l8 b) rfl rfl))))).trans ?_
 refine dh e1 ?_ rfl
 show ((aa _ ae) _).bind (fun ds=>(du ds).map (bj 0))=_
 rw[cons_of rfl rfl]
 show some (bj 0 ((List.range (aG b G T).length).map fun i=>PyData.int (cst b G T W P i)))=_
 rw[show ((List.range (aG b G T).length).map fun i=>PyData.int (cst b G T W P i))=((List.range (aG b G T).length).map (cst b G T W P)).map PyData.int by rw[zM];rfl,xv]
 refine congrArg some ?_
 rw[zD,zS]
 refine yJ fun k hk=>?_
 have hk:=zT.mp hk
 simp[hk]
def lB:aj->Option Out:=(av (Dl.az 6 [1,5] (ah 2 dg (aa (ab 1) (aa (ab 5) ae)))) (av (dZ [] (bc (aa (fC (.int 2)) ae)) (nu 7) sB) (av (gQ (fB (f2 wX (aZ gw (aa (ab 6) ae)) (aZ gw (aa (ah 2 dg (aa (ab 1) (aa (ab 4) ae))) ae)))) (aF (fC (.bool false))) gz) (gQ (fB (f2 oC (ah 2 dg (aa (ah 1 cK (aa (ab 1) ae)) (aa (ah 2 bY (aa (ab 1) (aa (ab 5) ae))) ae))) (f1 Jw (ab 6)))) (aF (fC (.bool false))) gz))))
theorem Lp(h:Wd G T W)(hP:P∈allR G T W):lI false G T W (BW G T W)+lI true G T W (BW G T W)<=lI false G T W P+lI true G T W P:=by
 have:HT.lexLt (rY G T W P) (rY G T W (BW G T W))=false:=Bc h hP
 unfold rY at this
 rw[HT.cD] at this
 split at this
 ·omega
 ·have:=of_decide_eq_false this
  omega
theorem Ni(h:Wd G T W):vG T G (dv W (bF W)) (j3 P (bF W))=[lI true G T W P,lI false G T W P]:=by
 have e0:=vC (P:=P) h (bT h.wp) false
 have e1:=vC (P:=P) h (bT h.wp) true
 simp only[Bool.not_false,Bool.not_true] at e0 e1
 unfold vG
 rw[e0,e1]
theorem AQ{d0:D}(h:Wd G T W)(hP:P∈allR G T W){x6 x7 x8 x9 x10:Slot}(v9:Vs x9):∃y6 y7 y8 y9 y10,Vs y9/\lB (st d0 G T W (.val (af P)) x6 x7 x8 x9 x10)=some (.nx (st d0 G T W (.val (af P)) y6 y7 y8 y9 y10)):=by
 obtain⟨p,r⟩:=(ft h).mp hP
 obtain⟨pf,rf⟩:=(ft h).mp (mT h)
 have hle:=Lp h hP
 obtain⟨a8,a9,a10,w9,e0⟩:=GP (d0:=d0) (b:=false) (x8:=x8) (x10:=x10) h p r v9
 obtain⟨c8,c9,c10,u9,e1⟩:=GP (d0:=d0) (b:=true) (x8:=a8) (x10:=a10) h p r w9
 have l1:cO (nu 7) sB [.int (sI false),.int (sI true)] (st d0 G T W (.val (af P)) (.val (af (vG G T W P))) x7 x8 x9 x10)=some (.nx (st d0 G T W (.val (af P)) (.val (af (vG G T W P))) (.val (.int (sI true))) c8 c9 c10)):=by
  rw[Ca (ρ1:=st d0 G T W (.val (af P)) (.val (af (vG G T W P))) (.val (.int (sI false))) x8 x9 x10) rfl e0,Ca (ρ1:=st d0 G T W (.val (af P)) (.val (af (vG G T W P))) (.val (.int (sI true))) a8 a9 a10) rfl e1]
  rfl
 have o:=bT h.wp
 have et:=js (o.wd h) (p.tu h o)
 rw[Ni h] at et
 refine⟨.val (af (vG G T W P)),.val (.int (sI true)),c8,c9,c10,u9,?_⟩
 unfold lB
 refine (ai (bD (call_of (js h p) rfl rfl) (call_of (js h p) rfl rfl) rfl)).trans ?_
 refine (ai (dh l1 (L5 _) rfl)).trans ?_
 refine (ai (cB (cM (aw ((hV _ _).trans (by rw[yA (by omega)])) ((dO rfl).trans (pU h p)) ((dO (call_of (js h pf) rfl rfl)).trans (pU h pf)))))).trans ?_
 exact cB (cM (aw (De [lI true G T W P,lI false G T W P]) (call_of et (cons_of (call_of (hC h) rfl rfl) (cons_of (call_of (lP h p) rfl rfl) rfl)) rfl) rfl))
theorem GF(h:Wd G T W)(hP:P∈allR G T W):j3 P (bF W)∈allR T G (dv W (bF W)):=by
 have o:=bT h.wp
 obtain⟨p,r⟩:=(ft h).mp hP
 exact (ft (o.wd h)).mpr ⟨p.tu h o,r.tu h o p⟩
theorem EO(h:Wd G T W):rY T G (dv W (bF W)) (BW T G (dv W (bF W)))=rY G T W (BW G T W):=by
 have o:=bT h.wp
 have h':=o.wd h
 have o':=bT h'.wp
 have m1:=GF h (mT h)
 have m2:=GF h' (mT h')
 rw[pV h.wp o o'] at m2
 have l1:=Bc h' m1
 have l2:=Bc h m2
 rw[E1 h o] at l1
 have e:=E1 (P:=BW T G (dv W (bF W))) h' o'
 rw[pV h.wp o o'] at e
 rw[e] at l2
 exact gC l2 l1
theorem main(ns:List Int)(hl:ns.length<=63):iX [.list (ns.map PyData.int)]=some (.bool true):=by
 obtain⟨G,T,W,ew,h,few⟩:=yX (ns:=ns) (a:=0) (mo:=7) hl (by omega)
 have hw7:W.length<=7:=by have:=few.wm;omega
 obtain⟨ea,hR⟩:=mK h (fun w hw=>⟨by have:=(h.wr w hw).2.2;omega,few.w2 w hw⟩) hw7
 have o:=bT h.wp
 have h':=o.wd h
 obtain⟨ea',_⟩:=mK h' (fun w hw=>by
  obtain⟨i,hi,rfl⟩:=zQ.mp hw
  have hm:=vj (vK h.wp hi)
  have h1:=(h.wr _ hm).2.2
  have h2:=few.w2 _ hm
  show 0<=(aE W i).2.2/\(aE W i).2.2<=2
  omega) (by rw[bS o];exact hw7)
 have ef:=uy h ea
 have ef':=uy h' ea'
 have mf:=mT h
 have mf':=mT h'
 obtain⟨pf,rf⟩:=(ft h).mp mf
 obtain⟨pf',rf'⟩:=(ft h').mp mf'
 have ec:=js h pf
 have ec':=js h' pf'
 have es:=EO h
 obtain⟨ρ1,e1,y5,y6,y7,y8,y9,y10,_,rfl⟩:=wa (tgt:=nu 5) (gb:=lB) (fun j=>af ((allR G T W).getD j [])) (fun _ ρ=>∃y5 y6 y7 y8 y9 y10,Vs y9/\ρ=st (dU ns) G T W y5 y6 y7 y8 y9 y10) (allR G T W).length 0 (st (dU ns) G T W .non .non .non .non .non .non)
  (fun j ρ _ hj hρ=>by
   obtain⟨y5,y6,y7,y8,y9,y10,v9,rfl⟩:=hρ
   have hj:j < (allR G T W).length:=by omega
   obtain⟨z6,z7,z8,z9,z10,w9,e⟩:=AQ (d0:=dU ns) (P:=(allR G T W).getD j []) (x6:=y6) (x7:=y7) (x8:=y8) (x10:=y10) h (by simp[hj]) v9
   exact⟨_,_,rfl,e,_,_,_,_,_,_,w9,rfl⟩) ⟨_,_,_,_,_,_,.inl rfl,rfl⟩
 rw[<- yI,map_range [] af] at e1
 have hu:∀a c a' c':Int,[a+c,if a - c < 0 then -(a - c) else a - c]=[a'+c',if a' - c' < 0 then -(a' - c') else a' - c']->a+c=a'+c'/\(if a - c < 0 then -(a - c) else a - c)=if a' - c' < 0 then -(a' - c') else a' - c':=fun a c a' c' z=>by
  simpa using z
 obtain⟨u1,u2⟩:=hu _ _ _ _ es
 have single':decide (mC G T W=mr G T W)=true->BW G T W=mC G T W:=fun z=>single h pf rf (of_decide_eq_true z)
 refine aD ?_
 show lu [.val (dU ns),.non,.non,.non,.non,.non,.non,.non,.non,.non,.non,.non,.non]=_
 unfold lu
 refine (ai (bD (call_of ew rfl rfl) (call_of ew rfl rfl) rfl)).trans ?_
 refine (ai (bD (call_of ea rfl rfl) (call_of ea rfl rfl) rfl)).trans ?_
 refine (ai (bD (F8 (call_of (vm h) rfl rfl) (call_of (uP h) rfl rfl)) (F8 (call_of (vm h) rfl rfl) (call_of (uP h) rfl rfl)) rfl)).trans ?_
 refine (ai (bD (call_of ef rfl rfl) (call_of ef rfl rfl) rfl)).trans ?_
 refine (ai (cB (K7 (cM (aw ((C9 _ _).trans (by rw[yB mf];rfl)) rfl rfl)) (gn (b:=true) (cM (call_of (yr h pf rf) rfl rfl)))))).trans ?_
 refine (ai (dh e1 rfl rfl)).trans ?_
 refine (ai (cB ?_)).trans ?_
 ·cases hs:decide (mC G T W=mr G T W) with
  | false=>exact J5 (cM ((call_of (oV h) rfl rfl).trans (by rw[hs])))
  | true =>
   refine GD (cM ((call_of (oV h) rfl rfl).trans (by rw[hs]))) (cM (aw ((xQ (BW G T W) (mC G T W)).trans (by rw[single' hs];simp)) rfl (aw (Ob _ _) rfl rfl)))
 have et:ah 1 cK (aa (ab 1) ae)=ah 1 cK (aa (ab 1) ae):=rfl
 refine (ai (bD (call_of ec' (cons_of (call_of (hC h) rfl rfl) (cons_of (call_of ef' (cons_of (call_of (hC h) rfl rfl) rfl) rfl) rfl)) rfl) (call_of ec' (cons_of (call_of (hC h) rfl rfl) (cons_of (call_of ef' (cons_of (call_of (hC h) rfl rfl) rfl) rfl) rfl)) rfl) rfl)).trans ?_
 refine (ai (bD (call_of ec rfl rfl) (call_of ec rfl rfl) rfl)).trans ?_
 refine aH (BZ (a:=true) (b:=true) (aw ((dB _ _).trans (by rw[yB u1])) ((dO rfl).trans (pU h' pf')) ((dO rfl).trans (pU h pf))) (aw ((dB _ _).trans (by rw[yB u2])) ((dO (aw (gM _ _) (aw (l8 false) rfl rfl) (aw (l8 true) rfl rfl))).trans rfl) ((dO (aw (gM _ _) (aw (l8 false) rfl rfl) (aw (l8 true) rfl rfl))).trans rfl)))
end
end K35M
end Wm
namespace K35
open PySem L2 Dl PySem.Spec PyProof.Rows Pg Hd
theorem main(ns:List Int)(h:ns.length<=63):iX [.list (ns.map PyData.int)]=some (.bool true):=Wm.K35M.main ns h
theorem ins(P:Params):NF (Kf P):=⟨f3 82 81 ib,f2 89 88 ib,f3 96 95 ib,f2 101 100 ib,f2 108 107 ib,f3 115 114 ib,f3 120 119 ib,f1 125 124 ib,f1 130 129 ib,f4 135 134 ib,f3 140 139 ib,f2 145 144 ib,f1 152 151 ib,f2 159 158 ib,f3 166 165 ib,f2 173 172 ib,f1 180 179 ib,f3 187 186 ib,f3 194 193 ib,l1 201 200 ib,f1 206 205 ib,f2 211 210 ib,l3 216 215 Cu,f4 221 220 Cu,f4 226 225 Cu,f3 233 232 Cu,f2 240 239 Cu,f2 247 246 Cu,f2 254 253 Cu,f3 259 258 zm,f1 264 263 zm,f3 271 270 zm,f2 278 277 zm,f1 285 284 zm,f2 292 291 zm,f1 299 298 zm,f1 306 305 zm,f4 311 310 Qf,f1 318 317 HM,f1 323 322 HM,f1 328 327 HM,f1 333 332 HM,f1 340 339 HM,f4 345 344 Es,f3 350 349 Es,f4 357 356 Es,f2 364 363 Es,f2 371 370 Es,l1 378 377 Es,f2 385 384 HP,f3 392 391 HP,f3 399 398 HP,f3 404 403 HP,f1 409 408 HP,Dl.Ga (t:=273) (by kernel_rfl),Dl.Ga (t:=275) (by kernel_rfl),Dl.Ga (t:=574) (by kernel_rfl),Dl.Lq (by kernel_rfl)⟩
theorem QB(w:World):m7 (Kf w.params) [196,213,373]=true:=by kernel_rfl
end K35
open PySem PySem.W PyProof.Rows
theorem PySem.Challenge.cw_stillflow_k35_whole_costs_holds : PySem.Challenge.rw_stillflow_k35_whole_costs.Holds := by
 refine holds_law K35.P3 fun k1=>?_
 refine holds_open (XP:=XL K35.vw []) (YP:=K35.hk.says) K35.left K35.hk.of K35.hk.keeps (fun s e=>xl_of s (Bool.and_eq_true_iff.mp e).1) XL.keeps (by rfl) (by rfl) (by rfl) (fun s e=>recFacts_of (Bool.and_eq_true_iff.mp e).2) (by rfl) k1 (by decide +kernel) ⟨rfl,rfl,rfl,rfl,rfl,by decide +kernel⟩ ?hw ?hc
 case hw=>w_witness2
 case hc=>exact K35.walk (l:=PySem.Challenge.rw_stillflow_k35_whole_costs) (K:=K35.Kf) (ts:=[196,213,373]) rfl rfl rfl (fun w h Y=>⟨Y.1,Y.2⟩) K35.QB (fun w=>K35.ins w.params) K35.main
