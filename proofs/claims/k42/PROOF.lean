import PyProof.Rows.All
import Wide.All
import OpenK.AllK
import Wide.FinOn
import PyProof.EqAt
import PyProof.EqKinds
import PyProof.TupleCall
import Lean
import PyProof.Draws
import PyProof.ListRange
import PySem.Challenge.RW_stillflow_k42_whole_ranks
set_option Elab.async false
set_option linter.all false
set_option maxRecDepth 100000
set_option maxHeartbeats 4000000
abbrev _root_.zA:=@Option.bind_some
abbrev _root_.zB:=@Option.map_some
abbrev _root_.zC:=@List.mem_cons_of_mem
abbrev _root_.zD:=@List.length_map
abbrev _root_.zE:=@List.mem_cons_self
abbrev _root_.zF:=@Bool.and_eq_true
abbrev _root_.zG:=@List.getD_eq_getElem?_getD
abbrev _root_.zH:=@List.size_toArray
abbrev _root_.zI:=@List.map_cons
abbrev _root_.zJ:=@decide_eq_true_eq
abbrev _root_.zK:=@List.getElem?_eq_getElem
abbrev _root_.zL:=@List.length_cons
abbrev _root_.zM:=@List.map_map
abbrev _root_.zN:=@List.length_append
abbrev _root_.zO:=@List.getElem?_map
abbrev _root_.zP:=@Nat.lt_of_lt_of_le
abbrev _root_.zQ:=@List.mem_map
abbrev _root_.zR:=@List.mem_cons
abbrev _root_.zS:=@List.length_range
abbrev _root_.zT:=@List.mem_range
abbrev _root_.zU:=@List.getElem?_eq_some_iff
abbrev _root_.zV:=@PySem.Heap.get?_push_of_some
abbrev _root_.zW:=@PySem.wpAny_bind
abbrev _root_.zX:=@PySem.wpAny_pure
abbrev _root_.zY:=@PySem.Heap.get?_push_size
abbrev _root_.zZ:=@PySem.Heap.lt_size
abbrev _root_.yA:=@decide_eq_false
abbrev _root_.yB:=@decide_eq_true
abbrev _root_.yC:=@List.lookup_cons
abbrev _root_.yD:=@List.length_set
abbrev _root_.yE:=@Nat.le_trans
abbrev _root_.yF:=@List.mem_append_right
abbrev _root_.yG:=@List.not_mem_nil
abbrev _root_.yH:=@Int.toNat_natCast
abbrev _root_.yI:=@List.range_eq_range'
abbrev _root_.yJ:=@List.map_congr_left
abbrev _root_.yK:=@List.foldl_cons
abbrev _root_.yL:=@List.mem_singleton
abbrev _root_.yM:=@Option.some.injEq
abbrev _root_.zzA:=@Nat.le_refl
abbrev _root_.zzB:=@Nat.ne_of_lt
local macro_rules|`(def $i:declId $s:optDeclSig $v:declVal)=>`(noncomputable def $i:declId $s:optDeclSig $v:declVal)
local macro_rules|`(abbrev $i:declId $s:optDeclSig $v:declVal)=>`(noncomputable abbrev $i:declId $s:optDeclSig $v:declVal)
namespace L2
open PySem
def iu(s:Stmt):Arguments:=match s with
 | .FunctionDef _ a _ _ _ _ _ _ _ _=>a
 | _=>{ posonlyargs:=[],args:=[],vararg:=none,kwonlyargs:=[],kw_defaults:=[],kwarg:=none,defaults:=[] }
def cE(s:Stmt):List Stmt:=match s with
 | .FunctionDef _ _ b _ _ _ _ _ _ _=>b
 | _=>[]
def aN(s:Stmt):Scope:=match s with
 | .FunctionDef _ _ _ _ _ _ sc _ _ _=>sc
 | _=>{ kind:=.function,names:=[],isGenerator:=false,isCoroutine:=false }
end L2
namespace Hd
open PySem L2 PySem.Spec PyProof.Rows
def en(P:Params)(x:String)(t:Nat)(v:Value):DictEntry:=⟨PyData.keyHash P (Str.ofString x),.str (Str.ofString x) t,v⟩
def fo(x:Str)(st:Stmt)(pm:Value)(c:Addr):Obj:=⟨.type "function",none,.func (W.fnOf x x (iu st) (cE st) (aN st) .none .none .none pm none (.ref c) .none),#[]⟩
def co(vs:List Value):Obj:=⟨.type "code",none,.fields vs.toArray,#[]⟩
def rfV(n:Nat):Value:=if n=0 then .none else .ref n
def cdo(x:Str)(t l n a b c d e f u:Nat):Obj:=co [.str x t,.str x (t+1),.str "/claim/cut.py" (t+2),.int l 0,.int n 0,.int 0 0,.int 0 0,.int 3 0,rfV a,.bool true,.int 181 0,rfV b,rfV c,rfV d,rfV e,rfV f,.int u 0,.int l 0,.str "/claim/cut.py" (u+1)]
theorem lf_all{S A B C D E F J O:Type}{x:Option S}{f:S->A×B×C×D×E×F×J}{o:S->O}{g:A×B×C×D×E×F×J}{v:O}(h0:x.map (fun s=>(f s).1)=some g.1)(h1:x.map (fun s=>(f s).2.1)=some g.2.1)(h2:x.map (fun s=>(f s).2.2.1)=some g.2.2.1)(h3:x.map (fun s=>((f s).2.2.2.1,(f s).2.2.2.2.1))=some (g.2.2.2.1,g.2.2.2.2.1))(h4:x.map (fun s=>(f s).2.2.2.2.2.1)=some g.2.2.2.2.2.1)(h5:x.map (fun s=>(f s).2.2.2.2.2.2)=some g.2.2.2.2.2.2)(h6:x.map o=some v):x.map (fun s=>(f s,o s))=some (g,v):=by
 obtain⟨a,b,c,d,e,i,j⟩:=g
 cases x with
 | none=>cases h0
 | some s =>
  simp only[zB,yM,Prod.mk.injEq] at h0 h1 h2 h3 h4 h5 h6 ⊢
  refine⟨?_,h6⟩
  generalize f s=t at *
  obtain⟨a',b',c',d',e',i',j'⟩:=t
  dsimp only at *
  obtain⟨h3,h3'⟩:=h3
  subst h0 h1 h2 h3 h3' h4 h5
  rfl
end Hd
namespace K42
open PySem L2 PySem.Spec PyProof.Rows Hd PySem.W
abbrev top(i:Nat):Stmt:=PySem.Challenge.pw_stillflow_k42_whole_ranks.main.body.getD i (.Pass ⟨0,0,0,0⟩)
def vw:Program:=W.view PySem.Challenge.pw_stillflow_k42_whole_ranks [1,2,3,4,5,7,8,9,10,11,12,13,14,15,16,17,18,19,20,21,22,23,24,25,26,27,28,29,30,32,33,34,35,36,37,38,39,41,42,43,44,45,46,47,48,50,51,52,54,55,56,57,58,60,61,62,63,64,65,66,67,68]
def il:Value:=(.str "stillflow.worlds" 271)
def zy:Value:=(.str "stillflow.flows" 439)
def zv:Value:=(.str "stillflow.finding" 503)
def Nm:Value:=(.str "stillflow.comparing" 574)
def KF:Value:=(.str "stillflow.listing" 598)
def wK:Value:=(.str "law_stillflow_k42_whole_ranks" 629)
def Kf(P:Params):W.Frag:=[(3,⟨.type "dict",none,.dict #[en P "__name__" 165 (.str "law_stillflow_k42_whole_ranks" 629),en P "__doc__" 166 .none,en P "__package__" 167 .none,en P "__loader__" 168 (.builtin "__main__.__loader__#opaque"),en P "__spec__" 169 .none,en P "__annotations__" 170 (.ref 6),en P "__builtins__" 171 (.ref 4),en P "__file__" 173 (.str "/claim/cut.py" 172),en P "__cached__" 174 .none,en P "FlowError" 206 (.ref 24),en P "NoWorld" 222 (.ref 37),en P "NoPlan" 238 (.ref 49),en P "NoPlace" 254 (.ref 61),en P "TooMany" 270 (.ref 73),en P "MOST_PLACES" 274 (.int 4 273),en P "MOST" 276 (.int 9 275),en P "is_whole" 285 (.ref 82),en P "is_number" 293 (.ref 89),en P "is_long" 302 (.ref 96),en P "are_likes" 308 (.ref 101),en P "is_end" 316 (.ref 108),en P "is_way" 325 (.ref 115),en P "are_parts" 331 (.ref 120),en P "liked_pairs" 337 (.ref 125),en P "is_world" 343 (.ref 130),en P "through" 349 (.ref 135),en P "keeps_amounts" 355 (.ref 140),en P "is_plan" 361 (.ref 145),en P "check_world" 368 (.ref 152),en P "check_plan" 376 (.ref 159),en P "check_whole" 385 (.ref 166),en P "check_number" 393 (.ref 173),en P "check_side" 400 (.ref 180),en P "check_place" 409 (.ref 187),en P "replaced" 418 (.ref 194),en P "turned_order" 426 (.ref 201),en P "turned" 432 (.ref 206),en P "turned_plan" 438 (.ref 211),en P "sent" 449 (.ref 218),en P "taken" 458 (.ref 225),en P "ways_of" 464 (.ref 230),en P "chosen_by" 470 (.ref 235),en P "wants_more" 476 (.ref 240),en P "why_kept" 485 (.ref 247),en P "first_leaving" 494 (.ref 254),en P "is_still" 502 (.ref 261),en P "chosen_by_all" 510 (.ref 266),en P "limits" 516 (.ref 271),en P "lowered" 525 (.ref 278),en P "refused" 537 (.ref 285),en P "steps" 547 (.ref 292),en P "capped" 558 (.ref 299),en P "givers_best" 565 (.ref 306),en P "takers_best" 573 (.ref 313),en P "greater" 581 (.ref 318),en P "on_ways_of" 587 (.ref 323),en P "rank" 597 (.ref 330),en P "MOST_LISTED" 601 (.int 3000 600),en P "check_many" 610 (.ref 337),en P "within_limits" 616 (.ref 342),en P "all_plans" 622 (.ref 347),en P "all_rests" 628 (.ref 352),en P "_law_cell" 638 (.ref 359),en P "_law_drawn" 648 (.ref 366),en P "_law_orders" 663 (.ref 373),en P "_law_world" 669 (.ref 378),en P "_law_used" 675 (.ref 383),en P "_law_fits" 686 (.ref 390),en P "_law_plans" 692 (.ref 395),en P "_law_plan" 706 (.ref 402),en P "law" 712 (.ref 407)] 71,#[]⟩),
 (81,cdo "is_whole" 277 15 3 76 77 0 78 79 80 283),
 (82,fo "is_whole" (top 9) il 81),
 (88,cdo "is_number" 286 19 2 83 84 0 85 86 87 291),
 (89,fo "is_number" (top 10) il 88),
 (95,cdo "is_long" 294 21 3 90 91 0 92 93 94 300),
 (96,fo "is_long" (top 11) il 95),
 (100,cdo "are_likes" 303 23 2 97 98 0 0 0 99 306),
 (101,fo "are_likes" (top 12) il 100),
 (107,cdo "is_end" 309 29 2 102 103 0 104 105 106 314),
 (108,fo "is_end" (top 13) il 107),
 (114,cdo "is_way" 317 31 3 109 110 0 111 112 113 323),
 (115,fo "is_way" (top 14) il 114),
 (119,cdo "are_parts" 326 35 3 116 117 0 0 0 118 329),
 (120,fo "are_parts" (top 15) il 119),
 (124,cdo "liked_pairs" 332 43 1 121 122 0 0 0 123 335),
 (125,fo "liked_pairs" (top 16) il 124),
 (129,cdo "is_world" 338 48 1 126 127 0 0 0 128 341),
 (130,fo "is_world" (top 17) il 129),
 (134,cdo "through" 344 55 4 131 132 0 0 0 133 347),
 (135,fo "through" (top 18) il 134),
 (139,cdo "keeps_amounts" 350 57 3 136 137 0 0 0 138 353),
 (140,fo "keeps_amounts" (top 19) il 139),
 (144,cdo "is_plan" 356 59 2 141 142 0 0 0 143 359),
 (145,fo "is_plan" (top 20) il 144),
 (151,cdo "check_world" 362 66 1 146 147 0 148 149 150 366),
 (152,fo "check_world" (top 21) il 151),
 (158,cdo "check_plan" 369 69 2 153 154 0 155 156 157 374),
 (159,fo "check_plan" (top 22) il 158),
 (165,cdo "check_whole" 377 73 3 160 161 0 162 163 164 383),
 (166,fo "check_whole" (top 23) il 165),
 (172,cdo "check_number" 386 76 2 167 168 0 169 170 171 391),
 (173,fo "check_number" (top 24) il 172),
 (179,cdo "check_side" 394 78 1 174 175 0 176 177 178 398),
 (180,fo "check_side" (top 25) il 179),
 (186,cdo "check_place" 401 80 3 181 182 0 183 184 185 407),
 (187,fo "check_place" (top 26) il 186),
 (193,cdo "replaced" 410 83 3 188 189 0 190 191 192 416),
 (194,fo "replaced" (top 27) il 193),
 (200,cdo "turned_order" 419 85 1 195 196 0 197 198 199 424),
 (201,fo "turned_order" (top 28) il 200),
 (205,cdo "turned" 427 88 1 202 203 0 0 0 204 430),
 (206,fo "turned" (top 29) il 205),
 (210,cdo "turned_plan" 433 92 2 207 208 0 0 0 209 436),
 (211,fo "turned_plan" (top 30) il 210),
 (217,cdo "sent" 441 96 3 212 213 0 214 215 216 447),
 (218,fo "sent" (top 32) zy 217),
 (224,cdo "taken" 450 100 3 219 220 0 221 222 223 456),
 (225,fo "taken" (top 33) zy 224),
 (229,cdo "ways_of" 459 104 3 226 227 0 0 0 228 462),
 (230,fo "ways_of" (top 34) zy 229),
 (234,cdo "chosen_by" 465 109 4 231 232 0 0 0 233 468),
 (235,fo "chosen_by" (top 35) zy 234),
 (239,cdo "wants_more" 471 116 4 236 237 0 0 0 238 474),
 (240,fo "wants_more" (top 36) zy 239),
 (246,cdo "why_kept" 477 123 3 241 242 0 243 244 245 483),
 (247,fo "why_kept" (top 37) zy 246),
 (253,cdo "first_leaving" 486 131 2 248 249 0 250 251 252 492),
 (254,fo "first_leaving" (top 38) zy 253),
 (260,cdo "is_still" 495 136 2 255 256 0 257 258 259 500),
 (261,fo "is_still" (top 39) zy 260),
 (265,cdo "chosen_by_all" 505 139 3 262 263 0 0 0 264 508),
 (266,fo "chosen_by_all" (top 41) zv 265),
 (270,cdo "limits" 511 145 1 267 268 0 0 0 269 514),
 (271,fo "limits" (top 42) zv 270),
 (277,cdo "lowered" 517 147 3 272 273 0 274 275 276 523),
 (278,fo "lowered" (top 43) zv 277),
 (284,cdo "refused" 526 149 2 279 280 0 281 282 283 535),
 (285,fo "refused" (top 44) zv 284),
 (291,cdo "steps" 538 156 1 286 287 0 288 289 290 545),
 (292,fo "steps" (top 45) zv 291),
 (298,cdo "capped" 548 165 2 293 294 0 295 296 297 556),
 (299,fo "capped" (top 46) zv 298),
 (305,cdo "givers_best" 559 170 1 300 301 0 302 303 304 563),
 (306,fo "givers_best" (top 47) zv 305),
 (312,cdo "takers_best" 566 173 1 307 308 0 309 310 311 571),
 (313,fo "takers_best" (top 48) zv 312),
 (317,cdo "greater" 576 177 2 314 315 0 0 0 316 579),
 (318,fo "greater" (top 50) Nm 317),
 (322,cdo "on_ways_of" 582 179 4 319 320 0 0 0 321 585),
 (323,fo "on_ways_of" (top 51) Nm 322),
 (329,cdo "rank" 588 181 4 324 325 0 326 327 328 595),
 (330,fo "rank" (top 52) Nm 329),
 (336,cdo "check_many" 602 187 1 331 332 0 333 334 335 608),
 (337,fo "check_many" (top 55) KF 336),
 (341,cdo "within_limits" 611 193 1 338 339 0 0 0 340 614),
 (342,fo "within_limits" (top 56) KF 341),
 (346,cdo "all_plans" 617 201 1 343 344 0 0 0 345 620),
 (347,fo "all_plans" (top 57) KF 346),
 (351,cdo "all_rests" 623 205 1 348 349 0 0 0 350 626),
 (352,fo "all_rests" (top 58) KF 351),
 (358,cdo "_law_cell" 631 208 2 353 354 0 355 356 357 636),
 (359,fo "_law_cell" (top 60) wK 358),
 (365,cdo "_law_drawn" 639 212 3 360 361 0 362 363 364 646),
 (366,fo "_law_drawn" (top 61) wK 365),
 (372,cdo "_law_orders" 649 216 3 367 368 0 369 370 371 661),
 (373,fo "_law_orders" (top 62) wK 372),
 (377,cdo "_law_world" 664 224 3 374 375 0 0 0 376 667),
 (378,fo "_law_world" (top 63) wK 377),
 (382,cdo "_law_used" 670 240 4 379 380 0 0 0 381 673),
 (383,fo "_law_used" (top 64) wK 382),
 (389,cdo "_law_fits" 676 242 2 384 385 0 386 387 388 684),
 (390,fo "_law_fits" (top 65) wK 389),
 (394,cdo "_law_plans" 687 248 1 391 392 0 0 0 393 690),
 (395,fo "_law_plans" (top 66) wK 394),
 (401,cdo "_law_plan" 693 256 3 396 397 0 398 399 400 704),
 (402,fo "_law_plan" (top 67) wK 401),
 (406,cdo "law" 707 263 1 403 404 0 0 0 405 710),
 (407,fo "law" (top 68) wK 406)]
def hk:W.Hook:=W.kmHook Kf [3,81,82,88,89,95,96,100,101,107,108,114,115,119,120,124,125,129,130,134,135,139,140,144,145,151,152,158,159,165,166,172,173,179,180,186,187,193,194,200,201,205,206,210,211,217,218,224,225,229,230,234,235,239,240,246,247,253,254,260,261,265,266,270,271,277,278,284,285,291,292,298,299,305,306,312,313,317,318,322,323,329,330,336,337,341,342,346,347,351,352,358,359,365,366,372,373,377,378,382,383,389,390,394,395,401,402,406,407] (fun _=>rfl) [196,227]
abbrev rn(w:World):=openEnds treeTable PySem.Challenge.pw_stillflow_k42_whole_ranks w 6000
abbrev sn(s:Shared):=openSeen vw [] (importedModules PySem.Challenge.pw_stillflow_k42_whole_ranks.main.body) (fun s=>xlAt vw [] s&&recOk [] s) true s
abbrev gd:=openGood vw []
theorem Qs(w:World):(rn w).map (fun s=>(sn s).1)=some (gd.1):=by kernel_rfl
theorem Qi(w:World):(rn w).map (fun s=>(sn s).2.1)=some (gd.2.1):=by kernel_rfl
theorem Qq(w:World):(rn w).map (fun s=>(sn s).2.2.1)=some (gd.2.2.1):=by kernel_rfl
theorem Qu(w:World):(rn w).map (fun s=>((sn s).2.2.2.1,(sn s).2.2.2.2.1))=some ((gd.2.2.2.1,gd.2.2.2.2.1)):=by kernel_rfl
theorem Qr(w:World):(rn w).map (fun s=>(sn s).2.2.2.2.2.1)=some (gd.2.2.2.2.2.1):=by kernel_rfl
theorem Qm(w:World):(rn w).map (fun s=>(sn s).2.2.2.2.2.2)=some (gd.2.2.2.2.2.2):=by kernel_rfl
theorem Qn(w:World):(rn w).map (fun s=>hk.obs s)=some (hk.val w):=by kernel_rfl
theorem left:LeftO PySem.Challenge.pw_stillflow_k42_whole_ranks vw [] (fun s=>xlAt vw [] s&&recOk [] s) hk.obs hk.val 6000:=fun w=>lf_all (Qs w) (Qi w) (Qq w) (Qu w) (Qr w) (Qm w) (Qn w)
theorem Pt:PySem.Challenge.rw_stillflow_k42_whole_ranks.wellSaid=true:=by kernel_rfl
end K42
namespace L2
open PySem PySem.Spec PyProof.Rows
abbrev zu:=Sum Int Str
def KD:zu->Value->Bool
 | .inl k,v=>Value.isInt k v
 | .inr x,v=>Value.isStrOf x v
def Pm(w:World):zu->Int
 | .inl k=>hashInt k
 | .inr x=>hashStr w x
theorem bV:∀ {k:zu}{v:Value},KD k v=true->(∃i t,k=Sum.inl i/\v=Value.int i t)\/(∃x t,k=Sum.inr x/\v=Value.str x t)
 | .inl i,v,h=>by
  obtain⟨t,e⟩:=Value.isInt_shape (k:=i) (v:=v) h
  exact .inl ⟨i,t,rfl,e⟩
 | .inr x,v,h=>by
  obtain⟨t,e⟩:=Value.isStrOf_shape (x:=x) (v:=v) h
  exact .inr ⟨x,t,rfl,e⟩
theorem LJ(a b:Int):decide ((Sum.inl a:zu)=Sum.inl b)=(a == b):=by
 by_cases e:a=b
 ·subst e;simp
 ·have h:¬ (Sum.inl a:zu)=Sum.inl b:=fun q=>e (Sum.inl.inj q)
  rw[yA h]
  exact (beq_eq_false_iff_ne.mpr e).symm
theorem K5(a b:Str):decide ((Sum.inr a:zu)=Sum.inr b)=decide (a=b):=by
 by_cases e:a=b
 ·subst e;simp
 ·have h:¬ (Sum.inr a:zu)=Sum.inr b:=fun q=>e (Sum.inr.inj q)
  rw[yA h,yA e]
theorem Mp(a:Int)(b:Str):decide ((Sum.inl a:zu)=Sum.inr b)=false:=yA (fun q=>nomatch q)
theorem Lq(a:Str)(b:Int):decide ((Sum.inr a:zu)=Sum.inl b)=false:=yA (fun q=>nomatch q)
def CP(prog:Program)(w:World):PySem.KeyKind prog w zu where
 is:=KD
 hash:=Pm w
 inj:=fun v a b ha hb=>by
  rcases bV ha with ⟨i,t,rfl,rfl⟩|⟨x,t,rfl,rfl⟩
  ·rcases bV hb with ⟨j,u,rfl,e⟩|⟨y,u,rfl,e⟩
   ·injection e with e1 _;rw[e1]
   ·exact nomatch e
  ·rcases bV hb with ⟨j,u,rfl,e⟩|⟨y,u,rfl,e⟩
   ·exact nomatch e
   ·injection e with e1 _;rw[e1]
 byValue:=fun k v h=>by
  rcases bV h with ⟨i,t,rfl,rfl⟩|⟨x,t,rfl,rfl⟩<;>rfl
 pyHash:=fun hv h=>by
  rcases bV hv with ⟨i,t,rfl,rfl⟩|⟨x,t,rfl,rfl⟩
  ·exact wpAny_pyHash_int h
  ·exact wpAny_pyHash_str h
 eqBool:=fun hu hv h=>by
  rcases bV hu with ⟨i,t,rfl,rfl⟩|⟨x,t,rfl,rfl⟩
  ·rcases bV hv with ⟨j,u,rfl,rfl⟩|⟨y,u,rfl,rfl⟩
   ·rw[LJ] at h;exact wpAny_eqBool_int h
   ·rw[Mp] at h;exact SeqAt.EqAt.int_str i t y u _ _ _ _ h
  ·rcases bV hv with ⟨j,u,rfl,rfl⟩|⟨y,u,rfl,rfl⟩
   ·rw[Lq] at h;exact SeqAt.EqAt.str_int x t j u _ _ _ _ h
   ·rw[K5] at h;exact wpAny_eqBool_str h
 «strs»:=fun k x t v h=>by
  rcases bV h with ⟨i,u,rfl,e⟩|⟨y,u,rfl,e⟩
  ·exact nomatch e
  ·injection e with e1 _
   subst e1
   cases v<;>rfl
inductive V where
 | non|bl (b:Bool)|int (i:Int)|str (x:Str)|byt (b:Array UInt8)|flt (b:UInt64)|ref (a:Addr)|ty (n:String)
 deriving DecidableEq
def RelV:V->Value->Prop
 | .non,u=>u=Value.none
 | .bl b,u=>u=Value.bool b
 | .int i,u=>∃t,u=Value.int i t
 | .str x,u=>∃t,u=Value.str x t
 | .byt b,u=>∃t,u=Value.bytes b t
 | .flt b,u=>∃t,u=Value.float b t
 | .ref a,u=>u=Value.ref a
 | .ty n,u=>u=Value.type n
abbrev aH:List V->List Value->Prop:=Paired RelV
theorem aH.length{xs:List V}{us:List Value}(r:aH xs us):xs.length=us.length:=Paired.length r
theorem aH.get:∀ {xs:List V}{us:List Value}{i:Nat}{x:V},aH xs us->xs[i]?=some x->∃u,us[i]?=some u/\RelV x u
 | _,_,_,_,.nil,e=>by simp at e
 | _,_,0,_,.cons r _,e=>by simp at e;subst e;exact⟨_,rfl,r⟩
 | _,_,i+1,x,.cons _ t,e=>by
  obtain⟨u,h1,h2⟩:=aH.get (i:=i) (x:=x) t (by simpa using e)
  exact⟨u,by simpa using h1,h2⟩
theorem aH.set{x:V}{u:Value}(r:RelV x u):∀ {xs:List V}{us:List Value}(i:Nat),aH xs us->aH (xs.set i x) (us.set i u)
 | _,_,_,.nil=>.nil
 | _,_,0,.cons _ t=>.cons r t
 | _,_,i+1,.cons q t=>.cons q (aH.set r i t)
theorem aH.append:∀ {xs ys:List V}{us ws:List Value},aH xs us->aH ys ws->aH (xs++ys) (us++ws)
 | _,_,_,_,.nil,s=>s
 | _,_,_,_,.cons r t,s=>.cons r (aH.append t s)
theorem aH.take:∀ {xs:List V}{us:List Value}(n:Nat),aH xs us->aH (xs.take n) (us.take n)
 | _,_,0,_=>.nil
 | _,_,_+1,.nil=>.nil
 | _,_,n+1,.cons r t=>.cons r (aH.take n t)
theorem aH.drop:∀ {xs:List V}{us:List Value}(n:Nat),aH xs us->aH (xs.drop n) (us.drop n)
 | _,_,0,r=>r
 | _,_,_+1,.nil=>.nil
 | _,_,n+1,.cons _ t=>aH.drop n t
def OA:Option V->Option Value->Prop
 | some v,some u=>RelV v u
 | none,none=>True
 | _,_=>False
def KV{κ:Type}:List (κ×V)->List (κ×Value)->Prop:=Paired fun (p:κ×V) (q:κ×Value)=>p.1=q.1/\RelV p.2 q.2
def kV:zu->V
 | .inl i=>.int i
 | .inr x=>.str x
inductive HO where
  | lst (xs:List V)
  | tup (xs:List V)
  | dK (kvs:List (zu×V))|dT (kvs:List (List zu×V))
  | set (S:Int->Bool) (n:Nat)
  | ins (C dx:Addr) (fs:List (Str×V))
  | own (x:Addr)
  | xd (fs:List (Str×V))
  | met (f x:Addr)
  | rng (lo hi:Int)
  | frz (o:Obj) (u:HO)
  | tab (q:Str)
 | cod (q:Str)
  | ext (φ:Heap->Prop)
abbrev Hp:=Addr->Option HO
def upd(H:Hp)(a:Addr)(o:HO):Hp:=fun b=>if b=a then some o else H b
theorem aL{H:Hp}{a:Addr}{o:HO}:upd H a o a=some o:=by unfold upd;rw[if_pos rfl]
theorem aE{H:Hp}{a b:Addr}{o:HO}(h:b≠a):upd H a o b=H b:=by unfold upd;rw[if_neg h]
theorem aP{H:Hp}{a b:Addr}{o:HO}(h:H a=some o)(h':H b=none):a≠b:=by
 intro e;subst e;rw[h] at h';cases h'
def rF(h:Heap)(a:Addr)(its:Array Value):Prop:=IsTup h a its/\∃o,h.get? a=some o/\o.dict=none
theorem rF.new(h:Heap)(its:Array Value):rF (h.push { cls:=.type "tuple",data:=.seq its }) h.objs.size its:=⟨IsTup.new _ _,_,zY _ rfl,rfl⟩
section
variable (P:Program) (w:World)
def gf(H:Hp)(h:Heap)(a:Addr):HO->Prop
 | .lst xs=>xs.length<=sizeLine/\∃ (its:List Value) (n:Nat),aH xs its/\h.get? a=some { cls:=.type "list",data:=.seq its.toArray n }
 | .tup xs=>xs.length<=sizeLine/\∃its:List Value,aH xs its/\rF h a its.toArray
 | .dK kvs=>kvs.length<=sizeLine/\(a == sysModules)=false/\∃vs,KV kvs vs/\h.DictOf (CP P w) a vs
 | .dT kvs=>kvs.length<=sizeLine/\(a == sysModules)=false/\∃xs:List (List zu×Addr×Value),
   Paired (fun (p:List zu×V) (q:List zu×Addr×Value)=>p.1=q.1/\H q.2.1=some (.tup (p.1.map kV))/\RelV p.2 q.2.2) kvs xs /\
   ∃o es ep,h.get? a=some o/\o.ExactDict/\o.data=.dict es ep/\es.toList=xs.map (entryOfKey (tupleKind (CP P w)))/\(xs.map (·.1)).Nodup
 | .set S n=>h.SetOf (intKind P w) a S n
 | .ins C dx fs=>H dx=some (.own a)/\fs.length<=1000/\dx≠a/\h.get? a=some (W.instObj C dx) /\
   ∃mA,h.Ns1 dx mA/\(∀f,OA (fs.lookup f) (mA f))/\PySem.Within mA (fs.map (·.1))
 | .own _=>∃o,h.get? a=some o
 | .xd fs=>∃mA,h.Ns1 a mA/\∀f,OA (fs.lookup f) (mA f)
 | .rng lo hi=>∃t u v,h.get? a=some { cls:=.type "range",data:=.fields #[.int lo t,.int hi u,.int 1 v] }
 | .frz o u=>h.get? a=some o/\gf H h a u
 | .tab q=>∃ps:Array Value,h.get? a=some { cls:=.none,data:=.fields ps }/\TriplesOk ps.toList/\∀pos v,codeAmong pos ps.toList=some v->∃c,v=.ref c/\H c=some (.cod q)
 | .cod q=>h.CodeRec (.ref a) q
 | .met f x=>h.get? a=some (W.methodObj (.ref f) (.ref x))
 | .ext φ=>φ h/\(∃o,h.get? a=some o)/\∀h1 h2:Heap,φ h1->(∀o,h1.get? a=some o->h2.get? a=some o)->φ h2
def pW(H:Hp)(h:Heap):Prop:=∀a o,H a=some o->gf P w H h a o
end
section
variable {P:Program}{w:World}{H H':Hp}{h h':Heap}{a:Addr}{o:HO}
theorem gf.lt(x:gf P w H h a o):a < h.objs.size:=by
 cases o with
 | lst xs=>obtain⟨_,_,_,_,e⟩:=x;exact zZ e
 | tup xs=>obtain⟨_,_,_,p⟩:=x;exact p.1.lt
 | dK kvs=>obtain⟨_,_,_,_,o,_,_,e,_⟩:=x;exact zZ e
 | dT kvs=>obtain⟨_,_,_,_,o,_,_,e,_⟩:=x;exact zZ e
 | set S n=>obtain⟨o,_,_,_,e,_⟩:=x;exact zZ e
 | ins C dx fs=>obtain⟨_,_,_,e,_⟩:=x;exact zZ e
 | own y=>obtain⟨_,e⟩:=x;exact zZ e
 | xd fs=>obtain⟨_,⟨_,_,_,e,_⟩,_⟩:=x;exact zZ e
 | rng lo hi=>obtain⟨_,_,_,e⟩:=x;exact zZ e
 | frz ob u=>obtain⟨e,_⟩:=x;exact zZ e
 | tab q=>obtain⟨_,e,_⟩:=x;exact zZ e
 | cod q=>obtain⟨_,_,_,_,e0,e,_⟩:=x;cases e0;exact zZ e
 | met f y=>exact zZ (show h.get? a=some _ from x)
 | ext φ=>obtain⟨_,⟨_,e⟩,_⟩:=x;exact zZ e
theorem Paired.mapP{α β:Type}{F G:α->β->Prop}:∀ {l₁:List α}{l₂:List β},Paired F l₁ l₂->(∀a b,F a b->G a b)->Paired G l₁ l₂
 | _,_,.nil,_=>.nil
 | _,_,.cons r t,f=>.cons (f _ _ r) (Paired.mapP t f)
def Qb:HO->Prop
 | .tup _=>True
 | .cod _=>True
 | _=>False
theorem gf.stay(x:gf P w H h a o)(k:∀b u,(b=a\/H b=some (.own a))->h.get? b=some u->h'.get? b=some u)
  (ho:∀b,H b=some (.own a)->H' b=some (.own a)) (ht:∀b u,H b=some u->Qb u->H' b=some u):gf P w H' h' a o:=by
 induction o with
 | lst xs=>obtain⟨z,its,n,r,e⟩:=x;exact⟨z,its,n,r,k _ _ (.inl rfl) e⟩
 | tup xs=>obtain⟨z,its,r,⟨ob,e,c⟩,o2,e2,d2⟩:=x;exact⟨z,its,r,⟨ob,k _ _ (.inl rfl) e,c⟩,o2,k _ _ (.inl rfl) e2,d2⟩
 | dK kvs=>obtain⟨z,y,vs,r,ob,es,ep,e,c⟩:=x;exact⟨z,y,vs,r,ob,es,ep,k _ _ (.inl rfl) e,c⟩
 | dT kvs =>
  obtain⟨z,y,xs,r,ob,es,ep,e,c⟩:=x
  exact⟨z,y,xs,Paired.mapP r fun p q z=>⟨z.1,ht _ _ z.2.1 trivial,z.2.2⟩,ob,es,ep,k _ _ (.inl rfl) e,c⟩
 | set S n=>obtain⟨ob,es,ep,t,e,c⟩:=x;exact⟨ob,es,ep,t,k _ _ (.inl rfl) e,c⟩
 | ins C dx fs =>
  obtain⟨d,z,ne,e,mA,⟨od,es,ep,e2,c⟩,r⟩:=x
  exact⟨ho _ d,z,ne,k _ _ (.inl rfl) e,mA,⟨od,es,ep,k _ _ (.inr d) e2,c⟩,r⟩
 | own y=>obtain⟨ob,e⟩:=x;exact⟨ob,k _ _ (.inl rfl) e⟩
 | xd fs=>obtain⟨mA,⟨od,es,ep,e,c⟩,r⟩:=x;exact⟨mA,⟨od,es,ep,k _ _ (.inl rfl) e,c⟩,r⟩
 | rng lo hi=>obtain⟨t,u,v,e⟩:=x;exact⟨t,u,v,k _ _ (.inl rfl) e⟩
 | frz ob u ih=>obtain⟨e,q⟩:=x;exact⟨k _ _ (.inl rfl) e,ih q⟩
 | tab q=>obtain⟨ps,e,t,c⟩:=x;exact⟨ps,k a _ (.inl rfl) e,t,fun pos v z=>let ⟨c0,z1,z2⟩:=c pos v z;⟨c0,z1,ht _ _ z2 trivial⟩⟩
 | cod q=>obtain⟨c,oc,vs,t,e0,e,r⟩:=x;cases e0;exact⟨_,oc,vs,t,rfl,k _ _ (.inl rfl) e,r⟩
 | met f y =>
  have e:h.get? a=some (W.methodObj (.ref f) (.ref y)):=x
  show h'.get? a=some (W.methodObj (.ref f) (.ref y))
  exact k a _ (.inl rfl) e
 | ext φ=>obtain⟨p,⟨o,e⟩,st⟩:=x;exact⟨st _ _ p fun o q=>k _ _ (.inl rfl) q,⟨o,k _ _ (.inl rfl) e⟩,st⟩
theorem pW.lt(x:pW P w H h)(e:H a=some o):a < h.objs.size:=(x a o e).lt
theorem pW.fresh(x:pW P w H h)(e:h.objs.size<=a):H a=none:=by
 cases q:H a with
 | none=>rfl
 | some u=>exact absurd (zP (x.lt q) e) (Nat.lt_irrefl _)
theorem pW.kept(x:pW P w H h)(k:∀b u,h.get? b=some u->h'.get? b=some u):pW P w H h':=fun a o e =>
 (x a o e).stay (fun b u _ q=>k b u q) (fun _ q=>q) fun _ _ q _=>q
theorem pW.laid(x:pW P w H h)(k:∀b u,h.get? b=some u->h'.get? b=some u)(hp:h.objs.size<=a)(new:gf P w (upd H a o) h' a o):pW P w (upd H a o) h':=fun b u e=>by
 have hn:=x.fresh hp
 by_cases hb:b=a
 ·subst hb;rw[aL] at e;cases e;exact new
 ·rw[aE hb] at e
  exact (x b u e).stay (fun c v _ q=>k c v q) (fun c q=>by rw[aE (aP q hn)];exact q) fun c xs q _=>by rw[aE (aP q hn)];exact q
end
def Rd(H:Hp)(a:Addr)(u:HO):Prop:=H a=some u\/∃o,H a=some (.frz o u)
theorem Rd.ok{P:Program}{w:World}{H:Hp}{h:Heap}{a:Addr}{u:HO}(r:Rd H a u)(x:pW P w H h):gf P w H h a u:=by
 rcases r with r|⟨o,r⟩
 ·exact x a u r
 ·obtain⟨_,q⟩:=x a _ r
  exact q
def OD:Option HO->Prop
 | some (.lst _)=>True
 | some (.dK _)=>True
 | some (.dT _)=>True
 | some (.set _ _)=>True
 | some (.ins _ _ _)=>True
 | some (.ext _)=>True
 | _=>False
section
variable {P:Program}{w:World}{H:Hp}{h h':Heap}{x e:Addr}{o':HO}
theorem pW.write(ok:pW P w H h)(mu:OD (H x))(he:e=x\/H e=some (.own x))(k:∀b u,b≠e->h.get? b=some u->h'.get? b=some u)(heo:∃u,h'.get? e=some u)
  (new:gf P w (upd H x o') h' x o'):pW P w (upd H x o') h':=fun b u q=>by
 have nown:∀c y,H c=some (.own y)->c≠x:=fun c y r z=>by subst z;rw[r] at mu;exact mu
 have ntup:∀c u,H c=some u->Qb u->c≠x:=fun c u r hr z=>by subst z;rw[r] at mu;cases u<;>first|exact mu|exact hr
 by_cases hb:b=x
 ·subst hb;rw[aL] at q;cases q;exact new
 ·rw[aE hb] at q
  by_cases hbe:b=e
  ·have q':H b=some (.own x):=by
    rcases he with z|z
    ·exact absurd (hbe.trans z) hb
    ·rw[hbe];exact z
   rw[q] at q';cases q'
   obtain⟨v,hv⟩:=heo
   exact⟨v,by rw[hbe];exact hv⟩
  ·refine (ok b u q).stay (fun c v hc r=>k c v ?_ r) (fun c r=>by rw[aE (nown c b r)];exact r) fun c xs r hr=>by rw[aE (ntup c xs r hr)];exact r
   rcases hc with rfl|hc
   ·exact hbe
   ·rintro rfl
    rcases he with z|z
    ·exact nown c b hc z
    ·rw[hc] at z;cases z;exact hb rfl
end
def OT:HO->Prop
 | .tab _=>True
 | .cod _=>True
 | _=>False
theorem OT.not_mut{u:HO}(h:OT u):¬ OD (some u):=by cases u<;>first|exact fun z=>z|exact h.elim
structure KW(H H':Hp)(h h':Heap):Prop where
 st:∀b u,H b=some u->OT u->H' b=some u
 gr:∀b q ps,H b=some (.tab q)->h.get? b=some { cls:=.none,data:=.fields ps }->∃more:Array Value,h'.get? b=some { cls:=.none,data:=.fields (ps++more) }
theorem KW.kept{H H':Hp}{h h':Heap}(k:∀b u,(∃q,H b=some (.tab q))->h.get? b=some u->h'.get? b=some u)(st:∀b u,H b=some u->OT u->H' b=some u):KW H H' h h' :=
 ⟨st,fun b q ps e z=>⟨#[],by rw[Array.append_empty];exact k b _ ⟨q,e⟩ z⟩⟩
theorem KW.trans{H H1 H2:Hp}{h h1 h2:Heap}(a:KW H H1 h h1)(b:KW H1 H2 h1 h2):KW H H2 h h2 :=
 ⟨fun c u q t=>b.st c u (a.st c u q t) t,fun c q ps e z=>by
  obtain⟨m1,z1⟩:=a.gr c q ps e z
  obtain⟨m2,z2⟩:=b.gr c q _ (a.st c _ e trivial) z1
  exact⟨m1++m2,by rw[z2,Array.append_assoc]⟩⟩
structure Un(fs ex:List Addr)(H H':Hp)(h h':Heap):Prop where
 keep:∀b o,h.get? b=some o->H b=none->b∉fs->b∉ex->h'.get? b=some o
 slot:∀b o,h.get? b=some o->H b=none->b∈fs->b∉ex->∃sl,h'.get? b=some { o with slots:=sl }
 free:∀b o,h.get? b=some o->H b=none->b∉ex->H' b=none
 there:∀b o,h.get? b=some o->b∉ex->∃o',h'.get? b=some o'
 tups:∀b xs,H b=some (.tup xs)->H' b=some (.tup xs)
 frzs:∀b o u,H b=some (.frz o u)->H' b=some (.frz o u)
 tbls:KW H H' h h'
section
variable {fs fs' ex ex':List Addr}{H H1 H2:Hp}{h h1 h2 h':Heap}{a x e:Addr}{o:HO}
theorem Un.any(u:Un fs ex H H1 h h1){b:Addr}{ob:Obj}(q:h.get? b=some ob)(n:H b=none)(hx:b∉ex):∃sl,h1.get? b=some { ob with slots:=sl }:=by
 by_cases hb:b∈fs
 ·exact u.slot b ob q n hb hx
 ·exact⟨ob.slots,u.keep b ob q n hb hx⟩
theorem Un.kept(k:∀b u,h.get? b=some u->h'.get? b=some u):Un fs ex H H h h' :=
 ⟨fun b ob q _ _ _=>k b ob q,fun b ob q _ _ _=>⟨ob.slots,k b ob q⟩,fun _ _ _ n _=>n,fun b ob q _=>⟨ob,k b ob q⟩,fun _ _ q=>q,fun _ _ _ q=>q,.kept (fun b u _ e=>k b u e) fun _ _ e _=>e⟩
theorem Un.refl:Un fs ex H H h h:=Un.kept fun _ _ q=>q
theorem Un.laid(k:∀b u,h.get? b=some u->h'.get? b=some u)(hp:h.objs.size<=a)(hn:H a=none):Un fs ex H (upd H a o) h h' where
 keep:=fun b u q _ _ _=>k b u q
 slot:=fun b u q _ _ _=>⟨u.slots,k b u q⟩
 free:=fun b u q n _=>by rw[aE (zzB (zP (zZ q) hp))];exact n
 there:=fun b u q _=>⟨u,k b u q⟩
 tups:=fun b xs q=>by rw[aE (aP q hn)];exact q
 frzs:=fun b u xs q=>by rw[aE (aP q hn)];exact q
 tbls:=.kept (fun b u _ e=>k b u e) fun b u q _=>by rw[aE (aP q hn)];exact q
theorem Un.write(mu:OD (H x))(he:e=x\/H e=some (.own x))(k:∀b u,b≠e->h.get? b=some u->h'.get? b=some u)(heo:∃u,h'.get? e=some u):Un fs ex H (upd H x o) h h':=by
 have hx:∀b,H b=none->b≠x:=fun b n z=>by subst z;rw[n] at mu;exact mu
 have hb:∀b,H b=none->b≠e:=fun b n z=>by
  subst z
  rcases he with r|r
  ·exact hx b n r
  ·rw[n] at r;cases r
 have hm:∀b u,H b=some u->¬ OD (some u)->b≠x:=fun b u q nm z=>by subst z;rw[q] at mu;exact nm mu
 refine⟨fun b u q n _ _=>k b u (hb b n) q,fun b u q n _ _=>⟨u.slots,k b u (hb b n) q⟩,fun b u q n _=>by rw[aE (hx b n)];exact n,fun b u q _=>?_,
  fun b xs q=>by rw[aE (hm b _ q fun z=>z)];exact q,fun b u xs q=>by rw[aE (hm b _ q fun z=>z)];exact q,.kept (fun b u z e=>k b u (fun r=>by subst r;rcases he with r|r<;>first|(subst r;rcases z with ⟨q,z⟩;rw[z] at mu;exact mu)|(rcases z with ⟨q,z⟩;rw[z] at r;cases r)) e) fun b u q nm=>by rw[aE (hm b _ q (nm.not_mut))];exact q⟩
 by_cases hbe:b=e
 ·subst hbe;exact heo
 ·exact⟨u,k b u hbe q⟩
end
def OJ(h:Heap)(H:Hp):List Addr:=(List.range h.objs.size).filter fun a=>(H a).isSome
def vA(h:Heap)(H:Hp):Heap:=W.hideAll h (OJ h H)
theorem Er(h:Heap)(H:Hp):(vA h H).objs.size=h.objs.size:=W.hideAll_size _ _
theorem EY{h:Heap}{H:Hp}{b:Addr}{o:Obj}(e:h.get? b=some o)(n:H b=none):(vA h H).get? b=some o :=
 W.hideAll_get _ e fun hm=>by
  have q:(H b).isSome=true:=(List.mem_filter.mp hm).2
  rw[n] at q;simp at q
theorem JF{h:Heap}{H:Hp}{b:Addr}{o:Obj}(e:(vA h H).get? b=some o):h.get? b=some o/\H b=none:=by
 have e':h.get? b=some o:=W.of_hideAll (OJ h H) e
 refine⟨e',?_⟩
 cases q:H b with
 | none=>rfl
 | some x =>
  have hm:b∈OJ h H:=List.mem_filter.mpr ⟨zT.mpr (zZ e'),by simp[q]⟩
  have z:(vA h H).get? b=none:=W.hideAll_none (OJ h H) hm
  rw[z] at e;cases e
def OU(mg:Str->Option Value)(base:Heap):Prop:=∃bm o,mg "__builtins__"=some (.ref bm)/\bm≠builtinsNs/\bm≠mainGlobals/\base.get? bm=some o/\o.cls=.type "module"/\o.dict=some builtinsNs/\o.data=.plain
structure Mod(K:W.Frag)(mg:Str->Option Value)(base:Heap):Prop where
 kin:K.In base
 glob:base.Ns mainGlobals mg
 blt:∃mb,base.Ns builtinsNs mb/\∀x:Str,x≠"__name__"->mb x=bootBuiltins x
 nolimit:base.NoLimit
 bmd:OU mg base
structure Cx where
 prog:Program
 w:World
 K:W.Frag
 mg:Str->Option Value
 base:Heap
 A:Around
 N:List Str
 s₀:Shared
 H₀:Hp
 env:Env
 outer:List Env
 stack:List Env
 ex:List Addr
 fn:Str->Bool
 calm:Bool
 pn:List (Addr×Obj)
 xe:Value->Shared->Prop
def Ff(l:List Env):List Addr:=l.filterMap (·.frame)
abbrev Cx.fs(X:Cx):List Addr:=Ff X.outer
def Kq(sc:Scope)(x:Str):Prop:=sc.names.lookup x=some .local \/ sc.names.lookup x=some .cell\/sc.names.lookup x=some .free
def Loc(sc:Scope)(x:Str):Prop:=sc.names.lookup x=some .local \/ sc.names.lookup x=some .cell
def Look(env:Env)(h:Heap)(m:Str->Option Value)(x:Str)(u:Value):Prop :=
 (env.kindOf x=some .local /\ m x=some u)\/((env.kindOf x=some .cell\/env.kindOf x=some .free)/\∃c,env.cells.lookup x=some c/\h.IsCell c (some u))
structure Cx.Ok(X:Cx):Prop where
 mod:Mod X.K X.mg X.base
 kind:X.env.scope.kind=.function
 glob:X.env.globals=mainGlobals
 blt:X.env.builtins=builtinsNs
 above:X.s₀.heap.objs.size<=X.env.locals
 inj:∀x y c,X.env.cells.lookup x=some c->X.env.cells.lookup y=some c->x=y
 has:∀x,(X.env.kindOf x=some .cell\/X.env.kindOf x=some .free)->∃c,X.env.cells.lookup x=some c
 cab:∀x c,X.fn x=true->X.env.cells.lookup x=some c->X.s₀.heap.objs.size<=c
 hd:X.calm=true->X.A.handled=none
 frames:X.A.frames=some X.stack
 stk:X.stack=X.outer\/(X.stack=X.env::X.outer/\X.env.frame=some X.env.locals)
 exf:∀b∈X.ex,b≠X.env.locals/\∀x c,X.env.cells.lookup x=some c->c≠b
 bs:∀b o,X.base.get? b=some o->X.s₀.heap.get? b=some o/\X.H₀ b=none
 bsz:X.base.objs.size<=X.s₀.heap.objs.size
 noex:∀b o,X.base.get? b=some o->b∉X.ex
 exfs:∀b∈X.ex,b∉X.fs
 funs:X.s₀.heap.FunFrames X.base X.outer
 frf:∀b∈X.fs,X.H₀ b=none
structure Inv(X:Cx)(pins:List (Addr×Obj))(σ:List (Option V))(H:Hp)(s:Shared):Prop where
 ok:X.Ok
 os:s.os=X.s₀.os
 bare:AllBare s.gens
 base:Un X.fs X.ex X.H₀ H X.s₀.heap s.heap
 loc:∃m,s.heap.Ns X.env.locals m/\∀ (i:Nat) (x:Str) (v:V),X.N[i]?=some x->σ[i]?=some (some v)->Kq X.env.scope x->∃u,RelV v u/\Look X.env s.heap m x u
 cell:∀x c,X.env.cells.lookup x=some c->∃v,s.heap.IsCell c v
 free:H X.env.locals=none
 freeC:∀x c,X.env.cells.lookup x=some c->H c=none
 pin:∀p∈X.pn++pins,s.heap.get? p.1=some p.2/\H p.1=none/\p.1≠X.env.locals/\p.1∉X.fs/\∀v,p.2.data≠.cell v
 hok:pW X.prog X.w H s.heap
 len:σ.length=X.N.length
section
variable {X:Cx}{pins:List (Addr×Obj)}{σ:List (Option V)}{H H':Hp}{s:Shared}{h':Heap}
theorem Cx.Ok.nofr(ok:X.Ok){b:Addr}{o:Obj}(e:X.base.get? b=some o):b∉X.fs:=fun hb=>by
 have:=(ok.funs.mem hb).1
 rw[e] at this;cases this
theorem Inv.bs(I:Inv X pins σ H s):∀b o,X.base.get? b=some o->s.heap.get? b=some o/\H b=none:=fun b o e =>
 ⟨I.base.keep b o (I.ok.bs b o e).1 (I.ok.bs b o e).2 (I.ok.nofr e) (I.ok.noex b o e),I.base.free b o (I.ok.bs b o e).1 (I.ok.bs b o e).2 (I.ok.noex b o e)⟩
theorem Inv.bk(I:Inv X pins σ H s):∀b o,X.base.get? b=some o->s.heap.get? b=some o:=fun b o e=>(I.bs b o e).1
theorem Inv.mod(I:Inv X pins σ H s):Mod X.K X.mg X.base:=I.ok.mod
theorem Inv.kIn(I:Inv X pins σ H s):X.K.In s.heap:=I.ok.mod.kin.keeps I.bk
theorem Inv.nolimit(I:Inv X pins σ H s):s.heap.NoLimit:=I.ok.mod.nolimit.keeps I.bk
theorem Inv.lt(I:Inv X pins σ H s):X.env.locals < s.heap.objs.size:=let ⟨_,hn,_⟩:=I.loc;hn.lt
theorem Inv.sz(I:Inv X pins σ H s):X.s₀.heap.objs.size<=s.heap.objs.size:=yE I.ok.above (Nat.le_of_lt I.lt)
theorem Inv.nofs(I:Inv X pins σ H s){a:Addr}(h:s.heap.objs.size<=a):a∉X.fs:=fun hb=>by
 obtain⟨_,o,ho,_⟩:=I.ok.funs.mem hb
 exact absurd (zP (zZ ho) (yE I.sz h)) (Nat.lt_irrefl _)
theorem Inv.cne(I:Inv X pins σ H s):∀x c,X.env.cells.lookup x=some c->c≠X.env.locals:=fun x c e z=>by
 obtain⟨v,o,ho,hd⟩:=I.cell x c e
 obtain⟨m,⟨o',es,ep,ho',hd',_⟩,_⟩:=I.loc
 rw[z,ho'] at ho;cases ho;rw[hd'] at hd;cases hd
theorem Inv.funs(I:Inv X pins σ H s):s.heap.FunFrames X.base X.outer:=by
 have all:∀ (l:List Env),(∀b∈Ff l,b∈X.fs)->X.s₀.heap.FunFrames X.base l->s.heap.FunFrames X.base l:=by
  intro l
  induction l with
  | nil=>intro _ _;trivial
  | cons env r ih =>
   intro hs hl
   obtain⟨hk,⟨L,o,hf,hn,ho,hd⟩,hr⟩:=hl
   have hL:L∈X.fs:=hs L (by unfold Ff;rw[List.filterMap_cons,hf];exact zE)
   obtain⟨sl,e⟩:=I.base.slot L o ho (I.ok.frf L hL) hL fun z=>I.ok.exfs L z hL
   exact⟨hk,⟨L,_,hf,hn,e,hd⟩,ih (fun b hb=>hs b (by unfold Ff;rw[List.filterMap_cons,hf];exact zC _ hb)) hr⟩
 exact all X.outer (fun _ hb=>hb) I.ok.funs
theorem Inv.stack(I:Inv X pins σ H s):s.heap.FunFrames X.base X.stack:=by
 rcases I.ok.stk with e|⟨e,hf⟩
 ·rw[e];exact I.funs
 ·rw[e]
  obtain⟨m,hn,_⟩:=I.loc
  refine .cons (by rw[I.ok.kind];decide) hf hn ?_ I.funs
  exact Heap.get?_none_of_le (yE I.ok.bsz I.ok.above)
theorem Inv.stkSub(I:Inv X pins σ H s):∀b∈Ff X.stack,b∈X.env.locals::X.fs:=fun b hb=>by
 rcases I.ok.stk with e|⟨e,hf⟩
 ·rw[e] at hb;exact zC _ hb
 ·rw[e] at hb
  unfold Ff at hb
  rw[List.filterMap_cons,hf] at hb
  exact hb
theorem Inv.stkFree(I:Inv X pins σ H s):∀b∈Ff X.stack,H b=none:=fun b hb=>by
 rcases zR.mp (I.stkSub b hb) with e|hb
 ·rw[e];exact I.free
 ·obtain⟨_,o,ho,_⟩:=I.ok.funs.mem hb
  exact I.base.free b o ho (I.ok.frf b hb) fun z=>I.ok.exfs b z hb
theorem Inv.step{g':Array GenState}{t':Nat}{d':Drawn}{ch:List Addr}(I:Inv X pins σ H s)
  (hch:∀b∈ch,(b∈X.ex\/X.s₀.heap.objs.size<=b)/\b≠X.env.locals/\(∀x c,X.env.cells.lookup x=some c->c≠b)/\∀p∈X.pn++pins,p.1≠b)
  (keep:∀b o,b≠X.env.locals->b∉X.fs->b∉ch->s.heap.get? b=some o->H b=none->h'.get? b=some o)
  (slot:∀b o,b≠X.env.locals->b∈X.fs->b∉ch->s.heap.get? b=some o->H b=none->∃sl,h'.get? b=some { o with slots:=sl }) (free:∀b o,b∉ch->s.heap.get? b=some o->H b=none->H' b=none)
  (there:∀b o,b∉ch->s.heap.get? b=some o->∃o',h'.get? b=some o')
  (tups:∀b xs,H b=some (.tup xs)->H' b=some (.tup xs)) (frzs:∀b o u,H b=some (.frz o u)->H' b=some (.frz o u)) (tbls:KW H H' s.heap h')
  (ns:∀m,s.heap.Ns X.env.locals m->h'.Ns X.env.locals m) (hok:pW X.prog X.w H' h') (hg:AllBare g') :
  Inv X pins σ H' { s with heap:=h',gens:=g',drawn:=d',toks:=t' }:=by
 have neL:∀b o,X.s₀.heap.get? b=some o->b≠X.env.locals:=fun b o e=>zzB (zP (zZ e) I.ok.above)
 have neC:∀b o,X.s₀.heap.get? b=some o->b∉X.ex->b∉ch:=fun b o e hx hb=>by
  rcases (hch b hb).1 with z|z
  ·exact hx z
  ·exact absurd (zP (zZ e) z) (Nat.lt_irrefl _)
 have cellK:∀x c,X.env.cells.lookup x=some c->∀v,s.heap.IsCell c v->h'.IsCell c v:=fun x c e v ⟨o,ho,hd⟩=>by
  have nch:c∉ch:=fun z=>(hch c z).2.2.1 x c e rfl
  by_cases hc:c∈X.fs
  ·obtain⟨sl,q⟩:=slot c o (I.cne x c e) hc nch ho (I.freeC x c e)
   exact⟨_,q,hd⟩
  ·exact⟨o,keep c o (I.cne x c e) hc nch ho (I.freeC x c e),hd⟩
 refine⟨I.ok,I.os,hg,⟨fun b o e n hb hx=>?_,fun b o e n hb hx=>?_,fun b o e n hx=>?_,fun b o e hx=>?_,fun b xs e=>tups b xs (I.base.tups b xs e),fun b o xs e=>frzs b o xs (I.base.frzs b o xs e),I.base.tbls.trans tbls⟩,?_,fun x c e=>?_,?_,fun x c e=>?_,fun p hp=>?_,hok,I.len⟩
 ·exact keep b o (neL b o e) hb (neC b o e hx) (I.base.keep b o e n hb hx) (I.base.free b o e n hx)
 ·obtain⟨sl,e1⟩:=I.base.slot b o e n hb hx
  obtain⟨sl',e2⟩:=slot b _ (neL b o e) hb (neC b o e hx) e1 (I.base.free b o e n hx)
  exact⟨sl',e2⟩
 ·obtain⟨o',e1⟩:=I.base.there b o e hx
  exact free b o' (neC b o e hx) e1 (I.base.free b o e n hx)
 ·obtain⟨o',e1⟩:=I.base.there b o e hx
  exact there b o' (neC b o e hx) e1
 ·obtain⟨m,hn,hl⟩:=I.loc
  refine⟨m,ns m hn,fun i x v e1 e2 e3=>?_⟩
  obtain⟨u,r,l⟩:=hl i x v e1 e2 e3
  refine⟨u,r,?_⟩
  rcases l with l|⟨k,c,e,z⟩
  ·exact .inl l
  ·exact .inr ⟨k,c,e,cellK x c e _ z⟩
 ·obtain⟨v,z⟩:=I.cell x c e
  exact⟨v,cellK x c e v z⟩
 ·obtain⟨m,⟨o,_,_,ho,_⟩,_⟩:=I.loc
  exact free _ o (fun z=>(hch _ z).2.1 rfl) ho I.free
 ·obtain⟨v,o,ho,hd⟩:=I.cell x c e
  exact free c o (fun z=>(hch c z).2.2.1 x c e rfl) ho (I.freeC x c e)
 ·obtain⟨e,n,ne,nf,d⟩:=I.pin p hp
  have nch:p.1∉ch:=fun z=>(hch p.1 z).2.2.2 p hp rfl
  exact⟨keep p.1 p.2 ne nf nch e n,free p.1 p.2 nch e n,ne,nf,d⟩
theorem Inv.un{t':Nat}(I:Inv X pins σ H s)(u:Un X.fs [] H H' s.heap h')(hok:pW X.prog X.w H' h'):Inv X pins σ H' { s with heap:=h',toks:=t' }:=by
 obtain⟨m,⟨o,es,ep,ho,r⟩,_⟩:=id I.loc
 obtain⟨sl,hL⟩:=u.any ho I.free (by simp)
 exact I.step (g':=s.gens) (d':=s.drawn) (ch:=[]) (fun _ z=>nomatch z) (fun b o _ hb _ e n=>u.keep b o e n hb (by simp)) (fun b o _ hb _ e n=>u.slot b o e n hb (by simp)) (fun b o _ e n=>u.free b o e n (by simp)) (fun b o _ e=>u.there b o e (by simp)) u.tups u.frzs u.tbls (fun m' hm=>by
  obtain⟨o',es',ep',ho',r'⟩:=hm
  rw[ho] at ho';cases ho'
  exact⟨_,es',ep',hL,r'⟩) hok I.bare
theorem Inv.call{g':Array GenState}{t':Nat}{d':Drawn}{ch:List Addr}(I:Inv X pins σ H s)(u:Un (Ff X.stack) ch H H' s.heap h')(hok:pW X.prog X.w H' h')(hg:AllBare g')
  (hch:∀b∈ch,(b∈X.ex\/X.s₀.heap.objs.size<=b)/\b≠X.env.locals/\(∀x c,X.env.cells.lookup x=some c->c≠b)/\∀p∈X.pn++pins,p.1≠b) :
  Inv X pins σ H' { s with heap:=h',gens:=g',drawn:=d',toks:=t' }:=by
 obtain⟨m,⟨o,es,ep,ho,r⟩,_⟩:=id I.loc
 obtain⟨sl,hL⟩:=u.any ho I.free fun z=>(hch _ z).2.1 rfl
 exact I.step (ch:=ch) hch (fun b o hL hb hc e n=>u.keep b o e n (fun z=>(zR.mp (I.stkSub b z)).elim hL hb) hc) (fun b o _ _ hc e n=>u.any e n hc) (fun b o hc e n=>u.free b o e n hc) (fun b o hc e=>u.there b o e hc) u.tups u.frzs u.tbls (fun m' hm=>by
  obtain⟨o',es',ep',ho',r'⟩:=hm
  rw[ho] at ho';cases ho'
  exact⟨_,es',ep',hL,r'⟩) hok hg
theorem Inv.turned{t':Nat}{it:Addr}(I:Inv X pins σ H s)(k:∀b o,b≠it->s.heap.get? b=some o->h'.get? b=some o)(hn:H it=none)(hL:it≠X.env.locals)
  (h1:it∈X.ex\/X.s₀.heap.objs.size<=it) (h2:∀x c,X.env.cells.lookup x=some c->c≠it) (h3:∀p∈X.pn++pins,p.1≠it):Inv X pins σ H { s with heap:=h',toks:=t' }:=by
 have nit:∀b u,H b=some u->b≠it:=fun b u e z=>by rw[z,hn] at e;cases e
 refine I.step (g':=s.gens) (d':=s.drawn) (ch:=[it]) (fun b hb=>?_) (fun b o _ _ hc e _=>k b o (fun z=>hc (by simp[z])) e) (fun b o _ _ hc e _=>⟨o.slots,k b o (fun z=>hc (by simp[z])) e⟩) (fun _ _ _ _ n=>n)
  (fun b o hc e=>⟨o,k b o (fun z=>hc (by simp[z])) e⟩) (fun _ _ e=>e) (fun _ _ _ e=>e) (.kept (fun b u z e=>k b u (fun r=>by subst r;rcases z with ⟨q,z⟩;rw[hn] at z;cases z) e) fun _ _ e _=>e) (fun m hm=>?_) (fun b u e=>?_) I.bare
 ·have e:b=it:=by simpa using hb
  subst e
  exact⟨h1,hL,h2,h3⟩
 ·obtain⟨o,es,ep,ho,r⟩:=hm
  exact⟨o,es,ep,k _ o (Ne.symm hL) ho,r⟩
 ·refine (I.hok b u e).stay (fun c v hc q=>k c v ?_ q) (fun _ q=>q) fun _ _ q _=>q
  rcases hc with z|z
  ·rw[z];exact nit b u e
  ·exact nit c _ z
theorem Inv.tok(I:Inv X pins σ H s)(t:Nat):Inv X pins σ H { s with toks:=t }:=I.un (h':=s.heap) (t':=t) Un.refl I.hok
theorem Inv.kept{t':Nat}(I:Inv X pins σ H s)(k:∀b u,s.heap.get? b=some u->h'.get? b=some u):Inv X pins σ H { s with heap:=h',toks:=t' }:=I.un (Un.kept k) (I.hok.kept k)
theorem Inv.laid{a:Addr}{o:HO}{t':Nat}(I:Inv X pins σ H s)(k:∀b u,s.heap.get? b=some u->h'.get? b=some u)(hp:s.heap.objs.size<=a)(new:gf X.prog X.w (upd H a o) h' a o) :
  Inv X pins σ (upd H a o) { s with heap:=h',toks:=t' }:=I.un (Un.laid k hp (I.hok.fresh hp)) (I.hok.laid k hp new)
theorem Inv.write{x e:Addr}{o:HO}{t':Nat}(I:Inv X pins σ H s)(mu:OD (H x))(he:e=x\/H e=some (.own x))(k:∀b u,b≠e->s.heap.get? b=some u->h'.get? b=some u)(heo:∃u,h'.get? e=some u)
  (new:gf X.prog X.w (upd H x o) h' x o):Inv X pins σ (upd H x o) { s with heap:=h',toks:=t' }:=I.un (Un.write mu he k heo) (I.hok.write mu he k heo new)
theorem Inv.pins_of{pins':List (Addr×Obj)}(I:Inv X pins σ H s)(h:∀p∈pins',s.heap.get? p.1=some p.2/\H p.1=none/\p.1≠X.env.locals/\p.1∉X.fs/\∀v,p.2.data≠.cell v):Inv X pins' σ H s :=
 ⟨I.ok,I.os,I.bare,I.base,I.loc,I.cell,I.free,I.freeC,fun p hp=>(List.mem_append.mp hp).elim (fun z=>I.pin p (List.mem_append_left _ z)) (h p),I.hok,I.len⟩
theorem yq{N:List Str}(hN:N.Nodup){i j:Nat}{x:Str}(a:N[i]?=some x)(b:N[j]?=some x):i=j:=by
 obtain⟨h1,e1⟩:=zU.mp a
 obtain⟨h2,e2⟩:=zU.mp b
 exact (List.getElem_inj hN).mp (e1.trans e2.symm)
theorem uy{M:Model}{A:Around}{E:Value->Shared->Prop}{i:Nat}{x:Str}{v:V}{u:Value}{Q:Unit->Shared->Prop}(I:Inv X pins σ H s)(hN:X.N.Nodup)(hi:X.N[i]?=some x)(hx:Loc X.env.scope x)(r:RelV v u)
  (h:∀s',Inv X pins (σ.set i (some v)) H s'->(∃a,Heap.SameBut a s.heap s'.heap/\(a=X.env.locals\/X.env.cells.lookup x=some a))->Q () s') (hf:X.fn x=true\/X.env.scope.names.lookup x=some .local:=by first|exact .inl rfl|exact .inr rfl|assumption):wpAny M A (storeName X.env x u) Q E s:=by
 obtain⟨m,hn,hl⟩:=id I.loc
 have hcls:(X.env.scope.kind == .class||(X.env.scope.kind == .module&&X.env.locals != X.env.globals))=false:=by rw[I.ok.kind];rfl
 have hiσ:i < σ.length:=by rw[I.len];exact (zU.mp hi).1
 have cne:=I.cne
 have tracked:∀ {a:Addr}{h':Heap},(∃o,s.heap.get? a=some o/\H a=none)->Heap.SameBut a s.heap h'->pW X.prog X.w H h':=fun {a h'} ha hs b ob e=>by
  obtain⟨_,_,hfree⟩:=ha
  refine (I.hok b ob e).stay (fun c w' hc q=>(hs.2 c ?_).trans q) (fun _ q=>q) fun _ _ q _=>q
  rintro rfl
  rcases hc with rfl|hc
  ·rw[hfree] at e;cases e
  ·rw[hfree] at hc;cases hc
 rcases hx with hk|hk
 ·refine wpAny_storeName_local hk hn (fun h' hn' hs=>?_) hcls
  obtain⟨oL,_,_,hoL,_⟩:=id hn
  refine h _ ⟨I.ok,I.os,I.bare,⟨fun b o e n hb hx=>?_,fun b o e n hb hx=>?_,I.base.free,fun b o e hx=>?_,I.base.tups,I.base.frzs,I.base.tbls.trans (.kept (fun b u z e=>(hs.2 b (fun r=>by rcases z with ⟨q,z⟩;rw[r,I.free] at z;cases z)).trans e) fun _ _ e _=>e)⟩,⟨_,hn',fun j y v' e1 e2 e3=>?_⟩,fun y c e=>?_,I.free,I.freeC,fun p hp=>?_,tracked ⟨oL,hoL,I.free⟩ hs,by simpa using I.len⟩ ⟨_,hs,.inl rfl⟩
  ·exact (hs.2 b (zzB (zP (zZ e) I.ok.above))).trans (I.base.keep b o e n hb hx)
  ·obtain⟨sl,e1⟩:=I.base.slot b o e n hb hx
   exact⟨sl,(hs.2 b (zzB (zP (zZ e) I.ok.above))).trans e1⟩
  ·obtain⟨o',e1⟩:=I.base.there b o e hx
   exact⟨o',(hs.2 b (zzB (zP (zZ e) I.ok.above))).trans e1⟩
  ·by_cases hj:j=i
   ·subst hj
    rw[hi] at e1;cases e1
    rw[List.getElem?_set_self hiσ] at e2
    cases e2
    exact⟨u,r,.inl ⟨hk,by simp⟩⟩
   ·rw[List.getElem?_set_ne (Ne.symm hj)] at e2
    obtain⟨u',r',q⟩:=hl j y v' e1 e2 e3
    refine⟨u',r',?_⟩
    rcases q with ⟨k,e⟩|⟨k,c,e,z⟩
    ·refine .inl ⟨k,?_⟩
     have:y≠x:=fun e=>hj (yq hN e1 (e ▸ hi))
     simp[this,e]
    ·exact .inr ⟨k,c,e,z.sameBut hs (cne y c e)⟩
  ·obtain⟨w',z⟩:=I.cell y c e
   exact⟨w',z.sameBut hs (cne y c e)⟩
  ·obtain⟨e,n,ne,nf,d⟩:=I.pin p hp
   exact⟨(hs.2 p.1 ne).trans e,n,ne,nf,d⟩
 ·have hfn:X.fn x=true:=by
   rcases hf with z|z
   ·exact z
   ·rw[z] at hk;cases hk
  obtain⟨c,hc⟩:=I.ok.has x (.inl hk)
  obtain⟨w',z⟩:=I.cell x c hc
  refine wpAny_storeName_cell I.ok.kind hk hc z (fun h' hc' hs=>?_)
  obtain⟨oc,hoc,hocd⟩:=id z
  refine h { s with heap:=h' } ⟨I.ok,I.os,I.bare,⟨fun b o e n hb hx=>?_,fun b o e n hb hx=>?_,I.base.free,fun b o e hx=>?_,I.base.tups,I.base.frzs,I.base.tbls.trans (.kept (fun b u z e=>(hs.2 b (fun r=>by rcases z with ⟨q,z⟩;rw[r,I.freeC x c hc] at z;cases z)).trans e) fun _ _ e _=>e)⟩,⟨m,hn.sameBut hs (Ne.symm (cne x c hc)),fun j y v' e1 e2 e3=>?_⟩,fun y c' e=>?_,I.free,I.freeC,fun p hp=>?_,tracked ⟨oc,hoc,I.freeC x c hc⟩ hs,by simpa using I.len⟩ ⟨c,hs,.inr hc⟩
  ·exact (hs.2 b (zzB (zP (zZ e) (I.ok.cab x c hfn hc)))).trans (I.base.keep b o e n hb hx)
  ·obtain⟨sl,e1⟩:=I.base.slot b o e n hb hx
   exact⟨sl,(hs.2 b (zzB (zP (zZ e) (I.ok.cab x c hfn hc)))).trans e1⟩
  ·obtain⟨o',e1⟩:=I.base.there b o e hx
   exact⟨o',(hs.2 b (zzB (zP (zZ e) (I.ok.cab x c hfn hc)))).trans e1⟩
  ·by_cases hj:j=i
   ·subst hj
    rw[hi] at e1;cases e1
    rw[List.getElem?_set_self hiσ] at e2
    cases e2
    exact⟨u,r,.inr ⟨.inl hk,c,hc,hc'⟩⟩
   ·rw[List.getElem?_set_ne (Ne.symm hj)] at e2
    obtain⟨u',r',q⟩:=hl j y v' e1 e2 e3
    refine⟨u',r',?_⟩
    rcases q with q|⟨k,c',e,z'⟩
    ·exact .inl q
    ·refine .inr ⟨k,c',e,z'.sameBut hs ?_⟩
     rintro rfl
     exact hj (yq hN e1 (I.ok.inj _ _ _ e hc ▸ hi))
  ·by_cases hcc:c'=c
   ·subst hcc;exact⟨_,hc'⟩
   ·obtain⟨w2,z2⟩:=I.cell y c' e
    exact⟨w2,z2.sameBut hs hcc⟩
  ·obtain⟨e,n,ne,nf,d⟩:=I.pin p hp
   refine⟨(hs.2 p.1 ?_).trans e,n,ne,nf,d⟩
   intro q
   rw[q,hoc] at e
   have q':oc=p.2:=Option.some.inj e
   exact d w' (by rw[<- q'];exact hocd)
theorem yv{M:Model}{A:Around}{E:Value->Shared->Prop}{i:Nat}{x:Str}{v:V}{u:Value}{Q:Unit->Shared->Prop}(I:Inv X pins σ H s)(hN:X.N.Nodup)(hi:X.N[i]?=some x)(hx:Loc X.env.scope x)(r:RelV v u)
  (h:∀s',Inv X pins (σ.set i (some v)) H s'->Q () s') (hf:X.fn x=true\/X.env.scope.names.lookup x=some .local:=by first|exact .inl rfl|exact .inr rfl|assumption):wpAny M A (storeName X.env x u) Q E s :=
 uy I hN hi hx r (fun s' I' _=>h s' I') hf
theorem Inv.call'{s':Shared}{ch:List Addr}(I:Inv X pins σ H s)(ho:s'.os=s.os)(u:Un (Ff X.stack) ch H H' s.heap s'.heap)(hok:pW X.prog X.w H' s'.heap)(hg:AllBare s'.gens)
  (hch:∀b∈ch,(b∈X.ex\/X.s₀.heap.objs.size<=b)/\b≠X.env.locals/\(∀x c,X.env.cells.lookup x=some c->c≠b)/\∀p∈X.pn++pins,p.1≠b):Inv X pins σ H' s':=by
 obtain⟨h',g',d',t',o'⟩:=s'
 have e:o'=s.os:=ho
 subst e
 exact I.call (g':=g') (t':=t') (d':=d') u hok hg hch
end
abbrev XK:=Value->Option Addr->Hp->Prop
abbrev St:=List (Option V)
abbrev VK:=V->Hp->Prop
abbrev TE:=St->Hp->VK->Prop
abbrev TT:=St->Hp->(Bool->Hp->Prop)->Prop
abbrev TA:=St->Hp->(List V->Hp->Prop)->Prop
structure Ends where
 nx:St->Hp->Prop
 rt:VK
 bk:St->Hp->Prop:=fun _ _=>False
 ct:St->Hp->Prop:=fun _ _=>False
abbrev TS:=Ends->St->Hp->Prop
def EP(X:Cx)(pins:List (Addr×Obj))(σ:St)(Q:VK)(u:Value)(s':Shared):Prop:=∃v H',Inv X pins σ H' s'/\RelV v u/\Q v H'
def TP(X:Cx)(pins:List (Addr×Obj))(σ:St)(Q:Bool->Hp->Prop)(b:Bool)(s':Shared):Prop:=∃H',Inv X pins σ H' s'/\Q b H'
def AP(X:Cx)(pins:List (Addr×Obj))(σ:St)(Q:List V->Hp->Prop)(us:List Value)(s':Shared):Prop:=∃vs H',Inv X pins σ H' s'/\aH vs us/\Q vs H'
def SP(X:Cx)(pins:List (Addr×Obj))(D:Ends)(f:Flow)(s':Shared):Prop :=
 match f with
 | .next=>∃σ' H',Inv X pins σ' H' s'/\D.nx σ' H'
 | .brk=>∃σ' H',Inv X pins σ' H' s'/\D.bk σ' H'
 | .cont=>∃σ' H',Inv X pins σ' H' s'/\D.ct σ' H'
 | .ret u=>∃v σ' H',Inv X pins σ' H' s'/\RelV v u/\D.rt v H'
def PE(X:Cx)(e:Expr)(t:TE):Prop :=
 ∀ (pins:List (Addr×Obj)) (s:Shared) (σ:St) (H:Hp) (Q:VK),Inv X pins σ H s->t σ H Q->wpAny (model X.prog X.w) X.A (eval e X.env) (EP X pins σ Q) X.xe s
def PT(X:Cx)(e:Expr)(t:TT):Prop :=
 ∀ (pins:List (Addr×Obj)) (s:Shared) (σ:St) (H:Hp) (Q:Bool->Hp->Prop),Inv X pins σ H s->t σ H Q->wpAny (model X.prog X.w) X.A (isTrue e X.env (eval e X.env)) (TP X pins σ Q) X.xe s
def PW(X:Cx)(e:Expr)(t:TT):Prop :=
 ∀ (whole:Sem Value) (pins:List (Addr×Obj)) (s:Shared) (σ:St) (H:Hp) (Q:Bool->Hp->Prop),Inv X pins σ H s->t σ H Q->wpAny (model X.prog X.w) X.A (isTrue e X.env whole) (TP X pins σ Q) X.xe s
theorem PW.pt{X:Cx}{e:Expr}{t:TT}(h:PW X e t):PT X e t:=h _
def PA(X:Cx)(es:List Expr)(t:TA):Prop :=
 ∀ (pos:Pos) (pins:List (Addr×Obj)) (s:Shared) (σ:St) (H:Hp) (Q:List V->Hp->Prop),Inv X pins σ H s->t σ H Q->wpAny (model X.prog X.w) X.A (spliced (backTo pos (starEach es X.env))) (AP X pins σ Q) X.xe s
def PS(X:Cx)(st:Stmt)(t:TS):Prop :=
 ∀ (pins:List (Addr×Obj)) (s:Shared) (σ:St) (H:Hp) (D:Ends),Inv X pins σ H s->t D σ H->wpAny (model X.prog X.w) X.A (exec st X.env) (SP X pins D) X.xe s
def AF(X:Cx)(st:List Stmt)(t:TS):Prop :=
 ∀ (pins:List (Addr×Obj)) (s:Shared) (σ:St) (H:Hp) (D:Ends),Inv X pins σ H s->t D σ H->wpAny (model X.prog X.w) X.A (execs st X.env) (SP X pins D) X.xe s
theorem cy{α:Type}{t:Sem α}{Q Q':α->Shared->Prop}{M:Model}{A:Around}{E:Value->Shared->Prop}{s:Shared}(h:wpAny M A t Q E s)(hQ:∀a s,Q a s->Q' a s):wpAny M A t Q' E s:=wpAny_mono h hQ fun _ _ x=>x
section
variable {X:Cx}
def O4(i:Nat):TE:=fun σ H Q=>∃v,σ[i]?=some (some v)/\Q v H
def tC(v:V):TE:=fun _ H Q=>Q v H
theorem qT{i:Nat}{x:Str}{pos:Pos}(hN:X.N[i]?=some x)(hv:Kq X.env.scope x)(hd:(x == ("__debug__":Str))=false:=by decide)(hcd:(x == ("__classdict__":Str))=false:=by decide):PE X (.Name x pos) (O4 i):=by
 intro pins s σ H Q I h
 obtain⟨v,e,h⟩:=h
 obtain⟨m,hn,hl⟩:=I.loc
 obtain⟨u,r,l⟩:=hl i x v hN e hv
 have fin:EP X pins σ Q u s:=⟨v,H,I,r,h⟩
 rcases l with ⟨hk,hm⟩|⟨hk,c,hc,hcell⟩
 ·exact wpAny_Name (wpAny_loadName_local I.ok.kind hk hn hm fin) hd
 ·rcases hk with hk|hk
  ·exact wpAny_Name (wpAny_loadName_cell I.ok.kind hk hc hcell fin) hd
  ·exact wpAny_Name (wpAny_loadName_free I.ok.kind hk hc hcell fin hcd) hd
theorem Mw{i j pos}:PE X (.Constant (.int i) j pos) (tC (.int i)):=fun _ _ _ H _ I h=>wpAny_Constant_int ⟨.int i,H,I.tok _,⟨_,rfl⟩,h⟩
theorem Oz{b j pos}:PE X (.Constant (.bool b) j pos) (tC (.bl b)):=fun _ _ _ H _ I h=>Constant_bool ⟨.bl b,H,I,rfl,h⟩
theorem M4{j pos}:PE X (.Constant .none j pos) (tC .non):=fun _ _ _ H _ I h=>Constant_none ⟨.non,H,I,rfl,h⟩
theorem MN{x j pos}:PE X (.Constant (.str x) j pos) (tC (.str x)):=fun _ _ _ H _ I h=>Calls.Constant_str ⟨.str x,H,I.tok _,⟨_,rfl⟩,h⟩
def Gl(X:Cx)(x:Str):Prop:=X.env.kindOf x=some .globalImplicit
theorem B1{E:Value->Shared->Prop}{pins:List (Addr×Obj)}{s:Shared}{σ:St}{H:Hp}{x:Str}{u:Value}{pos:Pos}{Q:Value->Shared->Prop}(I:Inv X pins σ H s)(hg:Gl X x)(hm:X.mg x=some u)(h:Q u s)
  (hd:(x == ("__debug__":Str))=false:=by decide):wpAny (model X.prog X.w) X.A (eval (.Name x pos) X.env) Q E s :=
 Calls.Name_function_global I.ok.kind hg (Calls.loadGlobal_global (by rw[I.ok.glob];exact I.mod.glob.keeps I.bk) hm h) hd
theorem jK{E:Value->Shared->Prop}{pins:List (Addr×Obj)}{s:Shared}{σ:St}{H:Hp}{x:Str}{u:Value}{pos:Pos}{Q:Value->Shared->Prop}(I:Inv X pins σ H s)(hg:Gl X x)(hm:X.mg x=none)(hv:bootBuiltins x=some u)(h:Q u s)
  (hn:x≠"__name__":=by decide) (hd:(x == ("__debug__":Str))=false:=by decide):wpAny (model X.prog X.w) X.A (eval (.Name x pos) X.env) Q E s:=by
 obtain⟨mb,h1,h2⟩:=I.mod.blt
 exact Calls.Name_function_global I.ok.kind hg (Calls.loadGlobal_builtin (by rw[I.ok.glob];exact I.mod.glob.keeps I.bk) hm (by rw[I.ok.blt];exact h1.keeps I.bk) ((h2 x hn).trans hv) h) hd
theorem vq{x:Str}{v:V}{u:Value}{pos:Pos}(hg:Gl X x)(hm:X.mg x=some u)(r:RelV v u)(hd:(x == ("__debug__":Str))=false:=by decide):PE X (.Name x pos) (tC v) :=
 fun _ _ _ H _ I h=>B1 I hg hm ⟨v,H,I,r,h⟩ hd
theorem HZ{x:Str}{v:V}{u:Value}{pos:Pos}(hg:Gl X x)(hm:X.mg x=none)(hv:bootBuiltins x=some u)(r:RelV v u)(hn:x≠"__name__":=by decide)(hd:(x == ("__debug__":Str))=false:=by decide):PE X (.Name x pos) (tC v) :=
 fun _ _ _ H _ I h=>jK I hg hm hv ⟨v,H,I,r,h⟩ hn hd
variable {a b:Expr}{ta tb:TE}{pos:Pos}
def tB(t:TE):TT:=fun σ H Q=>t σ H fun x H1=>∃c,x=.bl c/\Q c H1
theorem LF{e:Expr}{t:TE}(h:PE X e t)(he:∀whole,isTrue e X.env whole=(do let v <- whole;standAt e.pos;holding [v] (truthy v)):=by intro _;rfl):PT X e (tB t):=by
 intro pins s σ H Q I hw
 refine isTrue_plain (cy (h pins s σ H _ I hw) fun v s1 ⟨x,H1,I1,r1,q1⟩=>?_) (he _)
 obtain⟨d,rfl,q⟩:=q1
 cases r1
 exact wpAny_truthy_bool ⟨H1,I1,q⟩
variable {tA tB':TT}{rest:List Expr}
def PY(t u:TT):TT:=fun σ H Q=>t σ H fun c H1=>if c=true then u σ H1 Q else Q false H1
def Qw(t u:TT):TT:=fun σ H Q=>t σ H fun c H1=>if c=true then Q true H1 else u σ H1 Q
def PQ(t:TT):TT:=fun σ H Q=>t σ H fun c H1=>Q (!c) H1
theorem J9(ha:PT X a tA):PW X (.BoolOp .And [a] pos) tA:=by
 intro wh pins s σ H Q I h
 refine isTrue_and (cy (ha pins s σ H Q I h) fun c s1 e=>?_)
 cases c with
 | true=>exact isTrue_and_nil e
 | false=>exact e
theorem Lg(ha:PT X a tA):PW X (.BoolOp .Or [a] pos) tA:=by
 intro wh pins s σ H Q I h
 refine isTrue_or (cy (ha pins s σ H Q I h) fun c s1 e=>?_)
 cases c with
 | false=>exact isTrue_or_nil e
 | true=>exact e
theorem MI(ha:PT X a tA)(hb:PW X (.BoolOp .And (b::rest) pos) tB'):PW X (.BoolOp .And (a::b::rest) pos) (PY tA tB'):=by
 intro wh pins s σ H Q I h
 refine isTrue_and (cy (ha pins s σ H _ I h) fun c s1 ⟨H1,I1,q1⟩=>?_)
 cases c with
 | true=>exact hb wh pins s1 σ H1 Q I1 q1
 | false=>exact⟨H1,I1,q1⟩
theorem NQ(ha:PT X a tA)(hb:PW X (.BoolOp .Or (b::rest) pos) tB'):PW X (.BoolOp .Or (a::b::rest) pos) (Qw tA tB'):=by
 intro wh pins s σ H Q I h
 refine isTrue_or (cy (ha pins s σ H _ I h) fun c s1 ⟨H1,I1,q1⟩=>?_)
 cases c with
 | true=>exact⟨H1,I1,q1⟩
 | false=>exact hb wh pins s1 σ H1 Q I1 q1
theorem MV(ha:PT X a tA):PT X (.UnaryOp .Not a pos) (PQ tA):=by
 intro pins s σ H Q I h
 exact isTrue_not (ha pins s σ H (fun c H1=>Q (!c) H1) I h)
def Os(ta tb:TE):TE:=fun σ H Q=>ta σ H fun x H1=>∃c,x=.bl c/\if c=true then tb σ H1 Q else Q (.bl false) H1
def PP(ta tb:TE):TE:=fun σ H Q=>ta σ H fun x H1=>∃c,x=.bl c/\if c=true then Q (.bl true) H1 else tb σ H1 Q
def OE(ta:TE):TE:=fun σ H Q=>ta σ H fun x H1=>∃c,x=.bl c/\Q (.bl (!c)) H1
theorem LM{op}{t:TE}(h:PE X a t):PE X (.BoolOp op [a] pos) t:=fun pins s σ H Q I hw=>BoolOp_one (h pins s σ H Q I hw)
theorem Ld(ha:PE X a ta)(hb:PE X (.BoolOp .And (b::rest) pos) tb):PE X (.BoolOp .And (a::b::rest) pos) (Os ta tb):=by
 intro pins s σ H Q I h
 refine BoolOp_and (cy (ha pins s σ H _ I h) fun v s1 ⟨x,H1,I1,r1,q1⟩=>?_)
 obtain⟨c,rfl,q1⟩:=q1
 cases r1
 refine wpAny_truthy_bool ?_
 cases c with
 | true=>exact hb pins s1 σ H1 Q I1 q1
 | false=>exact⟨.bl false,H1,I1,rfl,q1⟩
theorem GM(ha:PE X a ta)(hb:PE X (.BoolOp .Or (b::rest) pos) tb):PE X (.BoolOp .Or (a::b::rest) pos) (PP ta tb):=by
 intro pins s σ H Q I h
 refine BoolOp_or (cy (ha pins s σ H _ I h) fun v s1 ⟨x,H1,I1,r1,q1⟩=>?_)
 obtain⟨c,rfl,q1⟩:=q1
 cases r1
 refine wpAny_truthy_bool ?_
 cases c with
 | false=>exact hb pins s1 σ H1 Q I1 q1
 | true=>exact⟨.bl true,H1,I1,rfl,q1⟩
theorem L5(ha:PE X a ta):PE X (.UnaryOp .Not a pos) (OE ta):=by
 intro pins s σ H Q I h
 refine UnaryOp_ (cy (ha pins s σ H _ I h) fun v s1 ⟨x,H1,I1,r1,q1⟩=>?_)
 obtain⟨c,rfl,q1⟩:=q1
 cases r1
 exact not_of (wpAny_truthy_bool ⟨.bl (!c),H1,I1,rfl,q1⟩)
def Qf(t:TT)(ta tb:TE):TE:=fun σ H Q=>t σ H fun c H1=>if c=true then ta σ H1 Q else tb σ H1 Q
theorem FB{c:Expr}(hc:PT X c tA)(ha:PE X a ta)(hb:PE X b tb):PE X (.IfExp c a b pos) (Qf tA ta tb):=by
 intro pins s σ H Q I h
 refine wpAny_IfExp (cy (hc pins s σ H _ I h) fun d s1 ⟨H1,I1,q1⟩=>?_)
 cases d with
 | true=>exact ha pins s1 σ H1 Q I1 q1
 | false=>exact hb pins s1 σ H1 Q I1 q1
end
def hZ(K:W.Frag)(H:Hp)(a:Addr)(xs:List V):Prop :=
 Rd H a (.lst xs) \/
  ∃ (o:Obj) (its:Array Value) (n:Nat),K.lookup a=some o/\o.cls=.type "list"/\o.dict=none/\o.data=.seq its n/\its.size<=sizeLine/\aH xs its.toList
def jY(K:W.Frag)(H:Hp)(a:Addr)(xs:List V):Prop :=
 Rd H a (.tup xs) \/
  ∃ (o:Obj) (its:Array Value) (n:Nat),K.lookup a=some o/\o.cls=.type "tuple"/\o.dict=none/\o.data=.seq its n/\its.size<=sizeLine/\aH xs its.toList
def Pq:Value->Option V
 | .none=>some .non
 | .bool b=>some (.bl b)
 | .int i _=>some (.int i)
 | .str x _=>some (.str x)
 | .bytes b _=>some (.byt b)
 | .float b _=>some (.flt b)
 | .ref a=>some (.ref a)
 | .type n=>some (.ty n)
 | _=>none
theorem RelV.abs{x:V}{u:Value}(r:RelV x u):Pq u=some x:=by
 cases x with
 | non=>cases r;rfl
 | bl _=>cases r;rfl
 | int _=>obtain⟨t,rfl⟩:=r;rfl
 | str _=>obtain⟨t,rfl⟩:=r;rfl
 | byt _=>obtain⟨t,rfl⟩:=r;rfl
 | flt _=>obtain⟨t,rfl⟩:=r;rfl
 | ref _=>cases r;rfl
 | ty _=>cases r;rfl
theorem RelV.inj{x y:V}{u:Value}(r:RelV x u)(q:RelV y u):x=y:=Option.some.inj (r.abs.symm.trans q.abs)
theorem aH.inj:∀ {xs ys:List V}{us:List Value},aH xs us->aH ys us->xs=ys
 | _,_,_,.nil,.nil=>rfl
 | _,_,_,.cons r t,.cons r' t'=>by rw[r.inj r',aH.inj t t']
section
variable {X:Cx}{pins:List (Addr×Obj)}{σ:St}{H:Hp}{s:Shared}{a:Addr}{xs ys:List V}
theorem hZ.of{K:W.Frag}(h:H a=some (.lst xs)):hZ K H a xs:=.inl (.inl h)
theorem Inv.list(I:Inv X pins σ H s)(h:hZ X.K H a xs):∃its:List Value,aH xs its/\PlainL s.heap a its.toArray/\xs.length<=sizeLine:=by
 rcases h with h|⟨o,its,n,hk,hc,hd,hs,hz,r⟩
 ·obtain⟨z,its,n,r,e⟩:=h.ok I.hok
  exact⟨its,r,⟨_,n,e,rfl,rfl,rfl⟩,z⟩
 ·refine⟨its.toList,r,⟨o,n,I.kIn a o hk,hc,hd,by simpa using hs⟩,?_⟩
  have e:=r.length
  simp only[Array.length_toList] at e
  omega
theorem Inv.tuple(I:Inv X pins σ H s)(h:jY X.K H a xs):∃its:List Value,aH xs its/\IsTup s.heap a its.toArray/\xs.length<=sizeLine:=by
 rcases h with h|⟨o,its,n,hk,hc,_,hs,hz,r⟩
 ·obtain⟨z,its,r,p⟩:=h.ok I.hok
  exact⟨its,r,p.1,z⟩
 ·refine⟨its.toList,r,⟨o,I.kIn a o hk,hc,n,by simpa using hs⟩,?_⟩
  have e:=r.length
  simp only[Array.length_toList] at e
  omega
theorem Inv.list_inj(I:Inv X pins σ H s)(h:hZ X.K H a xs)(h':hZ X.K H a ys):xs=ys:=by
 obtain⟨its,r,⟨o,n,e,_,_,d⟩,_⟩:=I.list h
 obtain⟨its',r',⟨o',n',e',_,_,d'⟩,_⟩:=I.list h'
 rw[e] at e';cases e'
 rw[d] at d'
 injection d' with d1 _
 have:its=its':=by simpa using congrArg Array.toList d1
 subst this
 exact r.inj r'
theorem Inv.tuple_inj(I:Inv X pins σ H s)(h:jY X.K H a xs)(h':jY X.K H a ys):xs=ys:=by
 obtain⟨its,r,⟨o,e,_,n,d⟩,_⟩:=I.tuple h
 obtain⟨its',r',⟨o',e',_,n',d'⟩,_⟩:=I.tuple h'
 rw[e] at e';cases e'
 rw[d] at d'
 injection d' with d1 _
 have:its=its':=by simpa using congrArg Array.toList d1
 subst this
 exact r.inj r'
end
abbrev Cx.wish(X:Cx)(E:Value->Shared->Prop):Cx:={ X with xe:=E }
abbrev Cx.nox(X:Cx):Cx:=X.wish fun _ _=>False
theorem Cx.Ok.wish{X:Cx}(ok:X.Ok)(E:Value->Shared->Prop):(X.wish E).Ok :=
 ⟨ok.mod,ok.kind,ok.glob,ok.blt,ok.above,ok.inj,ok.has,ok.cab,ok.hd,ok.frames,ok.stk,ok.exf,ok.bs,ok.bsz,ok.noex,ok.exfs,ok.funs,ok.frf⟩
theorem Cx.Ok.unwish{X:Cx}{E:Value->Shared->Prop}(ok:(X.wish E).Ok):X.Ok :=
 ⟨ok.mod,ok.kind,ok.glob,ok.blt,ok.above,ok.inj,ok.has,ok.cab,ok.hd,ok.frames,ok.stk,ok.exf,ok.bs,ok.bsz,ok.noex,ok.exfs,ok.funs,ok.frf⟩
section
variable {X:Cx}{pins:List (Addr×Obj)}{σ:St}{H:Hp}{s:Shared}{E:Value->Shared->Prop}
theorem Inv.wish(I:Inv X pins σ H s)(E:Value->Shared->Prop):Inv (X.wish E) pins σ H s:=⟨I.ok.wish E,I.os,I.bare,I.base,I.loc,I.cell,I.free,I.freeC,I.pin,I.hok,I.len⟩
theorem Inv.unwish(I:Inv (X.wish E) pins σ H s):Inv X pins σ H s:=⟨I.ok.unwish,I.os,I.bare,I.base,I.loc,I.cell,I.free,I.freeC,I.pin,I.hok,I.len⟩
theorem SP.unwish{D:Ends}{f:Flow}{s':Shared}(h:SP (X.wish E) pins D f s'):SP X pins D f s':=by
 cases f with
 | next=>obtain⟨σ',H',I,q⟩:=h;exact⟨σ',H',I.unwish,q⟩
 | brk=>obtain⟨σ',H',I,q⟩:=h;exact⟨σ',H',I.unwish,q⟩
 | cont=>obtain⟨σ',H',I,q⟩:=h;exact⟨σ',H',I.unwish,q⟩
 | ret u=>obtain⟨v,σ',H',I,r,q⟩:=h;exact⟨v,σ',H',I.unwish,r,q⟩
theorem AF.nox{st:List Stmt}{t:TS}(h:AF X.nox st t):AF X st t:=fun pins s σ H D I hw =>
 wpAny_mono (h pins s σ H D (I.wish _) hw) (fun _ _ q=>q.unwish) fun _ _ z=>False.elim z
end
section
variable {X:Cx}{st:Stmt}{rest:List Stmt}{t u:TS}{e:Expr}{te:TE}{pos:Pos}
def Gv:TS:=fun D σ H=>D.nx σ H
def Pa(t u:TS):TS:=fun D σ H=>t { D with nx:=u D } σ H
theorem Im:AF X [] Gv:=fun _ _ σ H _ I h=>wpAny_execs_nil ⟨σ,H,I,h⟩
theorem E8(h1:PS X st t)(h2:AF X rest u):AF X (st::rest) (Pa t u):=by
 intro pins s σ H D I h
 refine wpAny_execs_cons (cy (h1 pins s σ H { D with nx:=u D } I h) fun f s1 q=>?_)
 cases f with
 | next =>
  obtain⟨σ',H',I',q⟩:=q
  exact h2 pins s1 σ' H' D I' q
 | ret v=>exact q
 | brk=>exact q
 | cont=>exact q
theorem JA(h1:PS X st t):AF X [st] t:=by
 intro pins s σ H D I h
 refine wpAny_execs_cons (cy (h1 pins s σ H D I h) fun f s1 q=>?_)
 cases f with
 | next=>exact wpAny_execs_nil q
 | ret v=>exact q
 | brk=>exact q
 | cont=>exact q
theorem Ka:PS X (.Pass pos) Gv:=fun _ _ σ H _ I h=>wpAny_Pass ⟨σ,H,I,h⟩
theorem Inv.quiet{pins:List (Addr×Obj)}{σ:St}{H:Hp}{s:Shared}(I:Inv X pins σ H s):interactive X.env=false:=by simp[interactive,I.ok.kind]
theorem MD{x j pos pos'}:PS X (.Expr (.Constant (.str x) j pos) pos') Gv:=fun _ s σ H _ I h=>wpAny_Expr (Calls.Constant_str (show SP X _ _ .next { s with toks:=s.toks+1 } from ⟨σ,H,I.tok _,h⟩)) I.quiet
def NT(te:TE):TS:=fun D σ H=>te σ H fun _ H1=>D.nx σ H1
theorem pO(he:PE X e te)(hs:swapsWith e none pos.line X.env=pure false:=by rfl):PS X (.Expr e pos) (NT te):=by
 intro pins s σ H D I h
 exact wpAny_Expr_any (cy (he pins s σ H _ I h) fun v s1 ⟨x,H1,I1,r1,q1⟩=>⟨σ,H1,I1,q1⟩) I.quiet hs
def PL(te:TE):TS:=fun D σ H=>te σ H D.rt
theorem M5(he:PE X e te):PS X (.Return (some e) pos) (PL te):=by
 intro pins s σ H D I h
 exact wpAny_Return_some (cy (he pins s σ H _ I h) fun v s1 ⟨x,H1,I1,r1,q1⟩=>⟨x,σ,H1,I1,r1,q1⟩)
def O7(c:TT)(t u:TS):TS:=fun D σ H=>c σ H fun b H1=>if b=true then t D σ H1 else u D σ H1
theorem NC{c:Expr}{a b:List Stmt}{tc:TT}(hc:PT X c tc)(ha:AF X a t)(hb:AF X b u):PS X (.If c a b pos) (O7 tc t u):=by
 intro pins s σ H D I h
 refine wpAny_If (cy (hc pins s σ H _ I h) fun d s1 ⟨H1,I1,q1⟩=>?_)
 cases d with
 | true=>exact ha pins s1 σ H1 D I1 q1
 | false=>exact hb pins s1 σ H1 D I1 q1
end
abbrev TG:=V->St->Hp->(St->Hp->Prop)->Prop
abbrev Lf:=List V->St->Hp->(St->Hp->Prop)->Prop
def PG(X:Cx)(target:Expr)(t:TG):Prop :=
 ∀ (pins:List (Addr×Obj)) (s:Shared) (σ:St) (H:Hp) (v:V) (u:Value) (Q:St->Hp->Prop),Inv X pins σ H s->RelV v u->t v σ H Q ->
  wpAny (model X.prog X.w) X.A (assign target X.env u) (fun _ s'=>∃σ' H',Inv X pins σ' H' s'/\Q σ' H') X.xe s
def OQ(X:Cx)(ts:List Expr)(t:Lf):Prop :=
 ∀ (pins:List (Addr×Obj)) (s:Shared) (σ:St) (H:Hp) (vs:List V) (us:List Value) (Q:St->Hp->Prop),Inv X pins σ H s->aH vs us->t vs σ H Q ->
  wpAny (model X.prog X.w) X.A (assignInOrder ((assignEach ts X.env).map (·.2)) us) (fun _ s'=>∃σ' H',Inv X pins σ' H' s'/\Q σ' H') X.xe s
abbrev LU:=V->V->V->Hp->(Hp->Prop)->Prop
def NJ(X:Cx)(t:LU):Prop :=
 ∀ (pins:List (Addr×Obj)) (s:Shared) (σ:St) (H:Hp) (o i v:V) (ov iv u:Value) (Q:Hp->Prop),Inv X pins σ H s->RelV o ov->RelV i iv->RelV v u->t o i v H Q ->
  wpAny (model X.prog X.w) X.A (setItem ov iv u) (fun _ s'=>∃H',Inv X pins σ H' s'/\Q H') X.xe s
section
variable {X:Cx}{pos:Pos}
def xq(i:Nat):TG:=fun v σ H Q=>Q (σ.set i (some v)) H
theorem gx{i:Nat}{x:Str}(hN:X.N.Nodup)(hi:X.N[i]?=some x)(hx:Loc X.env.scope x)(hf:X.fn x=true\/X.env.scope.names.lookup x=some .local:=by first|exact .inl rfl|exact .inr rfl|assumption):PG X (.Name x pos) (xq i):=by
 intro pins s σ H v u Q I r h
 exact wpAny_assign_Name (yv I hN hi hx r (fun s' I'=>⟨_,H,I',h⟩) hf)
def O6:Lf:=fun vs σ H Q=>vs=[]/\Q σ H
def Of(t:TG)(u:Lf):Lf:=fun vs σ H Q=>∃v r,vs=v::r/\t v σ H fun σ' H'=>u r σ' H' Q
theorem vx:OQ X [] O6:=by
 intro pins s σ H vs us Q I r h
 obtain⟨e,h⟩:=h
 subst e
 cases r
 exact assignInOrder_nil ⟨σ,H,I,h⟩
theorem gR{e:Expr}{es:List Expr}{t:TG}{u:Lf}(h1:PG X e t)(h2:OQ X es u)
  (hs:(assignEach (e::es) X.env).map (·.2)=assign e X.env::(assignEach es X.env).map (·.2):=by rfl):OQ X (e::es) (Of t u):=by
 intro pins s σ H vs us Q I r h
 obtain⟨v,vr,e1,h⟩:=h
 subst e1
 cases r with
 | cons r rr =>
  rw[hs]
  refine assignInOrder_cons (cy (h1 pins s σ H _ _ _ I r h) fun _ s1 ⟨σ1,H1,I1,q1⟩=>?_)
  exact h2 pins s1 σ1 H1 _ _ Q I1 rr q1
def O2(K:W.Frag)(n:Nat)(t:Lf):TG:=fun v σ H Q=>∃a xs,v=.ref a/\jY K H a xs/\xs.length=n/\t xs σ H Q
theorem Aw{es:List Expr}{k:Nat}{t:Lf}{n:Nat}(hc:X.calm=true)(h:OQ X es t)
  (hn:(assignEach es X.env).length=n:=by rfl) (hst:(assignEach es X.env).findIdx? (·.1)=none:=by rfl):PG X (.Tuple es k pos) (O2 X.K n t):=by
 intro pins s σ H v u Q I r hw
 obtain⟨a,xs,e1,hq,hl,hw⟩:=hw
 subst e1
 cases r
 obtain⟨its,rv,ht,hz⟩:=I.tuple hq
 refine assign_Tuple_tuple (I.ok.hd hc) ht (by simp[hn,<- hl,rv.length]) hst fun h' hx=>?_
 have I1:Inv X pins σ H { s with heap:=h' }:=I.kept (t':=s.toks) fun b o e=>hx b o (zzB (zZ e)) e
 exact h pins _ σ H xs _ Q I1 (by simpa using rv) hw
def gP(to ti:TE)(t:LU):TG:=fun v σ H Q=>to σ H fun o H1=>ti σ H1 fun i H2=>t o i v H2 fun H3=>Q σ H3
theorem Lz{o i:Expr}{to ti:TE}{t:LU}(ho:PE X o to)(hi:PE X i ti)(hs:NJ X t)
  (ha:∀v,assign (.Subscript o i pos) X.env v=(do
   let ov <- holding [v] (eval o X.env)
   let iv <- holding [v,ov] (eval i X.env)
   standAt pos
   holding [v,ov,iv] (setItem ov iv v)
   release [v,ov,iv] []):=by intro _;rfl):PG X (.Subscript o i pos) (gP to ti t):=by
 intro pins s σ H v u Q I r h
 rw[ha]
 refine zW (wpAny_holding (cy (ho pins s σ H _ I h) fun ov s1 ⟨x,H1,I1,r1,q1⟩=>?_))
 refine zW (wpAny_holding (cy (hi pins s1 σ H1 _ I1 q1) fun iv s2 ⟨y,H2,I2,r2,q2⟩=>?_))
 refine zW (wpAny_standAt (zW (wpAny_holding (cy (hs pins s2 σ H2 x y v ov iv u _ I2 r1 r2 r q2) fun _ s3 ⟨H3,I3,q3⟩=>?_))))
 exact wpAny_release ⟨σ,H3,I3,q3⟩
def Hx(te:TE)(g:TG):TS:=fun D σ H=>te σ H fun x H1=>g x σ H1 D.nx
theorem MT{tg e:Expr}{te:TE}{g:TG}(he:PE X e te)(hg:PG X tg g)(hs:swapsWithSole [tg] e pos.line X.env=pure false:=by rfl)(hw:swappedStores [tg] e X.env=pure none:=by rfl)
  (h1:(assignEach [tg] X.env).map (·.2)=[assign tg X.env]:=by rfl):PS X (.Assign [tg] e pos) (Hx te g):=by
 intro pins s σ H D I h
 refine wpAny_Assign_stores (cy (he pins s σ H _ I h) fun v s1 ⟨x,H1,I1,r1,q1⟩=>?_) hs hw
 rw[h1]
 exact cy (hg pins s1 σ H1 x v _ I1 r1 q1) fun _ s2 q=>q
theorem Gi{i:Nat}{x:Str}{e:Expr}{te:TE}{pos':Pos}(hN:X.N.Nodup)(hi:X.N[i]?=some x)(hx:Loc X.env.scope x)(he:PE X e te)(hs:swapsWith e (some (.Name x pos')) pos.line X.env=pure false:=by rfl)(hf:X.fn x=true\/X.env.scope.names.lookup x=some .local:=by first|exact .inl rfl|exact .inr rfl|assumption) :
  PS X (.Assign [.Name x pos'] e pos) (Hx te (xq i)):=by
 intro pins s σ H D I h
 refine wpAny_Assign_Name (cy (he pins s σ H _ I h) fun v s1 ⟨y,H1,I1,r1,q1⟩=>?_) hs
 exact yv I1 hN hi hx r1 (fun s2 I2=>⟨_,H1,I2,q1⟩) hf
end
section
variable {X:Cx}{pos:Pos}
def MW(c:TT)(tb:TS):TS:=fun D σ H=>∃W:Nat->St->Hp->Prop,(∃m,W m σ H)/\∀m σ H,W m σ H ->
 c σ H fun b H1=>if b=true then ∃N:St->Hp->Prop,(∀σ' H',N σ' H'->∃m',m' < m/\W m' σ' H')/\tb { D with nx:=N,ct:=N,bk:=D.nx } σ H1 else D.nx σ H1
theorem Fs{c:Expr}{body:List Stmt}{tc:TT}{tb:TS}(hp:PassesOwn (model X.prog X.w) X.A X.env X.xe)(hc:PT X c tc)(hb:AF X body tb):PS X (.While c body [] pos) (MW tc tb):=by
 intro pins s σ H D I h
 obtain⟨W,⟨m0,w0⟩,turn⟩:=h
 refine wpAny_While (codeAny_whileLoop (fun n s'=>∃σ' H',Inv X pins σ' H' s'/\W n σ' H') ?_ m0 ⟨σ,H,I,w0⟩)
 rintro n s1 ⟨σ1,H1,I1,w1⟩
 refine wpAny_passesOwn hp (cy (hc pins s1 σ1 H1 _ I1 (turn n σ1 H1 w1)) fun b s2 ⟨H2,I2,q2⟩=>?_)
 cases b with
 | true =>
  obtain⟨N,hN,q2⟩:=q2
  rw[if_pos rfl]
  refine wpAny_passesOwn hp (cy (hb pins s2 σ1 H2 _ I2 q2) fun f s3 q3=>?_)
  cases f with
  | next =>
   obtain⟨σ3,H3,I3,n3⟩:=q3
   obtain⟨m',hm,w3⟩:=hN σ3 H3 n3
   exact⟨m',hm,σ3,H3,I3,w3⟩
  | cont =>
   obtain⟨σ3,H3,I3,n3⟩:=q3
   obtain⟨m',hm,w3⟩:=hN σ3 H3 n3
   exact⟨m',hm,σ3,H3,I3,w3⟩
  | brk=>exact q3
  | ret v=>exact q3
 | false =>
  rw[if_neg Bool.false_ne_true]
  exact wpAny_execs_nil ⟨σ1,H2,I2,q2⟩
end
structure It where
 go:Nat->Hp->Prop
 yld:Nat->Hp->V->Hp->Prop
 stop:Nat->Hp->Prop
def cK(X:Cx)(pins:List (Addr×Obj))(H:Hp)(b:Addr):Prop :=
 H b=none/\b≠X.env.locals/\b∉X.fs/\(b∈X.ex\/X.s₀.heap.objs.size<=b)/\(∀x c,X.env.cells.lookup x=some c->c≠b)/\∀p∈X.pn++pins,p.1≠b
theorem Inv.fpOk{X:Cx}{pins:List (Addr×Obj)}{σ:St}{H H':Hp}{s:Shared}{b:Addr}(I:Inv X pins σ H s)(hb:s.heap.objs.size<=b)(hn:H' b=none):cK X pins H' b:=by
 refine⟨hn,Nat.ne_of_gt (zP I.lt hb),I.nofs hb,.inr (yE I.sz hb),fun x c e z=>?_,fun p hp z=>?_⟩
 ·obtain⟨v,q⟩:=I.cell x c e
  exact absurd (zP q.lt (by rw[z];exact hb)) (Nat.lt_irrefl _)
 ·exact absurd (zP (zZ (I.pin p hp).1) (by rw[z];exact hb)) (Nat.lt_irrefl _)
structure Turn(P:Program)(w:World)(K:W.Frag)(tg:Expr)(J:It)(fp:List Addr)(it:Addr)(tn:Nat->Heap->Prop):Prop where
 mem:it∈fp
 obj:∀i h,tn i h->∀b∈fp,∃o,h.get? b=some o/\∀v,o.data≠.cell v
 keep:∀i h h',tn i h->(∀b∈fp,∀o,h.get? b=some o->h'.get? b=some o)->tn i h'
 item:∀ (X:Cx),X.prog=P->X.w=w->X.K=K->X.calm=true->∀ (i:Nat) (pins:List (Addr×Obj)) (s:Shared) (σ:St) (H:Hp) (E:Value->Shared->Prop),Inv X pins σ H s->(∀b∈fp,cK X pins H b)->tn i s.heap->J.go i H ->
  wpAny (model P w) X.A (pyNext (.ref it)) (fun r s1=>∃u,r=some u /\
   wpAny (model P w) X.A (letOwnedTupleGo tg (.ref it) u) (fun _ s2=>∃x H',Inv X pins σ H' s2/\RelV x u/\J.yld i H x H'/\tn (i+1) s2.heap/\∀b∈fp,H' b=none) E s1) E s
 done:∀ (X:Cx),X.prog=P->X.w=w->X.K=K->X.calm=true->∀ (i:Nat) (pins:List (Addr×Obj)) (s:Shared) (σ:St) (H:Hp) (E:Value->Shared->Prop),Inv X pins σ H s->(∀b∈fp,cK X pins H b)->tn i s.heap->J.stop i H ->
  wpAny (model P w) X.A (pyNext (.ref it)) (fun r s1=>r=none/\Inv X pins σ H s1) E s
 self:∀ (A:Around) (i:Nat) (s:Shared) (Q:Value->Shared->Prop) (E:Value->Shared->Prop),tn i s.heap->Q (.ref it) s->wpAny (model P w) A (pyIter (.ref it)) Q E s
abbrev TI:=St->Hp->(It->Hp->Prop)->Prop
def P0(X:Cx)(pins:List (Addr×Obj))(σ:St)(tg:Expr)(R:It->Hp->Prop)(itv:Value)(s2:Shared):Prop :=
 ∃ (it:Addr) (fp:List Addr) (tn:Nat->Heap->Prop) (J:It) (H':Hp),itv=.ref it/\Inv X pins σ H' s2/\Turn X.prog X.w X.K tg J fp it tn/\tn 0 s2.heap/\(∀b∈fp,cK X pins H' b)/\R J H'
def PI(X:Cx)(tg iter:Expr)(wi:TI):Prop :=
 ∀ (pins:List (Addr×Obj)) (s:Shared) (σ:St) (H:Hp) (R:It->Hp->Prop),Inv X pins σ H s->wi σ H R ->
  wpAny (model X.prog X.w) X.A (eval iter X.env) (fun v s1=>wpAny (model X.prog X.w) X.A (pyIter v) (P0 X pins σ tg R) X.xe s1) X.xe s
theorem Fh{M:Model}{A:Around}{E:Value->Shared->Prop}{s:Shared}{tg:Expr}{it:Addr}{u:Value}{o:Obj}{n:String}{vs:Array Value}{Q:Unit->Shared->Prop}(ho:s.heap.get? it=some o)(hc:o.cls=.type n)(hd:o.data=.fields vs)
  (hn:["enumerate","zip","dict_itemiterator","dict_reverseitemiterator","odict_iterator","itertools.zip_longest","itertools.pairwise"].contains n=false) (hQ:Q () s):wpAny M A (letOwnedTupleGo tg (.ref it) u) Q E s:=by
 unfold letOwnedTupleGo
 cases tg<;>first
  | exact zX hQ
  | (cases u<;>first
    | exact zX hQ
    | (refine zW (wpAny_load ho ?_)
       rw[hc,hd]
       show wpAny M A (if (["enumerate","zip","dict_itemiterator","dict_reverseitemiterator","odict_iterator","itertools.zip_longest","itertools.pairwise"].contains n&&vs[0]? == some (rawInt _))=true then _ else _) Q E s
       rw[if_neg (by intro h;rw[hn,Bool.false_and] at h;cases h)]
       exact zX hQ))
def PH(K:W.Frag)(a:Addr):It :=
 ⟨fun i H=>∃xs x,hZ K H a xs/\xs[i]?=some x,fun i H x H'=>H'=H/\∀xs,hZ K H a xs->xs[i]?=some x,fun i H=>∃xs,hZ K H a xs/\xs.length<=i⟩
def Pb(K:W.Frag)(a:Addr):It :=
 ⟨fun i H=>∃xs x,jY K H a xs/\xs[i]?=some x,fun i H x H'=>H'=H/\∀xs,jY K H a xs->xs[i]?=some x,fun i H=>∃xs,jY K H a xs/\xs.length<=i⟩
def OM(lo:Int)(n:Nat):It:=⟨fun i _=>i < n,fun i H x H'=>H'=H/\x=.int (lo+i),fun i _=>n<=i⟩
theorem DZ{P:Program}{w:World}{K:W.Frag}{tg:Expr}(a it:Addr):Turn P w K tg (PH K a) [it] it (fun i h=>h.IsListIter it a i) where
 mem:=by simp
 obj:=fun i h st b hb=>by
  have e:b=it:=by simpa using hb
  subst e
  obtain⟨o,e,c,d⟩:=st
  exact⟨o,e,fun v z=>by rw[d] at z;cases z⟩
 keep:=fun i h h' st k=>st.at fun o e=>k it (by simp) o e
 item:=by
  intro X hP hw hK hc i pins s σ H E I hf st hg
  subst hP hw hK
  obtain⟨xs,x,hq,hx⟩:=hg
  obtain⟨its,rv,p,hz⟩:=I.list hq
  obtain⟨u,hu,ru⟩:=rv.get hx
  obtain⟨f0,f1,f2,f3,f4,f5⟩:=hf it (by simp)
  refine wpAny_pyNext_list_item st p.isList (x:=u) (by simpa using hu) fun h' st' sb=>?_
  have I1:Inv X pins σ H { s with heap:=h' }:=I.turned (t':=s.toks) (fun b o hb e=>(sb.2 b hb).trans e) f0 f1 f3 f4 f5
  obtain⟨o,e,c,d⟩:=id st'
  exact⟨u,rfl,Fh (s:={ s with heap:=h' }) e c d (by decide) ⟨x,H,I1,ru,⟨rfl,fun ys hy=>by rw[I.list_inj hy hq];exact hx⟩,st',fun b hb=>(hf b hb).1⟩⟩
 done:=by
  intro X hP hw hK hc i pins s σ H E I hf st hg
  subst hP hw hK
  obtain⟨xs,hq,hx⟩:=hg
  obtain⟨its,rv,p,hz⟩:=I.list hq
  obtain⟨f0,f1,f2,f3,f4,f5⟩:=hf it (by simp)
  have hl:=rv.length
  exact wpAny_pyNext_list_end (I.ok.hd hc) st p.isList (by simp;omega) fun h' eb=>⟨rfl,I.turned (t':=s.toks) (fun b o hb e=>eb b o hb e) f0 f1 f3 f4 f5⟩
 self:=fun _ _ _ _ _ st h=>wpAny_pyIter_listiter st h
theorem Bz{P:Program}{w:World}{K:W.Frag}{tg:Expr}(a it:Addr):Turn P w K tg (Pb K a) [it] it (fun i h=>h.IsTupleIter it a i) where
 mem:=by simp
 obj:=fun i h st b hb=>by
  have e:b=it:=by simpa using hb
  subst e
  obtain⟨o,e,c,d⟩:=st
  exact⟨o,e,fun v z=>by rw[d] at z;cases z⟩
 keep:=fun i h h' st k=>st.at fun o e=>k it (by simp) o e
 item:=by
  intro X hP hw hK hc i pins s σ H E I hf st hg
  subst hP hw hK
  obtain⟨xs,x,hq,hx⟩:=hg
  obtain⟨its,rv,p,hz⟩:=I.tuple hq
  obtain⟨u,hu,ru⟩:=rv.get hx
  obtain⟨f0,f1,f2,f3,f4,f5⟩:=hf it (by simp)
  refine wpAny_pyNext_tuple_item st (show s.heap.IsTuple a its.toArray from p) (x:=u) (by simpa using hu) fun h' st' sb=>?_
  have I1:Inv X pins σ H { s with heap:=h' }:=I.turned (t':=s.toks) (fun b o hb e=>(sb.2 b hb).trans e) f0 f1 f3 f4 f5
  obtain⟨o,e,c,d⟩:=id st'
  exact⟨u,rfl,Fh (s:={ s with heap:=h' }) e c d (by decide) ⟨x,H,I1,ru,⟨rfl,fun ys hy=>by rw[I.tuple_inj hy hq];exact hx⟩,st',fun b hb=>(hf b hb).1⟩⟩
 done:=by
  intro X hP hw hK hc i pins s σ H E I hf st hg
  subst hP hw hK
  obtain⟨xs,hq,hx⟩:=hg
  obtain⟨its,rv,p,hz⟩:=I.tuple hq
  obtain⟨f0,f1,f2,f3,f4,f5⟩:=hf it (by simp)
  have hl:=rv.length
  exact wpAny_pyNext_tuple_end (I.ok.hd hc) st (show s.heap.IsTuple a its.toArray from p) (by simp;omega) fun h' eb=>⟨rfl,I.turned (t':=s.toks) (fun b o hb e=>eb b o hb e) f0 f1 f3 f4 f5⟩
 self:=fun _ _ _ _ _ st h=>wpAny_pyIter_tupleiter st h
theorem Bh{P:Program}{w:World}{K:W.Frag}{tg:Expr}(it:Addr)(lo:Int)(n:Nat):Turn P w K tg (OM lo n) [it] it (fun i h=>IsRangeIter h it (lo+(i:Nat) * 1) ((n:Int) - (i:Nat)) 1) where
 mem:=by simp
 obj:=fun i h st b hb=>by
  have e:b=it:=by simpa using hb
  subst e
  exact⟨_,st,fun v z=>by
   have z':Data.fields _=Data.cell v:=z
   cases z'⟩
 keep:=fun i h h' st k=>k it (by simp) _ st
 item:=by
  intro X hP hw hK hc i pins s σ H E I hf st hg
  subst hP hw hK
  obtain⟨f0,f1,f2,f3,f4,f5⟩:=hf it (by simp)
  have W:=Walks.range (prog:=X.prog) (w:=X.w) (I.ok.hd hc) it lo 1 n
  refine W.item i s _ _ hg st fun v h' tk hv st' kk=>?_
  obtain⟨t,rfl⟩:=hv
  have I1:Inv X pins σ H { s with heap:=h',toks:=tk }:=I.turned (fun b o hb e=>kk b o (by simpa using hb) e) f0 f1 f3 f4 f5
  refine⟨_,rfl,Fh (s:={ s with heap:=h',toks:=tk }) (n:="range_iterator") st' rfl rfl (by decide) ⟨.int (lo+i),H,I1,⟨t,?_⟩,⟨rfl,rfl⟩,st',fun b hb=>(hf b hb).1⟩⟩
  rw[Int.mul_one]
 done:=by
  intro X hP hw hK hc i pins s σ H E I hf st hg
  subst hP hw hK
  obtain⟨f0,f1,f2,f3,f4,f5⟩:=hf it (by simp)
  exact wpAny_pyNext_range_end (I.ok.hd hc) st (by have:n<=i:=hg;omega) fun h' eb=>⟨rfl,I.turned (t':=s.toks) (fun b o hb e=>eb b o hb e) f0 f1 f3 f4 f5⟩
 self:=fun _ _ _ _ _ st h=>wpAny_pyIter_rangeiter st h
section
variable {X:Cx}{tg:Expr}
theorem EB{pins:List (Addr×Obj)}{σ:St}{H:Hp}{s:Shared}{R:It->Hp->Prop}{E:Value->Shared->Prop}{lo hi:Int}{t u v:Tok}{tk:Nat}(I:Inv X pins σ H s)(h1:-(2 ^ 62)<=lo)(h2:lo < 2 ^ 62)(h3:-(2 ^ 62)<=hi)(h4:hi < 2 ^ 62)
  (q:R (OM lo (hi - lo).toNat) H):wpAny (model X.prog X.w) X.A (pyIter (.ref s.heap.objs.size)) (P0 X pins σ tg R) E { s with heap:=s.heap.push { cls:=.type "range",data:=.fields #[.int lo t,.int hi u,.int 1 v] },toks:=tk }:=by
 refine wpAny_pyIter_range (IsRange.new ..) (small_one h1 h2 h3 h4) ?_
 have I1:Inv X pins σ H { s with heap:=s.heap.push { cls:=.type "range",data:=.fields #[.int lo t,.int hi u,.int 1 v] },toks:=tk }:=I.kept fun b o e=>zV _ e
 refine⟨(s.heap.push { cls:=.type "range",data:=.fields #[.int lo t,.int hi u,.int 1 v] }).objs.size,[(s.heap.push { cls:=.type "range",data:=.fields #[.int lo t,.int hi u,.int 1 v] }).objs.size],_,_,H,rfl,
  I1.kept (t':=tk) fun b o e=>zV _ e,Bh _ lo (hi - lo).toNat,?_,fun b hb=>?_,q⟩
 ·have e1:lo+((0:Nat):Int) * 1=lo:=by simp
  have e2:(((hi - lo).toNat:Nat):Int) - ((0:Nat):Int)=Builtin.Range.rangeSize lo hi 1:=by rw[rangeSize_one];split<;>omega
  show IsRangeIter _ _ (lo+((0:Nat):Int) * 1) ((((hi - lo).toNat:Nat):Int) - ((0:Nat):Int)) 1
  rw[e1,e2]
  exact zY _ rfl
 ·have e:b=(s.heap.push { cls:=.type "range",data:=.fields #[.int lo t,.int hi u,.int 1 v] }).objs.size:=by simpa using hb
  subst e
  exact I1.fpOk (zzA _) (I1.hok.fresh (zzA _))
def N9(ta:TA):TI:=fun σ H R=>ta σ H fun vs H1=>∃j:Int,vs=[.int j]/\-(2 ^ 62)<=j/\j < 2 ^ 62/\R (OM 0 j.toNat) H1
theorem DY{a:Expr}{ta:TA}{p pos:Pos}(hg:Gl X "range")(hm:X.mg "range"=none)(ha:PA X [a] ta)(hs:starEach [a] X.env=[(false,eval a X.env)]:=by rfl):PI X tg (.Call (.Name "range" p) [a] [] pos) (N9 ta):=by
 intro pins s σ H R I h
 refine Call_ (jK I hg hm boot_range (PyProof.Rows.callWith_type1 (cy (ha pos pins s σ H _ I h) fun us s1 ⟨vs,H1,I1,r1,q1⟩=>?_) hs rfl))
 obtain⟨j,e,q1,q2,q⟩:=q1
 subst e
 cases r1 with
 | cons r rr =>
  cases rr
  obtain⟨t,rfl⟩:=r
  exact call_range_1 (EB I1 (by omega) (by omega) q1 q2 (by simpa using q))
def OV(wi:TI)(g:TG)(tb:TS):TS:=fun D σ H=>wi σ H fun J H1=>∃W:Nat->Nat->St->Hp->Prop,(∃m,W 0 m σ H1)/\∀i m σ H,W i m σ H ->
 (J.stop i H/\D.nx σ H)\/(J.go i H/\∃N:St->Hp->Prop,(∀σ' H',N σ' H'->∃m',m' < m/\W (i+1) m' σ' H')/\∀x H',J.yld i H x H'->g x σ H' fun σ2 H2=>tb { D with nx:=N,ct:=N,bk:=D.nx } σ2 H2)
def oa(fp:List Addr)(h:Heap):List (Addr×Obj):=fp.filterMap fun b=>(h.get? b).map fun o=>(b,o)
theorem dP{fp:List Addr}{h:Heap}{b:Addr}{o:Obj}(hb:b∈fp)(e:h.get? b=some o):(b,o)∈oa fp h:=List.mem_filterMap.mpr ⟨b,hb,by rw[e];rfl⟩
theorem DP{fp:List Addr}{h:Heap}{p:Addr×Obj}(hp:p∈oa fp h):p.1∈fp/\h.get? p.1=some p.2:=by
 obtain⟨b,hb,e⟩:=List.mem_filterMap.mp hp
 cases q:h.get? b with
 | none=>rw[q] at e;cases e
 | some o =>
  rw[q] at e
  have e':(b,o)=p:=Option.some.inj e
  subst e'
  exact⟨hb,q⟩
theorem Inv.pinned{pins:List (Addr×Obj)}{σ:St}{H:Hp}{s:Shared}{fp:List Addr}(I:Inv X pins σ H s)(hf:∀b∈fp,cK X pins H b)(ho:∀b∈fp,∃o,s.heap.get? b=some o/\∀v,o.data≠.cell v):Inv X (pins++oa fp s.heap) σ H s :=
 I.pins_of fun p hp=>(List.mem_append.mp hp).elim (fun z=>I.pin p (yF _ z)) fun z=>by
  obtain⟨hb,e⟩:=DP z
  obtain⟨f0,f1,f2,_⟩:=hf p.1 hb
  obtain⟨o,e',d⟩:=ho p.1 hb
  rw[e] at e';cases e'
  exact⟨e,f0,f1,f2,d⟩
theorem Inv.unpinned{pins pl:List (Addr×Obj)}{σ:St}{H:Hp}{s:Shared}(I:Inv X (pins++pl) σ H s):Inv X pins σ H s:=I.pins_of fun p hp=>I.pin p (yF _ (List.mem_append_left _ hp))
theorem K1{iter:Expr}{body:List Stmt}{wi:TI}{g:TG}{tb:TS}{pos:Pos}(hp:PassesOwn (model X.prog X.w) X.A X.env X.xe)(hc:X.calm=true)(hi:PI X tg iter wi)(hg:PG X tg g)(hb:AF X body tb)
  (hs:∀x,foldedSetIterable iter X.env x=pure x:=by intro _;rfl):PS X (.For tg iter body [] pos) (OV wi g tb):=by
 intro pins s σ H D I h
 refine wpAny_For (cy (hi pins s σ H _ I h) fun v s1 h1=>cy h1 fun itv s2 h2=>?_) hs
 obtain⟨it,fp,tn,J,H2,e,I2,T,nh,f2,W,⟨m0,w0⟩,turn⟩:=h2
 subst e
 have stat:∀ {H':Hp},(∀b∈fp,H' b=none)->∀b∈fp,cK X pins H' b:=fun hn b hb=>⟨hn b hb,(f2 b hb).2⟩
 refine codeAny_forLoop_any (fun n s'=>∃i σ' H',Inv X pins σ' H' s'/\tn i s'.heap/\(∀b∈fp,H' b=none)/\W i n σ' H') ?_ m0 ⟨0,σ,H2,I2,nh,fun b hb=>(f2 b hb).1,w0⟩
 rintro n s3 ⟨i,σ3,H3,I3,st3,fr3,w3⟩
 rcases turn i n σ3 H3 w3 with ⟨stop,qn⟩|⟨go,N,hN,step⟩
 ·refine wpAny_passesOwn hp (cy (T.done X rfl rfl rfl hc i pins s3 σ3 H3 X.xe I3 (stat fr3) st3 stop) fun r s4 ⟨hr,I4⟩=>?_)
  subst hr
  exact wpAny_execs_nil ⟨σ3,H3,I4,qn⟩
 ·refine wpAny_passesOwn hp (cy (T.item X rfl rfl rfl hc i pins s3 σ3 H3 X.xe I3 (stat fr3) st3 go) fun r s4 ⟨u,hr,h4⟩=>?_)
  subst hr
  refine wpAny_passesOwn hp (cy h4 fun _ s5 ⟨x,H5,I5,r5,y5,st5,fr5⟩=>?_)
  have I5':=I5.pinned (stat fr5) (T.obj _ _ st5)
  refine wpAny_passesOwn hp (cy (hg _ s5 σ3 H5 x u _ I5' r5 (step x H5 y5)) fun _ s6 ⟨σ6,H6,I6,q6⟩=>?_)
  refine wpAny_passesOwn hp (cy (hb _ s6 σ6 H6 _ I6 q6) fun f s7 q7=>?_)
  have again:∀ {σ7:St}{H7:Hp},Inv X (pins++oa fp s5.heap) σ7 H7 s7->N σ7 H7->∃m,m < n/\∃i σ' H',Inv X pins σ' H' s7/\tn i s7.heap/\(∀b∈fp,H' b=none)/\W i m σ' H':=fun {σ7 H7} I7 n7=>by
   obtain⟨m',hm,w7⟩:=hN σ7 H7 n7
   refine⟨m',hm,i+1,σ7,H7,I7.unpinned,T.keep _ _ _ st5 fun b hb o e=>(I7.pin (b,o) (yF _ (yF _ (dP hb e)))).1,fun b hb=>?_,w7⟩
   obtain⟨o,e,d⟩:=T.obj _ _ st5 b hb
   exact (I7.pin (b,o) (yF _ (yF _ (dP hb e)))).2.1
  cases f with
  | next=>obtain⟨σ7,H7,I7,n7⟩:=q7;exact again I7 n7
  | cont=>obtain⟨σ7,H7,I7,n7⟩:=q7;exact again I7 n7
  | brk=>obtain⟨σ7,H7,I7,q7⟩:=q7;exact⟨σ7,H7,I7.unpinned,q7⟩
  | ret v=>obtain⟨x7,σ7,H7,I7,r7,q7⟩:=q7;exact⟨x7,σ7,H7,I7.unpinned,r7,q7⟩
end
abbrev R2:=V->V->Hp->VK->Prop
def jm(X:Cx)(f:Value->Value->Sem Value)(r:R2):Prop :=
 ∀ (pins:List (Addr×Obj)) (s:Shared) (σ:St) (H:Hp) (x y:V) (v u:Value) (Q:VK),Inv X pins σ H s->RelV x v->RelV y u->r x y H Q ->
  wpAny (model X.prog X.w) X.A (f v u) (EP X pins σ Q) X.xe s
def d9(X:Cx)(f:Value)(r:List V->Hp->VK->Prop):Prop :=
 ∀ (pins:List (Addr×Obj)) (s:Shared) (σ:St) (H:Hp) (xs:List V) (us:List Value) (Q:VK),Inv X pins σ H s->aH xs us->r xs H Q ->
  wpAny (model X.prog X.w) X.A (call f us) (EP X pins σ Q) X.xe s
def NA(r:R2)(ta tb:TE):TE:=fun σ H Q=>ta σ H fun x H1=>tb σ H1 fun y H2=>r x y H2 Q
def rI(C:Int->Int->Prop)(g:Int->Int->V):R2:=fun x y H Q=>∃i j,x=.int i/\y=.int j/\C i j/\Q (g i j) H
def HX(g:Int->Int->V):R2:=fun x y H Q=>∃i j,x=.int i/\y=.int j/\Q (g i j) H
section
variable {X:Cx}{a b c:Expr}{ta tb tc:TE}{pos:Pos}
theorem La(ha:PE X a ta)(hb:PE X b tb){pins:List (Addr×Obj)}{s:Shared}{σ:St}{H:Hp}{R:V->V->Hp->Prop}(I:Inv X pins σ H s)
  (h:ta σ H fun x H1=>tb σ H1 fun y H2=>R x y H2) {Q:Value->Shared->Prop}{f:Value->Value->Sem Value}
  (hf:∀v u s2 x y H2,Inv X pins σ H2 s2->RelV x v->RelV y u->R x y H2->wpAny (model X.prog X.w) X.A (f v u) Q X.xe s2) :
  wpAny (model X.prog X.w) X.A (eval a X.env) (fun v s₁=>wpAny (model X.prog X.w) X.A (eval b X.env) (fun u s₂=>wpAny (model X.prog X.w) X.A (f v u) Q X.xe s₂) X.xe s₁) X.xe s:=by
 refine cy (ha pins s σ H _ I h) fun v s1 ⟨x,H1,I1,r1,q1⟩=>?_
 refine cy (hb pins s1 σ H1 _ I1 q1) fun u s2 ⟨y,H2,I2,r2,q2⟩=>?_
 exact hf v u s2 x y H2 I2 r1 r2 q2
theorem KH{op:Operator}{r:R2}(ho:jm X (binaryOp op) r)(ha:PE X a ta)(hb:PE X b tb):PE X (.BinOp a op b pos) (NA r ta tb):=by
 intro pins s σ H Q I h
 exact wpAny_BinOp (La ha hb I h fun v u s2 x y H2 I2 rx ry q=>ho pins s2 σ H2 x y v u Q I2 rx ry q)
theorem O8{f:Value->Value->Sem Value}{C:Int->Int->Prop}{g:Int->Int->Int}
  (rule:∀ (i j:Int) (t u:Tok) (s:Shared) (Q:Value->Shared->Prop) (E:Value->Shared->Prop),C i j->Q (.int (g i j) s.toks) { s with toks:=s.toks+1 }->wpAny (model X.prog X.w) X.A (f (.int i t) (.int j u)) Q E s) :
  jm X f (rI C fun i j=>.int (g i j)):=by
 intro pins s σ H x y v u Q I rx ry h
 obtain⟨i,j,rfl,rfl,hc,q⟩:=h
 obtain⟨t,rfl⟩:=rx
 obtain⟨t',rfl⟩:=ry
 exact rule i j t t' s _ _ hc ⟨.int (g i j),H,I.tok _,⟨_,rfl⟩,q⟩
theorem Oj{f:Value->Value->Sem Value}{g:Int->Int->Int}
  (rule:∀ (i j:Int) (t u:Tok) (s:Shared) (Q:Value->Shared->Prop) (E:Value->Shared->Prop),Q (.int (g i j) s.toks) { s with toks:=s.toks+1 }->wpAny (model X.prog X.w) X.A (f (.int i t) (.int j u)) Q E s) :
  jm X f (HX fun i j=>.int (g i j)):=by
 intro pins s σ H x y v u Q I rx ry h
 obtain⟨i,j,rfl,rfl,q⟩:=h
 obtain⟨t,rfl⟩:=rx
 obtain⟨t',rfl⟩:=ry
 exact rule i j t t' s _ _ ⟨.int (g i j),H,I.tok _,⟨_,rfl⟩,q⟩
theorem IJ{f:Value->Value->Sem Value}{g:Int->Int->Bool}
  (rule:∀ (i j:Int) (t u:Tok) (s:Shared) (Q:Value->Shared->Prop) (E:Value->Shared->Prop),Q (.bool (g i j)) s->wpAny (model X.prog X.w) X.A (f (.int i t) (.int j u)) Q E s) :
  jm X f (HX fun i j=>.bl (g i j)):=by
 intro pins s σ H x y v u Q I rx ry h
 obtain⟨i,j,rfl,rfl,q⟩:=h
 obtain⟨t,rfl⟩:=rx
 obtain⟨t',rfl⟩:=ry
 exact rule i j t t' s _ _ ⟨.bl (g i j),H,I,rfl,q⟩
def J8(i j:Int):Prop:=0 < j/\j < 1073741824
def si(i j:Int):Prop:=(-(2 ^ 64) < i/\i < 2 ^ 64)\/(-(2 ^ 64) < j/\j < 2 ^ 64)
theorem si.ok{i j:Int}(h:si i j):IntMulOk i j:=by
 rcases h with ⟨h1,h2⟩|⟨h1,h2⟩
 ·exact .of_left (intBits_le_64 h1 h2)
 ·exact .of_right (intBits_le_64 h1 h2)
theorem MG:jm X (binaryOp .Add) (HX fun i j=>.int (i+j)):=Oj fun _ _ _ _ _ _ _ q=>add_int q
theorem Mb:jm X (binaryOp .Sub) (HX fun i j=>.int (i - j)):=Oj fun _ _ _ _ _ _ _ q=>sub_int q
theorem Nj:jm X (binaryOp .Mult) (rI si fun i j=>.int (i * j)):=O8 fun _ _ _ _ _ _ _ hc q=>mul_int q hc.ok
theorem Io:jm X (binaryOp .FloorDiv) (rI J8 fun i j=>.int (i / j)):=O8 fun i j _ _ _ _ _ hc q=>by
 have h1:(0:Int) < j:=hc.1
 have h2:j < 1073741824:=hc.2
 exact floordiv_int (by omega) (by rw[Int.fdiv_eq_ediv_of_nonneg i (by omega)];exact q) (.inl (PyProof.noPylong_small (by omega)))
theorem Mg:jm X (binaryOp .Mod) (rI (fun _ j=>0 < j) fun i j=>.int (i % j)):=O8 fun i j _ _ _ _ _ hc q=>by
 have h1:(0:Int) < j:=hc
 exact mod_int' (by omega) (by rw[Int.fmod_eq_emod_of_nonneg i (by omega)];exact q)
end
section
variable {X:Cx}{a b c:Expr}{ta tb tc:TE}{pos:Pos}
theorem F3{pins:List (Addr×Obj)}{σ:St}{H:Hp}{s:Shared}{Q:VK}{k k':Bool}(I:Inv X pins σ H s)(q:Q (.bl k) H)(e:k=k'):EP X pins σ Q (.bool k') s:=by
 subst e
 exact⟨.bl k,H,I,rfl,q⟩
theorem GO:jm X (compareOp .Lt) (HX fun i j=>.bl (decide (i < j))):=IJ fun _ _ _ _ _ _ _ q=>lt_int q
theorem Hb:jm X (compareOp .LtE) (HX fun i j=>.bl (decide (i<=j))):=IJ fun _ _ _ _ _ _ _ q=>le_int q
theorem KU:jm X (compareOp .Gt) (HX fun i j=>.bl (decide (j < i))):=IJ fun _ _ _ _ _ _ _ q=>gt_int q
theorem KN:jm X (compareOp .GtE) (HX fun i j=>.bl (decide (j<=i))):=IJ fun _ _ _ _ _ _ _ q=>ge_int q
theorem Gq:jm X (compareOp .Is) (fun x y H Q=>y=.non/\Q (.bl (decide (x=.non))) H):=by
 intro pins s σ H x y v u Q I rx ry h
 obtain⟨rfl,q⟩:=h
 cases ry
 refine is_none_gen (F3 I q ?_)
 cases x<;>first
  | (cases rx;rfl)
  | (obtain⟨t,rfl⟩:=rx;rfl)
theorem BJ:jm X (compareOp .IsNot) (fun x y H Q=>y=.non/\Q (.bl (!decide (x=.non))) H):=by
 intro pins s σ H x y v u Q I rx ry h
 obtain⟨rfl,q⟩:=h
 cases ry
 refine isnot_none_gen (F3 I q ?_)
 cases x<;>first
  | (cases rx;rfl)
  | (obtain⟨t,rfl⟩:=rx;rfl)
theorem jm.or{f:Value->Value->Sem Value}{r r':R2}(h:jm X f r)(h':jm X f r'):jm X f (fun x y H Q=>r x y H Q\/r' x y H Q):=by
 intro pins s σ H x y v u Q I rx ry q
 rcases q with q|q
 ·exact h pins s σ H x y v u Q I rx ry q
 ·exact h' pins s σ H x y v u Q I rx ry q
theorem dm(b:Expr){op:CmpOp}(h:op≠.In:=by decide)(h2:op≠.NotIn:=by decide):behindInMarks op b=false:=by
 have e1:(op == CmpOp.In)=false:=by cases op<;>first|rfl|exact absurd rfl h
 have e2:(op == CmpOp.NotIn)=false:=by cases op<;>first|rfl|exact absurd rfl h2
 cases b<;>simp[behindInMarks,e1,e2]
theorem IE{op:CmpOp}{r:R2}(ho:jm X (compareOp op) r)(ha:PE X a ta)(hb:PE X b tb)(hm:behindInMarks op b=false):PE X (.Compare a [op] [b] pos) (NA r ta tb):=by
 intro pins s σ H Q I h
 exact wpAny_Compare1 (La ha hb I h fun v u s2 x y H2 I2 rx ry q=>ho pins s2 σ H2 x y v u Q I2 rx ry q) hm
def Ky(t:TE):TT:=fun σ H Q=>t σ H fun x H'=>∃k,x=.bl k/\Q k H'
theorem J0{op:CmpOp}{r:R2}(ho:jm X (compareOp op) r)(ha:PE X a ta)(hb:PE X b tb)(hm:behindInMarks op b=false):PT X (.Compare a [op] [b] pos) (Ky (NA r ta tb)):=by
 intro pins s σ H Q I h
 refine wpAny_isTrue_Compare1 (cy (ha pins s σ H _ I h) fun v s1 ⟨x,H1,I1,r1,q1⟩=>cy (hb pins s1 σ H1 _ I1 q1) fun u s2 ⟨y,H2,I2,r2,q2⟩ =>
  cy (ho pins s2 σ H2 x y v u _ I2 r1 r2 q2) fun c s3 ⟨z,H3,I3,r3,k,e,q3⟩=>?_) hm
 subst e
 cases r3
 exact wpAny_truthy_bool ⟨H3,I3,q3⟩
def Bx(r r':R2)(ta tb tc:TE):TE:=fun σ H Q=>ta σ H fun x H1=>tb σ H1 fun y H2=>r x y H2 fun z H3=>∃k,z=.bl k /\
 (if k=true then tc σ H3 fun w' H4=>r' y w' H4 Q else Q (.bl false) H3)
theorem HE{op op':CmpOp}{r r':R2}(ho:jm X (compareOp op) r)(ho':jm X (compareOp op') r')(ha:PE X a ta)(hb:PE X b tb)(hc:PE X c tc)
  (hm:lastMarks [op,op'] [b,c]=false:=by with_unfolding_all rfl):PE X (.Compare a [op,op'] [b,c] pos) (Bx r r' ta tb tc):=by
 intro pins s σ H Q I h
 refine Compare_chain (cy (ha pins s σ H _ I h) fun v s1 ⟨x,H1,I1,r1,q1⟩=>chain_link (cy (hb pins s1 σ H1 _ I1 q1) fun u s2 ⟨y,H2,I2,r2,q2⟩ =>
  cy (ho pins s2 σ H2 x y v u _ I2 r1 r2 q2) fun d s3 ⟨z,H3,I3,r3,k,e,q3⟩=>?_)) hm
 subst e
 cases r3
 refine wpAny_truthy_bool ?_
 cases k with
 | false=>exact ite_ff ⟨.bl false,H3,I3,rfl,q3⟩
 | true=>exact ite_tt (chain_last (cy (hc pins s3 σ H3 _ I3 q3) fun w' s4 ⟨z',H4,I4,r4,q4⟩=>ho' pins s4 σ H4 y z' u w' Q I4 r2 r4 q4))
theorem FP{op op':CmpOp}{r r':R2}(ho:jm X (compareOp op) r)(ho':jm X (compareOp op') r')(ha:PE X a ta)(hb:PE X b tb)(hc:PE X c tc)
  (hm:lastMarks [op,op'] [b,c]=false:=by with_unfolding_all rfl):PT X (.Compare a [op,op'] [b,c] pos) (Ky (Bx r r' ta tb tc)):=by
 intro pins s σ H Q I h
 refine isTrue_chain (cy (ha pins s σ H _ I h) fun v s1 ⟨x,H1,I1,r1,q1⟩=>test_link (cy (hb pins s1 σ H1 _ I1 q1) fun u s2 ⟨y,H2,I2,r2,q2⟩ =>
  cy (ho pins s2 σ H2 x y v u _ I2 r1 r2 q2) fun d s3 ⟨z,H3,I3,r3,k,e,q3⟩=>?_)) hm
 subst e
 cases r3
 refine wpAny_truthy_bool ?_
 cases k with
 | false =>
  obtain⟨k',e',q'⟩:=q3
  cases e'
  exact ite_ff ⟨H3,I3,q'⟩
 | true =>
  refine ite_tt (test_last (cy (hc pins s3 σ H3 _ I3 q3) fun w' s4 ⟨z',H4,I4,r4,q4⟩=>cy (ho' pins s4 σ H4 y z' u w' _ I4 r2 r4 q4) fun d' s5 ⟨z2,H5,I5,r5,k2,e2,q5⟩=>?_))
  subst e2
  cases r5
  exact wpAny_truthy_bool ⟨H5,I5,q5⟩
theorem qd:(sizeLine:Nat) < 2 ^ 63:=by rw[sizeLine_eq];decide
theorem vals1{x:V}{us:List Value}(r:aH [x] us):∃u,us=[u]/\RelV x u:=by
 cases r with
 | cons r1 r2=>cases r2;exact⟨_,rfl,r1⟩
theorem vals2{x y:V}{us:List Value}(r:aH [x,y] us):∃u w',us=[u,w']/\RelV x u/\RelV y w':=by
 cases r with
 | cons r1 r2 =>
  cases r2 with
  | cons r3 r4=>cases r4;exact⟨_,_,rfl,r1,r3⟩
end
section
variable {prog:Program}{w:World}{A:Around}{E:Value->Shared->Prop}{s:Shared}{K:W.Frag}{x dx C f:Addr}{mA:Str->Option Value}{name:Str}{v:Value}
end
section
variable {P:Program}{w:World}{H H':Hp}{h h':Heap}{a C dx:Addr}{fs fs':List (Str×V)}
end
section
variable {X:Cx}{pins:List (Addr×Obj)}{σ:St}{H:Hp}{s:Shared}{a C dx:Addr}{fs:List (Str×V)}{f:Str}{v:V}{A:Around}{E:Value->Shared->Prop}
end
section
variable {X:Cx}{o e value:Expr}{f:Str}{pos pos' tpos:Pos}{ta tv:TE}
end
section
variable {X:Cx}{pins:List (Addr×Obj)}{σ:St}{H:Hp}{s:Shared}{A:Around}{E:Value->Shared->Prop}{Q:Value->Shared->Prop}{c:Value}{b:Bool}
end
structure eH(k:Nat)(A:Around):Prop where
 hd:A.handled=none
 dp:A.depth+3 * k+5 < recursionLimit
 un:A.units+16 * k+200 < cLine
theorem eH.mono{j k:Nat}{A:Around}(r:eH k A)(h:j<=k):eH j A:=⟨r.hd,by have:=r.dp;omega,by have:=r.un;omega⟩
theorem eH.deeper{k:Nat}{A:Around}(r:eH (k+1) A)(env:Env):eH k (A.deeper env) :=
 ⟨r.hd,by have:=r.dp;show A.depth+1+3 * k+5 < _;omega,by have:=r.un;show A.units+3+16 * k+200 < _;omega⟩
theorem eH.in1{k:Nat}{A:Around}(r:eH (k+1) A):eH k A.in1 :=
 ⟨r.hd,by have:=r.dp;show A.depth+3 * k+5 < _;omega,by have:=r.un;show A.units+1+16 * k+200 < _;omega⟩
theorem eH.depth{k:Nat}{A:Around}(r:eH k A):A.depth < recursionLimit:=by have:=r.dp;omega
theorem eH.units{k:Nat}{A:Around}(r:eH k A):A.units+64 < cLine:=by have:=r.un;omega
theorem eH.units0{k:Nat}{A:Around}(r:eH k A):A.units < cLine:=by have:=r.un;omega
def Pw:TA:=fun _ H Q=>Q [] H
def Oi(ta:TE)(tr:TA):TA:=fun σ H Q=>ta σ H fun x H1=>tr σ H1 fun xs H2=>Q (x::xs) H2
section
variable {X:Cx}{e:Expr}{es:List Expr}{te:TE}{t:TA}{pos:Pos}
theorem iS:PA X [] Pw:=fun _ _ _ _ H Q I h=>Calls.spliced_nil ⟨[],H,I,.nil,h⟩
theorem dg(ha:PE X e te)(hr:PA X es t)(hs:starEach (e::es) X.env=(false,eval e X.env)::starEach es X.env:=by rfl):PA X (e::es) (Oi te t):=by
 intro pos pins s σ H Q I h
 rw[hs]
 show wpAny _ _ (spliced ((false,eval e X.env)::backTo pos (starEach es X.env))) _ _ s
 refine Calls.spliced_cons (cy (ha pins s σ H _ I h) fun u s1 ⟨x,H1,I1,r1,q1⟩=>?_)
 exact cy (hr pos pins s1 σ H1 _ I1 q1) fun us s2 ⟨xs,H2,I2,r2,q2⟩=>⟨x::xs,H2,I2,.cons r1 r2,q2⟩
def PZ(t:TA):TE:=fun σ H Q=>t σ H fun xs H1=>xs.length<=sizeLine/\∀p,H1 p=none->Q (.ref p) (upd H1 p (.tup xs))
def Po(t:TA):TE:=fun σ H Q=>t σ H fun xs H1=>xs.length<=sizeLine/\∀p,H1 p=none->Q (.ref p) (upd H1 p (.lst xs))
theorem Mr{x1}(h:PA X es t):PE X (.Tuple es x1 pos) (PZ t):=by
 intro pins s σ H Q I hq
 refine wpAny_Tuple_spliced (cy (h pos pins s σ H _ I hq) fun us s1 ⟨xs,H1,I1,r,z,q⟩=>⟨by rw[<- r.length];exact z,?_⟩)
 have hf:H1 s1.heap.objs.size=none:=I1.hok.fresh (zzA _)
 refine⟨.ref s1.heap.objs.size,upd H1 s1.heap.objs.size (.tup xs),I1.laid (t':=s1.toks) (fun b u e=>zV _ e) (zzA _) ?_,rfl,q _ hf⟩
 exact⟨z,us,r,⟨_,zY _ rfl,rfl,_,rfl⟩,_,zY _ rfl,rfl⟩
theorem F1(h:PA X es t):PE X (.List es pos) (Po t):=by
 intro pins s σ H Q I hq
 refine wpAny_List_spliced (cy (h pos pins s σ H _ I hq) fun us s1 ⟨xs,H1,I1,r,z,q⟩=>⟨by rw[<- r.length];exact z,?_⟩)
 have hf:H1 s1.heap.objs.size=none:=I1.hok.fresh (zzA _)
 refine⟨.ref s1.heap.objs.size,upd H1 s1.heap.objs.size (.lst xs),I1.laid (t':=s1.toks) (fun b u e=>zV _ e) (zzA _) ?_,rfl,q _ hf⟩
 exact⟨z,us,0,r,zY _ rfl⟩
end
abbrev Sp:=List V->Hp->VK->XK->Prop
abbrev Ex:=List Env->Hp->Shared->XK->Value->Shared->Prop
structure Kb(P:Program)(w:World)(K:W.Frag)(mg:Str->Option Value)(base:Heap)(A:Around)(outer:List Env)(s:Shared)(H:Hp):Prop where
 frames:A.frames=some outer
 mod:Mod K mg base
 bs:∀b o,base.get? b=some o->s.heap.get? b=some o/\H b=none
 bsz:base.objs.size<=s.heap.objs.size
 funs:s.heap.FunFrames base outer
 frf:∀b∈Ff outer,H b=none
 hok:pW P w H s.heap
 bare:AllBare s.gens
def CE(outer:List Env)(P:Program)(w:World)(H:Hp)(s:Shared)(Q:VK)(u:Value)(s':Shared):Prop :=
 ∃v H',s'.os=s.os/\AllBare s'.gens/\Un (Ff outer) [] H H' s.heap s'.heap/\pW P w H' s'.heap/\RelV v u/\Q v H'
def CR(CX:Ex)(outer:List Env)(P:Program)(w:World)(H:Hp)(s:Shared)(Q:VK)(E:XK)(r:Result)(s':Shared):Prop :=
 match r with
 | .ok (.ret u)=>CE outer P w H s Q u s'
 | .ok _=>False
 | .error e=>CX outer H s E e s'
structure pA(P:Program)(w:World)(K:W.Frag)(mg:Str->Option Value)(base:Heap)(CX:Ex)(k:Nat)(f:Addr)(fd:FuncData)(ps:List Str)(sp:Sp):Prop where
 len:∀vs H Q E,sp vs H Q E->vs.length=ps.length
 run:∀ (A:Around) (outer:List Env) (s:Shared) (H:Hp) (args:Args) (us:List Value) (vs:List V) (Q:VK) (E:XK),eH k A->Kb P w K mg base A outer s H->BindsTo s fd args (ps.zip us)->aH vs us->sp vs H Q E ->
  codeAny (model P w) A (.call (.ref f) args) (CR CX outer P w H s Q E) s
theorem pA.mono{P:Program}{w:World}{K:W.Frag}{mg:Str->Option Value}{base:Heap}{CX:Ex}{j k:Nat}{f:Addr}{fd:FuncData}{ps:List Str}{sp:Sp}(F:pA P w K mg base CX j f fd ps sp)(h:j<=k) :
  pA P w K mg base CX k f fd ps sp:=⟨F.len,fun A outer s H args us vs Q E hr=>F.run A outer s H args us vs Q E (hr.mono h)⟩
section
variable {X:Cx}{pins:List (Addr×Obj)}{σ:St}{H:Hp}{s s':Shared}
theorem Inv.env0(I:Inv X pins σ H s):Kb X.prog X.w X.K X.mg X.base X.A X.stack s H :=
 ⟨I.ok.frames,I.ok.mod,I.bs,yE I.ok.bsz I.sz,I.stack,I.stkFree,I.hok,I.bare⟩
theorem Inv.after{Q:VK}{u:Value}(I:Inv X pins σ H s)(h:CE X.stack X.prog X.w H s Q u s'):EP X pins σ Q u s':=by
 obtain⟨v,H',os,bare,un,hok,r,q⟩:=h
 obtain⟨hh,g,d,t,os'⟩:=s'
 obtain rfl:os'=s.os:=os
 exact⟨v,H',I.call (h':=hh) (g':=g) (d':=d) (t':=t) (ch:=[]) un hok bare (fun b z=>absurd z (by simp)),r,q⟩
end
def Ow(sp:Sp)(dvs:List V)(E:XK)(t:TA):TE:=fun σ H Q=>t σ H fun vs H1=>sp (vs++dvs) H1 Q E
def Binds(K:W.Frag)(fd:FuncData)(ps:List Str)(ds:List Value):Prop :=
 ∀ (s:Shared) (us:List Value),K.In s.heap->(us++ds).length=ps.length->BindsTo s fd ⟨us,[]⟩ (ps.zip (us++ds))
theorem Binds.all{K:W.Frag}{fd:FuncData}{ps:List Str}(h:∀us:List Value,us.length=ps.length->bindArgs fd ⟨us,[]⟩=pure (ps.zip us)):Binds K fd ps []:=fun s us _ hl=>by
 rw[List.append_nil] at hl ⊢
 exact .of_eq (h us hl)
def Aa(CX:Ex)(X:Cx)(E:XK):Prop:=∀ (pins:List (Addr×Obj)) (σ:St) (H:Hp) (s:Shared) (e:Value) (s':Shared),Inv X pins σ H s->CX X.stack H s E e s'->X.xe e s'
section
variable {X:Cx}{CX:Ex}{k:Nat}{f C:Addr}{fd:FuncData}{ps:List Str}{sp:Sp}{dvs:List V}{ds:List Value}{E:XK}{x m:Str}{p pos apos:Pos}{e o:Expr}{es:List Expr}{ta:TE}{t:TA}
theorem GV{pins:List (Addr×Obj)}{σ:St}{H:Hp}{s:Shared}{Q:VK}{us:List Value}{vs:List V}(F:pA X.prog X.w X.K X.mg X.base CX k f fd ps sp)(hr:eH k X.A)(hb:Binds X.K fd ps ds)(hd:aH dvs ds)(hx:Aa CX X E)
  (I:Inv X pins σ H s) (r:aH vs us) (h:sp (vs++dvs) H Q E):wpAny (model X.prog X.w) X.A (call (.ref f) us) (EP X pins σ Q) X.xe s:=by
 have r2:aH (vs++dvs) (us++ds):=r.append hd
 have hl:(us++ds).length=ps.length:=by rw[<- r2.length];exact F.len _ _ _ _ h
 refine wpAny_call (codeAny_mono (F.run X.A X.stack s H ⟨us,[]⟩ (us++ds) (vs++dvs) Q E hr I.env0 (hb s us I.kIn hl) r2 h) fun r s' hq=>?_)
 cases r with
 | error e=>exact hx pins σ H s e s' I hq
 | ok fl =>
  cases fl with
  | ret u=>exact I.after hq
  | next=>exact False.elim hq
  | brk=>exact False.elim hq
  | cont=>exact False.elim hq
theorem Ia(F:pA X.prog X.w X.K X.mg X.base CX k f fd ps sp)(hr:eH k X.A)(hg:Gl X x)(hm:X.mg x=some (.ref f))(hk:W.keepIn X.K (.ref f)=true)(hb:Binds X.K fd ps ds)(hd:aH dvs ds)(hx:Aa CX X E)
  (ha:PA X (e::es) t) (hdb:(x == ("__debug__":Str))=false:=by decide) (he:starEach (e::es) X.env=(false,eval e X.env)::starEach es X.env:=by rfl) (hpl:(backTo pos (starEach es X.env)).any (·.1)=false:=by rfl) :
  PE X (.Call (.Name x p) (e::es) [] pos) (Ow sp dvs E t):=by
 intro pins s σ H Q I h
 refine wpAny_Call_Name_kw (B1 I hg hm ?_ hdb)
 refine W.callWith_K (h₀:=X.base) I.ok.mod.kin hk (cy (ha pos pins s σ H _ I h) fun us s1 ⟨vs,H1,I1,r,q⟩=>⟨I1.kIn,?_⟩) he hpl
 exact GV F hr hb hd hx I1 r q
end
section
variable {X:Cx}{CX:Ex}{k:Nat}{f C:Addr}{fd:FuncData}{ps ks:List Str}{sp:Sp}{E:XK}{x m:Str}{p pos apos kpos:Pos}{e o:Expr}{es:List Expr}{kws:List Keyword}{te ta:TE}{t tk:TA}{nm:Option Str}
variable {g:List Value->List Value->List Value}{gV:List V->List V->List V}
end
structure gm(N P:List Str)(sc:Scope):Prop where
 kind:sc.kind=.function
 co:sc.isCoroutine=false
 gen:sc.isGenerator=false
 nd:N.Nodup
 pre:N.take P.length=P
 par:∀x∈P,sc.names.lookup x=some .local \/ sc.names.lookup x=some .cell
 nofree:∀y∈sc.names,y.2≠.free
theorem uh{kindOf:Str->Option NameKind}{x:Str}:∀ {binds:List (Str×Value)}{m:Str->Option Value},(∀v,(x,v)∉binds)->bindL kindOf binds m x=m x
 | [],_,_=>rfl
 | (n,v)::r,m,h=>by
  unfold bindL
  rw[uh fun w hw=>h w (zC _ hw)]
  split
  ·have:x≠n:=by rintro rfl;exact h v zE
   simp[this]
  ·rfl
theorem ud{kindOf:Str->Option NameKind}{x:Str}:∀ {binds:List (Str×Value)}{m:Str->Option Value},(∀v,(x,v)∉binds)->bindC kindOf binds m x=m x
 | [],_,_=>rfl
 | (n,v)::r,m,h=>by
  unfold bindC
  rw[ud fun w hw=>h w (zC _ hw)]
  split
  ·rfl
  ·have:x≠n:=by rintro rfl;exact h v zE
   simp[this]
theorem uz{kindOf:Str->Option NameKind}{x:Str}{v:Value}:∀ {P:List Str}{vs:List Value}{i:Nat}{m:Str->Option Value},P.Nodup->P[i]?=some x->vs[i]?=some v->kindOf x=some .local ->
  bindL kindOf (P.zip vs) m x=some v
 | [],_,_,_,_,h,_,_=>by simp at h
 | _::_,[],_,_,_,_,h,_=>by simp at h
 | p::P,w::vs,0,m,nd,h1,h2,hk=>by
  simp at h1 h2;subst h1;subst h2
  show bindL kindOf ((p,w)::P.zip vs) m p=_
  unfold bindL
  rw[uh fun v hv=>(List.nodup_cons.mp nd).1 (List.of_mem_zip hv).1,if_pos hk]
  simp
 | p::P,w::vs,i+1,m,nd,h1,h2,hk=>by
  show bindL kindOf ((p,w)::P.zip vs) m x=_
  unfold bindL
  exact uz (i:=i) (List.nodup_cons.mp nd).2 (by simpa using h1) (by simpa using h2) hk
theorem uq{kindOf:Str->Option NameKind}{x:Str}{v:Value}:∀ {P:List Str}{vs:List Value}{i:Nat}{m:Str->Option Value},P.Nodup->P[i]?=some x->vs[i]?=some v->kindOf x≠some .local ->
  bindC kindOf (P.zip vs) m x=some v
 | [],_,_,_,_,h,_,_=>by simp at h
 | _::_,[],_,_,_,_,h,_=>by simp at h
 | p::P,w::vs,0,m,nd,h1,h2,hk=>by
  simp at h1 h2;subst h1;subst h2
  show bindC kindOf ((p,w)::P.zip vs) m p=_
  unfold bindC
  rw[ud fun v hv=>(List.nodup_cons.mp nd).1 (List.of_mem_zip hv).1,if_neg hk]
  simp
 | p::P,w::vs,i+1,m,nd,h1,h2,hk=>by
  show bindC kindOf ((p,w)::P.zip vs) m x=_
  unfold bindC
  exact uq (i:=i) (List.nodup_cons.mp nd).2 (by simpa using h1) (by simpa using h2) hk
def start(N:List Str)(vs:List V):St:=vs.map some++List.replicate (N.length - vs.length) none
def Dp(CX:Ex)(P:Program)(w:World)(K:W.Frag)(mg:Str->Option Value)(base:Heap)(N:List Str)(qual:Str)(scope:Scope)(f:Addr)(cd:Value)(A:Around)(outer:List Env)(s:Shared)(H:Hp)(E:XK):Cx where
 prog:=P
 w:=w
 K:=K
 mg:=mg
 base:=base
 A:=A.deeper (envOfC qual scope s.heap.objs.size f cd)
 N:=N
 s₀:=s
 H₀:=H
 env:=envOfC qual scope s.heap.objs.size f cd
 outer:=outer
 stack:=envOfC qual scope s.heap.objs.size f cd::outer
 ex:=[]
 calm:=true
 fn:=fun _=>true
 pn:=[]
 xe:=fun e s'=>wpAny (model P w) (A.deeper (envOfC qual scope s.heap.objs.size f cd)) (leaving (envOfC qual scope s.heap.objs.size f cd) e) (fun _ s''=>CX outer H s E e s'') (fun e' s''=>CX outer H s E e' s'') s'
theorem qZ{sc:Scope}{n:Nat}{x:Str}(h:sc.names.lookup x=some .cell):∃c,(cellsFrom n sc.names []).lookup x=some c:=by
 have q:=W.cellsFrom_some sc.names n [] (.inl h)
 exact Option.isSome_iff_exists.mp q
theorem Dv{CX:Ex}{P:Program}{w:World}{K:W.Frag}{mg:Str->Option Value}{base:Heap}{N ps:List Str}{qual:Str}{scope:Scope}{f:Addr}{cd:Value}{A:Around}{outer:List Env}{s s1:Shared}{H:Hp}{E:XK}{us:List Value}{vs:List V}
  (S:gm N ps scope) (hd:A.handled=none) (e0:Kb P w K mg base A outer s H) (hl:vs.length=ps.length) (r:aH vs us)
  (x:InCallC s s.heap.objs.size (bindL (envOfC qual scope s.heap.objs.size f cd).kindOf (ps.zip us) fun _=>none) (cellsFrom (s.heap.objs.size+1) scope.names []) (bindC (envOfC qual scope s.heap.objs.size f cd).kindOf (ps.zip us) fun _=>none) s1) :
  Inv (Dp CX P w K mg base N qual scope f cd A outer s H E) [] (start N vs) H s1:=by
 have hpl:ps.length<=N.length:=by have:=congrArg List.length S.pre;rw[List.length_take] at this;omega
 obtain⟨h1,tk,rfl,hk⟩:=x.done
 have noA:∀b:Addr,b∉(Dp CX P w K mg base N qual scope f cd A outer s H E).ex:=fun b z=>absurd (show b∈([]:List Addr) from z) (by simp)
 refine⟨⟨e0.mod,S.kind,rfl,rfl,zzA _,fun y z c h1 h2=>?_,fun y hy=>?_,fun y c _ h=>?_,fun _=>hd,Around.frames_deeper e0.frames,.inr ⟨rfl,rfl⟩,fun b z=>absurd z (noA b),e0.bs,e0.bsz,fun b _ _=>noA b,fun b z=>absurd z (noA b),e0.funs,e0.frf⟩,
  rfl,e0.bare,Un.kept hk,⟨_,x.toInCall.ns,fun i y v h1 h2 h3=>?_⟩,fun y c h=>⟨_,x.cell y c h⟩,e0.hok.fresh (zzA _),fun y c h=>?_,fun p hp=>absurd (show p∈([]:List (Addr×Obj)) from hp) (by simp),e0.hok.kept hk,?_⟩
 ·exact name_of_addr x.apart (PySem.mem_of_lookup h1) (PySem.mem_of_lookup h2)
 ·have hy:scope.names.lookup y=some .cell\/scope.names.lookup y=some .free:=hy
  rcases hy with hy|hy
  ·exact qZ hy
  ·exact absurd rfl (S.nofree _ (PySem.mem_of_lookup hy))
 ·exact Nat.le_of_lt (x.above y c (PySem.mem_of_lookup h))
 ·have hi:i < vs.length:=by
   unfold start at h2
   by_cases hi:i < vs.length
   ·exact hi
   ·rw[List.getElem?_append_right (by simpa using hi)] at h2
    rw[List.getElem?_replicate] at h2
    split at h2<;>cases h2
  have ha:vs[i]?=some v:=by
   unfold start at h2
   rw[List.getElem?_append_left (by simpa using hi),zO] at h2
   cases e:vs[i]? with
   | none=>rw[e] at h2;cases h2
   | some a=>rw[e] at h2;cases h2;rfl
  obtain⟨u,hu,rv⟩:=r.get ha
  have hp:ps[i]?=some y:=by
   rw[<- S.pre,List.getElem?_take_of_lt (by omega)];exact h1
  have ndP:ps.Nodup:=by rw[<- S.pre];exact S.nd.sublist (List.take_sublist _ _)
  refine⟨u,rv,?_⟩
  rcases S.par y (List.mem_of_getElem? hp) with k|k
  ·exact .inl ⟨k,uz ndP hp hu k⟩
  ·obtain⟨c,e⟩:=qZ (n:=s.heap.objs.size+1) k
   refine .inr ⟨.inl k,c,e,?_⟩
   have q:=x.cell y c e
   rw[uq ndP hp hu (by show scope.names.lookup y≠_;rw[k];decide)] at q
   exact q
 ·exact e0.hok.fresh (Nat.le_of_lt (x.above y c (PySem.mem_of_lookup h)))
 ·unfold start
  show _=N.length
  rw[zN,zD,List.length_replicate]
  omega
theorem NB{CX:Ex}{P:Program}{w:World}{K:W.Frag}{mg:Str->Option Value}{base:Heap}{k:Nat}{f:Addr}{name qual:Str}{params:Arguments}{body:List Stmt}{scope:Scope}{dV kV doc pm cdv ct oc:Value}{an od:Option Addr}
  {osl:Array (Option Value)}{N ps:List Str}{sp:Sp}(lk:K.lookup f=some ⟨oc,od,.func (W.fnOf name qual params body scope dV kV doc pm an cdv ct),osl⟩) (hcd:W.codeIn K cdv qual=true) (S:gm N ps scope)
  (len:∀vs H Q E,sp vs H Q E->vs.length=ps.length)
  (hbody:∀ (A:Around) (outer:List Env) (s:Shared) (H:Hp) (vs:List V) (Q:VK) (E:XK),eH k (A.deeper (envOfC qual scope s.heap.objs.size f cdv))->sp vs H Q E ->
   ∃t,AF (Dp CX P w K mg base N qual scope f cdv A outer s H E) body t/\t { nx:=fun _ H'=>Q .non H',rt:=Q } (start N vs) H) :
  pA P w K mg base CX (k+1) f (W.fnOf name qual params body scope dV kV doc pm an cdv ct) ps sp:=by
 refine⟨len,fun A outer s H args us vs Q E hr e0 hb r hsp=>?_⟩
 have hl:=len _ _ _ _ hsp
 have KX:K.In s.heap:=e0.mod.kin.keeps fun b o e=>(e0.bs b o e).1
 have lim:s.heap.NoLimit:=e0.mod.nolimit.keeps fun b o e=>(e0.bs b o e).1
 have hkind:∀y∈ps.zip us,scope.names.lookup y.1=some .local \/ (scope.names.lookup y.1=some .cell/\((cellsFrom (s.heap.objs.size+1) scope.names []).lookup y.1).isSome=true):=fun ⟨n,v⟩ hy=>by
  rcases S.par n (List.of_mem_zip hy).1 with q|q
  ·exact .inl q
  ·exact .inr ⟨q,W.cellsFrom_some _ _ _ (.inl q)⟩
 refine codeAny_call_function hr.depth (KX _ _ lk) rfl S.co S.gen rfl (W.codeRec_of KX hcd) (hb _ _ _ _ ?_)
 refine wpAny_newFunctionEnv_cells S.kind hkind fun env he s1 x=>?_
 subst he
 refine⟨lim.keeps x.toInCall.keep,codeAny_func ?_⟩
 obtain⟨t,ht,hq⟩:=hbody A outer s H vs Q E (hr.deeper _) hsp
 have I:Inv (Dp CX P w K mg base N qual scope f cdv A outer s H E) [] (start N vs) H s1:=Dv S hr.hd e0 hl r x
 refine wpAny_mono (ht [] s1 (start N vs) H _ I hq) (fun fl s' hs=>?_) fun e s' hs=>hs
 have fin:∀ {σ':St}{H':Hp}{v:V}{u:Value},Inv (Dp CX P w K mg base N qual scope f cdv A outer s H E) [] σ' H' s'->RelV v u->Q v H'->CE outer P w H s Q u s' :=
  fun {σ' H' v u} J rv q=>⟨v,H',J.os,J.bare,J.base,J.hok,rv,q⟩
 cases fl with
 | ret u =>
  obtain⟨v,σ',H',J,rv,q⟩:=hs
  exact fin J rv q
 | next =>
  obtain⟨σ',H',J,q⟩:=hs
  exact fin (v:=V.non) (u:=Value.none) J rfl q
 | brk =>
  obtain⟨_,_,_,q⟩:=hs
  exact False.elim q
 | cont =>
  obtain⟨_,_,_,q⟩:=hs
  exact False.elim q
section
variable {X:Cx}{x:Str}{p pos:Pos}{e:Expr}{es:List Expr}{t:TA}{id T:String}{r:List V->Hp->VK->Prop}
def OI(r:List V->Hp->VK->Prop)(t:TA):TE:=fun σ H Q=>t σ H fun vs H1=>r vs H1 Q
theorem nq(hc:d9 X (.builtin id) r)(hg:Gl X x)(hm:X.mg x=none)(hv:bootBuiltins x=some (.builtin id))(ha:PA X (e::es) t)(hn:x≠"__name__":=by decide)(hdb:(x == ("__debug__":Str))=false:=by decide)
  (he:starEach (e::es) X.env=(false,eval e X.env)::starEach es X.env:=by rfl) (hpl:(backTo pos (starEach es X.env)).any (·.1)=false:=by rfl):PE X (.Call (.Name x p) (e::es) [] pos) (OI r t):=by
 intro pins s σ H Q I h
 refine wpAny_Call_Name_kw (jK I hg hm hv ?_ hn hdb)
 exact PyProof.Rows.callWith_builtin1 (cy (ha pos pins s σ H _ I h) fun us s1 ⟨vs,H1,I1,r1,q1⟩=>hc pins s1 σ H1 vs us Q I1 r1 q1) he hpl
theorem uI(hc:d9 X (.type T) r)(hg:Gl X x)(hm:X.mg x=none)(hv:bootBuiltins x=some (.type T))(ha:PA X (e::es) t)(hn:x≠"__name__":=by decide)(hdb:(x == ("__debug__":Str))=false:=by decide)
  (he:starEach (e::es) X.env=(false,eval e X.env)::starEach es X.env:=by rfl) (hpl:(backTo pos (starEach es X.env)).any (·.1)=false:=by rfl):PE X (.Call (.Name x p) (e::es) [] pos) (OI r t):=by
 intro pins s σ H Q I h
 refine wpAny_Call_Name_kw (jK I hg hm hv ?_ hn hdb)
 exact PyProof.Rows.callWith_type1 (cy (ha pos pins s σ H _ I h) fun us s1 ⟨vs,H1,I1,r1,q1⟩=>hc pins s1 σ H1 vs us Q I1 r1 q1) he hpl
end
end L2
namespace HT
open PySem PyProof.Rows
def lexLt:List Int->List Int->Bool
 | [],[]=>false
 | [],_::_=>true
 | _::_,[]=>false
 | x::xs,y::ys=>if x=y then lexLt xs ys else decide (x < y)
theorem aQ(x y:Int)(xs ys:List Int):lexLt (x::xs) (y::ys)=if x=y then lexLt xs ys else decide (x < y):=rfl
theorem dB:lexLt [] []=false:=rfl
theorem gU(y:Int)(ys:List Int):lexLt [] (y::ys)=true:=rfl
theorem gX(x:Int)(xs:List Int):lexLt (x::xs) []=false:=rfl
theorem qH(A:Around)(s:Shared)(a:Int)(t:Tok)(c:Int)(u:Tok):∃e,SeqAt.EqAt A s (.int a t) (.int c u) e/\(e=true↔a=c) :=
 ⟨(a == c),SeqAt.EqAt.int_int a t c u,by simp⟩
theorem zk(A:Around)(s:Shared)(a:Int)(t:Tok)(c:Int)(u:Tok)(prog:Program)(w:World)(E:Value->Shared->Prop)(Q:Value->Shared->Prop)(h:Q (.bool (decide (a < c))) s) :
  wpAny (model prog w) A (richCompare .Lt (.int a t) (.int c u)) Q E s :=
 (PyProof.Rows.lt_int h:wpAny (model prog w) A (compareOp .Lt (.int a t) (.int c u)) Q E s)
section
open PySem.SeqAt
open PySem.AutoSeq1 (wpAny_loadPart')
open PySem.MeetsSeq PySem.MeetsSeq2 PySem.MeetsSeq3
theorem sO(l b:Addr)(items items2:Array Value)(n n2:Nat)(dd dd2:Option Addr)(sl sl2:Array (Option Value))(ns ms:List Int)(hi:IntsAre items.toList ns)(hj:IntsAre items2.toList ms) :
  Meets (Builtin.«tuple.__lt__» ⟨[.ref l,.ref b],[]⟩)
   (fun _ R s=>s.heap.get? l=some { cls:=.type "tuple",dict:=dd,data:=.seq items n,slots:=sl }/\s.heap.get? b=some { cls:=.type "tuple",dict:=dd2,data:=.seq items2 n2,slots:=sl2 } /\
    R (.ok (.ret (.bool (lexLt ns ms)))) s) :=
 .of_wp fun prog w A R s h=>by
  obtain⟨hp,g,d,tk,os⟩:=s;obtain⟨hl,hb,h⟩:=h
  have f2:=AutoSeq1.sub_tuple_tuple
  have z1:items.size=ns.length:=by rw[<- hi.length];simp
  have z2:items2.size=ms.length:=by rw[<- hj.length];simp
  wp_walk using wpAny_loadPart' hl,wpAny_loadPart' hb,wpAny_forIn_list _ (fun rest b s'=>b.1=none/\s'=⟨hp,g,d,tk,os⟩/\∃ (vs ws:List Value) (ns' ms':List Int),rest=vs.zip ws /\
   IntsAre vs ns'/\IntsAre ws ms'/\ns'.length+items2.size=ms'.length+items.size/\R (.ok (.ret (.bool (lexLt ns' ms')))) ⟨hp,g,d,tk,os⟩) _
  case turn =>
   rintro⟨y,x⟩ rest b s' ⟨hb',rfl,vs,ws,ns',ms',hz,hvi,hwi,hlen,hR⟩
   cases hvi with
   | nil=>rw[List.zip_nil_left] at hz;cases hz
   | cons a t hvi' =>
    cases hwi with
    | nil=>rw[List.zip_nil_right] at hz;cases hz
    | cons c u hwi' =>
     rw[List.zip_cons_cons] at hz
     injection hz with hyx hrest
     injection hyx with hy hx
     subst hy hx
     rw[aQ] at hR
     simp only[zL] at hlen
     obtain⟨e,he,hiff⟩:=qH A.in1 ⟨hp,g,d,tk,os⟩ a t c u
     refine zW (he prog w _ _ ?_)
     cases e with
     | true =>
      rw[if_pos (hiff.mp rfl)] at hR
      wp_walk
      exact⟨rfl,rfl,_,_,_,_,hrest,hvi',hwi',by omega,hR⟩
     | false =>
      rw[if_neg (fun q=>absurd (hiff.mpr q) Bool.false_ne_true)] at hR
      have hri:=zk A.in1 ⟨hp,g,d,tk,os⟩ a t c u prog w
      wp_walk using hri
      exact⟨_,rfl,by simpa using hR⟩
  case fin =>
   rintro⟨b1,b2⟩ s' ⟨hb',rfl,vs,ws,ns',ms',hz,hvi,hwi,hlen,hR⟩
   simp only at hb'
   subst hb'
   have hv:lexLt ns' ms'=decide (items.size < items2.size):=by
    cases hvi with
    | nil =>
     cases hwi with
     | nil =>
      simp only[List.length_nil] at hlen
      rw[dB]
      exact (yA (by omega)).symm
     | cons c u hw =>
      simp only[List.length_nil,zL] at hlen
      rw[gU]
      exact (yB (by omega)).symm
    | cons a t hv =>
     cases hwi with
     | nil =>
      simp only[List.length_nil,zL] at hlen
      rw[gX]
      exact (yA (by omega)).symm
     | cons c u hw =>
      rw[List.zip_cons_cons] at hz
      cases hz
   rw[hv] at hR
   wp_walk
   exact⟨_,rfl,by simpa [Builtin.Tuple.tupleCompareSizes] using hR⟩
  case h =>
   exact⟨rfl,rfl,items.toList,items2.toList,ns,ms,rfl,hi,hj,by omega,h⟩
end
section
variable {prog:Program}{w:World}{A:Around}{E:Value->Shared->Prop}{s:Shared}
theorem qX{l b:Addr}{items items2:Array Value}{ns ms:List Int}{Q:Value->Shared->Prop}(hl:IsTup s.heap l items)(hb:IsTup s.heap b items2)(hi:IntsAre items.toList ns)(hj:IntsAre items2.toList ms)
  (hu:A.units < cLine) (h:Q (.bool (lexLt ns ms)) s):wpAny (model prog w) A (compareOp .Lt (.ref l) (.ref b)) Q E s:=by
 obtain⟨⟨cls,dd,data,sl⟩,ho,hc,n,hd⟩:=id hl
 obtain⟨⟨cls2,dd2,data2,sl2⟩,ho2,hc2,n2,hd2⟩:=id hb
 simp only at hc hd hc2 hd2
 subst hc hd hc2 hd2
 exact richCompare_meets_room (op:=.Lt) ⟨_,ho,rfl⟩ ⟨_,ho2,rfl⟩ PySem.F.slot_tuple_lt PySem.F.entry_tuple_lt (PySem.F.args_tuple_lt_2 _ _) (sO l b items items2 n n2 dd dd2 sl sl2 ns ms hi hj)
  ⟨ho,ho2,show Value.bool (lexLt ns ms)≠Value.notImplemented/\Q (.bool (lexLt ns ms)) s from ⟨(fun x=>nomatch x),h⟩⟩ hu
theorem IL{t b:Addr}{vs ws:List Value}{Q:Value->Shared->Prop}(ht:IsTup s.heap t vs.toArray)(hb:IsTup s.heap b ws.toArray)(hv:vs≠[])
  (h1:ws=[]->Q (.ref t) s) (h2:ws≠[]->Q (.ref s.heap.objs.size) { s with heap:=s.heap.push { cls:=.type "tuple",data:=.seq (vs++ws).toArray } })
  (hsz:vs.length+ws.length<=sizeLine):wpAny (model prog w) A (binaryOp .Add (.ref t) (.ref b)) Q E s:=by
 obtain⟨⟨cls,dd,data,sl⟩,ho,hc,n,hd⟩:=id ht
 obtain⟨⟨cls2,dd2,data2,sl2⟩,ho2,hc2,n2,hd2⟩:=id hb
 simp only at hc hd hc2 hd2
 subst hc hd hc2 hd2
 have e:vs.toArray++ws.toArray=(vs++ws).toArray:=by simp
 by_cases hw:ws=[]
 ·exact concat_meets ⟨_,ho,rfl⟩ ⟨_,ho2,rfl⟩ noFill_tuple_add seq_tuple_add PySem.F.slot_tuple_add PySem.F.entry_tuple_add (PySem.F.args_tuple_add_2 _ _)
   (tuple_addW1 t b vs.toArray ws.toArray n n2 dd dd2 sl sl2 (by simpa using hv) (by simp[hw])) ⟨ho,ho2,h1 hw⟩
 ·refine concat_meets ⟨_,ho,rfl⟩ ⟨_,ho2,rfl⟩ noFill_tuple_add seq_tuple_add PySem.F.slot_tuple_add PySem.F.entry_tuple_add (PySem.F.args_tuple_add_2 _ _)
   (tuple_addW2 t b vs.toArray ws.toArray n n2 dd dd2 sl sl2 (by simpa using hv) (by simpa using hw) (by rw[zH,zH];exact hsz)) ⟨ho,ho2,?_⟩
  rw[e]
  exact h2 hw
def dY(n d:Nat):Option Int->Nat
 | none=>d
 | some v=>if v < 0 then (v+(n:Int)).toNat else min v.toNat n
theorem y0(n d:Nat):dY n d none=d:=rfl
theorem BN(n d k:Nat):dY n d (some (k:Int))=min k n:=by
 show (if (k:Int) < 0 then ((k:Int)+(n:Int)).toNat else min (k:Int).toNat n)=min k n
 rw[if_neg (by omega),yH]
theorem LI(n d:Nat)(hd:d<=n)(o:Option Int):dY n d o<=n:=by
 cases o with
 | none=>exact hd
 | some v =>
  show (if v < 0 then (v+(n:Int)).toNat else min v.toNat n)<=n
  by_cases hv:v < 0
  ·rw[if_pos hv];omega
  ·rw[if_neg hv];exact Nat.min_le_right _ _
theorem B9(v:Int)(n d:Nat):(if v < 0 then max (v+(n:Int)) 0 else min v (n:Int))=((dY n d (some v):Nat):Int):=by
 show (if v < 0 then max (v+(n:Int)) 0 else min v (n:Int))=(((if v < 0 then (v+(n:Int)).toNat else min v.toNat n):Nat):Int)
 by_cases hv:v < 0
 ·simp only[if_pos hv];omega
 ·simp only[if_neg hv];omega
theorem Ao(lo hi:Option Int)(n:Nat):Builtin.Slice.sliceAdjust lo hi 1 (n:Int)=(((dY n 0 lo:Nat):Int),((dY n n hi:Nat):Int)):=by
 have h1:¬ ((1:Int) < 0):=by omega
 unfold Builtin.Slice.sliceAdjust
 simp only[h1,if_false]
 refine Prod.ext ?_ ?_
 ·cases lo with
  | none=>rfl
  | some v=>exact B9 v n 0
 ·cases hi with
  | none=>rfl
  | some v=>exact B9 v n n
theorem AU(i j:Nat):Builtin.Slice.slicePlaces (i:Int) (j:Int) 1=j - i:=by
 unfold Builtin.Slice.slicePlaces
 have h1:(1:Int) > 0:=by omega
 simp only[h1,if_true,Int.ediv_one]
 split<;>omega
theorem qt{v:Value}{o:Option Int}{Q:Option Int->Shared->Prop}(p:IsPart v o)(h:Q o s):wpAny (model prog w) A (Builtin.Slice.slicePartIndex v) Q E s:=by
 cases p with
 | none=>exact slicePart_none h
 | int i t=>exact slicePart_int h
theorem iW{sl:Addr}{vl vu:Value}{lo hi:Option Int}{n:Nat}{Q:Int×Int×Nat->Shared->Prop}(hs:s.heap.IsSliceOf sl vl vu .none)(pl:IsPart vl lo)(pu:IsPart vu hi)
  (h:Q (((dY n 0 lo:Nat):Int),1,dY n n hi - dY n 0 lo) s):wpAny (model prog w) A (Builtin.Slice.sliceApplied (.ref sl) (pure (n:Int))) Q E s:=by
 obtain⟨os,hos,hcs,hds⟩:=id hs
 unfold Builtin.Slice.sliceApplied Builtin.Slice.sliceFields
 refine zW (zW (wpAny_field hos hds (x:=vl) rfl (zW (wpAny_field hos hds (x:=vu) rfl (zW (wpAny_field hos hds (x:=.none) rfl (zX ?_)))))))
 refine zW (slicePart_none ?_)
 show wpAny _ _ (if ((1:Int) == 0)=true then _ else _) _ _ s
 rw[if_neg (by decide)]
 refine zW (qt pl (zW (qt pu (zW (zX ?_)))))
 show wpAny _ _ (match Builtin.Slice.sliceAdjust lo hi 1 (n:Int) with|(lo,hi)=>pure (lo,(1:Int),Builtin.Slice.slicePlaces lo hi 1)) _ _ s
 rw[Ao lo hi n]
 show wpAny _ _ (pure (((dY n 0 lo:Nat):Int),(1:Int),Builtin.Slice.slicePlaces ((dY n 0 lo:Nat):Int) ((dY n n hi:Nat):Int) 1)) _ _ s
 rw[AU]
 exact zX h
theorem HG(xs:Array Value)(i k:Nat):((List.range k).filterMap fun (m:Nat)=>xs[((i:Int)+(m:Int) * 1).toNat]?).toArray=((xs.toList.drop i).take k).toArray:=by
 have e:(fun (m:Nat)=>xs[((i:Int)+(m:Int) * 1).toNat]?)=fun m=>xs[i+m]?:=by
  funext m
  have:((i:Int)+(m:Int) * 1).toNat=i+m:=by omega
  rw[this]
 rw[e]
 have:=pick_run xs i k
 rw[List.filterMap_map] at this
 have e2:((fun x=>xs[x]?) ∘ fun x=>i+x)=fun m=>xs[i+m]?:=rfl
 rw[e2] at this
 rw[this]
theorem mM{t sl:Addr}{items:Array Value}{vl vu:Value}{lo hi:Option Int}{Q:Value->Shared->Prop}(ht:IsTup s.heap t items)(hs:s.heap.IsSliceOf sl vl vu .none)(pl:IsPart vl lo)(pu:IsPart vu hi)
  (hw:¬ (dY items.size 0 lo=0/\dY items.size items.size hi=items.size))
  (h:Q (.ref s.heap.objs.size) { s with heap:=s.heap.push { cls:=.type "tuple",data:=.seq ((items.toList.drop (dY items.size 0 lo)).take (dY items.size items.size hi - dY items.size 0 lo)).toArray } })
  (hsz:items.size<=sizeLine):wpAny (model prog w) A (getItem (.ref t) (.ref sl)) Q E s:=by
 have htake:sizeOk (.seq ((items.toList.drop (dY items.size 0 lo)).take (dY items.size items.size hi - dY items.size 0 lo)).toArray):=by
  show ((items.toList.drop (dY items.size 0 lo)).take (dY items.size items.size hi - dY items.size 0 lo)).toArray.size<=sizeLine
  rw[zH,List.length_take,List.length_drop,Array.length_toList]
  omega
 have hj:dY items.size items.size hi<=items.size:=LI _ _ (zzA _) hi
 obtain⟨os,hos,hcs,hds⟩:=id hs
 have hTs:s.TypeIs (.ref sl) "slice":=⟨os,hos,hcs⟩
 unfold getItem
 try with_reducible refine wpAny_holding ?_
 first|refine zW (zX ?_)|skip
 refine zW (wpAny_sequenceKey ht.typeIs (by decide) ?_)
 refine zW (wpAny_callSpecial?_slot (name:=Str.ofString "__getitem__") ht.typeIs PyProof.Rows.slot_tuple_getitem
  (wpAny_call_entry PyProof.Rows.slot_tuple_getitem ht.typeIs entry_tuple_getitem ?_ (args_tuple_getitem _ _)))
 show wpAny _ _ (Builtin.Tuple.tupleItemsOf (.ref t) >>= _) _ _ s
 refine zW (tupleItemsOf_ ht ?_)
 refine zW (wpAny_typeOf hTs ?_)
 rw[if_pos (by decide)]
 refine zW (iW hs pl pu ?_)
 have hno:¬ ((((dY items.size 0 lo:Nat):Int) == 0&&(1:Int) == 1&&(dY items.size items.size hi - dY items.size 0 lo) == items.size)=true):=by
  intro q
  rw[zF,zF] at q
  have q1:((dY items.size 0 lo:Nat):Int)=0:=eq_of_beq q.1.1
  have q2:dY items.size items.size hi - dY items.size 0 lo=items.size:=eq_of_beq q.2
  exact hw ⟨by omega,by omega⟩
 show wpAny _ _ (if (((dY items.size 0 lo:Nat):Int) == 0&&(1:Int) == 1&&(dY items.size items.size hi - dY items.size 0 lo) == items.size)=true then _ else _) _ _ s
 rw[if_neg hno,HG]
 first
  | exact zW (m:=Builtin.Tuple.tupleExact _) (wpAny_newObj_type (zX ⟨_,rfl,zX h⟩) htake)
  | exact zW (m:=Builtin.Tuple.tupleExact _) (wpAny_newObj_type (zW (zX (zX ⟨_,rfl,zX h⟩))) htake)
  | exact zW (zW (m:=Builtin.Tuple.tupleExact _) (wpAny_newObj_type (zX (zX ⟨_,rfl,zX h⟩)) htake))
  | exact zW (zW (m:=Builtin.Tuple.tupleExact _) (wpAny_newObj_type (zX ⟨_,rfl,zX h⟩) htake))
end
end HT
namespace L2
open PySem PySem.Spec PyProof.Rows
abbrev TO:=St->Hp->(Option Int->Hp->Prop)->Prop
def PO(X:Cx)(e:Option Expr)(t:TO):Prop :=
 ∀ (pins:List (Addr×Obj)) (s:Shared) (σ:St) (H:Hp) (Q:Option Int->Hp->Prop),Inv X pins σ H s->t σ H Q ->
  wpAny (model X.prog X.w) X.A (evalPart e X.env) (fun u s'=>∃o H',Inv X pins σ H' s'/\IsPart u o/\Q o H') X.xe s
def Jz:TO:=fun _ H Q=>Q none H
def Ol(t:TE):TO:=fun σ H Q=>t σ H fun x H1=>∃i,x=.int i/\Q (some i) H1
theorem intsAre_of{ns:List Int}:∀ {us:List Value},aH (ns.map V.int) us->IntsAre us ns:=by
 induction ns with
 | nil=>intro us r;rw[List.map_nil] at r;cases r;exact .nil
 | cons n ns ih =>
  intro us r
  rw[zI] at r
  cases r with
  | cons r1 r2 =>
   obtain⟨t,e⟩:=r1
   subst e
   exact .cons n t (ih r2)
section
variable {X:Cx}{e:Expr}{te:TE}{lo hi:Option Expr}{tl th:TO}{pos p2:Pos}
theorem Jj:PO X none Jz:=by
 intro pins s σ H Q I h
 rw[evalPart_none]
 exact zX ⟨none,H,I,.none,h⟩
theorem J5(h:PE X e te):PO X (some e) (Ol te):=by
 intro pins s σ H Q I hw
 rw[evalPart_some]
 refine cy (h pins s σ H _ I hw) fun u s1 ⟨x,H1,I1,r1,q1⟩=>?_
 obtain⟨i,rfl,q⟩:=q1
 obtain⟨t,rfl⟩:=r1
 exact⟨some i,H1,I1,.int i t,q⟩
def Kn(X:Cx)(r:V->Option Int->Option Int->Hp->VK->Prop):Prop :=
 ∀ (pins:List (Addr×Obj)) (s:Shared) (σ:St) (H:Hp) (x:V) (v vl vu:Value) (lo hi:Option Int) (sl:Addr) (Q:VK),Inv X pins σ H s->RelV x v->s.heap.IsSliceOf sl vl vu .none->IsPart vl lo->IsPart vu hi->r x lo hi H Q ->
  ∃T id,typeLookup (.type T) "__getitem__"=pure (some (.builtin id))/\s.TypeIs v T/\wpAny (model X.prog X.w) X.A (getItem v (.ref sl)) (EP X pins σ Q) X.xe s
theorem Kn.or{r r':V->Option Int->Option Int->Hp->VK->Prop}(h:Kn X r)(h':Kn X r'):Kn X (fun x lo hi H Q=>r x lo hi H Q\/r' x lo hi H Q):=by
 intro pins s σ H x v vl vu lo hi sl Q I rx hs pl pu q
 rcases q with q|q
 ·exact h pins s σ H x v vl vu lo hi sl Q I rx hs pl pu q
 ·exact h' pins s σ H x v vl vu lo hi sl Q I rx hs pl pu q
def Qc(r:V->Option Int->Option Int->Hp->VK->Prop)(te:TE)(tl th:TO):TE:=fun σ H Q=>te σ H fun x H1=>tl σ H1 fun l H2=>th σ H2 fun u H3=>r x l u H3 Q
theorem F2{r:V->Option Int->Option Int->Hp->VK->Prop}(hr:Kn X r)(he:PE X e te)(hl:PO X lo tl)(hu:PO X hi th):PE X (.Subscript e (.Slice lo hi none p2) pos) (Qc r te tl th):=by
 intro pins s σ H Q I h
 refine Subscript_ (cy (he pins s σ H _ I h) fun v s1 ⟨x,H1,I1,r1,q1⟩=>?_)
 refine wpAny_Slice (cy (hl pins s1 σ H1 _ I1 q1) fun vl s2 ⟨l,H2,I2,pl,q2⟩=>cy (hu pins s2 σ H2 _ I2 q2) fun vu s3 ⟨u,H3,I3,pu,q3⟩=>?_)
 rw[evalPart_none]
 refine zX ?_
 have I4:Inv X pins σ H3 { s3 with heap:=s3.heap.push { cls:=.type "slice",data:=.fields #[vl,vu,.none] } }:=I3.kept (t':=s3.toks) fun b ob q=>zV _ q
 obtain⟨T,id,hT,ht,hg⟩:=hr pins { s3 with heap:=s3.heap.push { cls:=.type "slice",data:=.fields #[vl,vu,.none] } } σ H3 x v vl vu l u s3.heap.objs.size Q I4 r1 (Heap.IsSliceOf.new ..) pl pu q3
 show wpAny (model X.prog X.w) X.A (subscriptTail e (.Slice lo hi none p2) v (.ref s3.heap.objs.size)) (EP X pins σ Q) X.xe { s3 with heap:=s3.heap.push { cls:=.type "slice",data:=.fields #[vl,vu,.none] } }
 exact tail_any (ops:=[.ref s3.heap.objs.size,v]) ht hT hg (by with_unfolding_all rfl)
def JM(xs:List V)(lo hi:Option Int):List V:=(xs.drop (HT.dY xs.length 0 lo)).take (HT.dY xs.length xs.length hi - HT.dY xs.length 0 lo)
theorem ye(xs:List V)(lo hi:Option Int):(JM xs lo hi).length<=xs.length:=by
 unfold JM
 rw[List.length_take,List.length_drop]
 omega
def PR(K:W.Frag):V->Option Int->Option Int->Hp->VK->Prop:=fun x lo hi H Q=>∃a xs,x=.ref a/\jY K H a xs /\
 ¬ (HT.dY xs.length 0 lo=0/\HT.dY xs.length xs.length hi=xs.length)/\∀p,H p=none->Q (.ref p) (upd H p (.tup (JM xs lo hi)))
theorem MZ:Kn X (PR X.K):=by
 intro pins s σ H x v vl vu lo hi sl Q I rx hs pl pu h
 obtain⟨a,xs,rfl,hx,hw,q⟩:=h
 cases rx
 obtain⟨its,r,ht,hz⟩:=I.tuple hx
 have hlen:its.toArray.size=xs.length:=by rw[zH];exact r.length.symm
 refine⟨"tuple",_,PyProof.Rows.slot_tuple_getitem.lookup,ht.typeIs,?_⟩
 refine HT.mM ht hs pl pu (by rw[hlen];exact hw) ?_ (by rw[hlen];exact hz)
 rw[hlen]
 refine⟨.ref s.heap.objs.size,_,I.laid (t':=s.toks) (o:=.tup (JM xs lo hi)) (fun b ob q=>zV _ q) (zzA _) ?_,rfl,q _ (I.hok.fresh (zzA _))⟩
 exact⟨yE (ye xs lo hi) hz,_,(r.drop (HT.dY xs.length 0 lo)).take (HT.dY xs.length xs.length hi - HT.dY xs.length 0 lo),rF.new _ _⟩
def N3(K:W.Frag):R2:=fun x y H Q=>∃a b xs ys,x=.ref a/\y=.ref b/\jY K H a xs/\jY K H b ys/\xs≠[]/\xs.length+ys.length<=sizeLine /\
 (ys=[]->Q (.ref a) H)/\(ys≠[]->∀p,H p=none->Q (.ref p) (upd H p (.tup (xs++ys))))
theorem aH.nil_iff{xs:List V}{us:List Value}(r:aH xs us):us=[]↔xs=[]:=by
 cases r with
 | nil=>simp
 | cons _ _=>simp
theorem Iz:jm X (binaryOp .Add) (N3 X.K):=by
 intro pins s σ H x y v u Q I rx ry h
 obtain⟨a,b,xs,ys,rfl,rfl,ha,hb,hx,hz,q1,q2⟩:=h
 cases rx
 cases ry
 obtain⟨its,r1,p1,_⟩:=I.tuple ha
 obtain⟨its2,r2,p2,_⟩:=I.tuple hb
 refine HT.IL p1 p2 (fun z=>hx (r1.nil_iff.mp z)) (fun z=>⟨.ref a,H,I,rfl,q1 (r2.nil_iff.mp z)⟩) (fun z=>?_) (by rw[<- r1.length,<- r2.length];exact hz)
 refine⟨.ref s.heap.objs.size,_,I.laid (t':=s.toks) (o:=.tup (xs++ys)) (fun b ob q=>zV _ q) (zzA _) ?_,rfl,q2 (fun w=>z (r2.nil_iff.mpr w)) _ (I.hok.fresh (zzA _))⟩
 exact⟨by rw[zN];exact hz,_,r1.append r2,rF.new _ _⟩
end
def HW(n:Nat)(i:Int):Option Nat:=if 0<=i then (if i < n then some i.toNat else none) else if -(n:Int)<=i then some (i+n).toNat else none
def vV{α:Type}(xs:List α)(i:Int):Option α:=(HW xs.length i).bind fun j=>xs[j]?
theorem B8{n:Nat}{i:Int}{j:Nat}(h:HW n i=some j):seqIndex? i n=some j/\j < n/\-(n:Int)<=i/\i < n:=by
 unfold HW at h
 by_cases h0:0<=i
 ·rw[if_pos h0] at h
  by_cases h1:i < n
  ·rw[if_pos h1] at h
   have e:i.toNat=j:=Option.some.inj h
   exact⟨by rw[seqIndex_of h0 h1,e],by omega,by omega,h1⟩
  ·rw[if_neg h1] at h;cases h
 ·rw[if_neg h0] at h
  by_cases h1:-(n:Int)<=i
  ·rw[if_pos h1] at h
   have e:(i+n).toNat=j:=Option.some.inj h
   exact⟨by rw[seqIndex_neg (by omega) h1,e],by omega,h1,by omega⟩
  ·rw[if_neg h1] at h;cases h
theorem wz{α:Type}{xs:List α}{i:Int}{v:α}(h:vV xs i=some v):∃j,seqIndex? i xs.length=some j/\xs[j]?=some v/\j < xs.length/\-(xs.length:Int)<=i/\i < xs.length:=by
 unfold vV at h
 cases e:HW xs.length i with
 | none=>rw[e] at h;cases h
 | some j =>
  rw[e] at h
  obtain⟨h1,h2,h3,h4⟩:=B8 e
  exact⟨j,h1,h,h2,h3,h4⟩
theorem uV{α:Type}{xs:List α}{j:Nat}{v:α}(h:xs[j]?=some v):vV xs (j:Int)=some v:=by
 have hj:j < xs.length:=(zU.mp h).1
 have e:HW xs.length (j:Int)=some j:=by
  unfold HW
  rw[if_pos (by omega),if_pos (by omega)];simp
 unfold vV;rw[e];exact h
def pR(b:Expr):Prop:=∀o i,subscripted b false o i=operate [o,i] (getItem o i)
def Jf(X:Cx)(r:R2):Prop :=
 ∀ (value slice:Expr) (pins:List (Addr×Obj)) (s:Shared) (σ:St) (H:Hp) (x y:V) (v u:Value) (Q:VK),Inv X pins σ H s->RelV x v->RelV y u->r x y H Q ->
  subscripted slice false v u=operate [v,u] (getItem v u)->wpAny (model X.prog X.w) X.A (subscriptTail value slice v u) (EP X pins σ Q) X.xe s
def P6(X:Cx)(id:String)(r:V->List V->Hp->VK->Prop):Prop :=
 ∀ (pins:List (Addr×Obj)) (s:Shared) (σ:St) (H:Hp) (x:V) (xs:List V) (v:Value) (us:List Value) (Q:VK),Inv X pins σ H s->RelV x v->aH xs us->r x xs H Q ->
  wpAny (model X.prog X.w) X.A (call (.builtin id) (v::us)) (EP X pins σ Q) X.xe s
section
variable {X:Cx}{a b:Expr}{ta tb:TE}{pos:Pos}
theorem Jf.or{r r':R2}(h:Jf X r)(h':Jf X r'):Jf X (fun x y H Q=>r x y H Q\/r' x y H Q):=by
 intro value slice pins s σ H x y v u Q I rx ry q hs
 rcases q with q|q
 ·exact h value slice pins s σ H x y v u Q I rx ry q hs
 ·exact h' value slice pins s σ H x y v u Q I rx ry q hs
theorem K0{r:R2}(hr:Jf X r)(ha:PE X a ta)(hb:PE X b tb)(hs:pR b):PE X (.Subscript a b pos) (NA r ta tb):=by
 intro pins s σ H Q I h
 exact Subscript_ (La ha hb I h fun v u s2 x y H2 I2 rx ry q=>hr a b pins s2 σ H2 x y v u Q I2 rx ry q (hs _ _))
def NK(K:W.Frag):R2:=fun x y H Q=>∃p xs i v,x=.ref p/\y=.int i/\hZ K H p xs/\vV xs i=some v/\Q v H
def NW(K:W.Frag):R2:=fun x y H Q=>∃p xs i v,x=.ref p/\y=.int i/\jY K H p xs/\vV xs i=some v/\Q v H
def NN:R2:=fun x y H Q=>∃z i c,x=.str z/\y=.int i/\z.length<=sizeLine/\vV z.cps.toList i=some c/\Q (.str ⟨#[c]⟩) H
theorem CJ:Jf X (NK X.K):=by
 intro value slice pins s σ H x y v u Q I rx ry h hs
 obtain⟨p,xs,i,z,rfl,rfl,hq,he,q⟩:=h
 cases rx
 obtain⟨t,rfl⟩:=ry
 obtain⟨its,r,pl,hz⟩:=I.list hq
 obtain⟨j,h1,h2,h3,h4,h5⟩:=wz he
 obtain⟨w,ew,rw'⟩:=r.get h2
 have hl:=r.length
 have hn:=qd
 have fin:EP X pins σ Q w s:=⟨z,H,I,rw',q⟩
 by_cases h0:0<=i
 ·have hj:i.toNat=j:=by
   rw[seqIndex_of h0 h5] at h1
   exact Option.some.inj h1
  exact item_listR pl.isList h0 (by omega) (by rw[hj];simpa using ew) fin hs
 ·have hj:(i+(its.toArray.size:Int)).toNat=j:=by
   rw[seqIndex_neg (by omega) h4] at h1
   rw[zH,<- hl]
   exact Option.some.inj h1
  exact subscriptTail_builtinR (x:=w) pl.isList.typeIs slot_list_getitem.lookup
   (wpAny_getItem_list_neg (Q:=fun r s'=>r=w/\EP X pins σ Q r s') pl.isList (by omega) (by rw[zH]<;>omega) (by omega) (by rw[hj];simpa using ew) ⟨rfl,fin⟩) hs
theorem rQ:Jf X (NW X.K):=by
 intro value slice pins s σ H x y v u Q I rx ry h hs
 obtain⟨p,xs,i,z,rfl,rfl,hq,he,q⟩:=h
 cases rx
 obtain⟨t,rfl⟩:=ry
 obtain⟨its,r,pl,hz⟩:=I.tuple hq
 obtain⟨j,h1,h2,h3,h4,h5⟩:=wz he
 obtain⟨w,ew,rw'⟩:=r.get h2
 have hl:=r.length
 have hn:=qd
 have fin:EP X pins σ Q w s:=⟨z,H,I,rw',q⟩
 exact subscriptTail_builtinR (x:=w) pl.typeIs slot_tuple_getitem.lookup
  (getItem_tuple (j:=j) (Q:=fun r s'=>r=w/\EP X pins σ Q r s') pl (by omega) (by omega) (by rw[zH,<- hl];exact h1) (by simpa using ew) ⟨rfl,fin⟩) hs
theorem MO:Jf X NN:=by
 intro value slice pins s σ H x y v u Q I rx ry h hs
 obtain⟨z,i,c,rfl,rfl,hz,he,q⟩:=h
 obtain⟨t,rfl⟩:=rx
 obtain⟨t',rfl⟩:=ry
 obtain⟨j,h1,h2,h3,h4,h5⟩:=wz he
 have hl:z.cps.toList.length=z.length:=by simp[Str.length]
 rw[hl] at h1 h4 h5
 have hn:=qd
 exact tail_any (typeIs_str s z t) slot_str_getitem.lookup (getItem_str (c:=c) (by
  have e1:decide (i < -(2 ^ 63:Int))=false:=yA (by omega)
  have e2:decide (i >= 2 ^ 63)=false:=yA (by omega)
  rw[e1,e2,Bool.or_false]) (by rw[h1];simpa using h2) ⟨.str ⟨#[c]⟩,H,I.tok _,⟨_,rfl⟩,q⟩) hs
def P7(K:W.Frag):R2:=fun x y H Q=>NK K x y H Q\/NW K x y H Q\/NN x y H Q
theorem LH:Jf X (P7 X.K):=CJ.or (rQ.or MO)
theorem A0(its:List Value)(n j:Nat)(u:Value):Obj.mapSeq (·.setIfInBounds j u) { cls:=.type "list",data:=.seq its.toArray n }={ cls:=.type "list",data:=.seq (its.set j u).toArray n }:=by
 simp[Obj.mapSeq]
theorem Inv.lst{pins:List (Addr×Obj)}{σ:St}{H:Hp}{s:Shared}{p:Addr}{xs:List V}(I:Inv X pins σ H s)(h:H p=some (.lst xs)) :
  ∃ (its:List Value) (n:Nat),aH xs its/\s.heap.get? p=some { cls:=.type "list",data:=.seq its.toArray n }/\xs.length<=sizeLine:=by
 obtain⟨z,its,n,r,e⟩:=I.hok p _ h
 exact⟨its,n,r,e,z⟩
theorem Inv.lstUpd{pins:List (Addr×Obj)}{σ:St}{H:Hp}{s:Shared}{p:Addr}{xs ys:List V}{its its':List Value}{n n':Nat}{f:Obj->Obj}(I:Inv X pins σ H s)(h:H p=some (.lst xs))
  (ho:s.heap.get? p=some { cls:=.type "list",data:=.seq its.toArray n }) (hf:f { cls:=.type "list",data:=.seq its.toArray n }={ cls:=.type "list",data:=.seq its'.toArray n' }) (r:aH ys its') (hz:ys.length<=sizeLine) (t:Nat) :
  Inv X pins σ (upd H p (.lst ys)) { s with heap:=s.heap.update p f,toks:=t }:=by
 have e:(s.heap.update p f).get? p=some { cls:=.type "list",data:=.seq its'.toArray n' }:=by
  rw[Heap.get?_update_self f ho (by rw[hf]<;>rfl),hf]
 refine I.write (x:=p) (e:=p) (by rw[h];trivial) (.inl rfl) (fun b u hb q=>(Heap.get?_update_other _ _ (Ne.symm hb)).trans q) ⟨_,e⟩ ?_
 exact⟨hz,its',n',r,e⟩
def On:V->V->V->Hp->(Hp->Prop)->Prop:=fun o i v H Q=>∃p xs k j,o=.ref p/\i=.int k/\H p=some (.lst xs)/\HW xs.length k=some j/\Q (upd H p (.lst (xs.set j v)))
theorem set_list:NJ X On:=by
 intro pins s σ H o i v ov iv u Q I ro ri rv h
 obtain⟨p,xs,k,j,rfl,rfl,hp,hj,q⟩:=h
 cases ro
 obtain⟨t,rfl⟩:=ri
 obtain⟨its,n,r,ho,hz⟩:=I.lst hp
 obtain⟨h1,h2,h3,h4⟩:=B8 hj
 have hl:=r.length
 have hn:=qd
 have I':Inv X pins σ (upd H p (.lst (xs.set j v))) { s with heap:=s.heap.update p (Obj.mapSeq (·.setIfInBounds j u)) } :=
  I.lstUpd hp ho (A0 its n j u) (r.set rv j) (by rw[yD];exact hz) s.toks
 by_cases h0:0<=k
 ·have hk:k.toNat=j:=by
   rw[seqIndex_of h0 h4] at h1
   exact Option.some.inj h1
  exact W.ki_setAt ho h0 (by omega) (by rw[zH,<- hl];exact h4) (by rw[hk];exact⟨_,I',q⟩)
 ·have hk:(k+(its.toArray.size:Int)).toNat=j:=by
   rw[seqIndex_neg (by omega) h3] at h1
   rw[zH,<- hl]
   exact Option.some.inj h1
  exact W.ki_setBack ho (by omega) (by rw[zH,<- hl];exact h3) (by omega) (by rw[hk];exact⟨_,I',q⟩)
theorem vG:d9 X (.builtin "len") (fun xs H Q=>∃p ys,xs=[.ref p]/\(hZ X.K H p ys\/jY X.K H p ys)/\Q (.int ys.length) H):=by
 intro pins s σ H xs us Q I r h
 obtain⟨p,ys,rfl,hq,q⟩:=h
 obtain⟨u,rfl,rx⟩:=vals1 r
 cases rx
 have hn:=qd
 rcases hq with hq|hq
 ·obtain⟨its,r',pl,hz⟩:=I.list hq
  have hlen:=r'.length
  exact Calls.call_len_list pl.isList (by simp only[zH]<;>omega) ⟨.int ys.length,H,I.tok _,⟨s.toks+1,by rw[zH,hlen]⟩,q⟩
 ·obtain⟨its,r',pl,hz⟩:=I.tuple hq
  have hlen:=r'.length
  exact len_tuple pl (by simp only[zH]<;>omega) ⟨.int ys.length,H,I.tok _,⟨s.toks+1,by rw[zH,hlen]⟩,q⟩
theorem tL:d9 X (.type "tuple") (fun xs H Q=>∃p ys,xs=[.ref p]/\((hZ X.K H p ys/\∀l,H l=none->Q (.ref l) (upd H l (.tup ys)))\/(jY X.K H p ys/\Q (.ref p) H))):=by
 intro pins s σ H xs us Q I r h
 obtain⟨p,ys,rfl,h⟩:=h
 obtain⟨u,rfl,rx⟩:=vals1 r
 cases rx
 rcases h with ⟨hq,q⟩|⟨hq,q⟩
 ·obtain⟨its,r',pl,hz⟩:=I.list hq
  have hlen:=r'.length
  refine call_tuple_list pl.isList (fun h' kp=>?_) (by simp only[zH]<;>omega)
  have I1:Inv X pins σ H { s with heap:=h' }:=I.kept (t':=s.toks) kp
  have I2:Inv X pins σ (upd H h'.objs.size (.tup ys)) { s with heap:=h'.push { cls:=.type "tuple",data:=.seq its.toArray } } :=
   I1.laid (t':=s.toks) (fun b o e=>zV _ e) (zzA _) (show gf X.prog X.w _ _ _ (.tup ys) from ⟨hz,its,r',rF.new _ _⟩)
  exact⟨.ref h'.objs.size,_,I2,rfl,q _ (I1.hok.fresh (zzA _))⟩
 ·obtain⟨its,r',pl,hz⟩:=I.tuple hq
  exact call_tuple_same pl ⟨.ref p,H,I,rfl,q⟩
def P8(K:W.Frag)(T:String)(x:V)(H:Hp):Prop:=match x with
 | .str _=>T="str"
 | .int _=>T="int"
 | .ref p=>(T="list"/\∃xs,hZ K H p xs)\/(T="tuple"/\∃xs,jY K H p xs) \/
   (T="dict"/\((∃kvs,H p=some (.dK kvs))\/∃kvs,H p=some (.dT kvs)))\/(T="set"/\∃S n,H p=some (.set S n))
 | _=>False
theorem Nh{pins:List (Addr×Obj)}{σ:St}{H:Hp}{s:Shared}{T:String}{x:V}{v:Value}(I:Inv X pins σ H s)(r:RelV x v)(ty:P8 X.K T x H) :
  s.TypeIs v T/\∀a,v=.ref a->∃ob,s.heap.get? a=some ob/\ob.dict=none:=by
 cases x with
 | str z =>
  obtain⟨t,rfl⟩:=r
  cases (show T="str" from ty)
  exact⟨typeIs_str s z t,fun _ e=>nomatch e⟩
 | int i =>
  obtain⟨t,rfl⟩:=r
  cases (show T="int" from ty)
  exact⟨typeIs_int s i t,fun _ e=>nomatch e⟩
 | ref p =>
  cases r
  rcases ty with ⟨rfl,xs,hq⟩|⟨rfl,xs,hq⟩|⟨rfl,hk⟩|⟨rfl,S,n,hk⟩
  ·obtain⟨its,_,pl,_⟩:=I.list hq
   refine⟨pl.isList.typeIs,fun a e=>?_⟩
   cases e
   obtain⟨o,n,e,c,hd,_⟩:=pl
   exact⟨o,e,hd⟩
  ·rcases hq with hq|⟨o,its,n,hk,hc,hd,_⟩
   ·obtain⟨_,_,_,⟨o,e1,e2,_⟩,o2,e3,e4⟩:=hq.ok I.hok
    exact⟨⟨o,e1,e2⟩,fun a e=>by cases e;exact⟨o2,e3,e4⟩⟩
   ·exact⟨⟨o,I.kIn p o hk,hc⟩,fun a e=>by cases e;exact⟨o,I.kIn _ o hk,hd⟩⟩
  ·have z:∃o,s.heap.get? p=some o/\o.ExactDict:=by
    rcases hk with ⟨kvs,hk⟩|⟨kvs,hk⟩
    ·obtain⟨_,_,_,_,o,_,_,e,ex,_⟩:=I.hok p _ hk
     exact⟨o,e,ex⟩
    ·obtain⟨_,_,_,_,o,_,_,e,ex,_⟩:=I.hok p _ hk
     exact⟨o,e,ex⟩
   obtain⟨o,e,ex⟩:=z
   refine⟨⟨o,e,ex.1⟩,fun a e2=>?_⟩
   cases e2
   exact⟨o,e,ex.2.1⟩
  ·obtain⟨o,_,_,_,e,ex,_⟩:=I.hok p _ hk
   refine⟨⟨o,e,ex.1⟩,fun a e2=>?_⟩
   cases e2
   exact⟨o,e,ex.2.1⟩
 | _=>exact False.elim ty
def Qx(K:W.Frag)(T:String)(r:V->List V->Hp->VK->Prop)(to:TE)(t:TA):TE:=fun σ H Q=>to σ H fun x H1=>P8 K T x H1/\t σ H1 fun xs H2=>r x xs H2 Q
variable {o e:Expr}{es:List Expr}{to:TE}{t:TA}{name:Str}{apos cpos:Pos}{T id:String}{r:V->List V->Hp->VK->Prop}
theorem yT(pa:PlainAttrs T)(slot:Slot T name id)(hty:typeOf (.builtin id)=pure (.type "method_descriptor"))(hm:P6 X id r)(ho:PE X o to)(ha:PA X (e::es) t)
  (hbase:attributeBase o name X.env (eval o X.env)=eval o X.env:=by rfl)
  (hfew:((backTo cpos (starEach (e::es) X.env)).all (fun x=>!x.1)&&(backToKw cpos (keywordEach [] X.env)).all (fun x=>x.1.isSome)
   &&decide ((e::es).length+([]:List Keyword).length+(if ([]:List Keyword).isEmpty then 0 else 1) < 30))=true:=by rfl)
  (hline:(apos.endLine == cpos.line)=true:=by rfl) (hs:starEach (e::es) X.env=(false,eval e X.env)::starEach es X.env:=by rfl) (hplain:(backTo cpos (starEach es X.env)).any (·.1)=false:=by rfl) :
  PE X (.Call (.Attribute o name apos) (e::es) [] cpos) (Qx X.K T r to t):=by
 intro pins s σ H Q I h
 refine wpAny_Call_method_late hbase hfew hline rfl (cy (ho pins s σ H _ I h) fun v s1 ⟨x,H1,I1,r1,ty,q1⟩=>?_)
 obtain⟨h1,h2⟩:=Nh I1 r1 ty
 refine⟨T,id,pa,slot,hty,h1,h2,?_⟩
 have hA:=ha cpos pins s1 σ H1 _ I1 q1
 rw[hs] at hA ⊢
 refine Calls.callWith_builtin (by show (false||(backTo cpos (starEach es X.env)).any (·.1))=false;rw[hplain]<;>rfl) (Calls.evalArgs_plain ?_)
 exact cy hA fun us s2 ⟨vs,H2,I2,r2,q2⟩=>hm pins s2 σ H2 x vs v us Q I2 r1 r2 q2
/- xs.append(e),list.index on a module's tuple .. are P6 facts of 06m -/
end
def NP(X:Cx)(id:String)(r:V->List V->Hp->VK->Prop):Prop :=
 ∀ (pins:List (Addr×Obj)) (s:Shared) (σ:St) (H:Hp) (x:V) (xs:List V) (v:Value) (us:List Value) (Q:VK),Inv X pins σ H s->RelV x v->aH xs us->r x xs H Q ->
  wpAny (model X.prog X.w) X.A (call (.builtin id) (v::us)) (EP X pins σ Q) X.xe s
theorem aH.one:∀ {x:V}{us:List Value},aH [x] us->∃u,us=[u]/\RelV x u
 | _,_,.cons r .nil=>⟨_,rfl,r⟩
theorem aH.two:∀ {x y:V}{us:List Value},aH [x,y] us->∃u v,us=[u,v]/\RelV x u/\RelV y v
 | _,_,_,.cons r (.cons q .nil)=>⟨_,_,rfl,r,q⟩
theorem aH.reverse{xs:List V}{us:List Value}(h:aH xs us):aH xs.reverse us.reverse:=by
 induction h with
 | nil=>exact .nil
 | cons r t ih=>rw[List.reverse_cons,List.reverse_cons];exact aH.append ih (.cons r .nil)
theorem aH.rep{xs:List V}{us:List Value}(h:aH xs us):∀k:Nat,aH (List.replicate k xs).flatten (List.replicate k us).flatten
 | 0=>.nil
 | k+1=>by
  rw[List.replicate_succ,List.replicate_succ,List.flatten_cons,List.flatten_cons]
  exact aH.append h (aH.rep h k)
theorem foldl_rep(its:List Value):∀ (k:Nat) (acc:List Value),
  List.foldl (fun x1 x2=>x1++x2) acc.toArray (List.replicate k its.toArray)=(acc++(List.replicate k its).flatten).toArray
 | 0,acc=>by simp
 | k+1,acc=>by
  have e:acc.toArray++its.toArray=(acc++its).toArray:=by simp
  have e2:(acc++its)++(List.replicate k its).flatten=acc++(List.replicate (k+1) its).flatten:=by
   rw[List.replicate_succ,List.flatten_cons,List.append_assoc]
  rw[<- e2,<- foldl_rep its k (acc++its),<- e,List.replicate_succ,yK]
section
variable {X:Cx}{pins:List (Addr×Obj)}{σ:St}{H:Hp}{s:Shared}{l b:Addr}{xs ys zs:List V}
theorem Inv.lset{its its':List Value}{n:Nat}{f:Array Value->Array Value}{t':Nat}(I:Inv X pins σ H s)(hH:H l=some (.lst xs))
  (e:s.heap.get? l=some { cls:=.type "list",data:=.seq its.toArray n }) (hf:f its.toArray=its'.toArray) (hv:aH ys its') (hz:ys.length<=sizeLine) :
  Inv X pins σ (upd H l (.lst ys)) { s with heap:=s.heap.update l (Obj.mapSeq f),toks:=t' }:=by
 have q:=PySem.IsL.update e f
 rw[hf] at q
 refine I.write (x:=l) (e:=l) (by rw[hH];exact trivial) (.inl rfl) (fun b' u hb hu=>(Heap.get?_update_other s.heap (Obj.mapSeq f) (Ne.symm hb)).trans hu) ⟨_,q⟩ ?_
 exact⟨hz,its',_,hv,q⟩
theorem Inv.lnew{its:List Value}{t':Nat}(I:Inv X pins σ H s)(hv:aH ys its)(hz:ys.length<=sizeLine) :
  Inv X pins σ (upd H s.heap.objs.size (.lst ys)) { s with heap:=s.heap.push { cls:=.type "list",data:=.seq its.toArray },toks:=t' } :=
 I.laid (fun _ _ q=>zV _ q) (zzA _) ⟨hz,its,0,hv,zY _ rfl⟩
theorem Inv.fresh(I:Inv X pins σ H s):H s.heap.objs.size=none:=I.hok.fresh (zzA _)
theorem Inv.lstM(I:Inv X pins σ H s)(hH:H l=some (.lst xs)):xs.length<=sizeLine/\∃ (its:List Value) (n:Nat),aH xs its/\xs.length=its.length/\s.heap.get? l=some { cls:=.type "list",data:=.seq its.toArray n }:=by
 obtain⟨z,its,n,r,e⟩:=I.hok l _ hH
 exact⟨z,its,n,r,r.length,e⟩
theorem FS{n:Nat}(h:n<=sizeLine):Builtin.List.listTooLong n=false:=by
 unfold Builtin.List.listTooLong
 exact yA (by omega)
end
section
variable {X:Cx}
def IH:V->List V->Hp->VK->Prop:=fun x vs H Q=>∃l xs y,x=.ref l/\vs=[y]/\H l=some (.lst xs)/\xs.length < sizeLine/\Q .non (upd H l (.lst (xs++[y])))
theorem uA:NP X "list.append" IH:=by
 intro pins s σ H x vs v us Q I rx rv h
 obtain⟨l,xs,y,rfl,rfl,hH,hz,q⟩:=h
 cases rx
 obtain⟨u,rfl,ru⟩:=rv.one
 obtain⟨z,its,n,r,hl,e⟩:=I.lstM hH
 refine call_meets F.slot_list_append ⟨_,e,rfl⟩ F.entry_list_append (F.args_list_append_2 _ _) (PySem.list_append l its.toArray n u (by rw[zH];omega)) ⟨e,?_⟩
 refine⟨.non,_,I.lset (its':=its++[u]) hH e (by simp) (r.append (.cons ru .nil)) ?_,rfl,q⟩
 rw[zN,List.length_singleton]
 omega
def JG:V->List V->Hp->VK->Prop:=fun x vs H Q=>∃l b xs zs,x=.ref l/\vs=[.ref b]/\H l=some (.lst xs)/\H b=some (.lst zs)/\xs.length+zs.length<=sizeLine/\Q .non (upd H l (.lst (xs++zs)))
theorem Ef:NP X "list.extend" JG:=by
 intro pins s σ H x vs v us Q I rx rv h
 obtain⟨l,b,xs,zs,rfl,rfl,hH,hB,hz,q⟩:=h
 cases rx
 obtain⟨u,rfl,ru⟩:=rv.one
 cases ru
 obtain⟨z,its,n,r,hl,e⟩:=I.lstM hH
 obtain⟨z2,its2,n2,r2,hl2,e2⟩:=I.lstM hB
 have hsz:its.toArray.size+its2.toArray.size<=sizeLine:=by rw[zH,zH];omega
 have hlong:¬ (!its.toArray.isEmpty&&Builtin.List.listTooLong (its.toArray.size+its2.toArray.size))=true:=by
  rw[FS hsz,Bool.and_false]
  exact Bool.false_ne_true
 refine call_meets F.slot_list_extend ⟨_,e,rfl⟩ F.entry_list_extend (F.args_list_extend_2 _ _)
  (AutoSeq1.list_extend_list_list_0 l its.toArray n b its2.toArray n2 hlong (by rw[zH];omega) (by omega)) ⟨e,e2,?_⟩
 refine⟨.non,_,I.lset (its':=its++its2) hH e (by simp) (r.append r2) ?_,rfl,q⟩
 rw[zN]
 omega
theorem len_rep{α:Type}(xs:List α)(k:Nat):(List.replicate k xs).flatten.length=k * xs.length:=by
 induction k with
 | zero=>simp
 | succ k ih=>rw[List.replicate_succ,List.flatten_cons,zN,ih,Nat.succ_mul,Nat.add_comm]
end
section
variable {prog:Program}{w:World}{A:Around}{E:Value->Shared->Prop}{s:Shared}
end
section
variable {X:Cx}
end
end L2
namespace Att
open PySem PySem.W PySem.Calls PyProof.Rows
theorem ints_of_wellAll{P:Params}{h:Heap}:∀ (ns:List Int) (vs:List Value),WellAll P h vs (ns.map WData.int)->IntsAre vs ns:=by
 intro ns
 induction ns with
 | nil =>
  intro vs w
  rw[List.map_nil] at w
  cases w
  exact .nil
 | cons n ns ih =>
  intro vs w
  rw[zI] at w
  cases w with
  | cons a b =>
   cases a
   exact .cons _ _ (ih _ b)
theorem script_of{l:OpenLaw}{n:Nat}(hn:l.most=some n){P:Params}{h:Heap}{args:List WData}{vals:List Value}
  (hpre:l.row.toRowW.claim.pre args=true) (hwl:WellAll P h vals args) :
  ∃a vs ns,vals=[Value.ref a]/\args=[WData.list (ns.map WData.int)]/\h.get? a=some { cls:=.type "list",data:=.seq vs.toArray }/\IntsAre vs ns/\ns.length<=n:=by
 have hsh:WShape.hasAll [] args [.list .int]=true:=(pre_splitW hpre).1
 have hc:l.pre.holds [] { args:=args }=true:=(pre_splitW hpre).2
 obtain⟨d,r,rfl,h1,h2⟩:=hasAllW_cons hsh
 obtain rfl:=hasAllW_nil h2
 obtain⟨xs,rfl,h3⟩:=hasW_list h1
 obtain⟨ns,rfl⟩:=items_int h3
 have hlen:ns.length<=n:=by
  unfold OpenLaw.pre at hc
  have h4:(WTm.not (.lt (.lit (.int (n:Int))) (.len (.arg 0)))).holds [] { args:=[.list (ns.map .int)] }=true:=by
   have h4:=(holds_andW hc).1
   rw[hn] at h4
   exact h4
  have h5:=condW_of h4 (w_not (w_lt w_lit (w_len_list (w_arg rfl))))
  rw[zD] at h5
  refine Nat.le_of_not_lt fun q=>?_
  have q':(n:Int) < ((ns.length:Nat):Int):=by omega
  first
   | (rw[yB q'] at h5;exact absurd h5 (by decide))
   | (simp at h5;omega)
 cases hwl with
 | cons w1 w2 =>
  cases w2
  cases w1 with
  | list ho hall=>exact⟨_,_,ns,rfl,rfl,ho,ints_of_wellAll ns _ hall,hlen⟩
theorem post_true(l:OpenLaw)(args:List WData):l.row.toRowW.claim.post args (.bool true) args=true :=
 postW_of (r:=l.row.toRowW) (X:=(true == true))
  (show WShape.has [] (.bool true) .bool=true by first|rfl|decide|simp[WShape.has,WShape.arms,WShape.armsAll])
  (show (WTm.eq .res (.lit (.bool true))).value [] { args:=args,res:=some (.bool true),after:=args }=some (.bool (true == true)) from w_eq_bool (w_res rfl) w_lit) rfl
theorem attach_call{l:OpenLaw}{n:Nat}{q:Program}{loose:List Str}{XP:(Str->Option Value)->Heap->Prop}{YP:World->Heap->Prop}{d:DefRec}
  (hn:l.most=some n) (hdf:d.params.defaults=[])
  (call:∀ (w:World) (s₀ s₁:Shared) (mg mb:Str->Option Value) (fa:Addr) (o:Obj) (pm cd doc:Value) (a:Addr) (vs:List Value) (ns:List Int),
   Ground q loose [] XP w s₀ mg mb s₁.heap->YP w s₁.heap ->
   s₁.heap.get? fa=some o->o.data=.func (docDef d.name d.params d.body d.scope pm cd doc)->s₁.heap.CodeRec cd d.name->mg d.name=some (.ref fa) ->
   s₁.heap.get? a=some { cls:=.type "list",data:=.seq vs.toArray }->IntsAre vs ns->ns.length<=n->s₁.gens=#[] ->
   codeAny (model l.prog w) callerA (.call (.ref fa) ⟨[.ref a],[]⟩) (fun r s'=>r=.ok (.ret (.bool true))/\OldK s₁.heap s'.heap/\s'.os=s₁.os/\AllBare s'.gens) s₁) :
  WalkO q loose XP YP l.row.toRowW d [] (fun f vs=>PySem.call f vs):=by
 intro w s₀ s₁ mg mb G Y fa o pm cd doc dV kV ho hd hcd hD hmg hg args vals as hpre hlay hrd hwl hlo
 obtain rfl:dV=.none:=Dflts.none hD hdf
 obtain rfl:kV=.none:=Dflts.noKw hD
 obtain⟨a,vs,ns,rfl,rfl,hobj,hints,hlen⟩:=script_of hn hpre hwl
 refine enter_call (codeAny_mono (call w s₀ s₁ mg mb fa o pm cd doc a vs ns G Y ho (fd_plain hd) hcd hmg hobj hints hlen hg) fun r s' hq=>?_)
 obtain⟨rfl,h2,h3,h4⟩:=hq
 exact⟨.inl ⟨.bool true,.bool true,[],rfl,fun _=>rfl,.bool true,post_true l _,fun _=>⟨List.Pairwise.nil,fun _ hm=>(nomatch hm)⟩⟩,h2,h3,h4⟩
section
variable {prog:Program}{w:World}{A:Around}{E:Value->Shared->Prop}{s:Shared}{K:Frag}
end
end Att
namespace L2
open PySem PySem.Spec PyProof.Rows
theorem tU:∀ {vs:List Value}{ns:List Int},IntsAre vs ns->aH (ns.map V.int) vs
 | _,_,.nil=>.nil
 | _,_,.cons n t h=>.cons ⟨t,rfl⟩ (tU h)
abbrev L8:Ex:=fun _ _ _ _ _ _=>False
abbrev E0:XK:=fun _ _ _=>False
theorem KO{X:Cx}:Aa L8 X E0:=fun _ _ _ _ _ _ _ h=>h.elim
structure JY(K:W.Frag)(x qual:Str)(st:Stmt)(f:Addr)(fd:FuncData):Prop where
 ex:∃ (oc:Value) (od:Option Addr) (kV doc pm:Value) (an:Option Addr) (cdv ct:Value) (osl:Array (Option Value)),
  fd=W.fnOf x qual (iu st) (cE st) (aN st) .none kV doc pm an cdv ct/\K.lookup f=some ⟨oc,od,.func fd,osl⟩/\W.codeIn K cdv qual=true
 kp:W.keepIn K (.ref f)=true
section
variable {P:Program}{w:World}{K:W.Frag}{mg:Str->Option Value}{base:Heap}
theorem JY.binds{x qual:Str}{st:Stmt}{f:Addr}{fd:FuncData}{ps:List Str}(F:JY K x qual st f fd)
  (h:∀ (kV doc pm:Value) (an:Option Addr) (cdv ct:Value) (us:List Value),us.length=ps.length->bindArgs (W.fnOf x qual (iu st) (cE st) (aN st) .none kV doc pm an cdv ct) ⟨us,[]⟩=pure (ps.zip us)):Binds K fd ps []:=by
 obtain⟨oc,od,kV,doc,pm,an,cdv,ct,osl,rfl,lk,hcd⟩:=F.ex
 exact .all (h kV doc pm an cdv ct)
theorem vW{x qual:Str}{st:Stmt}{f:Addr}{oc:Value}{od an:Option Addr}{osl:Array (Option Value)}{kV doc pm cdv ct:Value}(l:K.lookup f=some ⟨oc,od,.func (W.fnOf x qual (iu st) (cE st) (aN st) .none kV doc pm an cdv ct),osl⟩)
  (c:W.codeIn K cdv qual=true) (k:W.keepIn K (.ref f)=true):JY K x qual st f (W.fnOf x qual (iu st) (cE st) (aN st) .none kV doc pm an cdv ct):=⟨⟨oc,od,kV,doc,pm,an,cdv,ct,osl,rfl,l,c⟩,k⟩
end
section
variable {X:Cx}
end
theorem yj{A B:Prop}(h:B):if false=true then A else B:=by
 rw[if_neg Bool.false_ne_true]
 exact h
theorem zj{A B:Prop}(h:A):if true=true then A else B:=by
 rw[if_pos rfl]
 exact h
def aR(H H':Hp):Prop:=∀b o,H b=some o->H' b=some o
theorem aR.refl(H:Hp):aR H H:=fun _ _ h=>h
theorem aR.trans{H H1 H2:Hp}(a:aR H H1)(b:aR H1 H2):aR H H2:=fun c o h=>b c o (a c o h)
theorem aR.free{H H':Hp}(e:aR H H'){l:Addr}(h:H' l=Option.none):H l=Option.none:=by
 cases q:H l with
 | none=>rfl
 | some o =>
  rw[e l o q] at h
  cases h
theorem aR.seq{K:W.Frag}{H H':Hp}{a:Addr}{xs:List V}(e:aR H H')(h:hZ K H a xs):hZ K H' a xs:=by
 rcases h with (h|⟨o,h⟩)|h
 ·exact .inl (.inl (e _ _ h))
 ·exact .inl (.inr ⟨o,e _ _ h⟩)
 ·exact .inr h
theorem bX:∀ (names:List (Str×NameKind)) (n:Nat) (acc:List (Str×Addr)),cellsFrom n names acc=cellsFrom n names []++acc
 | [],_,_=>rfl
 | (name,kind)::r,n,acc=>by
  unfold cellsFrom
  split
  ·rw[bX r (n+1) ((name,n)::acc),bX r (n+1) [(name,n)]]
   simp
  ·exact bX r n acc
theorem jV{α:Type}{x:Str}{c:α}:∀ {l m:List (Str×α)},(l++m).lookup x=some c->l.lookup x=some c\/(l.lookup x=none/\m.lookup x=some c)
 | [],_,h=>.inr ⟨rfl,h⟩
 | (k,v)::r,m,h=>by
  have ih:=@jV α x c r m
  rw[List.cons_append,yC] at h
  rw[yC]
  cases e:x == k with
  | true=>rw[e] at h;exact .inl h
  | false=>rw[e] at h;exact ih h
theorem jU{α:Type}{x:Str}{c:α}:∀ {l m:List (Str×α)},l.lookup x=some c->(l++m).lookup x=some c
 | [],_,h=>by cases h
 | (k,v)::r,m,h=>by
  have ih:=@jU α x c r m
  rw[yC] at h
  rw[List.cons_append,yC]
  cases e:x == k with
  | true=>rw[e] at h;exact h
  | false=>rw[e] at h;exact ih h
theorem i8{α:Type}{x:Str}:∀ {l m:List (Str×α)},l.lookup x=none->(l++m).lookup x=m.lookup x
 | [],_,_=>rfl
 | (k,v)::r,m,h=>by
  have ih:=@i8 α x r m
  rw[yC] at h
  rw[List.cons_append,yC]
  cases e:x == k with
  | true=>rw[e] at h;cases h
  | false=>rw[e] at h;exact ih h
theorem gW:∀ (names:List (Str×NameKind)) (n:Nat) (x:Str) (c:Addr),(x,c)∈cellsFrom n names []->(x,NameKind.cell)∈names
 | [],_,_,_,h=>by cases h
 | (name,kind)::r,n,x,c,h=>by
  unfold cellsFrom at h
  split at h
  ·rename_i hk
   rw[bX] at h
   rcases List.mem_append.mp h with h|h
   ·exact zC _ (gW r _ x c h)
   ·have:(x,c)=(name,n):=by simpa using h
    cases this
    have:kind=.cell:=by simpa using hk
    subst this
    exact zE
  ·exact zC _ (gW r n x c h)
def eJ(env:Env):List (Str×NameKind)->List (Str×Addr)->List (Str×Addr)
 | [],acc=>acc
 | (n,k)::r,acc=>if k == .free then eJ env r ((n,(env.cells.lookup n).getD 0)::acc) else eJ env r acc
theorem ma(env:Env):∀ (names:List (Str×NameKind)) (acc:List (Str×Addr)),(∀x∈names,x.2=.free->∃c,env.cells.lookup x.1=some c) ->
  (forIn names acc (fun (p:Str×NameKind) (cs:List (Str×Addr))=>(if p.2 == .free then (do let a <- cellOf env p.1;pure (.yield ((p.1,a)::cs))) else pure (.yield cs):Sem (ForInStep (List (Str×Addr))))))=pure (eJ env names acc)
 | [],acc,_=>rfl
 | (n,k)::r,acc,h=>by
  rw[List.forIn_cons]
  have hr:=fun x hx=>h x (zC _ hx)
  unfold eJ
  by_cases hk:k=.free
  ·obtain⟨c,hc⟩:=h (n,k) zE hk
   subst hk
   have e1:cellOf env n=pure c:=by
    have hc':env.cells.lookup n=some c:=hc
    unfold cellOf;rw[hc']
   have hc':env.cells.lookup n=some c:=hc
   simp only[beq_self_eq_true,if_true,e1,pure_bind,hc',Option.getD_some]
   exact ma env r _ hr
  ·have hb:(k == NameKind.free)=false:=by simpa using hk
   simp only[hb,Bool.false_eq_true,if_false,pure_bind]
   exact ma env r _ hr
theorem lW{env:Env}{scope:Scope}(h:∀x∈scope.names,x.2=.free->∃c,env.cells.lookup x.1=some c):closureFor scope env=pure (eJ env scope.names []):=by
 have:=ma env scope.names [] h
 unfold closureFor
 exact (bind_pure _).trans this
theorem k9{env:Env}:∀ {names:List (Str×NameKind)}{acc:List (Str×Addr)},(∀x∈names,x.2=.free->∃c,env.cells.lookup x.1=some c)->(∀x c,(x,c)∈acc->env.cells.lookup x=some c) ->
  ∀x c,(x,c)∈eJ env names acc->env.cells.lookup x=some c
 | [],acc,_,ha,x,c,hm=>ha x c hm
 | (n,k)::r,acc,h,ha,x,c,hm=>by
  unfold eJ at hm
  have hr:=fun x hx=>h x (zC _ hx)
  split at hm
  ·rename_i hk
   have hk':k=.free:=by simpa using hk
   obtain⟨c',hc⟩:=h (n,k) zE hk'
   have hc:env.cells.lookup n=some c':=hc
   refine k9 hr (fun y d hy=>?_) x c hm
   rcases zR.mp hy with e|hy
   ·cases e;rw[hc];rfl
   ·exact ha y d hy
  ·exact k9 hr ha x c hm
theorem g8{env:Env}:∀ {names:List (Str×NameKind)}{acc:List (Str×Addr)}{x:Str},(names.lookup x=some .free\/∃c,acc.lookup x=some c)->∃c,(eJ env names acc).lookup x=some c
 | [],acc,x,h=>by
  rcases h with h|h
  ·cases h
  ·exact h
 | (n,k)::r,acc,x,h=>by
  unfold eJ
  split
  ·rename_i hk
   refine g8 ?_
   rcases h with h|⟨c,h⟩
   ·rw[yC] at h
    cases e:x == n with
    | true=>exact .inr ⟨_,by rw[yC,e]⟩
    | false=>rw[e] at h;exact .inl h
   ·refine .inr ?_
    rw[yC]
    cases e:x == n with
    | true=>exact⟨_,rfl⟩
    | false=>exact⟨c,h⟩
  ·rename_i hk
   refine g8 ?_
   rcases h with h|h
   ·rw[yC] at h
    cases e:x == n with
    | true =>
     rw[e] at h
     cases h
     exact absurd rfl hk
    | false=>rw[e] at h;exact .inl h
   ·exact .inr h
theorem mK{env:Env}:∀ {names:List (Str×NameKind)}{x:Str}{k:NameKind},names.lookup x=some k ->
  (names.map fun (n,k)=>if (k == NameKind.free&&env.scope.kind == .function&&env.kindOf n == some .cell) then (n,NameKind.cell) else (n,k)).lookup x=some (if (k == NameKind.free&&env.scope.kind == .function&&env.kindOf x == some .cell) then NameKind.cell else k)
 | [],_,_,h=>by cases h
 | (n,k)::r,x,k',h=>by
  have ih:=@mK env r x k'
  rw[zI]
  dsimp only
  cases hx:x == n with
  | true =>
   have e:x=n:=by simpa using hx
   subst e
   rw[yC,hx] at h
   cases h
   split<;>simp[yC, *]
  | false =>
   rw[yC,hx] at h
   have ih:=ih h
   split
   ·rw[yC,hx];exact ih
   ·rw[yC,hx];exact ih
theorem oZ{env:Env}:∀ {names:List (Str×NameKind)}{x:Str},names.lookup x=none ->
  (names.map fun (n,k)=>if (k == NameKind.free&&env.scope.kind == .function&&env.kindOf n == some .cell) then (n,NameKind.cell) else (n,k)).lookup x=none
 | [],_,h=>rfl
 | (n,k)::r,x,h=>by
  have ih:=@oZ env r x
  rw[zI]
  dsimp only
  cases hx:x == n with
  | true=>rw[yC,hx] at h;cases h
  | false =>
   rw[yC,hx] at h
   split
   ·rw[yC,hx];exact ih h
   ·rw[yC,hx];exact ih h
def fx(X:Cx)(scope:Scope)(C:Addr):Env :=
 { scope:=relabel scope X.env,locals:=C,globals:=X.env.globals,cells:=cellsFrom (C+1) scope.names (eJ X.env scope.names []),qual:=X.env.qual,func:=none,code:=X.env.code,frame:=X.env.frame,builtins:=X.env.builtins }
def aV(X:Cx)(scope:Scope)(N:List Str)(fp:List Addr)(s:Shared)(H:Hp):Cx :=
 { X with N:=N,s₀:=s,H₀:=H,env:=fx X scope s.heap.objs.size,outer:=X.stack,ex:=fp,fn:=fun x=>decide (scope.names.lookup x=some .cell),pn:=[],xe:=fun _ _=>False }
theorem Al{M:Model}{A:Around}{E:Value->Shared->Prop}{s:Shared}{scope:Scope}{globals:Addr}{cl:List (Str×Addr)}{qual:Str}{env:Env}{Q:Env->Shared->Prop}
  (hQ:∀h',h'.Ns s.heap.objs.size (fun _=>none)->(∀b o,s.heap.get? b=some o->h'.get? b=some o)->CellsOk h' (s.heap.objs.size+1) (cellsFrom (s.heap.objs.size+1) scope.names []) ->
   Q { scope:=scope,locals:=s.heap.objs.size,globals:=globals,cells:=cellsFrom (s.heap.objs.size+1) scope.names cl,qual:=qual,func:=none,code:=env.code,frame:=env.frame,builtins:=env.builtins } { s with heap:=h' }) :
  wpAny M A (newFunctionEnv scope globals cl [] qual none .none (some env)) Q E s:=by
 simp only[newFunctionEnv,Option.isSome_some,if_true]
 refine zW (wpAny_alloc ?_)
 refine zW (wpAny_layCells _ (fun name kind cells=>by cases hkc:kind == NameKind.cell<;>simp[hkc]) _ _ _ _ ?_)
 have ok:=cellsFrom_ok scope.names (s.heap.push { cls:=.type "dict",data:=.dict #[] }) (s.heap.objs.size+1) [] ⟨fun _ _ hm=>(nomatch hm),List.Pairwise.nil⟩ (by rw[Heap.size_push];exact zzA _)
 rw[Heap.size_push] at ok
 rw[show ({ s with heap:=s.heap.push { cls:=.type "dict",data:=.dict #[] } }:Shared).heap.objs.size=s.heap.objs.size+1 from Heap.size_push ..]
 rw[List.forIn_nil]
 refine zW (zX (zX ?_))
 exact hQ _ ((Heap.Ns.new s.heap (.type "dict")).keeps (pushCells_keeps _ _)) (fun b o e=>pushCells_keeps _ _ b o (zV _ e)) ok
section
variable {X:Cx}{pins:List (Addr×Obj)}{σ σ':St}{H:Hp}{s:Shared}{fp:List Addr}{scope:Scope}{N:List Str}{h4:Heap}
theorem kh(ok:X.Ok)(hfree:∀x∈scope.names,x.2=.free->X.env.kindOf x.1=some .cell\/X.env.kindOf x.1=some .free):∀x∈scope.names,x.2=.free->∃c,X.env.cells.lookup x.1=some c :=
 fun x hx hk=>ok.has x.1 (hfree x hx hk)
theorem oH{C:Addr}{x:Str}{k:NameKind}(h:scope.names.lookup x=some k):(fx X scope C).kindOf x=some k\/(k=.free/\(fx X scope C).kindOf x=some .cell):=by
 have q:=mK (env:=X.env) h
 have q':(fx X scope C).kindOf x=some (if (k == NameKind.free&&X.env.scope.kind == .function&&X.env.kindOf x == some .cell) then NameKind.cell else k):=q
 rw[q']
 split
 ·rename_i hc
  have:k=.free:=by
   simp only[zF,beq_iff_eq] at hc
   exact hc.1.1
  exact .inr ⟨this,rfl⟩
 ·exact .inl rfl
theorem lO{C:Addr}{x:Str}{k:NameKind}(h:(fx X scope C).kindOf x=some k):scope.names.lookup x=some k\/(k=.cell/\scope.names.lookup x=some .free):=by
 cases e:scope.names.lookup x with
 | none =>
  have q:(fx X scope C).kindOf x=none:=oZ (env:=X.env) e
  rw[q] at h;cases h
 | some k' =>
  rcases oH (X:=X) (C:=C) e with q|⟨q,q'⟩
  ·rw[q] at h;cases h;exact .inl rfl
  ·rw[q'] at h;cases h;subst q;exact .inr ⟨rfl,rfl⟩
theorem FH(I:Inv X pins σ H s)(hf:∀b∈fp,cK X pins H b)(hfl:∀b∈fp,b < s.heap.objs.size)(hk:scope.kind=.function)
  (hfree:∀x∈scope.names,x.2=.free->X.env.kindOf x.1=some .cell\/X.env.kindOf x.1=some .free)
  (hns:h4.Ns s.heap.objs.size (fun _=>none)) (hkeep:∀b o,s.heap.get? b=some o->h4.get? b=some o) (hco:CellsOk h4 (s.heap.objs.size+1) (cellsFrom (s.heap.objs.size+1) scope.names []))
  (hdup:∀ {x:Str},(x,NameKind.cell)∈scope.names->(x,NameKind.free)∈scope.names->False) (hcap:∀ (i:Nat) (x:Str) (v:V),N[i]?=some x->σ'[i]?=some (some v)->scope.names.lookup x=some .free/\∃j:Nat,X.N[j]?=some x/\σ[j]?=some (some v)) (hlen:σ'.length=N.length) (t':Nat) :
  Inv (aV X scope N fp s H) [] σ' H { s with heap:=h4,toks:=t' }:=by
 have hcl:=kh I.ok hfree
 have clx:∀x c,(eJ X.env scope.names []).lookup x=some c->X.env.cells.lookup x=some c:=fun x c e=>k9 hcl (fun _ _ z=>by cases z) x c (mem_of_lookup e)
 have look:∀x c,(fx X scope s.heap.objs.size).cells.lookup x=some c->(x,c)∈cellsFrom (s.heap.objs.size+1) scope.names []\/X.env.cells.lookup x=some c:=fun x c e=>by
  have e:(cellsFrom (s.heap.objs.size+1) scope.names (eJ X.env scope.names [])).lookup x=some c:=e
  rw[bX] at e
  rcases jV e with q|⟨_,q⟩
  ·exact .inl (mem_of_lookup q)
  ·exact .inr (clx x c q)
 have old:∀x c,X.env.cells.lookup x=some c->c < s.heap.objs.size:=fun x c e=>let ⟨_,q⟩:=I.cell x c e;q.lt
 have new:∀x c,(x,c)∈cellsFrom (s.heap.objs.size+1) scope.names []->s.heap.objs.size < c:=fun x c e=>(hco.empty x c e).2
 refine⟨⟨I.ok.mod,?_,I.ok.glob,I.ok.blt,zzA _,?_,?_,?_,I.ok.hd,I.ok.frames,.inl rfl,?_,I.bs,yE I.ok.bsz I.sz,?_,?_,I.stack,I.stkFree⟩,rfl,I.bare,Un.kept hkeep,⟨_,hns,?_⟩,?_,I.hok.fresh (zzA _),?_,
  fun p hp=>absurd (show p∈([]:List (Addr×Obj)) from hp) (by simp),I.hok.kept hkeep,hlen⟩
 ·show (relabel scope X.env).kind=_
  exact hk
 ·intro x y c e1 e2
  rcases look x c e1 with a|a<;>rcases look y c e2 with b|b
  ·exact name_of_addr hco.apart a b
  ·exact absurd (Nat.lt_trans (new x c a) (old y c b)) (Nat.lt_irrefl _)
  ·exact absurd (Nat.lt_trans (new y c b) (old x c a)) (Nat.lt_irrefl _)
  ·exact I.ok.inj x y c a b
 ·intro x hx
  show ∃c,(cellsFrom (s.heap.objs.size+1) scope.names (eJ X.env scope.names [])).lookup x=some c
  refine Option.isSome_iff_exists.mp (W.cellsFrom_some _ _ _ ?_)
  rcases hx with hx|hx
  ·rcases lO hx with q|⟨_,q⟩
   ·exact .inl q
   ·exact .inr (Option.isSome_iff_exists.mpr (g8 (.inl q)))
  ·rcases lO hx with q|⟨q,_⟩
   ·exact .inr (Option.isSome_iff_exists.mpr (g8 (.inl q)))
   ·cases q
 ·intro x c hfn e
  have hfn:scope.names.lookup x=some .cell:=of_decide_eq_true hfn
  have e:(cellsFrom (s.heap.objs.size+1) scope.names (eJ X.env scope.names [])).lookup x=some c:=e
  obtain⟨c',hc'⟩:=qZ (n:=s.heap.objs.size+1) hfn
  rw[bX,jU hc'] at e
  cases e
  exact Nat.le_of_lt (new x c (mem_of_lookup hc'))
 ·intro b hb
  refine⟨zzB (hfl b hb),fun x c e z=>?_⟩
  rcases look x c e with a|a
  ·exact absurd (Nat.lt_trans (new x c a) (by rw[z];exact hfl b hb)) (Nat.lt_irrefl _)
  ·exact (hf b hb).2.2.2.2.1 x c a z
 ·intro b o e hb
  obtain⟨f0,f1,f2,f3,f4,f5⟩:=hf b hb
  rcases f3 with z|z
  ·exact I.ok.noex b o e z
  ·exact absurd (zP (zZ (I.ok.bs b o e).1) z) (Nat.lt_irrefl _)
 ·intro b hb hz
  obtain⟨f0,f1,f2,f3,f4,f5⟩:=hf b hb
  rcases zR.mp (I.stkSub b hz) with z|z
  ·exact f1 z
  ·exact f2 z
 ·intro i x v e1 e2 e3
  obtain⟨hfr,j,hj,hv⟩:=hcap i x v e1 e2
  have hm:(x,NameKind.free)∈scope.names:=mem_of_lookup hfr
  obtain⟨m,hn,hl⟩:=I.loc
  have kx:=hfree _ hm rfl
  obtain⟨u,ru,lk⟩:=hl j x v hj hv (kx.elim (fun k=>.inr (.inl k)) fun k=>.inr (.inr k))
  refine⟨u,ru,.inr ⟨?_,?_⟩⟩
  ·rcases oH (X:=X) (C:=s.heap.objs.size) hfr with q|⟨_,q⟩
   ·exact .inr q
   ·exact .inl q
  ·rcases lk with ⟨k,_⟩|⟨_,c,ec,ic⟩
   ·have k:X.env.kindOf x=some .local:=k
    rcases kx with k'|k'<;>· rw[k] at k';cases k'
   ·obtain⟨c',hc'⟩:=g8 (env:=X.env) (acc:=[]) (.inl hfr)
    have e':=clx x c' hc'
    rw[ec] at e'
    cases e'
    refine⟨c,?_,ic.keeps hkeep⟩
    show (cellsFrom (s.heap.objs.size+1) scope.names (eJ X.env scope.names [])).lookup x=some c
    rw[bX]
    cases eo:(cellsFrom (s.heap.objs.size+1) scope.names []).lookup x with
    | none=>rw[i8 eo];exact hc'
    | some d =>
     have hcm:=gW _ _ _ _ (mem_of_lookup eo)
     exact (hdup hcm hm).elim
 ·intro x c e
  rcases look x c e with a|a
  ·exact⟨_,(hco.empty x c a).1⟩
  ·obtain⟨v,q⟩:=I.cell x c a
   exact⟨v,q.keeps hkeep⟩
 ·intro x c e
  rcases look x c e with a|a
  ·exact I.hok.fresh (Nat.le_of_lt (new x c a))
  ·exact I.freeC x c a
end
abbrev ym(ifs:List Expr)(env:Env):Sem Bool:=forIn ifs true fun c r=>if r=true then do let ok <- isTrue c env (eval c env);pure (ForInStep.yield ok) else pure (ForInStep.yield r)
def Nr(X:Cx)(ifs:List Expr)(t:TT):Prop :=
 ∀ (pins:List (Addr×Obj)) (s:Shared) (σ:St) (H:Hp) (Q:Bool->Hp->Prop),Inv X pins σ H s->t σ H Q->wpAny (model X.prog X.w) X.A (ym ifs X.env) (TP X pins σ Q) X.xe s
theorem Ki{X:Cx}:Nr X [] (fun _ H Q=>Q true H):=fun _ _ _ H _ I h=>wpAny_tests_nil ⟨H,I,h⟩
theorem IB{X:Cx}{c:Expr}{t:TT}(h:PT X c t):Nr X [c] t:=fun pins s σ H Q I q=>wpAny_tests_one (h pins s σ H Q I q)
theorem u9{prog:Program}{w:World}{A:Around}{R:Result->Shared->Prop}{s:Shared}{elt target iter:Expr}{ifs:List Expr}{scope:Scope}{pos:Pos}{it acc:Value}{env:Env}(I:Nat->Shared->Prop)
  (turn:∀n s,I n s->wpAny (model prog w) A (pyNext it) (fun r s₁=>match r with
   | none=>R (.ok .next) s₁
   | some v=>wpAny (model prog w) A (letOwnedTupleGo target it v) (fun _ s₁'=>wpAny (model prog w) A (assign target env v) (fun _ s₂ =>
     wpAny (model prog w) A (ym ifs env) (fun ok s₃ =>
      if ok=true then wpAny (model prog w) A (eval elt env) (fun x s₄ =>
       wpAny (model prog w) A (call (.builtin "list.append") [acc,x]) (fun _ s₅=>∃m,m < n/\I m s₅) (fun _ _=>False) s₄) (fun _ _=>False) s₃
      else ∃m,m < n/\I m s₃) (fun _ _=>False) s₂) (fun _ _=>False) s₁') (fun _ _=>False) s₁) (fun _ _=>False) s)
  (n:Nat) (h:I n s) :
  codeAny (model prog w) A (.compLoop (.ListComp elt [⟨target,iter,ifs,0⟩] scope pos) 0 it acc env) R s:=by
 refine codeAny_loop rfl I (fun n s hI=>?_) n h
 show wpAny _ A ((compTurn (.ListComp elt [⟨target,iter,ifs,0⟩] scope pos) 0 it acc env).onRaise (fun x=>do noteFrame x env;theTreesLotGoes x)) _ _ s
 refine wpAny_noted ?_
 rw[compTurn_list]
 refine zW (wpAny_standAt (zW (wpAny_mono (turn n s hI) (fun r s₁ h₁=>?_) fun _ _ h'=>h'.elim)))
 cases r with
 | none=>exact zX h₁
 | some v =>
  refine zW (wpAny_mono h₁ (fun _ s₁' h₁'=>?_) fun _ _ h'=>h'.elim)
  refine zW (wpAny_mono h₁' (fun _ s₂ h₂=>zW (wpAny_mono h₂ (fun ok s₃ h₃=>?_) fun _ _ h'=>h'.elim)) fun _ _ h'=>h'.elim)
  cases ok with
  | false=>exact zX ⟨rfl,h₃⟩
  | true =>
   exact zW (zW (wpAny_mono h₃ (fun x s₄ h₄=>zW (wpAny_mono h₄ (fun _ s₅ h₅=>zX (zX ⟨rfl,h₅⟩)) fun _ _ h'=>h'.elim)) fun _ _ h'=>h'.elim))
def BL(X:Cx)(pins:List (Addr×Obj))(σ:St)(Q:VK)(acc:Value)(C:Addr)(r:Result)(s5:Shared):Prop :=
 ∃ (D:Addr) (H5:Hp) (m:Str->Option Value),acc=.ref D/\r=.ok .next/\Inv X pins σ H5 s5/\s5.heap.Ns C m/\cK X pins H5 C/\Q (.ref D) H5
def Fy(J:It)(g:TG)(tt:TT)(te:TE)(D:Addr)(σ0:St)(H0:Hp)(Q:VK):Prop :=
 ∃W:Nat->Nat->St->Hp->Prop,(∃m,W 0 m σ0 H0)/\∀i m σ H,W i m σ H ->
  (J.stop i H/\Q (.ref D) H)\/(J.go i H/\∀x H',J.yld i H x H'->g x σ H' fun σ2 H2=>tt σ2 H2 fun b H3 =>
   if b=true then te σ2 H3 fun v H4=>∃ys,H4 D=some (.lst ys)/\ys.length < sizeLine/\∃m',m' < m/\W (i+1) m' σ2 (upd H4 D (.lst (ys++[v])))
   else ∃m',m' < m/\W (i+1) m' σ2 H3)
section
variable {X:Cx}{pins:List (Addr×Obj)}{σ σ':St}{H:Hp}{s:Shared}{scope:Scope}{N:List Str}
 {tg iter elt:Expr}{ifs:List Expr}{pos:Pos}{g:TG}{tt:TT}{te:TE}
theorem uB{J:It}{fp:List Addr}{it:Addr}{tn:Nat->Heap->Prop}{Q:VK}(hc:X.calm=true)(I:Inv X pins σ H s)(T:Turn X.prog X.w X.K tg J fp it tn)(st:tn 0 s.heap)(hf:∀b∈fp,cK X pins H b)(hk:scope.kind=.function)
  (hfree:∀x∈scope.names,x.2=.free->X.env.kindOf x.1=some .cell\/X.env.kindOf x.1=some .free) (hdup:∀ {x:Str},(x,NameKind.cell)∈scope.names->(x,NameKind.free)∈scope.names->False)
  (hcap:∀ (i:Nat) (x:Str) (v:V),N[i]?=some x->σ'[i]?=some (some v)->scope.names.lookup x=some .free/\∃j:Nat,X.N[j]?=some x/\σ[j]?=some (some v)) (hlen:σ'.length=N.length)
  (hY:∀fp s H,PG (aV X scope N fp s H) tg g/\Nr (aV X scope N fp s H) ifs tt/\PE (aV X scope N fp s H) elt te)
  (hrd:∀D,H D=none->Fy J g tt te D σ' (upd H D (.lst [])) Q) {E:Value->Shared->Prop} :
  wpAny (model X.prog X.w) X.A (newList []) (fun acc s₃=>wpAny (model X.prog X.w) X.A (newFunctionEnv scope X.env.globals (eJ X.env scope.names []) [] X.env.qual none .none (some X.env)) (fun cenv s₄ =>
   codeAny (model X.prog X.w) X.A (.compStart (.ListComp elt [⟨tg,iter,ifs,0⟩] scope pos) 0 (.ref it) acc { cenv with scope:=relabel scope X.env }) (BL X pins σ Q acc cenv.locals) s₄) E s₃) E s:=by
 refine wpAny_newObj_type ?_
 have hfl:∀b∈fp,b < s.heap.objs.size:=fun b hb=>let ⟨o,e,_⟩:=T.obj _ _ st b hb;zZ e
 have I3:=I.lnew (ys:=[]) (its:=[]) (t':=s.toks) .nil (Nat.zero_le _)
 have hD:H s.heap.objs.size=none:=I.fresh
 obtain⟨W,⟨m0,w0⟩,turn⟩:=hrd _ hD
 generalize e3:({ s with heap:=s.heap.push { cls:=.type "list",data:=.seq ([]:List Value).toArray },toks:=s.toks }:Shared)=s3 at I3
 have e3h:s3.heap=s.heap.push { cls:=.type "list",data:=.seq ([]:List Value).toArray }:=by rw[<- e3]
 generalize hH3:upd H s.heap.objs.size (.lst [])=H3 at I3 w0 turn
 have hlt:s.heap.objs.size < s3.heap.objs.size:=by rw[e3h,Heap.size_push];exact Nat.lt_succ_self _
 have hk3:∀b o,s.heap.get? b=some o->s3.heap.get? b=some o:=fun b o e=>by rw[e3h];exact zV _ e
 generalize s.heap.objs.size=D at *
 have f3:∀b∈fp,cK X pins H3 b:=fun b hb=>by
  obtain⟨f0,f⟩:=hf b hb
  refine⟨?_,f⟩
  rw[<- hH3,aE (zzB (hfl b hb))]
  exact f0
 have st3:tn 0 s3.heap:=T.keep _ _ _ st fun b _ o e=>hk3 b o e
 refine Al fun h4 hns hkp hco=>?_
 dsimp only
 have I4:=FH (N:=N) (σ':=σ') (fp:=fp) I3 f3 (fun b hb=>Nat.lt_trans (hfl b hb) hlt) hk hfree hns hkp hco hdup hcap hlen s3.toks
 have fC:∀H',H' s3.heap.objs.size=none->cK X pins H' s3.heap.objs.size:=fun H' hn=>I3.fpOk (zzA _) hn
 obtain⟨hg,htt,hte⟩:=hY fp s3 H3
 have efp:∀b∈fp,∀H':Hp,H' b=none->cK (aV X scope N fp s3 H3) [] H' b:=fun b hb H' hn=>by
  refine⟨hn,(I4.ok.exf b hb).1,I4.ok.exfs b hb,.inl hb,(I4.ok.exf b hb).2,fun p hp=>?_⟩
  cases hp
 have loop:codeAny (model X.prog X.w) X.A (.compLoop (.ListComp elt [⟨tg,iter,ifs,0⟩] scope pos) 0 (.ref it) (.ref D) (fx X scope s3.heap.objs.size)) (BL X pins σ Q (.ref D) s3.heap.objs.size) { s3 with heap:=h4 }:=by
  refine u9 (fun n s'=>∃i σ' H',Inv (aV X scope N fp s3 H3) [] σ' H' s'/\tn i s'.heap/\(∀b∈fp,H' b=none)/\W i n σ' H') ?_ m0
   ⟨0,σ',H3,I4,T.keep _ _ _ st3 fun b _ o e=>hkp b o e,fun b hb=>(f3 b hb).1,w0⟩
  rintro n s5 ⟨i,σ5,H5,I5,st5,fr5,w5⟩
  rcases turn i n σ5 H5 w5 with ⟨stop,q⟩|⟨go,step⟩
  ·refine cy (T.done (aV X scope N fp s3 H3) rfl rfl rfl hc i [] s5 σ5 H5 _ I5 (fun b hb=>efp b hb H5 (fr5 b hb)) st5 stop) fun r s6 ⟨hr,I6⟩=>?_
   subst hr
   obtain⟨m,hn6,_⟩:=I6.loc
   refine⟨D,H5,m,rfl,rfl,I3.call' I6.os I6.base I6.hok I6.bare (fun b hb=>?_),hn6,fC H5 I6.free,q⟩
   obtain⟨f0,f1,f2,f4,f5,f6⟩:=f3 b hb
   exact⟨f4,f1,f5,f6⟩
  ·refine cy (T.item (aV X scope N fp s3 H3) rfl rfl rfl hc i [] s5 σ5 H5 _ I5 (fun b hb=>efp b hb H5 (fr5 b hb)) st5 go) fun r s6 ⟨u,hr,h6⟩=>?_
   subst hr
   refine cy h6 fun _ s7 ⟨x,H7,I7,r7,y7,st7,fr7⟩=>?_
   have I7':=I7.pinned (fun b hb=>efp b hb H7 (fr7 b hb)) (T.obj _ _ st7)
   have again:∀ {pl:List (Addr×Obj)}{σ9:St}{H9:Hp}{s9:Shared}{n':Nat},Inv (aV X scope N fp s3 H3) ([]++oa fp s7.heap) σ9 H9 s9->W (i+1) n' σ9 H9->∃i σ' H',Inv (aV X scope N fp s3 H3) [] σ' H' s9/\tn i s9.heap/\(∀b∈fp,H' b=none)/\W i n' σ' H':=fun {pl σ9 H9 s9 n'} I9 w9=>by
    refine⟨i+1,σ9,H9,I9.unpinned,T.keep _ _ _ st7 fun b hb o e=>(I9.pin (b,o) (yF _ (yF _ (dP hb e)))).1,fun b hb=>?_,w9⟩
    obtain⟨o,e,d⟩:=T.obj _ _ st7 b hb
    exact (I9.pin (b,o) (yF _ (yF _ (dP hb e)))).2.1
   refine cy (hg _ s7 σ5 H7 x u _ I7' r7 (step x H7 y7)) fun _ s8 ⟨σ8,H8,I8,q8⟩=>?_
   refine cy (htt _ s8 σ8 H8 _ I8 q8) fun ok s9 ⟨H9,I9,q9⟩=>?_
   cases ok with
   | false =>
    rw[if_neg (by decide)] at q9
    rw[if_neg (by decide)]
    obtain⟨m',hm,w9⟩:=q9
    exact⟨m',hm,again (pl:=[]) I9 w9⟩
   | true =>
    rw[if_pos rfl] at q9
    rw[if_pos rfl]
    refine cy (hte _ s9 σ8 H9 _ I9 q9) fun y s10 ⟨v,H10,I10,r10,ys,hD10,hz,m',hm,w10⟩=>?_
    refine cy (uA (X:=aV X scope N fp s3 H3) _ s10 σ8 H10 (.ref D) [v] (.ref D) [y] (fun _ H'=>W (i+1) m' σ8 H') I10 rfl (.cons r10 .nil) ⟨D,ys,v,rfl,rfl,hD10,hz,w10⟩) fun _ s11 ⟨_,H11,I11,_,w11⟩=>?_
    exact⟨m',hm,again (pl:=[]) I11 w11⟩
 exact codeAny_compStart_list loop (T.self _ 0 _ _ _ (T.keep _ _ _ st3 fun b _ o e=>hkp b o e) loop)
end
def FX(wi:TI)(g:TG)(tt:TT)(te:TE)(caps:St->St):TE:=fun σ H Q=>wi σ H fun J H1=>∀D,H1 D=none->Fy J g tt te D (caps σ) (upd H1 D (.lst [])) Q
structure jw(X:Cx)(scope:Scope)(N:List Str)(caps:St->St):Prop where
 kind:scope.kind=.function
 free:∀x∈scope.names,x.2=.free->X.env.kindOf x.1=some .cell\/X.env.kindOf x.1=some .free
 dup:∀ {x:Str},(x,NameKind.cell)∈scope.names->(x,NameKind.free)∈scope.names->False
 loc:∀x∈scope.names,x.2=.local -> scope.names.lookup x.1=some .local
 cap:∀ (σ:St) (i:Nat) (x:Str) (v:V),N[i]?=some x->(caps σ)[i]?=some (some v)->scope.names.lookup x=some .free/\∃j:Nat,X.N[j]?=some x/\σ[j]?=some (some v)
 len:∀σ:St,(caps σ).length=N.length
section
variable {X:Cx}{scope:Scope}{N:List Str}{caps:St->St}{tg iter elt:Expr}{ifs:List Expr}{pos:Pos}{wi:TI}{g:TG}{tt:TT}{te:TE}
theorem Jo(hc:X.calm=true)(S:jw X scope N caps)(hi:PI X tg iter wi)
  (hY:∀fp s H,PG (aV X scope N fp s H) tg g/\Nr (aV X scope N fp s H) ifs tt/\PE (aV X scope N fp s H) elt te)
  (hs:∀x,foldedSetIterable iter X.env x=pure x:=by intro _;rfl):PE X (.ListComp elt [⟨tg,iter,ifs,0⟩] scope pos) (FX wi g tt te caps):=by
 intro pins s σ H Q I h
 rw[eval_ListComp]
 refine wpAny_comprehension_free (use:=none) rfl hs (lW (kh I.ok S.free)) S.kind S.loc (cy (hi pins s σ H _ I h) fun v s1 h1=>cy h1 fun itv s2 h2=>?_)
 obtain⟨it,fp,tn,J,H2,e,I2,T,nh,f2,rd⟩:=h2
 subst e
 refine cy (uB (iter:=iter) (pos:=pos) (E:=X.xe) hc I2 T nh f2 S.kind S.free S.dup (S.cap σ) (S.len σ) hY rd) fun acc s3 h3=>cy h3 fun cenv s4 h4=>?_
 refine codeAny_mono h4 fun r s5 h5=>?_
 obtain⟨D,H5,m,rfl,rfl,I5,hn,fC,q⟩:=h5
 refine⟨m,hn,fun h' sb=>?_⟩
 obtain⟨f0,f1,f2',f3,f4,f5⟩:=fC
 exact⟨.ref D,H5,I5.turned (t':=s5.toks) (fun b o hb e=>(sb.2 b hb).trans e) f0 f1 f3 f4 f5,rfl,q⟩
theorem J1{i:Nat}{y:Str}{py spos:Pos}(hc:X.calm=true)(S:jw X scope N caps)(hi:PI X tg iter wi)
  (hY:∀fp s H,PG (aV X scope N fp s H) tg g/\Nr (aV X scope N fp s H) ifs tt/\PE (aV X scope N fp s H) elt te)
  (hN:X.N.Nodup) (hiy:X.N[i]?=some y) (hy:X.env.scope.names.lookup y=some .local)
  (hsw:swapsWith (.ListComp elt [⟨tg,iter,ifs,0⟩] scope pos) (some (.Name y py)) spos.line X.env=pure true)
  (hs:∀x,foldedSetIterable iter X.env x=pure x:=by intro _;rfl):PS X (.Assign [.Name y py] (.ListComp elt [⟨tg,iter,ifs,0⟩] scope pos) spos) (Hx (FX wi g tt te caps) (xq i)):=by
 intro pins s σ H D I h
 rw[exec_Assign_Name_used _ _ _ _ hsw]
 refine zW (wpAny_standAt (zW ?_))
 show wpAny _ X.A (do let _ <- comprehension (.ListComp elt [⟨tg,iter,ifs,0⟩] scope pos) scope X.env _ (newList []) false (eval iter X.env) (some (assign (.Name y py) X.env))) _ _ s
 refine zW (wpAny_mono (wpAny_comprehension_free (use:=some (assign (.Name y py) X.env)) (Q:=fun _ s'=>SP X pins D .next s') rfl hs (lW (kh I.ok S.free)) S.kind S.loc
  (cy (hi pins s σ H _ I h) fun v s1 h1=>cy h1 fun itv s2 h2=>?_)) (fun _ s' hq=>zX (zX hq)) fun _ _ e=>e)
 obtain⟨it,fp,tn,J,H2,e,I2,T,nh,f2,rd⟩:=h2
 subst e
 refine cy (uB (iter:=iter) (pos:=pos) (E:=X.xe) hc I2 T nh f2 S.kind S.free S.dup (S.cap σ) (S.len σ) hY rd) fun acc s3 h3=>cy h3 fun cenv s4 h4=>?_
 refine codeAny_mono h4 fun r s5 h5=>?_
 obtain⟨D',H5,m,rfl,rfl,I5,hn,fC,q⟩:=h5
 show wpAny _ X.A (assign (.Name y py) X.env (.ref D')) _ _ _
 refine wpAny_assign_Name (uy (v:=.ref D') I5 hN hiy (.inl hy) rfl (fun s6 I6 ⟨a,sa,ha⟩=>?_) (.inr hy))
 obtain⟨f0,f1,f2',f3,f4,f5⟩:=fC
 have hne:cenv.locals≠a:=by
  rcases ha with z|z
  ·rw[z];exact f1
  ·exact fun w=>f4 y a z w.symm
 refine⟨m,hn.sameBut sa hne,fun h' sb=>?_⟩
 exact⟨_,H5,I6.turned (t':=s6.toks) (fun b o hb e=>(sb.2 b hb).trans e) f0 f1 f3 f4 f5,q⟩
end
abbrev PF(X:Cx)(qual:Str)(scope:Scope)(f c L:Addr):Env:=W.envX qual scope L f (.ref c) (eJ X.env scope.names [])
def iq(X:Cx)(A:Around)(qual:Str)(scope:Scope)(N:List Str)(f c:Addr)(s:Shared)(H:Hp):Cx where
 prog:=X.prog
 w:=X.w
 K:=X.K
 mg:=X.mg
 base:=X.base
 A:=A.deeper (PF X qual scope f c s.heap.objs.size)
 N:=N
 s₀:=s
 H₀:=H
 env:=PF X qual scope f c s.heap.objs.size
 outer:=X.stack
 stack:=PF X qual scope f c s.heap.objs.size::X.stack
 ex:=[]
 fn:=fun _=>false
 calm:=true
 pn:=[]
 xe:=fun _ _=>False
section
variable {X:Cx}{pins:List (Addr×Obj)}{σ:St}{H:Hp}{s:Shared}{scope:Scope}{N:List Str}{h1:Heap}{A:Around}{caps:St->St}{p qual:Str}{f c:Addr}{u:Value}{v:V}
theorem JQ(I:Inv X pins σ H s)(hd:A.handled=none)(hA:A.frames=some X.stack)(S:jw X scope N caps)(hnc:∀x∈scope.names,x.2≠.cell)(hN0:N[0]?=some p)(hp:scope.names.lookup p=some .local)(hNd:N.Nodup)(r:RelV v u)
  (hns:h1.Ns s.heap.objs.size (fun x=>[(p,u)].reverse.lookup x)) (hkeep:∀b o,s.heap.get? b=some o->h1.get? b=some o) (t':Nat) :
  Inv (iq X A qual scope N f c s H) [] ((caps σ).set 0 (some v)) H { s with heap:=h1,toks:=t' }:=by
 have hcl:=kh I.ok S.free
 have clx:∀x c,(eJ X.env scope.names []).lookup x=some c->X.env.cells.lookup x=some c:=fun x c e=>k9 hcl (fun _ _ z=>by cases z) x c (mem_of_lookup e)
 have noA:∀b:Addr,b∉(iq X A qual scope N f c s H).ex:=fun b z=>absurd (show b∈([]:List Addr) from z) (by simp)
 refine⟨⟨I.ok.mod,S.kind,rfl,rfl,zzA _,fun x y d e1 e2=>I.ok.inj x y d (clx x d e1) (clx y d e2),fun x hx=>?_,fun x d z=>?_,fun _=>hd,Around.frames_deeper hA,.inr ⟨rfl,rfl⟩,fun b z=>absurd z (noA b),I.bs,yE I.ok.bsz I.sz,fun b _ _=>noA b,fun b z=>absurd z (noA b),I.stack,I.stkFree⟩,
  rfl,I.bare,Un.kept hkeep,⟨_,hns,fun i x w e1 e2 e3=>?_⟩,fun x d e=>?_,I.hok.fresh (zzA _),fun x d e=>I.freeC x d (clx x d e),fun q hq=>absurd (show q∈([]:List (Addr×Obj)) from hq) (by simp),I.hok.kept hkeep,?_⟩
 ·rcases hx with hx|hx
  ·exact absurd rfl (hnc _ (mem_of_lookup (show scope.names.lookup x=some .cell from hx)))
  ·exact g8 (.inl hx)
 ·cases z
 ·cases i with
  | zero =>
   have e1:N[0]?=some x:=e1
   rw[hN0] at e1
   cases e1
   have hl:0 < (caps σ).length:=by rw[S.len];exact (zU.mp hN0).1
   rw[List.getElem?_set_self hl] at e2
   cases e2
   exact⟨u,r,.inl ⟨hp,by simp⟩⟩
  | succ i =>
   have e2':(caps σ)[i+1]?=some (some w):=by
    rw[List.getElem?_set_ne (by omega)] at e2;exact e2
   obtain⟨hfr,j,hj,hv⟩:=S.cap σ (i+1) x w e1 e2'
   have hm:(x,NameKind.free)∈scope.names:=mem_of_lookup hfr
   obtain⟨m,hn,hl⟩:=I.loc
   have kx:=S.free _ hm rfl
   obtain⟨u',ru,lk⟩:=hl j x w hj hv (kx.elim (fun k=>.inr (.inl k)) fun k=>.inr (.inr k))
   refine⟨u',ru,.inr ⟨.inr hfr,?_⟩⟩
   rcases lk with ⟨k,_⟩|⟨_,c',ec,ic⟩
   ·have k:X.env.kindOf x=some .local:=k
    rcases kx with k'|k'<;>· rw[k] at k';cases k'
   ·obtain⟨c'',hc'⟩:=g8 (env:=X.env) (acc:=[]) (.inl hfr)
    have e':=clx x c'' hc'
    rw[ec] at e'
    cases e'
    exact⟨c',hc',ic.keeps hkeep⟩
 ·obtain⟨w,q⟩:=I.cell x d (clx x d e)
  exact⟨w,q.keeps hkeep⟩
 ·rw[yD];exact S.len σ
theorem ya{k:Nat}{params:Arguments}{body:Expr}{pm ctv:Value}{name:Str}{te:TE}{Q:VK}(I:Inv X pins σ H s)(hr:eH (k+1) A)(hA:A.frames=some X.stack)(S:jw X scope N caps)(hnc:∀x∈scope.names,x.2≠.cell)
  (hN0:N[0]?=some p) (hp:scope.names.lookup p=some .local) (hNd:N.Nodup) (hco:scope.isCoroutine=false) (hgen:scope.isGenerator=false)
  (hf:s.heap.get? f=some (W.kla_obj name qual params body scope (eJ X.env scope.names []) pm c ctv)) (hcod:H c=some (.cod qual)) (hb:bindArgs (W.kla_fn name qual params body scope (eJ X.env scope.names []) pm (.ref c) ctv) ⟨[u],[]⟩=pure [(p,u)])
  (r:RelV v u) (hY:PE (iq X A qual scope N f c s H) body te) (q:te ((caps σ).set 0 (some v)) H Q) :
  wpAny (model X.prog X.w) A (call (.ref f) [u]) (EP X pins σ Q) (fun _ _=>False) s:=by
 have hcd:s.heap.CodeRec (.ref c) qual:=I.hok c _ hcod
 refine wpAny_call (W.kla_callFunE hr.depth hf rfl hco hgen rfl hcd ?_)
 rw[hb]
 refine zX (wpAny_newFunctionEnv hnc (fun y hy=>?_) (fun h1 hns hsb=>⟨?_,?_⟩) S.kind)
 ·rw[yL.mp hy];exact hp
 ·exact I.nolimit.fresh _ hsb
 ·have hk1:∀b o,s.heap.get? b=some o->h1.get? b=some o:=fun b o e=>hsb.extBut b o (zzB (zZ e)) (zV _ e)
  have I1:=JQ (qual:=qual) (f:=f) (c:=c) I hr.hd hA S hnc hN0 hp hNd r hns hk1 (s.toks+[(p,u)].length)
  refine W.kla_codeExpr (wpAny_mono (hY [] _ _ H Q I1 q) (fun w s' ⟨v',H',I',r',q'⟩=>?_) fun e s' h=>False.elim h)
  exact⟨v',H',I.call' I'.os I'.base I'.hok I'.bare (fun b z=>absurd (show b∈([]:List Addr) from z) (by simp)),r',q'⟩
end
theorem Aq{pos pos':Pos}{c v:Value}(l:List Value)(h:TriplesOk l)(e:codeAmong pos' (l++[rawInt pos.line,rawInt pos.col,c])=some v):codeAmong pos' l=some v\/v=c:=by
 fun_induction TriplesOk l with
 | case1 =>
  simp only[List.nil_append,codeAmong,rawInt] at e
  split at e
  ·cases e;exact .inr rfl
  ·cases e
 | case2 a t b u x rest ih =>
  simp only[List.cons_append,codeAmong] at e ⊢
  split at e
  ·rename_i hc;rw[if_pos hc];exact .inl e
  ·rename_i hc;rw[if_neg hc];exact ih h e
 | case3 l h1 h2=>exact h.elim
section
variable {X:Cx}{pins:List (Addr×Obj)}{σ:St}{H:Hp}{s:Shared}{scope:Scope}{N:List Str}{caps:St->St}{qual:Str}{c P:Addr}
theorem yy{params:Arguments}{body:Expr}{lpos:Pos}{Q:Value->Shared->Prop}(I:Inv X pins σ H s)(S:jw X scope N caps)(hq:X.env.qual++"<lambda>"=qual)(hcode:X.env.code=.ref c)(C:W.CodeHd X.base c P)(hT:H P=some (.tab qual))(hB:OU X.mg X.base)
  (hdef:defaultsOf params X.env=([],[]))
  (h:∀ (f c':Addr) (pm ctv:Value) (s':Shared) (H':Hp),Inv X pins σ H' s'->s'.heap.get? f=some (W.kla_obj "<lambda>" qual params body scope (eJ X.env scope.names []) pm c' ctv)->H' f=none->H' c'=some (.cod qual)->aR H H'->cK X pins H' f->(∀b,H' b≠none->H b≠none\/H' b=some (.cod qual))->Q (.ref f) s') :
  wpAny (model X.prog X.w) X.A (eval (.Lambda params body scope lpos) X.env) Q X.xe s:=by
 have hcl:=lW (kh I.ok S.free)
 have hCs:=C.keeps I.bk
 have hg:s.heap.Ns mainGlobals X.mg:=by
  obtain⟨o,es,ep,e,r⟩:=I.ok.mod.glob
  exact⟨o,es,ep,I.bk _ _ e,r⟩
 have hPn:X.base.get? P=none:=by
  cases e:X.base.get? P with
  | none=>rfl
  | some o=>rw[(I.bs P o e).2] at hT;cases hT
 obtain⟨ps,hP,ht,hco⟩:=I.hok P _ hT
 have hb:s.heap.BuiltinsAt X.mg P:=by
  obtain⟨bm,o,b1,b2,b3,b4,b5⟩:=hB
  exact⟨bm,o,b1,b2,b3,(fun z=>by rw[z,hPn] at b4;cases b4),I.bk _ _ b4,b5⟩
 refine W.kla_eval hdef ?_
 rw[hq]
 cases hf:codeAmong lpos ps.toList with
 | some cv =>
  obtain⟨c',rfl,hc'⟩:=hco lpos cv hf
  refine W.kla_makeFunctionHit hcl I.ok.glob hg hcode hCs hP ht hf hb fun ctv h' tk kp hz=>?_
  have kp2:∀b o,s.heap.get? b=some o->(h'.push (W.kla_obj "<lambda>" qual params body scope (eJ X.env scope.names []) ((X.mg "__name__").getD .none) c' ctv)).get? b=some o:=fun b o e=>zV _ (kp b o e)
  have hn:H h'.objs.size=none:=I.hok.fresh hz
  exact h _ c' _ ctv _ H (I.kept (t':=tk) kp2) (zY _ rfl) hn hc' (.refl _) (I.fpOk hz hn) fun b z=>.inl z
 | none =>
  have hgP:mainGlobals≠P:=fun z=>by
   obtain⟨o,es,ep,e,r⟩:=I.ok.mod.glob
   rw[z,hPn] at e;cases e
  refine W.kla_makeFunction hcl I.ok.glob hg hcode hCs hP ht hf hgP hb fun c' ctv h' tk hx hc1 hc2 hcr hP'=>?_
  have hn:H c'=none:=I.hok.fresh hc1
  have hz:s.heap.objs.size<=h'.objs.size:=Nat.le_of_lt (Nat.lt_of_le_of_lt hc1 hc2)
  have nP:∀ {b:Addr}{u:HO},H b=some u->(∀q,u≠.tab q)->b≠P:=fun {b u} e hne z=>by subst z;rw[hT] at e;cases e;exact hne _ rfl
  have kp:∀b o,b≠P->s.heap.get? b=some o->(h'.push (W.kla_obj "<lambda>" qual params body scope (eJ X.env scope.names []) ((X.mg "__name__").getD .none) c' ctv)).get? b=some o:=fun b o hb e=>zV _ (hx b o hb e)
  have hPc:P≠c':=fun z=>by rw[<- z,hT] at hn;cases hn
  have up:∀b u,H b=some u->upd H c' (.cod qual) b=some u:=fun b u e=>by rw[aE (aP e hn)];exact e
  have un:Un X.fs [] H (upd H c' (.cod qual)) s.heap (h'.push (W.kla_obj "<lambda>" qual params body scope (eJ X.env scope.names []) ((X.mg "__name__").getD .none) c' ctv)):=by
   refine⟨fun b o e n _ _=>kp b o (fun z=>by rw[z,hT] at n;cases n) e,fun b o e n _ _=>⟨o.slots,kp b o (fun z=>by rw[z,hT] at n;cases n) e⟩,fun b o e n _=>?_,fun b o e _=>?_,fun b xs e=>up b _ e,fun b o u e=>up b _ e,⟨fun b u e _=>up b u e,fun b q ps' e z=>?_⟩⟩
   ·rw[aE (zzB (zP (zZ e) hc1))];exact n
   ·by_cases hb:b=P
    ·subst hb;exact⟨_,zV _ hP'⟩
    ·exact⟨o,kp b o hb e⟩
   ·by_cases hb:b=P
    ·subst hb
     rw[hP] at z
     cases z
     exact⟨_,zV _ hP'⟩
    ·exact⟨#[],by rw[Array.append_empty];exact kp b _ hb z⟩
  have hok:pW X.prog X.w (upd H c' (.cod qual)) (h'.push (W.kla_obj "<lambda>" qual params body scope (eJ X.env scope.names []) ((X.mg "__name__").getD .none) c' ctv)):=by
   intro b u e
   by_cases hbc:b=c'
   ·subst hbc
    rw[aL] at e
    cases e
    obtain⟨c0,oc,vs,t,e0,e1,r⟩:=hcr
    exact⟨c0,oc,vs,t,e0,zV _ e1,r⟩
   ·rw[aE hbc] at e
    by_cases hb:b=P
    ·subst hb
     rw[hT] at e
     cases e
     refine⟨_,zV _ hP',?_,fun pos v hv=>?_⟩
     ·have:=TriplesOk_snoc lpos.line lpos.col (.ref c') ps.toList ht
      simpa using this
     ·have hv':codeAmong pos (ps.toList++[rawInt lpos.line,rawInt lpos.col,.ref c'])=some v:=by simpa using hv
      rcases Aq ps.toList ht hv' with z|z
      ·obtain⟨c0,z1,z2⟩:=hco pos v z
       exact⟨c0,z1,up _ _ z2⟩
      ·exact⟨c',z,aL⟩
    ·exact (I.hok b u e).stay (fun d o hd eo=>kp d o (by
      rcases hd with rfl|hd
      ·exact hb
      ·exact nP hd fun q z=>by cases z) eo) (fun d hd=>up d _ hd) fun d o hd _=>up d _ hd
  have I':=I.un (t':=tk) un hok
  have hnf:upd H c' (.cod qual) h'.objs.size=none:=by
   rw[aE (Nat.ne_of_gt hc2)];exact I.hok.fresh hz
  refine h _ c' _ ctv _ _ I' (zY _ rfl) hnf aL up (I.fpOk hz hnf) fun b z=>?_
  by_cases hbc:b=c'
  ·subst hbc;exact .inr aL
  ·rw[aE hbc] at z;exact .inl z
end
end L2
namespace Dl
open PySem L2 PySem.Spec PyProof.Rows
abbrev D:=PyData
mutual
def Rep(K:W.Frag)(H:Hp):D->V->Prop
 | .none,v=>v=.non
 | .bool b,v=>v=.bl b
 | .int i,v=>v=.int i
 | .str x,v=>v=.str x
 | .tuple ds,v=>∃a vs,v=.ref a/\jY K H a vs/\ar K H ds vs
 | .list ds,v=>∃a vs,v=.ref a/\hZ K H a vs/\ar K H ds vs
 | .dict _,_=>False
def ar(K:W.Frag)(H:Hp):List D->List V->Prop
 | [],vs=>vs=[]
 | d::ds,vs=>∃v r,vs=v::r/\Rep K H d v/\ar K H ds r
end
theorem aG{K:W.Frag}{H H':Hp}{a:Addr}{xs:List V}(e:aR H H')(h:jY K H a xs):jY K H' a xs:=by
 rcases h with (h|⟨o,h⟩)|h
 ·exact .inl (.inl (e _ _ h))
 ·exact .inl (.inr ⟨o,e _ _ h⟩)
 ·exact .inr h
mutual
theorem Rep.mono{K:W.Frag}{H H':Hp}(e:aR H H'):∀ {d:D}{v:V},Rep K H d v->Rep K H' d v
 | .none,_,h=>h
 | .bool _,_,h=>h
 | .int _,_,h=>h
 | .str _,_,h=>h
 | .tuple ds,_,h=>by
  simp only[Rep] at h ⊢
  obtain⟨a,vs,rfl,q,r⟩:=h
  exact⟨a,vs,rfl,aG e q,ar.mono e r⟩
 | .list ds,_,h=>by
  simp only[Rep] at h ⊢
  obtain⟨a,vs,rfl,q,r⟩:=h
  exact⟨a,vs,rfl,e.seq q,ar.mono e r⟩
 | .dict _,_,h=>h
theorem ar.mono{K:W.Frag}{H H':Hp}(e:aR H H'):∀ {ds:List D}{vs:List V},ar K H ds vs->ar K H' ds vs
 | [],_,h=>h
 | d::ds,_,h=>by
  simp only[ar] at h ⊢
  obtain⟨v,r,rfl,a,b⟩:=h
  exact⟨v,r,rfl,Rep.mono e a,ar.mono e b⟩
end
section
variable {K:W.Frag}{H:Hp}
theorem ar.nil:ar K H [] []:=by simp[ar]
theorem ar.cons{d:D}{v:V}{ds:List D}{vs:List V}(a:Rep K H d v)(b:ar K H ds vs):ar K H (d::ds) (v::vs):=by
 simp only[ar];exact⟨v,vs,rfl,a,b⟩
theorem ar.cons_inv{d:D}{ds:List D}{vs:List V}(h:ar K H (d::ds) vs):∃v r,vs=v::r/\Rep K H d v/\ar K H ds r:=by simpa only[ar] using h
theorem ar.nil_inv{vs:List V}(h:ar K H [] vs):vs=[]:=by simpa only[ar] using h
theorem ar.length:∀ {ds:List D}{vs:List V},ar K H ds vs->vs.length=ds.length
 | [],_,h=>by rw[h.nil_inv];rfl
 | d::ds,_,h=>by obtain⟨v,r,rfl,_,b⟩:=h.cons_inv;simp[ar.length b]
theorem ar.get:∀ {ds:List D}{vs:List V}{i:Nat}{v:V},ar K H ds vs->vs[i]?=some v->∃d,ds[i]?=some d/\Rep K H d v
 | [],_,i,v,h,e=>by rw[h.nil_inv] at e;simp at e
 | d::ds,_,i,v,h,e=>by
  obtain⟨v',r,rfl,a,b⟩:=h.cons_inv
  cases i with
  | zero=>simp at e;subst e;exact⟨d,rfl,a⟩
  | succ i=>simp at e;obtain⟨d',h1,h2⟩:=ar.get b e;exact⟨d',by simpa using h1,h2⟩
theorem ar.getD:∀ {ds:List D}{vs:List V}{i:Nat}{d:D},ar K H ds vs->ds[i]?=some d->∃v,vs[i]?=some v/\Rep K H d v
 | [],_,i,d,h,e=>by simp at e
 | d::ds,_,i,d',h,e=>by
  obtain⟨v',r,rfl,a,b⟩:=h.cons_inv
  cases i with
  | zero=>simp at e;subst e;exact⟨v',rfl,a⟩
  | succ i=>simp at e;obtain⟨v,h1,h2⟩:=ar.getD b e;exact⟨v,by simpa using h1,h2⟩
theorem ar.append:∀ {ds es:List D}{vs us:List V},ar K H ds vs->ar K H es us->ar K H (ds++es) (vs++us)
 | [],_,_,_,h,g=>by rw[h.nil_inv];exact g
 | d::ds,_,_,_,h,g=>by obtain⟨v,r,rfl,a,b⟩:=h.cons_inv;exact ar.cons a (ar.append b g)
theorem ar.take:∀ {ds:List D}{vs:List V}(n:Nat),ar K H ds vs->ar K H (ds.take n) (vs.take n)
 | [],_,n,h=>by rw[h.nil_inv];simp[ar]
 | d::ds,_,0,h=>by simp[ar]
 | d::ds,_,n+1,h=>by obtain⟨v,r,rfl,a,b⟩:=h.cons_inv;exact ar.cons a (ar.take n b)
theorem ar.drop:∀ {ds:List D}{vs:List V}(n:Nat),ar K H ds vs->ar K H (ds.drop n) (vs.drop n)
 | [],_,n,h=>by rw[h.nil_inv];simp[ar]
 | d::ds,_,0,h=>h
 | d::ds,_,n+1,h=>by obtain⟨v,r,rfl,a,b⟩:=h.cons_inv;exact ar.drop n b
theorem ar.reverse:∀ {ds:List D}{vs:List V},ar K H ds vs->ar K H ds.reverse vs.reverse
 | [],_,h=>by rw[h.nil_inv];simp[ar]
 | d::ds,_,h=>by
  obtain⟨v,r,rfl,a,b⟩:=h.cons_inv
  rw[List.reverse_cons,List.reverse_cons]
  exact ar.append (ar.reverse b) (ar.cons a ar.nil)
end
structure cg(HF H HF' H':Hp):Prop where
 hh:aR H H'
 ff:aR HF HF'
 fh:aR HF' H'
 nw:∀a o,HF' a=some o->HF a=some o\/H a=none
theorem cg.refl{HF H:Hp}(s:aR HF H):cg HF H HF H:=⟨.refl _,.refl _,s,fun _ _ e=>.inl e⟩
theorem cg.trans{HF H HF1 H1 HF2 H2:Hp}(a:cg HF H HF1 H1)(b:cg HF1 H1 HF2 H2):cg HF H HF2 H2 :=
 ⟨a.hh.trans b.hh,a.ff.trans b.ff,b.fh,fun x o e=>(b.nw x o e).elim (fun z=>a.nw x o z) fun z=>.inr (a.hh.free z)⟩
theorem eu{H:Hp}{p:Addr}{o:HO}(h:H p=none):aR H (upd H p o):=fun b u e=>by rw[aE (aP e h)];exact e
theorem cg.new{HF H:Hp}{p:Addr}{o:HO}(s:aR HF H)(h:H p=none):cg HF H (upd HF p o) (upd H p o):=by
 have hf:HF p=none:=s.free h
 refine⟨eu h,eu hf,fun b u e=>?_,fun b u e=>?_⟩
 ·by_cases hb:b=p
  ·subst hb;rw[aL] at e ⊢;exact e
  ·rw[aE hb] at e ⊢;exact s b u e
 ·by_cases hb:b=p
  ·subst hb;exact .inr h
  ·rw[aE hb] at e;exact .inl e
theorem cg.own{HF H:Hp}{p:Addr}{o:HO}(s:aR HF H)(h:H p=none):cg HF H HF (upd H p o) :=
 ⟨eu h,.refl _,fun b u e=>by rw[aE (aP (s b u e) h)];exact s b u e,fun _ _ e=>.inl e⟩
theorem cg.freeze{HF H HF1 H1:Hp}{p:Addr}{o:HO}(g:cg HF H HF1 H1)(h:H p=none)(h1:H1 p=some o)(hf:HF1 p=none):cg HF H (upd HF1 p o) H1 :=
 ⟨g.hh,g.ff.trans (eu hf),fun b u e=>by
  by_cases hb:b=p
  ·subst hb;rw[aL] at e;rw[h1,<- e]
  ·rw[aE hb] at e;exact g.fh b u e,fun b u e=>by
  by_cases hb:b=p
  ·subst hb;exact .inr h
  ·rw[aE hb] at e;exact g.nw b u e⟩
def kF:List Str:=["ways_of","turned_order","fairest"]
def gY(K:W.Frag)(HF:Hp):Prop:=∀ (f:Addr) (oc:Value) (od:Option Addr) (fd:FuncData) (sl:Array (Option Value)) (c P:Addr),K.lookup f=some ⟨oc,od,.func fd,sl⟩->fd.qualname∈kF->fd.code=.ref c->W.codeHdIn K c P=true->HF P=some (.tab (fd.qualname++".<locals>."++"<lambda>"))
theorem gY.mono{K:W.Frag}{HF HF':Hp}(h:gY K HF)(e:aR HF HF'):gY K HF':=fun f oc od fd sl c P a b d q=>e _ _ (h f oc od fd sl c P a b d q)
abbrev Env:=List (Option D)
structure da(K:W.Frag)(HF:Hp)(ρ:Env)(σ:L2.St):Prop where
 get:∀ (i:Nat) (d:D),ρ[i]?=some (some d)->∃v,σ[i]?=some (some v)/\Rep K HF d v
 len:ρ.length<=σ.length
 tb:gY K HF
theorem da.mono{K:W.Frag}{HF HF':Hp}{ρ:Env}{σ:L2.St}(h:da K HF ρ σ)(e:aR HF HF'):da K HF' ρ σ:=⟨fun i d q=>let ⟨v,a,b⟩:=h.get i d q;⟨v,a,b.mono e⟩,h.len,h.tb.mono e⟩
def tD(K:W.Frag)(f:Env->Option D):TE:=fun σ H Q=>∃HF ρ d,aR HF H/\da K HF ρ σ/\f ρ=some d/\∀v H' HF',cg HF H HF' H'->Rep K HF' d v->Q v H'
def DE(X:Cx)(e:Expr)(f:Env->Option D):Prop:=PE X e (tD X.K f)
def tF(K:W.Frag)(f:Env->Option (List D)):TE:=fun σ H Q=>∃HF ρ ds,aR HF H/\da K HF ρ σ/\f ρ=some ds /\
 ∀a vs H' HF',cg HF H HF' H'->H a=none->HF' a=none->H' a=some (.lst vs)->ar K HF' ds vs->Q (.ref a) H'
def DF(X:Cx)(e:Expr)(f:Env->Option (List D)):Prop:=PE X e (tF X.K f)
def Mi(K:W.Frag)(f:Env->Option Bool):TT:=fun σ H Q=>∃HF ρ b,aR HF H/\da K HF ρ σ/\f ρ=some b/\∀H' HF',cg HF H HF' H'->Q b H'
def DT(X:Cx)(e:Expr)(f:Env->Option Bool):Prop:=PT X e (Mi X.K f)
def Pz(K:W.Frag)(f:Env->Option (List D)):TA:=fun σ H Q=>∃HF ρ ds,aR HF H/\da K HF ρ σ/\f ρ=some ds/\∀vs H' HF',cg HF H HF' H'->ar K HF' ds vs->Q vs H'
def DA(X:Cx)(es:List Expr)(f:Env->Option (List D)):Prop:=PA X es (Pz X.K f)
section
variable {X:Cx}
theorem bu{e:Expr}{t t':TE}(h:PE X e t)(i:∀σ H Q,t' σ H Q->t σ H Q):PE X e t':=fun pins s σ H Q I q=>h pins s σ H Q I (i σ H Q q)
theorem uL{e:Expr}{t t':TT}(h:PT X e t)(i:∀σ H Q,t' σ H Q->t σ H Q):PT X e t':=fun pins s σ H Q I q=>h pins s σ H Q I (i σ H Q q)
theorem EH{e:List Expr}{t t':TA}(h:PA X e t)(i:∀σ H Q,t' σ H Q->t σ H Q):PA X e t':=fun pos pins s σ H Q I q=>h pos pins s σ H Q I (i σ H Q q)
theorem bs{α β:Type}{x:Option α}{f:α->Option β}{b:β}(h:x.bind f=some b):∃a,x=some a/\f a=some b:=by
 cases x with
 | none=>cases h
 | some a=>exact⟨a,rfl,h⟩
theorem DF.de{e:Expr}{f:Env->Option (List D)}(h:DF X e f):DE X e (fun ρ=>(f ρ).map PyData.list):=bu h fun σ H Q ⟨HF,ρ,d,sm,eo,hf,q⟩=>by
 have hf:(f ρ).map PyData.list=some d:=hf
 cases e1:f ρ with
 | none=>rw[e1] at hf;cases hf
 | some ds =>
  rw[e1] at hf
  obtain rfl:PyData.list ds=d:=Option.some.inj hf
  refine⟨HF,ρ,ds,sm,eo,e1,fun a vs H' HF' g ha hf' h' r=>q _ _ (upd HF' a (.lst vs)) (g.freeze ha h' hf') ?_⟩
  simp only[Rep]
  exact⟨a,vs,rfl,.inl (.inl aL),r.mono (eu hf')⟩
def ab(i:Nat):Env->Option D:=fun ρ=>(ρ[i]?).getD none
theorem Mz(i:Nat){x:Str}{pos:Pos}(hN:X.N[i]?=some x)(hv:Kq X.env.scope x)(hd:(x == ("__debug__":Str))=false:=by decide)(hcd:(x == ("__classdict__":Str))=false:=by decide):DE X (.Name x pos) (ab i) :=
 bu (qT hN hv hd hcd) fun σ H Q ⟨HF,ρ,d,sm,eo,hf,q⟩=>by
  have hf:(ρ[i]?).getD none=some d:=hf
  cases e:ρ[i]? with
  | none=>rw[e] at hf;cases hf
  | some o =>
   rw[e] at hf
   have hf:o=some d:=hf
   subst hf
   obtain⟨v,a,b⟩:=eo.get i d e
   exact⟨v,a,q v H HF (.refl sm) b⟩
def fC(d:D):Env->Option D:=fun _=>some d
theorem MC{i j pos}:DE X (.Constant (.int i) j pos) (fC (.int i)):=bu Mw fun σ H Q ⟨HF,ρ,d,sm,eo,hf,q⟩=>by cases hf;exact q _ H HF (.refl sm) (by simp[Rep])
theorem N7{b j pos}:DE X (.Constant (.bool b) j pos) (fC (.bool b)):=bu Oz fun σ H Q ⟨HF,ρ,d,sm,eo,hf,q⟩=>by cases hf;exact q _ H HF (.refl sm) (by simp[Rep])
theorem Le{j pos}:DE X (.Constant .none j pos) (fC .none):=bu M4 fun σ H Q ⟨HF,ρ,d,sm,eo,hf,q⟩=>by cases hf;exact q _ H HF (.refl sm) (by simp[Rep])
theorem K8{x j pos}:DE X (.Constant (.str x) j pos) (fC (.str x)):=bu MN fun σ H Q ⟨HF,ρ,d,sm,eo,hf,q⟩=>by cases hf;exact q _ H HF (.refl sm) (by simp[Rep])
theorem JS{x:Str}{i:Int}{t:Tok}{pos:Pos}(hg:Gl X x)(hm:X.mg x=some (.int i t))(hd:(x == ("__debug__":Str))=false:=by decide):DE X (.Name x pos) (fC (.int i)) :=
 bu (vq (v:=.int i) hg hm ⟨t,rfl⟩ hd) fun σ H Q ⟨HF,ρ,d,sm,eo,hf,q⟩=>by cases hf;exact q _ H HF (.refl sm) (by simp[Rep])
def gC(K:W.Frag)(r:R2)(g:D->D->Option D):Prop:=∀HF H x y v1 v2 d Q,aR HF H->Rep K HF x v1->Rep K HF y v2->g x y=some d->(∀v H' HF',cg HF H HF' H'->Rep K HF' d v->Q v H')->r v1 v2 H Q
def f2(g:D->D->Option D)(f1 f2:Env->Option D):Env->Option D:=fun ρ=>(f1 ρ).bind fun x=>(f2 ρ).bind fun y=>g x y
variable {a b c:Expr}{fa fb fc:Env->Option D}{pos:Pos}
theorem Iu{r:R2}{g:D->D->Option D}(hr:gC X.K r g):∀σ H Q,tD X.K (f2 g fa fb) σ H Q->NA r (tD X.K fa) (tD X.K fb) σ H Q:=fun σ H Q ⟨HF,ρ,d,sm,eo,hf,q⟩=>by
 obtain⟨x,hx,hf⟩:=bs hf
 obtain⟨y,hy,hg⟩:=bs hf
 exact⟨HF,ρ,x,sm,eo,hx,fun v1 H1 HF1 g1 r1=>⟨HF1,ρ,y,g1.fh,eo.mono g1.ff,hy,fun v2 H2 HF2 g2 r2=>hr HF2 H2 x y v1 v2 d Q g2.fh (r1.mono g2.ff) r2 hg fun v H' HF' g3 r3=>q v H' HF' ((g1.trans g2).trans g3) r3⟩⟩
theorem xr{op:Operator}{r:R2}{g:D->D->Option D}(ho:jm X (binaryOp op) r)(hr:gC X.K r g)(ha:DE X a fa)(hb:DE X b fb):DE X (.BinOp a op b pos) (f2 g fa fb):=bu (KH ho ha hb) (Iu hr)
theorem k7{op:CmpOp}{r:R2}{g:D->D->Option D}(ho:jm X (compareOp op) r)(hr:gC X.K r g)(ha:DE X a fa)(hb:DE X b fb)(hm:behindInMarks op b=false):DE X (.Compare a [op] [b] pos) (f2 g fa fb):=bu (IE ho ha hb hm) (Iu hr)
def wF(C:Int->Int->Prop)[∀i j,Decidable (C i j)](g:Int->Int->D):D->D->Option D
 | .int i,.int j=>if C i j then some (g i j) else none
 | _,_=>none
theorem Fd{K:W.Frag}{C:Int->Int->Prop}[∀i j,Decidable (C i j)]{gi:Int->Int->Int}:gC K (rI C fun i j=>.int (gi i j)) (wF C fun i j=>.int (gi i j)):=by
 intro HF H x y v1 v2 d Q sm r1 r2 hg q
 cases x<;>cases y<;>simp only[wF] at hg<;>try cases hg
 rename_i i j
 simp only[Rep] at r1 r2
 by_cases hc:C i j
 ·rw[if_pos hc] at hg
  cases hg
  exact⟨i,j,r1,r2,hc,q _ H HF (.refl sm) (by simp[Rep])⟩
 ·rw[if_neg hc] at hg;cases hg
theorem EX{K:W.Frag}{gi:Int->Int->Int}:gC K (HX fun i j=>.int (gi i j)) (wF (fun _ _=>True) fun i j=>.int (gi i j)):=by
 intro HF H x y v1 v2 d Q sm r1 r2 hg q
 cases x<;>cases y<;>simp only[wF] at hg<;>try cases hg
 rename_i i j
 simp only[Rep] at r1 r2
 exact⟨i,j,r1,r2,q _ H HF (.refl sm) (by simp[Rep])⟩
theorem iG{K:W.Frag}{gi:Int->Int->Bool}:gC K (HX fun i j=>.bl (gi i j)) (wF (fun _ _=>True) fun i j=>.bool (gi i j)):=by
 intro HF H x y v1 v2 d Q sm r1 r2 hg q
 cases x<;>cases y<;>simp only[wF] at hg<;>try cases hg
 rename_i i j
 simp only[Rep] at r1 r2
 exact⟨i,j,r1,r2,q _ H HF (.refl sm) (by simp[Rep])⟩
noncomputable instance (i j:Int):Decidable (si i j):=by unfold si;infer_instance
noncomputable instance (i j:Int):Decidable (J8 i j):=by unfold J8;infer_instance
end
section
variable {X:Cx}{a b c:Expr}{fa fb fc:Env->Option D}{pos:Pos}{rest:List Expr}
def jZ(fa fb:Env->Option D):Env->Option D:=fun ρ=>(fa ρ).bind fun|.bool true=>fb ρ|.bool false=>some (.bool false)|_=>none
def Px(fa fb:Env->Option D):Env->Option D:=fun ρ=>(fa ρ).bind fun|.bool true=>some (.bool true)|.bool false=>fb ρ|_=>none
def NI:D->Option D|.bool b=>some (.bool (!b))|_=>none
def K4(fa:Env->Option D):Env->Option D:=fun ρ=>(fa ρ).bind NI
theorem Ls{op}(h:DE X a fa):DE X (.BoolOp op [a] pos) fa:=LM h
theorem Nf(ha:DE X a fa)(hb:DE X (.BoolOp .And (b::rest) pos) fb):DE X (.BoolOp .And (a::b::rest) pos) (jZ fa fb):=bu (Ld ha hb) fun σ H Q ⟨HF,ρ,d,sm,eo,hf,q⟩=>by
 obtain⟨x,hx,hf⟩:=bs hf
 refine⟨HF,ρ,x,sm,eo,hx,fun v1 H1 HF1 g1 r1=>?_⟩
 cases x<;>try cases hf
 rename_i k
 simp only[Rep] at r1
 refine⟨k,r1,?_⟩
 cases k with
 | true=>exact zj ⟨HF1,ρ,d,g1.fh,eo.mono g1.ff,hf,fun v H' HF' g r=>q v H' HF' (g1.trans g) r⟩
 | false=>cases hf;exact yj (q _ H1 HF1 g1 (by simp[Rep]))
theorem NX(ha:DE X a fa)(hb:DE X (.BoolOp .Or (b::rest) pos) fb):DE X (.BoolOp .Or (a::b::rest) pos) (Px fa fb):=bu (GM ha hb) fun σ H Q ⟨HF,ρ,d,sm,eo,hf,q⟩=>by
 obtain⟨x,hx,hf⟩:=bs hf
 refine⟨HF,ρ,x,sm,eo,hx,fun v1 H1 HF1 g1 r1=>?_⟩
 cases x<;>try cases hf
 rename_i k
 simp only[Rep] at r1
 refine⟨k,r1,?_⟩
 cases k with
 | false=>exact yj ⟨HF1,ρ,d,g1.fh,eo.mono g1.ff,hf,fun v H' HF' g r=>q v H' HF' (g1.trans g) r⟩
 | true=>cases hf;exact zj (q _ H1 HF1 g1 (by simp[Rep]))
theorem LL(ha:DE X a fa):DE X (.UnaryOp .Not a pos) (K4 fa):=bu (L5 ha) fun σ H Q ⟨HF,ρ,d,sm,eo,hf,q⟩=>by
 obtain⟨x,hx,hf⟩:=bs hf
 refine⟨HF,ρ,x,sm,eo,hx,fun v1 H1 HF1 g1 r1=>?_⟩
 cases x<;>try cases hf
 rename_i k
 simp only[Rep] at r1
 exact⟨k,r1,q _ H1 HF1 g1 (by simp[Rep])⟩
def gB:D->Option Bool|.bool b=>some b|_=>none
def fB(f:Env->Option D):Env->Option Bool:=fun ρ=>(f ρ).bind gB
theorem Bt{f:Env->Option D}:∀σ H (Q:Bool->Hp->Prop),Mi X.K (fB f) σ H Q->tD X.K f σ H fun x H1=>∃c,x=.bl c/\Q c H1:=fun σ H Q ⟨HF,ρ,k,sm,eo,hf,q⟩=>by
 obtain⟨x,hx,hf⟩:=bs hf
 refine⟨HF,ρ,x,sm,eo,hx,fun v1 H1 HF1 g1 r1=>?_⟩
 cases x<;>try cases hf
 simp only[Rep] at r1
 exact⟨_,r1,q H1 HF1 g1⟩
theorem Mm{f:Env->Option D}(h:DE X a f)(he:∀whole,isTrue a X.env whole=(do let v <- whole;standAt a.pos;holding [v] (truthy v)):=by intro _;rfl):DT X a (fB f):=uL (LF h he) Bt
theorem kj{op:CmpOp}{r:R2}{g:D->D->Option D}(ho:jm X (compareOp op) r)(hr:gC X.K r g)(ha:DE X a fa)(hb:DE X b fb)(hm:behindInMarks op b=false):DT X (.Compare a [op] [b] pos) (fB (f2 g fa fb)) :=
 uL (J0 ho ha hb hm) fun σ H Q h=>Iu hr σ H _ (Bt σ H Q h)
def oX(fa fb:Env->Option Bool):Env->Option Bool:=fun ρ=>(fa ρ).bind fun|true=>fb ρ|false=>some false
def qQ(fa fb:Env->Option Bool):Env->Option Bool:=fun ρ=>(fa ρ).bind fun|true=>some true|false=>fb ρ
def b8(fa:Env->Option Bool):Env->Option Bool:=fun ρ=>(fa ρ).map (!·)
variable {ta tb:Env->Option Bool}
def DW(X:Cx)(e:Expr)(f:Env->Option Bool):Prop:=PW X e (Mi X.K f)
theorem EJ{e:Expr}{t t':TT}(h:PW X e t)(i:∀σ H Q,t' σ H Q->t σ H Q):PW X e t':=fun wh pins s σ H Q I q=>h wh pins s σ H Q I (i σ H Q q)
theorem DW.dt(h:DW X a ta):DT X a ta:=PW.pt h
theorem Jl(ha:DT X a ta):DW X (.BoolOp .And [a] pos) ta:=J9 ha
theorem M9(ha:DT X a ta):DW X (.BoolOp .Or [a] pos) ta:=Lg ha
theorem Ng(ha:DT X a ta)(hb:DW X (.BoolOp .And (b::rest) pos) tb):DW X (.BoolOp .And (a::b::rest) pos) (oX ta tb):=EJ (MI ha hb) fun σ H Q ⟨HF,ρ,d,sm,eo,hf,q⟩=>by
 obtain⟨x,hx,hf⟩:=bs hf
 refine⟨HF,ρ,x,sm,eo,hx,fun H1 HF1 g1=>?_⟩
 cases x with
 | true=>exact zj ⟨HF1,ρ,d,g1.fh,eo.mono g1.ff,hf,fun H' HF' g=>q H' HF' (g1.trans g)⟩
 | false=>cases hf;exact yj (q H1 HF1 g1)
theorem N5(ha:DT X a ta)(hb:DW X (.BoolOp .Or (b::rest) pos) tb):DW X (.BoolOp .Or (a::b::rest) pos) (qQ ta tb):=EJ (NQ ha hb) fun σ H Q ⟨HF,ρ,d,sm,eo,hf,q⟩=>by
 obtain⟨x,hx,hf⟩:=bs hf
 refine⟨HF,ρ,x,sm,eo,hx,fun H1 HF1 g1=>?_⟩
 cases x with
 | false=>exact yj ⟨HF1,ρ,d,g1.fh,eo.mono g1.ff,hf,fun H' HF' g=>q H' HF' (g1.trans g)⟩
 | true=>cases hf;exact zj (q H1 HF1 g1)
theorem MR(ha:DT X a ta):DT X (.UnaryOp .Not a pos) (b8 ta):=uL (MV ha) fun σ H Q ⟨HF,ρ,d,sm,eo,hf,q⟩=>by
 have hf:(ta ρ).map (!·)=some d:=hf
 cases e:ta ρ with
 | none=>rw[e] at hf;cases hf
 | some k=>rw[e] at hf;cases hf;exact⟨HF,ρ,k,sm,eo,e,fun H1 HF1 g1=>q H1 HF1 g1⟩
def Ft(tc:Env->Option Bool)(fa fb:Env->Option D):Env->Option D:=fun ρ=>(tc ρ).bind fun|true=>fa ρ|false=>fb ρ
theorem NV{c:Expr}(hc:DT X c ta)(ha:DE X a fa)(hb:DE X b fb):DE X (.IfExp c a b pos) (Ft ta fa fb):=bu (FB hc ha hb) fun σ H Q ⟨HF,ρ,d,sm,eo,hf,q⟩=>by
 obtain⟨x,hx,hf⟩:=bs hf
 refine⟨HF,ρ,x,sm,eo,hx,fun H1 HF1 g1=>?_⟩
 cases x with
 | true=>exact zj ⟨HF1,ρ,d,g1.fh,eo.mono g1.ff,hf,fun v H' HF' g r=>q v H' HF' (g1.trans g) r⟩
 | false=>exact yj ⟨HF1,ρ,d,g1.fh,eo.mono g1.ff,hf,fun v H' HF' g r=>q v H' HF' (g1.trans g) r⟩
def kW(g g':D->D->Option D)(fa fb fc:Env->Option D):Env->Option D:=fun ρ=>(fa ρ).bind fun x=>(fb ρ).bind fun y=>(g x y).bind fun|.bool true=>(fc ρ).bind fun z=>g' y z|.bool false=>some (.bool false)|_=>none
theorem Cp{r r':R2}{g g':D->D->Option D}(hr:gC X.K r g)(hr':gC X.K r' g'):∀σ H Q,tD X.K (kW g g' fa fb fc) σ H Q->Bx r r' (tD X.K fa) (tD X.K fb) (tD X.K fc) σ H Q:=fun σ H Q ⟨HF,ρ,d,sm,eo,hf,q⟩=>by
 obtain⟨x,hx,hf⟩:=bs hf
 obtain⟨y,hy,hf⟩:=bs hf
 obtain⟨z,hz,hf⟩:=bs hf
 refine⟨HF,ρ,x,sm,eo,hx,fun v1 H1 HF1 g1 r1=>⟨HF1,ρ,y,g1.fh,eo.mono g1.ff,hy,fun v2 H2 HF2 g2 r2=>hr HF2 H2 x y v1 v2 z _ g2.fh (r1.mono g2.ff) r2 hz fun v3 H3 HF3 g3 r3=>?_⟩⟩
 cases z<;>try cases hf
 rename_i k
 simp only[Rep] at r3
 refine⟨k,r3,?_⟩
 have G:=(g1.trans g2).trans g3
 cases k with
 | false=>cases hf;exact yj (q _ H3 HF3 G (by simp[Rep]))
 | true =>
  obtain⟨w,hw,hg⟩:=bs hf
  exact zj ⟨HF3,ρ,w,G.fh,eo.mono G.ff,hw,fun v4 H4 HF4 g4 r4=>hr' HF4 H4 y w v2 v4 d Q g4.fh (r2.mono (g3.ff.trans g4.ff)) r4 hg fun v H' HF' g5 r5=>q v H' HF' ((G.trans g4).trans g5) r5⟩
theorem GU{op op':CmpOp}{r r':R2}{g g':D->D->Option D}(ho:jm X (compareOp op) r)(hr:gC X.K r g)(ho':jm X (compareOp op') r')(hr':gC X.K r' g')(ha:DE X a fa)(hb:DE X b fb)(hc:DE X c fc)
  (hm:lastMarks [op,op'] [b,c]=false:=by with_unfolding_all rfl):DE X (.Compare a [op,op'] [b,c] pos) (kW g g' fa fb fc):=bu (HE ho ho' ha hb hc hm) (Cp hr hr')
theorem Gn{op op':CmpOp}{r r':R2}{g g':D->D->Option D}(ho:jm X (compareOp op) r)(hr:gC X.K r g)(ho':jm X (compareOp op') r')(hr':gC X.K r' g')(ha:DE X a fa)(hb:DE X b fb)(hc:DE X c fc)
  (hm:lastMarks [op,op'] [b,c]=false:=by with_unfolding_all rfl):DT X (.Compare a [op,op'] [b,c] pos) (fB (kW g g' fa fb fc)) :=
 uL (FP ho ho' ha hb hc hm) fun σ H Q h=>Cp hr hr' σ H _ (Bt σ H Q h)
def ae:Env->Option (List D):=fun _=>some []
def aa(f:Env->Option D)(g:Env->Option (List D)):Env->Option (List D):=fun ρ=>(f ρ).bind fun x=>(g ρ).map (x::·)
theorem Hu:DA X [] ae:=EH iS fun σ H Q ⟨HF,ρ,d,sm,eo,hf,q⟩=>by cases hf;exact q [] H HF (.refl sm) ar.nil
theorem CA{e:Expr}{es:List Expr}{f:Env->Option D}{g:Env->Option (List D)}(he:DE X e f)(hs:DA X es g)(hst:starEach (e::es) X.env=(false,eval e X.env)::starEach es X.env:=by rfl):DA X (e::es) (aa f g) :=
 EH (dg he hs hst) fun σ H Q ⟨HF,ρ,d,sm,eo,hf,q⟩=>by
  obtain⟨x,hx,hf⟩:=bs hf
  have hf:(g ρ).map (x::·)=some d:=hf
  cases e1:g ρ with
  | none=>rw[e1] at hf;cases hf
  | some xs =>
   rw[e1] at hf;cases hf
   exact⟨HF,ρ,x,sm,eo,hx,fun v1 H1 HF1 g1 r1=>⟨HF1,ρ,xs,g1.fh,eo.mono g1.ff,e1,fun vs H2 HF2 g2 r2=>q (v1::vs) H2 HF2 (g1.trans g2) (ar.cons (r1.mono g2.ff) r2)⟩⟩
variable {es:List Expr}{fs:Env->Option (List D)}
def small(ds:List D):Option (List D):=if ds.length<=sizeLine then some ds else none
theorem eN{ds es:List D}(h:small ds=some es):es=ds/\ds.length<=sizeLine:=by
 unfold small at h
 split at h
 ·cases h;exact⟨rfl,‹_›⟩
 ·cases h
def aC(g:Env->Option (List D)):Env->Option D:=fun ρ=>(g ρ).bind fun ds=>(small ds).map PyData.tuple
def eV(g:Env->Option (List D)):Env->Option (List D):=fun ρ=>(g ρ).bind small
theorem MJ{x1}(h:DA X es fs):DE X (.Tuple es x1 pos) (aC fs):=bu (Mr h) fun σ H Q ⟨HF,ρ,d,sm,eo,hf,q⟩=>by
 obtain⟨ds,hx,hf⟩:=bs hf
 have hf:(small ds).map PyData.tuple=some d:=hf
 cases e:small ds with
 | none=>rw[e] at hf;cases hf
 | some es' =>
  rw[e] at hf;cases hf
  obtain⟨rfl,hz⟩:=eN e
  refine⟨HF,ρ,_,sm,eo,hx,fun vs H1 HF1 g1 r1=>⟨by rw[r1.length];exact hz,fun p hp=>q _ _ (upd HF1 p (.tup vs)) (g1.trans (.new g1.fh hp)) ?_⟩⟩
  simp only[Rep]
  exact⟨p,vs,rfl,.inl (.inl aL),r1.mono (eu (g1.fh.free hp))⟩
theorem L9(h:DA X es fs):DF X (.List es pos) (eV fs):=bu (F1 h) fun σ H Q ⟨HF,ρ,d,sm,eo,hf,q⟩=>by
 obtain⟨ds,hx,hf⟩:=bs hf
 obtain⟨rfl,hz⟩:=eN hf
 exact⟨HF,ρ,_,sm,eo,hx,fun vs H1 HF1 g1 r1=>⟨by rw[r1.length];exact hz,fun p hp=>q p vs _ HF1 (g1.trans (.own g1.fh hp)) (g1.hh.free hp) (g1.fh.free hp) aL r1⟩⟩
def au:D->D->Option D
 | .tuple ds,.int i=>vV ds i
 | .list ds,.int i=>vV ds i
 | _,_=>none
theorem wV{K:W.Frag}{HF:Hp}{ds:List D}{vs:List V}{i:Int}{d:D}(r:ar K HF ds vs)(h:vV ds i=some d):∃v,vV vs i=some v/\Rep K HF d v:=by
 unfold vV at h ⊢
 rw[r.length]
 obtain⟨j,hj,h⟩:=bs h
 obtain⟨v,a,b⟩:=r.getD h
 exact⟨v,by rw[hj];exact a,b⟩
theorem MS{K:W.Frag}:gC K (P7 K) au:=by
 intro HF H x y v1 v2 d Q sm r1 r2 hg q
 cases x<;>cases y<;>simp only[au] at hg<;>try cases hg
 ·simp only[Rep] at r1 r2
  obtain⟨a,vs,rfl,hs,r⟩:=r1
  obtain⟨v,hv,rv⟩:=wV r hg
  exact .inl ⟨a,vs,_,v,rfl,r2,sm.seq hs,hv,q v H HF (.refl sm) rv⟩
 ·simp only[Rep] at r1 r2
  obtain⟨a,vs,rfl,hs,r⟩:=r1
  obtain⟨v,hv,rv⟩:=wV r hg
  exact .inr (.inl ⟨a,vs,_,v,rfl,r2,aG sm hs,hv,q v H HF (.refl sm) rv⟩)
theorem OC(ha:DE X a fa)(hb:DE X b fb)(hs:pR b:=by intro _ _;rfl):DE X (.Subscript a b pos) (f2 au fa fb):=bu (K0 LH ha hb hs) (Iu MS)
mutual
theorem kC{pins:List (Addr×Obj)}{σ:L2.St}{H HF:Hp}{s:Shared}(I:Inv X pins σ H s)(sm:aR HF H):∀ {d:D}{v:V}{u:Value},Rep X.K HF d v->RelV v u->∃as,Reads s.heap u d as
 | .none,_,_,h,r=>by simp only[Rep] at h;subst h;cases r;exact⟨_,.none⟩
 | .bool b,_,_,h,r=>by simp only[Rep] at h;subst h;cases r;exact⟨_,.bool b⟩
 | .int i,_,_,h,r=>by simp only[Rep] at h;subst h;obtain⟨t,rfl⟩:=r;exact⟨_,.int i t⟩
 | .str i,_,_,h,r=>by simp only[Rep] at h;subst h;obtain⟨t,rfl⟩:=r;exact⟨_,.str i t⟩
 | .tuple ds,_,_,h,r=>by
  simp only[Rep] at h
  obtain⟨a,vs,rfl,hs,rr⟩:=h
  cases r
  obtain⟨its,rv,⟨o,ho,hc,n,hd⟩,_⟩:=I.tuple (aG sm hs)
  obtain⟨as,q⟩:=nY I sm rr rv
  exact⟨as,.tuple ho hc hd (by simpa using q)⟩
 | .list ds,_,_,h,r=>by
  simp only[Rep] at h
  obtain⟨a,vs,rfl,hs,rr⟩:=h
  cases r
  obtain⟨its,rv,pl,_⟩:=I.list (sm.seq hs)
  obtain⟨o,ho,hc,n,hd⟩:=pl.isList
  obtain⟨as,q⟩:=nY I sm rr rv
  exact⟨_,.list ho hc hd (by simpa using q)⟩
 | .dict _,_,_,h,r=>by simp only[Rep] at h
theorem nY{pins:List (Addr×Obj)}{σ:L2.St}{H HF:Hp}{s:Shared}(I:Inv X pins σ H s)(sm:aR HF H):∀ {ds:List D}{vs:List V}{us:List Value},ar X.K HF ds vs->aH vs us->∃as,ReadsAll s.heap us ds as
 | [],_,_,h,r=>by rw[h.nil_inv] at r;cases r;exact⟨_,.nil⟩
 | d::ds,_,_,h,r=>by
  obtain⟨v,vr,rfl,a,b⟩:=h.cons_inv
  cases r with
  | cons r rr =>
   obtain⟨as,q⟩:=kC I sm a r
   obtain⟨bs,p⟩:=nY I sm b rr
   exact⟨_,.cons q p⟩
end
def OF(K:W.Frag)(g:D->D->Option Bool):R2:=fun v1 v2 H Q=>∃HF x y k,aR HF H/\Rep K HF x v1/\Rep K HF y v2/\g x y=some k/\Q (.bl k) H
theorem n5{K:W.Frag}{g:D->D->Option Bool}:gC K (OF K g) (fun x y=>(g x y).map PyData.bool):=by
 intro HF H x y v1 v2 d Q sm r1 r2 hg q
 have hg:(g x y).map PyData.bool=some d:=hg
 cases e:g x y with
 | none=>rw[e] at hg;cases hg
 | some k=>rw[e] at hg;cases hg;exact⟨HF,x,y,k,sm,r1,r2,e,q _ H HF (.refl sm) (by simp[Rep])⟩
def MP(x y:D):Option Bool:=if SeqAt.shaped x=true/\SeqAt.shaped y=true then some (PyData.eqv x y) else none
def Ot(x y:D):Option Bool:=if SeqAt.shaped x=true/\SeqAt.shaped y=true then some (!PyData.eqv x y) else none
theorem GZ(hu:X.A.units+64 < cLine):jm X (compareOp .Eq) (OF X.K MP):=by
 intro pins s σ H v1 v2 u1 u2 Q I rx ry h
 obtain⟨HF,x,y,k,sm,r1,r2,hg,q⟩:=h
 unfold MP at hg
 split at hg<;>cases hg
 rename_i hh
 obtain⟨as,ra⟩:=kC I sm r1 rx
 obtain⟨bs,rb⟩:=kC I sm r2 ry
 exact eq_dataH ra rb hh.1 hh.2 hu ⟨.bl _,H,I,rfl,q⟩
theorem Fq(hu:X.A.units+64 < cLine):jm X (compareOp .NotEq) (OF X.K Ot):=by
 intro pins s σ H v1 v2 u1 u2 Q I rx ry h
 obtain⟨HF,x,y,k,sm,r1,r2,hg,q⟩:=h
 unfold Ot at hg
 split at hg<;>cases hg
 rename_i hh
 obtain⟨as,ra⟩:=kC I sm r1 rx
 obtain⟨bs,rb⟩:=kC I sm r2 ry
 exact ne_dataH ra rb hh.1 hh.2 hu ⟨.bl _,H,I,rfl,q⟩
def items:D->Option (List D)|.tuple ds=>some ds|.list ds=>some ds|_=>none
end
def Li(K:W.Frag)(n:Nat)(m:List D->Option D):Sp:=fun vs H Q _=>∃HF ds d,aR HF H/\gY K HF/\ar K HF ds vs/\ds.length=n/\m ds=some d/\∀v H' HF',cg HF H HF' H'->Rep K HF' d v->Q v H'
structure dk(P:Program)(w:World)(K:W.Frag)(mg:Str->Option Value)(base:Heap)(k:Nat)(x:Str)(n:Nat)(m:List D->Option D):Prop where
 ex:∃ (f:Addr) (fd:FuncData) (ps:List Str),pA P w K mg base L8 k f fd ps (Li K n m)/\mg x=some (.ref f)/\W.keepIn K (.ref f)=true/\Binds K fd ps []
theorem dk.mono{P:Program}{w:World}{K:W.Frag}{mg:Str->Option Value}{base:Heap}{k j:Nat}{x:Str}{n:Nat}{m:List D->Option D}(F:dk P w K mg base k x n m)(h:k<=j):dk P w K mg base j x n m:=by
 obtain⟨f,fd,ps,a,b,c,d⟩:=F.ex
 exact⟨f,fd,ps,a.mono h,b,c,d⟩
section
variable {X:Cx}{a b c e:Expr}{es:List Expr}{fa fb fc:Env->Option D}{fs:Env->Option (List D)}{pos p:Pos}{x:Str}
def ah(n:Nat)(m:List D->Option D)(fs:Env->Option (List D)):Env->Option D:=fun ρ=>(fs ρ).bind fun ds=>if ds.length=n then m ds else none
theorem JH{k n:Nat}{m:List D->Option D}(F:dk X.prog X.w X.K X.mg X.base k x n m)(hr:eH k X.A)(hg:Gl X x)(ha:DA X (e::es) fs)(hdb:(x == ("__debug__":Str))=false:=by decide)
  (he:starEach (e::es) X.env=(false,eval e X.env)::starEach es X.env:=by rfl) (hpl:(backTo pos (starEach es X.env)).any (·.1)=false:=by rfl):DE X (.Call (.Name x p) (e::es) [] pos) (ah n m fs):=by
 obtain⟨f,fd,ps,ok,hm,hk,hb⟩:=F.ex
 refine bu (Ia (E:=E0) ok hr hg hm hk hb .nil KO ha hdb he hpl) fun σ H Q ⟨HF,ρ,d,sm,eo,hf,q⟩=>?_
 obtain⟨ds,hx,hf⟩:=bs hf
 split at hf
 ·rename_i hl
  exact⟨HF,ρ,ds,sm,eo,hx,fun vs H1 HF1 g1 r1=>⟨HF1,ds,d,g1.fh,eo.tb.mono g1.ff,by rw[List.append_nil];exact r1,hl,hf,fun v H' HF' g r=>q v H' HF' (g1.trans g) r⟩⟩
 ·cases hf
def D9(K:W.Frag)(r:List V->Hp->VK->Prop)(g:List D->Option D):Prop:=∀HF H ds vs d Q,aR HF H->ar K HF ds vs->g ds=some d->(∀v H' HF',cg HF H HF' H'->Rep K HF' d v->Q v H')->r vs H Q
def aU(g:List D->Option D)(fs:Env->Option (List D)):Env->Option D:=fun ρ=>(fs ρ).bind g
theorem N4{r:List V->Hp->VK->Prop}{g:List D->Option D}(hs:D9 X.K r g):∀σ H Q,tD X.K (aU g fs) σ H Q->OI r (Pz X.K fs) σ H Q:=fun σ H Q ⟨HF,ρ,d,sm,eo,hf,q⟩=>by
 obtain⟨ds,hx,hf⟩:=bs hf
 exact⟨HF,ρ,ds,sm,eo,hx,fun vs H1 HF1 g1 r1=>hs HF1 H1 ds vs d Q g1.fh r1 hf fun v H' HF' g2 r2=>q v H' HF' (g1.trans g2) r2⟩
def KJ(K:W.Frag)(r:List V->Hp->VK->Prop)(g:List D->Option (List D)):Prop:=∀HF H ds vs es Q,aR HF H->ar K HF ds vs->g ds=some es ->
 (∀a us H' HF',cg HF H HF' H'->H a=none->HF' a=none->H' a=some (.lst us)->ar K HF' es us->Q (.ref a) H')->r vs H Q
def lX(g:List D->Option (List D))(fs:Env->Option (List D)):Env->Option (List D):=fun ρ=>(fs ρ).bind g
theorem N1{r:List V->Hp->VK->Prop}{g:List D->Option (List D)}(hs:KJ X.K r g):∀σ H Q,tF X.K (lX g fs) σ H Q->OI r (Pz X.K fs) σ H Q:=fun σ H Q ⟨HF,ρ,d,sm,eo,hf,q⟩=>by
 obtain⟨ds,hx,hf⟩:=bs hf
 exact⟨HF,ρ,ds,sm,eo,hx,fun vs H1 HF1 g1 r1=>hs HF1 H1 ds vs d Q g1.fh r1 hf fun a us H' HF' g2 ha hf' h' r2=>q a us H' HF' (g1.trans g2) (g1.hh.free ha) hf' h' r2⟩
structure nU(X:Cx)(x:Str)(v:Value):Prop where
 gl:Gl X x
 mg:X.mg x=none
 bt:bootBuiltins x=some v
theorem fE{id:String}{r:List V->Hp->VK->Prop}{g:List D->Option D}(hc:d9 X (.builtin id) r)(hs:D9 X.K r g)(B:nU X x (.builtin id))(ha:DA X (e::es) fs)(hn:x≠"__name__":=by decide)(hdb:(x == ("__debug__":Str))=false:=by decide)
  (he:starEach (e::es) X.env=(false,eval e X.env)::starEach es X.env:=by rfl) (hpl:(backTo pos (starEach es X.env)).any (·.1)=false:=by rfl):DE X (.Call (.Name x p) (e::es) [] pos) (aU g fs) :=
 bu (nq hc B.gl B.mg B.bt ha hn hdb he hpl) (N4 hs)
theorem wU{id:String}{r:List V->Hp->VK->Prop}{g:List D->Option (List D)}(hc:d9 X (.builtin id) r)(hs:KJ X.K r g)(B:nU X x (.builtin id))(ha:DA X (e::es) fs)(hn:x≠"__name__":=by decide)(hdb:(x == ("__debug__":Str))=false:=by decide)
  (he:starEach (e::es) X.env=(false,eval e X.env)::starEach es X.env:=by rfl) (hpl:(backTo pos (starEach es X.env)).any (·.1)=false:=by rfl):DF X (.Call (.Name x p) (e::es) [] pos) (lX g fs) :=
 bu (nq hc B.gl B.mg B.bt ha hn hdb he hpl) (N1 hs)
theorem DB{T:String}{r:List V->Hp->VK->Prop}{g:List D->Option D}(hc:d9 X (.type T) r)(hs:D9 X.K r g)(B:nU X x (.type T))(ha:DA X (e::es) fs)(hn:x≠"__name__":=by decide)(hdb:(x == ("__debug__":Str))=false:=by decide)
  (he:starEach (e::es) X.env=(false,eval e X.env)::starEach es X.env:=by rfl) (hpl:(backTo pos (starEach es X.env)).any (·.1)=false:=by rfl):DE X (.Call (.Name x p) (e::es) [] pos) (aU g fs) :=
 bu (uI hc B.gl B.mg B.bt ha hn hdb he hpl) (N4 hs)
def fY:D->Option (List D)|.tuple ds=>some ds|.list ds=>some ds|_=>none
def oneOf:List D->Option D|[d]=>some d|_=>none
theorem dR{ds:List D}{d:D}(h:oneOf ds=some d):ds=[d]:=by
 cases ds with
 | nil=>cases h
 | cons x r=>cases r with
  | nil=>cases h;rfl
  | cons _ _=>cases h
theorem lY{d:D}{ds:List D}(h:fY d=some ds):d=.tuple ds\/d=.list ds:=by
 cases d<;>cases h
 ·exact .inr rfl
 ·exact .inl rfl
def dO:List D->Option (List D):=fun ds=>(oneOf ds).bind fY
theorem kl{ds es:List D}(h:dO ds=some es):ds=[.tuple es]\/ds=[.list es]:=by
 obtain⟨d,h1,h2⟩:=bs h
 rw[dR h1]
 rcases lY h2 with rfl|rfl
 ·exact .inl rfl
 ·exact .inr rfl
def bq:List D->Option D:=fun ds=>(dO ds).map fun es=>.int es.length
theorem ag{α β:Type}{x:Option α}{f:α->β}{b:β}(h:x.map f=some b):∃a,x=some a/\f a=b:=by
 cases x with
 | none=>cases h
 | some a=>exact⟨a,rfl,Option.some.inj h⟩
theorem IM{K:W.Frag}:D9 K (fun xs H Q=>∃p ys,xs=[.ref p]/\(hZ K H p ys\/jY K H p ys)/\Q (.int ys.length) H) bq:=by
 intro HF H ds vs d Q sm r hg q
 obtain⟨es,h1,rfl⟩:=ag hg
 rcases kl h1 with rfl|rfl
 all_goals
  obtain⟨v,r',rfl,a,b⟩:=r.cons_inv
  rw[b.nil_inv]
  simp only[Rep] at a
  obtain⟨p,us,rfl,h,rr⟩:=a
 ·exact⟨p,us,rfl,.inr (aG sm h),q _ H HF (.refl sm) (by simp[Rep,rr.length])⟩
 ·exact⟨p,us,rfl,.inl (sm.seq h),q _ H HF (.refl sm) (by simp[Rep,rr.length])⟩
theorem MM(B:nU X "len" (.builtin "len"))(ha:DA X [e] fs)(he:starEach [e] X.env=(false,eval e X.env)::starEach [] X.env:=by rfl):DE X (.Call (.Name "len" p) [e] [] pos) (aU bq fs) :=
 fE vG IM B ha (by decide) (by decide) he rfl
theorem eK{K:W.Frag}{HF:Hp}{l:Addr}{ds:List D}{vs:List V}(h:HF l=none)(r:ar K HF ds vs):Rep K (upd HF l (.tup vs)) (.tuple ds) (.ref l):=by
 simp only[Rep];exact⟨l,vs,rfl,.inl (.inl aL),r.mono (eu h)⟩
theorem Dh{K:W.Frag}:D9 K (fun xs H Q=>∃p ys,xs=[.ref p]/\((hZ K H p ys/\∀l,H l=none->Q (.ref l) (upd H l (.tup ys)))\/(jY K H p ys/\Q (.ref p) H))) (fun ds=>(dO ds).map PyData.tuple):=by
 intro HF H ds vs d Q sm r hg q
 obtain⟨es,h1,rfl⟩:=ag hg
 rcases kl h1 with rfl|rfl
 all_goals
  obtain⟨v,r',rfl,a,b⟩:=r.cons_inv
  rw[b.nil_inv]
  have a':=a
  simp only[Rep] at a
  obtain⟨p,us,rfl,h,rr⟩:=a
 ·exact⟨p,us,rfl,.inr ⟨aG sm h,q _ H HF (.refl sm) a'⟩⟩
 ·exact⟨p,us,rfl,.inl ⟨sm.seq h,fun l hl=>q _ _ _ (.new sm hl) (eK (sm.free hl) rr)⟩⟩
theorem FF(B:nU X "tuple" (.type "tuple"))(ha:DA X [e] fs)(he:starEach [e] X.env=(false,eval e X.env)::starEach [] X.env:=by rfl):DE X (.Call (.Name "tuple" p) [e] [] pos) (aU (fun ds=>(dO ds).map PyData.tuple) fs) :=
 DB tL Dh B ha (by decide) (by decide) he rfl
def iJ:D->String|.none=>"NoneType" | .bool _=>"bool" | .int _=>"int" | .str _=>"str" | .tuple _=>"tuple" | .list _=>"list" | .dict _=>"dict"
def wc(a b:String):Option Bool:=if ((Value.type a) == (Value.type b))=true then some true else if W.kitMeta b=true then (fastBuiltinMro a).map (·.contains (Value.type b)) else none
theorem JD:∀a∈["NoneType","bool","int","str","tuple","list"],wc a "int"=some (a == "int"||a == "bool"):=by decide +kernel
theorem Fc:∀a∈["NoneType","bool","int","str","tuple","list"],wc a "bool"=some (a == "bool"):=by decide +kernel
theorem kit_tuple:∀a∈["NoneType","bool","int","str","tuple","list"],wc a "tuple"=some (a == "tuple"):=by decide +kernel
theorem F6{pins:List (Addr×Obj)}{σ:L2.St}{H HF:Hp}{s:Shared}{A:Around}{E:Value->Shared->Prop}{Q:Value->Shared->Prop}{d:D}{v:V}{u:Value}{T:String}{k:Bool}(I:Inv X pins σ H s)(sm:aR HF H)(r:Rep X.K HF d v)(rv:RelV v u)
  (e:wc (iJ d) T=some k) (h:∀tk,Q (.bool k) { s with toks:=tk }):wpAny (model X.prog X.w) A (call (.builtin "isinstance") [u,.type T]) Q E s:=by
 have e':W.kitOne X.K (.type (iJ d)) (.type T)=some k:=e
 cases d<;>simp only[Rep] at r
 ·subst r;cases rv;exact W.kia_one W.kitx_none I.kIn True.intro e' (fun z=>nomatch z) h
 ·subst r;cases rv;exact W.kia_one W.kitx_bool I.kIn True.intro e' (fun z=>nomatch z) h
 ·subst r;obtain⟨t,rfl⟩:=rv;exact W.kia_one W.kitx_int I.kIn True.intro e' (fun z=>nomatch z) h
 ·subst r;obtain⟨t,rfl⟩:=rv;exact W.kia_one W.kitx_str I.kIn True.intro e' (fun z=>nomatch z) h
 ·obtain⟨a,vs,rfl,hs,rr⟩:=r
  cases rv
  obtain⟨its,rv,pl,_⟩:=I.list (sm.seq hs)
  obtain⟨o,ho,hc,n,hd⟩:=pl.isList
  exact W.kia_one W.kitx_list I.kIn ⟨o,ho,hc⟩ e' (fun z=>nomatch z) h
 ·obtain⟨a,vs,rfl,hs,rr⟩:=r
  cases rv
  obtain⟨its,rv,⟨o,ho,hc,n,hd⟩,_⟩:=I.tuple (aG sm hs)
  exact W.kia_one W.kitx_tuple I.kIn ⟨o,ho,hc⟩ e' (fun z=>nomatch z) h
def KP(T:String)(f:Env->Option D):Env->Option D:=fun ρ=>(f ρ).bind fun d=>(wc (iJ d) T).map PyData.bool
theorem NZ{T:String}{xT:Str}{pT:Pos}{f:Env->Option D}(B:nU X "isinstance" (.builtin "isinstance"))(C:nU X xT (.type T))(h:DE X e f)(hn:xT≠"__name__":=by decide)(hd:(xT == ("__debug__":Str))=false:=by decide)
  (he:starEach [e,.Name xT pT] X.env=(false,eval e X.env)::starEach [.Name xT pT] X.env:=by rfl):DE X (.Call (.Name "isinstance" p) [e,.Name xT pT] [] pos) (KP T f):=by
 have hc:d9 X (.builtin "isinstance") (fun xs H Q=>∃HF d v k,xs=[v,.ty T]/\aR HF H/\Rep X.K HF d v/\wc (iJ d) T=some k/\Q (.bl k) H):=by
  intro pins s σ H xs us Q I r h
  obtain⟨HF,d,v,k,rfl,sm,rp,hk,q⟩:=h
  cases r with
  | cons ra rr =>
   cases rr with
   | cons rb rn =>
    cases rn
    cases rb
    exact F6 I sm rp ra hk fun tk=>⟨.bl k,H,I.tok _,rfl,q⟩
 refine bu (nq hc B.gl B.mg B.bt (dg h (dg (HZ (v:=.ty T) C.gl C.mg C.bt rfl hn hd) iS) he) (by decide) (by decide) he rfl) fun σ H Q ⟨HF,ρ,d,sm,eo,hf,q⟩=>?_
 obtain⟨x,hx,hf⟩:=bs hf
 obtain⟨k,hk,rfl⟩:=ag hf
 exact⟨HF,ρ,x,sm,eo,hx,fun v1 H1 HF1 g1 r1=>⟨HF1,x,v1,k,rfl,g1.fh,r1,hk,q _ H1 HF1 g1 (by simp[Rep])⟩⟩
def IT:D->D->Option D
 | .tuple xs,.tuple ys=>(small (xs++ys)).map PyData.tuple
 | _,_=>none
def Cd(K:W.Frag):R2:=fun x y H Q=>∃a b xs ys,x=.ref a/\y=.ref b/\jY K H a xs/\jY K H b ys/\xs.length+ys.length<=sizeLine /\
 (xs=[]->Q (.ref b) H)/\(ys=[]->Q (.ref a) H)/\(∀p,H p=none->Q (.ref p) (upd H p (.tup (xs++ys))))
theorem Ek:jm X (binaryOp .Add) (Cd X.K):=by
 intro pins s σ H x y v u Q I rx ry h
 obtain⟨a,b,xs,ys,rfl,rfl,ha,hb,hz,q0,q1,q2⟩:=h
 by_cases hx:xs=[]
 ·cases rx
  cases ry
  obtain⟨its,r1,p1,_⟩:=I.tuple ha
  obtain⟨its2,r2,p2,_⟩:=I.tuple hb
  obtain⟨⟨cls,dd,data,sl⟩,ho,hc,n,hd⟩:=id p1
  obtain⟨⟨cls2,dd2,data2,sl2⟩,ho2,hc2,n2,hd2⟩:=id p2
  simp only at hc hd hc2 hd2
  subst hc hd hc2 hd2
  have e:its=[]:=(L2.aH.nil_iff r1).mpr hx
  exact concat_meets ⟨_,ho,rfl⟩ ⟨_,ho2,rfl⟩ noFill_tuple_add seq_tuple_add PySem.F.slot_tuple_add PySem.F.entry_tuple_add (PySem.F.args_tuple_add_2 _ _)
   (tuple_addW0 a b its.toArray its2.toArray n n2 dd dd2 sl sl2 (by simp[e])) ⟨ho,ho2,⟨.ref b,H,I,rfl,q0 hx⟩⟩
 ·exact Iz pins s σ H _ _ v u Q I rx ry ⟨a,b,xs,ys,rfl,rfl,ha,hb,hx,hz,q1,fun _ p hp=>q2 p hp⟩
theorem Jw{K:W.Frag}:gC K (Cd K) IT:=by
 intro HF H x y v1 v2 d Q sm r1 r2 hg q
 cases x<;>cases y<;>simp only[IT] at hg<;>try cases hg
 rename_i xs ys
 obtain⟨es,h1,rfl⟩:=ag hg
 obtain⟨rfl,hz⟩:=eN h1
 have r1':=r1
 have r2':=r2
 simp only[Rep] at r1 r2
 obtain⟨a,vs,rfl,ha,ra⟩:=r1
 obtain⟨b,us,rfl,hb,rb⟩:=r2
 refine⟨a,b,vs,us,rfl,rfl,aG sm ha,aG sm hb,by rw[ra.length,rb.length,<- zN];exact hz,fun e=>?_,fun e=>?_,fun p hp=>q _ _ _ (.new sm hp) (eK (sm.free hp) (ra.append rb))⟩
 ·have:xs=[]:=by have:=ra.length;rw[e] at this;exact List.length_eq_zero_iff.mp this.symm
  subst this
  exact q _ H HF (.refl sm) r2'
 ·have:ys=[]:=by have:=rb.length;rw[e] at this;exact List.length_eq_zero_iff.mp this.symm
  subst this
  rw[List.append_nil] at q
  exact q _ H HF (.refl sm) r1'
end
structure tP(K:W.Frag)(J:It)(HF:Hp)(ds:List D):Prop where
 go:∀i d H₁ HF₁,ds[i]?=some d->aR HF HF₁->aR HF₁ H₁->J.go i H₁/\∀x H₂,J.yld i H₁ x H₂->∃HF₂,cg HF₁ H₁ HF₂ H₂/\Rep K HF₂ d x
 stop:∀H₁ HF₁,aR HF HF₁->aR HF₁ H₁->J.stop ds.length H₁
def P1(K:W.Frag)(f:Env->Option (List D)):TI:=fun σ H R=>∃HF ρ ds,aR HF H/\da K HF ρ σ/\f ρ=some ds/\∀J H' HF',cg HF H HF' H'->tP K J HF' ds->R J H'
def DI(X:Cx)(tg iter:Expr)(f:Env->Option (List D)):Prop:=PI X tg iter (P1 X.K f)
theorem El{K:W.Frag}{HF:Hp}{a:Addr}{ds:List D}{vs:List V}(h:hZ K HF a vs)(r:ar K HF ds vs):tP K (PH K a) HF ds where
 go:=fun i d H₁ HF₁ e s1 s2=>by
  obtain⟨v,hv,rv⟩:=r.getD e
  have q:=s2.seq (s1.seq h)
  refine⟨⟨vs,v,q,hv⟩,fun x H₂ ⟨e2,hy⟩=>⟨HF₁,by rw[e2];exact .refl s2,?_⟩⟩
  have:=hy vs q
  rw[hv] at this
  cases this
  exact rv.mono s1
 stop:=fun H₁ HF₁ s1 s2=>⟨vs,s2.seq (s1.seq h),by rw[r.length];exact zzA _⟩
theorem HH{K:W.Frag}{HF:Hp}{a:Addr}{ds:List D}{vs:List V}(h:jY K HF a vs)(r:ar K HF ds vs):tP K (Pb K a) HF ds where
 go:=fun i d H₁ HF₁ e s1 s2=>by
  obtain⟨v,hv,rv⟩:=r.getD e
  have q:=aG s2 (aG s1 h)
  refine⟨⟨vs,v,q,hv⟩,fun x H₂ ⟨e2,hy⟩=>⟨HF₁,by rw[e2];exact .refl s2,?_⟩⟩
  have:=hy vs q
  rw[hv] at this
  cases this
  exact rv.mono s1
 stop:=fun H₁ HF₁ s1 s2=>⟨vs,aG s2 (aG s1 h),by rw[r.length];exact zzA _⟩
theorem Aj{K:W.Frag}{HF:Hp}{lo:Int}{n:Nat}:tP K (OM lo n) HF ((List.range n).map fun i=>PyData.int (lo+(i:Nat))) where
 go:=fun i d H₁ HF₁ e s1 s2=>by
  rw[zO] at e
  obtain⟨j,hj,rfl⟩:=ag e
  obtain⟨hi,hj'⟩:=zU.mp hj
  have hi':i < n:=by simpa using hi
  have:j=i:=by rw[<- hj'];simp
  subst this
  exact⟨hi',fun x H₂ ⟨e2,hx⟩=>⟨HF₁,by rw[e2];exact .refl s2,by simp[Rep,hx]⟩⟩
 stop:=fun H₁ HF₁ s1 s2=>by
  show n<=_
  simp
section
variable {X:Cx}{tg l e:Expr}{f:Env->Option D}{fs:Env->Option (List D)}{pos p:Pos}
theorem vM{t t':TI}(h:PI X tg l t)(i:∀σ H R,t' σ H R->t σ H R):PI X tg l t':=fun pins s σ H R I q=>h pins s σ H R I (i σ H R q)
theorem Lr{tl:TE}(hl:PE X l tl):PI X tg l (fun σ H R=>tl σ H fun x H1=>∃a,x=.ref a/\((∃xs,hZ X.K H1 a xs/\R (PH X.K a) H1)\/∃xs,jY X.K H1 a xs/\R (Pb X.K a) H1)):=by
 intro pins s σ H R I h
 refine cy (hl pins s σ H _ I h) fun v s1 ⟨x,H1,I1,r1,q1⟩=>?_
 obtain⟨a,e,q⟩:=q1
 subst e
 cases r1
 rcases q with ⟨xs,hq,q⟩|⟨xs,hq,q⟩
 ·obtain⟨its,rv,pl,hz⟩:=I1.list hq
  refine wpAny_pyIter_list pl.isList ⟨s1.heap.objs.size,[s1.heap.objs.size],_,_,H1,rfl,I1.kept (t':=s1.toks) fun b o e=>zV _ e,DZ a _,⟨_,zY _ rfl,rfl,rfl⟩,fun b hb=>?_,q⟩
  cases yL.mp hb
  exact I1.fpOk (zzA _) I1.fresh
 ·obtain⟨its,rv,pl,hz⟩:=I1.tuple hq
  refine wpAny_pyIter_tuple (show s1.heap.IsTuple a its.toArray from pl) ⟨s1.heap.objs.size,[s1.heap.objs.size],_,_,H1,rfl,I1.kept (t':=s1.toks) fun b o e=>zV _ e,Bz a _,⟨_,zY _ rfl,rfl,rfl⟩,fun b hb=>?_,q⟩
  cases yL.mp hb
  exact I1.fpOk (zzA _) I1.fresh
def aO(f:Env->Option D):Env->Option (List D):=fun ρ=>(f ρ).bind fY
theorem E3(h:DE X l f):DI X tg l (aO f):=vM (Lr h) fun σ H R ⟨HF,ρ,ds,sm,eo,hf,q⟩=>by
 obtain⟨x,hx,hf⟩:=bs hf
 refine⟨HF,ρ,x,sm,eo,hx,fun v1 H1 HF1 g1 r1=>?_⟩
 rcases lY hf with rfl|rfl
 ·simp only[Rep] at r1
  obtain⟨a,vs,rfl,hs,rr⟩:=r1
  exact⟨a,rfl,.inr ⟨vs,aG g1.fh hs,q _ H1 HF1 g1 (HH hs rr)⟩⟩
 ·simp only[Rep] at r1
  obtain⟨a,vs,rfl,hs,rr⟩:=r1
  exact⟨a,rfl,.inl ⟨vs,g1.fh.seq hs,q _ H1 HF1 g1 (El hs rr)⟩⟩
def BO(i:Int):Bool:=decide (-(2 ^ 62)<=i)&&decide (i < 2 ^ 62)
def kR:List D->Option (List D)
 | [.int j]=>if BO j then some ((List.range j.toNat).map fun i=>PyData.int ((i:Nat):Int)) else none
 | _=>none
theorem xE{ds es:List D}(h:kR ds=some es):∃j,ds=[.int j]/\BO j=true/\es=(List.range j.toNat).map fun i=>PyData.int ((i:Nat):Int):=by
 unfold kR at h
 split at h
 ·split at h
  ·cases h;exact⟨_,rfl,‹_›,rfl⟩
  ·cases h
 ·cases h
def bj(fs:Env->Option (List D)):Env->Option (List D):=fun ρ=>(fs ρ).bind kR
theorem Fb(B:nU X "range" (.type "range"))(h:DA X [e] fs)(hs:starEach [e] X.env=[(false,eval e X.env)]:=by rfl):DI X tg (.Call (.Name "range" p) [e] [] pos) (bj fs) :=
 vM (DY B.gl B.mg h hs) fun σ H R ⟨HF,ρ,ds,sm,eo,hf,q⟩=>by
  obtain⟨x,hx,hf⟩:=bs hf
  obtain⟨j,rfl,hj,rfl⟩:=xE hf
  refine⟨HF,ρ,_,sm,eo,hx,fun vs H1 HF1 g1 r1=>?_⟩
  obtain⟨v,r,rfl,a,b⟩:=r1.cons_inv
  rw[b.nil_inv]
  simp only[Rep] at a
  subst a
  unfold BO at hj
  rw[zF] at hj
  refine⟨j,rfl,of_decide_eq_true hj.1,of_decide_eq_true hj.2,q _ H1 HF1 g1 ?_⟩
  have:=Aj (K:=X.K) (HF:=HF1) (lo:=0) (n:=j.toNat)
  simpa using this
def OP(K:W.Frag)(f:Env->D->Option Env):TG:=fun v σ H Q=>∃HF ρ d ρ',aR HF H/\da K HF ρ σ/\Rep K HF d v/\f ρ d=some ρ'/\∀σ',da K HF ρ' σ'->da K HF ρ σ'->Q σ' H
def DG(X:Cx)(tg:Expr)(f:Env->D->Option Env):Prop:=PG X tg (OP X.K f)
theorem qM{t t':TG}(h:PG X tg t)(i:∀v σ H Q,t' v σ H Q->t v σ H Q):PG X tg t':=fun pins s σ H v u Q I r q=>h pins s σ H v u Q I r (i v σ H Q q)
def isFree(ρ:Env)(i:Nat):Bool:=((ρ[i]?).getD none).isNone
theorem jx{K:W.Frag}{HF:Hp}{ρ:Env}{σ:L2.St}{i:Nat}{d:D}{v:V}(eo:da K HF ρ σ)(r:Rep K HF d v):da K HF (ρ.set i (some d)) (σ.set i (some v)):=by
 refine⟨fun j e h=>?_,by rw[yD,yD];exact eo.len,eo.tb⟩
 rw[List.getElem?_set] at h ⊢
 by_cases hij:i=j
 ·rw[if_pos hij] at h ⊢
  by_cases hl:i < ρ.length
  ·rw[if_pos hl] at h
   cases h
   rw[if_pos (zP hl eo.len)]
   exact⟨v,rfl,r⟩
  ·rw[if_neg hl] at h;cases h
 ·rw[if_neg hij] at h ⊢
  exact eo.get j e h
theorem lE{K:W.Frag}{HF:Hp}{ρ:Env}{σ:L2.St}{i:Nat}{v:V}(eo:da K HF ρ σ)(hf:isFree ρ i=true):da K HF ρ (σ.set i (some v)):=by
 refine⟨fun j e h=>?_,by rw[yD];exact eo.len,eo.tb⟩
 have hij:i≠j:=by
  intro z;subst z
  unfold isFree at hf;rw[h] at hf;cases hf
 rw[List.getElem?_set,if_neg hij]
 exact eo.get j e h
def fG(i:Nat):Env->D->Option Env:=fun ρ d=>if isFree ρ i=true then some (ρ.set i (some d)) else none
theorem Iw(i:Nat){x:Str}(hN:X.N.Nodup)(hi:X.N[i]?=some x)(hx:Loc X.env.scope x)(hf:X.fn x=true\/X.env.scope.names.lookup x=some .local:=by first|exact .inl rfl|exact .inr rfl|assumption):DG X (.Name x pos) (fG i) :=
 qM (gx hN hi hx hf) fun v σ H Q ⟨HF,ρ,d,ρ',sm,eo,r,hf,q⟩=>by
  unfold fG at hf
  split at hf
  ·cases hf;exact q _ (jx eo r) (lE eo ‹_›)
  ·cases hf
def gw(i j:Nat):Env->D->Option Env:=fun ρ d=>match d with
 | .tuple [x,y]=>if isFree ρ i=true/\isFree ρ j=true then some ((ρ.set i (some x)).set j (some y)) else none
 | _=>none
theorem Lp(i j:Nat){x y:Str}{px py:Pos}{k:Nat}(hc:X.calm=true)(hN:X.N.Nodup)(hi:X.N[i]?=some x)(hx:Loc X.env.scope x)(hj:X.N[j]?=some y)(hy:Loc X.env.scope y)
  (hf:X.fn x=true\/X.env.scope.names.lookup x=some .local:=by first|exact .inl rfl|exact .inr rfl|assumption) (hf':X.fn y=true\/X.env.scope.names.lookup y=some .local:=by first|exact .inl rfl|exact .inr rfl|assumption) :
  DG X (.Tuple [.Name x px,.Name y py] k pos) (gw i j) :=
 qM (Aw hc (gR (gx hN hi hx hf) (gR (gx hN hj hy hf') vx))) fun v σ H Q ⟨HF,ρ,d,ρ',sm,eo,r,hf,q⟩=>by
  unfold gw at hf
  split at hf
  ·rename_i x' y'
   split at hf
   ·rename_i hh
    cases hf
    simp only[Rep] at r
    obtain⟨a,vs,rfl,hs,rr⟩:=r
    obtain⟨v1,r1,rfl,a1,b1⟩:=rr.cons_inv
    obtain⟨v2,r2,rfl,a2,b2⟩:=b1.cons_inv
    rw[b2.nil_inv] at hs
    exact⟨a,_,rfl,aG sm hs,rfl,v1,_,rfl,v2,_,rfl,rfl,q _ (jx (jx eo a1) a2) (lE (lE eo hh.1) hh.2)⟩
   ·cases hf
  ·cases hf
def cO(tgt:Env->D->Option Env)(tt:Env->Option Bool)(te:Env->Option D)(ρ:Env):List D->Option (List D)
 | []=>some []
 | d::ds=>(tgt ρ d).bind fun ρ'=>(tt ρ').bind fun b=>if b=true then (te ρ').bind fun x=>(cO tgt tt te ρ ds).map (x::·) else cO tgt tt te ρ ds
def N6(X:Cx)(ifs:List Expr)(f:Env->Option Bool):Prop:=Nr X ifs (Mi X.K f)
theorem Ij:N6 X [] (fun _=>some true):=fun pins s σ H Q I ⟨HF,ρ,b,sm,eo,hf,q⟩=>Ki pins s σ H Q I (by cases hf;exact q H HF (.refl sm))
theorem J6{c:Expr}{t:Env->Option Bool}(h:DT X c t):N6 X [c] t:=IB h
def k5(t:Nat)(cs:List Nat)(σ:L2.St):L2.St:=List.replicate t none++cs.map fun j=>(σ[j]?).getD none
def fA(t:Nat)(cs:List Nat)(ρ:Env):Env:=List.replicate t none++cs.map fun j=>(ρ[j]?).getD none
theorem BD{K:W.Frag}{HF:Hp}{ρ:Env}{σ:L2.St}{t:Nat}{cs:List Nat}(eo:da K HF ρ σ):da K HF (fA t cs ρ) (k5 t cs σ):=by
 refine⟨fun i d h=>?_,by simp[fA,k5],eo.tb⟩
 unfold fA at h
 unfold k5
 by_cases hi:i < t
 ·rw[List.getElem?_append_left (by simpa using hi),List.getElem?_replicate,if_pos hi] at h
  cases h
 ·rw[List.getElem?_append_right (by simpa using hi),zO,List.length_replicate] at h
  rw[List.getElem?_append_right (by simpa using hi),zO,List.length_replicate]
  obtain⟨j,hj,h⟩:=ag h
  rw[hj]
  cases e:ρ[j]? with
  | none=>rw[e] at h;cases h
  | some o =>
   rw[e] at h
   have h:o=some d:=h
   subst h
   obtain⟨v,a,b⟩:=eo.get j d e
   exact⟨v,by show some ((σ[j]?).getD none)=_;rw[a];rfl,b⟩
def aq(t:Nat)(cs:List Nat)(fi:Env->Option (List D))(tgt:Env->D->Option Env)(tt:Env->Option Bool)(te:Env->Option D):Env->Option (List D):=fun ρ=>(fi ρ).bind fun ds=>(cO tgt tt te (fA t cs ρ) ds).bind small
variable {elt iter:Expr}{ifs:List Expr}{scope:Scope}{N:List Str}{t:Nat}{cs:List Nat}{fi:Env->Option (List D)}{tgt:Env->D->Option Env}{tt:Env->Option Bool}{te:Env->Option D}
theorem E9:∀σ H Q,tF X.K (aq t cs fi tgt tt te) σ H Q->FX (P1 X.K fi) (OP X.K tgt) (Mi X.K tt) (tD X.K te) (k5 t cs) σ H Q:=fun σ H Q ⟨HF,ρ,out,sm,eo,hf,q⟩=>by
 obtain⟨ds,hx,hf⟩:=bs hf
 obtain⟨out',ho,hf⟩:=bs hf
 obtain⟨rfl,hz⟩:=eN hf
 refine⟨HF,ρ,ds,sm,eo,hx,fun J H1 HF1 g1 it Dn hD=>?_⟩
 have eo1:=BD (t:=t) (cs:=cs) (eo.mono g1.ff)
 have hFD:HF1 Dn=none:=g1.fh.free hD
 refine⟨fun i m σ' H'=>m+i=ds.length/\∃HF' xs ys rest,cg HF1 H1 HF' H'/\HF' Dn=none/\H' Dn=some (.lst ys)/\ar X.K HF' xs ys/\da X.K HF' (fA t cs ρ) σ'/\cO tgt tt te (fA t cs ρ) (ds.drop i)=some rest/\xs++rest=out,
  ⟨ds.length,rfl,HF1,[],[],out,.own g1.fh hD,hFD,aL,ar.nil,eo1,ho,rfl⟩,?_⟩
 rintro i m σ' H' ⟨hm,HF',xs,ys,rest,G,hFD',hHD,rr,eo',hc,hout⟩
 by_cases hi:i < ds.length
 ·refine .inr ?_
  have hd:ds.drop i=ds[i]::ds.drop (i+1):=List.drop_eq_getElem_cons hi
  have he:ds[i]?=some ds[i]:=zU.mpr ⟨hi,rfl⟩
  generalize ds[i]=d at hd he
  rw[hd] at hc
  unfold cO at hc
  obtain⟨ρ',h1,hc⟩:=bs hc
  obtain⟨b,h2,hc⟩:=bs hc
  obtain⟨go,yld⟩:=it.go i d H' HF' he G.ff G.fh
  refine⟨go,fun x H2 y=>?_⟩
  obtain⟨HF2,G2,rx⟩:=yld x H2 y
  refine⟨HF2,_,d,ρ',G2.fh,eo'.mono G2.ff,rx,h1,fun σ2 eo2 eo2'=>?_⟩
  refine⟨HF2,ρ',b,G2.fh,eo2,h2,fun H3 HF3 G3=>?_⟩
  have nof:∀HF4 H4,cg HF' H' HF4 H4->HF4 Dn=none:=fun HF4 H4 G4=>by
   cases e4:HF4 Dn with
   | none=>rfl
   | some o =>
    rcases G4.nw Dn o e4 with z|z
    ·rw[hFD'] at z;cases z
    ·rw[hHD] at z;cases z
  cases b with
  | false =>
   refine yj ⟨m - 1,by omega,by omega,HF3,xs,ys,rest,(G.trans G2).trans G3,nof _ _ (G2.trans G3),(G2.trans G3).hh _ _ hHD,rr.mono (G2.trans G3).ff,eo2'.mono G3.ff,by simpa using hc,hout⟩
  | true =>
   rw[if_pos rfl] at hc
   obtain⟨z,h3,hc⟩:=bs hc
   obtain⟨rest',h4,rfl⟩:=ag hc
   refine zj ⟨HF3,ρ',z,G3.fh,eo2.mono G3.ff,h3,fun v H4 HF4 G4 rv=>?_⟩
   have GG:=(G2.trans G3).trans G4
   have n4:=nof _ _ GG
   have h4D:=GG.hh _ _ hHD
   have hlen:ys.length < sizeLine:=by
    have e1:=rr.length
    have e2:out.length=xs.length+(rest'.length+1):=by rw[<- hout];simp
    omega
   refine⟨ys,h4D,hlen,m - 1,by omega,by omega,HF4,xs++[z],ys++[v],rest',?_,n4,aL,(rr.mono GG.ff).append (ar.cons rv ar.nil),eo2'.mono (G3.ff.trans G4.ff),h4,by simp[<- hout]⟩
   have G5:=G.trans GG
   refine⟨fun b o e=>?_,G5.ff,fun b o e=>?_,G5.nw⟩
   ·rw[aE (aP e hD)];exact G5.hh b o e
   ·rw[aE (aP e n4)];exact G5.fh b o e
 ·have hi':i=ds.length:=by omega
  subst hi'
  rw[List.drop_length] at hc
  cases hc
  rw[List.append_nil] at hout
  subst hout
  exact .inl ⟨it.stop H' HF' G.ff G.fh,q Dn ys H' HF' (g1.trans G) (g1.hh.free hD) hFD' hHD rr⟩
theorem Kj(hc:X.calm=true)(S:jw X scope N (k5 t cs))(hi:DI X tg iter fi)
  (hY:∀fp s H,DG (aV X scope N fp s H) tg tgt/\N6 (aV X scope N fp s H) ifs tt/\DE (aV X scope N fp s H) elt te)
  (hs:∀x,foldedSetIterable iter X.env x=pure x:=by intro _;rfl):DF X (.ListComp elt [⟨tg,iter,ifs,0⟩] scope pos) (aq t cs fi tgt tt te):=bu (Jo (g:=OP X.K tgt) (tt:=Mi X.K tt) (te:=tD X.K te) hc S hi hY hs) E9
end
inductive Slot where
 | non|val (d:D)|own (ds:List D)
abbrev aj:=List Slot
def Slot.all:Slot->Option D|.non=>none|.val d=>some d|.own ds=>some (.list ds)
def Slot.frz:Slot->Option D|.val d=>some d|_=>none
def Slot.thaw:Slot->Slot|.own ds=>.val (.list ds)|s=>s
def bA(ρ:aj):Env:=ρ.map Slot.all
def bY(ρ:aj):Env:=ρ.map Slot.frz
def hand(fz:List Nat):Nat->aj->aj
 | _,[]=>[]
 | k,s::r=>(if fz.contains k=true then s.thaw else s)::hand fz (k+1) r
theorem iV(fz:List Nat):∀ (ρ:aj) (k i:Nat),(hand fz k ρ)[i]?=(ρ[i]?).map fun s=>if fz.contains (k+i)=true then s.thaw else s
 | [],k,i=>by simp[hand]
 | s::r,k,0=>by simp[hand]
 | s::r,k,i+1=>by
  simp only[hand,List.getElem?_cons_succ]
  rw[iV fz r (k+1) i,Nat.add_assoc,Nat.add_comm 1 i]
theorem xW(fz:List Nat):∀ (ρ:aj) (k:Nat),(hand fz k ρ).length=ρ.length
 | [],k=>rfl
 | s::r,k=>by simp[hand,xW fz r (k+1)]
structure j6(K:W.Frag)(HF₀ H₀ HF H:Hp)(ρ:aj)(σ:L2.St):Prop where
 gr:cg HF₀ H₀ HF H
 val:∀ (i:Nat) (d:D),ρ[i]?=some (.val d)->∃v,σ[i]?=some (some v)/\Rep K HF d v
 own:∀ (i:Nat) (ds:List D),ρ[i]?=some (.own ds)->∃a vs,σ[i]?=some (some (.ref a))/\H a=some (.lst vs)/\HF a=none/\H₀ a=none/\ar K HF ds vs
 inj:∀ (i j:Nat) (ds es:List D) (a:Addr),ρ[i]?=some (.own ds)->ρ[j]?=some (.own es)->σ[i]?=some (some (.ref a))->σ[j]?=some (some (.ref a))->i=j
 len:ρ.length<=σ.length
 tb:gY K HF
section
variable {K:W.Frag}{HF₀ H₀ HF H HF' H':Hp}{ρ:aj}{σ:L2.St}
theorem j6.all(S:j6 K HF₀ H₀ HF H ρ σ):da K H (bA ρ) σ:=by
 refine⟨fun i d h=>?_,by simpa [bA] using S.len,S.tb.mono S.gr.fh⟩
 unfold bA at h
 rw[zO] at h
 obtain⟨s,hs,h⟩:=ag h
 cases s with
 | non=>cases h
 | val e=>cases h;obtain⟨v,a,b⟩:=S.val i _ hs;exact⟨v,a,b.mono S.gr.fh⟩
 | own ds =>
  cases h
  obtain⟨a,vs,e1,e2,e3,_,e4⟩:=S.own i ds hs
  exact⟨.ref a,e1,by simp only[Rep];exact⟨a,vs,rfl,hZ.of e2,e4.mono S.gr.fh⟩⟩
theorem j6.frz(S:j6 K HF₀ H₀ HF H ρ σ):da K HF (bY ρ) σ:=by
 refine⟨fun i d h=>?_,by simpa [bY] using S.len,S.tb⟩
 unfold bY at h
 rw[zO] at h
 obtain⟨s,hs,h⟩:=ag h
 cases s with
 | non=>cases h
 | val e=>cases h;exact S.val i _ hs
 | own ds=>cases h
theorem j6.grow(S:j6 K HF₀ H₀ HF H ρ σ)(g:cg HF H HF' H'):j6 K HF₀ H₀ HF' H' ρ σ where
 gr:=S.gr.trans g
 val:=fun i d h=>let ⟨v,a,b⟩:=S.val i d h;⟨v,a,b.mono g.ff⟩
 own:=fun i ds h=>by
  obtain⟨a,vs,e1,e2,e3,e5,e4⟩:=S.own i ds h
  refine⟨a,vs,e1,g.hh _ _ e2,?_,e5,e4.mono g.ff⟩
  cases e:HF' a with
  | none=>rfl
  | some o =>
   rcases g.nw a o e with z|z
   ·rw[e3] at z;cases z
   ·rw[e2] at z;cases z
 inj:=S.inj
 len:=S.len
 tb:=S.tb.mono g.ff
theorem j6.step(S:j6 K HF₀ H₀ HF H ρ σ)(g:aR H H'):j6 K HF₀ H₀ HF H' ρ σ:=S.grow ⟨g,.refl _,S.gr.fh.trans g,fun _ _ e=>.inl e⟩
theorem j6.hand(S:j6 K HF₀ H₀ HF H ρ σ)(fz:List Nat):∃HF1,aR HF HF1/\j6 K HF₀ H₀ HF1 H (hand fz 0 ρ) σ:=by
 let P:Addr->Prop:=fun a=>∃i ds,fz.contains i=true/\ρ[i]?=some (.own ds)/\σ[i]?=some (some (.ref a))
 have cl:=Classical.propDecidable
 let HF1:Hp:=fun a=>if P a then H a else HF a
 have hP:∀a,P a->HF a=none/\H₀ a=none:=fun a ⟨i,ds,_,h1,h2⟩=>by
  obtain⟨a',vs,e1,e2,e3,e5,e4⟩:=S.own i ds h1
  rw[h2] at e1
  cases e1
  exact⟨e3,e5⟩
 have s1:aR HF HF1:=fun b o e=>by
  show (if P b then H b else HF b)=some o
  by_cases h:P b
  ·rw[(hP b h).1] at e;cases e
  ·rw[if_neg h];exact e
 have s2:aR HF1 H:=fun b o e=>by
  have e:(if P b then H b else HF b)=some o:=e
  by_cases h:P b
  ·rw[if_pos h] at e;exact e
  ·rw[if_neg h] at e;exact S.gr.fh b o e
 refine⟨HF1,s1,⟨S.gr.hh,S.gr.ff.trans s1,s2,fun b o e=>?_⟩,fun i d h=>?_,fun i ds h=>?_,fun i j ds es a h1 h2=>?_,by rw[xW];exact S.len,S.tb.mono s1⟩
 ·have e:(if P b then H b else HF b)=some o:=e
  by_cases h:P b
  ·exact .inr (hP b h).2
  ·rw[if_neg h] at e;exact S.gr.nw b o e
 ·rw[iV] at h
  obtain⟨s,hs,h⟩:=ag h
  rw[Nat.zero_add] at h
  cases s with
  | non=>split at h<;>cases h
  | val e =>
   have:Slot.val e=Slot.val d:=by split at h<;>exact h
   cases this
   obtain⟨v,a,b⟩:=S.val i _ hs
   exact⟨v,a,b.mono s1⟩
  | own ds =>
   split at h
   ·rename_i hc
    cases h
    obtain⟨a,vs,e1,e2,e3,e5,e4⟩:=S.own i ds hs
    refine⟨.ref a,e1,?_⟩
    simp only[Rep]
    refine⟨a,vs,rfl,.inl (.inl ?_),e4.mono s1⟩
    show (if P a then H a else HF a)=_
    rw[if_pos ⟨i,ds,hc,hs,e1⟩]
    exact e2
   ·cases h
 ·rw[iV] at h
  obtain⟨s,hs,h⟩:=ag h
  rw[Nat.zero_add] at h
  cases s with
  | non=>split at h<;>cases h
  | val e=>split at h<;>cases h
  | own es =>
   split at h
   ·cases h
   ·rename_i hc
    cases h
    obtain⟨a,vs,e1,e2,e3,e5,e4⟩:=S.own i ds hs
    refine⟨a,vs,e1,e2,?_,e5,e4.mono s1⟩
    show (if P a then H a else HF a)=none
    rw[if_neg ?_]
    ·exact e3
    ·rintro⟨j,es,hj,h1,h2⟩
     have:=S.inj i j ds es a hs h1 e1 h2
     subst this
     exact hc hj
 ·rw[iV] at h1 h2
  obtain⟨s,hs,h1⟩:=ag h1
  obtain⟨s',hs',h2⟩:=ag h2
  rw[Nat.zero_add] at h1 h2
  cases s with
  | non=>split at h1<;>cases h1
  | val e=>split at h1<;>cases h1
  | own xs =>
   cases s' with
   | non=>split at h2<;>cases h2
   | val e=>split at h2<;>cases h2
   | own ys=>exact S.inj i j _ _ a hs hs'
theorem j6.setV(S:j6 K HF₀ H₀ HF H ρ σ){i:Nat}{d:D}{v:V}(r:Rep K HF d v):j6 K HF₀ H₀ HF H (ρ.set i (.val d)) (σ.set i (some v)):=by
 have ne:∀ {j:Nat}{s:Slot},(ρ.set i (.val d))[j]?=some s->(∀e,s≠.val e)->i≠j/\ρ[j]?=some s:=fun {j s} h hn=>by
  rw[List.getElem?_set] at h
  by_cases hij:i=j
  ·rw[if_pos hij] at h
   split at h
   ·cases h;exact absurd rfl (hn _)
   ·cases h
  ·rw[if_neg hij] at h;exact⟨hij,h⟩
 refine⟨S.gr,fun j e h=>?_,fun j ds h=>?_,fun j k ds es a h1 h2 h3 h4=>?_,by rw[yD,yD];exact S.len,S.tb⟩
 ·rw[List.getElem?_set] at h ⊢
  by_cases hij:i=j
  ·rw[if_pos hij] at h ⊢
   split at h
   ·rename_i hl
    cases h
    rw[if_pos (zP hl S.len)]
    exact⟨v,rfl,r⟩
   ·cases h
  ·rw[if_neg hij] at h ⊢
   exact S.val j e h
 ·obtain⟨hij,h⟩:=ne h fun e z=>by cases z
  rw[List.getElem?_set,if_neg hij]
  exact S.own j ds h
 ·obtain⟨n1,h1⟩:=ne h1 fun e z=>by cases z
  obtain⟨n2,h2⟩:=ne h2 fun e z=>by cases z
  rw[List.getElem?_set,if_neg n1] at h3
  rw[List.getElem?_set,if_neg n2] at h4
  exact S.inj j k ds es a h1 h2 h3 h4
theorem j6.setO(S:j6 K HF₀ H₀ HF H ρ σ){i:Nat}{ds:List D}{a:Addr}{vs:List V}(hs:aR H H')(h1:H' a=some (.lst vs))(h2:HF a=none)(h3:H₀ a=none)(r:ar K HF ds vs)
  (fr:∀j es,i≠j->ρ[j]?=some (.own es)->σ[j]?≠some (some (.ref a))):j6 K HF₀ H₀ HF H' (ρ.set i (.own ds)) (σ.set i (some (.ref a))):=by
 have S:=S.step hs
 refine⟨S.gr,fun j e h=>?_,fun j es h=>?_,fun j k xs ys b e1 e2 e3 e4=>?_,by rw[yD,yD];exact S.len,S.tb⟩
 ·rw[List.getElem?_set] at h ⊢
  by_cases hij:i=j
  ·rw[if_pos hij] at h
   split at h<;>cases h
  ·rw[if_neg hij] at h ⊢
   exact S.val j e h
 ·rw[List.getElem?_set] at h ⊢
  by_cases hij:i=j
  ·rw[if_pos hij] at h ⊢
   split at h
   ·rename_i hl
    cases h
    rw[if_pos (zP hl S.len)]
    exact⟨a,vs,rfl,h1,h2,h3,r⟩
   ·cases h
  ·rw[if_neg hij] at h ⊢
   exact S.own j es h
 ·rw[List.getElem?_set] at e1 e2 e3 e4
  by_cases hij:i=j
  ·by_cases hik:i=k
   ·exact hij.symm.trans hik
   ·rw[if_pos hij] at e1 e3
    rw[if_neg hik] at e2 e4
    split at e3
    ·cases e3;exact absurd e4 (fr k ys hik e2)
    ·cases e3
  ·by_cases hik:i=k
   ·rw[if_neg hij] at e1 e3
    rw[if_pos hik] at e2 e4
    split at e4
    ·cases e4;exact absurd e3 (fr j xs hij e1)
    ·cases e4
   ·rw[if_neg hij] at e1 e3
    rw[if_neg hik] at e2 e4
    exact S.inj j k xs ys b e1 e2 e3 e4
end
inductive Out where
 | nx (ρ:aj)|rt (d:D)
def CD(K:W.Frag)(HF₀ H₀ HF:Hp)(E:Ends):Out->Prop
 | .nx ρ'=>∀σ' H' HF',j6 K HF₀ H₀ HF' H' ρ' σ'->aR HF HF'->E.nx σ' H'
 | .rt d=>∀v H' HF',cg HF₀ H₀ HF' H'->Rep K HF' d v->E.rt v H'
def tS(K:W.Frag)(HF₀ H₀:Hp)(g:aj->Option Out):TS:=fun E σ H=>∃HF ρ o,j6 K HF₀ H₀ HF H ρ σ/\g ρ=some o/\CD K HF₀ H₀ HF E o
def DS(X:Cx)(HF₀ H₀:Hp)(st:Stmt)(g:aj->Option Out):Prop:=PS X st (tS X.K HF₀ H₀ g)
def Ez(X:Cx)(HF₀ H₀:Hp)(st:List Stmt)(g:aj->Option Out):Prop:=AF X st (tS X.K HF₀ H₀ g)
section
variable {X:Cx}{HF₀ H₀:Hp}{st:Stmt}{rest:List Stmt}{g g1 g2:aj->Option Out}{e:Expr}{pos:Pos}
theorem eC{t t':TS}(h:PS X st t)(i:∀E σ H,t' E σ H->t E σ H):PS X st t':=fun pins s σ H E I q=>h pins s σ H E I (i E σ H q)
theorem BZ{t t':TS}(h:AF X rest t)(i:∀E σ H,t' E σ H->t E σ H):AF X rest t':=fun pins s σ H E I q=>h pins s σ H E I (i E σ H q)
def gN:aj->Option Out:=fun ρ=>some (.nx ρ)
def av(g1 g2:aj->Option Out):aj->Option Out:=fun ρ=>(g1 ρ).bind fun|.nx ρ'=>g2 ρ'|.rt d=>some (.rt d)
theorem CD.mono{K:W.Frag}{HF HF':Hp}{E:Ends}{o:Out}(s:aR HF HF')(h:CD K HF₀ H₀ HF E o):CD K HF₀ H₀ HF' E o:=by
 cases o with
 | nx ρ'=>exact fun σ' H' HF2 S s2=>h σ' H' HF2 S (s.trans s2)
 | rt d=>exact h
theorem Kd:Ez X HF₀ H₀ [] gN:=BZ Im fun E σ H ⟨HF,ρ,o,S,hg,q⟩=>by cases hg;exact q σ H HF S (.refl _)
theorem GR(h1:DS X HF₀ H₀ st g1)(h2:Ez X HF₀ H₀ rest g2):Ez X HF₀ H₀ (st::rest) (av g1 g2):=BZ (E8 h1 h2) fun E σ H ⟨HF,ρ,o,S,hg,q⟩=>by
 obtain⟨o1,h,hg⟩:=bs hg
 refine⟨HF,ρ,o1,S,h,?_⟩
 cases o1 with
 | nx ρ'=>exact fun σ' H' HF' S' s=>⟨HF',ρ',o,S',hg,q.mono s⟩
 | rt d=>cases hg;exact q
theorem JN(h1:DS X HF₀ H₀ st g1):Ez X HF₀ H₀ [st] g1:=JA h1
theorem IG:DS X HF₀ H₀ (.Pass pos) gN:=eC Ka fun E σ H ⟨HF,ρ,o,S,hg,q⟩=>by cases hg;exact q σ H HF S (.refl _)
theorem M8{x j pos pos'}:DS X HF₀ H₀ (.Expr (.Constant (.str x) j pos) pos') gN:=eC MD fun E σ H ⟨HF,ρ,o,S,hg,q⟩=>by cases hg;exact q σ H HF S (.refl _)
def hC(t:Env->Option Bool)(g1 g2:aj->Option Out):aj->Option Out:=fun ρ=>(t (bA ρ)).bind fun b=>if b=true then g1 ρ else g2 ρ
theorem Oa{c:Expr}{a b:List Stmt}{t:Env->Option Bool}(hc:DT X c t)(ha:Ez X HF₀ H₀ a g1)(hb:Ez X HF₀ H₀ b g2):DS X HF₀ H₀ (.If c a b pos) (hC t g1 g2):=eC (NC hc ha hb) fun E σ H ⟨HF,ρ,o,S,hg,q⟩=>by
 obtain⟨b,h,hg⟩:=bs hg
 refine⟨H,bA ρ,b,.refl _,S.all,h,fun H' HF' G=>?_⟩
 cases b with
 | true=>exact zj ⟨HF,ρ,o,S.step G.hh,hg,q⟩
 | false=>exact yj ⟨HF,ρ,o,S.step G.hh,hg,q⟩
theorem xI:∀ (ρ:aj) (k n:Nat),k+ρ.length<=n->bY (hand (List.range n) k ρ)=bA ρ
 | [],k,n,h=>rfl
 | s::r,k,n,h=>by
  have hk:(List.range n).contains k=true:=by simp at h ⊢;omega
  have ih:=xI r (k+1) n (by simp at h;omega)
  unfold bY bA at ih ⊢
  rw[hand,if_pos hk,zI,zI,ih]
  cases s<;>rfl
def aJ(f:Env->Option D):aj->Option Out:=fun ρ=>(f (bA ρ)).map Out.rt
theorem MX{f:Env->Option D}(h:DE X e f):DS X HF₀ H₀ (.Return (some e) pos) (aJ f):=eC (M5 h) fun E σ H ⟨HF,ρ,o,S,hg,q⟩=>by
 obtain⟨d,h,rfl⟩:=ag hg
 obtain⟨HF1,s1,S1⟩:=S.hand (List.range ρ.length)
 refine⟨HF1,bA ρ,d,S1.gr.fh,?_,h,fun v H' HF' G r=>q v H' HF' (S1.gr.trans G) r⟩
 have:=S1.frz
 rw[xI ρ 0 ρ.length (by omega)] at this
 exact this
def qm:D->Bool|.none=>true|.bool _=>true|.int _=>true|.str _=>true|_=>false
theorem yr{K:W.Frag}{HF HF':Hp}{d:D}{v:V}(h:qm d=true)(r:Rep K HF d v):Rep K HF' d v:=by
 cases d<;>cases h<;>(simp only[Rep] at r ⊢;exact r)
mutual
def lP:D->Bool
 | .tuple ds=>vt ds
 | .list _=>false
 | .dict _=>false
 | _=>true
def vt:List D->Bool
 | []=>true
 | d::ds=>lP d&&vt ds
end
mutual
theorem wW{K:W.Frag}{H1 H2:Hp}(ht:∀a xs,jY K H1 a xs->jY K H2 a xs):∀ {d:D}{v:V},lP d=true->Rep K H1 d v->Rep K H2 d v
 | .none,_,_,r=>by simp only[Rep] at r ⊢;exact r
 | .bool _,_,_,r=>by simp only[Rep] at r ⊢;exact r
 | .int _,_,_,r=>by simp only[Rep] at r ⊢;exact r
 | .str _,_,_,r=>by simp only[Rep] at r ⊢;exact r
 | .tuple ds,v,h,r=>by
  simp only[lP] at h
  simp only[Rep] at r ⊢
  obtain⟨a,vs,e,q,rr⟩:=r
  exact⟨a,vs,e,ht _ _ q,ui ht h rr⟩
 | .list _,_,h,_=>by simp[lP] at h
 | .dict _,_,h,_=>by simp[lP] at h
theorem ui{K:W.Frag}{H1 H2:Hp}(ht:∀a xs,jY K H1 a xs->jY K H2 a xs):∀ {ds:List D}{vs:List V},vt ds=true->ar K H1 ds vs->ar K H2 ds vs
 | [],_,_,r=>by simp only[ar] at r ⊢;exact r
 | d::ds,vs,h,r=>by
  simp only[vt,zF] at h
  simp only[ar] at r ⊢
  obtain⟨v,r',e,a,b⟩:=r
  exact⟨v,r',e,wW ht h.1 a,ui ht h.2 b⟩
end
theorem j6.back{K:W.Frag}{HF₀ H₀ HF H HF1 HF' H':Hp}{ρ ρ1:aj}{σ:L2.St}(S:j6 K HF₀ H₀ HF H ρ σ)(S1:j6 K HF₀ H₀ HF1 H ρ1 σ)(s1:aR HF HF1)(G:cg HF1 H HF' H'):∃HF2,aR HF HF2/\j6 K HF₀ H₀ HF2 H' ρ σ/\∀d v,lP d=true->Rep K HF' d v->Rep K HF2 d v:=by
 have cl:=Classical.propDecidable
 let O:Addr->Prop:=fun a=>∃ (i:Nat) (ds:List D),ρ[i]?=some (Slot.own ds)/\σ[i]?=some (some (V.ref a))
 let HF2:Hp:=fun a=>if O a then none else HF' a
 have hO:∀a,O a->HF a=none/\∃vs,H a=some (.lst vs):=fun a ⟨i,ds,h1,h2⟩=>by
  obtain⟨a',vs,e1,e2,e3,_,_⟩:=S.own i ds h1
  rw[h2] at e1
  cases e1
  exact⟨e3,vs,e2⟩
 have h2:∀a,¬ O a->HF2 a=HF' a:=fun a n=>if_neg n
 have h3:∀a,O a->HF2 a=none:=fun a n=>if_pos n
 have sa:aR HF HF2:=fun b o e=>by
  have nb:¬ O b:=fun z=>by rw[(hO b z).1] at e;cases e
  rw[h2 b nb]
  exact G.ff b o (s1 b o e)
 have sb:∀b o,HF2 b=some o->HF' b=some o:=fun b o e=>by
  by_cases z:O b
  ·rw[h3 b z] at e;cases e
  ·rwa [h2 b z] at e
 have g2:=S1.gr.trans G
 refine⟨HF2,sa,⟨⟨g2.hh,S.gr.ff.trans sa,fun b o e=>G.fh b o (sb b o e),fun b o e=>g2.nw b o (sb b o e)⟩,fun i d h=>?_,fun i ds h=>?_,S.inj,S.len,S.tb.mono sa⟩,fun d v hn r=>wW (fun a xs q=>?_) hn r⟩
 ·obtain⟨v,e1,r⟩:=S.val i d h
  exact⟨v,e1,r.mono sa⟩
 ·obtain⟨a,vs,e1,e2,e3,e5,e4⟩:=S.own i ds h
  exact⟨a,vs,e1,G.hh _ _ e2,h3 a ⟨i,ds,h,e1⟩,e5,e4.mono sa⟩
 ·have nt:∀o,HF' a=some o->(∀vs,o≠.lst vs)->HF2 a=some o:=fun o e hne=>by
   by_cases z:O a
   ·obtain⟨_,vs,e2⟩:=hO a z
    have:=G.hh _ _ e2
    rw[G.fh a o e] at this
    cases this
    exact absurd rfl (hne vs)
   ·rw[h2 a z];exact e
  rcases q with (q|⟨o,q⟩)|q
  ·exact .inl (.inl (nt _ q fun vs z=>by cases z))
  ·exact .inl (.inr ⟨o,nt _ q fun vs z=>by cases z⟩)
  ·exact .inr q
def az(i:Nat)(fz:List Nat)(f:Env->Option D):aj->Option Out:=fun ρ=>(f (bA ρ)).bind fun d=>if qm d=true then some (.nx (ρ.set i (.val d))) else (f (bY (hand fz 0 ρ))).map fun d'=>.nx ((if lP d'=true then ρ else hand fz 0 ρ).set i (.val d'))
theorem NR{i:Nat}{fz:List Nat}{f:Env->Option D}:∀E σ H,tS X.K HF₀ H₀ (az i fz f) E σ H->Hx (tD X.K f) (xq i) E σ H:=fun E σ H ⟨HF,ρ,o,S,hg,q⟩=>by
 obtain⟨d,h,hg⟩:=bs hg
 split at hg
 ·rename_i hs
  cases hg
  exact⟨H,bA ρ,d,.refl _,S.all,h,fun v H' HF' G r=>q _ H' HF ((S.step G.hh).setV (yr hs r)) (.refl _)⟩
 ·obtain⟨d',h',rfl⟩:=ag hg
  obtain⟨HF1,s1,S1⟩:=S.hand fz
  refine⟨HF1,_,d',S1.gr.fh,S1.frz,h',fun v H' HF' G r=>?_⟩
  by_cases hn:lP d'=true
  ·rw[if_pos hn] at q
   obtain⟨HF2,s2,S2,hb⟩:=S.back S1 s1 G
   exact q _ H' HF2 (S2.setV (hb d' v hn r)) s2
  ·rw[if_neg hn] at q
   exact q _ H' HF' ((S1.grow G).setV r) (s1.trans G.ff)
theorem Mc(i:Nat)(fz:List Nat){x:Str}{f:Env->Option D}{pos':Pos}(hN:X.N.Nodup)(hi:X.N[i]?=some x)(hx:Loc X.env.scope x)(he:DE X e f)(hs:swapsWith e (some (.Name x pos')) pos.line X.env=pure false:=by rfl)
  (hf:X.fn x=true\/X.env.scope.names.lookup x=some .local:=by first|exact .inl rfl|exact .inr rfl|assumption):DS X HF₀ H₀ (.Assign [.Name x pos'] e pos) (az i fz f):=eC (Gi hN hi hx he hs hf) NR
def aM(i:Nat)(fz:List Nat)(f:Env->Option (List D)):aj->Option Out:=fun ρ=>(f (bY (hand fz 0 ρ))).map fun ds=>.nx ((hand fz 0 ρ).set i (.own ds))
theorem HM{i:Nat}{fz:List Nat}{f:Env->Option (List D)}:∀E σ H,tS X.K HF₀ H₀ (aM i fz f) E σ H->Hx (tF X.K f) (xq i) E σ H:=fun E σ H ⟨HF,ρ,o,S,hg,q⟩=>by
 obtain⟨ds,h,rfl⟩:=ag hg
 obtain⟨HF1,s1,S1⟩:=S.hand fz
 refine⟨HF1,_,ds,S1.gr.fh,S1.frz,h,fun a vs H' HF' G ha hf h' r=>q _ H' HF' ?_ (s1.trans G.ff)⟩
 have S2:=S1.grow G
 refine S2.setO (.refl _) h' hf (S1.gr.hh.free ha) r fun j es _ hj z=>?_
 obtain⟨b,us,e1,e2,_⟩:=S1.own j es hj
 rw[e1] at z
 cases z
 rw[ha] at e2;cases e2
theorem vi(i:Nat)(fz:List Nat){x:Str}{f:Env->Option (List D)}{pos':Pos}(hN:X.N.Nodup)(hi:X.N[i]?=some x)(hx:Loc X.env.scope x)(he:DF X e f)(hs:swapsWith e (some (.Name x pos')) pos.line X.env=pure false:=by rfl)
  (hf:X.fn x=true\/X.env.scope.names.lookup x=some .local:=by first|exact .inl rfl|exact .inr rfl|assumption):DS X HF₀ H₀ (.Assign [.Name x pos'] e pos) (aM i fz f):=eC (Gi hN hi hx he hs hf) HM
theorem IU(i:Nat)(fz:List Nat){y:Str}{py spos:Pos}{tg iter elt:Expr}{ifs:List Expr}{scope:Scope}{N:List Str}{t:Nat}{cs:List Nat}{fi:Env->Option (List D)}{tgt:Env->D->Option Env}{tt:Env->Option Bool}{te:Env->Option D}
  (hc:X.calm=true) (S:jw X scope N (k5 t cs)) (hi:DI X tg iter fi)
  (hY:∀fp s H,DG (aV X scope N fp s H) tg tgt/\N6 (aV X scope N fp s H) ifs tt/\DE (aV X scope N fp s H) elt te)
  (hN:X.N.Nodup) (hiy:X.N[i]?=some y) (hy:X.env.scope.names.lookup y=some .local)
  (hsw:swapsWith (.ListComp elt [⟨tg,iter,ifs,0⟩] scope pos) (some (.Name y py)) spos.line X.env=pure true)
  (hs:∀x,foldedSetIterable iter X.env x=pure x:=by intro _;rfl):DS X HF₀ H₀ (.Assign [.Name y py] (.ListComp elt [⟨tg,iter,ifs,0⟩] scope pos) spos) (aM i fz (aq t cs fi tgt tt te)) :=
 eC (J1 (g:=OP X.K tgt) (tt:=Mi X.K tt) (te:=tD X.K te) hc S hi hY hN hiy hy hsw hs) fun E σ H q=>by
  have:=HM E σ H q
  exact E9 σ H _ this
def Qg(K:W.Frag)(HF₀ H₀:Hp)(f:aj->D->Option aj):TG:=fun v σ H Q=>∃HF ρ d ρ',j6 K HF₀ H₀ HF H ρ σ/\Rep K HF d v/\f ρ d=some ρ'/\∀σ',j6 K HF₀ H₀ HF H ρ' σ'->Q σ' H
def OK(X:Cx)(HF₀ H₀:Hp)(tg:Expr)(f:aj->D->Option aj):Prop:=PG X tg (Qg X.K HF₀ H₀ f)
def lA(i:Nat):aj->D->Option aj:=fun ρ d=>some (ρ.set i (.val d))
theorem GP(i:Nat){x:Str}(hN:X.N.Nodup)(hi:X.N[i]?=some x)(hx:Loc X.env.scope x)(hf:X.fn x=true\/X.env.scope.names.lookup x=some .local:=by first|exact .inl rfl|exact .inr rfl|assumption):OK X HF₀ H₀ (.Name x pos) (lA i) :=
 qM (gx hN hi hx hf) fun v σ H Q ⟨HF,ρ,d,ρ',S,r,hf,q⟩=>by cases hf;exact q _ (S.setV r)
def dZ(i j:Nat):aj->D->Option aj:=fun ρ d=>match d with
 | .tuple [x,y]=>some ((ρ.set i (.val x)).set j (.val y))
 | _=>none
theorem JC(i j:Nat){x y:Str}{px py:Pos}{k:Nat}(hc:X.calm=true)(hN:X.N.Nodup)(hi:X.N[i]?=some x)(hx:Loc X.env.scope x)(hj:X.N[j]?=some y)(hy:Loc X.env.scope y)
  (hf:X.fn x=true\/X.env.scope.names.lookup x=some .local:=by first|exact .inl rfl|exact .inr rfl|assumption) (hf':X.fn y=true\/X.env.scope.names.lookup y=some .local:=by first|exact .inl rfl|exact .inr rfl|assumption) :
  OK X HF₀ H₀ (.Tuple [.Name x px,.Name y py] k pos) (dZ i j) :=
 qM (Aw hc (gR (gx hN hi hx hf) (gR (gx hN hj hy hf') vx))) fun v σ H Q ⟨HF,ρ,d,ρ',S,r,hf,q⟩=>by
  unfold dZ at hf
  split at hf
  ·cases hf
   simp only[Rep] at r
   obtain⟨a,vs,rfl,hs,rr⟩:=r
   obtain⟨v1,r1,rfl,a1,b1⟩:=rr.cons_inv
   obtain⟨v2,r2,rfl,a2,b2⟩:=b1.cons_inv
   rw[b2.nil_inv] at hs
   exact⟨a,_,rfl,aG S.gr.fh hs,rfl,v1,_,rfl,v2,_,rfl,rfl,q _ ((S.setV a1).setV a2)⟩
  ·cases hf
def cH(tgt:aj->D->Option aj)(gb:aj->Option Out):List D->aj->Option Out
 | [],ρ=>some (.nx ρ)
 | d::ds,ρ=>(tgt ρ d).bind fun ρ1=>(gb ρ1).bind fun|.nx ρ2=>cH tgt gb ds ρ2|.rt v=>some (.rt v)
def cM(fz:List Nat)(fi:Env->Option (List D))(tgt:aj->D->Option aj)(gb:aj->Option Out):aj->Option Out:=fun ρ=>(fi (bY (hand fz 0 ρ))).bind fun ds=>cH tgt gb ds (hand fz 0 ρ)
theorem M1(fz:List Nat){tg iter:Expr}{body:List Stmt}{fi:Env->Option (List D)}{tgt:aj->D->Option aj}{gb:aj->Option Out}(hp:PassesOwn (model X.prog X.w) X.A X.env X.xe)(hc:X.calm=true)(hi:DI X tg iter fi)(hg:OK X HF₀ H₀ tg tgt)(hb:Ez X HF₀ H₀ body gb)
  (hs:∀x,foldedSetIterable iter X.env x=pure x:=by intro _;rfl):DS X HF₀ H₀ (.For tg iter body [] pos) (cM fz fi tgt gb):=eC (K1 hp hc hi hg hb hs) fun E σ H ⟨HF,ρ,o,S,hg,q⟩=>by
 obtain⟨ds,h,hg⟩:=bs hg
 obtain⟨HF1,s1,S1⟩:=S.hand fz
 refine⟨HF1,_,ds,S1.gr.fh,S1.frz,h,fun J H2 HF2 G it=>?_⟩
 refine⟨fun i m σ' H'=>m+i=ds.length/\∃HF' ρ',j6 X.K HF₀ H₀ HF' H' ρ' σ'/\aR HF2 HF'/\cH tgt gb (ds.drop i) ρ'=some o,⟨ds.length,rfl,HF2,_,S1.grow G,.refl _,hg⟩,?_⟩
 rintro i m σ' H' ⟨hm,HF',ρ',S',s',hf⟩
 by_cases hi:i < ds.length
 ·refine .inr ?_
  have hd:ds.drop i=ds[i]::ds.drop (i+1):=List.drop_eq_getElem_cons hi
  have he:ds[i]?=some ds[i]:=zU.mpr ⟨hi,rfl⟩
  generalize ds[i]=d at hd he
  rw[hd] at hf
  unfold cH at hf
  obtain⟨ρ1,h1,hf⟩:=bs hf
  obtain⟨o1,h2,hf⟩:=bs hf
  obtain⟨go,yld⟩:=it.go i d H' HF' he s' S'.gr.fh
  refine⟨go,fun σ2 H3=>∃HF3 ρ3,j6 X.K HF₀ H₀ HF3 H3 ρ3 σ2/\aR HF2 HF3/\cH tgt gb (ds.drop (i+1)) ρ3=some o,fun σ2 H3 ⟨HF3,ρ3,a1,a2,a3⟩=>⟨m - 1,by omega,by omega,HF3,ρ3,a1,a2,a3⟩,fun x H3 y=>?_⟩
  obtain⟨HF3,G3,rx⟩:=yld x H3 y
  refine⟨HF3,ρ',d,ρ1,S'.grow G3,rx,h1,fun σ2 S2=>⟨HF3,ρ1,o1,S2,h2,?_⟩⟩
  cases o1 with
  | nx ρ2=>exact fun σ4 H4 HF4 S4 s4=>⟨HF4,ρ2,S4,(s'.trans G3.ff).trans s4,hf⟩
  | rt d=>cases hf;exact q
 ·have hi':i=ds.length:=by omega
  subst hi'
  rw[List.drop_length] at hf
  cases hf
  exact .inl ⟨it.stop H' HF' s' S'.gr.fh,q σ' H' HF' S' ((s1.trans G.ff).trans s')⟩
end
def OX(X:Cx)(sc:Scope):Prop:=∀x k,sc.names.lookup x=some k->X.env.kindOf x=some k\/(k=.free/\X.env.kindOf x=some .cell)
structure Bk(X:Cx)(N:List Str)(sc:Scope)(k:Nat):Prop where
 n:X.N=N
 nd:N.Nodup
 tb:OX X sc
 calm:X.calm=true
 fn:∀x,sc.names.lookup x=some .cell->X.fn x=true
 room:eH k X.A
 xe:X.xe=fun _ _=>False
 kd:X.env.scope.kind=.function
def cU:List Str:=["len","isinstance","int","bool","tuple","list","range","all","any","set","sorted","enumerate","zip","sum","min","max","reversed"]
def Bn(X:Cx):Prop:=∀x∈cU,X.mg x=none
def zw(sc:Scope)(x:Str):Bool:=decide (sc.names.lookup x=some .globalImplicit)
def DL(N:List Str)(sc:Scope)(i:Nat)(x:Str):Bool:=decide (N[i]?=some x)&&(decide (sc.names.lookup x=some .local)||decide (sc.names.lookup x=some .cell)||decide (sc.names.lookup x=some .free))&&!(x == ("__debug__":Str))&&!(x == ("__classdict__":Str))
def Bi(N:List Str)(sc:Scope)(i:Nat)(x:Str):Bool:=decide (N[i]?=some x)&&(decide (sc.names.lookup x=some .local)||decide (sc.names.lookup x=some .cell))
section
variable {X:Cx}{N:List Str}{sc:Scope}{k:Nat}
theorem Bk.gl(C:Bk X N sc k){x:Str}(h:zw sc x=true):Gl X x:=by
 rcases C.tb x _ (of_decide_eq_true h) with q|⟨q,_⟩
 ·exact q
 ·cases q
theorem Bk.vis(C:Bk X N sc k){i:Nat}{x:Str}(h:DL N sc i x=true):X.N[i]?=some x/\Kq X.env.scope x/\(x == ("__debug__":Str))=false/\(x == ("__classdict__":Str))=false:=by
 unfold DL at h
 simp only[zF,Bool.or_eq_true,zJ,Bool.not_eq_true'] at h
 obtain⟨⟨⟨h1,h2⟩,h3⟩,h4⟩:=h
 refine⟨by rw[C.n];exact h1,?_,h3,h4⟩
 rcases h2 with (h2|h2)|h2
 ·rcases C.tb x _ h2 with q|⟨q,_⟩
  ·exact .inl q
  ·cases q
 ·rcases C.tb x _ h2 with q|⟨q,_⟩
  ·exact .inr (.inl q)
  ·cases q
 ·rcases C.tb x _ h2 with q|⟨_,q⟩
  ·exact .inr (.inr q)
  ·exact .inr (.inl q)
theorem Bk.loc(C:Bk X N sc k){i:Nat}{x:Str}(h:Bi N sc i x=true):X.N.Nodup/\X.N[i]?=some x/\Loc X.env.scope x/\(X.fn x=true\/X.env.scope.names.lookup x=some .local):=by
 unfold Bi at h
 simp only[zF,Bool.or_eq_true,zJ] at h
 obtain⟨h1,h2⟩:=h
 refine⟨by rw[C.n];exact C.nd,by rw[C.n];exact h1,?_⟩
 rcases h2 with h2|h2
 ·rcases C.tb x _ h2 with q|⟨q,_⟩
  ·exact⟨.inl q,.inr q⟩
  ·cases q
 ·rcases C.tb x _ h2 with q|⟨q,_⟩
  ·exact⟨.inr q,.inl (C.fn x h2)⟩
  ·cases q
theorem Bk.blt(C:Bk X N sc k)(B:Bn X){x:Str}{v:Value}(h:zw sc x=true)(hm:x∈cU)(hv:bootBuiltins x=some v):nU X x v:=⟨C.gl h,B x hm,hv⟩
theorem Bk.v(C:Bk X N sc k)(i:Nat){x:Str}{pos:Pos}(h:DL N sc i x=true):DE X (.Name x pos) (ab i):=let ⟨a,b,c,d⟩:=C.vis h;Mz i a b c d
theorem Bk.pass(C:Bk X N sc k):PassesOwn (model X.prog X.w) X.A X.env X.xe:=by rw[C.xe];exact PassesOwn.never
def jz(sc scope:Scope)(N N':List Str)(t:Nat)(cs:List Nat):Bool :=
 decide (scope.kind=.function)&&scope.names.all (fun p=>(!decide (p.2=NameKind.free)||decide (sc.names.lookup p.1=some .cell)||decide (sc.names.lookup p.1=some .free))&&(!decide (p.2=NameKind.local)||decide (scope.names.lookup p.1=some .local)))
  &&scope.names.all (fun p=>!decide (p.2=NameKind.cell)||!scope.names.any fun q=>decide (q.1=p.1)&&decide (q.2=NameKind.free))
  &&decide (N'.length=t+cs.length)&&decide (N'.drop t=cs.filterMap fun j=>N[j]?)&&cs.all (fun j=>decide (j < N.length))&&(N'.drop t).all (fun x=>decide (scope.names.lookup x=some .free))&&decide N'.Nodup
theorem filterMap_get{α:Type}(N:List α):∀ (cs:List Nat),(∀j∈cs,j < N.length)->∀ (i:Nat),(cs.filterMap fun j=>N[j]?)[i]?=(cs[i]?).bind fun j=>N[j]?
 | [],_,i=>by simp
 | c::cs,h,i=>by
  have hc:=h c zE
  rw[List.filterMap_cons,zK hc]
  cases i with
  | zero=>simp[hc]
  | succ i =>
   simp only[List.getElem?_cons_succ]
   exact filterMap_get N cs (fun j hj=>h j (zC _ hj)) i
theorem Bk.comp(C:Bk X N sc k){scope:Scope}{N':List Str}{t:Nat}{cs:List Nat}(h:jz sc scope N N' t cs=true):jw X scope N' (k5 t cs)/\∀fp s H,Bk (aV X scope N' fp s H) N' scope k:=by
 unfold jz at h
 simp only[zF,zJ,List.all_eq_true,Bool.or_eq_true,Bool.not_eq_true',decide_eq_false_iff_not] at h
 obtain⟨⟨⟨⟨⟨⟨⟨h1,h2⟩,h3⟩,h4⟩,h5⟩,h6⟩,h7⟩,h8⟩:=h
 refine⟨⟨h1,fun x hx hk=>?_,fun {x} a b=>?_,fun x hx hk=>?_,fun σ i x v e1 e2=>?_,fun σ=>?_⟩,fun fp s H=>⟨rfl,h8,fun x k hx=>oH hx,C.calm,fun x hx=>yB hx,C.room,rfl,h1⟩⟩
 ·rcases (h2 x hx).1 with (q|q)|q
  ·exact absurd hk q
  ·rcases C.tb _ _ q with z|⟨z,_⟩
   ·exact .inl z
   ·cases z
  ·rcases C.tb _ _ q with z|⟨_,z⟩
   ·exact .inr z
   ·exact .inl z
 ·rcases h3 _ a with q|q
  ·exact q rfl
  ·have:(scope.names.any fun q=>decide (q.1=x)&&decide (q.2=NameKind.free))=true:=List.any_eq_true.mpr ⟨_,b,by simp⟩
   rw[this] at q
   cases q
 ·rcases (h2 x hx).2 with q|q
  ·exact absurd hk q
  ·exact q
 ·unfold k5 at e2
  by_cases hi:i < t
  ·rw[List.getElem?_append_left (by simpa using hi),List.getElem?_replicate,if_pos hi] at e2
   cases e2
  ·rw[List.getElem?_append_right (by simpa using hi),zO,List.length_replicate] at e2
   obtain⟨j,hj,e2⟩:=ag e2
   have e3:(N'.drop t)[i - t]?=some x:=by rw[List.getElem?_drop];rw[show t+(i - t)=i by omega];exact e1
   refine⟨h7 x (List.mem_of_getElem? e3),j,?_,?_⟩
   ·rw[h5,filterMap_get N cs h6,hj] at e3
    rw[C.n];exact e3
   ·cases e:σ[j]? with
    | none=>rw[e] at e2;cases e2
    | some o=>rw[e] at e2;have e2:o=some v:=e2;rw[e2]
 ·unfold k5
  rw[zN,List.length_replicate,zD,h4]
def ba(g:aj->Option Out)(n:Nat)(args:List D):Option D:=(g (args.map Slot.val++List.replicate (n - args.length) .non)).map fun|.rt d=>d|.nx _=>.none
theorem KY{P:Program}{w:World}{K:W.Frag}{mg:Str->Option Value}{base:Heap}{x qual:Str}{st:Stmt}{f:Addr}{fd:FuncData}{ps:List Str}{g:aj->Option Out}(F:JY K x qual st f fd)(S:gm N ps (aN st))
  (body:∀X:Cx,X.prog=P->X.w=w->X.K=K->X.mg=mg->X.base=base->Bk X N (aN st) k->X.env.code=fd.code->X.env.qual=qual++".<locals>."->∀HF₀ H₀,Ez X HF₀ H₀ (cE st) g):pA P w K mg base L8 (k+1) f fd ps (Li K ps.length (ba g N.length)):=by
 obtain⟨oc,od,kV,doc,pm,an,cdv,ct,osl,rfl,lk,hcd⟩:=F.ex
 refine NB lk hcd S (fun vs H Q E ⟨HF,ds,d,h1,_,h2,h3,_⟩=>by rw[h2.length,h3]) fun A outer s H vs Q E hr ⟨HF,ds,d,sm,tb,rr,hl,hd,q⟩=>?_
 refine⟨_,(body (Dp L8 P w K mg base N qual (aN st) f cdv A outer s H E).nox rfl rfl rfl rfl rfl ⟨rfl,S.nd,fun y kd hy=>.inl hy,rfl,fun _ _=>rfl,hr,rfl,S.kind⟩ rfl rfl HF H).nox,?_⟩
 unfold ba at hd
 obtain⟨o,ho,hd⟩:=ag hd
 have hpl:ps.length<=N.length:=by have:=congrArg List.length S.pre;rw[List.length_take] at this;omega
 refine⟨HF,_,o,⟨.refl sm,fun i e h=>?_,fun i es h=>?_,fun i j es fs a h=>?_,?_,tb⟩,ho,?_⟩
 ·have hi:i < ds.length:=by
   by_cases hi:i < ds.length
   ·exact hi
   ·rw[List.getElem?_append_right (by simpa using hi),List.getElem?_replicate] at h
    split at h<;>cases h
  rw[List.getElem?_append_left (by simpa using hi),zO] at h
  obtain⟨d',hd',h⟩:=ag h
  cases h
  obtain⟨v,hv,rv⟩:=rr.getD hd'
  refine⟨v,?_,rv⟩
  unfold L2.start
  rw[List.getElem?_append_left (by simpa [rr.length] using hi),zO,hv]
  rfl
 ·exfalso
  by_cases hi:i < ds.length
  ·rw[List.getElem?_append_left (by simpa using hi),zO] at h
   obtain⟨d',hd',h⟩:=ag h
   cases h
  ·rw[List.getElem?_append_right (by simpa using hi),List.getElem?_replicate] at h
   split at h<;>cases h
 ·exfalso
  by_cases hi:i < ds.length
  ·rw[List.getElem?_append_left (by simpa using hi),zO] at h
   obtain⟨d',hd',h⟩:=ag h
   cases h
  ·rw[List.getElem?_append_right (by simpa using hi),List.getElem?_replicate] at h
   split at h<;>cases h
 ·unfold L2.start
  rw[zN,zN,zD,zD,List.length_replicate,List.length_replicate,rr.length]
  exact zzA _
 ·cases o with
  | rt d'=>cases hd;exact fun v H' HF' G r=>q v H' HF' G r
  | nx ρ'=>cases hd;exact fun σ' H' HF' S' _=>q .non H' HF' S'.gr (by simp[Rep])
theorem P2{P:Program}{w:World}{K:W.Frag}{mg:Str->Option Value}{base:Heap}{x qual:Str}{st:Stmt}{f:Addr}{fd:FuncData}{ps:List Str}{g:aj->Option Out}(F:JY K x qual st f fd)(S:gm N ps (aN st))(hb:Binds K fd ps [])(hm:mg x=some (.ref f))
  (body:∀X:Cx,X.prog=P->X.w=w->X.K=K->X.mg=mg->X.base=base->Bk X N (aN st) k->X.env.code=fd.code->X.env.qual=qual++".<locals>."->∀HF₀ H₀,Ez X HF₀ H₀ (cE st) g):dk P w K mg base (k+1) x ps.length (ba g N.length):=⟨f,fd,ps,KY F S body,hm,F.kp,hb⟩
end
section
variable {X:Cx}{HF₀ H₀:Hp}{e e2:Expr}{pos apos cpos px:Pos}{x:Str}
def lR(fz:List Nat)(f:Env->Option D)(ρ:aj):Option (D×aj):=(f (bA ρ)).bind fun d=>if qm d=true then some (d,ρ) else (f (bY (hand fz 0 ρ))).map fun d'=>(d',hand fz 0 ρ)
theorem nG{K:W.Frag}{HF H:Hp}{ρ ρ':aj}{σ:L2.St}{fz:List Nat}{f:Env->Option D}{d:D}(S:j6 K HF₀ H₀ HF H ρ σ)(h:lR fz f ρ=some (d,ρ')){Q:VK}
  (q:∀v H' HF',aR HF HF'->j6 K HF₀ H₀ HF' H' ρ' σ->aR H H'->Rep K HF' d v->Q v H'):tD K f σ H Q:=by
 obtain⟨d1,h1,h⟩:=bs h
 split at h
 ·rename_i hs
  cases h
  exact⟨H,bA ρ,d,.refl _,S.all,h1,fun v H' HF' G r=>q v H' HF (.refl _) (S.step G.hh) G.hh (yr hs r)⟩
 ·obtain⟨d2,h2,h⟩:=ag h
  cases h
  obtain⟨HF1,s1,S1⟩:=S.hand fz
  exact⟨HF1,_,d,S1.gr.fh,S1.frz,h2,fun v H' HF' G r=>q v H' HF' (s1.trans G.ff) (S1.grow G) G.hh r⟩
def nI(i:Nat)(m:List D->Option (List D))(ρ:aj):Option Out:=match ρ[i]? with
 | some (.own ds)=>(m ds).map fun es=>.nx (ρ.set i (.own es))
 | _=>none
theorem lz{i:Nat}{m:List D->Option (List D)}{ρ:aj}{o:Out}(h:nI i m ρ=some o):∃ds es,ρ[i]?=some (.own ds)/\m ds=some es/\o=.nx (ρ.set i (.own es)):=by
 unfold nI at h
 split at h
 ·rename_i ds hd
  obtain⟨es,h1,h2⟩:=ag h
  exact⟨ds,es,hd,h1,h2.symm⟩
 ·cases h
theorem j6.mut{K:W.Frag}{HF H:Hp}{ρ:aj}{σ:L2.St}(S:j6 K HF₀ H₀ HF H ρ σ){i:Nat}{ds es:List D}{a:Addr}{vs us:List V}(h:ρ[i]?=some (.own ds))(ha:σ[i]?=some (some (.ref a)))(hH:H a=some (.lst vs))(r:ar K HF es us) :
  j6 K HF₀ H₀ HF (upd H a (.lst us)) (ρ.set i (.own es)) σ:=by
 obtain⟨a',vs',e1,e2,e3,e5,e4⟩:=S.own i ds h
 rw[ha] at e1;cases e1
 have hl:i < ρ.length:=(zU.mp h).1
 have gr:cg HF₀ H₀ HF (upd H a (.lst us)):=⟨fun b o e=>by rw[aE (aP e e5)];exact S.gr.hh b o e,S.gr.ff,fun b o e=>by rw[aE (aP e e3)];exact S.gr.fh b o e,S.gr.nw⟩
 refine⟨gr,fun j d hj=>?_,fun j xs hj=>?_,fun j k xs ys b f1 f2 f3 f4=>?_,by rw[yD];exact S.len,S.tb⟩
 ·rw[List.getElem?_set] at hj
  by_cases hij:i=j
  ·rw[if_pos hij] at hj
   split at hj<;>cases hj
  ·rw[if_neg hij] at hj;exact S.val j d hj
 ·rw[List.getElem?_set] at hj
  by_cases hij:i=j
  ·subst hij
   rw[if_pos rfl,if_pos hl] at hj
   cases hj
   exact⟨a,us,ha,aL,e3,e5,r⟩
  ·rw[if_neg hij] at hj
   obtain⟨b,ws,f1,f2,f3,f5,f4⟩:=S.own j xs hj
   refine⟨b,ws,f1,?_,f3,f5,f4⟩
   rw[aE]
   ·exact f2
   ·rintro rfl
    exact hij (S.inj i j ds xs b h hj ha f1)
 ·have old:∀ {j:Nat}{xs:List D},(ρ.set i (.own es))[j]?=some (.own xs)->∃ys,ρ[j]?=some (.own ys):=fun {j xs} hj=>by
   rw[List.getElem?_set] at hj
   by_cases hij:i=j
   ·subst hij;exact⟨ds,h⟩
   ·rw[if_neg hij] at hj;exact⟨xs,hj⟩
  obtain⟨xs',g1⟩:=old f1
  obtain⟨ys',g2⟩:=old f2
  exact S.inj j k xs' ys' b g1 g2 f3 f4
def kZ(i:Nat)(fz:List Nat)(f:Env->Option D):aj->Option Out:=fun ρ=>(lR fz f ρ).bind fun p=>nI i (fun ds=>if ds.length < sizeLine then some (ds++[p.1]) else none) p.2
theorem C2(i:Nat)(fz:List Nat){f:Env->Option D}(hN:X.N[i]?=some x)(hv:Kq X.env.scope x)(h:DE X e f)(hd:(x == ("__debug__":Str))=false:=by decide)(hcd:(x == ("__classdict__":Str))=false:=by decide)
  (hfew:((backTo cpos (starEach [e] X.env)).all (fun x=>!x.1)&&(backToKw cpos (keywordEach [] X.env)).all (fun x=>x.1.isSome)&&decide ([e].length+([]:List Keyword).length+(if ([]:List Keyword).isEmpty then 0 else 1) < 30))=true:=by rfl)
  (hline:(apos.endLine == cpos.line)=true:=by rfl) (hs:starEach [e] X.env=(false,eval e X.env)::starEach [] X.env:=by rfl) :
  DS X HF₀ H₀ (.Expr (.Call (.Attribute (.Name x px) "append" apos) [e] [] cpos) pos) (kZ i fz f) :=
 eC (pO (yT PySem.F.plainAttrs_list PySem.F.slot_list_append PySem.F.type_list_append uA (qT hN hv hd hcd) (dg h iS hs) rfl hfew hline hs rfl)) fun E σ H ⟨HF,ρ,o,S,hg,q⟩=>by
  obtain⟨⟨d,ρ'⟩,h1,hg⟩:=bs hg
  obtain⟨ds,es,h2,h3,rfl⟩:=lz hg
  have hown:∃ds',ρ[i]?=some (.own ds'):=by
   obtain⟨d1,_,h1⟩:=bs h1
   split at h1
   ·cases h1;exact⟨ds,h2⟩
   ·obtain⟨d2,_,h1⟩:=ag h1
    cases h1
    rw[iV] at h2
    obtain⟨s,hs,h2⟩:=ag h2
    cases s with
    | non=>split at h2<;>cases h2
    | val _=>split at h2<;>cases h2
    | own xs=>exact⟨xs,hs⟩
  obtain⟨ds',hown⟩:=hown
  obtain⟨a,vs,e1,e2,e3,e5,e4⟩:=S.own i ds' hown
  refine⟨.ref a,e1,.inl ⟨rfl,vs,hZ.of e2⟩,nG S h1 fun v H' HF' s1 S' sh r=>?_⟩
  obtain⟨a',vs',f1,f2,f3,f5,f4⟩:=S'.own i ds h2
  rw[e1] at f1;cases f1
  split at h3
  ·rename_i hz
   cases h3
   exact⟨a,vs',v,rfl,rfl,f2,by rw[f4.length];exact hz,q σ _ HF' (S'.mut h2 e1 f2 (f4.append (ar.cons r ar.nil))) s1⟩
  ·cases h3
end
def wA(K:W.Frag)(o:Obj):Option (Addr×Str):=match o.data with
 | .func fd=>if kF.contains fd.qualname=true then (match fd.code with
   | .ref c=>(match K.lookup c with
    | some ⟨_,_,.fields vs,_⟩=>(match (vs[11]?:Option Value) with
     | some (.ref P)=>if W.codeHdIn K c P=true then some (P,fd.qualname++".<locals>."++"<lambda>") else none
     | _=>none)
    | _=>none)
   | _=>none) else none
 | _=>none
def iM(K:W.Frag):List (Addr×Str):=K.filterMap fun p=>wA K p.2
def m7(K:W.Frag)(ts:List Addr):Bool:=(iM K).all fun p=>ts.contains p.1&&(K.lookup p.1).isNone&&decide ((iM K).lookup p.1=some p.2)
theorem yf{K:W.Frag}{o:Obj}{P:Addr}{q:Str}(h:wA K o=some (P,q)):∃c,W.codeHdIn K c P=true:=by
 unfold wA at h
 split at h
 ·split at h
  ·split at h
   ·split at h
    ·split at h
     ·split at h
      ·cases h;exact⟨_,‹_›⟩
      ·cases h
     ·cases h
    ·cases h
   ·cases h
  ·cases h
 ·cases h
theorem xm{K:W.Frag}{P:Addr}{q:Str}(h:(P,q)∈iM K):∃c,W.codeHdIn K c P=true:=by
 obtain⟨p,_,e⟩:=List.mem_filterMap.mp h
 exact yf e
theorem A4{K:W.Frag}{f c P:Addr}{oc:Value}{od:Option Addr}{fd:FuncData}{sl:Array (Option Value)}(a:K.lookup f=some ⟨oc,od,.func fd,sl⟩)(b:fd.qualname∈kF)(d:fd.code=.ref c)(e:W.codeHdIn K c P=true) :
  (P,fd.qualname++".<locals>."++"<lambda>")∈iM K:=by
 refine List.mem_filterMap.mpr ⟨(f,_),W.mem_of_lookupK a,?_⟩
 have e':=e
 unfold W.codeHdIn at e'
 unfold wA
 simp only[d,List.contains_iff_mem,b,if_true]
 split at e'
 ·rename_i vs sl' hl
  simp only[hl]
  simp only[zF] at e'
  have e1:=e'.1.1.1.1.1
  split at e1
  ·rename_i P' hv
   have:P'=P:=by simpa using e1
   subst this
   simp only[hv,e,if_true]
  ·cases e1
 ·cases e'
theorem FN{α:Type}{b:Addr}{q:α}:∀ {l:List (Addr×α)},l.lookup b=some q->(b,q)∈l
 | [],e=>by cases e
 | (c,x)::r,e=>by
  rw[yC] at e
  cases h:b == c with
  | true=>rw[h] at e;cases e;rw[eq_of_beq h];exact zE
  | false=>rw[h] at e;exact zC _ (FN e)
def fy(K:W.Frag)(h0:Hp):Hp:=fun b=>match (iM K).lookup b with|some q=>some (.tab q)|none=>h0 b
theorem DD{K:W.Frag}{ts:List Addr}{h0:Hp}(h:m7 K ts=true):gY K (fy K h0):=fun f oc od fd sl c P a b d e=>by
 have hm:=A4 a b d e
 have:=List.all_eq_true.mp h _ hm
 simp only[zF,zJ] at this
 unfold fy
 rw[this.2]
theorem Et{P:Program}{w:World}{K:W.Frag}{mg mb:Str->Option Value}{CX:Ex}{k:Nat}{fa a:Addr}{fd:FuncData}{x:Str}{sp:Sp}{s₁:Shared}{vs:List Value}{ns:List Int}{ts:List Addr}
  (KX:K.In s₁.heap) (hns:s₁.heap.Ns mainGlobals mg) (hb:s₁.heap.Ns builtinsNs mb) (hbb:∀x:Str,x≠"__name__"->mb x=bootBuiltins x) (hlim:s₁.heap.NoLimit) (hbm:OU mg s₁.heap) (hg:s₁.gens=#[])
  (ht:m7 K ts=true) (hts:∀P∈ts,s₁.heap.get? P=some (W.tabObj #[]))
  (ha:s₁.heap.get? a=some { cls:=.type "list",data:=.seq vs.toArray }) (hi:IntsAre vs ns) (hl:ns.length<=sizeLine) (hr:eH k callerA)
  (F:∀base:Heap,K.In base->base.Ns mainGlobals mg->pA P w K mg base CX k fa fd [x] sp) (hbind:∀ (s:Shared) (u:Value),BindsTo s fd ⟨[u],[]⟩ [(x,u)])
  (hsp:∀H:Hp,gY K H->hZ K H a (ns.map V.int)->sp [.ref a] H (fun v _=>v=.bl true) fun _ _ _=>False)
  (hCX:∀H e s',CX [] H s₁ (fun _ _ _=>False) e s'->False) :
  codeAny (model P w) callerA (.call (.ref fa) ⟨[.ref a],[]⟩) (fun r s'=>r=.ok (.ret (.bool true))/\OldK s₁.heap s'.heap/\s'.os=s₁.os/\AllBare s'.gens) s₁:=by
 have rv:=tU hi
 have lenV:=hi.length
 have tabAt:∀b q,(iM K).lookup b=some q->s₁.heap.get? b=some (W.tabObj #[])/\K.lookup b=none/\∃c,W.CodeHd s₁.heap c b:=fun b q e=>by
  have hm:=FN e
  have:=List.all_eq_true.mp ht _ hm
  simp only[zF,zJ,List.contains_iff_mem,Option.isNone_iff_eq_none] at this
  obtain⟨c,hc⟩:=xm hm
  exact⟨hts b this.1.1,this.1.2,c,W.codeHd_of_K KX hc⟩
 have aT:(iM K).lookup a=none:=by
  cases e:(iM K).lookup a with
  | none=>rfl
  | some q=>have:=(tabAt a q e).1;rw[ha] at this;cases this
 have core:∀h0:Hp,hZ K (fy K h0) a (ns.map V.int)->pW P w (fy K h0) s₁.heap->(∀b,h0 b≠none->b=a)->(h0 a≠none->K.lookup a=none)->(∀b,h0 b=none\/∃o xs,h0 b=some (.frz o (.lst xs))) ->
   codeAny (model P w) callerA (.call (.ref fa) ⟨[.ref a],[]⟩) (fun r s'=>r=.ok (.ret (.bool true))/\OldK s₁.heap s'.heap/\s'.os=s₁.os/\AllBare s'.gens) s₁:=by
  intro h0 hS hok hA hK hO
  have look:∀b u,fy K h0 b=some u->(∃q,(iM K).lookup b=some q/\u=.tab q)\/(b=a/\h0 b=some u):=fun b u e=>by
   unfold fy at e
   split at e
   ·rename_i q hq;cases e;exact .inl ⟨q,hq,rfl⟩
   ·exact .inr ⟨hA b (by rw[e];simp),e⟩
  have mN:∀ {b:Addr}{o:Obj},s₁.heap.get? b=some o->fy K h0 b=none->(vA s₁.heap (fy K h0)).get? b=some o:=fun e n=>EY e n
  have noA:∀ {b:Addr}{o:Obj},s₁.heap.get? b=some o->(∀vs n,o.data≠.seq vs n)->(∀vs,o.data≠.fields vs)->fy K h0 b=none:=fun {b o} e d d2=>by
   cases q:fy K h0 b with
   | none=>rfl
   | some u =>
    rcases look b u q with ⟨q',z,_⟩|⟨z,_⟩
    ·rw[(tabAt b q' z).1] at e;cases e;exact absurd rfl (d2 _)
    ·subst z;rw[ha] at e;cases e;exact absurd rfl (d _ _)
  have nsK:∀ {b:Addr}{m:Str->Option Value},s₁.heap.Ns b m->(vA s₁.heap (fy K h0)).Ns b m:=fun {b m} ⟨o,es,ep,e,d,r⟩=>⟨o,es,ep,mN e (noA e (fun _ _ z=>by rw[d] at z;cases z) fun _ z=>by rw[d] at z;cases z),d,r⟩
  have hKb:K.In (vA s₁.heap (fy K h0)):=fun b o e=>mN (KX b o e) (by
   cases q:fy K h0 b with
   | none=>rfl
   | some u =>
    rcases look b u q with ⟨q',z,_⟩|⟨z,z2⟩
    ·rw[(tabAt b q' z).2.1] at e;cases e
    ·subst z;rw[hK (by rw[z2];simp)] at e;cases e)
  have hM:Mod K mg (vA s₁.heap (fy K h0)):=⟨hKb,nsK hns,⟨mb,nsK hb,hbb⟩,let ⟨mc,h1,h2⟩:=hlim;⟨mc,nsK h1,h2⟩,
   let ⟨bm,o,b1,b2,b3,b4,b5,b6,b7⟩:=hbm;⟨bm,o,b1,b2,b3,mN b4 (noA b4 (fun _ _ z=>by rw[b7] at z;cases z) fun _ z=>by rw[b7] at z;cases z),b5,b6,b7⟩⟩
  have e0:Kb P w K mg (vA s₁.heap (fy K h0)) callerA [] s₁ (fy K h0):=⟨rfl,hM,fun b o e=>JF e,Nat.le_of_eq (Er _ _),trivial,fun b hb=>absurd (show b∈([]:List Addr) from hb) (by simp),hok,.of_eq hg⟩
  refine codeAny_mono ((F _ hKb (nsK hns)).run callerA [] s₁ (fy K h0) ⟨[.ref a],[]⟩ [.ref a] [.ref a] _ _ hr e0 (hbind s₁ (.ref a)) (.cons rfl .nil) (hsp _ (DD ht) hS)) fun r s' h=>?_
  cases r with
  | error e=>exact (hCX _ e s' h).elim
  | ok fl =>
   cases fl with
   | next=>exact False.elim h
   | brk=>exact False.elim h
   | cont=>exact False.elim h
   | ret u =>
    obtain⟨v,H',os,bare,un,hok',r',q⟩:=h
    have q':v=.bl true:=q
    subst q'
    obtain rfl:u=Value.bool true:=r'
    have key:∀b o,s₁.heap.get? b=some o->s'.heap.get? b=some o\/(isCodeTable s₁.heap b/\o=W.tabObj #[]/\∃ps,s'.heap.get? b=some (W.tabObj ps)):=fun b o e=>by
     cases q:fy K h0 b with
     | none=>exact .inl (un.keep b o e q (by intro z;exact absurd (show b∈([]:List Addr) from z) (by simp)) (by simp))
     | some u =>
      rcases look b u q with ⟨q',z,rfl⟩|⟨z,z2⟩
      ·obtain⟨t1,_,c,t3⟩:=tabAt b q' z
       obtain⟨more,m1⟩:=un.tbls.gr b q' #[] q t1
       rw[e] at t1
       cases t1
       exact .inr ⟨(t3.tab e).isCodeTable,rfl,_,m1⟩
      ·rcases hO b with z3|⟨ob,xs,z3⟩
       ·rw[z2] at z3;cases z3
       ·rw[z2] at z3
        cases z3
        have z4:=un.frzs b ob _ q
        obtain⟨e1,_⟩:=hok b _ q
        obtain⟨e2,_⟩:=hok' b _ z4
        rw[e] at e1;cases e1
        exact .inl e2
    refine⟨rfl,⟨fun b o e=>?_,fun b o e=>?_⟩,os,bare⟩
    ·rcases key b o e with z|⟨t,rfl,ps,z⟩
     ·exact .inl z
     ·exact .inr (.inl ⟨t,rfl,#[],ps,rfl,by rw[Array.empty_append];exact z⟩)
    ·rcases key b o e with z|⟨_,_,ps,z⟩
     ·exact⟨o,z⟩
     ·exact⟨_,z⟩
 have hoT:∀ (h0:Hp) b q,(iM K).lookup b=some q->gf P w (fy K h0) s₁.heap b (.tab q):=fun h0 b q e=>⟨#[],(tabAt b q e).1,trivial,fun pos v z=>by cases z⟩
 cases hk:K.lookup a with
 | some o =>
  have e:=KX a o hk
  rw[ha] at e
  cases e
  refine core (fun _=>none) (.inr ⟨_,vs.toArray,_,hk,rfl,rfl,rfl,by rw[zH,lenV];exact hl,by simpa using rv⟩) (fun b u z=>?_) (fun b z=>absurd rfl z) (fun z=>absurd rfl z) fun _=>.inl rfl
  unfold fy at z
  split at z
  ·rename_i q hq;cases z;exact hoT _ b q hq
  ·cases z
 | none =>
  refine core (fun b=>if b=a then some (.frz { cls:=.type "list",data:=.seq vs.toArray } (.lst (ns.map V.int))) else none) (.inl (.inr ⟨{ cls:=.type "list",data:=.seq vs.toArray },?_⟩)) (fun b u z=>?_) (fun b z=>?_) (fun _=>hk) fun b=>?_
  ·unfold fy;rw[aT];exact if_pos rfl
  ·unfold fy at z
   split at z
   ·rename_i q hq;cases z;exact hoT _ b q hq
   ·by_cases hb:b=a
    ·replace z:=(if_pos hb).symm.trans z
     cases z
     subst hb
     exact⟨ha,by rw[zD];exact hl,vs,_,rv,ha⟩
    ·replace z:=(if_neg hb).symm.trans z;cases z
  ·by_cases hb:b=a
   ·exact hb
   ·exact absurd (if_neg hb) z
  ·by_cases hb:b=a
   ·exact .inr ⟨_,_,if_pos hb⟩
   ·exact .inl (if_neg hb)
theorem HJ{l:W.OpenLaw}{n k:Nat}{q:Program}{loose:List Str}{XP:(Str->Option Value)->Heap->Prop}{YP:World->Heap->Prop}{d:DefRec}{K:Params->W.Frag}{CX:World->Ex}{sp:World->Sp}{x:Str}{ts:List Addr}
  (hn:l.most=some n) (hn2:n<=sizeLine) (hdf:d.params.defaults=[]) (hr:eH k callerA)
  (hY:∀ (w:World) (h:Heap),YP w h->(K w.params).In h/\∀P∈ts,h.get? P=some (W.tabObj #[])) (ht:∀w:World,m7 (K w.params) ts=true)
  (F:∀ (w:World) (mg:Str->Option Value) (fa:Addr) (h:Heap),(K w.params).In h->h.Ns mainGlobals mg->mg d.name=some (.ref fa) ->
   ∃fd:FuncData,(∀ (s:Shared) (u:Value),BindsTo s fd ⟨[u],[]⟩ [(x,u)]) /\
    ∀base:Heap,(K w.params).In base->base.Ns mainGlobals mg->pA l.prog w (K w.params) mg base (CX w) k fa fd [x] (sp w))
  (hsp:∀ (w:World) (H:Hp) (a:Addr) (ns:List Int),ns.length<=n->gY (K w.params) H->hZ (K w.params) H a (ns.map V.int)->sp w [.ref a] H (fun v _=>v=.bl true) fun _ _ _=>False)
  (hCX:∀ (w:World) (H:Hp) (s:Shared) (e:Value) (s':Shared),CX w [] H s (fun _ _ _=>False) e s'->False) :
  W.WalkO q loose XP YP l.row.toRowW d [] (fun f vs=>PySem.call f vs):=by
 refine Att.attach_call hn hdf fun w s₀ s₁ mg mb fa o pm cd doc a vs ns G Y ho hd hcd hmg hobj hints hlen hg=>?_
 obtain⟨KX,hts⟩:=hY w _ Y
 obtain⟨fd,hb,hF⟩:=F w mg fa _ KX G.T.g hmg
 have hbm:OU mg s₁.heap:=by
  obtain⟨bm,ob,b1,b2,b3,b4,b5,b6⟩:=G.T.bmain
  refine⟨bm,ob,b1,b2,fun z=>?_,b3,b4,b5,b6⟩
  obtain⟨o',es,ep,e1,e2,_⟩:=G.T.g
  rw[<- z,b3] at e1
  cases e1
  rw[b6] at e2;cases e2
 exact Et KX G.T.g G.T.b G.T.builtins G.T.nolimit hbm hg (ht w) hts hobj hints (yE hlen hn2) hr hF hb (fun H hT hS=>hsp w H a ns hlen hT hS) fun H e s'=>hCX w H s₁ e s'
end Dl
namespace SP
open PySem PySem.W PyProof.Rows
def run{α:Type}(lt:Nat->Nat->Bool):KasT α->α
 | .ret a=>a
 | .ask i j k=>run lt (k (lt i j))
theorem iU{α β:Type}(lt:Nat->Nat->Bool)(f:α->KasT β):∀t:KasT α,run lt (t.bind f)=run lt (f (run lt t))
 | .ret a=>rfl
 | .ask i j k=>by
  show run lt ((k (lt i j)).bind f)=run lt (f (run lt (k (lt i j))))
  exact iU lt f (k (lt i j))
def Nn(n:Nat){α:Type}:KasT α->Prop
 | .ret _=>True
 | .ask i j k=>i < n/\j < n/\∀b,Nn n (k b)
theorem wp_run{α:Type}{n:Nat}{cmp:Nat->Nat->(Bool->Shared->Prop)->Shared->Prop}{lt:Nat->Nat->Bool}{s:Shared}(hc:∀i j C,i < n->j < n->C (lt i j) s->cmp i j C s):∀ (t:KasT α) {Q:α->Shared->Prop},Nn n t->Q (run lt t) s->t.kasWp cmp Q s
 | .ret a,Q,_,h=>h
 | .ask i j k,Q,b,h=>hc i j _ b.1 b.2.1 (wp_run hc (k (lt i j)) (b.2.2 _) h)
def rP(n:Nat){α:Type}(R:α->Prop):KasT α->Prop
 | .ret a=>R a
 | .ask i j k=>i < n/\j < n/\∀b,rP n R (k b)
theorem nX{α β:Type}{n:Nat}{R:α->Prop}{f:α->KasT β}:∀ {t:KasT α},rP n R t->(∀a,R a->Nn n (f a))->Nn n (t.bind f)
 | .ret a,b,h=>h a b
 | .ask i j k,b,h=>⟨b.1,b.2.1,fun c=>nX (b.2.2 c) h⟩
theorem jr{α β:Type}{n:Nat}{R:α->Prop}{S:β->Prop}{f:α->KasT β}:∀ {t:KasT α},rP n R t->(∀a,R a->rP n S (f a))->rP n S (t.bind f)
 | .ret a,b,h=>h a b
 | .ask i j k,b,h=>⟨b.1,b.2.1,fun c=>jr (b.2.2 c) h⟩
def Bd(n:Nat)(p:Array Nat):Prop:=∀a,p.getD a 0 < n
theorem Bd.perm{n:Nat}{p q:Array Nat}(h:Bd n p)(e:q.Perm p):Bd n q:=by
 intro a
 rw[Array.getD_eq_getD_getElem?]
 cases ha:q[a]? with
 | none=>have:=h p.size;rw[Array.getD_eq_getD_getElem?] at this;simpa using this
 | some x =>
  have hx:x∈q:=Array.mem_of_getElem? ha
  have hx':x∈p:=e.mem_iff.mp hx
  obtain⟨i,hi,rfl⟩:=Array.mem_iff_getElem.mp hx'
  have:=h i
  rw[Array.getD_eq_getD_getElem?] at this
  simpa [hi] using this
theorem Hi{n:Nat}{p:Array Nat}(h:Bd n p):∀f m,rP n (fun _=>True) (kas_asc p f m)
 | 0,m=>trivial
 | f+1,m=>⟨h _,h _,fun c=>by
  dsimp only
  split
  ·trivial
  ·exact Hi h f (m+1)⟩
theorem xV{n:Nat}{p:Array Nat}(h:Bd n p)(i j:Nat):Bd n (kas_rev p i j):=h.perm (mirror_perm _ _ _ _)
theorem we{n:Nat}:∀ (f:Nat) {p:Array Nat}(h:Bd n p) (m q:Nat),rP n (fun r=>Bd n r.1) (kas_desc f p m q)
 | 0,p,h,m,q=>h
 | f+1,p,h,m,q=>⟨h _,h _,fun c=>by
  dsimp only
  split
  ·split
   ·exact we f (xV h _ _) (m+1) 0
   ·exact we f h (m+1) 0
  ·exact⟨h _,h _,fun d=>by
    dsimp only
    split
    ·exact h
    ·exact we f h (m+1) (q+1)⟩⟩
theorem CK{n:Nat}{p:Array Nat}(h:Bd n p)(m nrem:Nat):rP n (fun r=>Bd n r.2) (kas_tail3 m nrem p):=jr (Hi (xV h 0 m) _ _) fun _ _=>xV h 0 m
theorem rS{n:Nat}{p:Array Nat}(h:Bd n p)(m nrem:Nat):rP n (fun r=>Bd n r.2) (kas_descPart m nrem p):=jr (we _ h _ _) fun r hr=>by
 split
 ·exact CK (xV hr _ _) _ _
 ·exact CK hr _ _
theorem IK{n:Nat}{p:Array Nat}(h:Bd n p)(nrem:Nat):rP n (fun r=>Bd n r.2) (kas_count nrem p):=jr (Hi h _ _) fun m _=>by
 split
 ·exact h
 ·split
  ·exact⟨h _,h _,fun c=>by
    dsimp only
    split
    ·exact h
    ·exact rS (xV h _ _) _ _⟩
  ·exact rS h _ _
theorem vI{n:Nat}{p:Array Nat}(h:Bd n p)(k:Nat):∀f l r,rP n (fun _=>True) (kas_place p k f l r)
 | 0,l,r=>trivial
 | f+1,l,r=>by
  unfold kas_place
  split
  ·trivial
  ·exact⟨h _,h _,fun c=>by
    dsimp only
    split
    ·exact vI h k f _ _
    ·exact vI h k f _ _⟩
theorem Kz{n:Nat}:∀ (f:Nat) {p:Array Nat}(h:Bd n p) (k:Nat),Nn n (kas_bin f p k)
 | 0,p,h,k=>trivial
 | f+1,p,h,k=>nX (vI h k _ _ _) fun l _=>Kz f (h.perm (bubble_perm _ _ _)) (k+1)
theorem HS{n:Nat}(h1:1<=n):Nn n (kas_sort n):=by
 have h:Bd n (List.toArray (List.range n)):=fun a=>by
  rw[Array.getD_eq_getD_getElem?]
  by_cases ha:a < n
  ·simp[ha]
  ·simp[ha];omega
 refine nX (IK h n) fun r hr=>?_
 split
 ·exact Kz _ hr _
 ·trivial
section
variable (z:Nat->Int)
def Z(p:Array Nat)(a:Nat):Int:=z (p.getD a 0)
def eP:Nat->Nat->Bool:=fun i j=>decide (z i < z j)
theorem mO{p q:Array Nat}{a b:Nat}(h:p[a]?=q[b]?):Z z p a=Z z q b:=by
 unfold Z
 rw[Array.getD_eq_getD_getElem?,Array.getD_eq_getD_getElem?,h]
theorem Hy{p:Array Nat}{i j:Nat}(hj:j<=p.size)(k:Nat):Z z (kas_rev p i j) k=if i<=k/\k < j then Z z p (i+j - 1 - k) else Z z p k:=by
 have e:=getElem?_mirror_all (xs:=p) (i:=i) hj k
 unfold kas_rev
 by_cases h1:i<=k/\k < j
 ·rw[if_pos h1] at e ⊢;exact mO z e
 ·rw[if_neg h1] at e ⊢;exact mO z e
theorem Hm{p:Array Nat}{src d:Nat}(hs:src < p.size)(hd:d<=src)(k:Nat):Z z (bubble p src d) k=if k=src - d then Z z p src else if src - d < k/\k<=src then Z z p (k - 1) else Z z p k:=by
 have e:=getElem?_bubble hs d hd k
 by_cases h1:k=src - d
 ·rw[if_pos h1] at e ⊢;exact mO z e
 ·rw[if_neg h1] at e ⊢
  by_cases h2:src - d < k/\k<=src
  ·rw[if_pos h2] at e ⊢;exact mO z e
  ·rw[if_neg h2] at e ⊢;exact mO z e
def Up(p:Array Nat)(n:Nat):Prop:=∀a b,a<=b->b < n->Z z p a<=Z z p b
def Dn(p:Array Nat)(n:Nat):Prop:=∀a b,a<=b->b < n->Z z p b<=Z z p a
variable {z}
theorem Jh{p:Array Nat}{n:Nat}(h:Up z p n)(hn:1<=n)(h1:Z z p (n - 1)<=Z z p n):Up z p (n+1):=by
 intro a b hab hb
 by_cases hbn:b < n
 ·exact h a b hab hbn
 ·have e:b=n:=by omega
  subst e
  by_cases ha:a=b
  ·subst ha;exact Int.le_refl _
  ·exact Int.le_trans (h a (b - 1) (by omega) (by omega)) h1
theorem PU{p:Array Nat}:∀ (f n:Nat),1<=n->Up z p n->n<=run (eP z) (kas_asc p f n)/\run (eP z) (kas_asc p f n)<=n+f/\Up z p (run (eP z) (kas_asc p f n))/\(run (eP z) (kas_asc p f n) < n+f->Z z p (run (eP z) (kas_asc p f n)) < Z z p (run (eP z) (kas_asc p f n) - 1))
 | 0,n,hn,h=>⟨zzA _,zzA _,h,fun q=>absurd q (Nat.lt_irrefl _)⟩
 | f+1,n,hn,h=>by
  unfold kas_asc
  show n<=run (eP z) (if eP z (p.getD n 0) (p.getD (n - 1) 0)=true then .ret n else kas_asc p f (n+1))/\run (eP z) (if eP z (p.getD n 0) (p.getD (n - 1) 0)=true then .ret n else kas_asc p f (n+1))<=n+(f+1)/\Up z p (run (eP z) (if eP z (p.getD n 0) (p.getD (n - 1) 0)=true then .ret n else kas_asc p f (n+1)))/\(run (eP z) (if eP z (p.getD n 0) (p.getD (n - 1) 0)=true then .ret n else kas_asc p f (n+1)) < n+(f+1)->Z z p (run (eP z) (if eP z (p.getD n 0) (p.getD (n - 1) 0)=true then .ret n else kas_asc p f (n+1))) < Z z p (run (eP z) (if eP z (p.getD n 0) (p.getD (n - 1) 0)=true then .ret n else kas_asc p f (n+1)) - 1))
  by_cases hc:eP z (p.getD n 0) (p.getD (n - 1) 0)=true
  ·rw[if_pos hc]
   exact⟨zzA _,Nat.le_add_right _ _,h,fun _=>of_decide_eq_true hc⟩
  ·rw[if_neg hc]
   have h1:Z z p (n - 1)<=Z z p n:=by
    have:¬ (Z z p n < Z z p (n - 1)):=fun q=>hc (yB q)
    omega
   obtain⟨a,b,c,d⟩:=PU f (n+1) (by omega) (Jh h hn h1)
   exact⟨by omega,by omega,c,fun q=>d (by omega)⟩
theorem Af{p:Array Nat}{i j:Nat}(hj:j<=p.size)(h:∀a b,i<=a->a < j->i<=b->b < j->Z z p a=Z z p b)(k:Nat):Z z (kas_rev p i j) k=Z z p k:=by
 rw[Hy z hj]
 split
 ·rename_i hk
  exact h _ _ (by omega) (by omega) hk.1 hk.2
 ·rfl
theorem Fz{p q:Array Nat}{n:Nat}(e:∀k,Z z q k=Z z p k)(h:Dn z p n):Dn z q n:=fun a b hab hb=>by rw[e,e];exact h a b hab hb
theorem LO{p:Array Nat}{n:Nat}(hn:n<=p.size)(h:Dn z p n):Up z (kas_rev p 0 n) n:=by
 intro a b hab hb
 rw[Hy z hn,Hy z hn,if_pos ⟨Nat.zero_le _,by omega⟩,if_pos ⟨Nat.zero_le _,hb⟩]
 exact h _ _ (by omega) (by omega)
theorem nC(p:Array Nat)(i j:Nat):(kas_rev p i j).size=p.size:=mirror_size _ _ _ _
theorem mG(p:Array Nat)(i j:Nat):(kas_rev p i j).Perm p:=mirror_perm _ _ _ _
structure Lw(z:Nat->Int)(p₀ p:Array Nat)(n q nrem:Nat):Prop where
 perm:p.Perm p₀
 size:p.size=p₀.size
 le:n<=nrem
 qn:q+1<=n
 dn:Dn z p n
 eq:∀a b,n - (q+1)<=a->a < n->n - (q+1)<=b->b < n->Z z p a=Z z p b
theorem IC{p₀:Array Nat}{nrem:Nat}(hz:nrem<=p₀.size):∀ (f:Nat) (p:Array Nat) (n q:Nat),n+f<=nrem->Lw z p₀ p n q nrem ->
  let r:=run (eP z) (kas_desc f p n q);Lw z p₀ r.1 r.2.1 r.2.2 nrem
 | 0,p,n,q,hn,h=>h
 | f+1,p,n,q,hn,h=>by
  intro r
  have hr:r=run (eP z) (if eP z (p.getD n 0) (p.getD (n - 1) 0)=true then (if q > 0 then kas_desc f (kas_rev p (n - (q+1)) n) (n+1) 0 else kas_desc f p (n+1) 0)
   else .ask (p.getD (n - 1) 0) (p.getD n 0) fun d=>if d=true then .ret (p,n,q) else kas_desc f p (n+1) (q+1)):=rfl
  have hq:=h.qn
  by_cases hc:eP z (p.getD n 0) (p.getD (n - 1) 0)=true
  ·rw[if_pos hc] at hr
   have hlt:Z z p n < Z z p (n - 1):=of_decide_eq_true hc
   have step:∀p':Array Nat,p'.Perm p₀->p'.size=p₀.size->(∀k,Z z p' k=Z z p k)->Lw z p₀ p' (n+1) 0 nrem:=fun p' a1 a2 a3=>by
    refine⟨a1,a2,by omega,by omega,fun a b hab hb=>?_,fun a b h1 h2 h3 h4=>by rw[show a=b by omega]⟩
    rw[a3,a3]
    by_cases hbn:b < n
    ·exact h.dn a b hab hbn
    ·have e:b=n:=by omega
     subst e
     by_cases ha:a=b
     ·subst ha;exact Int.le_refl _
     ·exact Int.le_trans (Int.le_of_lt hlt) (h.dn a (b - 1) (by omega) (by omega))
   by_cases hq0:q > 0
   ·rw[if_pos hq0] at hr
    rw[hr]
    exact IC hz f _ (n+1) 0 (by omega) (step _ ((mG _ _ _).trans h.perm) (by rw[nC,h.size]) (Af (by rw[h.size];omega) h.eq))
   ·rw[if_neg hq0] at hr
    rw[hr]
    exact IC hz f p (n+1) 0 (by omega) (step p h.perm h.size fun _=>rfl)
  ·rw[if_neg hc] at hr
   have hge:Z z p (n - 1)<=Z z p n:=by
    have:¬ (Z z p n < Z z p (n - 1)):=fun q=>hc (yB q)
    omega
   have hr':r=run (eP z) (if eP z (p.getD (n - 1) 0) (p.getD n 0)=true then .ret (p,n,q) else kas_desc f p (n+1) (q+1)):=hr
   by_cases hd:eP z (p.getD (n - 1) 0) (p.getD n 0)=true
   ·rw[if_pos hd] at hr'
    rw[hr']
    exact h
   ·rw[if_neg hd] at hr'
    rw[hr']
    have heq:Z z p n=Z z p (n - 1):=by
     have:¬ (Z z p (n - 1) < Z z p n):=fun q=>hd (yB q)
     omega
    refine IC hz f p (n+1) (q+1) (by omega) ⟨h.perm,h.size,by omega,by omega,fun a b hab hb=>?_,fun a b h1 h2 h3 h4=>?_⟩
    ·by_cases hbn:b < n
     ·exact h.dn a b hab hbn
     ·have e:b=n:=by omega
      subst e
      by_cases ha:a=b
      ·subst ha;exact Int.le_refl _
      ·rw[heq];exact h.dn a (b - 1) (by omega) (by omega)
    ·have key:∀c,n+1 - (q+1+1)<=c->c < n+1->Z z p c=Z z p (n - 1):=fun c c1 c2=>by
      by_cases hcn:c < n
      ·exact h.eq c (n - 1) (by omega) hcn (by omega) (by omega)
      ·have e:c=n:=by omega
       subst e;exact heq
     rw[key a h1 h2,key b h3 h4]
structure OG(z:Nat->Int)(p₀:Array Nat)(nrem:Nat)(r:Nat×Array Nat):Prop where
 perm:r.2.Perm p₀
 size:r.2.size=p₀.size
 ge:1<=r.1
 le:r.1<=nrem
 up:Up z r.2 r.1
theorem tail3{p₀ p:Array Nat}{n nrem:Nat}(hz:nrem<=p₀.size)(h1:1<=n)(hn:n<=nrem)(hp:p.Perm p₀)(hs:p.size=p₀.size)(hd:Dn z p n):OG z p₀ nrem (run (eP z) (kas_tail3 n nrem p)):=by
 unfold kas_tail3
 rw[iU]
 obtain⟨a,b,c,_⟩:=PU (nrem - n) n h1 (LO (by omega) hd)
 exact⟨(mG _ _ _).trans hp,by show (kas_rev p 0 n).size=_;rw[nC,hs],by show 1<=run _ (kas_asc _ _ _);omega,by show run _ (kas_asc _ _ _)<=nrem;omega,c⟩
theorem descPart{p₀ p:Array Nat}{n nrem:Nat}(hz:nrem<=p₀.size)(h1:1<=n)(hn:n < nrem)(hp:p.Perm p₀)(hs:p.size=p₀.size)(hd:Dn z p n)(hlt:Z z p n<=Z z p (n - 1)):OG z p₀ nrem (run (eP z) (kas_descPart n nrem p)):=by
 unfold kas_descPart
 rw[iU]
 have D:=IC (z:=z) hz (nrem - (n+1)) p (n+1) 0 (by omega) ⟨hp,hs,by omega,by omega,fun a b hab hb=>by
  by_cases hbn:b < n
  ·exact hd a b hab hbn
  ·have e:b=n:=by omega
   subst e
   by_cases ha:a=b
   ·subst ha;exact Int.le_refl _
   ·exact Int.le_trans hlt (hd a (b - 1) (by omega) (by omega)),fun a b h1 h2 h3 h4=>by rw[show a=b by omega]⟩
 dsimp only at D
 generalize run (eP z) (kas_desc (nrem - (n+1)) p (n+1) 0)=r at D
 have hq:=D.qn
 split
 ·exact tail3 hz (by omega) D.le ((mG _ _ _).trans D.perm) (by rw[nC,D.size]) (Fz (Af (by have:=D.size;have:=D.le;omega) D.eq) D.dn)
 ·exact tail3 hz (by omega) D.le D.perm D.size D.dn
theorem count{p:Array Nat}{nrem:Nat}(hz:nrem<=p.size)(h1:1<=nrem):OG z p nrem (run (eP z) (kas_count nrem p)):=by
 unfold kas_count
 rw[iU]
 obtain⟨a,b,c,d⟩:=PU (z:=z) (p:=p) (nrem - 1) 1 (zzA _) (fun x y hxy hy=>by rw[show x=y by omega];exact Int.le_refl _)
 generalize run (eP z) (kas_asc p (nrem - 1) 1)=n at a b c d
 split
 ·exact⟨Array.Perm.refl _,rfl,a,by show n<=nrem;omega,c⟩
 ·rename_i hne
  have hlt:n < nrem:=by
   have:n≠nrem:=fun e=>hne (by simp[e])
   omega
  have hd:=d (by omega)
  split
  ·rename_i hn1
   show OG z p nrem (run (eP z) (if eP z (p.getD 0 0) (p.getD (n - 1) 0)=true then .ret (n,p) else kas_descPart n nrem (kas_rev p 0 n)))
   by_cases hc:eP z (p.getD 0 0) (p.getD (n - 1) 0)=true
   ·rw[if_pos hc]
    exact⟨Array.Perm.refl _,rfl,a,by show n<=nrem;omega,c⟩
   ·rw[if_neg hc]
    have hge:Z z p (n - 1)<=Z z p 0:=by
     have:¬ (Z z p 0 < Z z p (n - 1)):=fun q=>hc (yB q)
     omega
    have all:∀x,x < n->Z z p x=Z z p 0:=fun x hx=>by
     have e1:=c 0 x (Nat.zero_le _) hx
     have e2:=c x (n - 1) (by omega) (by omega)
     omega
    have same:=Af (z:=z) (p:=p) (i:=0) (j:=n) (by omega) fun x y _ hx _ hy=>by rw[all x hx,all y hy]
    refine descPart hz (by omega) hlt (mG _ _ _) (by rw[nC]) (fun x y hxy hy=>?_) ?_
    ·rw[same,same,all x (by omega),all y hy];exact Int.le_refl _
    ·rw[same,same];omega
  ·exact descPart hz (by omega) hlt (Array.Perm.refl _) rfl (fun x y hxy hy=>by rw[show x=y by omega];exact Int.le_refl _) (by omega)
theorem place{p:Array Nat}{k:Nat}(hu:Up z p k):∀ (f l r:Nat),r - l<=f->l<=r->r<=k->(∀a,a < l->Z z p a<=Z z p k)->(∀a,r<=a->a < k->Z z p k<=Z z p a) ->
  let m:=run (eP z) (kas_place p k f l r);m<=k/\(∀a,a < m->Z z p a<=Z z p k)/\(∀a,m<=a->a < k->Z z p k<=Z z p a)
 | 0,l,r,hf,hl,hr,h1,h2=>by
  intro m
  have e:l=r:=by omega
  subst e
  exact⟨hr,h1,h2⟩
 | f+1,l,r,hf,hl,hr,h1,h2=>by
  intro m
  have hm:m=run (eP z) (if l >= r then .ret l else .ask (p.getD k 0) (p.getD ((l+r) / 2) 0) fun c=>if c=true then kas_place p k f l ((l+r) / 2) else kas_place p k f ((l+r) / 2+1) r):=rfl
  by_cases hlr:l >= r
  ·rw[if_pos hlr] at hm
   rw[hm]
   have e:l=r:=by omega
   subst e
   exact⟨hr,h1,h2⟩
  ·rw[if_neg hlr] at hm
   have hm':m=run (eP z) (if eP z (p.getD k 0) (p.getD ((l+r) / 2) 0)=true then kas_place p k f l ((l+r) / 2) else kas_place p k f ((l+r) / 2+1) r):=hm
   by_cases hc:eP z (p.getD k 0) (p.getD ((l+r) / 2) 0)=true
   ·rw[if_pos hc] at hm'
    rw[hm']
    have hlt:Z z p k < Z z p ((l+r) / 2):=of_decide_eq_true hc
    exact place hu f l ((l+r) / 2) (by omega) (by omega) (by omega) h1 fun a ha hak=>Int.le_trans (Int.le_of_lt hlt) (hu _ a ha hak)
   ·rw[if_neg hc] at hm'
    rw[hm']
    have hge:Z z p ((l+r) / 2)<=Z z p k:=by
     have:¬ (Z z p k < Z z p ((l+r) / 2)):=fun q=>hc (yB q)
     omega
    exact place hu f ((l+r) / 2+1) r (by omega) (by omega) hr (fun a ha=>Int.le_trans (hu a ((l+r) / 2) (by omega) (by omega)) hge) h2
theorem bin{p₀:Array Nat}:∀ (f:Nat) (p:Array Nat) (k:Nat),p.Perm p₀->p.size=p₀.size->k+f<=p₀.size->Up z p k ->
  (run (eP z) (kas_bin f p k)).Perm p₀/\(run (eP z) (kas_bin f p k)).size=p₀.size/\Up z (run (eP z) (kas_bin f p k)) (k+f)
 | 0,p,k,hp,hs,hk,hu=>⟨hp,hs,hu⟩
 | f+1,p,k,hp,hs,hk,hu=>by
  unfold kas_bin
  rw[iU]
  have P:=place hu k 0 k (by omega) (by omega) (zzA _) (fun a ha=>absurd ha (Nat.not_lt_zero _)) fun a ha hak=>absurd ha (by omega)
  dsimp only at P
  generalize run (eP z) (kas_place p k k 0 k)=l at P
  obtain⟨p1,p2,p3⟩:=P
  have zb:=Hm z (p:=p) (src:=k) (d:=k - l) (by omega) (by omega)
  have e:k - (k - l)=l:=by omega
  rw[e] at zb
  obtain⟨q1,q2,q3⟩:=bin f (bubble p k (k - l)) (k+1) ((bubble_perm _ _ _).trans hp) (by rw[bubble_size,hs]) (by omega) fun a b hab hb=>by
   rw[zb,zb]
   by_cases ha1:a=l
   ·rw[if_pos ha1]
    by_cases hb1:b=l
    ·rw[if_pos hb1];exact Int.le_refl _
    ·rw[if_neg hb1]
     rw[if_pos (by omega)]
     exact p3 _ (by omega) (by omega)
   ·rw[if_neg ha1]
    by_cases hb1:b=l
    ·rw[if_pos hb1,if_neg (by omega)]
     exact p2 a (by omega)
    ·rw[if_neg hb1]
     by_cases ha2:l < a/\a<=k
     ·rw[if_pos ha2,if_pos (by omega)]
      exact hu _ _ (by omega) (by omega)
     ·rw[if_neg ha2]
      by_cases hb2:l < b/\b<=k
      ·rw[if_pos hb2]
       exact hu _ _ (by omega) (by omega)
      ·rw[if_neg hb2]
       exact hu _ _ hab (by omega)
  exact⟨q1,q2,by rw[show k+(f+1)=k+1+f by omega];exact q3⟩
theorem gh{n:Nat}(h1:1<=n):(run (eP z) (kas_sort n)).toList.Perm (List.range n)/\((run (eP z) (kas_sort n)).toList.map z).Pairwise (·<=·):=by
 have hsz:(List.toArray (List.range n)).size=n:=by simp
 have C:=count (z:=z) (p:=List.toArray (List.range n)) (nrem:=n) (by omega) h1
 have fin:∀p:Array Nat,p.Perm (List.toArray (List.range n))->p.size=n->Up z p n->p.toList.Perm (List.range n)/\(p.toList.map z).Pairwise (·<=·):=fun p a b c=>by
  refine⟨by have:=a.toList;simpa using this,?_⟩
  rw[List.pairwise_iff_getElem]
  intro i j hi hj hij
  have hi':i < n:=by simpa [b] using hi
  have hj':j < n:=by simpa [b] using hj
  have:=c i j (Nat.le_of_lt hij) hj'
  unfold Z at this
  have e1:p.getD i 0=p[i]:=by simp[Array.getD,b,hi']
  have e2:p.getD j 0=p[j]:=by simp[Array.getD,b,hj']
  rw[e1,e2] at this
  simpa using this
 unfold kas_sort
 rw[iU]
 generalize run (eP z) (kas_count n (List.toArray (List.range n)))=r at C
 obtain⟨k,p⟩:=r
 have hs:=C.size
 rw[hsz] at hs
 split
 ·rename_i hlt
  have hge:=C.ge
  have e:max k 1=k:=by have:1<=k:=hge;omega
  rw[e]
  obtain⟨q1,q2,q3⟩:=bin (z:=z) (n - k) p k C.perm C.size (by rw[hsz];have:k < n:=hlt;omega) C.up
  refine fin _ q1 (by rw[q2,hsz]) ?_
  rw[show k+(n - k)=n by have:k < n:=hlt;omega] at q3
  exact q3
 ·rename_i hnlt
  have hle:=C.le
  have e:k=n:=by have h3:k<=n:=hle;have h4:¬ k < n:=hnlt;omega
  subst e
  exact fin p C.perm hs C.up
end
end SP
namespace Srt
open PySem PySem.W PySem.Calls PyProof.Rows
def outV(z:Nat->Int)(vs:List Value):List Value:=if vs.length < 2 then vs else (SP.run (SP.eP z) (kas_sort vs.length)).toList.map fun i=>vs.getD i Value.none
theorem outV_len(z:Nat->Int)(vs:List Value):(outV z vs).length=vs.length:=by
 unfold outV
 split
 ·rfl
 ·rename_i h
  have:=(SP.gh (z:=z) (n:=vs.length) (by omega)).1.length_eq
  simpa using this
section
variable {prog:Program}{w:World}{A:Around}{E:Value->Shared->Prop}{s:Shared}
theorem list_sortG{a:Addr}{vs:List Value}{n:Nat}{P:PySem.Fin->Shared->Prop}(ho:s.heap.get? a=some (seqObj "list" vs.toArray n))(h64:vs.length < 64)(z:Nat->Int)(κ:SortKind)
  (hk:2<=vs.length->∀h':Heap,(∀b o,b≠a->s.heap.get? b=some o->h'.get? b=some o)->∀Q':SortKind->Shared->Prop,Q' κ { s with heap:=h' }->wpAny (model prog w) A (keyKind' vs.toArray) Q' (fun _ _=>False) { s with heap:=h' })
  (hlt:2<=vs.length->∀h':Heap,(∀b o,b≠a->s.heap.get? b=some o->h'.get? b=some o)->∀i j C,i < vs.length->j < vs.length->C (SP.eP z i j) { s with heap:=h' }->kas_ask prog w A κ vs i j C { s with heap:=h' })
  (h:∀ (h':Heap) (c:Nat),(∀b o,b≠a->s.heap.get? b=some o->h'.get? b=some o)->h'.get? a=some (seqObj "list" (outV z vs).toArray c)->P (.done (.ret .none)) { s with heap:=h' }) :
  wpAny (model prog w) A (Builtin.«list.sort» ⟨[.ref a],[]⟩) P E s:=by
 rw[list_sort_plain]
 have ha:a < s.heap.objs.size:=zZ ho
 have hsl:vs.length<=sizeLine:=by rw[sizeLine_eq];omega
 refine zW (listItems_at ho rfl (zW (listUpdate_at ho rfl ?_ (by simpa using hsl) (Nat.zero_le _))))
 obtain⟨e1,ho1⟩:∃e,(s.heap.update a (Obj.mapSeq fun _=>(#[]:Array Value))).get? a=some (seqObj "list" #[] e):=⟨_,get?_update_seq ho fun _=>#[]⟩
 have kp1:∀b o,b≠a->s.heap.get? b=some o->(s.heap.update a (Obj.mapSeq fun _=>(#[]:Array Value))).get? b=some o:=fun b o hb e=>(Heap.get?_update_other _ _ (Ne.symm hb)).trans e
 refine zW (seqEpoch_at ho1 rfl (zW (wpAny_newTuple ?_ (by simpa using hsl))))
 refine zW (wpAny_newList (wpAny_holding ?_) (Nat.zero_le _))
 have ho3:(((s.heap.update a (Obj.mapSeq fun _=>(#[]:Array Value))).push (seqObj "tuple" vs.toArray 0)).push (seqObj "list" #[] 0)).get? a=some (seqObj "list" #[] e1):=zV _ (zV _ ho1)
 have kp3:∀b o,b≠a->s.heap.get? b=some o->(((s.heap.update a (Obj.mapSeq fun _=>(#[]:Array Value))).push (seqObj "tuple" vs.toArray 0)).push (seqObj "list" #[] 0)).get? b=some o:=fun b o hb e=>zV _ (zV _ (kp1 b o hb e))
 show wpAny _ A _ P E { s with heap:=((s.heap.update a (Obj.mapSeq fun _=>(#[]:Array Value))).push (seqObj "tuple" vs.toArray 0)).push (seqObj "list" #[] 0) }
 generalize ((s.heap.update a (Obj.mapSeq fun _=>(#[]:Array Value))).push (seqObj "tuple" vs.toArray 0)).push (seqObj "list" #[] 0)=h3 at ho3 kp3
 clear ho1 kp1
 dsimp only
 have fin:∀st':SortSt,(arrOf st').map (·.2)=(outV z vs).toArray->failedOf st'=none ->
   wpAny (model prog w) A (do
    let sorted:=(arrOf st').map (·.2)
    let touched:=(<- seqEpoch a) != e1
    Builtin.List.listUpdate (.ref a) fun _=>sorted
    if let some e:=failedOf st' then rule "list.sort.comparison-raised";throw e
    if touched then rule "list.sort.modified";raiseError "ValueError" "list modified during sort"
    ret .none) P E { s with heap:=h3 }:=fun st' h1 h2=>by
  dsimp only
  rw[h1,h2]
  refine zW (seqEpoch_at ho3 rfl ?_)
  refine zW (listUpdate_at ho3 rfl ?_ (Nat.zero_le _) (by show (outV z vs).toArray.size<=_;rw[zH,outV_len];omega))
  obtain⟨c,hc⟩:∃c,(h3.update a (Obj.mapSeq fun _=>(outV z vs).toArray)).get? a=some (seqObj "list" (outV z vs).toArray c):=⟨_,get?_update_seq ho3 fun _=>(outV z vs).toArray⟩
  have q:=h _ c (fun b o hb e=>(Heap.get?_update_other _ _ (Ne.symm hb)).trans (kp3 b o hb e)) hc
  simp only[bne_self_eq_false,Bool.false_eq_true,if_false]
  exact zX q
 by_cases h2:vs.toArray.size < 2
 ·rw[if_pos h2,if_pos h2]
  refine zW (zX ?_)
  rw[StateT.run_pure]
  refine zW (zX (fin _ ?_ rfl))
  have h2':vs.length < 2:=by simpa using h2
  unfold outV
  rw[if_pos h2']
  show ((vs.toArray.zip vs.toArray).map (·.2))=vs.toArray
  apply Array.toList_inj.mp
  simp only[Array.toList_map,Array.toList_zip]
  exact List.map_snd_zip (zzA _)
 ·rw[if_neg h2,if_neg h2]
  have h2':2<=vs.length:=by
   have:¬ vs.length < 2:=by simpa using h2
   omega
  refine zW (wpAny_mono (hk h2' h3 kp3 (fun κ' s'=>κ'=κ/\s'={ s with heap:=h3 }) ⟨rfl,rfl⟩) (fun κ' s' hs=>?_) fun _ _ x=>x.elim)
  obtain⟨rfl,rfl⟩:=hs
  refine zW (wpAny_mono (kat_run (Q:=fun st' s'=>s'={ s with heap:=h3 }/\(arrOf st').map (·.2)=(outV z vs).toArray/\failedOf st'=none) (G:=fun p s'=>s'={ s with heap:=h3 }/\p=SP.run (SP.eP z) (kas_sort vs.length))
   rfl h2' h64 (fun p st' s' a1 a2 a3 a4=>⟨a4.1,?_,a3⟩) (SP.wp_run (hlt h2' h3 kp3) (kas_sort vs.length) (SP.HS (by omega)) ⟨rfl,rfl⟩)) ?_ fun _ _ e=>e)
  ·rw[kat_snds rfl a2,a4.2]
   unfold outV
   rw[if_neg (by omega)]
  ·rintro⟨⟨⟩,st'⟩ s' ⟨hs,h4,h5⟩
   subst hs
   exact fin st' h4 h5
def Coll(h:Heap)(l:Addr)(vs:List Value):Prop:=∃ (o:Obj) (T:String) (n:Nat),(T="list"\/T="tuple")/\h.get? l=some o/\o.cls=.type T/\o.data=.seq vs.toArray n
theorem collectC{l:Addr}{vs:List Value}{Q:List Value->Shared->Prop}(hl:Coll s.heap l vs)
  (h:Q vs { s with heap:=(s.heap.push (seqObj "list" #[] 0)).update s.heap.objs.size (Obj.mapSeq (·++vs.toArray)) }) (hsz:vs.length<=sizeLine):wpAny (model prog w) A (collect (.ref l)) Q E s:=by
 obtain⟨o,T,n,hT,ho,hc,hd⟩:=hl
 unfold collect
 refine zW (wpAny_runValue (codeAny_builtin entry_proto_collect' ?_))
 show wpAny _ _ (do again (.builtin "list.__iadd__" ⟨[<- newList [],.ref l],[]⟩)) _ _ s
 refine zW (wpAny_newList (zX ⟨Code.quiet_builtin _ (by decide +kernel),codeAny_builtin entry_list_iadd' ?_⟩))
 show wpAny _ _ (Builtin.List.listExtendWith (.ref s.heap.objs.size) (.ref l) (.ref s.heap.objs.size)) _ _ { s with heap:=s.heap.push (seqObj "list" #[] 0) }
 unfold Builtin.List.listExtendWith
 have ho':(s.heap.push (seqObj "list" #[] 0)).get? l=some o:=zV _ ho
 refine zW (wpAny_typeOf (T:=T) ⟨o,ho',hc⟩ ?_)
 rw[if_pos (by rcases hT with rfl|rfl<;>simp)]
 refine zW (listItems_at ho' hd (zW (listItems_at (xs:=#[]) (n:=0) (zY _ rfl) rfl ?_)))
 rw[if_neg (by simp)]
 refine zW (listUpdate_at (xs:=#[]) (n:=0) (zY _ rfl) rfl ?_ (Nat.zero_le _) (by show (#[]++vs.toArray).size<=sizeLine+1;simp only[Array.size_append,zH,List.length_nil];omega))
 refine zX ?_
 refine zW (wpAny_load (get?_update_seq (zY _ rfl) _) ?_)
 show wpAny _ _ (pure ((#[]:Array Value)++vs.toArray).toList) Q E _
 rw[show ((#[]:Array Value)++vs.toArray).toList=vs by simp]
 exact zX h
theorem sortedG{l:Addr}{vs:List Value}{Q:Value->Shared->Prop}(hl:Coll s.heap l vs)(h64:vs.length < 64)(z:Nat->Int)(κ:SortKind)
  (hk:2<=vs.length->∀h':Heap,(∀b o,s.heap.get? b=some o->h'.get? b=some o)->∀Q':SortKind->Shared->Prop,Q' κ { s with heap:=h' }->wpAny (model prog w) A.in1.in1 (keyKind' vs.toArray) Q' (fun _ _=>False) { s with heap:=h' })
  (hlt:2<=vs.length->∀h':Heap,(∀b o,s.heap.get? b=some o->h'.get? b=some o)->∀i j C,i < vs.length->j < vs.length->C (SP.eP z i j) { s with heap:=h' }->kas_ask prog w A.in1.in1 κ vs i j C { s with heap:=h' })
  (h:∀ (h':Heap) (D:Addr) (c:Nat),(∀b o,s.heap.get? b=some o->h'.get? b=some o)->s.heap.objs.size<=D->h'.get? D=some (seqObj "list" (outV z vs).toArray c)->Q (.ref D) { s with heap:=h' }) :
  wpAny (model prog w) A (call (.builtin "sorted") [.ref l]) Q E s:=by
 have hsl:vs.length<=sizeLine:=by rw[sizeLine_eq];omega
 refine Calls.call_function_entry kind_sorted plain_sorted entry_sorted (args_sorted1 _) ?_
 unfold Builtin.«sorted»
 refine zW (m:=checkCount "sorted" 1 1 _) (zX (zW (collectC hl ?_ hsl)))
 refine zW (wpAny_newList ?_ (by simpa using hsl))
 have hsz:((s.heap.push (seqObj "list" #[] 0)).update s.heap.objs.size (Obj.mapSeq (·++vs.toArray))).objs.size=s.heap.objs.size+1:=by rw[Heap.size_update,size_push']
 have kp:∀b o,s.heap.get? b=some o->(((s.heap.push (seqObj "list" #[] 0)).update s.heap.objs.size (Obj.mapSeq (·++vs.toArray))).push (seqObj "list" vs.toArray 0)).get? b=some o:=fun b o e =>
  zV _ ((Heap.get?_update_other _ _ (Nat.ne_of_gt (zZ e))).trans (zV _ e))
 have hoD:(((s.heap.push (seqObj "list" #[] 0)).update s.heap.objs.size (Obj.mapSeq (·++vs.toArray))).push (seqObj "list" vs.toArray 0)).get? (s.heap.objs.size+1)=some (seqObj "list" vs.toArray 0):=by
  rw[<- hsz];exact zY _ rfl
 show wpAny _ _ _ _ _ { s with heap:=((s.heap.push (seqObj "list" #[] 0)).update s.heap.objs.size (Obj.mapSeq (·++vs.toArray))).push (seqObj "list" vs.toArray 0) }
 rw[hsz]
 generalize ((s.heap.push (seqObj "list" #[] 0)).update s.heap.objs.size (Obj.mapSeq (·++vs.toArray))).push (seqObj "list" vs.toArray 0)=h1 at kp hoD
 have kk:∀h':Heap,(∀b o,b≠s.heap.objs.size+1->h1.get? b=some o->h'.get? b=some o)->∀b o,s.heap.get? b=some o->h'.get? b=some o:=fun h' q b o e=>q b o (zzB (Nat.lt_succ_of_lt (zZ e))) (kp b o e)
 refine zW (wpAny_holding (wpAny_call_entry slot_list_sort ⟨_,hoD,rfl⟩ entry_list_sort (list_sortG hoD h64 z κ (fun a h' q=>hk a h' (kk h' q)) (fun a h' q=>hlt a h' (kk h' q)) fun h' c q e=>⟨_,rfl,?_⟩) (args_list_sort _)))
 exact zX ⟨_,rfl,h h' _ c (kk h' q) (by omega) e⟩
end
end Srt
namespace Dl
open PySem L2 PySem.Spec PyProof.Rows
section
variable {X:Cx}{HF₀ H₀:Hp}{e e2:Expr}{es:List Expr}{pos apos cpos px p:Pos}{x:Str}{fs:Env->Option (List D)}
def v8(i:Nat)(fz:List Nat)(f:Env->Option (List D)):aj->Option Out:=fun ρ=>(f (bY (hand fz 0 ρ))).bind fun us=>nI i (fun ds=>if ds.length+us.length<=sizeLine then some (ds++us) else none) (hand fz 0 ρ)
theorem DC(i:Nat)(fz:List Nat){f:Env->Option (List D)}(hN:X.N[i]?=some x)(hv:Kq X.env.scope x)(h:DF X e f)(hd:(x == ("__debug__":Str))=false:=by decide)(hcd:(x == ("__classdict__":Str))=false:=by decide)
  (hfew:((backTo cpos (starEach [e] X.env)).all (fun x=>!x.1)&&(backToKw cpos (keywordEach [] X.env)).all (fun x=>x.1.isSome)&&decide ([e].length+([]:List Keyword).length+(if ([]:List Keyword).isEmpty then 0 else 1) < 30))=true:=by rfl)
  (hline:(apos.endLine == cpos.line)=true:=by rfl) (hs:starEach [e] X.env=(false,eval e X.env)::starEach [] X.env:=by rfl) :
  DS X HF₀ H₀ (.Expr (.Call (.Attribute (.Name x px) "extend" apos) [e] [] cpos) pos) (v8 i fz f) :=
 eC (pO (yT PySem.F.plainAttrs_list PySem.F.slot_list_extend PySem.F.type_list_extend Ef (qT hN hv hd hcd) (dg h iS hs) rfl hfew hline hs rfl)) fun E σ H ⟨HF,ρ,o,S,hg,q⟩=>by
  obtain⟨us,h1,hg⟩:=bs hg
  obtain⟨ds,es,h2,h3,rfl⟩:=lz hg
  obtain⟨HF1,s1,S1⟩:=S.hand fz
  obtain⟨a,vs,e1,e2,e3,e5,e4⟩:=S1.own i ds h2
  refine⟨.ref a,e1,.inl ⟨rfl,vs,hZ.of e2⟩,HF1,_,us,S1.gr.fh,S1.frz,h1,fun b ws H' HF' G hb hf h' r=>?_⟩
  have S2:=S1.grow G
  obtain⟨a',vs',f1,f2,f3,f5,f4⟩:=S2.own i ds h2
  rw[e1] at f1;cases f1
  split at h3
  ·rename_i hz
   cases h3
   exact⟨a,b,vs',ws,rfl,rfl,f2,h',by rw[f4.length,r.length];exact hz,q σ _ HF' (S2.mut h2 e1 f2 (f4.append r)) (s1.trans G.ff)⟩
  ·cases h3
def B0(ds:List D)(k:Int)(d:D):List D:=let j:=if k < 0 then (k+(ds.length:Int)).toNat else min k.toNat ds.length;ds.take j++d::ds.drop j
def Ji:V->List V->Hp->VK->Prop:=fun x vs H Q=>∃l xs k y,x=.ref l/\vs=[.int k,y]/\H l=some (.lst xs)/\xs.length < sizeLine/\-(2 ^ 62)<=k/\k < 2 ^ 62 /\
 Q .non (upd H l (.lst (xs.take (if k < 0 then (k+(xs.length:Int)).toNat else min k.toNat xs.length)++y::xs.drop (if k < 0 then (k+(xs.length:Int)).toNat else min k.toNat xs.length))))
theorem Dr:NP X "list.insert" Ji:=by
 intro pins s σ H x vs v us Q I rx rv h
 obtain⟨l,xs,k,y,rfl,rfl,hH,hz,k1,k2,q⟩:=h
 cases rx
 obtain⟨u1,u2,rfl,⟨t,rfl⟩,ru⟩:=L2.aH.two rv
 obtain⟨z,its,n,r,hl,e⟩:=I.lstM hH
 have hfit:¬(!Builtin.List.listFitsIndex k)=true:=by
  have:Builtin.List.listFitsIndex k=true:=by
   unfold Builtin.List.listFitsIndex
   simp only[zF,zJ]
   omega
  rw[this];simp
 refine call_meets F.slot_list_insert ⟨_,e,rfl⟩ F.entry_list_insert (F.args_list_insert_3 _ _ _) (AutoListH.list_insert_list_int_val_1 l its.toArray n k t u2 hfit (by rw[zH];omega)) ⟨e,?_⟩
 have hlen:its.length=xs.length:=hl.symm
 refine⟨.non,_,I.lset (its':=its.take (if k < 0 then (k+(xs.length:Int)).toNat else min k.toNat xs.length)++u2::its.drop (if k < 0 then (k+(xs.length:Int)).toNat else min k.toNat xs.length)) hH e ?_ ((r.take _).append (.cons ru (r.drop _))) ?_,rfl,q⟩
 ·dsimp only
  rw[zH,hlen]
  apply Array.toList_inj.mp
  simp
  exact List.take_of_length_le (by rw[List.length_drop,hlen];exact zzA _)
 ·rw[zN,zL,List.length_take,List.length_drop]
  omega
def Fp(i:Nat)(fz:List Nat)(fk f:Env->Option D):aj->Option Out:=fun ρ=>(fk (bA ρ)).bind fun kd=>match kd with
 | .int k=>(lR fz f ρ).bind fun p=>nI i (fun ds=>if BO k=true/\ds.length < sizeLine then some (B0 ds k p.1) else none) p.2
 | _=>none
theorem Ea(i:Nat)(fz:List Nat){fk f:Env->Option D}(hN:X.N[i]?=some x)(hv:Kq X.env.scope x)(hk:DE X e fk)(h:DE X e2 f)(hd:(x == ("__debug__":Str))=false:=by decide)(hcd:(x == ("__classdict__":Str))=false:=by decide)
  (hfew:((backTo cpos (starEach [e,e2] X.env)).all (fun x=>!x.1)&&(backToKw cpos (keywordEach [] X.env)).all (fun x=>x.1.isSome)&&decide ([e,e2].length+([]:List Keyword).length+(if ([]:List Keyword).isEmpty then 0 else 1) < 30))=true:=by rfl)
  (hline:(apos.endLine == cpos.line)=true:=by rfl) (hs:starEach [e,e2] X.env=(false,eval e X.env)::starEach [e2] X.env:=by rfl) (hs2:starEach [e2] X.env=(false,eval e2 X.env)::starEach [] X.env:=by rfl) :
  DS X HF₀ H₀ (.Expr (.Call (.Attribute (.Name x px) "insert" apos) [e,e2] [] cpos) pos) (Fp i fz fk f) :=
 eC (pO (yT PySem.F.plainAttrs_list PySem.F.slot_list_insert PySem.F.type_list_insert Dr (qT hN hv hd hcd) (dg hk (dg h iS hs2) hs) rfl hfew hline hs (by rw[hs2];rfl))) fun E σ H ⟨HF,ρ,o,S,hg,q⟩=>by
  obtain⟨kd,hkd,hg⟩:=bs hg
  cases kd<;>try cases hg
  rename_i k
  obtain⟨⟨d,ρ'⟩,h1,hg⟩:=bs hg
  obtain⟨ds,es,h2,h3,rfl⟩:=lz hg
  have hown:∃ds',ρ[i]?=some (.own ds'):=by
   obtain⟨d1,_,h1⟩:=bs h1
   split at h1
   ·cases h1;exact⟨ds,h2⟩
   ·obtain⟨d2,_,h1⟩:=ag h1
    cases h1
    rw[iV] at h2
    obtain⟨s,hs,h2⟩:=ag h2
    cases s with
    | non=>split at h2<;>cases h2
    | val _=>split at h2<;>cases h2
    | own xs=>exact⟨xs,hs⟩
  obtain⟨ds',hown⟩:=hown
  obtain⟨a,vs,e1,e2,e3,e5,e4⟩:=S.own i ds' hown
  refine⟨.ref a,e1,.inl ⟨rfl,vs,hZ.of e2⟩,H,bA ρ,_,.refl _,S.all,hkd,fun vk Hk HFk Gk rk=>?_⟩
  simp only[Rep] at rk
  subst rk
  refine nG (S.step Gk.hh) h1 fun v H' HF' s1 S' sh r=>?_
  obtain⟨a',vs',f1,f2,f3,f5,f4⟩:=S'.own i ds h2
  rw[e1] at f1;cases f1
  split at h3
  ·rename_i hz
   cases h3
   have ok:=hz.1
   unfold BO at ok
   rw[zF] at ok
   refine⟨a,vs',k,v,rfl,rfl,f2,by rw[f4.length];exact hz.2,of_decide_eq_true ok.1,of_decide_eq_true ok.2,q σ _ HF' (S'.mut h2 e1 f2 ?_) s1⟩
   unfold B0
   rw[f4.length]
   exact (f4.take _).append (ar.cons r (f4.drop _))
  ·cases h3
def uu:D->D->Option (List D)
 | .list xs,.list ys=>small (xs++ys)
 | _,_=>none
def Hh(K:W.Frag):R2:=fun x y H Q=>∃a b xs ys,x=.ref a/\y=.ref b/\hZ K H a xs/\hZ K H b ys/\xs.length+ys.length<=sizeLine/\∀p,H p=none->Q (.ref p) (upd H p (.lst (xs++ys)))
theorem yz:jm X (binaryOp .Add) (Hh X.K):=by
 intro pins s σ H x y v u Q I rx ry h
 obtain⟨a,b,xs,ys,rfl,rfl,ha,hb,hz,q⟩:=h
 cases rx
 cases ry
 obtain⟨its,r1,p1,_⟩:=I.list ha
 obtain⟨its2,r2,p2,_⟩:=I.list hb
 obtain⟨⟨cls,dd,data,sl⟩,ho,hc,n,hd⟩:=id p1.isList
 obtain⟨⟨cls2,dd2,data2,sl2⟩,ho2,hc2,n2,hd2⟩:=id p2.isList
 simp only at hc hd hc2 hd2
 subst hc hd hc2 hd2
 refine concat_meets ⟨_,ho,rfl⟩ ⟨_,ho2,rfl⟩ noFill_list_add seq_list_add PySem.F.slot_list_add PySem.F.entry_list_add (PySem.F.args_list_add_2 _ _) (list_addW a b its.toArray its2.toArray n n2 dd dd2 sl sl2 (by rw[zH,zH,<- r1.length,<- r2.length];exact hz)) ⟨ho,ho2,?_⟩
 have e:its.toArray++its2.toArray=(its++its2).toArray:=by simp
 rw[e]
 exact⟨.ref s.heap.objs.size,_,I.lnew (t':=s.toks) (r1.append r2) (by rw[zN];exact hz),rfl,q _ I.fresh⟩
def P5(g:D->D->Option (List D))(f1 f2:Env->Option D):Env->Option (List D):=fun ρ=>(f1 ρ).bind fun x=>(f2 ρ).bind fun y=>g x y
theorem Mf{a b:Expr}{fa fb:Env->Option D}(ha:DE X a fa)(hb:DE X b fb):DF X (.BinOp a .Add b pos) (P5 uu fa fb):=bu (KH yz ha hb) fun σ H Q ⟨HF,ρ,d,sm,eo,hf,q⟩=>by
 obtain⟨x,hx,hf⟩:=bs hf
 obtain⟨y,hy,hg⟩:=bs hf
 refine⟨HF,ρ,x,sm,eo,hx,fun v1 H1 HF1 g1 r1=>⟨HF1,ρ,y,g1.fh,eo.mono g1.ff,hy,fun v2 H2 HF2 g2 r2=>?_⟩⟩
 have r1:=r1.mono g2.ff
 cases x<;>cases y<;>simp only[uu] at hg<;>try cases hg
 rename_i xs ys
 obtain⟨rfl,hz⟩:=eN hg
 simp only[Rep] at r1 r2
 obtain⟨a,vs,rfl,ha,ra⟩:=r1
 obtain⟨b,us,rfl,hb,rb⟩:=r2
 have G:=g1.trans g2
 exact⟨a,b,vs,us,rfl,rfl,g2.fh.seq ha,g2.fh.seq hb,by rw[ra.length,rb.length,<- zN];exact hz,fun p hp=>q p _ _ HF2 (G.trans (.own G.fh hp)) (G.hh.free hp) (G.fh.free hp) aL (ra.append rb)⟩
def boolsOf:List D->Option (List Bool)
 | []=>some []
 | .bool b::r=>(boolsOf r).map (b::·)
 | _::_=>none
theorem jF:∀ {ds:List D}{bs:List Bool},boolsOf ds=some bs->ds=bs.map PyData.bool
 | [],bs,h=>by cases h;rfl
 | d::r,bs,h=>by
  cases d<;>simp only[boolsOf] at h<;>try cases h
  obtain⟨bs',h1,rfl⟩:=ag h
  rw[jF h1]
  rfl
theorem l9{K:W.Frag}{H:Hp}:∀ {bs:List Bool}{vs:List V},ar K H (bs.map PyData.bool) vs->vs=bs.map V.bl
 | [],vs,h=>h.nil_inv
 | b::bs,vs,h=>by
  obtain⟨v,r,rfl,a,c⟩:=h.cons_inv
  simp only[Rep] at a
  rw[a,l9 c]
  rfl
theorem lZ:∀ {bs:List Bool}{us:List Value},aH (bs.map V.bl) us->us=bs.map Value.bool
 | [],us,h=>by cases h;rfl
 | b::bs,us,h=>by
  cases h with
  | cons r rr=>cases r;rw[lZ rr];rfl
theorem range_all(bs:List Bool):(List.range bs.length).all (fun i=>bs.getD i false)=bs.all id:=by
 induction bs with
 | nil=>rfl
 | cons b bs ih=>rw[zL,List.range_succ_eq_map,List.all_cons,List.all_map,List.all_cons];simpa [Function.comp_def] using congrArg (b&&·) ih
theorem range_any(bs:List Bool):(List.range bs.length).any (fun i=>bs.getD i false)=bs.any id:=by
 induction bs with
 | nil=>rfl
 | cons b bs ih=>rw[zL,List.range_succ_eq_map,List.any_cons,List.any_map,List.any_cons];simpa [Function.comp_def] using congrArg (b||·) ih
theorem Be(hc:X.calm=true):d9 X (.builtin "all") (fun xs H Q=>∃ (a:Addr) (bs:List Bool),xs=[.ref a]/\hZ X.K H a (bs.map V.bl)/\Q (.bl (bs.all id)) H):=by
 intro pins s σ H xs us Q I r h
 obtain⟨a,bs,rfl,hq,q⟩:=h
 obtain⟨u,rfl,rx⟩:=vals1 r
 cases rx
 obtain⟨its,rv,pl,hz⟩:=I.list hq
 have hv:=lZ rv
 subst hv
 have hh:X.A.in1.handled=none:=I.ok.hd hc
 refine call_all_walk (wpAny_pyIter_list pl.isList ?_)
 obtain⟨o,ho,hcl,n,hd⟩:=pl.isList
 have hne:a≠s.heap.objs.size:=zzB (zZ ho)
 refine⟨_,_,_,_,_,_,fun i=>bs.getD i false,rfl,Walks.list hh s.heap.objs.size a hne (bs.map Value.bool).toArray,⟨⟨_,zY _ rfl,rfl,rfl⟩,pl.isList.push _⟩,fun i v s' Q' E' hP hQ=>?_,fun h' tk kp=>?_⟩
 ·have e:v=Value.bool (bs.getD i false):=by
   have hP:(bs.map Value.bool).toArray[i]?=some v:=hP
   rw[List.getElem?_toArray,zO] at hP
   obtain⟨b,hb,rfl⟩:=ag hP
   rw[zG,hb]
   rfl
  subst e
  exact wpAny_truthy_bool hQ
 ·refine⟨.bl (bs.all id),H,?_,?_,q⟩
  ·exact I.kept (t':=tk) fun b o' e=>kp b o' (by simp;exact zzB (zZ e)) (zV _ e)
  ·show Value.bool _=Value.bool _
   have:=range_all bs
   simp only[zH,zD]
   rw[this]
def mC:List D->Option D:=fun ds=>(oneOf ds).bind fun d=>match d with
 | .list es=>(boolsOf es).map fun bs=>.bool (bs.all id)
 | _=>none
theorem Lv(hc:X.calm=true)(B:nU X "all" (.builtin "all"))(ha:DA X [e] fs)(he:starEach [e] X.env=(false,eval e X.env)::starEach [] X.env:=by rfl):DE X (.Call (.Name "all" p) [e] [] pos) (aU mC fs) :=
 fE (Be hc) (by
  intro HF H ds vs d Q sm r hg q
  obtain⟨x,hx,hg⟩:=bs hg
  rw[dR hx] at r
  cases x<;>try cases hg
  obtain⟨bs,hb,rfl⟩:=ag hg
  obtain⟨v,r',rfl,a,b⟩:=r.cons_inv
  rw[b.nil_inv]
  simp only[Rep] at a
  obtain⟨p,us,rfl,h,rr⟩:=a
  rw[jF hb] at rr
  have:=l9 rr
  subst this
  exact⟨p,bs,rfl,sm.seq h,q _ H HF (.refl sm) (by simp[Rep])⟩) B ha (by decide) (by decide) he rfl
end
abbrev lexLt:=HT.lexLt
theorem cF:∀a:List Int,lexLt a a=false
 | []=>rfl
 | x::a=>by show HT.lexLt (x::a) (x::a)=false;rw[HT.aQ,if_pos rfl];exact cF a
theorem dh:∀ {a b c:List Int},lexLt a b=true->lexLt b c=true->lexLt a c=true
 | [],[],_,h,_=>by cases h
 | [],_::_,[],_,h=>by cases h
 | [],_::_,_::_,_,_=>rfl
 | _::_,[],_,h,_=>by cases h
 | _::_,_::_,[],_,h=>by cases h
 | x::a,y::b,z::c,h1,h2=>by
  have h1:HT.lexLt (x::a) (y::b)=true:=h1
  have h2:HT.lexLt (y::b) (z::c)=true:=h2
  show HT.lexLt (x::a) (z::c)=true
  rw[HT.aQ] at h1 h2 ⊢
  by_cases e1:x=y
  ·rw[if_pos e1] at h1
   by_cases e2:y=z
   ·rw[if_pos e2] at h2
    rw[if_pos (e1.trans e2)]
    exact dh h1 h2
   ·rw[if_neg e2] at h2
    rw[if_neg (by omega)]
    have:=of_decide_eq_true h2
    exact yB (by omega)
  ·rw[if_neg e1] at h1
   have q1:=of_decide_eq_true h1
   by_cases e2:y=z
   ·rw[if_neg (by omega)]
    exact yB (by omega)
   ·rw[if_neg e2] at h2
    have q2:=of_decide_eq_true h2
    rw[if_neg (by omega)]
    exact yB (by omega)
theorem eI:∀ {a b:List Int},lexLt a b=false->lexLt b a=false->a=b
 | [],[],_,_=>rfl
 | [],_::_,h,_=>by cases h
 | _::_,[],_,h=>by cases h
 | x::a,y::b,h1,h2=>by
  have h1:HT.lexLt (x::a) (y::b)=false:=h1
  have h2:HT.lexLt (y::b) (x::a)=false:=h2
  rw[HT.aQ] at h1 h2
  by_cases e:x=y
  ·rw[if_pos e] at h1
   rw[if_pos e.symm] at h2
   rw[e,eI h1 h2]
  ·rw[if_neg e] at h1
   rw[if_neg (fun z=>e z.symm)] at h2
   have:=of_decide_eq_false h1
   have:=of_decide_eq_false h2
   omega
def lexLe(a b:List Int):Bool:=!lexLt b a
theorem zl(a b c:List Int)(h1:lexLe a b=true)(h2:lexLe b c=true):lexLe a c=true:=by
 unfold lexLe at *
 rw[Bool.not_eq_true'] at *
 cases e:lexLt c a with
 | false=>rfl
 | true =>
  cases e1:lexLt a b with
  | true=>rw[dh e e1] at h2;cases h2
  | false =>
   have:=eI e1 h1
   subst this
   rw[e] at h2;cases h2
theorem xN(a b:List Int):(lexLe a b||lexLe b a)=true:=by
 unfold lexLe
 cases e1:lexLt b a with
 | false=>rfl
 | true =>
  cases e2:lexLt a b with
  | false=>rfl
  | true=>have:=dh e1 e2;rw[cF] at this;cases this
theorem rL{a b:List Int}(h1:lexLe a b=true)(h2:lexLe b a=true):a=b:=by
 unfold lexLe at *
 rw[Bool.not_eq_true'] at *
 exact eI h2 h1
theorem ux{α:Type}{le:α->α->Bool}(anti:∀a b,le a b=true->le b a=true->a=b):∀ {l m:List α},l.Perm m->l.Pairwise (fun a b=>le a b=true)->m.Pairwise (fun a b=>le a b=true)->l=m
 | [],m,p,_,_=>p.nil_eq
 | a::l,[],p,_,_=>by have:=p.length_eq;simp at this
 | a::l,b::m,p,h1,h2=>by
  obtain⟨h1a,h1b⟩:=List.pairwise_cons.mp h1
  obtain⟨h2a,h2b⟩:=List.pairwise_cons.mp h2
  have e:a=b:=by
   have ha:a∈b::m:=p.mem_iff.mp zE
   have hb:b∈a::l:=p.mem_iff.mpr zE
   rcases zR.mp ha with e|ha
   ·exact e
   ·rcases zR.mp hb with e|hb
    ·exact e.symm
    ·exact anti a b (h1a b hb) (h2a a ha)
  subst e
  rw[ux anti (List.perm_cons a |>.mp p) h1b h2b]
def oU(l:List (List Int)):List (List Int):=l.mergeSort lexLe
theorem Hn(l:List (List Int)):(oU l).Perm l:=List.mergeSort_perm l lexLe
theorem Me(l:List (List Int)):(oU l).Pairwise (fun a b=>lexLe a b=true):=List.pairwise_mergeSort zl xN l
theorem An{l m:List (List Int)}(p:l.Perm m)(h:l.Pairwise (fun a b=>lexLe a b=true)):l=oU m:=ux (fun _ _=>rL) (p.trans (Hn m).symm) h (Me m)
def rk(l:List (List Int))(a:List Int):Int:=((l.countP fun b=>lexLt b a:Nat):Int)
theorem w4{l:List (List Int)}{a b:List Int}(ha:a∈l):lexLt a b=decide (rk l a < rk l b):=by
 unfold rk
 have mono:∀ {a b:List Int},lexLt a b=true->(l.countP fun c=>lexLt c a)<=l.countP fun c=>lexLt c b:=fun {a b} h=>List.countP_mono_left fun c _ hc=>dh hc h
 have strict:∀ {a b:List Int}(ha:a∈l),lexLt a b=true->(l.countP fun c=>lexLt c a) < l.countP fun c=>lexLt c b:=fun {a b} ha h=>by
  have key:∀m:List (List Int),a∈m->(m.countP fun c=>lexLt c a) < m.countP fun c=>lexLt c b:=fun m hm=>by
   induction m with
   | nil=>cases hm
   | cons x m ih =>
    rw[List.countP_cons,List.countP_cons]
    have mo:(m.countP fun c=>lexLt c a)<=m.countP fun c=>lexLt c b:=List.countP_mono_left fun c _ hc=>dh hc h
    rcases zR.mp hm with e|hm
    ·subst e
     rw[cF,h]
     simp only[Bool.false_eq_true,if_false,if_true]
     omega
    ·have:=ih hm
     by_cases hx:lexLt x a=true
     ·rw[hx,dh hx h];simp only[if_true];omega
     ·have hx':lexLt x a=false:=by simpa using hx
      rw[hx']
      simp only[Bool.false_eq_true,if_false]
      split<;>omega
  exact key l ha
 cases e:lexLt a b with
 | true=>exact (yB (by have:=strict ha e;omega)).symm
 | false =>
  refine (yA ?_).symm
  cases e2:lexLt b a with
  | true=>have:=mono e2;omega
  | false=>rw[eI e e2];omega
section
variable {prog:Program}{w:World}{A:Around}{E:Value->Shared->Prop}{s:Shared}
theorem rJ{Q:Bool->Shared->Prop}:∀ {us ws:List Value}{ns ms:List Int}(i:Nat),IntsAre us ns->IntsAre ws ms->Q (lexLt ns ms) s->W.KatLex prog w A true (decide (ns.length < ms.length)) Q (us.zip ws) i s
 | [],[],_,_,i,.nil,.nil,h=>h
 | [],_::_,_,_,i,.nil,.cons _ _ _,h=>by
  show Q (decide (0 < _+1)) s
  rw[yB (Nat.succ_pos _)]
  exact h
 | _::_,[],_,_,i,.cons _ _ _,.nil,h=>by
  show Q (decide (_+1 < 0)) s
  rw[yA (Nat.not_lt_zero _)]
  exact h
 | _::us,_::ws,_,_,i,.cons n t r1,.cons m u r2,h=>by
  have h:Q (HT.lexLt (n::_) (m::_)) s:=h
  rw[HT.aQ] at h
  refine W.kat_cons (SeqAt.EqAt.int_int n t m u prog w _ _ ?_)
  cases e:(n == m) with
  | true =>
   have e':n=m:=eq_of_beq e
   rw[if_pos e'] at h
   refine W.kat_yes ?_
   have:=rJ (i+1) r1 r2 h
   simp only[zL,Nat.add_lt_add_iff_right]
   exact this
  | false =>
   have e':¬ n=m:=fun q=>by rw[q] at e;simp at e
   rw[if_neg e'] at h
   refine W.kat_no ?_
   by_cases hi:(true&&i == 0)=true
   ·rw[hi]
    exact oneLt_int h
   ·have hi':(true&&i == 0)=false:=by simpa using hi
    rw[hi']
    refine W.kat_one _ _ (lt_int ?_)
    exact h
end
def af(ns:List Int):D:=.tuple (ns.map PyData.int)
def intsOf:List D->Option (List Int)
 | []=>some []
 | .int n::r=>(intsOf r).map (n::·)
 | _::_=>none
theorem dX:∀ {ds:List D}{ns:List Int},intsOf ds=some ns->ds=ns.map PyData.int
 | [],ns,h=>by cases h;rfl
 | d::r,ns,h=>by
  cases d<;>simp only[intsOf] at h<;>try cases h
  obtain⟨ns',h1,rfl⟩:=ag h
  rw[dX h1]
  rfl
theorem bZ:∀ns:List Int,intsOf (ns.map PyData.int)=some ns
 | []=>rfl
 | n::ns=>by simp[intsOf,bZ ns]
def CS:D->Option (List Int)|.tuple ds=>(intsOf ds).bind fun ns=>if ns=[] then none else some ns|_=>none
theorem AC{d:D}{ns:List Int}(h:CS d=some ns):d=af ns/\ns≠[]:=by
 cases d<;>try cases h
 obtain⟨ms,h1,h2⟩:=bs h
 split at h2
 ·cases h2
 ·rename_i hn
  cases h2
  rw[dX h1]
  exact⟨rfl,hn⟩
theorem D7{ns:List Int}(h:ns≠[]):CS (af ns)=some ns:=by
 unfold af CS
 simp only[bZ,zA]
 rw[if_neg h]
def rowsOf:List D->Option (List (List Int))
 | []=>some []
 | d::r=>(CS d).bind fun ns=>(rowsOf r).map (ns::·)
theorem j9:∀ {ds:List D}{nss:List (List Int)},rowsOf ds=some nss->ds=nss.map af/\∀ns∈nss,ns≠[]
 | [],nss,h=>by cases h;exact⟨rfl,fun _ z=>by cases z⟩
 | d::r,nss,h=>by
  obtain⟨ns,h1,h⟩:=bs h
  obtain⟨rest,h2,rfl⟩:=ag h
  obtain⟨e,hn⟩:=AC h1
  obtain⟨e2,hn2⟩:=j9 h2
  refine⟨by rw[e,e2];rfl,fun m hm=>?_⟩
  rcases zR.mp hm with q|q
  ·subst q;exact hn
  ·exact hn2 m q
theorem mf:∀ {nss:List (List Int)},(∀ns∈nss,ns≠[])->rowsOf (nss.map af)=some nss
 | [],_=>rfl
 | ns::r,h=>by
  simp only[zI,rowsOf,D7 (h ns zE),zA,mf fun m hm=>h m (zC _ hm),zB]
structure dA(h:Heap)(v:Value)(ns:List Int):Prop where
 ex:∃ (a:Addr) (o:Obj) (its:Array Value) (n:Nat),v=.ref a/\h.get? a=some o/\o.cls=.type "tuple"/\o.data=.seq its n/\IntsAre its.toList ns
theorem dA.keep{h h':Heap}{v:Value}{ns:List Int}(r:dA h v ns)(k:∀b o,h.get? b=some o->h'.get? b=some o):dA h' v ns:=let ⟨a,o,its,n,e,e1,e2,e3,e4⟩:=r.ex;⟨a,o,its,n,e,k _ _ e1,e2,e3,e4⟩
section
variable {prog:Program}{w:World}{A:Around}{E:Value->Shared->Prop}{s:Shared}
theorem qA{h:Heap}:∀ {vs:List Value}{nss:List (List Int)},Paired (dA h) vs nss->(∀ns∈nss,ns≠[])->∃fs:List Value,W.KatTups h vs fs/\fs.length=vs.length/\∀f∈fs,∃n t,f=Value.int n t
 | _,_,.nil,_=>⟨[],trivial,rfl,fun _ z=>by cases z⟩
 | _,_,.cons (a:=v) (b:=ns) r p,hn=>by
  obtain⟨fs,h1,h2,h3⟩:=qA p fun m hm=>hn m (zC _ hm)
  obtain⟨a,o,its,n,rfl,e1,e2,e3,e4⟩:=r.ex
  cases hits:its.toList with
  | nil =>
   rw[hits] at e4
   cases e4
   exact absurd rfl (hn [] zE)
  | cons f rest =>
   rw[hits] at e4
   cases e4 with
   | cons m t e5 =>
    have h0:its[0]?=some (.int m t):=by
     have:its.toList[0]?=some (Value.int m t):=by rw[hits];rfl
     simpa using this
    exact⟨.int m t::fs,W.KatTups.cons e1 e2 e3 h0 h1,by simp[h2],fun g hg=>by
     rcases zR.mp hg with q|q
     ·exact⟨m,t,q⟩
     ·exact h3 g q⟩
theorem cX{α β:Type}{R:α->β->Prop}{d:α}{d':β}:∀ {l:List α}{m:List β}{i:Nat},Paired R l m->i < l.length->R (l.getD i d) (m.getD i d')
 | _,_,i,.nil,h=>by simp at h
 | _,_,0,.cons r _,_=>r
 | _,_,i+1,.cons _ p,h=>by simpa using cX (i:=i) (d:=d) (d':=d') p (by simpa using h)
theorem wQ{l:Addr}{vs:List Value}{nss:List (List Int)}{Q:Value->Shared->Prop}(hl:Srt.Coll s.heap l vs)(hp:Paired (dA s.heap) vs nss)(hn:∀ns∈nss,ns≠[])(h64:vs.length < 64)
  (h:∀ (h':Heap) (D:Addr) (c:Nat),(∀b o,s.heap.get? b=some o->h'.get? b=some o)->s.heap.objs.size<=D->h'.get? D=some (seqObj "list" (Srt.outV (fun i=>rk nss (nss.getD i [])) vs).toArray c)->Q (.ref D) { s with heap:=h' }) :
  wpAny (model prog w) A (call (.builtin "sorted") [.ref l]) Q E s:=by
 refine Srt.sortedG hl h64 (fun i=>rk nss (nss.getD i [])) (tuples' true) (fun h2 h' kp Q' q=>?_) (fun h2 h' kp i j C hi hj q=>?_) h
 ·have hp':Paired (dA h') vs nss:=Paired.mapP hp fun _ _ r=>r.keep kp
  obtain⟨fs,t,hlen,hf⟩:=qA hp' hn
  refine W.kat_kind (s:={ s with heap:=h' }) (T:=.type "int") t (by omega) (fun v hv=>?_) (by decide) q
  obtain⟨n,t,rfl⟩:=hf v hv
  exact W.Looks.of_pure rfl
 ·have ri:=(cX (d:=Value.none) (d':=[]) hp hi).keep kp
  have rj:=(cX (d:=Value.none) (d':=[]) hp hj).keep kp
  have hlen:=hp.length
  obtain⟨a,o,its,n,ea,e1,e2,e3,e4⟩:=ri.ex
  obtain⟨b,o',its',n',eb,f1,f2,f3,f4⟩:=rj.ex
  unfold W.kas_ask
  rw[ea,eb]
  have hmem:nss.getD i []∈nss:=by
   rw[zG,zK (by omega)]
   exact List.getElem_mem _
  have q':C (lexLt (nss.getD i []) (nss.getD j [])) { s with heap:=h' }:=by
   rw[w4 hmem]
   exact q
  refine W.kat_lt (s:={ s with heap:=h' }) e1 e3 f1 f3 ?_
  have:=rJ (prog:=prog) (w:=w) (A:=A.in1.in1) (s:={ s with heap:=h' }) 0 e4 f4 q'
  have l1:its.size=(nss.getD i []).length:=by have:=IntsAre.length e4;simpa using this
  have l2:its'.size=(nss.getD j []).length:=by have:=IntsAre.length f4;simpa using this
  rw[l1,l2]
  exact this
end
def nF{α:Type}(z:Nat->Int)(l:List α)(d:α):List α:=if l.length < 2 then l else (SP.run (SP.eP z) (W.kas_sort l.length)).toList.map fun i=>l.getD i d
theorem kN{α:Type}(l:List α)(d:α):(List.range l.length).map (fun i=>l.getD i d)=l:=by
 apply List.ext_getElem
 ·simp
 ·intro i h1 h2
  simp[h2]
theorem fK{α:Type}(z:Nat->Int)(l:List α)(d:α):(nF z l d).Perm l:=by
 unfold nF
 split
 ·exact List.Perm.refl _
 ·rename_i h
  have:=((SP.gh (z:=z) (n:=l.length) (by omega)).1).map fun i=>l.getD i d
  rw[kN] at this
  exact this
theorem CO(nss:List (List Int)):nF (fun i=>rk nss (nss.getD i [])) nss []=oU nss:=by
 refine An (fK _ _ _) ?_
 unfold nF
 split
 ·rename_i h
  match nss,h with
  | [],_=>exact List.Pairwise.nil
  | [a],_=>exact List.pairwise_singleton _ _
 ·rename_i h
  obtain⟨hp,hs⟩:=SP.gh (z:=fun i=>rk nss (nss.getD i [])) (n:=nss.length) (by omega)
  rw[List.pairwise_map] at hs ⊢
  refine hs.imp_of_mem fun {i j} hi hj hij=>?_
  have hj':j < nss.length:=by have:=hp.mem_iff.mp hj;simpa using this
  unfold lexLe
  rw[w4 (l:=nss) (a:=nss.getD j []) (by rw[zG,zK hj'];exact List.getElem_mem _)]
  simp only[Bool.not_eq_true',decide_eq_false_iff_not]
  omega
section
variable {X:Cx}
theorem mT{K:W.Frag}{HF:Hp}{ds:List D}{vs:List V}(z:Nat->Int)(r:ar K HF ds vs):ar K HF (nF z ds .none) (nF z vs .non):=by
 unfold nF
 rw[r.length]
 split
 ·exact r
 ·rename_i h
  obtain⟨hp,_⟩:=SP.gh (z:=z) (n:=ds.length) (by omega)
  have key:∀l:List Nat,(∀i∈l,i < ds.length)->ar K HF (l.map fun i=>ds.getD i .none) (l.map fun i=>vs.getD i .non):=fun l=>by
   induction l with
   | nil=>exact fun _=>ar.nil
   | cons i l ih =>
    intro hl
    have hi:=hl i zE
    obtain⟨v,e1,e2⟩:=r.getD (zK hi)
    refine ar.cons ?_ (ih fun j hj=>hl j (zC _ hj))
    dsimp only
    rw[zG,zG,e1,zK hi]
    exact e2
  exact key _ fun i hi=>by have:=hp.mem_iff.mp hi;simpa using this
theorem nB{vs:List V}{us:List Value}(z:Nat->Int)(r:aH vs us):aH (nF z vs .non) (Srt.outV z us):=by
 unfold nF Srt.outV
 rw[r.length]
 split
 ·exact r
 ·rename_i h
  obtain⟨hp,_⟩:=SP.gh (z:=z) (n:=us.length) (by omega)
  have key:∀l:List Nat,(∀i∈l,i < vs.length)->aH (l.map fun i=>vs.getD i .non) (l.map fun i=>us.getD i Value.none):=fun l=>by
   induction l with
   | nil=>exact fun _=>.nil
   | cons i l ih =>
    intro hl
    have hi:=hl i zE
    obtain⟨v,e1,e2⟩:=r.get (zK hi)
    refine .cons ?_ (ih fun j hj=>hl j (zC _ hj))
    dsimp only
    rw[zG,zG,e1,zK hi]
    exact e2
  exact key _ fun i hi=>by have:=hp.mem_iff.mp hi;rw[r.length];simpa using this
theorem Ju(z:Nat->Int)(nss:List (List Int)):nF z (nss.map af) .none=(nF z nss []).map af:=by
 unfold nF
 rw[zD]
 split
 ·rfl
 ·rename_i h
  rw[zM]
  obtain⟨hp,_⟩:=SP.gh (z:=z) (n:=nss.length) (by omega)
  refine yJ fun i hi=>?_
  have hi':i < nss.length:=by have:=hp.mem_iff.mp hi;simpa using this
  simp[hi']
theorem iz{pins:List (Addr×Obj)}{σ:L2.St}{H HF:Hp}{s:Shared}(I:Inv X pins σ H s)(sm:aR HF H):∀ {nss:List (List Int)}{vs:List V}{us:List Value},ar X.K HF (nss.map af) vs->aH vs us->Paired (dA s.heap) us nss
 | [],_,_,h,r=>by rw[h.nil_inv] at r;cases r;exact .nil
 | ns::nss,_,_,h,r=>by
  obtain⟨v,vr,rfl,a,b⟩:=h.cons_inv
  cases r with
  | cons r rr =>
   refine .cons ?_ (iz I sm b rr)
   unfold af at a
   simp only[Rep] at a
   obtain⟨p,ws,rfl,hs,rw'⟩:=a
   cases r
   obtain⟨its,rv,⟨o,ho,hc,n,hd⟩,_⟩:=I.tuple (aG sm hs)
   have:ws=ns.map V.int:=by
    have key:∀ {ns:List Int}{ws:List V},ar X.K HF (ns.map PyData.int) ws->ws=ns.map V.int:=fun {ns}=>by
     induction ns with
     | nil=>exact fun h=>h.nil_inv
     | cons n ns ih =>
      intro ws h
      obtain⟨v,r,rfl,a,b⟩:=h.cons_inv
      simp only[Rep] at a
      rw[a,ih b]
      rfl
    exact key rw'
   subst this
   exact⟨p,o,its.toArray,n,rfl,ho,hc,hd,intsAre_of rv⟩
theorem nL:d9 X (.builtin "sorted") (fun xs H Q=>∃ (HF:Hp) (a:Addr) (vs:List V) (nss:List (List Int)),xs=[.ref a]/\aR HF H/\(hZ X.K HF a vs\/jY X.K HF a vs)/\ar X.K HF (nss.map af) vs/\(∀ns∈nss,ns≠[])/\nss.length < 64 /\
  ∀ (Dn:Addr) (us:List V),H Dn=none->ar X.K HF ((oU nss).map af) us->Q (.ref Dn) (upd H Dn (.lst us))):=by
 intro pins s σ H xs us Q I r h
 obtain⟨HF,a,vs,nss,rfl,sm,hq,rr,hn,h64,q⟩:=h
 obtain⟨u,rfl,rx⟩:=vals1 r
 cases rx
 obtain⟨its,rv,pl,hz⟩:∃its:List Value,aH vs its/\Srt.Coll s.heap a its/\vs.length<=sizeLine:=by
  rcases hq with hq|hq
  ·obtain⟨its,rv,pl,hz⟩:=I.list (sm.seq hq)
   obtain⟨o,ho,hc,n,hd⟩:=pl.isList
   exact⟨its,rv,⟨o,"list",n,.inl rfl,ho,hc,hd⟩,hz⟩
  ·obtain⟨its,rv,pl,hz⟩:=I.tuple (aG sm hq)
   obtain⟨o,ho,hc,n,hd⟩:=(show s.heap.IsTuple a its.toArray from pl)
   exact⟨its,rv,⟨o,"tuple",n,.inr rfl,ho,hc,hd⟩,hz⟩
 have hl1:=rr.length
 rw[zD] at hl1
 refine wQ pl (iz I sm rr rv) hn (by have:=rv.length;omega) fun h' Dn c kp hD e=>?_
 have hv:=nB (fun i=>rk nss (nss.getD i [])) rv
 have hr:=mT (fun i=>rk nss (nss.getD i [])) rr
 rw[Ju,CO] at hr
 refine⟨.ref Dn,_,I.laid (t':=s.toks) (o:=.lst (nF (fun i=>rk nss (nss.getD i [])) vs .non)) kp hD ⟨?_,_,c,hv,e⟩,rfl,q Dn _ (I.hok.fresh hD) hr⟩
 rw[(fK _ _ _).length_eq]
 exact hz
def hU:List D->Option (List D):=fun ds=>(oneOf ds).bind fun d=>match d with
 | .list es=>(rowsOf es).bind fun nss=>if nss.length < 64 then some ((oU nss).map af) else none
 | .tuple es=>(rowsOf es).bind fun nss=>if nss.length < 64 then some ((oU nss).map af) else none
 | _=>none
variable {e:Expr}{fs:Env->Option (List D)}{p pos:Pos}
theorem C8(B:nU X "sorted" (.builtin "sorted"))(ha:DA X [e] fs)(he:starEach [e] X.env=(false,eval e X.env)::starEach [] X.env:=by rfl):DF X (.Call (.Name "sorted" p) [e] [] pos) (lX hU fs) :=
 wU nL (by
  intro HF H ds vs d Q sm r hg q
  obtain⟨x,hx,hg⟩:=bs hg
  rw[dR hx] at r
  have key:∀ (b:Bool) (es:List D),ar X.K HF [if b then .tuple es else .list es] vs->((rowsOf es).bind fun nss=>if nss.length < 64 then some ((oU nss).map af) else none)=some d->(∃ (HF:Hp) (a:Addr) (us:List V) (nss:List (List Int)),vs=[.ref a]/\aR HF H/\(hZ X.K HF a us\/jY X.K HF a us)/\ar X.K HF (nss.map af) us/\(∀ns∈nss,ns≠[])/\nss.length < 64/\∀ (Dn:Addr) (ws:List V),H Dn=none->ar X.K HF ((oU nss).map af) ws->Q (.ref Dn) (upd H Dn (.lst ws))):=fun b es r hg=>by
   obtain⟨nss,hb,hg⟩:=bs hg
   split at hg
   ·rename_i h64
    cases hg
    obtain⟨v,r',rfl,a,e0⟩:=r.cons_inv
    rw[e0.nil_inv]
    obtain⟨e1,e2⟩:=j9 hb
    obtain⟨p,us,rfl,h,rr⟩:∃p us,v=.ref p/\(hZ X.K HF p us\/jY X.K HF p us)/\ar X.K HF es us:=by
     cases b
     ·simp only[Bool.false_eq_true,if_false,Rep] at a
      obtain⟨p,us,rfl,h,rr⟩:=a
      exact⟨p,us,rfl,.inl h,rr⟩
     ·simp only[if_true,Rep] at a
      obtain⟨p,us,rfl,h,rr⟩:=a
      exact⟨p,us,rfl,.inr h,rr⟩
    rw[e1] at rr
    exact⟨HF,p,us,nss,rfl,sm,h,rr,e2,h64,fun Dn ws hD hr=>q Dn ws _ HF (.own sm hD) hD (sm.free hD) aL hr⟩
   ·cases hg
  cases x<;>try cases hg
  ·exact key false _ r hg
  ·exact key true _ r hg) B ha (by decide) (by decide) he rfl
end
end Dl
namespace En
open PySem PyProof.Rows
open AutoSeq1 (wpAny_loadPart')
section
variable {prog:Program}{w:World}{A:Around}{E:Value->Shared->Prop}{s:Shared}
theorem nextT_item{j t:Addr}{k:Nat}{its:Array Value}{v:Value}{Q:Value->Shared->Prop}(hj:s.heap.IsTupleIter j t k)(ht:s.heap.IsTuple t its)(hv:its[k]?=some v)
  (hQ:∀g,g.IsTupleIter j t (k+1)->Heap.SameBut j s.heap g->Q v { s with heap:=g }):wpAny (model prog w) A (Builtin.SmallTypes.nextOf (.ref j)) Q E s:=by
 obtain⟨oj,gj,cj,dj⟩:=id hj
 obtain⟨ot,gt,_,nt,dt⟩:=ht
 unfold Builtin.SmallTypes.nextOf
 refine zW (wpAny_callSpecial?_slot (name:=Str.ofString "__next__") hj.typeIs F.slot_tuple_iterator_next (wpAny_call_entry F.slot_tuple_iterator_next hj.typeIs F.entry_tuple_iterator_next ?_ (F.args_tuple_iterator_next_1 _)))
 refine zW (m:=field (.ref j) 0) (wpAny_field gj dj (x:=.ref t) rfl ?_)
 show wpAny _ _ (if (Value.ref t == Value.none)=true then _ else _) _ _ s
 rw[if_neg (show ¬ ((Value.ref t == Value.none)=true) by exact Bool.false_ne_true)]
 refine zW (m:=field (.ref j) 1) (wpAny_field gj dj (x:=.int k 0) rfl ?_)
 refine zW (m:=seqItems? (.ref t)) (wpAny_seqItems gt dt ?_)
 simp only[yH,hv]
 refine zW (wpAny_setField gj dj (by simp) (zX ⟨v,rfl,zX (hQ _ ⟨_,Heap.get?_update_self _ gj (Obj.isFreed_of_fields (Obj.data_mapFields dj _)),(Obj.cls_mapFields ..).trans cj,?_⟩ (Heap.SameBut.update ..))⟩))
 rw[Obj.data_mapFields dj];simp[rawInt]
theorem nextT_end{j t:Addr}{k:Nat}{its:Array Value}{Q:Value->Shared->Prop}(hh:A.handled=none)(hj:s.heap.IsTupleIter j t k)(ht:s.heap.IsTuple t its)(hv:its[k]?=none)
  (hE:∀g x,Heap.ExtBut j s.heap g->(∃o,g.get? x=some o/\o.cls=.type "StopIteration")->E (.ref x) { s with heap:=g }):wpAny (model prog w) A (Builtin.SmallTypes.nextOf (.ref j)) Q E s:=by
 obtain⟨oj,gj,cj,dj⟩:=id hj
 obtain⟨ot,gt,_,nt,dt⟩:=ht
 unfold Builtin.SmallTypes.nextOf
 refine zW (wpAny_callSpecial?_slot (name:=Str.ofString "__next__") hj.typeIs F.slot_tuple_iterator_next (wpAny_call_entry F.slot_tuple_iterator_next hj.typeIs F.entry_tuple_iterator_next ?_ (F.args_tuple_iterator_next_1 _)))
 refine zW (m:=field (.ref j) 0) (wpAny_field gj dj (x:=.ref t) rfl ?_)
 show wpAny _ _ (if (Value.ref t == Value.none)=true then _ else _) _ _ s
 rw[if_neg (show ¬ ((Value.ref t == Value.none)=true) by exact Bool.false_ne_true)]
 refine zW (m:=field (.ref j) 1) (wpAny_field gj dj (x:=.int k 0) rfl ?_)
 refine zW (m:=seqItems? (.ref t)) (wpAny_seqItems gt dt ?_)
 simp only[yH,hv]
 refine zW (wpAny_rule (zW (wpAny_setField gj dj (by simp) (zW (m:=newExc (.type "StopIteration") []) ?_))))
 simp only[newExc,newTuple]
 refine zW (wpAny_newObj_type (zW (m:=firstArgMember _ _) (wpAny_of_eq (a:=Value.none) (by first|rfl|(simp only[firstArgMember];rfl)) ?_)) (by size_fits))
 refine wpAny_newObj_type ?_ (by size_fits);simp only[raiseNew]
 refine zW (wpAny_handled ?_)
 first|rw[show A.in1.handled=none from hh]|rw[hh]
 exact zW (zX (wpAny_throw (hE _ _ (((Heap.SameBut.update ..).extBut.push _).push _) ⟨_,zY _ rfl,rfl⟩)))
theorem meets_enumT(t:Addr)(its:Array Value)(n:Nat)(dd:Option Addr)(sl:Array (Option Value)) :
  Meets (Builtin.«enumerate.__new__» ⟨[.type "enumerate",.ref t],[]⟩) (fun _ R s=>s.heap.get? t=some { cls:=.type "tuple",dict:=dd,data:=.seq its n,slots:=sl } /\
   R (.ok (.ret (.ref (s.heap.push { cls:=.type "tuple_iterator",data:=.fields #[.ref t,.int 0 0] }).objs.size)))
    { s with heap:=(s.heap.push { cls:=.type "tuple_iterator",data:=.fields #[.ref t,.int 0 0] }).push { cls:=.type "enumerate",data:=.fields #[.none,.bool false,.ref s.heap.objs.size,rawInt 0,.none,.none] } }) :=
 .of_wp fun prog w A R s h=>by
  obtain⟨hp,g,d,tk,os⟩:=s
  obtain⟨hl,h⟩:=h
  have hsub:=sub_enumerate
  have hL:Heap.IsTuple (Shared.heap ⟨hp,g,d,tk,os⟩) t its:=⟨_,hl,rfl,n,rfl⟩
  wp_walk using wpAny_loadPart' hl
  refine wpAny_stack_any fun st=>zX ?_
  split
  ·rename_i c _ _ _ _ _
   cases (c == Value.type "enumerate")
   ·wp_walk using wpAny_loadPart' hl,wpAny_pyIter_tuple hL
    exact⟨_,rfl,h⟩
   ·wp_walk using wpAny_loadPart' hl,wpAny_pyIter_tuple hL
    exact⟨_,rfl,h⟩
  ·wp_walk using wpAny_loadPart' hl,wpAny_pyIter_tuple hL
   exact⟨_,rfl,h⟩
theorem call_enumT{t:Addr}{its:Array Value}{Q:Value->Shared->Prop}(ht:s.heap.IsTuple t its)
  (h:∀h',IsEnum h' (s.heap.objs.size+1) s.heap.objs.size 0 .none->h'.IsTupleIter s.heap.objs.size t 0->h'.objs.size=s.heap.objs.size+2->(∀b o,s.heap.get? b=some o->h'.get? b=some o)->Q (.ref (s.heap.objs.size+1)) { s with heap:=h' }) :
  wpAny (model prog w) A (call (.type "enumerate") [.ref t]) Q E s:=by
 obtain⟨⟨c,dct,dt,sl⟩,hl,hc,n,hd⟩:=ht
 simp only at hc hd
 subst hc hd
 refine callType_new F.called_enumerate (by decide) (F.typeCall_enumerate_1 _) (F.newCall_enumerate_1 _) (fun obj=>F.args_object_init_2 obj _) F.entry_enumerate_new (meets_enumT t its n dct sl) ⟨hl,?_⟩
 have hz:(s.heap.push { cls:=.type "tuple_iterator",data:=.fields #[.ref t,.int 0 0] }).objs.size=s.heap.objs.size+1:=by rw[Heap.size_push]
 have he:=zY (s.heap.push { cls:=.type "tuple_iterator",data:=.fields #[.ref t,.int 0 0] }) (o:={ cls:=.type "enumerate",data:=.fields #[.none,.bool false,.ref s.heap.objs.size,rawInt 0,.none,.none] }) rfl
 show _/\_
 rw[hz] at he ⊢
 refine⟨⟨_,he,rfl⟩,h _ he ⟨_,zV _ (zY _ rfl),rfl,rfl⟩ ?_ fun b o x=>zV _ (zV _ x)⟩
 show (Heap.push _ _).objs.size=_
 rw[Heap.size_push,hz]
end
end En
namespace Dl
open PySem L2 PySem.Spec PyProof.Rows
section
variable {X:Cx}{pins:List (Addr×Obj)}{σ:L2.St}{H:Hp}{s:Shared}{h':Heap}{t':Nat}{ch:List Addr}
theorem yh(I:Inv X pins σ H s)(hch:∀b∈ch,cK X pins H b)(k:∀b o,b∉ch->s.heap.get? b=some o->h'.get? b=some o){T:Addr}{vals:List Value}{xs:List V}(hT:s.heap.objs.size<=T)(ht:rF h' T vals.toArray)
  (rv:aH xs vals) (hz:xs.length<=sizeLine):Inv X pins σ (upd H T (.tup xs)) { s with heap:=h',toks:=t' }:=by
 have nT:H T=none:=I.hok.fresh hT
 have ne:∀b o,s.heap.get? b=some o->b≠T:=fun b o e=>zzB (zP (zZ e) hT)
 have ne2:∀b o,H b=some o->b≠T:=fun b o e=>aP e nT
 have nch:∀b o,H b=some o->b∉ch:=fun b o e z=>by rw[(hch b z).1] at e;cases e
 refine I.step (g':=s.gens) (d':=s.drawn) (ch:=ch) (fun b hb=>?_) (fun b o _ _ hc e _=>k b o hc e) (fun b o _ _ hc e _=>⟨o.slots,k b o hc e⟩) (fun b o _ e n=>by rw[aE (ne b o e)];exact n)
  (fun b o hc e=>⟨o,k b o hc e⟩) (fun b ys e=>by rw[aE (ne2 b _ e)];exact e) (fun b o u e=>by rw[aE (ne2 b _ e)];exact e) (.kept (fun b u ⟨q,z⟩ e=>k b u (nch b _ z) e) fun b u e _=>by rw[aE (ne2 b _ e)];exact e) (fun m hm=>?_) (fun b u e=>?_) I.bare
 ·obtain⟨f0,f1,f2,f3,f4,f5⟩:=hch b hb
  exact⟨f3,f1,f4,f5⟩
 ·obtain⟨o,es,ep,ho,r⟩:=hm
  exact⟨o,es,ep,k _ o (fun z=>(hch _ z).2.1 rfl) ho,r⟩
 ·by_cases hb:b=T
  ·subst hb
   rw[aL] at e
   cases e
   exact⟨hz,vals,rv,ht⟩
  ·rw[aE hb] at e
   refine (I.hok b u e).stay (fun c v hc q=>k c v ?_ q) (fun _ q=>?_) fun c v q _=>?_
   ·rcases hc with z|z
    ·rw[z];exact nch b u e
    ·exact nch c _ z
   all_goals first
    | (rw[aE (ne2 _ _ q)];exact q)
    | exact q
theorem Od(I:Inv X pins σ H s){a b:Addr}{o:Obj}(hf:cK X pins H b)(h:X.K.lookup a=some o):a≠b:=by
 rintro rfl
 have hb:=I.ok.mod.kin a o h
 rcases hf.2.2.2.1 with z|z
 ·exact I.ok.noex a o hb z
 ·exact absurd (zP (zZ (I.ok.bs a o hb).1) z) (Nat.lt_irrefl _)
theorem Ll(I:Inv X pins σ H s){a b:Addr}{xs:List V}(hf:cK X pins H b)(h:hZ X.K H a xs):a≠b:=by
 rcases h with (h|⟨o,h⟩)|⟨o,its,n,h,_⟩
 ·exact aP h hf.1
 ·exact aP h hf.1
 ·exact Od I hf h
theorem LZ(I:Inv X pins σ H s){a b:Addr}{xs:List V}(hf:cK X pins H b)(h:jY X.K H a xs):a≠b:=by
 rcases h with (h|⟨o,h⟩)|⟨o,its,n,h,_⟩
 ·exact aP h hf.1
 ·exact aP h hf.1
 ·exact Od I hf h
end
def Pr(sq:Hp->List V->Prop):It:=⟨fun i H=>∃xs x,sq H xs/\xs[i]?=some x,fun i H v H'=>∃T y,v=.ref T/\H T=none/\H'=upd H T (.tup [.int (i:Nat),y])/\∀xs,sq H xs->xs[i]?=some y,fun i H=>∃xs,sq H xs/\xs.length<=i⟩
def bK(k:Nat):List D->List D
 | []=>[]
 | d::ds=>.tuple [.int (k:Nat),d]::bK (k+1) ds
theorem ue:∀ {ds:List D}{k i:Nat}{d:D},(bK k ds)[i]?=some d->∃x,ds[i]?=some x/\d=.tuple [.int ((k+i:Nat):Int),x]
 | [],k,i,d,h=>by simp[bK] at h
 | x::ds,k,0,d,h=>by simp[bK] at h;exact⟨x,rfl,h.symm⟩
 | x::ds,k,i+1,d,h=>by
  simp only[bK,List.getElem?_cons_succ] at h
  obtain⟨y,h1,h2⟩:=ue h
  refine⟨y,by simpa using h1,?_⟩
  rw[h2,show k+1+i=k+(i+1) by omega]
theorem lb:∀ (ds:List D) (k:Nat),(bK k ds).length=ds.length
 | [],k=>rfl
 | x::ds,k=>by simp[bK,lb ds (k+1)]
theorem D2{K:W.Frag}{HF:Hp}{sq:Hp->List V->Prop}{ds:List D}{vs:List V}(h:sq HF vs)(mo:∀H H',aR H H'->sq H vs->sq H' vs)(r:ar K HF ds vs):tP K (Pr sq) HF (bK 0 ds) where
 go:=fun i d H₁ HF₁ e s1 s2=>by
  obtain⟨x,hx,rfl⟩:=ue e
  rw[Nat.zero_add]
  obtain⟨v,hv,rv⟩:=r.getD hx
  have q:=mo _ _ s2 (mo _ _ s1 h)
  refine⟨⟨vs,v,q,hv⟩,fun y H₂ ⟨T,z,e1,hT,e2,hy⟩=>?_⟩
  have:=hy vs q
  rw[hv] at this
  cases this
  subst e1 e2
  exact⟨_,.new s2 hT,eK (s2.free hT) (ar.cons (by simp[Rep]) (ar.cons (rv.mono s1) ar.nil))⟩
 stop:=fun H₁ HF₁ s1 s2=>⟨vs,mo _ _ s2 (mo _ _ s1 h),by rw[lb,r.length];exact zzA _⟩
def Pp(sq1 sq2:Hp->List V->Prop):It:=⟨fun i H=>∃xs ys x y,sq1 H xs/\sq2 H ys/\xs[i]?=some x/\ys[i]?=some y,
 fun i H v H'=>∃T x y,v=.ref T/\H T=none/\H'=upd H T (.tup [x,y])/\(∀xs,sq1 H xs->xs[i]?=some x)/\∀ys,sq2 H ys->ys[i]?=some y,
 fun i H=>∃xs ys,sq1 H xs/\sq2 H ys/\(xs.length<=i\/ys.length<=i)⟩
section
variable {X:Cx}{pins:List (Addr×Obj)}{σ:L2.St}{H:Hp}{s:Shared}{h':Heap}{t':Nat}{ch:List Addr}
theorem Dt(I:Inv X pins σ H s)(hch:∀b∈ch,cK X pins H b)(k:∀b o,b∉ch->s.heap.get? b=some o->h'.get? b=some o):Inv X pins σ H { s with heap:=h',toks:=t' }:=by
 have nch:∀b o,H b=some o->b∉ch:=fun b o e z=>by rw[(hch b z).1] at e;cases e
 refine I.step (g':=s.gens) (d':=s.drawn) (ch:=ch) (fun b hb=>?_) (fun b o _ _ hc e _=>k b o hc e) (fun b o _ _ hc e _=>⟨o.slots,k b o hc e⟩) (fun b o _ e n=>n)
  (fun b o hc e=>⟨o,k b o hc e⟩) (fun b ys e=>e) (fun b o u e=>e) (.kept (fun b u ⟨q,z⟩ e=>k b u (nch b _ z) e) fun b u e _=>e) (fun m hm=>?_) (fun b u e=>?_) I.bare
 ·obtain⟨f0,f1,f2,f3,f4,f5⟩:=hch b hb
  exact⟨f3,f1,f4,f5⟩
 ·obtain⟨o,es,ep,ho,r⟩:=hm
  exact⟨o,es,ep,k _ o (fun z=>(hch _ z).2.1 rfl) ho,r⟩
 ·refine (I.hok b u e).stay (fun c v hc q=>k c v ?_ q) (fun _ q=>q) fun c v q _=>q
  rcases hc with z|z
  ·rw[z];exact nch b u e
  ·exact nch c _ z
end
structure Qv(z TI TO i1 i2:Addr):Prop where
 a1:TI≠z
 a2:TO≠z
 a3:i1≠z
 a4:i2≠z
 a5:TI≠TO
 a6:TI≠i1
 a7:TI≠i2
 a8:TO≠i1
 a9:TO≠i2
 a0:i1≠i2
section
variable {X:Cx}{l l':Expr}{fs:Env->Option (List D)}{elts:List Expr}{k:Nat}{pos p tp:Pos}
def gT:List D->List D->List D
 | x::xs,y::ys=>.tuple [x,y]::gT xs ys
 | _,_=>[]
theorem qv:∀ {xs ys:List D}{i:Nat}{d:D},(gT xs ys)[i]?=some d->∃x y,xs[i]?=some x/\ys[i]?=some y/\d=.tuple [x,y]
 | [],_,i,d,h=>by simp[gT] at h
 | _::_,[],i,d,h=>by simp[gT] at h
 | x::xs,y::ys,0,d,h=>by simp[gT] at h;exact⟨x,y,rfl,rfl,h.symm⟩
 | x::xs,y::ys,i+1,d,h=>by
  simp only[gT,List.getElem?_cons_succ] at h
  obtain⟨a,b,h1,h2,h3⟩:=qv h
  exact⟨a,b,by simpa using h1,by simpa using h2,h3⟩
theorem nA:∀ (xs ys:List D),(gT xs ys).length=min xs.length ys.length
 | [],_=>by simp[gT]
 | _::_,[]=>by simp[gT]
 | x::xs,y::ys=>by simp[gT,nA xs ys]
theorem HK{K:W.Frag}{HF:Hp}{sq1 sq2:Hp->List V->Prop}{xs ys:List D}{vs us:List V}(h1:sq1 HF vs)(mo1:∀H H',aR H H'->sq1 H vs->sq1 H' vs)(h2:sq2 HF us)(mo2:∀H H',aR H H'->sq2 H us->sq2 H' us)(r1:ar K HF xs vs)(r2:ar K HF ys us) :
  tP K (Pp sq1 sq2) HF (gT xs ys) where
 go:=fun i d H₁ HF₁ e s1 s2=>by
  obtain⟨x,y,hx,hy,rfl⟩:=qv e
  obtain⟨v,hv,rv⟩:=r1.getD hx
  obtain⟨u,hu,ru⟩:=r2.getD hy
  have q1:=mo1 _ _ s2 (mo1 _ _ s1 h1)
  have q2:=mo2 _ _ s2 (mo2 _ _ s1 h2)
  refine⟨⟨vs,us,v,u,q1,q2,hv,hu⟩,fun w H₂ ⟨T,a,b,e1,hT,e2,ha,hb⟩=>?_⟩
  have ea:=ha vs q1
  have eb:=hb us q2
  rw[hv] at ea
  rw[hu] at eb
  cases ea
  cases eb
  subst e1 e2
  exact⟨_,.new s2 hT,eK (s2.free hT) (ar.cons (rv.mono s1) (ar.cons (ru.mono s1) ar.nil))⟩
 stop:=fun H₁ HF₁ s1 s2=>⟨vs,us,mo1 _ _ s2 (mo1 _ _ s1 h1),mo2 _ _ s2 (mo2 _ _ s1 h2),by rw[nA,r1.length,r2.length];omega⟩
end
def cut{α:Type}(xs:List α)(lo hi:Option Int):List α:=(xs.drop (HT.dY xs.length 0 lo)).take (HT.dY xs.length xs.length hi - HT.dY xs.length 0 lo)
theorem IR{α:Type}(xs:List α)(lo hi:Option Int):(cut xs lo hi).length<=xs.length:=by
 unfold cut;rw[List.length_take,List.length_drop];omega
theorem qh{K:W.Frag}{H:Hp}{ds:List D}{vs:List V}(r:ar K H ds vs)(lo hi:Option Int):ar K H (cut ds lo hi) (cut vs lo hi):=by
 unfold cut;rw[r.length];exact (r.drop _).take _
section
variable {X:Cx}
theorem C5{prog:Program}{w:World}{A:Around}{E:Value->Shared->Prop}{s:Shared}{t sl:Addr}{its:Array Value}{vl vu:Value}{lo hi:Option Int}{Q:Value->Shared->Prop}(ht:IsTup s.heap t its)(hs:s.heap.IsSliceOf sl vl vu .none)(pl:IsPart vl lo)(pu:IsPart vu hi)
  (hw:HT.dY its.size 0 lo=0/\HT.dY its.size its.size hi=its.size) (h:Q (.ref t) s):wpAny (model prog w) A (getItem (.ref t) (.ref sl)) Q E s:=by
 obtain⟨os,hos,hcs,hds⟩:=id hs
 have hTs:s.TypeIs (.ref sl) "slice":=⟨os,hos,hcs⟩
 unfold getItem
 try with_reducible refine wpAny_holding ?_
 first|refine zW (zX ?_)|skip
 refine zW (wpAny_sequenceKey ht.typeIs (by decide) (zW (wpAny_callSpecial?_slot (name:=Str.ofString "__getitem__") ht.typeIs PyProof.Rows.slot_tuple_getitem (wpAny_call_entry PyProof.Rows.slot_tuple_getitem ht.typeIs entry_tuple_getitem ?_ (args_tuple_getitem _ _)))))
 refine zW (m:=Builtin.Tuple.tupleItemsOf (.ref t)) (tupleItemsOf_ ht (zW (wpAny_typeOf hTs ?_)))
 rw[if_pos (by decide)]
 refine zW (HT.iW hs pl pu ?_)
 show wpAny _ _ (if (((HT.dY its.size 0 lo:Nat):Int) == 0&&(1:Int) == 1&&(HT.dY its.size its.size hi - HT.dY its.size 0 lo) == its.size)=true then _ else _) _ _ s
 rw[hw.1,hw.2,if_pos (by simp)]
 unfold Builtin.Tuple.tupleIsExact
 refine zW (zW (wpAny_typeOf ht.typeIs (zX ?_)))
 rw[if_pos (by decide)]
 first
  | exact zW (wpAny_rule (zX ⟨_,rfl,zX h⟩))
  | exact zW (wpAny_rule (zW (zX (zX ⟨_,rfl,zX h⟩))))
def PN(K:W.Frag):V->Option Int->Option Int->Hp->VK->Prop:=fun x lo hi H Q=>∃a xs,x=.ref a/\jY K H a xs/\(cut xs lo hi=xs->Q (.ref a) H)/\∀p,H p=none->Q (.ref p) (upd H p (.tup (cut xs lo hi)))
theorem Ms:Kn X (PN X.K):=by
 intro pins s σ H x v vl vu lo hi sl Q I rx hs pl pu h
 obtain⟨a,xs,rfl,hx,q1,q2⟩:=h
 by_cases hw:HT.dY xs.length 0 lo=0/\HT.dY xs.length xs.length hi=xs.length
 ·cases rx
  obtain⟨its,r,ht,hz⟩:=I.tuple hx
  have hlen:its.toArray.size=xs.length:=by rw[zH];exact r.length.symm
  refine⟨"tuple",_,PyProof.Rows.slot_tuple_getitem.lookup,ht.typeIs,C5 ht hs pl pu (by rw[hlen];exact hw) ⟨.ref a,H,I,rfl,q1 ?_⟩⟩
  unfold cut
  rw[hw.1,hw.2,List.drop_zero,Nat.sub_zero,List.take_length]
 ·exact MZ pins s σ H (.ref a) v vl vu lo hi sl Q I rx hs pl pu ⟨a,xs,rfl,hx,hw,q2⟩
def Pf(K:W.Frag):V->Option Int->Option Int->Hp->VK->Prop:=fun x lo hi H Q=>∃a xs,x=.ref a/\hZ K H a xs/\∀p,H p=none->Q (.ref p) (upd H p (.lst (cut xs lo hi)))
theorem AB(lo hi:Option Int)(n:Nat):sliceBounds lo hi none n=(((HT.dY n 0 lo:Nat):Int),((HT.dY n n hi:Nat):Int),1):=by
 have h1:(1:Int) > 0:=by omega
 refine Prod.ext ?_ (Prod.ext ?_ rfl)
 ·cases lo with
  | none=>simp[sliceBounds,HT.dY]
  | some x =>
   by_cases h:x < 0
   ·simp only[sliceBounds,HT.dY,Option.getD_none,h1,if_true,if_pos h];omega
   ·simp only[sliceBounds,HT.dY,Option.getD_none,h1,if_true,if_neg h];omega
 ·cases hi with
  | none=>simp[sliceBounds,HT.dY]
  | some x =>
   by_cases h:x < 0
   ·simp only[sliceBounds,HT.dY,Option.getD_none,h1,if_true,if_pos h];omega
   ·simp only[sliceBounds,HT.dY,Option.getD_none,h1,if_true,if_neg h];omega
theorem JV:Kn X (Pf X.K):=by
 intro pins s σ H x v vl vu lo hi sl Q I rx hs pl pu h
 obtain⟨a,xs,rfl,hx,q⟩:=h
 cases rx
 obtain⟨its,r,p,hz⟩:=I.list hx
 have hlen:=r.length
 refine⟨"list",_,slot_list_getitem.lookup,p.isList.typeIs,wpAny_getItem_list_slice p.isList hs pl pu .none (by simp) ?_ (by rw[zH];omega)⟩
 rw[W.kmk_pick_nat its.toArray (AB lo hi its.toArray.size)]
 have e:((its.toArray.toList.drop (HT.dY its.toArray.size 0 lo)).take (HT.dY its.toArray.size its.toArray.size hi - HT.dY its.toArray.size 0 lo))=cut its lo hi:=by unfold cut;simp
 rw[e]
 have rc:aH (cut xs lo hi) (cut its lo hi):=by unfold cut;rw[hlen];exact (r.drop _).take _
 exact⟨.ref s.heap.objs.size,_,I.lnew (t':=s.toks) rc (yE (IR xs lo hi) hz),rfl,q _ I.fresh⟩
def Qo(K:W.Frag)(f:Env->Option (Option Int)):TO:=fun σ H Q=>∃HF ρ o,aR HF H/\da K HF ρ σ/\f ρ=some o/\∀H' HF',cg HF H HF' H'->Q o H'
def DO(X:Cx)(e:Option Expr)(f:Env->Option (Option Int)):Prop:=PO X e (Qo X.K f)
def nW:Env->Option (Option Int):=fun _=>some none
def gI:D->Option Int|.int i=>some i|_=>none
def C7(f:Env->Option D):Env->Option (Option Int):=fun ρ=>(f ρ).bind fun d=>(gI d).map some
theorem Iq:DO X none nW:=fun pins s σ H Q I ⟨HF,ρ,o,sm,eo,hf,q⟩=>Jj pins s σ H Q I (by cases hf;exact q H HF (.refl sm))
theorem Jd{e:Expr}{f:Env->Option D}(h:DE X e f):DO X (some e) (C7 f):=fun pins s σ H Q I ⟨HF,ρ,o,sm,eo,hf,q⟩=>J5 h pins s σ H Q I (by
 obtain⟨d,hd,hf⟩:=bs hf
 obtain⟨i,hi,rfl⟩:=ag hf
 cases d<;>try cases hi
 exact⟨HF,ρ,_,sm,eo,hd,fun v H1 HF1 g1 r1=>⟨_,by simpa only[Rep] using r1,q H1 HF1 g1⟩⟩)
variable {a:Expr}{lo hi:Option Expr}{fa:Env->Option D}{fl fh:Env->Option (Option Int)}{pos p2:Pos}
def oM{β:Type}(g:D->Option Int->Option Int->Option β)(fa:Env->Option D)(fl fh:Env->Option (Option Int)):Env->Option β:=fun ρ=>(fa ρ).bind fun x=>(fl ρ).bind fun l=>(fh ρ).bind fun h=>g x l h
end
section
variable {X:Cx}{a:Expr}{fa:Env->Option D}{pos p2 p3 p4:Pos}{j:Nat}
def f1(g:D->Option D)(f:Env->Option D):Env->Option D:=fun ρ=>(f ρ).bind g
end
end Dl
namespace HT
open PySem PyProof.Rows
section
open PySem.SeqAt
open PySem.AutoSeq1 (wpAny_loadPart')
open PySem.MeetsSeq PySem.MeetsSeq2 PySem.MeetsSeq3
theorem GK(A:Around)(s:Shared)(a:Int)(t:Tok)(c:Int)(u:Tok)(prog:Program)(w:World)(E:Value->Shared->Prop)(Q:Value->Shared->Prop)(h:Q (.bool (decide (c<=a))) s) :
  wpAny (model prog w) A (richCompare .GtE (.int a t) (.int c u)) Q E s :=
 (PyProof.Rows.ge_int h:wpAny (model prog w) A (compareOp .GtE (.int a t) (.int c u)) Q E s)
theorem sY(l b:Addr)(items items2:Array Value)(n n2:Nat)(dd dd2:Option Addr)(sl sl2:Array (Option Value))(ns ms:List Int)(hi:IntsAre items.toList ns)(hj:IntsAre items2.toList ms) :
  Meets (Builtin.«tuple.__ge__» ⟨[.ref l,.ref b],[]⟩)
   (fun _ R s=>s.heap.get? l=some { cls:=.type "tuple",dict:=dd,data:=.seq items n,slots:=sl }/\s.heap.get? b=some { cls:=.type "tuple",dict:=dd2,data:=.seq items2 n2,slots:=sl2 } /\
    R (.ok (.ret (.bool (!lexLt ns ms)))) s) :=
 .of_wp fun prog w A R s h=>by
  obtain⟨hp,g,d,tk,os⟩:=s;obtain⟨hl,hb,h⟩:=h
  have f2:=AutoSeq1.sub_tuple_tuple
  have z1:items.size=ns.length:=by rw[<- hi.length];simp
  have z2:items2.size=ms.length:=by rw[<- hj.length];simp
  wp_walk using wpAny_loadPart' hl,wpAny_loadPart' hb,wpAny_forIn_list _ (fun rest b s'=>b.1=none/\s'=⟨hp,g,d,tk,os⟩/\∃ (vs ws:List Value) (ns' ms':List Int),rest=vs.zip ws /\
   IntsAre vs ns'/\IntsAre ws ms'/\ns'.length+items2.size=ms'.length+items.size/\R (.ok (.ret (.bool (!lexLt ns' ms')))) ⟨hp,g,d,tk,os⟩) _
  case turn =>
   rintro⟨y,x⟩ rest b s' ⟨hb',rfl,vs,ws,ns',ms',hz,hvi,hwi,hlen,hR⟩
   cases hvi with
   | nil=>rw[List.zip_nil_left] at hz;cases hz
   | cons a t hvi' =>
    cases hwi with
    | nil=>rw[List.zip_nil_right] at hz;cases hz
    | cons c u hwi' =>
     rw[List.zip_cons_cons] at hz
     injection hz with hyx hrest
     injection hyx with hy hx
     subst hy hx
     rw[aQ] at hR
     simp only[zL] at hlen
     obtain⟨e,he,hiff⟩:=qH A.in1 ⟨hp,g,d,tk,os⟩ a t c u
     refine zW (he prog w _ _ ?_)
     cases e with
     | true =>
      rw[if_pos (hiff.mp rfl)] at hR
      wp_walk
      exact⟨rfl,rfl,_,_,_,_,hrest,hvi',hwi',by omega,hR⟩
     | false =>
      rw[if_neg (fun q=>absurd (hiff.mpr q) Bool.false_ne_true)] at hR
      have hri:=GK A.in1 ⟨hp,g,d,tk,os⟩ a t c u prog w
      have e1:(!decide (a < c))=decide (c<=a):=by
       rw[<- decide_not]
       exact decide_eq_decide.mpr (by omega)
      rw[e1] at hR
      wp_walk using hri
      exact⟨_,rfl,hR⟩
  case fin =>
   rintro⟨b1,b2⟩ s' ⟨hb',rfl,vs,ws,ns',ms',hz,hvi,hwi,hlen,hR⟩
   simp only at hb'
   subst hb'
   have hv:lexLt ns' ms'=decide (items.size < items2.size):=by
    cases hvi with
    | nil =>
     cases hwi with
     | nil =>
      simp only[List.length_nil] at hlen
      rw[dB]
      exact (yA (by omega)).symm
     | cons c u hw =>
      simp only[List.length_nil,zL] at hlen
      rw[gU]
      exact (yB (by omega)).symm
    | cons a t hv =>
     cases hwi with
     | nil =>
      simp only[List.length_nil,zL] at hlen
      rw[gX]
      exact (yA (by omega)).symm
     | cons c u hw =>
      rw[List.zip_cons_cons] at hz
      cases hz
   have hv2:(!lexLt ns' ms')=decide (items.size >= items2.size):=by
    rw[hv,<- decide_not]
    exact decide_eq_decide.mpr (by omega)
   rw[hv2] at hR
   wp_walk
   exact⟨_,rfl,hR⟩
  case h =>
   exact⟨rfl,rfl,items.toList,items2.toList,ns,ms,rfl,hi,hj,by omega,h⟩
end
end HT
namespace Dl
open PySem L2 PySem.Spec PyProof.Rows
section
variable {X:Cx}
def jH:D->Option (List Int)|.tuple ds=>intsOf ds|_=>none
theorem gF{x:D}{ns:List Int}(h:jH x=some ns):x=.tuple (ns.map PyData.int):=by
 cases x<;>try cases h
 rename_i xs
 have h:intsOf xs=some ns:=h
 rw[dX h]
def N0:D->D->Option Bool:=fun x y=>(jH x).bind fun ns=>(jH y).map fun ms=>!lexLt ns ms
theorem EE(hu:X.A.units < cLine):jm X (compareOp .GtE) (OF X.K N0):=by
 intro pins s σ H v1 v2 u1 u2 Q I rx ry h
 obtain⟨HF,x,y,k,sm,r1,r2,hg,q⟩:=h
 obtain⟨ns,h1,hg⟩:=bs hg
 obtain⟨ms,h2,rfl⟩:=ag hg
 rw[gF h1] at r1
 rw[gF h2] at r2
 have key:∀ {ns:List Int}{v:V}{u:Value},Rep X.K HF (.tuple (ns.map PyData.int)) v->RelV v u->∃a its,u=.ref a/\IsTup s.heap a its/\IntsAre its.toList ns:=fun {ns v u} r rv=>by
  have p:dA s.heap u ns:=by
   cases iz (X:=X) (us:=[u]) (vs:=[v]) (nss:=[ns]) I sm (ar.cons r ar.nil) (.cons rv .nil) with
   | cons p _=>exact p
  obtain⟨a,o,its,n,rfl,e1,e2,e3,e4⟩:=p.ex
  exact⟨a,its,rfl,⟨o,e1,e2,n,e3⟩,e4⟩
 obtain⟨a,its,rfl,⟨⟨cls,dd,data,sl⟩,ho,hc,n,hd⟩,i1⟩:=key r1 rx
 obtain⟨b,its2,rfl,⟨⟨cls2,dd2,data2,sl2⟩,ho2,hc2,n2,hd2⟩,i2⟩:=key r2 ry
 simp only at hc hd hc2 hd2
 subst hc hd hc2 hd2
 exact richCompare_meets_room (op:=.GtE) ⟨_,ho,rfl⟩ ⟨_,ho2,rfl⟩ PySem.F.slot_tuple_ge PySem.F.entry_tuple_ge (PySem.F.args_tuple_ge_2 _ _) (HT.sY a b its its2 n n2 dd dd2 sl sl2 ns ms i1 i2)
  ⟨ho,ho2,show Value.bool (!lexLt ns ms)≠Value.notImplemented/\EP X pins σ Q (.bool (!lexLt ns ms)) s from ⟨(fun x=>nomatch x),⟨.bl _,H,I,rfl,q⟩⟩⟩ hu
end
end Dl
namespace En
open PySem PyProof.Rows
open AutoSeq1 (wpAny_loadPart')
theorem noFill_tup:fillsNumberSlot (.type "tuple") "mul"=pure false:=PySem.fillsNumberSlot_seq (id:="tuple.__mul__") (r:=some (.builtin "tuple.__rmul__")) F.slot_tuple_mul.lookup (by decide +kernel) F.slot_tuple_rmul.lookup (by decide +kernel)
theorem repeat_tup:seqRepeat? (.type "tuple")=pure (some (.builtin "tuple.__mul__")):=by
 unfold seqRepeat?
 rw[PySem.seqSlot_of (T:="tuple") (name:="__mul__") (id:="tuple.__mul__") F.slot_tuple_mul.lookup (by decide +kernel),PySem.seqSlot_of (T:="tuple") (name:="__rmul__") (id:="tuple.__rmul__") F.slot_tuple_rmul.lookup (by decide +kernel)];rfl
theorem rmul_tup(a:Int)(t:Tok)(l:Addr)(its:Array Value)(n:Nat)(dd:Option Addr)(sl:Array (Option Value)) :
  Meets (Builtin.«int.__rmul__» ⟨[.int a t,.ref l],[]⟩) (fun _ R s=>s.heap.get? l=some { cls:=.type "tuple",dict:=dd,data:=.seq its n,slots:=sl }/\R (.ok (.ret Value.notImplemented)) s) :=
 .of_wp fun prog w A R s h=>by
  obtain⟨hp,g,d,tk,os⟩:=s;obtain⟨hl,h⟩:=h
  wp_walk
  exact⟨_,rfl,h⟩
theorem mulT_same(l:Addr)(its:Array Value)(n:Nat)(dd:Option Addr)(sl:Array (Option Value))(k:Int)(t:Tok)(h1:¬ (decide (k < -(2 ^ 63))||decide (k >= 2 ^ 63))=true)(h2:(its.isEmpty||k == 1)=true) :
  Meets (Builtin.«tuple.__mul__» ⟨[.ref l,.int k t],[]⟩) (fun _ R s=>s.heap.get? l=some { cls:=.type "tuple",dict:=dd,data:=.seq its n,slots:=sl }/\R (.ok (.ret (.ref l))) s) :=
 .of_wp fun prog w A R s h=>by
  obtain⟨hp,g,d,tk,os⟩:=s;obtain⟨hl,h⟩:=h
  have f1:=AutoSeq1.idx_int
  wp_walk using wpAny_loadPart' hl
  rw[if_neg h1]
  wp_walk using wpAny_loadPart' hl
  exact⟨_,rfl,h⟩
theorem mulT_none(l:Addr)(its:Array Value)(n:Nat)(dd:Option Addr)(sl:Array (Option Value))(k:Int)(t:Tok)(h1:¬ (decide (k < -(2 ^ 63))||decide (k >= 2 ^ 63))=true)(h2:¬ (its.isEmpty||k == 1)=true)(h3:(decide (k<=0)||its.isEmpty)=true) :
  Meets (Builtin.«tuple.__mul__» ⟨[.ref l,.int k t],[]⟩) (fun _ R s=>s.heap.get? l=some { cls:=.type "tuple",dict:=dd,data:=.seq its n,slots:=sl }/\R (.ok (.ret (.ref s.heap.objs.size))) { s with heap:=s.heap.push { cls:=.type "tuple",data:=.seq #[] } }) :=
 .of_wp fun prog w A R s h=>by
  obtain⟨hp,g,d,tk,os⟩:=s;obtain⟨hl,h⟩:=h
  have f1:=AutoSeq1.idx_int
  wp_walk using wpAny_loadPart' hl
  rw[if_neg h1]
  wp_walk using wpAny_loadPart' hl
  exact⟨_,rfl,h⟩
theorem mulT_many(l:Addr)(its:Array Value)(n:Nat)(dd:Option Addr)(sl:Array (Option Value))(k:Int)(t:Tok)(h1:¬ (decide (k < -(2 ^ 63))||decide (k >= 2 ^ 63))=true)(h2:¬ (its.isEmpty||k == 1)=true)(h3:¬ (decide (k<=0)||its.isEmpty)=true)
  (h4:¬ ((its.size:Nat):Int) * k > (2 ^ 63 - 1) / 8) (h5:¬ Builtin.Tuple.tupleTooMany (((its.size:Nat):Int) * k)=true) (hz:((List.replicate k.toNat its).foldl (·++·) #[]).size<=sizeLine) :
  Meets (Builtin.«tuple.__mul__» ⟨[.ref l,.int k t],[]⟩) (fun _ R s=>s.heap.get? l=some { cls:=.type "tuple",dict:=dd,data:=.seq its n,slots:=sl }/\R (.ok (.ret (.ref s.heap.objs.size))) { s with heap:=s.heap.push { cls:=.type "tuple",data:=.seq ((List.replicate k.toNat its).foldl (·++·) #[]) } }) :=
 .of_wp fun prog w A R s h=>by
  obtain⟨hp,g,d,tk,os⟩:=s;obtain⟨hl,h⟩:=h
  have f1:=AutoSeq1.idx_int
  wp_walk using wpAny_loadPart' hl
  rw[if_neg h1]
  wp_walk using wpAny_loadPart' hl
  rw[if_neg h4]
  wp_walk using wpAny_loadPart' hl
  exact⟨_,rfl,h⟩
end En
namespace Dl
open PySem L2 PySem.Spec PyProof.Rows
section
variable {X:Cx}
def Kr(K:W.Frag):R2:=fun x y H Q=>∃a k xs,x=.ref a/\y=.int k/\jY K H a xs/\-(2 ^ 62)<=k/\k < 2 ^ 62/\xs.length * k.toNat<=sizeLine/\((List.replicate k.toNat xs).flatten=xs->Q (.ref a) H) /\
 ∀p,H p=none->Q (.ref p) (upd H p (.tup (List.replicate k.toNat xs).flatten))
theorem Ja:jm X (binaryOp .Mult) (Kr X.K):=by
 intro pins s σ H x y v u Q I rx ry h
 obtain⟨a,k,xs,rfl,rfl,hq,k1,k2,hz,q1,q2⟩:=h
 cases rx
 obtain⟨t,rfl⟩:=ry
 obtain⟨its,r,pl,hzx⟩:=I.tuple hq
 have hl:=r.length
 obtain⟨⟨cls,dd,data,sl⟩,ho,hc,n,hd⟩:=id pl
 simp only at hc hd
 subst hc hd
 have b1:¬ (decide (k < -(2 ^ 63))||decide (k >= 2 ^ 63))=true:=by
  simp only[Bool.or_eq_true,zJ]
  omega
 refine wpAny_binaryOp_repeat_ref (T:="tuple") (U:="int") (by decide) ⟨_,ho,rfl⟩ (fun s'=>typeIs_int s' k t) En.noFill_tup F.fills_int_mul F.slot_int_rmul En.repeat_tup F.slot_int_index.lookup
  (call_meets F.slot_int_rmul (typeIs_int s k t) F.entry_int_rmul (F.args_int_rmul_2 _ _) (En.rmul_tup k t a its.toArray n dd sl) ⟨ho,rfl,⟨_,ho,rfl⟩,?_⟩)
 have hfl:∀m:Nat,List.foldl (fun x1 x2=>x1++x2) #[] (List.replicate m its.toArray)=(List.replicate m its).flatten.toArray:=fun m=>by
  have:=foldl_rep its m []
  rw[List.nil_append] at this
  exact this
 by_cases h2:(its.toArray.isEmpty||k == 1)=true
 ·refine call_meets F.slot_tuple_mul ⟨_,ho,rfl⟩ F.entry_tuple_mul (F.args_tuple_mul_2 _ _) (En.mulT_same a its.toArray n dd sl k t b1 h2) ⟨ho,⟨.ref a,H,I,rfl,q1 ?_⟩⟩
  rw[Bool.or_eq_true] at h2
  rcases h2 with h2|h2
  ·have:xs=[]:=by
    have e:its=[]:=by simpa using h2
    rw[e] at hl
    exact List.length_eq_zero_iff.mp hl
   rw[this]
   simp
  ·have:k=1:=eq_of_beq h2
   subst this
   simp
 ·by_cases h3:(decide (k<=0)||its.toArray.isEmpty)=true
  ·refine call_meets F.slot_tuple_mul ⟨_,ho,rfl⟩ F.entry_tuple_mul (F.args_tuple_mul_2 _ _) (En.mulT_none a its.toArray n dd sl k t b1 h2 h3) ⟨ho,?_⟩
   have hk0:k.toNat=0:=by
    simp only[Bool.or_eq_true,zJ] at h3 h2
    rcases h3 with h3|h3
    ·omega
    ·exact absurd (.inl h3) h2
   have q3:=q2 s.heap.objs.size I.fresh
   rw[hk0] at q3
   exact⟨.ref s.heap.objs.size,_,I.laid (t':=s.toks) (o:=.tup []) (fun b ob q=>zV _ q) (zzA _) ⟨Nat.zero_le _,[],.nil,rF.new _ _⟩,rfl,q3⟩
  ·have hm:its.length * k.toNat<=sizeLine:=by rw[<- hl];exact hz
   have hkn:(k.toNat:Int)=k:=by
    simp only[Bool.or_eq_true,zJ,not_or] at h3
    omega
   have hmi:((its.toArray.size:Nat):Int) * k=((its.length * k.toNat:Nat):Int):=by rw[zH,Int.natCast_mul,hkn]
   have hv:=L2.aH.rep r k.toNat
   have hlen2:(List.replicate k.toNat xs).flatten.length<=sizeLine:=by rw[len_rep,Nat.mul_comm];exact hz
   have hs8:(sizeLine:Nat)<=(2 ^ 63 - 1) / 8:=by decide
   have h4:¬ ((its.toArray.size:Nat):Int) * k > (2 ^ 63 - 1) / 8:=by rw[hmi];omega
   have h5:¬ Builtin.Tuple.tupleTooMany (((its.toArray.size:Nat):Int) * k)=true:=by
    unfold Builtin.Tuple.tupleTooMany
    rw[hmi]
    simp only[zJ]
    omega
   refine call_meets F.slot_tuple_mul ⟨_,ho,rfl⟩ F.entry_tuple_mul (F.args_tuple_mul_2 _ _) (En.mulT_many a its.toArray n dd sl k t b1 h2 h3 h4 h5 (by rw[hfl,zH,<- hv.length];exact hlen2)) ⟨ho,?_⟩
   rw[hfl]
   exact⟨.ref s.heap.objs.size,_,I.laid (t':=s.toks) (o:=.tup (List.replicate k.toNat xs).flatten) (fun b ob q=>zV _ q) (zzA _) ⟨hlen2,_,hv,rF.new _ _⟩,rfl,q2 _ I.fresh⟩
def xf:D->D->Option D
 | .tuple ds,.int k=>if BO k=true/\ds.length * k.toNat<=sizeLine then some (.tuple (List.replicate k.toNat ds).flatten) else none
 | _,_=>none
theorem rM{K:W.Frag}{HF:Hp}{ds:List D}{vs:List V}(r:ar K HF ds vs):∀k:Nat,ar K HF (List.replicate k ds).flatten (List.replicate k vs).flatten
 | 0=>ar.nil
 | k+1=>by rw[List.replicate_succ,List.replicate_succ,List.flatten_cons,List.flatten_cons];exact r.append (rM r k)
theorem F5{K:W.Frag}:gC K (Kr K) xf:=by
 intro HF H x y v1 v2 d Q sm r1 r2 hg q
 cases x<;>cases y<;>simp only[xf] at hg<;>try cases hg
 split at hg
 ·rename_i xs k hh
  cases hg
  simp only[Rep] at r1 r2
  obtain⟨a,vs,rfl,ha,ra⟩:=r1
  have ok:=hh.1
  unfold BO at ok
  rw[zF] at ok
  refine⟨a,k,vs,rfl,r2,aG sm ha,of_decide_eq_true ok.1,of_decide_eq_true ok.2,by rw[ra.length];exact hh.2,fun e=>q _ H HF (.refl sm) ?_,fun p hp=>q _ _ _ (.new sm hp) (eK (sm.free hp) (rM ra _))⟩
  simp only[Rep]
  refine⟨a,vs,rfl,ha,?_⟩
  have:=rM ra k.toNat
  rw[e] at this
  exact this
 ·cases hg
end
end Dl
namespace En
open PySem PyProof.Rows
section
variable {prog:Program}{w:World}{A:Around}{E:Value->Shared->Prop}{s:Shared}
theorem call_setT{l:Addr}{its:Array Value}{ns:List Int}{Q:Value->Shared->Prop}(hh:A.handled=none)(hl:s.heap.IsTuple l its)(hi:IntsAre its.toList ns)(hb:its.size+1 < scanBound)
  (h:∀ (h':Heap) (tk:Nat),h'.SetOf (intKind prog w) s.heap.objs.size (fun k'=>(firstMet (fun i=>ns.getD i 0) its.size).any (· == k')) (firstMet (fun i=>ns.getD i 0) its.size).length->(∀b o,b < s.heap.objs.size->s.heap.get? b=some o->h'.get? b=some o)->Q (.ref s.heap.objs.size) { s with heap:=h',toks:=tk }) :
  wpAny (model prog w) A (call (.type "set") [.ref l]) Q E s:=by
 obtain⟨c,tl,hmro⟩:=F.called_set.mro
 have hmade:=F.called_set.made
 have hsub:=F.called_set.sub
 refine wpAny_call (codeAny_of_tree ?_);show wpAny _ _ (callAny (.type "set") _) _ _ _
 refine zX ⟨Code.quiet_builtin _ (by decide +kernel),codeAny_builtin F.entry_type_call ?_⟩
 rw[Around.under_plain (weight_type_call_type "set" [.ref l] []) rfl]
 have h1:=F.called_set.notType
 have h2:=F.called_set.canCreate
 have hct:=F.typeCall_set_1 (.ref l)
 repeat (any_goals (first|assumption|wp_step))
 refine codeAny_mono (code_set_new_1 (.ref l) (E:=E) (Q₁:=fun obj s1=>∃led:Bool,obj=.ref s.heap.objs.size/\s1={ s with heap:=s.heap.push { cls:=.type "set",dict:=none,data:=.set #[] 0 (.fresh 0 0 led) } }) fun led=>⟨led,rfl,rfl⟩) fun r s1 hr=>?_
 cases r with
 | error e=>exact hr
 | ok fl =>
  cases fl with
  | ret obj =>
   obtain⟨led,rfl,rfl⟩:=hr
   have hS:(s.heap.push { cls:=.type "set",dict:=none,data:=.set #[] 0 (.fresh 0 0 led) }).get? s.heap.objs.size=some { cls:=.type "set",dict:=none,data:=.set #[] 0 (.fresh 0 0 led) }:=by exact zY _ rfl
   have hT:Shared.TypeIs { s with heap:=s.heap.push { cls:=.type "set",dict:=none,data:=.set #[] 0 (.fresh 0 0 led) } } (.ref s.heap.objs.size) "set":=⟨_,hS,rfl⟩
   have hli:=F.called_set.init.lookup
   have hbi:=F.called_set.init.bind (.ref s.heap.objs.size)
   repeat (any_goals (first|assumption|wp_step))
   refine codeAny_mono (codeAny_call_builtin (R:=wants (fun r s2=>r=.none/\∃h' tk,s2={ s with heap:=h',toks:=tk }/\h'.SetOf (intKind prog w) s.heap.objs.size (fun k'=>(firstMet (fun i=>ns.getD i 0) its.size).any (· == k')) (firstMet (fun i=>ns.getD i 0) its.size).length /\
     (∀b o,b < s.heap.objs.size->s.heap.get? b=some o->h'.get? b=some o)) E) F.called_set.init.plain F.entry_set_init (check_set_init_1 hT ?_)) fun r2 s2 hr2=>?_
   ·obtain⟨ol,hol,hcl,nl,hdl⟩:=hl
    obtain⟨ocls,odict,odata,oslots⟩:=ol
    simp only at hcl hdl
    subst hcl hdl
    have hol':(s.heap.push { cls:=.type "set",dict:=none,data:=.set #[] 0 (.fresh 0 0 led) }).get? l=some { cls:=.type "tuple",dict:=odict,data:=.seq its nl,slots:=oslots }:=zV _ hol
    have hsls:=F.sub_tuple_set
    have hslf:=F.sub_tuple_frozenset
    have hne:(Value.type "tuple" == Value.type "dict")=false:=by decide
    have hl1:(s.heap.push { cls:=.type "set",dict:=none,data:=.set #[] 0 (.fresh 0 0 led) }).IsTuple l its:=⟨_,hol',rfl,nl,rfl⟩
    unfold Builtin.«set.__init__» noKeywords Builtin.Frozenset.updateFrom
    generalize hPI:pyIter=PI
    wp_walk
    subst hPI
    refine wpAny_pyIter_tuple hl1 (zW (wpAny_runValue ?_))
    have hlS:l < s.heap.objs.size:=zZ hol
    have hh3:A.in1.in1.in1.handled=none:=by simp[hh]
    have hneI:l≠(s.heap.push { cls:=.type "set",dict:=none,data:=.set #[] 0 (.fresh 0 0 led) }).objs.size:=by rw[Heap.size_push];exact zzB (Nat.lt_succ_of_lt hlS)
    have hSf:s.heap.objs.size∉[(s.heap.push { cls:=.type "set",dict:=none,data:=.set #[] 0 (.fresh 0 0 led) }).objs.size,l]:=by
     rw[Heap.size_push];simp only[zR,yG,or_false,not_or]
     exact⟨zzB (Nat.lt_succ_self _),Nat.ne_of_gt hlS⟩
    have hval:∀ (i:Nat) (v:Value),its[i]?=some v->∃t,v=.int ((fun i=>ns.getD i 0) i) t:=fun i v hv=>IntsAre.int_at hi i v (by rw[Array.getElem?_toList];exact hv)
    refine codeAny_set_update_loopS ((Walks.tuple hh3 _ l hneI its).toS) s.heap.objs.size hSf (fun i=>ns.getD i 0) hval hb (its.size - 0) 0 _ (by omega) (Nat.zero_le _) ⟨⟨_,zY _ rfl,rfl,rfl⟩,?ht⟩ ?hS0 ?hR
    case ht=>exact⟨_,zV _ hol',rfl,nl,rfl⟩
    case hS0 =>
     have hget:((s.heap.push { cls:=.type "set",dict:=none,data:=.set #[] 0 (.fresh 0 0 led) }).push { cls:=.type "tuple_iterator",data:=.fields #[.ref l,.int 0 0] }).get? s.heap.objs.size=some { cls:=.type "set",dict:=none,data:=.set #[] 0 (.fresh 0 0 led) }:=by exact zV _ hS
     exact SetOf_congr ((setObjOf_fresh (knd:=intKind prog w) led).setOf hget (by unfold scanBound;omega)) (fun _=>rfl) rfl
    case hR =>
     intro s' hm hS'
     obtain⟨h',g',d',tk',os'⟩:=s'
     have eg:g'=s.gens:=hm.gens
     have ed:d'=s.drawn:=hm.drawn
     have eo:os'=s.os:=hm.os
     subst eg ed eo
     show wpAny _ _ _ _ _ _
     refine zX ?_
     show wpAny _ _ (ret Value.none) _ _ _
     refine zX ⟨rfl,h',tk',rfl,hS',fun b o hb' e=>?_⟩
     refine hm.heap b o ?_ (zV _ (zV _ e))
     simp only[zR,yG,or_false,not_or]
     exact⟨zzB hb',by rw[Heap.size_push];exact zzB (Nat.lt_succ_of_lt hb')⟩
   ·cases r2 with
    | error e=>exact hr2
    | ok fl2 =>
     cases fl2 with
     | ret r =>
      obtain⟨rfl,h',tk,rfl,hS',hk'⟩:=hr2
      repeat (any_goals (first|assumption|wp_step))
      exact h _ _ hS' hk'
     | _=>exact hr2.elim
  | _=>exact hr.elim
end
end En
namespace Dl
open PySem L2 PySem.Spec PyProof.Rows
def many(ns:List Int):Nat:=(firstMet (fun i=>ns.getD i 0) ns.length).length
section
variable {X:Cx}{e:Expr}{f:Env->Option D}{pos p p' pos':Pos}
theorem C9(hc:X.calm=true):d9 X (.type "set") (fun xs H Q=>∃ (a:Addr) (ns:List Int),xs=[.ref a]/\jY X.K H a (ns.map V.int)/\ns.length+1 < scanBound/\∀q S,H q=none->Q (.ref q) (upd H q (.set S (many ns)))):=by
 intro pins s σ H xs us Q I r h
 obtain⟨a,ns,rfl,hq,hb,q⟩:=h
 obtain⟨u,rfl,rx⟩:=vals1 r
 cases rx
 obtain⟨its,rv,pl,hz⟩:=I.tuple hq
 have hi:IntsAre its.toArray.toList ns:=intsAre_of rv
 have hlen:its.toArray.size=ns.length:=by have:=rv.length;simpa using this.symm
 refine En.call_setT (I.ok.hd hc) (show s.heap.IsTuple a its.toArray from pl) hi (by rw[hlen];exact hb) fun h' tk hS hk=>?_
 rw[hlen] at hS
 exact⟨.ref s.heap.objs.size,_,I.laid (t':=tk) (fun b o e=>hk b o (zZ e) e) (zzA _) (show gf X.prog X.w _ h' _ (.set _ (many ns)) from hS),rfl,q _ _ I.fresh⟩
theorem Dc:d9 X (.builtin "len") (fun xs H Q=>∃ (a:Addr) (S:Int->Bool) (n:Nat),xs=[.ref a]/\H a=some (.set S n)/\Q (.int n) H):=by
 intro pins s σ H xs us Q I r h
 obtain⟨a,S,n,rfl,hq,q⟩:=h
 obtain⟨u,rfl,rx⟩:=vals1 r
 cases rx
 obtain⟨o,es,ep,t,ho,hex,hd,hel,hmem,hlt,hf,hn⟩:=(show s.heap.SetOf (intKind X.prog X.w) a S n from I.hok a _ hq)
 have hfit:((es.size:Nat):Int) < 2 ^ 63:=by unfold scanBound at hlt;omega
 refine call_len_set ho hex hd hf hfit ⟨.int n,H,I.tok _,⟨s.toks+1,by rw[hn]⟩,q⟩
def lJ:D->Option D:=fun d=>(jH d).bind fun ns=>if ns.length+1 < scanBound then some (.int (many ns)) else none
theorem Eo(hc:X.calm=true)(B:nU X "len" (.builtin "len"))(C:nU X "set" (.type "set"))(h:DE X e f)(he:starEach [e] X.env=(false,eval e X.env)::starEach [] X.env:=by rfl) :
  DE X (.Call (.Name "len" p) [.Call (.Name "set" p') [e] [] pos'] [] pos) (f1 lJ f) :=
 bu (nq Dc B.gl B.mg B.bt (dg (uI (C9 hc) C.gl C.mg C.bt (dg h iS he) (by decide) (by decide) he rfl) iS) (by decide) (by decide) rfl rfl) fun σ H Q ⟨HF,ρ,d,sm,eo,hf,q⟩=>by
  obtain⟨x,hx,hf⟩:=bs hf
  obtain⟨ns,h1,hf⟩:=bs hf
  split at hf
  ·rename_i hb
   cases hf
   refine⟨HF,ρ,x,sm,eo,hx,fun v1 H1 HF1 g1 r1=>?_⟩
   rw[gF h1] at r1
   simp only[Rep] at r1
   obtain⟨a,vs,rfl,hs,rr⟩:=r1
   have key:∀ {ns:List Int}{ws:List V},ar X.K HF1 (ns.map PyData.int) ws->ws=ns.map V.int:=fun {ns}=>by
    induction ns with
    | nil=>exact fun h=>h.nil_inv
    | cons n ns ih =>
     intro ws h
     obtain⟨v,r,rfl,a,b⟩:=h.cons_inv
     simp only[Rep] at a
     rw[a,ih b]
     rfl
   have:=key rr
   subst this
   refine⟨a,ns,rfl,aG g1.fh hs,hb,fun b S hb'=>⟨b,S,_,rfl,aL,q _ _ HF1 (g1.trans (.own g1.fh hb')) (by simp[Rep])⟩⟩
  ·cases hf
end
theorem kf(val:Nat->Int):∀i,(firstMet val i).length=i↔((List.range i).map val).Nodup
 | 0=>by simp[firstMet]
 | i+1=>by
  have hle:=firstMet_length_le val i
  rw[firstMet_succ,step_length,List.range_succ,List.map_append,List.nodup_append]
  have ha:=firstMet_any val i (val i)
  have ih:=kf val i
  constructor
  ·intro h
   by_cases hin:(firstMet val i).any (· == val i)=true
   ·rw[if_pos hin] at h;omega
   ·rw[if_neg hin] at h
    refine⟨ih.mp (by omega),by simp,fun a hm b hb z=>?_⟩
    have hb':b=val i:=by simpa using hb
    subst z hb'
    rw[ha] at hin
    exact hin (List.any_eq_true.mpr ⟨_,hm,by simp⟩)
  ·rintro⟨h1,_,h3⟩
   rw[if_neg ?_]
   ·rw[ih.mpr h1]
   ·rw[ha]
    intro hin
    obtain⟨x,hx,he⟩:=List.any_eq_true.mp hin
    have he':x=val i:=by simpa using he
    exact h3 x hx (val i) (by simp) he'
theorem AN(ns:List Int):many ns=ns.length↔ns.Nodup:=by
 unfold many
 rw[kf]
 have:(List.range ns.length).map (fun i=>ns.getD i 0)=ns:=kN ns 0
 rw[this]
section
variable {X:Cx}{N:List Str}{sc:Scope}{k:Nat}{a b c e e2:Expr}{es:List Expr}{fa fb fc f:Env->Option D}{fs:Env->Option (List D)}{pos p p' pos' p2 p3 p4 px apos cpos tp:Pos}{x y:Str}{HF₀ H₀:Hp}
theorem qq{K:W.Frag}{r r':R2}{g g':D->D->Option D}(h:gC K r g)(h':gC K r' g'):gC K (fun x y H Q=>r x y H Q\/r' x y H Q) (fun x y=>(g x y).or (g' x y)):=by
 intro HF H x y v1 v2 d Q sm r1 r2 hg q
 cases e:g x y with
 | some d' =>
  have hg:(g x y).or (g' x y)=some d:=hg
  rw[e] at hg
  cases hg
  exact .inl (h HF H x y v1 v2 d Q sm r1 r2 e q)
 | none =>
  have hg:(g x y).or (g' x y)=some d:=hg
  rw[e] at hg
  exact .inr (h' HF H x y v1 v2 d Q sm r1 r2 hg q)
theorem Eu{K:W.Frag}:gC K (Hh K) (fun x y=>(uu x y).map PyData.list):=by
 intro HF H x y v1 v2 d Q sm r1 r2 hg q
 obtain⟨zs,hg',rfl⟩:=ag hg
 clear hg
 cases x<;>cases y<;>simp only[uu] at hg'<;>try cases hg'
 obtain⟨rfl,hz⟩:=eN hg'
 simp only[Rep] at r1 r2
 obtain⟨a,vs,rfl,ha,ra⟩:=r1
 obtain⟨b,us,rfl,hb,rb⟩:=r2
 refine⟨a,b,vs,us,rfl,rfl,sm.seq ha,sm.seq hb,by rw[ra.length,rb.length,<- zN];exact hz,fun p hp=>q _ _ _ (.new sm hp) ?_⟩
 simp only[Rep]
 exact⟨p,_,rfl,.inl (.inl aL),(ra.append rb).mono (eu (sm.free hp))⟩
def aA:D->D->Option D:=fun x y=>((wF (fun _ _=>True) fun i j=>.int (i+j)) x y).or ((IT x y).or ((uu x y).map PyData.list))
theorem Bk.add(C:Bk X N sc k)(ha:DE X a fa)(hb:DE X b fb):DE X (.BinOp a .Add b pos) (f2 aA fa fb):=xr (MG.or (Ek.or yz)) (qq EX (qq Jw Eu)) ha hb
def gP:D->D->Option D:=wF (fun _ _=>True) fun i j=>.int (i - j)
theorem Bk.sub(C:Bk X N sc k)(ha:DE X a fa)(hb:DE X b fb):DE X (.BinOp a .Sub b pos) (f2 gP fa fb):=xr Mb EX ha hb
def ej:D->D->Option D:=fun x y=>((wF si fun i j=>.int (i * j)) x y).or (xf x y)
theorem Bk.mul(C:Bk X N sc k)(ha:DE X a fa)(hb:DE X b fb):DE X (.BinOp a .Mult b pos) (f2 ej fa fb):=xr (Nj.or Ja) (qq Fd F5) ha hb
def nE:D->D->Option D:=wF J8 fun i j=>.int (i / j)
theorem Bk.div(C:Bk X N sc k)(ha:DE X a fa)(hb:DE X b fb):DE X (.BinOp a .FloorDiv b pos) (f2 nE fa fb):=xr Io Fd ha hb
def lL:D->D->Option D:=wF (fun _ j=>0 < j) fun i j=>.int (i % j)
theorem Bk.mod(C:Bk X N sc k)(ha:DE X a fa)(hb:DE X b fb):DE X (.BinOp a .Mod b pos) (f2 lL fa fb):=xr Mg Fd ha hb
def Ey:D->D->Option D:=wF (fun _ _=>True) fun i j=>.bool (decide (i < j))
def Cw:D->D->Option D:=wF (fun _ _=>True) fun i j=>.bool (decide (i<=j))
def zz:D->D->Option D:=wF (fun _ _=>True) fun i j=>.bool (decide (j < i))
def Py:D->D->Option D:=fun x y=>((wF (fun _ _=>True) fun i j=>.bool (decide (j<=i))) x y).or ((N0 x y).map PyData.bool)
def bQ:D->D->Option D:=fun x y=>(MP x y).map PyData.bool
def j3:D->D->Option D:=fun x y=>(Ot x y).map PyData.bool
theorem Bk.u64(C:Bk X N sc k):X.A.units+64 < cLine:=C.room.units
theorem Bk.u66(C:Bk X N sc k):X.A.units+66 < cLine:=by have:=C.room.un;omega
theorem Bk.lt(C:Bk X N sc k)(ha:DE X a fa)(hb:DE X b fb):DE X (.Compare a [.Lt] [b] pos) (f2 Ey fa fb):=k7 GO iG ha hb (dm _)
theorem Bk.le(C:Bk X N sc k)(ha:DE X a fa)(hb:DE X b fb):DE X (.Compare a [.LtE] [b] pos) (f2 Cw fa fb):=k7 Hb iG ha hb (dm _)
theorem Bk.gt(C:Bk X N sc k)(ha:DE X a fa)(hb:DE X b fb):DE X (.Compare a [.Gt] [b] pos) (f2 zz fa fb):=k7 KU iG ha hb (dm _)
theorem Bk.ge(C:Bk X N sc k)(ha:DE X a fa)(hb:DE X b fb):DE X (.Compare a [.GtE] [b] pos) (f2 Py fa fb):=k7 (KN.or (EE C.room.units0)) (qq iG n5) ha hb (dm _)
theorem Bk.eq(C:Bk X N sc k)(ha:DE X a fa)(hb:DE X b fb):DE X (.Compare a [.Eq] [b] pos) (f2 bQ fa fb):=k7 (GZ C.u64) n5 ha hb (dm _)
theorem Bk.ne(C:Bk X N sc k)(ha:DE X a fa)(hb:DE X b fb):DE X (.Compare a [.NotEq] [b] pos) (f2 j3 fa fb):=k7 (Fq C.u64) n5 ha hb (dm _)
theorem Bk.tlt(C:Bk X N sc k)(ha:DE X a fa)(hb:DE X b fb):DT X (.Compare a [.Lt] [b] pos) (fB (f2 Ey fa fb)):=kj GO iG ha hb (dm _)
theorem Bk.tle(C:Bk X N sc k)(ha:DE X a fa)(hb:DE X b fb):DT X (.Compare a [.LtE] [b] pos) (fB (f2 Cw fa fb)):=kj Hb iG ha hb (dm _)
theorem Bk.tgt(C:Bk X N sc k)(ha:DE X a fa)(hb:DE X b fb):DT X (.Compare a [.Gt] [b] pos) (fB (f2 zz fa fb)):=kj KU iG ha hb (dm _)
theorem Bk.tge(C:Bk X N sc k)(ha:DE X a fa)(hb:DE X b fb):DT X (.Compare a [.GtE] [b] pos) (fB (f2 Py fa fb)):=kj (KN.or (EE C.room.units0)) (qq iG n5) ha hb (dm _)
theorem Bk.teq(C:Bk X N sc k)(ha:DE X a fa)(hb:DE X b fb):DT X (.Compare a [.Eq] [b] pos) (fB (f2 bQ fa fb)):=kj (GZ C.u64) n5 ha hb (dm _)
theorem Bk.tne(C:Bk X N sc k)(ha:DE X a fa)(hb:DE X b fb):DT X (.Compare a [.NotEq] [b] pos) (fB (f2 j3 fa fb)):=kj (Fq C.u64) n5 ha hb (dm _)
def je:D->Option Int->Option Int->Option D|.tuple ds,lo,hi=>some (.tuple (cut ds lo hi))|.list ds,lo,hi=>some (.list (cut ds lo hi))|_,_,_=>none
theorem Bk.cut(C:Bk X N sc k){lo hi:Option Expr}{fl fh:Env->Option (Option Int)}(ha:DE X a fa)(hl:DO X lo fl)(hh:DO X hi fh):DE X (.Subscript a (.Slice lo hi none p2) pos) (oM je fa fl fh):=bu (F2 (Ms.or JV) ha hl hh) fun σ H Q ⟨HF,ρ,d,sm,eo,hf,q⟩=>by
 obtain⟨x,hx,hf⟩:=bs hf
 obtain⟨l,hl,hf⟩:=bs hf
 obtain⟨u,hu,hf⟩:=bs hf
 refine⟨HF,ρ,x,sm,eo,hx,fun v1 H1 HF1 g1 r1=>⟨HF1,ρ,l,g1.fh,eo.mono g1.ff,hl,fun H2 HF2 g2=>⟨HF2,ρ,u,g2.fh,eo.mono (g1.ff.trans g2.ff),hu,fun H3 HF3 g3=>?_⟩⟩⟩
 have G:=(g1.trans g2).trans g3
 have r3:=r1.mono (g2.ff.trans g3.ff)
 cases x<;>try cases hf
 ·simp only[Rep] at r3
  obtain⟨b,vs,rfl,hs,rr⟩:=r3
  refine .inr ⟨b,vs,rfl,G.fh.seq hs,fun p hp=>q _ _ _ (G.trans (.new G.fh hp)) ?_⟩
  simp only[Rep]
  exact⟨p,_,rfl,.inl (.inl aL),(qh rr l u).mono (eu (G.fh.free hp))⟩
 ·simp only[Rep] at r3
  obtain⟨b,vs,rfl,hs,rr⟩:=r3
  refine .inl ⟨b,vs,rfl,aG G.fh hs,fun e=>q _ H3 HF3 G ?_,fun p hp=>q _ _ _ (G.trans (.new G.fh hp)) (eK (G.fh.free hp) (qh rr l u))⟩
  simp only[Rep]
  refine⟨b,vs,rfl,hs,?_⟩
  have:=qh rr l u
  rw[e] at this
  exact this
theorem Fm:bootBuiltins "len"=some (.builtin "len"):=by decide +kernel
theorem sJ:bootBuiltins "isinstance"=some (.builtin "isinstance"):=by decide +kernel
theorem Hw:bootBuiltins "tuple"=some (.type "tuple"):=by decide +kernel
theorem xv:bootBuiltins "range"=some (.type "range"):=by decide +kernel
theorem L4:bootBuiltins "all"=some (.builtin "all"):=by decide +kernel
theorem LN:bootBuiltins "set"=some (.type "set"):=by decide +kernel
theorem lG:bootBuiltins "sorted"=some (.builtin "sorted"):=by decide +kernel
theorem vg:bootBuiltins "enumerate"=some (.type "enumerate"):=by decide +kernel
theorem LY:bootBuiltins "zip"=some (.type "zip"):=by decide +kernel
end
abbrev cx(f:Env->Option (List D)):Env->Option D:=fun ρ=>(f ρ).map PyData.list
abbrev bo:List D->Option D:=fun ds=>(dO ds).map PyData.tuple
section
variable {X:Cx}{N:List Str}{sc:Scope}{k:Nat}
theorem Bk.locl(C:Bk X N sc k){x:Str}(h:decide (sc.names.lookup x=some .local)=true):X.env.scope.names.lookup x=some .local:=by
 rcases C.tb x _ (of_decide_eq_true h) with q|⟨q,_⟩
 ·exact q
 ·cases q
def isStar:Expr->Bool|.Starred ..=>true|_=>false
theorem bw{e:Expr}{es:List Expr}{env:PySem.Env}(h:isStar e=false):starEach (e::es) env=(false,eval e env)::starEach es env:=by
 cases e<;>first|rfl|cases h
theorem LD{e:Expr}{es:List Expr}{f:Env->Option D}{g:Env->Option (List D)}(he:DE X e f)(hs:DA X es g)(h:isStar e=false:=by rfl):DA X (e::es) (aa f g):=CA he hs (bw h)
theorem qN{elt:Expr}{gens:List Comprehension}{scope:Scope}{pos py:Pos}{x:Str}{line:Nat}{env:PySem.Env}:swapsWith (.ListComp elt gens scope pos) (some (.Name x py)) line env=pure (env.blockKind == .function&&env.kindOf x == some .local && py.line == pos.line
     &&!(scope.names.any fun (n,k)=>n == x&&(k == .local || k == .cell))):=rfl
theorem KM{env:PySem.Env}(h:env.scope.kind=.function):env.blockKind=.function:=by unfold PySem.Env.blockKind;rw[h];rfl
theorem Bk.swap(C:Bk X N sc k){elt:Expr}{gens:List Comprehension}{scope:Scope}{pos py:Pos}{x:Str}{line:Nat}(h:decide (sc.names.lookup x=some .local)=true)(h2:(py.line == pos.line&&!(scope.names.any fun (n,k)=>n == x&&(k == .local || k == .cell)))=true) :
  swapsWith (.ListComp elt gens scope pos) (some (.Name x py)) line X.env=pure true:=by
 rw[qN,KM C.kd,show X.env.kindOf x=some .local from C.locl h]
 rw[Bool.and_assoc,h2]
 rfl
theorem Bk.noswap(C:Bk X N sc k){elt:Expr}{gens:List Comprehension}{scope:Scope}{pos py:Pos}{x:Str}{line:Nat}(h:decide (sc.names.lookup x=some .cell)=true) :
  swapsWith (.ListComp elt gens scope pos) (some (.Name x py)) line X.env=pure false:=by
 have q:X.env.kindOf x=some .cell:=by
  rcases C.tb x _ (of_decide_eq_true h) with q|⟨q,_⟩
  ·exact q
  ·cases q
 rw[qN,q,KM C.kd]
 rfl
end
section
variable {K:W.Frag}
structure aF(K:W.Frag)(x:Str)(st:Stmt)(ps:List Str):Prop where
 ex:∃ (f:Addr) (fd:FuncData),W.nsIn K mainGlobals x=some (some (.ref f))/\JY K x x st f fd/\Binds K fd ps []
structure bE(K:W.Frag)(mg:Str->Option Value)(x:Str)(st:Stmt)(ps:List Str):Prop where
 ex:∃ (f:Addr) (fd:FuncData),mg x=some (.ref f)/\JY K x x st f fd/\Binds K fd ps []
theorem aF.mg{h:Heap}{mg:Str->Option Value}{x:Str}{st:Stmt}{ps:List Str}(D:aF K x st ps)(X:K.In h)(G:h.Ns mainGlobals mg):bE K mg x st ps:=by
 obtain⟨f,fd,a,b,c⟩:=D.ex
 exact⟨f,fd,W.mg_of X G a,b,c⟩
def iC(st:Stmt)(ps:List Str):Prop:=∀ (x qual:Str) (kV doc pm:Value) (an:Option Addr) (cdv ct:Value) (us:List Value),us.length=ps.length->bindArgs (W.fnOf x qual (iu st) (cE st) (aN st) .none kV doc pm an cdv ct) ⟨us,[]⟩=pure (ps.zip us)
theorem NS{x:Str}{st:Stmt}{ps:List Str}{f:Addr}{oc:Value}{od an:Option Addr}{osl:Array (Option Value)}{kV doc pm cdv ct:Value}(hb:iC st ps)(a:W.nsIn K mainGlobals x=some (some (.ref f)))(l:K.lookup f=some ⟨oc,od,.func (W.fnOf x x (iu st) (cE st) (aN st) .none kV doc pm an cdv ct),osl⟩)
  (c:W.codeIn K cdv x=true) (k:W.keepIn K (.ref f)=true):aF K x st ps:=⟨f,_,a,vW (st:=st) l c k,(vW (st:=st) l c k).binds fun kV doc pm an cdv ct us h=>hb _ _ kV doc pm an cdv ct us h⟩
structure o3(K:W.Frag)(x:Str)(st:Stmt)(ps:List Str):Prop where
 ex:∃ (f:Addr) (fd:FuncData) (c P:Addr),W.nsIn K mainGlobals x=some (some (.ref f))/\JY K x x st f fd/\Binds K fd ps []/\fd.code=.ref c/\W.codeHdIn K c P=true
structure Gw(K:W.Frag)(mg:Str->Option Value)(x:Str)(st:Stmt)(ps:List Str):Prop where
 ex:∃ (f:Addr) (fd:FuncData) (c P:Addr),mg x=some (.ref f)/\JY K x x st f fd/\Binds K fd ps []/\fd.code=.ref c/\W.codeHdIn K c P=true
theorem o3.mg{h:Heap}{mg:Str->Option Value}{x:Str}{st:Stmt}{ps:List Str}(D:o3 K x st ps)(X:K.In h)(G:h.Ns mainGlobals mg):Gw K mg x st ps:=by
 obtain⟨f,fd,c,P,a,b⟩:=D.ex
 exact⟨f,fd,c,P,W.mg_of X G a,b⟩
def HN(K:W.Frag)(c:Addr):Addr:=match K.lookup c with
 | some ⟨_,_,.fields vs,_⟩=>(match (vs[11]?:Option Value) with|some (.ref P)=>P|_=>0)
 | _=>0
theorem NH{x:Str}{st:Stmt}{ps:List Str}{f c:Addr}{oc:Value}{od an:Option Addr}{osl:Array (Option Value)}{kV doc pm ct:Value}(hb:iC st ps)(a:W.nsIn K mainGlobals x=some (some (.ref f)))(l:K.lookup f=some ⟨oc,od,.func (W.fnOf x x (iu st) (cE st) (aN st) .none kV doc pm an (.ref c) ct),osl⟩)
  (cd:W.codeIn K (.ref c) x=true) (k:W.keepIn K (.ref f)=true) (hh:W.codeHdIn K c (HN K c)=true):o3 K x st ps:=⟨f,_,c,HN K c,a,vW (st:=st) l cd k,(vW (st:=st) l cd k).binds fun kV doc pm an cdv ct us h=>hb _ _ kV doc pm an cdv ct us h,rfl,hh⟩
theorem GJ{x:Str}{i:Int}{t:Tok}(h:W.nsIn K mainGlobals x=some (some (.int i t))):∃t,W.nsIn K mainGlobals x=some (some (.int i t)):=⟨t,h⟩
theorem MH{K:W.Frag}(h0:W.nsIn K mainGlobals "len"=some none)(h1:W.nsIn K mainGlobals "isinstance"=some none)(h2:W.nsIn K mainGlobals "int"=some none)(h3:W.nsIn K mainGlobals "bool"=some none)(h4:W.nsIn K mainGlobals "tuple"=some none)(h5:W.nsIn K mainGlobals "list"=some none)(h6:W.nsIn K mainGlobals "range"=some none)(h7:W.nsIn K mainGlobals "all"=some none)(h8:W.nsIn K mainGlobals "any"=some none)(h9:W.nsIn K mainGlobals "set"=some none)(h10:W.nsIn K mainGlobals "sorted"=some none)(h11:W.nsIn K mainGlobals "enumerate"=some none)(h12:W.nsIn K mainGlobals "zip"=some none)(h13:W.nsIn K mainGlobals "sum"=some none)(h14:W.nsIn K mainGlobals "min"=some none)(h15:W.nsIn K mainGlobals "max"=some none)(h16:W.nsIn K mainGlobals "reversed"=some none):∀x∈cU,W.nsIn K mainGlobals x=some none:=by
 intro x hx
 simp only[cU,zR,yG,or_false] at hx
 rcases hx with rfl|rfl|rfl|rfl|rfl|rfl|rfl|rfl|rfl|rfl|rfl|rfl|rfl|rfl|rfl|rfl|rfl<;>assumption
theorem AS{K:W.Frag}{H:Hp}{a:Addr}{ns:List Int}{m:List D->Option D}(hS:hZ K H a (ns.map V.int))(hT:gY K H)(h:m [.list (ns.map PyData.int)]=some (.bool true)){X:_}:Li K 1 m [.ref a] H (fun v _=>v=.bl true) X:=by
 refine⟨H,[.list (ns.map PyData.int)],.bool true,.refl _,hT,ar.cons ?_ ar.nil,rfl,h,fun v H' HF' G r=>by simpa only[Rep] using r⟩
 simp only[Rep]
 refine⟨a,_,rfl,hS,?_⟩
 clear h hS hT
 induction ns with
 | nil=>exact ar.nil
 | cons n ns ih=>exact ar.cons (by simp[Rep]) ih
end
theorem O5{X:Cx}{e:Expr}{es:List Expr}{f:Env->Option D}{g:Env->Option (List D)}(h:isStar e=false)(he:DE X e f)(hs:DA X es g):DA X (e::es) (aa f g):=LD he hs h
section
variable {X:Cx}{N:List Str}{sc:Scope}{k:Nat}{HF₀ H₀:Hp}{e c:Expr}{es:List Expr}{fs:Env->Option (List D)}{pos p:Pos}
def Np:aj->Option Out:=fun _=>none
theorem Oo{st:Stmt}:DS X HF₀ H₀ st Np:=fun pins s σ H E I ⟨HF,ρ,o,S,hg,q⟩=>by cases hg
def iX(f:Env->Option D):aj->Option Out:=fun ρ=>(f (bA ρ)).map fun _=>.nx ρ
theorem JW{f:Env->Option D}(hs:swapsWith e none pos.line X.env=pure false)(h:DE X e f):DS X HF₀ H₀ (.Expr e pos) (iX f):=eC (pO h hs) fun E σ H ⟨HF,ρ,o,S,hg,q⟩=>by
 obtain⟨d,h,rfl⟩:=ag hg
 exact⟨H,bA ρ,d,.refl _,S.all,h,fun v H' HF' G r=>q σ H' HF (S.step G.hh) (.refl _)⟩
def Jb(t:Env->Option Bool)(gb:aj->Option Out):Nat->aj->Option Out
 | 0,_=>none
 | n+1,ρ=>(t (bA ρ)).bind fun b=>if b=true then (gb ρ).bind fun|.nx ρ'=>Jb t gb n ρ'|.rt d=>some (.rt d) else some (.nx ρ)
theorem Gd(n:Nat){body:List Stmt}{t:Env->Option Bool}{gb:aj->Option Out}(hp:PassesOwn (model X.prog X.w) X.A X.env X.xe)(hc:DT X c t)(hb:Ez X HF₀ H₀ body gb):DS X HF₀ H₀ (.While c body [] pos) (Jb t gb n) :=
 eC (Fs hp hc hb) fun E σ H ⟨HF,ρ,o,S,hg,q⟩=>by
  refine⟨fun m σ' H'=>∃HF' ρ',j6 X.K HF₀ H₀ HF' H' ρ' σ'/\aR HF HF'/\Jb t gb m ρ'=some o,⟨n,HF,ρ,S,.refl _,hg⟩,?_⟩
  rintro m σ' H' ⟨HF',ρ',S',s',hf⟩
  cases m with
  | zero=>cases hf
  | succ m =>
   unfold Jb at hf
   obtain⟨b,hb,hf⟩:=bs hf
   refine⟨H',bA ρ',b,.refl _,S'.all,hb,fun H1 HF1 G=>?_⟩
   cases b with
   | false =>
    rw[if_neg Bool.false_ne_true] at hf ⊢
    cases hf
    exact q σ' H1 HF' (S'.step G.hh) s'
   | true =>
    rw[if_pos rfl] at hf ⊢
    obtain⟨o1,h2,hf⟩:=bs hf
    refine⟨fun σ2 H3=>∃HF3 ρ3,j6 X.K HF₀ H₀ HF3 H3 ρ3 σ2/\aR HF HF3/\Jb t gb m ρ3=some o,fun σ2 H3 ⟨HF3,ρ3,a1,a2,a3⟩=>⟨m,Nat.lt_succ_self _,HF3,ρ3,a1,a2,a3⟩,HF',ρ',o1,S'.step G.hh,h2,?_⟩
    cases o1 with
    | nx ρ2=>exact fun σ4 H4 HF4 S4 s4=>⟨HF4,ρ2,S4,s'.trans s4,hf⟩
    | rt d=>cases hf;exact q
def xZ:List D->Option D
 | [.int a,.int b]=>some (.int (min a b))
 | [.int a,.int b,.int c]=>some (.int (min (min a b) c))
 | _=>none
theorem FL(hc:X.calm=true):d9 X (.builtin "min") (fun xs H Q=>(∃a b:Int,xs=[.int a,.int b]/\Q (.int (min a b)) H)\/(∃a b c:Int,xs=[.int a,.int b,.int c]/\Q (.int (min (min a b) c)) H)):=by
 intro pins s σ H xs us Q I r h
 have hh:X.A.handled=none:=I.ok.hd hc
 rcases h with ⟨a,b,rfl,q⟩|⟨a,b,c,rfl,q⟩
 ·cases r with
  | cons r1 r =>
   cases r with
   | cons r2 r =>
    cases r
    obtain⟨t,rfl⟩:=r1
    obtain⟨u,rfl⟩:=r2
    refine min_two_ints hh fun h' tk kp=>⟨.int (min a b),H,I.kept (t':=tk) kp,?_,q⟩
    by_cases h:b < a
    ·rw[if_pos h,show min a b=b by omega];exact⟨_,rfl⟩
    ·rw[if_neg h,show min a b=a by omega];exact⟨_,rfl⟩
 ·cases r with
  | cons r1 r =>
   cases r with
   | cons r2 r =>
    cases r with
    | cons r3 r =>
     cases r
     obtain⟨t,rfl⟩:=r1
     obtain⟨u,rfl⟩:=r2
     obtain⟨x,rfl⟩:=r3
     refine min_three_ints hh fun h' tk kp=>⟨.int (min (min a b) c),H,I.kept (t':=tk) kp,?_,q⟩
     by_cases h:b < a
     ·rw[if_pos h]
      by_cases h2:c < b
      ·rw[if_pos h2,show min (min a b) c=c by omega];exact⟨_,rfl⟩
      ·rw[if_neg h2,show min (min a b) c=b by omega];exact⟨_,rfl⟩
     ·rw[if_neg h]
      by_cases h2:c < a
      ·rw[if_pos h2,show min (min a b) c=c by omega];exact⟨_,rfl⟩
      ·rw[if_neg h2,show min (min a b) c=a by omega];exact⟨_,rfl⟩
theorem yu{K:W.Frag}{H:Hp}{d:D}{v:V}(r:Rep K H d v):∀ {ds:List D}{vs:List V}(j:Nat),ar K H ds vs->ar K H (ds.set j d) (vs.set j v)
 | [],vs,j,h=>by rw[h.nil_inv];exact ar.nil
 | x::ds,vs,j,h=>by
  obtain⟨u,us,rfl,a,b⟩:=h.cons_inv
  cases j with
  | zero=>exact ar.cons r b
  | succ j=>exact ar.cons a (yu r j b)
def AM(i:Nat)(fz:List Nat)(fk f:Env->Option D):aj->Option Out:=fun ρ=>(lR fz f ρ).bind fun p=>(fk (bA p.2)).bind fun kd=>match kd with
 | .int k=>nI i (fun ds=>(HW ds.length k).map fun j=>ds.set j p.1) p.2
 | _=>none
theorem GA(i:Nat)(fz:List Nat){x:Str}{e2:Expr}{px spos:Pos}{fk f:Env->Option D}(hN:X.N[i]?=some x)(hv:Kq X.env.scope x)(hk:DE X e fk)(h:DE X e2 f)(hd:(x == ("__debug__":Str))=false:=by decide)(hcd:(x == ("__classdict__":Str))=false:=by decide)
  (ha:∀v,assign (.Subscript (.Name x px) e spos) X.env v=(do
   let ov <- holding [v] (eval (.Name x px) X.env)
   let iv <- holding [v,ov] (eval e X.env)
   standAt spos
   holding [v,ov,iv] (setItem ov iv v)
   release [v,ov,iv] []):=by intro _;rfl)
  (hs:swapsWithSole [.Subscript (.Name x px) e spos] e2 pos.line X.env=pure false:=by rfl) (hw:swappedStores [.Subscript (.Name x px) e spos] e2 X.env=pure none:=by rfl)
  (h1:(assignEach [.Subscript (.Name x px) e spos] X.env).map (·.2)=[assign (.Subscript (.Name x px) e spos) X.env]:=by rfl):DS X HF₀ H₀ (.Assign [.Subscript (.Name x px) e spos] e2 pos) (AM i fz fk f) :=
 eC (MT h (Lz (qT hN hv hd hcd) hk set_list ha) hs hw h1) fun E σ H ⟨HF,ρ,o,S,hg,q⟩=>by
  obtain⟨⟨d,ρ'⟩,h1,hg⟩:=bs hg
  obtain⟨kd,h2,hg⟩:=bs hg
  cases kd<;>try cases hg
  rename_i k
  obtain⟨ds,es,h3,h4,rfl⟩:=lz hg
  obtain⟨j,hj,rfl⟩:=ag h4
  refine nG S h1 fun v H1 HF1 s1 S1 s2 r=>?_
  obtain⟨a,vs,e1,e2,e3,e5,e4⟩:=S1.own i ds h3
  refine⟨.ref a,e1,H1,bA ρ',.int k,.refl _,S1.all,h2,fun kv H2 HF2 G rk=>?_⟩
  simp only[Rep] at rk
  have S2:=S1.step G.hh
  obtain⟨a',vs',f1,f2,f3,f5,f4⟩:=S2.own i ds h3
  rw[e1] at f1;cases f1
  exact⟨a,vs',k,j,rfl,rk,f2,by rw[f4.length];exact hj,q σ _ HF1 (S2.mut h3 e1 f2 (yu r j f4)) s1⟩
end
section
variable {X:Cx}{N:List Str}{sc:Scope}{k:Nat}{HF₀ H₀:Hp}{a b e c:Expr}{es:List Expr}{fa fb:Env->Option D}{fs:Env->Option (List D)}{pos p:Pos}
def Nz:D->Bool|.none=>true|_=>false
theorem pZ{K:W.Frag}{HF:Hp}{d:D}{v:V}(r:Rep K HF d v):decide (v=.non)=Nz d:=by
 cases d<;>simp only[Rep] at r<;>first
  | (subst r;rfl)
  | (obtain⟨a,vs,rfl,_⟩:=r;rfl)
  | exact r.elim
def sk:D->D->Option D:=fun x y=>if Nz y=true then some (.bool (Nz x)) else none
def oW:D->D->Option D:=fun x y=>if Nz y=true then some (.bool (!Nz x)) else none
theorem CM{K:W.Frag}:gC K (fun x y H Q=>y=.non/\Q (.bl (decide (x=.non))) H) sk:=by
 intro HF H x y v1 v2 d Q sm r1 r2 hg q
 unfold sk at hg
 split at hg
 ·rename_i h
  cases hg
  have h2:=pZ r2
  rw[h,zJ] at h2
  refine⟨h2,?_⟩
  rw[pZ r1]
  exact q _ H HF (.refl sm) (by simp[Rep])
 ·cases hg
theorem xC{K:W.Frag}:gC K (fun x y H Q=>y=.non/\Q (.bl (!decide (x=.non))) H) oW:=by
 intro HF H x y v1 v2 d Q sm r1 r2 hg q
 unfold oW at hg
 split at hg
 ·rename_i h
  cases hg
  have h2:=pZ r2
  rw[h,zJ] at h2
  refine⟨h2,?_⟩
  rw[pZ r1]
  exact q _ H HF (.refl sm) (by simp[Rep])
 ·cases hg
theorem Bk.is0(C:Bk X N sc k)(ha:DE X a fa)(hb:DE X b fb):DE X (.Compare a [.Is] [b] pos) (f2 sk fa fb):=k7 Gq CM ha hb (dm _)
theorem Bk.not0(C:Bk X N sc k)(ha:DE X a fa)(hb:DE X b fb):DE X (.Compare a [.IsNot] [b] pos) (f2 oW fa fb):=k7 BJ xC ha hb (dm _)
theorem Bk.tis0(C:Bk X N sc k)(ha:DE X a fa)(hb:DE X b fb):DT X (.Compare a [.Is] [b] pos) (fB (f2 sk fa fb)):=kj Gq CM ha hb (dm _)
theorem Bk.tnot0(C:Bk X N sc k)(ha:DE X a fa)(hb:DE X b fb):DT X (.Compare a [.IsNot] [b] pos) (fB (f2 oW fa fb)):=kj BJ xC ha hb (dm _)
theorem ML(hc:X.calm=true)(B:nU X "min" (.builtin "min"))(he:starEach (e::es) X.env=(false,eval e X.env)::starEach es X.env)(hpl:(backTo pos (starEach es X.env)).any (·.1)=false)(ha:DA X (e::es) fs):DE X (.Call (.Name "min" p) (e::es) [] pos) (aU xZ fs) :=
 fE (FL hc) (by
  intro HF H ds vs d Q sm r hg q
  unfold xZ at hg
  split at hg
  ·cases hg
   obtain⟨v1,r1,rfl,a1,b1⟩:=r.cons_inv
   obtain⟨v2,r2,rfl,a2,b2⟩:=b1.cons_inv
   rw[b2.nil_inv]
   simp only[Rep] at a1 a2
   exact .inl ⟨_,_,by rw[a1,a2],q _ H HF (.refl sm) (by simp[Rep])⟩
  ·cases hg
   obtain⟨v1,r1,rfl,a1,b1⟩:=r.cons_inv
   obtain⟨v2,r2,rfl,a2,b2⟩:=b1.cons_inv
   obtain⟨v3,r3,rfl,a3,b3⟩:=b2.cons_inv
   rw[b3.nil_inv]
   simp only[Rep] at a1 a2 a3
   exact .inr ⟨_,_,_,by rw[a1,a2,a3],q _ H HF (.refl sm) (by simp[Rep])⟩
  ·cases hg) B ha (by decide) (by decide) he hpl
end
section
variable {X:Cx}{a b e c:Expr}{es:List Expr}{fa fb:Env->Option D}{fl fs:Env->Option (List D)}{pos p:Pos}
theorem Bp(hc:X.calm=true):d9 X (.builtin "any") (fun xs H Q=>∃ (a:Addr) (bs:List Bool),xs=[.ref a]/\hZ X.K H a (bs.map V.bl)/\Q (.bl (bs.any id)) H):=by
 intro pins s σ H xs us Q I r h
 obtain⟨a,bs,rfl,hq,q⟩:=h
 obtain⟨u,rfl,rx⟩:=vals1 r
 cases rx
 obtain⟨its,rv,pl,hz⟩:=I.list hq
 have hv:=lZ rv
 subst hv
 have hh:X.A.in1.handled=none:=I.ok.hd hc
 refine call_any_walk (wpAny_pyIter_list pl.isList ?_)
 obtain⟨o,ho,hcl,n,hd⟩:=pl.isList
 have hne:a≠s.heap.objs.size:=zzB (zZ ho)
 refine⟨_,_,_,_,_,_,fun i=>bs.getD i false,rfl,Walks.list hh s.heap.objs.size a hne (bs.map Value.bool).toArray,⟨⟨_,zY _ rfl,rfl,rfl⟩,pl.isList.push _⟩,fun i v s' Q' E' hP hQ=>?_,fun h' tk kp=>?_⟩
 ·have e:v=Value.bool (bs.getD i false):=by
   have hP:(bs.map Value.bool).toArray[i]?=some v:=hP
   rw[List.getElem?_toArray,zO] at hP
   obtain⟨b,hb,rfl⟩:=ag hP
   rw[zG,hb]
   rfl
  subst e
  exact wpAny_truthy_bool hQ
 ·refine⟨.bl (bs.any id),H,?_,?_,q⟩
  ·exact I.kept (t':=tk) fun b o' e=>kp b o' (by simp;exact zzB (zZ e)) (zV _ e)
  ·show Value.bool _=Value.bool _
   have:=range_any bs
   simp only[zH,zD]
   rw[this]
end
section
variable {X:Cx}{e:Expr}{fs:Env->Option (List D)}{pos p:Pos}
theorem LB(hc:X.calm=true)(B:nU X "any" (.builtin "any"))(he:starEach [e] X.env=(false,eval e X.env)::starEach [] X.env)(ha:DA X [e] fs):DE X (.Call (.Name "any" p) [e] [] pos) (aU (fun ds=>(oneOf ds).bind fun d=>match d with
 | .list es=>(boolsOf es).map fun bs=>.bool (bs.any id)
 | _=>none) fs) :=
 fE (Bp hc) (by
  intro HF H ds vs d Q sm r hg q
  obtain⟨x,hx,hg⟩:=bs hg
  rw[dR hx] at r
  cases x<;>try cases hg
  obtain⟨bs,hb,rfl⟩:=ag hg
  obtain⟨v,r',rfl,a,b⟩:=r.cons_inv
  rw[b.nil_inv]
  simp only[Rep] at a
  obtain⟨p,us,rfl,h,rr⟩:=a
  rw[jF hb] at rr
  have:=l9 rr
  subst this
  exact⟨p,bs,rfl,sm.seq h,q _ H HF (.refl sm) (by simp[Rep])⟩) B ha (by decide) (by decide) he rfl
theorem oR(ns:List Int):∀j:Nat,preSum (fun i=>ns.getD i 0) j=(ns.take j).sum
 | 0=>by simp[preSum]
 | j+1=>by
  rw[preSum,oR ns j,List.take_add_one,List.sum_append]
  congr 1
  rw[zG]
  cases ns[j]?<;>simp
theorem tZ(val:Nat->Int)(B:Int)(h:∀i,-B<=val i/\val i<=B):∀j:Nat,-(B * j)<=preSum val j/\preSum val j<=B * j
 | 0=>by simp[preSum]
 | j+1=>by
  have ih:=tZ val B h j
  have:=h j
  rw[preSum]
  have e:B * ((j+1:Nat):Int)=B * (j:Int)+B:=by rw[Int.natCast_add,Int.mul_add];simp
  rw[e]
  omega
def IA(ns:List Int):Bool:=decide (ns.length<=1000)&&ns.all fun n=>decide (-1000000<=n)&&decide (n<=1000000)
theorem Lb{ns:List Int}(h:IA ns=true):ns.length<=1000/\∀i,-1000000<=ns.getD i 0/\ns.getD i 0<=1000000:=by
 unfold IA at h
 rw[zF,zJ,List.all_eq_true] at h
 refine⟨h.1,fun i=>?_⟩
 rw[zG]
 cases e:ns[i]? with
 | none=>simp
 | some n =>
  have:=h.2 n (List.mem_of_getElem? e)
  simpa using this
theorem pS{ns:List Int}{its:List Value}(r:aH (ns.map V.int) its){i:Nat}{v:Value}(h:its.toArray[i]?=some v):∃t,v=.int (ns.getD i 0) t:=by
 rw[List.getElem?_toArray] at h
 induction ns generalizing its i with
 | nil=>cases r;simp at h
 | cons n ns ih =>
  cases r with
  | cons r1 rr =>
   cases i with
   | zero =>
    simp only[List.getElem?_cons_zero,yM] at h
    subst h
    obtain⟨t,rfl⟩:=r1
    exact⟨t,rfl⟩
   | succ i =>
    simp only[List.getElem?_cons_succ] at h
    exact ih rr h
theorem AY(hc:X.calm=true):d9 X (.builtin "sum") (fun xs H Q=>∃ (a:Addr) (ns:List Int),xs=[.ref a]/\(hZ X.K H a (ns.map V.int)\/jY X.K H a (ns.map V.int))/\IA ns=true/\Q (.int ns.sum) H):=by
 intro pins s σ H xs us Q I r h
 obtain⟨a,ns,rfl,hq,hok,q⟩:=h
 obtain⟨u,rfl,rx⟩:=vals1 r
 cases rx
 have hh:X.A.in1.handled=none:=I.ok.hd hc
 obtain⟨hlen,hbd⟩:=Lb hok
 have hin:∀n:Nat,n<=1000->∀j,j < n->InLong ((fun i=>ns.getD i 0) j)/\InLong (preSum (fun i=>ns.getD i 0) (j+1)):=fun n hn j hj=>by
  have h1:=hbd j
  have h2:=tZ (fun i=>ns.getD i 0) 1000000 hbd (j+1)
  refine⟨⟨?_,?_⟩,?_,?_⟩
  ·show -(2 ^ 63)<=ns.getD j 0
   omega
  ·show ns.getD j 0 < 2 ^ 63
   omega
  ·omega
  ·omega
 have hsum:preSum (fun i=>ns.getD i 0) ns.length=ns.sum:=by rw[oR,List.take_length]
 rcases hq with hq|hq
 ·obtain⟨its,rv,pl,hz⟩:=I.list hq
  have hl:its.length=ns.length:=by rw[<- rv.length,zD]
  refine call_sum_walk (wpAny_pyIter_list pl.isList ?_)
  obtain⟨o,ho,hcl,n,hd⟩:=pl.isList
  have hlt:=zZ ho
  have hne:a≠s.heap.objs.size:=zzB hlt
  refine⟨_,_,_,_,_,_,fun i=>ns.getD i 0,rfl,Walks.list hh s.heap.objs.size a hne its.toArray,⟨⟨_,zY _ rfl,rfl,rfl⟩,pl.isList.push _⟩,fun b hb=>?_,fun i v hP=>pS rv hP,by rw[zH,hl];exact hin _ hlen,fun h' tk t' kp=>?_⟩
  ·show b < (s.heap.push _).objs.size
   rw[Heap.size_push]
   simp only[zR,yG,or_false] at hb
   rcases hb with rfl|rfl
   ·exact Nat.lt_succ_self _
   ·exact Nat.lt_succ_of_lt hlt
  ·refine⟨.int ns.sum,H,I.kept (t':=tk) fun b o' e=>kp b o' (by simp;exact zzB (zZ e)) (zV _ e),⟨t',?_⟩,q⟩
   rw[zH,hl,hsum]
 ·obtain⟨its,rv,pl,hz⟩:=I.tuple hq
  have pl:s.heap.IsTuple a its.toArray:=pl
  have hl:its.length=ns.length:=by rw[<- rv.length,zD]
  refine call_sum_walk (wpAny_pyIter_tuple pl ?_)
  obtain⟨o,ho,hcl,n,hd⟩:=id pl
  have hlt:=zZ ho
  have hne:a≠s.heap.objs.size:=zzB hlt
  refine⟨_,_,_,_,_,_,fun i=>ns.getD i 0,rfl,Walks.tuple hh s.heap.objs.size a hne its.toArray,⟨⟨_,zY _ rfl,rfl,rfl⟩,pl.push _⟩,fun b hb=>?_,fun i v hP=>pS rv hP,by rw[zH,hl];exact hin _ hlen,fun h' tk t' kp=>?_⟩
  ·show b < (s.heap.push _).objs.size
   rw[Heap.size_push]
   simp only[zR,yG,or_false] at hb
   rcases hb with rfl|rfl
   ·exact Nat.lt_succ_self _
   ·exact Nat.lt_succ_of_lt hlt
  ·refine⟨.int ns.sum,H,I.kept (t':=tk) fun b o' e=>kp b o' (by simp;exact zzB (zZ e)) (zV _ e),⟨t',?_⟩,q⟩
   rw[zH,hl,hsum]
end
section
variable {X:Cx}{e:Expr}{fs:Env->Option (List D)}{pos p:Pos}
def md:List D->Option D:=fun ds=>(dO ds).bind fun es=>(intsOf es).bind fun ns=>if IA ns=true then some (.int ns.sum) else none
theorem lK{K:W.Frag}{H:Hp}:∀ {ns:List Int}{vs:List V},ar K H (ns.map PyData.int) vs->vs=ns.map V.int
 | [],vs,h=>h.nil_inv
 | b::bs,vs,h=>by
  obtain⟨v,r,rfl,a,c⟩:=h.cons_inv
  simp only[Rep] at a
  rw[a,lK c]
  rfl
theorem LW(hc:X.calm=true)(B:nU X "sum" (.builtin "sum"))(he:starEach [e] X.env=(false,eval e X.env)::starEach [] X.env)(ha:DA X [e] fs):DE X (.Call (.Name "sum" p) [e] [] pos) (aU md fs) :=
 fE (AY hc) (by
  intro HF H ds vs d Q sm r hg q
  obtain⟨es,h1,hg⟩:=bs hg
  obtain⟨ns,h2,hg⟩:=bs hg
  have hg:(if IA ns=true then some (PyData.int ns.sum) else none)=some d:=hg
  split at hg
  ·rename_i hok
   cases hg
   have e2:=dX h2
   subst e2
   rcases kl h1 with rfl|rfl
   all_goals
    obtain⟨v,r',rfl,a,b⟩:=r.cons_inv
    rw[b.nil_inv]
    simp only[Rep] at a
    obtain⟨p,us,rfl,h,rr⟩:=a
    have:=lK rr
    subst this
   ·exact⟨p,ns,rfl,.inr (aG sm h),hok,q _ H HF (.refl sm) (by simp[Rep])⟩
   ·exact⟨p,ns,rfl,.inl (sm.seq h),hok,q _ H HF (.refl sm) (by simp[Rep])⟩
  ·cases hg) B ha (by decide) (by decide) he rfl
end
section
variable {X:Cx}
def Nq(i:Int):Value->Bool|.int a _=>a == i|_=>false
theorem D3:NP X "list.index" (fun x vs H Q=>∃ (l:Addr) (ns:List Int) (i:Int) (j:Nat),x=.ref l/\vs=[.int i]/\hZ X.K H l (ns.map V.int)/\ns[j]?=some i/\(∀m,m < j->ns[m]?≠some i)/\Q (.int j) H):=by
 intro pins s σ H x vs v us Q I rx rv h
 obtain⟨l,ns,i,j,rfl,rfl,hq,hj,hno,q⟩:=h
 cases rx
 obtain⟨u,rfl,ru⟩:=rv.one
 obtain⟨t,rfl⟩:=ru
 obtain⟨its,r,pl,hz⟩:=I.list hq
 obtain⟨⟨cls,dd,data,sl⟩,ho,hc,n,hd⟩:=id pl.isList
 simp only at hc hd
 subst hc hd
 have hl:its.length=ns.length:=by rw[<- r.length,zD]
 have hj1:j < ns.length:=(zU.mp hj).1
 have hz':ns.length<=sizeLine:=by rw[zD] at hz;exact hz
 have hs63:(sizeLine:Nat) < 2 ^ 62:=by decide
 have at_:∀m (hm:m < its.toArray.size),∃t',its.toArray[m]=.int (ns.getD m 0) t':=fun m hm=>pS r (Array.getElem?_eq_getElem hm)
 refine call_meets F.slot_list_index ⟨_,ho,rfl⟩ F.entry_list_index (F.args_list_index_2 _ _) (PySem.SeqAt.list_indexAt l its.toArray n dd sl (.int i t) (Nq i) j (by rw[zH,hl];exact hj1) (by omega) ?_ ?_) ⟨ho,?_,?_⟩
 ·obtain⟨t',e⟩:=at_ j (by rw[zH,hl];exact hj1)
  rw[e,Nq,zG,hj]
  simp
 ·intro m hm hmj
  obtain⟨t',e⟩:=at_ m hm
  have hm':m < ns.length:=by omega
  have:=hno m hmj
  rw[e,Nq,zG]
  rw[zK hm'] at this ⊢
  simp only[Option.getD_some,beq_eq_false_iff_ne]
  exact fun h=>this (by rw[h])
 ·intro y hy
  obtain⟨m,hm,rfl⟩:=Array.getElem_of_mem hy
  obtain⟨t',e⟩:=at_ m hm
  rw[e]
  exact PySem.SeqAt.EqAt.int_int _ _ _ _
 ·exact⟨.int j,H,I.tok _,⟨_,rfl⟩,q⟩
def xi(i:Int):List Int->Option Nat
 | []=>none
 | n::ns=>if n=i then some 0 else (xi i ns).map (·+1)
theorem oA{i:Int}:∀ {ns:List Int}{j:Nat},xi i ns=some j->ns[j]?=some i/\∀m,m < j->ns[m]?≠some i
 | [],j,h=>by cases h
 | n::ns,j,h=>by
  unfold xi at h
  split at h
  ·cases h
   rename_i e
   exact⟨by rw[e];rfl,fun m hm=>absurd hm (Nat.not_lt_zero _)⟩
  ·rename_i e
   obtain⟨k,hk,rfl⟩:=ag h
   obtain⟨a,b⟩:=oA hk
   refine⟨by simpa using a,fun m hm=>?_⟩
   cases m with
   | zero=>simpa using e
   | succ m=>simpa using b m (by omega)
def Pe:D->D->Option D
 | .list es,.int i=>(intsOf es).bind fun ns=>(xi i ns).map fun j=>.int ((j:Nat):Int)
 | _,_=>none
theorem HP{o e:Expr}{apos cpos:Pos}{fo fe:Env->Option D}(hbase:attributeBase o "index" X.env (eval o X.env)=eval o X.env)
  (hfew:((backTo cpos (starEach [e] X.env)).all (fun x=>!x.1)&&(backToKw cpos (keywordEach [] X.env)).all (fun x=>x.1.isSome)&&decide ([e].length+([]:List Keyword).length+(if ([]:List Keyword).isEmpty then 0 else 1) < 30))=true)
  (hline:(apos.endLine == cpos.line)=true) (hs:starEach [e] X.env=(false,eval e X.env)::starEach [] X.env) (ho:DE X o fo) (he:DE X e fe):DE X (.Call (.Attribute o "index" apos) [e] [] cpos) (f2 Pe fo fe) :=
 bu (yT PySem.F.plainAttrs_list PySem.F.slot_list_index PySem.F.type_list_index D3 ho (dg he iS hs) hbase hfew hline hs rfl) fun σ H Q ⟨HF,ρ,d,sm,eo,hf,q⟩=>by
  obtain⟨x,hx,hf⟩:=bs hf
  obtain⟨y,hy,hg⟩:=bs hf
  refine⟨HF,ρ,x,sm,eo,hx,fun v1 H1 HF1 g1 r1=>?_⟩
  cases x<;>try cases hg
  cases y<;>try cases hg
  rename_i es i
  obtain⟨ns,h1,hg⟩:=bs hg
  obtain⟨j,h2,rfl⟩:=ag hg
  have e1:=dX h1
  subst e1
  simp only[Rep] at r1
  obtain⟨l,us,rfl,hq,rr⟩:=r1
  have:=lK rr
  subst this
  refine⟨.inl ⟨rfl,_,g1.fh.seq hq⟩,HF1,ρ,.int i,g1.fh,eo.mono g1.ff,hy,fun v2 H2 HF2 g2 r2=>?_⟩
  simp only[Rep] at r2
  obtain⟨a,b⟩:=oA h2
  exact⟨l,ns,i,j,rfl,by rw[r2],g2.fh.seq (g2.ff.seq hq),a,b,q _ H2 HF2 (g1.trans g2) (by simp[Rep])⟩
end
end Dl
namespace Tx
open PySem PySem.SeqAt PyProof.Rows
open PySem.AutoSeq1 (wpAny_loadPart')
open PySem.MeetsSeq PySem.MeetsSeq2 PySem.MeetsSeq3
theorem wpR{M:Model}{A:Around}{E:Value->Shared->Prop}{s:Shared}{β:Type}(f:Nat->β->Sem (ForInStep β))(I:List Nat->β->Shared->Prop)(Q:β->Shared->Prop)
  (turn:∀x rest b s,I (x::rest) b s->wpAny M A (f x b) (fun r s'=>match r with|.yield b'=>I rest b' s'|.done b'=>Q b' s') E s)
  (fin:∀b s,I [] b s->Q b s) (n:Nat) (b:β) (h:I (List.range' 0 n 1) b s):wpAny M A (forIn [:n] b f) Q E s:=by
 have e:forIn [:n] b f=forIn (List.range' 0 n 1) b f:=by
  rw[Std.Legacy.Range.forIn_eq_forIn_range']
  simp[Std.Legacy.Range.size]
 rw[e]
 exact wpAny_forIn_list f I Q turn fin _ b h
theorem tuple_indexAt(l:Addr)(items:Array Value)(n:Nat)(dd:Option Addr)(sl:Array (Option Value))(x:Value)(e:Value->Bool)(j:Nat)(hj:j < items.size)(h1:e items[j]=true)(h2:∀m (hm:m < items.size),m < j->e items[m]=false) :
  Meets (Builtin.«tuple.index» ⟨[.ref l,x],[]⟩)
   (fun A R s=>s.heap.get? l=some { cls:=.type "tuple",dict:=dd,data:=.seq items n,slots:=sl }/\(∀y,y∈items->EqAt A.in1 s y x (e y))/\R (.ok (.ret (.int (j:Nat) s.toks))) { s with toks:=s.toks+1 }) :=
 .of_wp fun prog w A R s h=>by
  obtain⟨hp,g,d,tk,os⟩:=s;obtain⟨hl,he,h⟩:=h
  wp_walk using wpAny_loadPart' hl,wpR _ (fun rest b s'=>s'=⟨hp,g,d,tk,os⟩/\b.1=none/\∃i,i<=j/\rest=List.range' i (items.size - i) 1) _
  case turn =>
   rintro i rest b s' ⟨rfl,hb,i',hi,e1⟩
   have hlt:i' < items.size:=by omega
   rw[show items.size - i'=(items.size - (i'+1))+1 by omega,List.range'_succ] at e1
   injection e1 with e2 e3
   subst e2
   subst e3
   simp only[Array.getElem?_eq_getElem hlt]
   refine zW (he _ (Array.getElem_mem hlt) prog w _ _ ?_)
   by_cases hij:i=j
   ·subst hij
    rw[h1]
    wp_walk
    exact⟨_,rfl,h⟩
   ·rw[h2 i hlt (by omega)]
    wp_walk
    exact⟨rfl,rfl,i+1,by omega,rfl⟩
  case fin =>
   rintro b s' ⟨rfl,hb,i,hi,e1⟩
   have:=congrArg List.length e1
   simp at this
   omega
  case h =>
   exact⟨rfl,rfl,0,Nat.zero_le _,by simp⟩
end Tx
namespace Dl
open PySem L2 PySem.Spec PyProof.Rows
section
variable {X:Cx}
theorem De:NP X "tuple.index" (fun x vs H Q=>∃ (l:Addr) (ns:List Int) (i:Int) (j:Nat),x=.ref l/\vs=[.int i]/\jY X.K H l (ns.map V.int)/\ns[j]?=some i/\(∀m,m < j->ns[m]?≠some i)/\Q (.int j) H):=by
 intro pins s σ H x vs v us Q I rx rv h
 obtain⟨l,ns,i,j,rfl,rfl,hq,hj,hno,q⟩:=h
 cases rx
 obtain⟨u,rfl,ru⟩:=rv.one
 obtain⟨t,rfl⟩:=ru
 obtain⟨its,r,pl,hz⟩:=I.tuple hq
 obtain⟨⟨cls,dd,data,sl⟩,ho,hc,n,hd⟩:=id pl
 simp only at hc hd
 subst hc hd
 have hl:its.length=ns.length:=by rw[<- r.length,zD]
 have hj1:j < ns.length:=(zU.mp hj).1
 have at_:∀m (hm:m < its.toArray.size),∃t',its.toArray[m]=.int (ns.getD m 0) t':=fun m hm=>pS r (Array.getElem?_eq_getElem hm)
 refine call_meets F.slot_tuple_index ⟨_,ho,rfl⟩ F.entry_tuple_index (F.args_tuple_index_2 _ _) (Tx.tuple_indexAt l its.toArray n dd sl (.int i t) (Nq i) j (by rw[zH,hl];exact hj1) ?_ ?_) ⟨ho,?_,?_⟩
 ·obtain⟨t',e⟩:=at_ j (by rw[zH,hl];exact hj1)
  rw[e,Nq,zG,hj]
  simp
 ·intro m hm hmj
  obtain⟨t',e⟩:=at_ m hm
  have hm':m < ns.length:=by
   rw[zH] at hm
   omega
  have:=hno m hmj
  rw[e,Nq,zG]
  rw[zK hm'] at this ⊢
  simp only[Option.getD_some,beq_eq_false_iff_ne]
  exact fun h=>this (by rw[h])
 ·intro y hy
  obtain⟨m,hm,rfl⟩:=Array.getElem_of_mem hy
  obtain⟨t',e⟩:=at_ m hm
  rw[e]
  exact PySem.SeqAt.EqAt.int_int _ _ _ _
 ·exact⟨.int j,H,I.tok _,⟨_,rfl⟩,q⟩
theorem GM{e:Expr}{t u:TE}(h:PE X e t)(g:PE X e u):PE X e (fun σ H Q=>t σ H Q\/u σ H Q):=fun pins s σ H Q I q=>q.elim (h pins s σ H Q I) (g pins s σ H Q I)
def pd:D->D->Option D
 | .list es,.int i=>(intsOf es).bind fun ns=>(xi i ns).map fun j=>.int ((j:Nat):Int)
 | .tuple es,.int i=>(intsOf es).bind fun ns=>(xi i ns).map fun j=>.int ((j:Nat):Int)
 | _,_=>none
theorem D4{o e:Expr}{apos cpos:Pos}{fo fe:Env->Option D}(hbase:attributeBase o "index" X.env (eval o X.env)=eval o X.env)
  (hfew:((backTo cpos (starEach [e] X.env)).all (fun x=>!x.1)&&(backToKw cpos (keywordEach [] X.env)).all (fun x=>x.1.isSome)&&decide ([e].length+([]:List Keyword).length+(if ([]:List Keyword).isEmpty then 0 else 1) < 30))=true)
  (hline:(apos.endLine == cpos.line)=true) (hs:starEach [e] X.env=(false,eval e X.env)::starEach [] X.env) (ho:DE X o fo) (he:DE X e fe):DE X (.Call (.Attribute o "index" apos) [e] [] cpos) (f2 pd fo fe) :=
 bu (GM (HP hbase hfew hline hs ho he) (yT PySem.F.plainAttrs_tuple PySem.F.slot_tuple_index PySem.F.type_tuple_index De ho (dg he iS hs) hbase hfew hline hs rfl)) fun σ H Q ⟨HF,ρ,d,sm,eo,hf,q⟩=>by
  obtain⟨x,hx,hf⟩:=bs hf
  obtain⟨y,hy,hg⟩:=bs hf
  cases x<;>try cases hg
  ·cases y<;>try cases hg
   rename_i es i
   exact .inl ⟨HF,ρ,d,sm,eo,by simp only[f2,hx,hy,zA];exact hg,q⟩
  ·cases y<;>try cases hg
   rename_i es i
   obtain⟨ns,h1,hg⟩:=bs hg
   obtain⟨j,h2,rfl⟩:=ag hg
   have e1:=dX h1
   subst e1
   refine .inr ⟨HF,ρ,_,sm,eo,hx,fun v1 H1 HF1 g1 r1=>?_⟩
   simp only[Rep] at r1
   obtain⟨l,us,rfl,hq,rr⟩:=r1
   have:=lK rr
   subst this
   refine⟨?_,HF1,ρ,.int i,g1.fh,eo.mono g1.ff,hy,fun v2 H2 HF2 g2 r2=>?_⟩
   ·first|exact .inr (.inl ⟨rfl,_,aG g1.fh hq⟩)|exact .inl ⟨rfl,_,aG g1.fh hq⟩|exact .inr ⟨rfl,_,aG g1.fh hq⟩
   ·simp only[Rep] at r2
    obtain⟨a,b⟩:=oA h2
    exact⟨l,ns,i,j,rfl,by rw[r2],aG g2.fh (aG g2.ff hq),a,b,q _ H2 HF2 (g1.trans g2) (by simp[Rep])⟩
end
end Dl
namespace Zp
open PySem PyProof.Rows
def IsI(b:Bool)(h:Heap)(it l:Addr)(k:Nat):Prop:=match b with|true=>h.IsTupleIter it l k|false=>h.IsListIter it l k
def IsS(b:Bool)(h:Heap)(l:Addr)(xs:Array Value):Prop:=match b with|true=>h.IsTuple l xs|false=>h.IsList l xs
theorem IsI.obj{b:Bool}{h:Heap}{it l:Addr}{k:Nat}(x:IsI b h it l k):∃o,h.get? it=some o/\∀v,o.data≠.cell v:=by
 cases b
 ·obtain⟨o,e,_,d⟩:=(show h.IsListIter it l k from x);exact⟨o,e,fun v q=>by rw[d] at q;cases q⟩
 ·obtain⟨o,e,_,d⟩:=(show h.IsTupleIter it l k from x);exact⟨o,e,fun v q=>by rw[d] at q;cases q⟩
theorem IsI.at{b:Bool}{h h':Heap}{it l:Addr}{k:Nat}(x:IsI b h it l k)(e:∀o,h.get? it=some o->h'.get? it=some o):IsI b h' it l k:=by
 cases b
 ·exact Heap.IsListIter.at x e
 ·exact Heap.IsTupleIter.at x e
theorem IsI.extBut{b:Bool}{h h':Heap}{a it l:Addr}{k:Nat}(x:IsI b h it l k)(e:Heap.ExtBut a h h')(n:it≠a):IsI b h' it l k:=x.at fun o q=>e it o n q
theorem IsS.at{b:Bool}{h h':Heap}{l:Addr}{xs:Array Value}(x:IsS b h l xs)(e:∀o,h.get? l=some o->h'.get? l=some o):IsS b h' l xs:=by
 cases b
 ·obtain⟨o,q,r⟩:=(show h.IsList l xs from x);exact⟨o,e o q,r⟩
 ·obtain⟨o,q,r⟩:=(show h.IsTuple l xs from x);exact⟨o,e o q,r⟩
theorem IsS.extBut{b:Bool}{h h':Heap}{a l:Addr}{xs:Array Value}(x:IsS b h l xs)(e:Heap.ExtBut a h h')(n:l≠a):IsS b h' l xs:=x.at fun o q=>e l o n q
section
variable {prog:Program}{w:World}{A:Around}{E:Value->Shared->Prop}{s:Shared}
theorem nxt{b:Bool}{j t:Addr}{k:Nat}{its:Array Value}{v:Value}{Q:Value->Shared->Prop}(hj:IsI b s.heap j t k)(ht:IsS b s.heap t its)(hv:its[k]?=some v)
  (hQ:∀g,IsI b g j t (k+1)->Heap.SameBut j s.heap g->Q v { s with heap:=g }):wpAny (model prog w) A (Builtin.SmallTypes.nextOf (.ref j)) Q E s:=by
 cases b
 ·exact wpAny_nextOf_list_item hj ht hv hQ
 ·exact En.nextT_item hj ht hv hQ
theorem nxtE{b:Bool}{j t:Addr}{k:Nat}{its:Array Value}{Q:Value->Shared->Prop}(hh:A.handled=none)(hj:IsI b s.heap j t k)(ht:IsS b s.heap t its)(hv:its[k]?=none)
  (hE:∀g x,Heap.ExtBut j s.heap g->(∃o,g.get? x=some o/\o.cls=.type "StopIteration")->E (.ref x) { s with heap:=g }):wpAny (model prog w) A (Builtin.SmallTypes.nextOf (.ref j)) Q E s:=by
 cases b
 ·exact wpAny_nextOf_list_end hh hj ht hv hE
 ·exact En.nextT_end hh hj ht hv hE
structure ZS(b₁ b₂:Bool)(h₀ h:Heap)(z TI TO i j l m:Addr)(xs ys:Array Value)(f:Value)(p q:Nat)(a b:Value):Prop where
 zo:IsZip h z TI TO f
 ti:IsPair h TI (.ref i) (.ref j)
 to:IsPair h TO a b
 wi:IsI b₁ h i l p
 wj:IsI b₂ h j m q
 sl:IsS b₁ h l xs
 sm:IsS b₂ h m ys
 kp:∀c o,c≠z->c≠TO->c≠i->c≠j->h₀.get? c=some o->h.get? c=some o
 sz:h.objs.size=h₀.objs.size
section
variable {b₁ b₂:Bool}{h₀ h g:Heap}{z TI TO i j l m:Addr}{xs ys:Array Value}{f f':Value}{p q:Nat}{a b x y:Value}
theorem ZS.fl(Z:ZS b₁ b₂ h₀ h z TI TO i j l m xs ys f p q a b)(D:ZipApart z TI TO i j l m)(e:IsZip g z TI TO f')(t:Heap.SameBut z h g):ZS b₁ b₂ h₀ g z TI TO i j l m xs ys f' p q a b :=
 ⟨e,t.extBut _ _ D.TIz Z.ti,t.extBut _ _ D.TOz Z.to,Z.wi.extBut t.extBut D.i1z,Z.wj.extBut t.extBut D.i2z,Z.sl.extBut t.extBut D.l1z,Z.sm.extBut t.extBut D.l2z,fun c o n1 n2 n3 n4 r=>t.extBut _ _ n1 (Z.kp c o n1 n2 n3 n4 r),t.1.trans Z.sz⟩
theorem ZS.fst(Z:ZS b₁ b₂ h₀ h z TI TO i j l m xs ys f p q a b)(D:ZipApart z TI TO i j l m)(e:IsI b₁ g i l (p+1))(t:Heap.SameBut i h g):ZS b₁ b₂ h₀ g z TI TO i j l m xs ys f (p+1) q a b :=
 ⟨t.extBut _ _ D.i1z.symm Z.zo,t.extBut _ _ D.TIi1 Z.ti,t.extBut _ _ D.TOi1 Z.to,e,Z.wj.extBut t.extBut D.i12.symm,Z.sl.extBut t.extBut D.l1i1,Z.sm.extBut t.extBut D.l2i1,fun c o n1 n2 n3 n4 r=>t.extBut _ _ n3 (Z.kp c o n1 n2 n3 n4 r),t.1.trans Z.sz⟩
theorem ZS.snd(Z:ZS b₁ b₂ h₀ h z TI TO i j l m xs ys f p q a b)(D:ZipApart z TI TO i j l m)(e:IsI b₂ g j m (q+1))(t:Heap.SameBut j h g):ZS b₁ b₂ h₀ g z TI TO i j l m xs ys f p (q+1) a b :=
 ⟨t.extBut _ _ D.i2z.symm Z.zo,t.extBut _ _ D.TIi2 Z.ti,t.extBut _ _ D.TOi2 Z.to,Z.wi.extBut t.extBut D.i12,e,Z.sl.extBut t.extBut D.l1i2,Z.sm.extBut t.extBut D.l2i2,fun c o n1 n2 n3 n4 r=>t.extBut _ _ n4 (Z.kp c o n1 n2 n3 n4 r),t.1.trans Z.sz⟩
theorem ZS.put(Z:ZS b₁ b₂ h₀ h z TI TO i j l m xs ys f p q a b)(D:ZipApart z TI TO i j l m)(e:IsPair g TO x y)(t:Heap.SameBut TO h g):ZS b₁ b₂ h₀ g z TI TO i j l m xs ys f p q x y :=
 ⟨t.extBut _ _ D.TOz.symm Z.zo,t.extBut _ _ D.TITO Z.ti,e,Z.wi.extBut t.extBut D.TOi1.symm,Z.wj.extBut t.extBut D.TOi2.symm,Z.sl.extBut t.extBut D.l1TO,Z.sm.extBut t.extBut D.l2TO,fun c o n1 n2 n3 n4 r=>t.extBut _ _ n2 (Z.kp c o n1 n2 n3 n4 r),t.1.trans Z.sz⟩
end
variable {b₁ b₂:Bool}{z TI TO i j l m:Addr}{xs ys:Array Value}{p q:Nat}{a b:Value}
theorem zipN{Q:Value->Shared->Prop}(hn:A.handled=none)(D:ZipApart z TI TO i j l m)(Z:ZS b₁ b₂ s.heap s.heap z TI TO i j l m xs ys .none p q a b)
  (item:∀x y g g',xs[p]?=some x->ys[q]?=some y->ZS b₁ b₂ s.heap g z TI TO i j l m xs ys .ellipsis (p+1) (q+1) x y->IsZip g' z TI TO (rawInt g.objs.size) ->
   Heap.SameBut z (g.push { cls:=.type "tuple",data:=.seq #[x,y] }) g'->Q (.ref g.objs.size) { s with heap:=g' })
  (over:(xs[p]?=none\/ys[q]?=none)->∀g e,(∀c o,c≠z->c≠TO->c≠i->c≠j->s.heap.get? c=some o->g.get? c=some o)->(∃o,g.get? e=some o/\o.cls=.type "StopIteration")->E (.ref e) { s with heap:=g }) :
  wpAny (model prog w) A (Builtin.«zip.__next__» ⟨[.ref z],[]⟩) (fun r s'=>∃v,r=.done (.ret v)/\Q v s') E s:=by
 have stop:∀ {g1 g2:Heap}{e:Addr}{c:Addr}{p' q':Nat}{a' b':Value},ZS b₁ b₂ s.heap g1 z TI TO i j l m xs ys .ellipsis p' q' a' b'->(c=i\/c=j)->(xs[p]?=none\/ys[q]?=none)->Heap.ExtBut c g1 g2 ->
   (∃o,g2.get? e=some o/\o.cls=.type "StopIteration")->wpAny (model prog w) A (setField (.ref z) 0 Value.none) (fun _ t=>E (.ref e) t) E { s with heap:=g2 }:=by
  intro g1 g2 e c p' q' a' b' Y hc hv k ⟨o,ho,ht⟩
  have cz:z≠c:=hc.elim (fun e=>e ▸ D.i1z.symm) fun e=>e ▸ D.i2z.symm
  have Yz:IsZip g2 z TI TO .ellipsis:=k _ _ cz Y.zo
  refine wpAny_setField_rec Yz (by simp) fun g3 _ t=>over hv g3 e (fun d u n1 n2 n3 n4 r=>t.extBut _ _ n1 (k _ _ ?_ (Y.kp d u n1 n2 n3 n4 r))) ⟨o,t.extBut _ _ ?_ ho,ht⟩
  ·exact hc.elim (fun e=>e ▸ n3) fun e=>e ▸ n4
  ·rintro rfl;rw[Yz] at ho;cases ho;simp at ht
 show wpAny _ _ (field (.ref z) 2 >>= _) _ _ _
 refine zW (wpAny_field Z.zo rfl (x:=.bool false) rfl (zW (wpAny_field Z.zo rfl (x:=.ref TI) rfl (zW (wpAny_seqItems Z.ti rfl (zW (m:=Builtin.SmallTypes.ownedTupleIsFree _) ?_))))))
 refine zW (wpAny_field Z.zo rfl (x:=.none) rfl (zX ?_))
 rw[if_pos rfl]
 refine zW (wpAny_rule (zW (wpAny_field Z.zo rfl (x:=.ref TO) rfl (zW (wpAny_setField_rec Z.zo (by simp) fun g1 e1 t1=>?_)))))
 have Z1:=Z.fl D (f':=.ellipsis) e1 t1
 refine zW ?_
 simp only[List.zipIdx_cons,List.zipIdx_nil,List.forIn_cons,List.forIn_nil]
 refine zW (zW (wpAny_onRaise (zW (m:=Builtin.SmallTypes.nextOf _) ?_)))
 cases hx:xs[p]? with
 | none=>exact nxtE hn Z1.wi Z1.sl hx fun g2 e k o=>stop Z1 (.inl rfl) (.inl hx) k o
 | some x =>
 refine nxt Z1.wi Z1.sl hx fun g2 e2 t2=>zX ?_
 have Z2:=Z1.fst D e2 t2
 refine zW (wpAny_seqItems Z2.to rfl (zW (wpAny_updateSeq_pair Z2.to fun g3 e3 t3=>zW (wpAny_letGo (zX ?_)))))
 have Z3:=Z2.put D (x:=x) (y:=b) e3 t3
 refine zW (zW (wpAny_onRaise (zW (m:=Builtin.SmallTypes.nextOf _) ?_)))
 cases hy:ys[q]? with
 | none=>exact nxtE hn Z3.wj Z3.sm hy fun g4 e k o=>stop Z3 (.inr rfl) (.inr hy) k o
 | some y =>
 refine nxt Z3.wj Z3.sm hy fun g4 e4 t4=>zX ?_
 have Z4:=Z3.snd D e4 t4
 refine zW (wpAny_seqItems Z4.to rfl (zW (wpAny_updateSeq_pair Z4.to fun g5 e5 t5=>zW (wpAny_letGo (zX (zX ?_))))))
 have Z5:=Z4.put D (x:=x) (y:=y) e5 t5
 refine zW (wpAny_seqItems Z5.to rfl (zW (wpAny_newTuple (zW (m:=Builtin.SmallTypes.ownedTupleHandOut _ _) ?_))))
 refine zW (wpAny_setField_rec (zV _ Z5.zo) (by simp) fun g6 e6 t6=>wpAny_setField_rec e6 (by simp) fun g7 e7 t7=>zX ⟨_,rfl,?_⟩)
 exact item x y g5 g7 hx hy Z5 e7 (t6.trans t7)
theorem nextZ{x y:Value}{Q:Option Value->Shared->Prop}(hn:A.handled=none)(D:ZipApart z TI TO i j l m)
  (qz:IsZip s.heap z TI TO .none) (qI:IsPair s.heap TI (.ref i) (.ref j)) (qO:IsPair s.heap TO a b)
  (p1:IsI b₁ s.heap i l p) (p2:IsI b₂ s.heap j m q) (r1:IsS b₁ s.heap l xs) (r2:IsS b₂ s.heap m ys) (ex:xs[p]?=some x) (ey:ys[q]?=some y)
  (kQ:∀g,IsZip g z TI TO (rawInt s.heap.objs.size)->IsPair g TO x y->IsI b₁ g i l (p+1)->IsI b₂ g j m (q+1)->IsPair g s.heap.objs.size x y->g.objs.size=s.heap.objs.size+1 ->
   (∀c o,c≠z->c≠TO->c≠i->c≠j->s.heap.get? c=some o->g.get? c=some o)->Q (some (.ref s.heap.objs.size)) { s with heap:=g }) :
  wpAny (model prog w) A (pyNext (.ref z)) Q E s:=by
 have ty:s.TypeIs (.ref z) "zip":=⟨_,qz,rfl⟩
 have Z:ZS b₁ b₂ s.heap s.heap z TI TO i j l m xs ys .none p q a b:=⟨qz,qI,qO,p1,p2,r1,r2,fun _ _ _ _ _ _ e=>e,rfl⟩
 refine zW (wpAny_attempt (wpAny_callSpecial?_slot (name:=Str.ofString "__next__") ty F.slot_zip_next (wpAny_call_entry F.slot_zip_next ty F.entry_zip_next (zipN hn D Z ?_ ?_) (F.args_zip_next_1 _))))
 ·intro x' y' g g' hx hy Y ez t
  rw[ex] at hx;rw[ey] at hy;cases hx;cases hy
  rw[Y.sz] at ez ⊢
  have lt:=zZ Y.zo
  have up:∀c o,c≠z->g.get? c=some o->g'.get? c=some o:=fun c o n e=>t.extBut _ _ n (zV _ e)
  refine zX (kQ g' ez (up _ _ D.TOz Y.to) (Y.wi.at fun o e=>up _ _ D.i1z e) (Y.wj.at fun o e=>up _ _ D.i2z e) ?_ (by rw[t.1,Heap.size_push,Y.sz]) fun c o n1 n2 n3 n4 e=>up c o n1 (Y.kp c o n1 n2 n3 n4 e))
  rw[<- Y.sz]
  exact t.extBut _ _ (Nat.ne_of_gt lt) (zY _ rfl)
 ·intro no
  rw[ex,ey] at no
  rcases no with no|no<;>cases no
theorem nextZE{Q:Option Value->Shared->Prop}(hn:A.handled=none)(D:ZipApart z TI TO i j l m)
  (qz:IsZip s.heap z TI TO .none) (qI:IsPair s.heap TI (.ref i) (.ref j)) (qO:IsPair s.heap TO a b)
  (p1:IsI b₁ s.heap i l p) (p2:IsI b₂ s.heap j m q) (r1:IsS b₁ s.heap l xs) (r2:IsS b₂ s.heap m ys) (ends:xs[p]?=none\/ys[q]?=none)
  (kQ:∀g,(∀c o,c≠z->c≠TO->c≠i->c≠j->s.heap.get? c=some o->g.get? c=some o)->Q none { s with heap:=g }):wpAny (model prog w) A (pyNext (.ref z)) Q E s:=by
 have ty:s.TypeIs (.ref z) "zip":=⟨_,qz,rfl⟩
 have Z:ZS b₁ b₂ s.heap s.heap z TI TO i j l m xs ys .none p q a b:=⟨qz,qI,qO,p1,p2,r1,r2,fun _ _ _ _ _ _ e=>e,rfl⟩
 refine zW (wpAny_attempt (wpAny_callSpecial?_slot (name:=Str.ofString "__next__") ty F.slot_zip_next (wpAny_call_entry F.slot_zip_next ty F.entry_zip_next (zipN hn D Z ?_ ?_) (F.args_zip_next_1 _))))
 ·intro x y g g' hx hy
  rw[hx,hy] at ends
  rcases ends with no|no<;>cases no
 ·rintro _ g e kp ⟨o,ho,ht⟩
  exact zW (wpAny_isInstance (T:="StopIteration") (b:=true) ⟨o,ho,ht⟩ isSubtype_stop (zX (kQ _ kp)))
end
abbrev itO(b:Bool)(l:Addr):Obj:={ cls:=.type (if b then "tuple_iterator" else "list_iterator"),data:=.fields #[.ref l,.int 0 0] }
abbrev z1(b:Bool)(h:Heap)(l:Addr):Heap:=h.push (itO b l)
abbrev z2(b c:Bool)(h:Heap)(l m:Addr):Heap:=(z1 b h l).push (itO c m)
abbrev z3(b c:Bool)(h:Heap)(l m:Addr):Heap:=(z2 b c h l m).push { cls:=.type "tuple",data:=.seq #[.ref h.objs.size,.ref (z1 b h l).objs.size] }
abbrev z4(b c:Bool)(h:Heap)(l m:Addr):Heap:=(z3 b c h l m).push { cls:=.type "tuple",data:=.seq #[.none,.none] }
abbrev z5(b c:Bool)(h:Heap)(l m:Addr):Heap:=(z4 b c h l m).push { cls:=.type "zip",data:=.fields #[.none,.bool false,.bool false,.ref (z2 b c h l m).objs.size,.ref (z3 b c h l m).objs.size] }
theorem IsS.push{b:Bool}{h:Heap}{l:Addr}{xs:Array Value}(x:IsS b h l xs)(o:Obj):IsS b (h.push o) l xs:=x.at fun o' e=>zV _ e
theorem new_zip(b c:Bool)(l m:Addr)(xs ys:Array Value):Meets (Builtin.«zip.__new__» ⟨[.type "zip",.ref l,.ref m],[]⟩) (fun _ R s=>IsS b s.heap l xs/\IsS c s.heap m ys/\R (.ok (.ret (.ref (z4 b c s.heap l m).objs.size))) { s with heap:=z5 b c s.heap l m }) :=
 .of_wp fun prog w A R s h=>by
  obtain⟨hp,g,d,tk,os⟩:=s;obtain⟨q1,q2,h⟩:=h
  have hsub:=sub_zip
  cases b<;>cases c
  ·have L1:Heap.IsList (Shared.heap ⟨hp,g,d,tk,os⟩) l xs:=q1
   have L2:Heap.IsList (Shared.heap ⟨hp.push { cls:=.type "list_iterator",data:=.fields #[.ref l,.int 0 0] },g,d,tk,os⟩) m ys:=IsS.push (b:=false) q2 _
   wp_walk using wpAny_pyIter_list L1,wpAny_pyIter_list L2
   exact⟨_,rfl,h⟩
  ·have L1:Heap.IsList (Shared.heap ⟨hp,g,d,tk,os⟩) l xs:=q1
   have L2:Heap.IsTuple (Shared.heap ⟨hp.push { cls:=.type "list_iterator",data:=.fields #[.ref l,.int 0 0] },g,d,tk,os⟩) m ys:=IsS.push (b:=true) q2 _
   wp_walk using wpAny_pyIter_list L1,wpAny_pyIter_tuple L2
   exact⟨_,rfl,h⟩
  ·have L1:Heap.IsTuple (Shared.heap ⟨hp,g,d,tk,os⟩) l xs:=q1
   have L2:Heap.IsList (Shared.heap ⟨hp.push { cls:=.type "tuple_iterator",data:=.fields #[.ref l,.int 0 0] },g,d,tk,os⟩) m ys:=IsS.push (b:=false) q2 _
   wp_walk using wpAny_pyIter_tuple L1,wpAny_pyIter_list L2
   exact⟨_,rfl,h⟩
  ·have L1:Heap.IsTuple (Shared.heap ⟨hp,g,d,tk,os⟩) l xs:=q1
   have L2:Heap.IsTuple (Shared.heap ⟨hp.push { cls:=.type "tuple_iterator",data:=.fields #[.ref l,.int 0 0] },g,d,tk,os⟩) m ys:=IsS.push (b:=true) q2 _
   wp_walk using wpAny_pyIter_tuple L1,wpAny_pyIter_tuple L2
   exact⟨_,rfl,h⟩
section
variable {prog:Program}{w:World}{A:Around}{E:Value->Shared->Prop}{s:Shared}
theorem isI_new{b:Bool}{h:Heap}{it l:Addr}(e:h.get? it=some (itO b l)):IsI b h it l 0:=by
 cases b
 ·exact⟨_,e,rfl,rfl⟩
 ·exact⟨_,e,rfl,rfl⟩
theorem call_zip{b c:Bool}{l m:Addr}{xs ys:Array Value}{Q:Value->Shared->Prop}(q1:IsS b s.heap l xs)(q2:IsS c s.heap m ys)
  (h:∀g,IsZip g (s.heap.objs.size+4) (s.heap.objs.size+2) (s.heap.objs.size+3) .none->IsPair g (s.heap.objs.size+2) (.ref s.heap.objs.size) (.ref (s.heap.objs.size+1))->IsPair g (s.heap.objs.size+3) .none .none ->
   IsI b g s.heap.objs.size l 0->IsI c g (s.heap.objs.size+1) m 0->(∀a o,s.heap.get? a=some o->g.get? a=some o)->Q (.ref (s.heap.objs.size+4)) { s with heap:=g }) :
  wpAny (model prog w) A (call (.type "zip") [.ref l,.ref m]) Q E s:=by
 refine callType_new F.called_zip (by decide) (F.typeCall_zip_2 _ _) (F.newCall_zip_2 _ _) (fun obj=>F.args_object_init_3 obj _ _) F.entry_zip_new (new_zip b c l m xs ys) ⟨q1,q2,?_⟩
 have n1:(z1 b s.heap l).objs.size=s.heap.objs.size+1:=Heap.size_push ..
 have n2:(z2 b c s.heap l m).objs.size=s.heap.objs.size+2:=by rw[Heap.size_push,n1]
 have n3:(z3 b c s.heap l m).objs.size=s.heap.objs.size+3:=by rw[Heap.size_push,n2]
 have n4:(z4 b c s.heap l m).objs.size=s.heap.objs.size+4:=by rw[Heap.size_push,n3]
 have g5:(z5 b c s.heap l m).get? (z4 b c s.heap l m).objs.size=some _:=zY _ rfl
 have g4:(z5 b c s.heap l m).get? (z3 b c s.heap l m).objs.size=some _:=zV _ (zY _ rfl)
 have g3:(z5 b c s.heap l m).get? (z2 b c s.heap l m).objs.size=some _:=zV _ (zV _ (zY _ rfl))
 have g2:(z5 b c s.heap l m).get? (z1 b s.heap l).objs.size=some (itO c m):=zV _ (zV _ (zV _ (zY _ rfl)))
 have g1:(z5 b c s.heap l m).get? s.heap.objs.size=some (itO b l):=zV _ (zV _ (zV _ (zV _ (zY _ rfl))))
 show _/\_
 rw[n2,n3,n4] at g5
 rw[n1,n2] at g3
 rw[n3] at g4
 rw[n1] at g2
 rw[n4]
 exact⟨⟨_,g5,rfl⟩,h _ g5 g3 g4 (isI_new g1) (isI_new g2) fun a o x=>zV _ (zV _ (zV _ (zV _ (zV _ x))))⟩
end
end Zp
namespace Dl
open PySem L2 PySem.Spec PyProof.Rows Zp
def uG(K:W.Frag)(b:Bool)(a:Addr)(H:Hp)(xs:List V):Prop:=match b with|true=>jY K H a xs|false=>hZ K H a xs
section
variable {X:Cx}{pins:List (Addr×Obj)}{σ:L2.St}{H:Hp}{s:Shared}{b:Bool}{a:Addr}{xs ys:List V}
theorem uG.src(I:Inv X pins σ H s)(h:uG X.K b a H xs):∃its:List Value,aH xs its/\IsS b s.heap a its.toArray/\xs.length<=sizeLine:=by
 cases b
 ·obtain⟨its,rv,pl,hz⟩:=I.list (show hZ X.K H a xs from h);exact⟨its,rv,pl.isList,hz⟩
 ·obtain⟨its,rv,pl,hz⟩:=I.tuple (show jY X.K H a xs from h);exact⟨its,rv,pl,hz⟩
theorem uG.ne(I:Inv X pins σ H s){c:Addr}(hf:cK X pins H c)(h:uG X.K b a H xs):a≠c:=by
 cases b
 ·exact Ll I hf h
 ·exact LZ I hf h
theorem uG.inj(I:Inv X pins σ H s)(h:uG X.K b a H xs)(h':uG X.K b a H ys):xs=ys:=by
 cases b
 ·exact I.list_inj h h'
 ·exact I.tuple_inj h h'
theorem uG.mono{K:W.Frag}{H H':Hp}(e:aR H H')(h:uG K b a H xs):uG K b a H' xs:=by
 cases b
 ·exact e.seq h
 ·exact aG e h
end
theorem D6{P:Program}{w:World}{K:W.Frag}{elts:List Expr}{k:Nat}{pos:Pos}(b c:Bool)(l1 l2 z TI TO i1 i2:Addr)(Z:Qv z TI TO i1 i2) :
  Turn P w K (.Tuple elts k pos) (Pp (uG K b l1) (uG K c l2)) [z,TI,TO,i1,i2] z (fun i h=>IsZip h z TI TO .none/\IsPair h TI (.ref i1) (.ref i2)/\(∃a b,IsPair h TO a b)/\IsI b h i1 l1 i/\IsI c h i2 l2 i) where
 mem:=by simp
 obj:=fun i h st d hd=>by
  obtain⟨hz,hTI,⟨a,b',hTO⟩,p1,p2⟩:=st
  simp only[zR,yG,or_false] at hd
  rcases hd with rfl|rfl|rfl|rfl|rfl
  ·exact⟨_,hz,fun v q=>by have q:Data.fields _=Data.cell v:=q;cases q⟩
  ·exact⟨_,hTI,fun v q=>by have q:Data.seq _ _=Data.cell v:=q;cases q⟩
  ·exact⟨_,hTO,fun v q=>by have q:Data.seq _ _=Data.cell v:=q;cases q⟩
  ·exact p1.obj
  ·exact p2.obj
 keep:=fun i h h' st kk=>by
  obtain⟨hz,hTI,⟨a,b',hTO⟩,h1,h2⟩:=st
  exact⟨kk z (by simp) _ hz,kk TI (by simp) _ hTI,⟨a,b',kk TO (by simp) _ hTO⟩,h1.at fun o q=>kk i1 (by simp) o q,h2.at fun o q=>kk i2 (by simp) o q⟩
 item:=by
  intro X hP hw hK hc i pins s σ H E I hf st hg
  subst hP hw hK
  obtain⟨xs,ys,x,y,hq1,hq2,hx,hy⟩:=hg
  obtain⟨its1,rv1,p1,hz1⟩:=hq1.src I
  obtain⟨its2,rv2,p2,hz2⟩:=hq2.src I
  obtain⟨u1,hu1,ru1⟩:=rv1.get hx
  obtain⟨u2,hu2,ru2⟩:=rv2.get hy
  have D:ZipApart z TI TO i1 i2 l1 l2:=⟨Z.a1,Z.a2,Z.a3,Z.a4,Z.a5,Z.a6,Z.a7,Z.a8,Z.a9,Z.a0,hq1.ne I (hf z (by simp)),hq1.ne I (hf TO (by simp)),hq1.ne I (hf i1 (by simp)),hq1.ne I (hf i2 (by simp)),hq2.ne I (hf z (by simp)),hq2.ne I (hf TO (by simp)),hq2.ne I (hf i1 (by simp)),hq2.ne I (hf i2 (by simp))⟩
  obtain⟨hz,hTI,⟨a,b',hTO⟩,h1,h2⟩:=st
  refine nextZ (I.ok.hd hc) D hz hTI hTO h1 h2 p1 p2 (x:=u1) (y:=u2) (by simpa using hu1) (by simpa using hu2) fun g b1 b2 b3 b4 b5 b6 hk=>⟨.ref s.heap.objs.size,rfl,?_⟩
  have lt:∀ {c:Addr}{o:Obj},s.heap.get? c=some o->s.heap.objs.size≠c:=fun e=>Nat.ne_of_gt (zZ e)
  refine wpAny_letOwnedTupleGo_zip (s:={ s with heap:=g }) b1 fun g' hz' hs'=>?_
  have b5':g'.get? s.heap.objs.size=some { cls:=.type "tuple",data:=.seq #[u1,u2] }:=hs'.extBut _ _ (lt hz) b5
  have ht:rF g' s.heap.objs.size (List.toArray [u1,u2]):=⟨⟨_,b5',rfl,_,rfl⟩,_,b5',rfl⟩
  refine⟨.ref s.heap.objs.size,_,yh (ch:=[z,TI,TO,i1,i2]) (xs:=[x,y]) (t':=s.toks) I hf (fun b o hb q=>?_) (zzA _) ht (.cons ru1 (.cons ru2 .nil)) (by show 2<=sizeLine;decide),rfl,
   ⟨s.heap.objs.size,x,y,rfl,I.fresh,rfl,fun zs hzs=>by rw[hzs.inj I hq1];exact hx,fun zs hzs=>by rw[hzs.inj I hq2];exact hy⟩,
   ⟨hz',hs'.extBut _ _ Z.a1 (hk _ _ D.TIz D.TITO D.TIi1 D.TIi2 hTI),⟨_,_,hs'.extBut _ _ Z.a2 b2⟩,b3.extBut hs'.extBut Z.a3,b4.extBut hs'.extBut Z.a4⟩,fun b hb=>?_⟩
  ·simp only[zR,yG,or_false,not_or] at hb
   exact hs'.extBut _ _ hb.1 (hk b o hb.1 hb.2.2.1 hb.2.2.2.1 hb.2.2.2.2 q)
  ·have:s.heap.objs.size≠b:=by
    simp only[zR,yG,or_false] at hb
    obtain⟨o1,g1,_⟩:=h1.obj
    obtain⟨o2,g2,_⟩:=h2.obj
    rcases hb with rfl|rfl|rfl|rfl|rfl
    ·exact lt hz
    ·exact lt hTI
    ·exact lt hTO
    ·exact lt g1
    ·exact lt g2
   rw[aE (Ne.symm this)]
   exact (hf b hb).1
 done:=by
  intro X hP hw hK hc i pins s σ H E I hf st hg
  subst hP hw hK
  obtain⟨xs,ys,hq1,hq2,hx⟩:=hg
  obtain⟨its1,rv1,p1,hz1⟩:=hq1.src I
  obtain⟨its2,rv2,p2,hz2⟩:=hq2.src I
  have D:ZipApart z TI TO i1 i2 l1 l2:=⟨Z.a1,Z.a2,Z.a3,Z.a4,Z.a5,Z.a6,Z.a7,Z.a8,Z.a9,Z.a0,hq1.ne I (hf z (by simp)),hq1.ne I (hf TO (by simp)),hq1.ne I (hf i1 (by simp)),hq1.ne I (hf i2 (by simp)),hq2.ne I (hf z (by simp)),hq2.ne I (hf TO (by simp)),hq2.ne I (hf i1 (by simp)),hq2.ne I (hf i2 (by simp))⟩
  obtain⟨hz,hTI,⟨a,b',hTO⟩,h1,h2⟩:=st
  have e1:=rv1.length
  have e2:=rv2.length
  refine nextZE (I.ok.hd hc) D hz hTI hTO h1 h2 p1 p2 (hx.elim (fun q=>.inl (by simp;omega)) fun q=>.inr (by simp;omega)) fun g hk=>⟨rfl,?_⟩
  refine Dt (ch:=[z,TI,TO,i1,i2]) (t':=s.toks) I hf fun b o hb q=>?_
  simp only[zR,yG,or_false,not_or] at hb
  exact hk b o hb.1 hb.2.2.1 hb.2.2.2.1 hb.2.2.2.2 q
 self:=fun _ _ _ _ _ st h=>wpAny_pyIter_zip st.1 h
section
variable {X:Cx}{l l':Expr}{fs:Env->Option (List D)}{elts:List Expr}{k:Nat}{pos p tp:Pos}
theorem Kl{tl:TA}(B:nU X "zip" (.type "zip"))(ha:PA X [l,l'] tl)(hs:starEach [l,l'] X.env=(false,eval l X.env)::starEach [l'] X.env)(hs2:(backTo pos (starEach [l'] X.env)).any (·.1)=false) :
  PI X (.Tuple elts k tp) (.Call (.Name "zip" p) [l,l'] [] pos) (fun σ H R=>tl σ H fun vs H1=>∃a b,vs=[.ref a,.ref b]/\∃c d xs ys,uG X.K c a H1 xs/\uG X.K d b H1 ys/\R (Pp (uG X.K c a) (uG X.K d b)) H1):=by
 intro pins s σ H R I h
 refine Call_ (jK I B.gl B.mg B.bt (PyProof.Rows.callWith_type1 (cy (ha pos pins s σ H _ I h) fun us s1 ⟨vs,H1,I1,r1,q1⟩=>?_) hs hs2))
 obtain⟨a,b,e,c,d,xs,ys,hq1,hq2,q⟩:=q1
 subst e
 obtain⟨u,u',rfl,rx,ry⟩:=vals2 r1
 cases rx
 cases ry
 obtain⟨its,rv,pl,hz⟩:=hq1.src I1
 obtain⟨its',rv',pl',hz'⟩:=hq2.src I1
 refine call_zip pl pl' fun g b1 b2 b3 b4 b5 kp=>wpAny_pyIter_zip (s:={ s1 with heap:=g }) b1 ?_
 refine⟨_,_,_,_,H1,rfl,I1.kept (t':=s1.toks) kp,D6 c d a b (s1.heap.objs.size+4) (s1.heap.objs.size+2) (s1.heap.objs.size+3) s1.heap.objs.size (s1.heap.objs.size+1) ?_,⟨b1,b2,⟨_,_,b3⟩,b4,b5⟩,fun c hc=>?_,q⟩
 ·constructor<;>(intro z;have z:(_:Nat)=_:=z;omega)
 ·have hge:s1.heap.objs.size<=c:=by
   simp only[zR,yG,or_false] at hc
   rcases hc with rfl|rfl|rfl|rfl|rfl
   ·exact Nat.le_add_right _ _
   ·exact Nat.le_add_right _ _
   ·exact Nat.le_add_right _ _
   ·exact zzA _
   ·exact Nat.le_add_right _ _
  exact I1.fpOk hge (I1.hok.fresh hge)
def MK:List D->Option (List D):=fun ds=>match ds with
 | [x,y]=>(fY x).bind fun xs=>(fY y).map fun ys=>gT xs ys
 | _=>none
theorem A3{K:W.Frag}{HF:Hp}{d:D}{v:V}{xs:List D}(h:fY d=some xs)(r:Rep K HF d v):∃b a vs,v=.ref a/\uG K b a HF vs/\ar K HF xs vs:=by
 rcases lY h with rfl|rfl
 ·simp only[Rep] at r
  obtain⟨a,vs,rfl,q,rr⟩:=r
  exact⟨true,a,vs,rfl,q,rr⟩
 ·simp only[Rep] at r
  obtain⟨a,vs,rfl,q,rr⟩:=r
  exact⟨false,a,vs,rfl,q,rr⟩
def dz(fs:Env->Option (List D)):Env->Option (List D):=fun ρ=>(fs ρ).bind MK
theorem Ie(B:nU X "zip" (.type "zip"))(hs:starEach [l,l'] X.env=(false,eval l X.env)::starEach [l'] X.env)(hs2:(backTo pos (starEach [l'] X.env)).any (·.1)=false)(h:DA X [l,l'] fs) :
  DI X (.Tuple elts k tp) (.Call (.Name "zip" p) [l,l'] [] pos) (dz fs) :=
 vM (Kl B h hs hs2) fun σ H R ⟨HF,ρ,ds,sm,eo,hf,q⟩=>by
  obtain⟨x,hx,hf⟩:=bs hf
  refine⟨HF,ρ,_,sm,eo,hx,fun vs H1 HF1 g1 r1=>?_⟩
  unfold MK at hf
  split at hf
  ·obtain⟨xs,h1,hf⟩:=bs hf
   obtain⟨ys,h2,rfl⟩:=ag hf
   obtain⟨v,r',rfl,a,b⟩:=r1.cons_inv
   obtain⟨v',r'',rfl,a',b'⟩:=b.cons_inv
   rw[b'.nil_inv]
   obtain⟨c,ad,us,rfl,hq,rr⟩:=A3 h1 a
   obtain⟨c',ad',us',rfl,hq',rr'⟩:=A3 h2 a'
   exact⟨ad,ad',rfl,c,c',us,us',hq.mono g1.fh,hq'.mono g1.fh,q _ H1 HF1 g1 (HK hq (fun _ _ s h=>h.mono s) hq' (fun _ _ s h=>h.mono s) rr rr')⟩
  ·cases hf
end
end Dl
namespace Zp
open PySem PyProof.Rows
theorem IsI.ne{b:Bool}{h:Heap}{it l:Addr}{k:Nat}{xs:Array Value}(x:IsI b h it l k)(y:IsS b h l xs):l≠it:=by
 rintro rfl
 cases b
 ·obtain⟨o,e,c,d⟩:=(show h.IsListIter l l k from x)
  obtain⟨o',e',r⟩:=(show h.IsList l xs from y)
  rw[e] at e';cases e'
  simp_all
 ·obtain⟨o,e,c,d⟩:=(show h.IsTupleIter l l k from x)
  obtain⟨o',e',r⟩:=(show h.IsTuple l xs from y)
  rw[e] at e';cases e'
  simp_all
section
variable {prog:Program}{w:World}{A:Around}{E:Value->Shared->Prop}{s:Shared}
theorem drawsI(hn:A.handled=none)(b:Bool)(it l:Addr)(xs:Array Value):Draws prog w A it [it,l] xs.size (fun i x=>xs[i]?=some x) (fun i h=>IsI b h it l i/\IsS b h l xs) where
 live:=fun i h st=>let ⟨o,e,_⟩:=st.1.obj;⟨o,e⟩
 frame:=fun i h h' st k=>⟨st.1.at (k it (by simp)),st.2.at (k l (by simp))⟩
 item:=fun i s Q E hi st hQ=>nxt st.1 st.2 (v:=xs[i]) (by simp[hi]) fun g e t=>hQ _ g s.toks (by simp[hi]) ⟨e,st.2.extBut t.extBut (st.1.ne st.2)⟩ t
 done:=fun s Q E st hE=>nxtE hn st.1 st.2 (by simp) hE
theorem nextE{b₁:Bool}{e it l:Addr}{i:Nat}{items:Array Value}{x old:Value}{Q:Option Value->Shared->Prop}(hn:A.handled=none)
  (qe:IsEnum s.heap e it i old) (qi:IsI b₁ s.heap it l i) (ql:IsS b₁ s.heap l items) (ex:items[i]?=some x) (nei:e≠it)
  (kQ:∀g tk,IsEnumOut g e it ((i:Int)+1) x s.heap.objs.size->IsI b₁ g it l (i+1)->g.get? s.heap.objs.size=some { cls:=.type "tuple",data:=.seq #[.int i tk,x] } ->
   g.objs.size=s.heap.objs.size+1->(∀c o,c≠e->c≠it->s.heap.get? c=some o->g.get? c=some o)->Q (some (.ref s.heap.objs.size)) { s with heap:=g,toks:=tk+1 }) :
  wpAny (model prog w) A (pyNext (.ref e)) Q E s:=by
 have nel:e≠l:=by
  rintro rfl
  cases b₁
  ·obtain⟨o,e1,r⟩:=(show s.heap.IsList e items from ql)
   rw[qe] at e1;cases e1;simp at r
  ·obtain⟨o,e1,r⟩:=(show s.heap.IsTuple e items from ql)
   rw[qe] at e1;cases e1;simp at r
 have D:Draws prog w A.in1 it [it,l] items.size (fun i x=>items[i]?=some x) (fun i h=>IsI b₁ h it l i/\IsS b₁ h l items):=drawsI (A:=A.in1) hn b₁ it l items
 refine wpAny_pyNext_enum_itemD D qe ⟨qi,ql⟩ (Array.getElem?_eq_some_iff.mp ex).1 nei (by simp[nei,nel]) fun y g tk hy a b c d k=>?_
 rw[ex] at hy;cases hy
 exact kQ g tk a b.1 c d k
end
end Zp
namespace Dl
open PySem L2 PySem.Spec PyProof.Rows Zp
theorem rN{P:Program}{w:World}{K:W.Frag}{elts:List Expr}{k:Nat}{pos:Pos}(b:Bool)(a it e:Addr)(hei:e≠it):Turn P w K (.Tuple elts k pos) (Pr (uG K b a)) [e,it] e (fun i h=>(∃old,IsEnum h e it i old)/\IsI b h it a i) where
 mem:=by simp
 obj:=fun i h st c hc=>by
  obtain⟨⟨old,he⟩,hi⟩:=st
  rcases zR.mp hc with z|z
  ·subst z;exact⟨_,he,fun v q=>by have q:Data.fields _=Data.cell v:=q;cases q⟩
  ·rw[yL.mp z];exact hi.obj
 keep:=fun i h h' st kk=>⟨let ⟨old,he⟩:=st.1;⟨old,kk e (by simp) _ he⟩,st.2.at fun o q=>kk it (by simp) o q⟩
 item:=by
  intro X hP hw hK hc i pins s σ H E I hf st hg
  subst hP hw hK
  obtain⟨xs,x,hq,hx⟩:=hg
  obtain⟨its,rv,p,hz⟩:=hq.src I
  obtain⟨u,hu,ru⟩:=rv.get hx
  obtain⟨⟨old,he⟩,hi⟩:=st
  refine nextE (I.ok.hd hc) he hi p (x:=u) (by simpa using hu) hei fun g tk b1 b2 b3 b4 hk=>⟨.ref s.heap.objs.size,rfl,?_⟩
  have lt:∀ {c:Addr}{o:Obj},s.heap.get? c=some o->s.heap.objs.size≠c:=fun e=>Nat.ne_of_gt (zZ e)
  have hte:s.heap.objs.size≠e:=lt he
  refine wpAny_letOwnedTupleGo_enum (s:={ s with heap:=g,toks:=tk+1 }) b1 fun g' he' hs'=>?_
  have b3':g'.get? s.heap.objs.size=some { cls:=.type "tuple",data:=.seq #[.int i tk,u] }:=hs'.extBut _ _ hte b3
  have ht:rF g' s.heap.objs.size (List.toArray [Value.int (i:Nat) tk,u]):=⟨⟨_,b3',rfl,_,rfl⟩,_,b3',rfl⟩
  refine⟨.ref s.heap.objs.size,_,yh (ch:=[e,it]) (xs:=[.int (i:Nat),x]) (t':=tk+1) I hf (fun c o hb q=>?_) (zzA _) ht (.cons ⟨_,rfl⟩ (.cons ru .nil)) (by show 2<=sizeLine;decide),rfl,
   ⟨s.heap.objs.size,x,rfl,I.fresh,rfl,fun zs hzs=>by rw[hzs.inj I hq];exact hx⟩,⟨⟨_,he'⟩,b2.extBut hs'.extBut (Ne.symm hei)⟩,fun c hc'=>?_⟩
  ·simp only[zR,yG,or_false,not_or] at hb
   exact hs'.extBut _ _ hb.1 (hk c o hb.1 hb.2 q)
  ·have:s.heap.objs.size≠c:=by
    simp only[zR,yG,or_false] at hc'
    obtain⟨o1,g1,_⟩:=hi.obj
    rcases hc' with rfl|rfl
    ·exact lt he
    ·exact lt g1
   rw[aE (Ne.symm this)]
   exact (hf c hc').1
 done:=by
  intro X hP hw hK hc i pins s σ H E I hf st hg
  subst hP hw hK
  obtain⟨xs,hq,hx⟩:=hg
  obtain⟨its,rv,p,hz⟩:=hq.src I
  have hh:X.A.in1.handled=none:=I.ok.hd hc
  have hl:=rv.length
  obtain⟨⟨old,he⟩,hi⟩:=st
  have hT:s.TypeIs (.ref e) "enumerate":=⟨_,he,rfl⟩
  unfold pyNext
  refine zW (wpAny_attempt (wpAny_callSpecial?_slot (name:=Str.ofString "__next__") hT F.slot_enumerate_next (wpAny_call_entry F.slot_enumerate_next hT F.entry_enumerate_next ?_ (F.args_enumerate_next_1 _))))
  refine zW (m:=field (.ref e) 2) (wpAny_field he rfl (x:=.ref it) rfl ?_)
  refine zW (nxtE hh hi p (by simp;omega) fun h1 x k1 hx1=>?_)
  obtain⟨o,ho,hc1⟩:=hx1
  refine zW (wpAny_isInstance (T:="StopIteration") (b:=true) ⟨o,ho,hc1⟩ isSubtype_stop (zX ⟨rfl,?_⟩))
  obtain⟨f0,f1,f2,f3,f4,f5⟩:=hf it (by simp)
  exact I.turned (t':=s.toks) (fun b o hb q=>k1 b o hb q) f0 f1 f3 f4 f5
 self:=fun _ _ _ _ _ st h=>let ⟨_,he⟩:=st.1;wpAny_pyIter_enum he h
section
variable {X:Cx}{l:Expr}{f:Env->Option D}{fs:Env->Option (List D)}{elts:List Expr}{k:Nat}{pos p tp:Pos}
theorem Jy{tl:TA}(B:nU X "enumerate" (.type "enumerate"))(ha:PA X [l] tl)(hs:starEach [l] X.env=[(false,eval l X.env)]):PI X (.Tuple elts k tp) (.Call (.Name "enumerate" p) [l] [] pos) (fun σ H R=>tl σ H fun vs H1=>∃a,vs=[.ref a]/\∃b xs,uG X.K b a H1 xs/\R (Pr (uG X.K b a)) H1):=by
 intro pins s σ H R I h
 refine Call_ (jK I B.gl B.mg B.bt (PyProof.Rows.callWith_type1 (cy (ha pos pins s σ H _ I h) fun us s1 ⟨vs,H1,I1,r1,q1⟩=>?_) hs rfl))
 obtain⟨a,e,b,xs,hq,q⟩:=q1
 subst e
 obtain⟨u,rfl,rx⟩:=vals1 r1
 cases rx
 have fresh:∀b∈[s1.heap.objs.size+1,s1.heap.objs.size],cK X pins H1 b:=fun b hb=>by
  rcases zR.mp hb with z|z
  ·subst z;exact I1.fpOk (Nat.le_succ _) (I1.hok.fresh (Nat.le_succ _))
  ·cases yL.mp z;exact I1.fpOk (zzA _) I1.fresh
 obtain⟨its,rv,pl,hz⟩:=hq.src I1
 cases b with
 | false =>
  refine call_enumerate_list pl fun h' he hit hsz kp=>wpAny_pyIter_enum (s:={ s1 with heap:=h' }) he ?_
  exact⟨_,_,_,_,H1,rfl,I1.kept (t':=s1.toks) kp,rN false a s1.heap.objs.size (s1.heap.objs.size+1) (Nat.succ_ne_self _),⟨⟨_,he⟩,hit⟩,fresh,q⟩
 | true =>
  refine En.call_enumT (show s1.heap.IsTuple a its.toArray from pl) fun h' he hit hsz kp=>wpAny_pyIter_enum (s:={ s1 with heap:=h' }) he ?_
  exact⟨_,_,_,_,H1,rfl,I1.kept (t':=s1.toks) kp,rN true a s1.heap.objs.size (s1.heap.objs.size+1) (Nat.succ_ne_self _),⟨⟨_,he⟩,hit⟩,fresh,q⟩
def bx(fs:Env->Option (List D)):Env->Option (List D):=fun ρ=>(fs ρ).bind fun ds=>(dO ds).map (bK 0)
theorem Iv(B:nU X "enumerate" (.type "enumerate"))(h:DA X [l] fs)(hs:starEach [l] X.env=[(false,eval l X.env)]):DI X (.Tuple elts k tp) (.Call (.Name "enumerate" p) [l] [] pos) (bx fs) :=
 vM (Jy B h hs) fun σ H R ⟨HF,ρ,ds,sm,eo,hf,q⟩=>by
  obtain⟨x,hx,hf⟩:=bs hf
  obtain⟨es,h1,rfl⟩:=ag hf
  obtain⟨d,h0,h1⟩:=bs h1
  rw[dR h0] at hx
  refine⟨HF,ρ,_,sm,eo,hx,fun vs H1 HF1 g1 r1=>?_⟩
  obtain⟨v,r',rfl,a,b⟩:=r1.cons_inv
  rw[b.nil_inv]
  obtain⟨c,ad,us,rfl,hq,rr⟩:=A3 h1 a
  exact⟨ad,rfl,c,us,hq.mono g1.fh,q _ H1 HF1 g1 (D2 hq (fun _ _ s h=>h.mono s) rr)⟩
end
end Dl
namespace Srt
open PySem PySem.W PySem.Calls PyProof.Rows L2
theorem cK.at{X:Cx}{pins:List (Addr×Obj)}{H H':Hp}{b:Addr}(h:cK X pins H b)(e:H' b=none):cK X pins H' b:=⟨e,h.2⟩
section
variable {X:Cx}{pins:List (Addr×Obj)}{σ:L2.St}{H:Hp}{s:Shared}{A:Around}{E:Value->Shared->Prop}
theorem upd_inv{b:Addr}{g:Array Value->Array Value}(I:Inv X pins σ H s)(f:cK X pins H b):Inv X pins σ H { s with heap:=s.heap.update b (Obj.mapSeq g) }:=by
 obtain⟨f0,f1,f2,f3,f4,f5⟩:=f
 exact I.turned (t':=s.toks) (h':=s.heap.update b (Obj.mapSeq g)) (fun c o hc e=>(Heap.get?_update_other _ _ (Ne.symm hc)).trans e) f0 f1 f3 f4 f5
theorem pin_get{fp:List Addr}{h:Heap}{b:Addr}{o:Obj}{H':Hp}{s':Shared}(I:Inv X (pins++oa fp h) σ H' s')(hb:b∈fp)(e:h.get? b=some o):s'.heap.get? b=some o/\H' b=none :=
 let q:=I.pin (b,o) (yF _ (yF _ (dP hb e)));⟨q.1,q.2.1⟩
theorem list_sortK{a:Addr}{f:Value}{vs:List Value}{n:Nat}{P:PySem.Fin->Shared->Prop}(I:Inv X pins σ H s)(ho:s.heap.get? a=some (seqObj "list" vs.toArray n))(fa:cK X pins H a)(h64:vs.length < 64)
  (J:List Value->Hp->Prop) (j0:J [] H)
  (step:∀us v,vs[us.length]?=some v->∀pl s' H',Inv X (pins++pl) σ H' s'->J us H'->wpAny (model X.prog X.w) A (call f [v]) (fun u s''=>∃H'',Inv X (pins++pl) σ H'' s''/\J (us++[u]) H'') (fun _ _=>False) s')
  (fin:∀us H',us.length=vs.length->J us H'->∃ (z:Nat->Int) (κ:SortKind),(2<=vs.length->∀s',Inv X pins σ H' s'->(∀Q':SortKind->Shared->Prop,Q' κ s'->wpAny (model X.prog X.w) A (keyKind' us.toArray) Q' (fun _ _=>False) s') /\
    ∀i j C,i < vs.length->j < vs.length->C (SP.eP z i j) s'->kas_ask X.prog X.w A κ us i j C s') /\
   ∀s' c,Inv X pins σ H' s'->cK X pins H' a->s'.heap.get? a=some (seqObj "list" (outV z vs).toArray c)->P (.done (.ret .none)) s') :
  wpAny (model X.prog X.w) A (ksk_tree a f false) P E s:=by
 have hsl:vs.length<=sizeLine:=by rw[sizeLine_eq];omega
 unfold ksk_tree
 refine zW (listItems_at ho rfl ?_)
 refine zW (listUpdate_at ho rfl ?_ (by simpa using hsl) (Nat.zero_le _))
 obtain⟨e1,ho1⟩:∃e,(s.heap.update a (Obj.mapSeq fun _=>(#[]:Array Value))).get? a=some (seqObj "list" #[] e):=⟨_,get?_update_seq ho fun _=>#[]⟩
 have I1:=upd_inv (g:=fun _=>(#[]:Array Value)) I fa
 refine zW (seqEpoch_at ho1 rfl ?_)
 refine zW (wpAny_newTuple ?_ (by simpa using hsl))
 refine zW (wpAny_newList ?_ (Nat.zero_le _))
 refine wpAny_holding ?_
 have ho3:(((s.heap.update a (Obj.mapSeq fun _=>(#[]:Array Value))).push (seqObj "tuple" vs.toArray 0)).push (seqObj "list" #[] 0)).get? a=some (seqObj "list" #[] e1):=zV _ (zV _ ho1)
 have hk3:(((s.heap.update a (Obj.mapSeq fun _=>(#[]:Array Value))).push (seqObj "tuple" vs.toArray 0)).push (seqObj "list" #[] 0)).get? ((s.heap.update a (Obj.mapSeq fun _=>(#[]:Array Value))).push (seqObj "tuple" vs.toArray 0)).objs.size=some (seqObj "list" #[] 0):=zY _ rfl
 have I3:=(I1.kept (t':=s.toks) (h':=((s.heap.update a (Obj.mapSeq fun _=>(#[]:Array Value))).push (seqObj "tuple" vs.toArray 0)).push (seqObj "list" #[] 0)) fun b o e=>zV _ (zV _ e))
 have I2:=(I1.kept (t':=s.toks) (h':=(s.heap.update a (Obj.mapSeq fun _=>(#[]:Array Value))).push (seqObj "tuple" vs.toArray 0)) fun b o e=>zV _ e)
 have fk:cK X pins H ((s.heap.update a (Obj.mapSeq fun _=>(#[]:Array Value))).push (seqObj "tuple" vs.toArray 0)).objs.size:=I2.fpOk (zzA _) (I2.hok.fresh (zzA _))
 have hka:((s.heap.update a (Obj.mapSeq fun _=>(#[]:Array Value))).push (seqObj "tuple" vs.toArray 0)).objs.size≠a:=by
  have hlt:=zZ ho1
  rw[Heap.size_push]
  exact Nat.ne_of_gt (Nat.lt_succ_of_lt hlt)
 show wpAny _ A _ P E { s with heap:=((s.heap.update a (Obj.mapSeq fun _=>(#[]:Array Value))).push (seqObj "tuple" vs.toArray 0)).push (seqObj "list" #[] 0) }
 generalize ((s.heap.update a (Obj.mapSeq fun _=>(#[]:Array Value))).push (seqObj "tuple" vs.toArray 0)).objs.size=kS at hk3 fk hka
 generalize e3:({ s with heap:=((s.heap.update a (Obj.mapSeq fun _=>(#[]:Array Value))).push (seqObj "tuple" vs.toArray 0)).push (seqObj "list" #[] 0) }:Shared)=s3 at I3
 have ho3:s3.heap.get? a=some (seqObj "list" #[] e1):=by rw[<- e3];exact ho3
 have hk3:s3.heap.get? kS=some (seqObj "list" #[] 0):=by rw[<- e3];exact hk3
 clear e3 I2 I1 ho1 ho
 unfold ksk_rest
 refine zW (wpAny_rule ?_)
 first
  | rw[List.forIn_toArray]
  | (rw[<- Array.forIn_toList];simp only[List.toList_toArray])
  | rw[<- Array.forIn_toList]
 refine zW (ksk_fold (fun i s'=>∃us H' e,us.length=i/\Inv X pins σ H' s'/\H' a=none/\H' kS=none/\s'.heap.get? a=some (seqObj "list" #[] e1)/\s'.heap.get? kS=some (seqObj "list" us.toArray e)/\J us H') vs 0 s3
  ⟨[],H,0,rfl,I3,fa.1,fk.1,ho3,hk3,j0⟩ ?step ?done)
 case step =>
  rintro j x s' hx ⟨us,H',e,hu,I',ha',hk',hoa,hok,j'⟩
  have hu:us.length=j:=by omega
  have hj:j < vs.length:=(zU.mp hx).1
  have Ip:=I'.pinned (fp:=[a,kS]) (fun b hb=>by
   rcases zR.mp hb with rfl|hb
   ·exact cK.at fa ha'
   ·rw[yL.mp hb];exact cK.at fk hk') (fun b hb=>by
   rcases zR.mp hb with rfl|hb
   ·exact⟨_,hoa,fun v z=>by cases z⟩
   ·rw[yL.mp hb];exact⟨_,hok,fun v z=>by cases z⟩)
  refine zW (wpAny_attempt (wpAny_mono (step us x (by rw[hu];exact hx) _ s' H' Ip j') (fun u s'' he=>?_) fun _ _ hF=>hF.elim))
  obtain⟨H'',I'',j''⟩:=he
  try dsimp only
  obtain⟨ga,na⟩:=pin_get I'' (b:=a) zE hoa
  obtain⟨gk,nk⟩:=pin_get I'' (b:=kS) (zC _ zE) hok
  have I4:=I''.unpinned
  obtain⟨c2,hc2⟩:∃c2,(s''.heap.update kS (Obj.mapSeq (·.push u))).get? kS=some (seqObj "list" (us.toArray.push u) c2):=⟨_,get?_update_seq gk (·.push u)⟩
  refine zW (listUpdate_at gk rfl ?_ (by rw[zH,sizeLine_eq];omega) (yE (Nat.le_of_eq (Array.size_push ..)) (by rw[zH,sizeLine_eq];omega)))
  refine zX ⟨rfl,us++[u],H'',c2,by rw[zN,hu];simp,upd_inv I4 (cK.at fk nk),na,nk,(Heap.get?_update_other _ _ hka).trans ga,?_,j''⟩
  rw[hc2]
  simp
 case done =>
  rintro s' ⟨us,H',e,hu,I',ha',hk',hoa,hok,j'⟩
  have hu:us.length=vs.length:=by omega
  try dsimp only
  refine zW (listItems_at hok rfl ?_)
  obtain⟨z,κ,hz,hP⟩:=fin us H' hu j'
  have last:∀st':SortSt,(arrOf st').map (·.2)=(outV z vs).toArray->failedOf st'=none->wpAny (model X.prog X.w) A (ksk_tail a false e1 (.ref kS) st') P E s':=fun st' h1 h2=>by
   unfold ksk_tail
   try dsimp only
   rw[h1,h2]
   have na1:(s'.heap.update kS (Obj.mapSeq fun _=>(#[]:Array Value))).get? a=some (seqObj "list" #[] e1):=(Heap.get?_update_other _ _ hka).trans hoa
   have I5:=upd_inv (g:=fun _=>(#[]:Array Value)) I' (cK.at fk hk')
   have I6:=upd_inv (s:={ s' with heap:=s'.heap.update kS (Obj.mapSeq fun _=>(#[]:Array Value)) }) (g:=fun _=>(outV z vs).toArray) I5 (cK.at fa ha')
   refine zW (listUpdate_at hok rfl ?_ (by rw[zH,sizeLine_eq];omega) (Nat.zero_le _))
   refine zW (wpAny_letGo ?_)
   refine zW (seqEpoch_at na1 rfl ?_)
   refine zW (listUpdate_at na1 rfl ?_ (Nat.zero_le _) (by
    simp only[Bool.false_eq_true,if_false]
    show (outV z vs).toArray.size<=_;rw[zH,outV_len];omega))
   obtain⟨c,hc⟩:∃c,((s'.heap.update kS (Obj.mapSeq fun _=>(#[]:Array Value))).update a (Obj.mapSeq fun _=>(outV z vs).toArray)).get? a=some (seqObj "list" (outV z vs).toArray c):=⟨_,get?_update_seq na1 fun _=>(outV z vs).toArray⟩
   simp only[bne_self_eq_false,Bool.false_eq_true,if_false]
   exact zX (hP _ c I6 (cK.at fa ha') hc)
  unfold ksk_end
  try dsimp only
  simp only[Bool.false_eq_true,if_false]
  by_cases h2:vs.toArray.size < 2
  ·rw[if_pos h2,if_pos h2]
   refine zW (zX ?_)
   rw[StateT.run_pure]
   refine zW (zX (last _ ?_ rfl))
   have h2':vs.length < 2:=by simpa using h2
   unfold outV
   rw[if_pos h2']
   show ((us.toArray.zip vs.toArray).map (·.2))=vs.toArray
   apply Array.toList_inj.mp
   simp only[Array.toList_map,Array.toList_zip]
   exact List.map_snd_zip (by rw[hu];exact zzA _)
  ·rw[if_neg h2,if_neg h2]
   have h2':2<=vs.length:=by
    have:¬ vs.length < 2:=by simpa using h2
    omega
   obtain⟨hk,hlt⟩:=hz h2' s' I'
   refine zW (wpAny_mono (hk (fun κ' s''=>κ'=κ/\s''=s') ⟨rfl,rfl⟩) (fun κ' s'' hs=>?_) fun _ _ x=>x.elim)
   obtain⟨rfl,rfl⟩:=hs
   refine zW (wpAny_mono (kat_run (Q:=fun st' s2=>s2=s''/\(arrOf st').map (·.2)=(outV z vs).toArray/\failedOf st'=none) (G:=fun p s2=>s2=s''/\p=SP.run (SP.eP z) (kas_sort vs.length))
    hu h2' h64 (fun p st' s2 a1 a2 a3 a4=>⟨a4.1,?_,a3⟩) (SP.wp_run hlt (kas_sort vs.length) (SP.HS (by omega)) ⟨rfl,rfl⟩)) ?_ fun _ _ e=>e)
   ·rw[kat_snds hu a2,a4.2]
    unfold outV
    rw[if_neg (by omega)]
   ·rintro⟨⟨⟩,st'⟩ s2 ⟨hs,h4,h5⟩
    subst hs
    exact last st' h4 h5
theorem sortedK{l:Value}{f:Addr}{vs:List Value}{Q:Value->Shared->Prop}(I:Inv X pins σ H s)(h64:vs.length < 64)
  (hcol:∀ {Q':List Value->Shared->Prop},(∀h':Heap,(∀b o,s.heap.get? b=some o->h'.get? b=some o)->Q' vs { s with heap:=h' })->wpAny (model X.prog X.w) A.in1 (collect l) Q' E s)
  (J:List Value->Hp->Prop) (j0:J [] H)
  (step:∀us v,vs[us.length]?=some v->∀pl s' H',Inv X (pins++pl) σ H' s'->J us H'->wpAny (model X.prog X.w) A.in1.in1 (call (.ref f) [v]) (fun u s''=>∃H'',Inv X (pins++pl) σ H'' s''/\J (us++[u]) H'') (fun _ _=>False) s')
  (fin:∀us H',us.length=vs.length->J us H'->∃ (z:Nat->Int) (κ:SortKind),(2<=vs.length->∀s',Inv X pins σ H' s'->(∀Q':SortKind->Shared->Prop,Q' κ s'->wpAny (model X.prog X.w) A.in1.in1 (keyKind' us.toArray) Q' (fun _ _=>False) s') /\
    ∀i j C,i < vs.length->j < vs.length->C (SP.eP z i j) s'->kas_ask X.prog X.w A.in1.in1 κ us i j C s') /\
   ∀s' D c,Inv X pins σ H' s'->cK X pins H' D->s'.heap.get? D=some (seqObj "list" (outV z vs).toArray c)->Q (.ref D) s') :
  wpAny (model X.prog X.w) A (call (.builtin "sorted") [l] [(Str.ofString "key",.ref f)]) Q E s:=by
 have hsl:vs.length<=sizeLine:=by rw[sizeLine_eq];omega
 refine call_function_entry_kw kind_sorted plain_sorted entry_sorted (ksk_s1 _ _) ?_
 unfold Builtin.«sorted»
 refine zW (m:=checkCount "sorted" 1 1 _) (zX (zW (hcol fun h1 kp=>?_)))
 refine zW (wpAny_newList ?_ (by simpa using hsl))
 have I1:=I.kept (t':=s.toks) kp
 have fD:cK X pins H h1.objs.size:=I1.fpOk (zzA _) (I1.hok.fresh (zzA _))
 have hoD:(h1.push (seqObj "list" vs.toArray 0)).get? h1.objs.size=some (seqObj "list" vs.toArray 0):=zY _ rfl
 have I2:=I1.kept (t':=s.toks) (h':=h1.push (seqObj "list" vs.toArray 0)) fun b o e=>zV _ e
 show wpAny _ _ _ _ _ { s with heap:=h1.push (seqObj "list" vs.toArray 0) }
 refine zW (wpAny_holding (wpAny_call_entry_kw slot_list_sort ⟨_,hoD,rfl⟩ entry_list_sort ?body (ksk_l1 _ _)))
 case body =>
  show wpAny (model X.prog X.w) A.in1.in1 (Builtin.«list.sort» ⟨[.ref h1.objs.size],[(Str.ofString "key",.ref f)]⟩) _ _ _
  rw[ksk_t1]
  refine list_sortK I2 hoD fD h64 J j0 step fun us H' hu j'=>?_
  obtain⟨z,κ,hz,hP⟩:=fin us H' hu j'
  exact⟨z,κ,hz,fun s' c I' f' e=>⟨_,rfl,zX ⟨_,rfl,hP s' _ c I' f' e⟩⟩⟩
end
end Srt
namespace Dl
open PySem L2 PySem.Spec PyProof.Rows
theorem _root_.L2.Inv.track{X:Cx}{pins:List (Addr×Obj)}{σ:L2.St}{H:Hp}{s:Shared}{b:Addr}{o:HO}(I:Inv X pins σ H s)(f:cK X pins H b)(ho:gf X.prog X.w (upd H b o) s.heap b o):Inv X pins σ (upd H b o) s:=by
 obtain⟨f0,f1,f2,f3,f4,f5⟩:=f
 have up:∀c u,H c=some u->upd H b o c=some u:=fun c u e=>by rw[aE (aP e f0)];exact e
 refine⟨I.ok,I.os,I.bare,⟨I.base.keep,I.base.slot,fun c oc e n hx=>?_,I.base.there,fun c xs e=>up c _ (I.base.tups c xs e),fun c oc u e=>up c _ (I.base.frzs c oc u e),⟨fun c u e t=>up c u (I.base.tbls.st c u e t),I.base.tbls.gr⟩⟩,I.loc,I.cell,?_,fun x c e=>?_,fun p hp=>?_,fun c u e=>?_,I.len⟩
 ·have hne:c≠b:=fun z=>by
   rcases f3 with g|g
   ·exact hx (z ▸ g)
   ·exact absurd (zP (zZ e) (z ▸ g)) (Nat.lt_irrefl _)
  rw[aE hne];exact I.base.free c oc e n hx
 ·rw[aE (Ne.symm f1)];exact I.free
 ·rw[aE (f4 x c e)];exact I.freeC x c e
 ·obtain⟨e,n,r⟩:=I.pin p hp
  exact⟨e,by rw[aE (f5 p hp)];exact n,r⟩
 ·by_cases hc:c=b
  ·subst hc;rw[aL] at e;cases e;exact ho
  ·rw[aE hc] at e
   exact (I.hok c u e).stay (fun d w _ q=>q) (fun d q=>up d _ q) fun d w q _=>up d _ q
def o4(scope:Scope)(N':List Str)(p:Str):Bool:=scope.names.all (fun q=>!decide (q.2=NameKind.cell))&&decide (N'[0]?=some p)&&decide (scope.names.lookup p=some .local)&&decide (scope.isCoroutine=false)&&decide (scope.isGenerator=false)
section
variable {X:Cx}{N:List Str}{sc:Scope}{k:Nat}
theorem G7{scope:Scope}{N':List Str}{p qual:Str}{A:Around}{f c:Addr}{s:Shared}{H:Hp}(C:Bk X N sc (k+3))(hA:eH (k+1) A)(hk:scope.kind=.function)(hnd:N'.Nodup)(hl:o4 scope N' p=true):Bk (iq X A qual scope N' f c s H) N' scope k where
 n:=rfl
 nd:=hnd
 tb:=fun x kd hx=>.inl hx
 calm:=rfl
 fn:=fun x hx=>by
  unfold o4 at hl
  simp only[zF,List.all_eq_true,Bool.not_eq_true',decide_eq_false_iff_not] at hl
  exact absurd rfl (hl.1.1.1.1 _ (mem_of_lookup hx))
 room:=hA.deeper _
 xe:=rfl
 kd:=hk
structure qj(X:Cx)(qual:Str):Prop where
 ex:∃c P,X.env.code=.ref c/\X.env.qual++"<lambda>"=qual/\W.codeHdIn X.K c P=true/\∀HF,gY X.K HF->HF P=some (.tab qual)
def iT(te:Env->Option D)(ρ:Env):List D->Option (List D)
 | []=>some []
 | d::ds=>(te (ρ.set 0 (some d))).bind fun x=>(iT te ρ ds).map (x::·)
theorem oi{te:Env->Option D}{ρ:Env}:∀ {ds ks:List D},iT te ρ ds=some ks->ks.length=ds.length
 | [],ks,h=>by cases h;rfl
 | d'::ds,ks,h=>by
  unfold iT at h
  obtain⟨y,h1,h⟩:=bs h
  obtain⟨ys,h2,rfl⟩:=ag h
  simp[oi h2]
theorem rE{te:Env->Option D}{ρ:Env}:∀ {ds ks:List D}{i:Nat}{d:D},iT te ρ ds=some ks->ds[i]?=some d->∃x,te (ρ.set 0 (some d))=some x/\ks[i]?=some x
 | [],ks,i,d,h,e=>by simp at e
 | d'::ds,ks,i,d,h,e=>by
  unfold iT at h
  obtain⟨y,h1,h⟩:=bs h
  obtain⟨ys,h2,rfl⟩:=ag h
  cases i with
  | zero=>simp at e;subst e;exact⟨y,h1,rfl⟩
  | succ i=>obtain⟨x,a,b⟩:=rE h2 (by simpa using e);exact⟨x,a,by simpa using b⟩
def n9(cs:List Nat)(fl te:Env->Option D):Env->Option (List D):=fun ρ=>(fl ρ).bind fun l=>match l with
 | .list ds=>(iT te (fA 1 cs ρ) ds).bind fun ks=>(intsOf ks).bind fun zs=>if ds.length < 64 then some (nF (fun i=>zs.getD i 0) ds .none) else none
 | _=>none
theorem zp{K:W.Frag}{HF:Hp}{ρ:Env}{σ:L2.St}{cs:List Nat}{d:D}{v:V}(eo:da K HF ρ σ)(r:Rep K HF d v):da K HF ((fA 1 cs ρ).set 0 (some d)) ((k5 1 cs σ).set 0 (some v)):=jx (BD eo) r
theorem mD{K:W.Frag}{HF:Hp}:∀ {ks:List D}{zs:List Int}{kvs:List V}{us:List Value},intsOf ks=some zs->ar K HF ks kvs->aH kvs us->IntsAre us zs
 | [],zs,kvs,us,h,r,v=>by
  cases h
  rw[r.nil_inv] at v
  cases v
  exact .nil
 | d::ks,zs,kvs,us,h,r,v=>by
  cases d<;>simp only[intsOf] at h<;>try cases h
  rename_i i
  obtain⟨ys,h2,rfl⟩:=ag h
  obtain⟨w,ws,rfl,a,b⟩:=r.cons_inv
  simp only[Rep] at a
  subst a
  cases v with
  | cons r1 r2 =>
   obtain⟨t,rfl⟩:=r1
   exact .cons i t (mD h2 b r2)
theorem ee:∀ {us:List Value}{zs:List Int}{i:Nat},IntsAre us zs->i < us.length->∃t,us.getD i Value.none=.int (zs.getD i 0) t
 | _,_,i,.nil,h=>by simp at h
 | _,_,0,.cons n t r,h=>⟨t,rfl⟩
 | _,_,i+1,.cons n t r,h=>by
  obtain⟨t',e⟩:=ee (i:=i) r (by simpa using h)
  exact⟨t',by simpa using e⟩
variable {l body:Expr}{fl te:Env->Option D}{params:Arguments}{scope:Scope}{lpos pos p0 kpos:Pos}{N':List Str}{cs:List Nat}{p qual:Str}
theorem Bk.sortK(C:Bk X N sc (k+3))(B:nU X "sorted" (.builtin "sorted"))(L:qj X qual)(ok:jz sc scope N N' 1 cs=true)(hl:o4 scope N' p=true)
  (hb:∀ (cl:List (Str×Addr)) (pm ctv u:Value) (c:Addr),bindArgs (W.kla_fn "<lambda>" qual params body scope cl pm (.ref c) ctv) ⟨[u],[]⟩=pure [(p,u)]) (hdef:defaultsOf params X.env=([],[])) (h:DE X l fl)
  (hY:∀A f c s H,Bk (iq X A qual scope N' f c s H) N' scope k->DE (iq X A qual scope N' f c s H) body te)
  (hst:starEach [l] X.env=(false,eval l X.env)::starEach [] X.env) (he:backTo pos (starEach [l] X.env)=(false,eval l X.env)::backTo pos (starEach [] X.env)) (hpl:(backTo pos (starEach [l] X.env)).any (·.1)=false) :
  DF X (.Call (.Name "sorted" p0) [l] [⟨some "key",.Lambda params body scope lpos,kpos⟩] pos) (n9 cs fl te):=by
 obtain⟨S,_⟩:=C.comp ok
 have hnd:N'.Nodup:=by
  unfold jz at ok
  simp only[zF,zJ] at ok
  exact ok.2
 have hl':=hl
 unfold o4 at hl'
 simp only[zF,List.all_eq_true,Bool.not_eq_true',decide_eq_false_iff_not,zJ] at hl'
 obtain⟨⟨⟨⟨hnc,hN0⟩,hp⟩,hco⟩,hgen⟩:=hl'
 obtain⟨cc,P,hcode,hqual,hhd,fy⟩:=L.ex
 intro pins s σ H Q I ⟨HF,ρ,out,sm,eo,hf,q⟩
 obtain⟨ld,hld,hf⟩:=bs hf
 cases ld<;>try cases hf
 rename_i ds
 obtain⟨ks,hks,hf⟩:=bs hf
 obtain⟨zs,hzs,hf⟩:=bs hf
 split at hf<;>cases hf
 rename_i h64
 refine wpAny_Call_Name_kw (jK I B.gl B.mg B.bt ?_ (by decide) (by decide))
 refine PyProof.Rows.callWith_kw (e:=l) (rest:=[]) (kws:=[⟨some "key",.Lambda params body scope lpos,kpos⟩]) ?_ he hpl rfl rfl
 refine cy (CA h Hu hst pos pins s σ H _ I ⟨HF,ρ,[.list ds],sm,eo,by simp[aa,ae,hld],fun vs H1 HF1 g1 r1=>(⟨HF1,g1,r1⟩:∃HF1,cg HF H HF1 H1/\ar X.K HF1 [.list ds] vs)⟩) fun us s1 ⟨vs,H1,I1,rv,HF1,g1,r1⟩=>?_
 obtain⟨v,vr,rfl,a1,b1⟩:=r1.cons_inv
 rw[b1.nil_inv] at rv
 obtain⟨u,rfl,rx⟩:=vals1 rv
 simp only[Rep] at a1
 obtain⟨la,ws,rfl,hq,rr⟩:=a1
 cases rx
 have hT1:H1 P=some (.tab qual):=g1.fh _ _ (fy HF1 (eo.tb.mono g1.ff))
 show wpAny _ _ (evalAll ((do let v <- eval (.Lambda params body scope lpos) X.env;standAt pos;pure v)::[])) _ _ s1
 refine wpAny_evalAll_cons (zW ?_)
 refine yy (P:=P) I1 S hqual hcode (W.codeHd_of_K I1.ok.mod.kin hhd) hT1 I1.ok.mod.bmd hdef fun f c' pm ctv s2 H2 I2 hfo hfn hcod s12 fp2 _=>?_
 refine zW (wpAny_standAt (zX (wpAny_evalAll_nil ?_)))
 show wpAny _ _ (call (.builtin "sorted") [.ref la] [(Str.ofString "key",.ref f)]) _ _ s2
 have Ip:=I2.pinned (fp:=[f]) (fun b hb=>by rw[yL.mp hb];exact fp2) (fun b hb=>by rw[yL.mp hb];exact⟨_,hfo,fun v z=>by cases z⟩)
 have g2:cg HF1 H1 HF1 H2:=⟨s12,.refl _,g1.fh.trans s12,fun _ _ e=>.inl e⟩
 obtain⟨its,rvi,pl,hz⟩:=Ip.list (s12.seq (g1.fh.seq hq))
 have hlen:its.length=ds.length:=by rw[<- rvi.length,rr.length]
 have hkl:=oi hks
 have hR:eH (k+1) X.A.in1.in1:=C.room.in1.in1
 refine Srt.sortedK (vs:=its) Ip (by omega) (fun {Q'} hQ=>?_) (fun us H'=>∃HF' kvs,cg HF1 H2 HF' H'/\ar X.K HF' (ks.take us.length) kvs/\aH kvs us) ⟨HF1,[],.refl g2.fh,by simpa using ar.nil,.nil⟩ (fun us x hx pl' s3 H3 I3 ⟨HF3,kvs,g3,rk,rvk⟩=>?_) fun us H3 hu ⟨HF3,kvs,g3,rk,rvk⟩=>?_
 ·refine collect_list pl.isList (hQ _ fun b o e=>?_) (by rw[sizeLine_eq];omega)
  exact (Heap.get?_update_other _ _ (Nat.ne_of_gt (zZ e))).trans (zV _ e)
 ·have hi:us.length < its.length:=(zU.mp hx).1
  obtain⟨w,hw⟩:∃w,ws[us.length]?=some w:=⟨_,zK (by rw[rvi.length];exact hi)⟩
  obtain⟨x',hx',rw'⟩:=rvi.get hw
  rw[hx] at hx'
  cases hx'
  obtain⟨d,hd,rd⟩:=rr.get hw
  obtain⟨kd,hkd,hki⟩:=rE hks hd
  have hfo3:s3.heap.get? f=some (W.kla_obj "<lambda>" qual params body scope (eJ X.env scope.names []) pm c' ctv) :=
   (I3.pin (f,_) (yF _ (List.mem_append_left _ (yF _ (dP zE hfo))))).1
  refine wpAny_mono (ya (Q:=fun v H4=>∃HF4,cg HF3 H3 HF4 H4/\Rep X.K HF4 kd v) (te:=tD X.K te) I3 hR I3.ok.frames S hnc hN0 hp hnd hco hgen hfo3 (g3.hh _ _ hcod) (hb _ _ _ _ _) rw' (hY _ _ _ _ _ (G7 C hR S.kind hnd hl))
   ⟨HF3,_,kd,g3.fh,zp (eo.mono (g1.ff.trans g3.ff)) (rd.mono g3.ff),hkd,fun v H4 HF4 g4 r4=>⟨HF4,g4,r4⟩⟩) (fun u s4 ⟨v4,H4,I4,r4,HF4,g4,rp⟩=>⟨H4,I4,HF4,kvs++[v4],g3.trans g4,?_,rvk.append (.cons r4 .nil)⟩) fun _ _ e=>e
  rw[zN,List.length_singleton,List.take_add_one,hki]
  exact (rk.mono g4.ff).append (ar.cons rp ar.nil)
 ·have hk':ks.take us.length=ks:=List.take_of_length_le (by omega)
  rw[hk'] at rk
  have ia:=mD hzs rk rvk
  refine⟨fun i=>zs.getD i 0,oneType',fun h2 s3 I3=>⟨fun Q' q'=>?_,fun i j Cc hi hj q'=>?_⟩,fun s3 Dn c I3 fD e=>?_⟩
  ·rw[PyProof.Rows.ksk_kind (keys:=us.toArray) (kz:=zs) (by simpa using ia) (by simpa [hu] using h2)]
   exact zX q'
  ·obtain⟨t1,e1⟩:=ee ia (i:=i) (by omega)
   obtain⟨t2,e2⟩:=ee ia (i:=j) (by omega)
   unfold W.kas_ask
   rw[e1,e2]
   exact W.kat_lt_int q'
  ·have hv:=nB (fun i=>zs.getD i 0) rvi
   have hr:=mT (fun i=>zs.getD i 0) rr
   have hnD:H3 Dn=none:=fD.1
   have I4:=Inv.track (o:=.lst (nF (fun i=>zs.getD i 0) ws .non)) I3 fD ⟨by rw[(fK _ _ _).length_eq];exact hz,_,c,hv,e⟩
   have G:=(g1.trans g2).trans g3
   refine⟨.ref Dn,_,I4.unpinned,rfl,q Dn _ _ HF3 (G.trans (.own G.fh hnD)) (G.hh.free hnD) (G.fh.free hnD) aL (hr.mono g3.ff)⟩
end
end Dl
namespace Srt
open PySem PySem.W PySem.Calls PyProof.Rows L2
section
variable {prog:Program}{w:World}{A:Around}{E:Value->Shared->Prop}{s:Shared}
theorem iadd_rng{R:Result->Shared->Prop}{r S:Addr}{a b c:Int}{t u v:Tok}{n:Nat}(hh:A.handled=none)(hr:IsRange s.heap r a b c t u v)(hsmall:Builtin.Range.small a b c=true)(hn:Builtin.Range.rangeSize a b c=n)(hlen:n<=2 ^ 24)
  (hS:s.heap.get? S=some { cls:=.type "list",data:=.seq #[] })
  (hR:∀h' tk acc' c',(∀b o,b≠S->s.heap.get? b=some o->h'.get? b=some o)->h'.get? S=some { cls:=.type "list",dict:=none,data:=.seq acc' c',slots:=#[] } ->
   ItemsOf (fun i v=>∃t,v=.int (a+i * c) t) acc' n->R (.ok (.ret (.ref S))) { s with heap:=h',toks:=tk }):codeAny (model prog w) A (.builtin "list.__iadd__" ⟨[.ref S,.ref r],[]⟩) R s:=by
 refine codeAny_builtin entry_list_iadd' ?_
 rw[Around.under_plainId (by decide +kernel:plainId "list.__iadd__"=true) _]
 exact wpAny_extend_range (A:=A) hh hr hsmall hn hlen S (.ref S) _ hS hR
theorem collect_rng{r:Addr}{a b c:Int}{t u v:Tok}{n:Nat}{Q:List Value->Shared->Prop}(hh:A.handled=none)(hr:IsRange s.heap r a b c t u v)(hsmall:Builtin.Range.small a b c=true)(hn:Builtin.Range.rangeSize a b c=n)(hlen:n<=2 ^ 24)
  (h:∀h' tk acc,(∀b o,s.heap.get? b=some o->h'.get? b=some o)->ItemsOf (fun i v=>∃t,v=.int (a+i * c) t) acc n->Q acc.toList { s with heap:=h',toks:=tk }):wpAny (model prog w) A (collect (.ref r)) Q E s:=by
 unfold collect
 refine zW (wpAny_runValue (codeAny_builtin entry_proto_collect' ?_))
 rw[Around.under_plainId (by decide +kernel:plainId "proto.collect"=true) _]
 show wpAny _ A.in1 (newList [] >>= fun l=>again (.builtin "list.__iadd__" ⟨[l,.ref r],[]⟩)) _ _ s
 refine zW (wpAny_newObj_type ?_)
 have hS:(s.heap.push { cls:=.type "list",data:=.seq #[] }).get? s.heap.objs.size=some { cls:=.type "list",data:=.seq #[] }:=zY _ rfl
 refine zX ⟨plainId_quiet (by decide +kernel) _,iadd_rng (s:={ s with heap:=s.heap.push { cls:=.type "list",data:=.seq #[] } }) hh (zV _ hr) hsmall hn hlen hS fun h' tk acc' c' hk hS' hacc=>?_⟩
 show wpAny _ A (load s.heap.objs.size >>= _) _ _ _
 refine zW (wpAny_load hS' ?_)
 exact zX (h h' tk acc' (fun b o e=>hk b o (zzB (zZ e)) (zV _ e)) hacc)
end
section
variable {X:Cx}{pins:List (Addr×Obj)}{σ:L2.St}{H:Hp}{s:Shared}{A:Around}{E:Value->Shared->Prop}
theorem sortedR{l:Value}{f:Addr}{PV:List Value->Prop}{Q:Value->Shared->Prop}(I:Inv X pins σ H s)
  (hcol:∀ {Q':List Value->Shared->Prop},(∀ (h':Heap) (tk:Nat) (vs:List Value),PV vs->(∀b o,s.heap.get? b=some o->h'.get? b=some o)->Q' vs { s with heap:=h',toks:=tk })->wpAny (model X.prog X.w) A.in1 (collect l) Q' E s)
  (rest:∀vs,PV vs->vs.length < 64/\∃J:List Value->Hp->Prop,J [] H /\
   (∀us v,vs[us.length]?=some v->∀pl s' H',Inv X (pins++pl) σ H' s'->J us H'->wpAny (model X.prog X.w) A.in1.in1 (call (.ref f) [v]) (fun u s''=>∃H'',Inv X (pins++pl) σ H'' s''/\J (us++[u]) H'') (fun _ _=>False) s') /\
   (∀us H',us.length=vs.length->J us H'->∃ (z:Nat->Int) (κ:SortKind),(2<=vs.length->∀s',Inv X pins σ H' s'->(∀Q':SortKind->Shared->Prop,Q' κ s'->wpAny (model X.prog X.w) A.in1.in1 (keyKind' us.toArray) Q' (fun _ _=>False) s') /\
    ∀i j C,i < vs.length->j < vs.length->C (SP.eP z i j) s'->kas_ask X.prog X.w A.in1.in1 κ us i j C s') /\
   ∀s' D c,Inv X pins σ H' s'->cK X pins H' D->s'.heap.get? D=some (seqObj "list" (outV z vs).toArray c)->Q (.ref D) s')) :
  wpAny (model X.prog X.w) A (call (.builtin "sorted") [l] [(Str.ofString "key",.ref f)]) Q E s:=by
 refine call_function_entry_kw kind_sorted plain_sorted entry_sorted (ksk_s1 _ _) ?_
 unfold Builtin.«sorted»
 refine zW (m:=checkCount "sorted" 1 1 _) (zX (zW (hcol fun h1 tk vs hv kp=>?_)))
 obtain⟨h64,J,j0,step,fin⟩:=rest vs hv
 have hsl:vs.length<=sizeLine:=by rw[sizeLine_eq];omega
 refine zW (wpAny_newList ?_ (by simpa using hsl))
 have I1:=I.kept (t':=tk) kp
 have fD:cK X pins H h1.objs.size:=I1.fpOk (zzA _) (I1.hok.fresh (zzA _))
 have hoD:(h1.push (seqObj "list" vs.toArray 0)).get? h1.objs.size=some (seqObj "list" vs.toArray 0):=zY _ rfl
 have I2:=I1.kept (t':=tk) (h':=h1.push (seqObj "list" vs.toArray 0)) fun b o e=>zV _ e
 show wpAny _ _ _ _ _ { s with heap:=h1.push (seqObj "list" vs.toArray 0),toks:=tk }
 refine zW (wpAny_holding (wpAny_call_entry_kw slot_list_sort ⟨_,hoD,rfl⟩ entry_list_sort ?body (ksk_l1 _ _)))
 case body =>
  show wpAny (model X.prog X.w) A.in1.in1 (Builtin.«list.sort» ⟨[.ref h1.objs.size],[(Str.ofString "key",.ref f)]⟩) _ _ _
  rw[ksk_t1]
  refine list_sortK I2 hoD fD h64 J j0 step fun us H' hu j'=>?_
  obtain⟨z,κ,hz,hP⟩:=fin us H' hu j'
  exact⟨z,κ,hz,fun s' c I' f' e=>⟨_,rfl,zX ⟨_,rfl,hP s' _ c I' f' e⟩⟩⟩
end
end Srt
namespace Dl
open PySem L2 PySem.Spec PyProof.Rows
def rl(n:Nat):List D:=(List.range n).map fun i=>PyData.int ((i:Nat):Int)
def qk(cs:List Nat)(fs:Env->Option (List D))(te:Env->Option D):Env->Option (List D):=fun ρ=>(fs ρ).bind fun l=>match l with
 | [.int n]=>if 0<=n/\n < 64 then (iT te (fA 1 cs ρ) (rl n.toNat)).bind fun ks=>(rowsOf ks).map fun nss=>nF (fun i=>rk nss (nss.getD i [])) (rl n.toNat) .none else none
 | _=>none
theorem tY:∀ {vs:List Value}{k:Nat},(∀i v,vs[i]?=some v->∃t,v=Value.int ((k+i:Nat):Int) t)->aH ((List.range' k vs.length).map fun i=>V.int ((i:Nat):Int)) vs
 | [],k,_=>.nil
 | v::vs,k,h=>by
  rw[zL,List.range'_succ,zI]
  obtain⟨t,e⟩:=h 0 v rfl
  refine .cons ⟨t,by simpa using e⟩ (tY fun i u hu=>?_)
  obtain⟨t',e'⟩:=h (i+1) u (by simpa using hu)
  exact⟨t',by rw[e'];congr 1;omega⟩
theorem uF{K:W.Frag}{HF:Hp}:∀ (l:List Nat),ar K HF (l.map fun i=>PyData.int ((i:Nat):Int)) (l.map fun i=>V.int ((i:Nat):Int))
 | []=>ar.nil
 | i::l=>ar.cons (by simp[Rep]) (uF l)
section
variable {X:Cx}{N:List Str}{sc:Scope}{k:Nat}
variable {e body:Expr}{fs:Env->Option (List D)}{te:Env->Option D}{params:Arguments}{scope:Scope}{lpos pos p0 kpos rpos p1:Pos}{N':List Str}{cs:List Nat}{p qual:Str}
theorem Bk.sortR(C:Bk X N sc (k+3))(B:nU X "sorted" (.builtin "sorted"))(BR:nU X "range" (.type "range"))(L:qj X qual)(ok:jz sc scope N N' 1 cs=true)(hl:o4 scope N' p=true)
  (hb:∀ (cl:List (Str×Addr)) (pm ctv u:Value) (c:Addr),bindArgs (W.kla_fn "<lambda>" qual params body scope cl pm (.ref c) ctv) ⟨[u],[]⟩=pure [(p,u)]) (hdef:defaultsOf params X.env=([],[])) (h:DA X [e] fs)
  (hY:∀A f c s H,Bk (iq X A qual scope N' f c s H) N' scope k->DE (iq X A qual scope N' f c s H) body te)
  (hsR:starEach [e] X.env=[(false,eval e X.env)])
  (hst:starEach [.Call (.Name "range" p1) [e] [] rpos] X.env=(false,eval (.Call (.Name "range" p1) [e] [] rpos) X.env)::starEach [] X.env) (he:backTo pos (starEach [.Call (.Name "range" p1) [e] [] rpos] X.env)=(false,eval (.Call (.Name "range" p1) [e] [] rpos) X.env)::backTo pos (starEach [] X.env)) (hpl:(backTo pos (starEach [.Call (.Name "range" p1) [e] [] rpos] X.env)).any (·.1)=false) :
  DF X (.Call (.Name "sorted" p0) [.Call (.Name "range" p1) [e] [] rpos] [⟨some "key",.Lambda params body scope lpos,kpos⟩] pos) (qk cs fs te):=by
 obtain⟨S,_⟩:=C.comp ok
 have hnd:N'.Nodup:=by
  unfold jz at ok
  simp only[zF,zJ] at ok
  exact ok.2
 have hl':=hl
 unfold o4 at hl'
 simp only[zF,List.all_eq_true,Bool.not_eq_true',decide_eq_false_iff_not,zJ] at hl'
 obtain⟨⟨⟨⟨hnc,hN0⟩,hp⟩,hco⟩,hgen⟩:=hl'
 obtain⟨cc,P,hcode,hqual,hhd,fy⟩:=L.ex
 intro pins s σ H Q I ⟨HF,ρ,out,sm,eo,hf,q⟩
 obtain⟨ld,hld,hf⟩:=bs hf
 obtain⟨n,rfl⟩:∃n,ld=[.int n]:=by
  split at hf
  ·exact⟨_,rfl⟩
  ·cases hf
 simp only at hf
 split at hf
 rotate_left
 ·cases hf
 rename_i h64
 obtain⟨ks,hks,hf⟩:=bs hf
 obtain⟨nss,hns,rfl⟩:=ag hf
 obtain⟨hkr,hne⟩:=j9 hns
 refine wpAny_Call_Name_kw (jK I B.gl B.mg B.bt ?_ (by decide) (by decide))
 refine PyProof.Rows.callWith_kw (e:=.Call (.Name "range" p1) [e] [] rpos) (rest:=[]) (kws:=[⟨some "key",.Lambda params body scope lpos,kpos⟩]) ?_ he hpl rfl rfl
 rw[he]
 refine Calls.spliced_cons ?_
 refine Call_ (jK I BR.gl BR.mg boot_range (PyProof.Rows.callWith_type1 (cy (h rpos pins s σ H _ I ⟨HF,ρ,[.int n],sm,eo,hld,fun vs H1 HF1 g1 r1=>(⟨HF1,g1,r1⟩:∃HF1,cg HF H HF1 H1/\ar X.K HF1 [.int n] vs)⟩) fun us s1 ⟨vs,H1,I1,rv,HF1,g1,r1⟩=>?_) hsR rfl))
 obtain⟨v,vr,rfl,a1,b1⟩:=r1.cons_inv
 rw[b1.nil_inv] at rv
 obtain⟨u,rfl,rx⟩:=vals1 rv
 simp only[Rep] at a1
 subst a1
 obtain⟨t,rfl⟩:=rx
 refine call_range_1 ?_
 refine Calls.spliced_nil ?_
 obtain⟨hn0,hn64⟩:=h64
 have I1':=I1.kept (t':=s1.toks+1+1) (h':=s1.heap.push { cls:=Value.type "range",data:=Data.fields #[Value.int 0 s1.toks,Value.int n t,Value.int 1 (s1.toks+1)] }) fun b o e=>zV _ e
 have hro:(s1.heap.push { cls:=Value.type "range",data:=Data.fields #[Value.int 0 s1.toks,Value.int n t,Value.int 1 (s1.toks+1)] }).get? s1.heap.objs.size=some { cls:=Value.type "range",data:=Data.fields #[Value.int 0 s1.toks,Value.int n t,Value.int 1 (s1.toks+1)] }:=zY _ rfl
 have Ir:=I1'.pinned (fp:=[s1.heap.objs.size]) (fun b hb=>by rw[yL.mp hb];exact I1.fpOk (zzA _) I1.fresh) (fun b hb=>by rw[yL.mp hb];exact⟨_,hro,fun v z=>by cases z⟩)
 have hT1:H1 P=some (.tab qual):=g1.fh _ _ (fy HF1 (eo.tb.mono g1.ff))
 show wpAny _ _ (evalAll ((do let v <- eval (.Lambda params body scope lpos) X.env;standAt pos;pure v)::[])) _ _ _
 refine wpAny_evalAll_cons (zW ?_)
 refine yy (P:=P) Ir S hqual hcode (W.codeHd_of_K Ir.ok.mod.kin hhd) hT1 Ir.ok.mod.bmd hdef fun f c' pm ctv s2 H2 I2 hfo hfn hcod s12 fp2 _=>?_
 refine zW (wpAny_standAt (zX (wpAny_evalAll_nil ?_)))
 show wpAny _ _ (call (.builtin "sorted") [.ref s1.heap.objs.size] [(Str.ofString "key",.ref f)]) _ _ s2
 have hr2:IsRange s2.heap s1.heap.objs.size 0 n 1 s1.toks t (s1.toks+1):=(Srt.pin_get I2 zE hro).1
 have Ip:=I2.pinned (fp:=[f]) (fun b hb=>by rw[yL.mp hb];exact fp2) (fun b hb=>by rw[yL.mp hb];exact⟨_,hfo,fun v z=>by cases z⟩)
 have g2:cg HF1 H1 HF1 H2:=⟨s12,.refl _,g1.fh.trans s12,fun _ _ e=>.inl e⟩
 have hkl:=oi hks
 have hnl:(rl n.toNat).length=n.toNat:=by simp[rl]
 have hR:eH (k+1) X.A.in1.in1:=C.room.in1.in1
 refine Srt.sortedR (PV:=fun vs=>vs.length=n.toNat/\∀i v,vs[i]?=some v->∃t,v=Value.int ((i:Nat):Int) t) Ip (fun {Q'} hQ=>?_) fun its ⟨hil,hiv⟩=>⟨by omega,fun us H'=>∃HF' kvs,cg HF1 H2 HF' H'/\ar X.K HF' (ks.take us.length) kvs/\aH kvs us,⟨HF1,[],.refl g2.fh,by simpa using ar.nil,.nil⟩,fun us x hx pl' s3 H3 I3 ⟨HF3,kvs,g3,rk,rvk⟩=>?_,fun us H3 hu ⟨HF3,kvs,g3,rk,rvk⟩=>?_⟩
 ·refine Srt.collect_rng (n:=n.toNat) C.room.in1.hd hr2 (small_one (by omega) (by omega) (by omega) (by omega)) (by rw[rangeSize_one];split<;>omega) (by omega) fun h' tk acc kp ha=>?_
  refine hQ h' tk acc.toList ⟨by have:=ha.1;simpa using this,fun i v hv=>?_⟩ kp
  obtain⟨t',e'⟩:=ha.2 i v (by simpa using hv)
  exact⟨t',by rw[e'];congr 1;omega⟩
 ·have hi:us.length < n.toNat:=by rw[<- hil];exact (zU.mp hx).1
  obtain⟨tx,rfl⟩:=hiv _ _ hx
  have hd:(rl n.toNat)[us.length]?=some (.int ((us.length:Nat):Int)):=by simp[rl,hi]
  obtain⟨kd,hkd,hki⟩:=rE hks hd
  have hfo3:s3.heap.get? f=some (W.kla_obj "<lambda>" qual params body scope (eJ X.env scope.names []) pm c' ctv) :=
   (I3.pin (f,_) (yF _ (List.mem_append_left _ (yF _ (dP zE hfo))))).1
  refine wpAny_mono (ya (v:=V.int ((us.length:Nat):Int)) (Q:=fun v H4=>∃HF4,cg HF3 H3 HF4 H4/\Rep X.K HF4 kd v) (te:=tD X.K te) I3 hR I3.ok.frames S hnc hN0 hp hnd hco hgen hfo3 (g3.hh _ _ hcod) (hb _ _ _ _ _) ⟨tx,rfl⟩ (hY _ _ _ _ _ (G7 C hR S.kind hnd hl))
   ⟨HF3,_,kd,g3.fh,zp (eo.mono (g1.ff.trans g3.ff)) (by simp[Rep]),hkd,fun v H4 HF4 g4 r4=>⟨HF4,g4,r4⟩⟩) (fun u s4 ⟨v4,H4,I4,r4,HF4,g4,rp⟩=>⟨H4,I4,HF4,kvs++[v4],g3.trans g4,?_,rvk.append (.cons r4 .nil)⟩) fun _ _ e=>e
  rw[zN,List.length_singleton,List.take_add_one,hki]
  exact (rk.mono g4.ff).append (ar.cons rp ar.nil)
 ·have hk':ks.take us.length=ks:=List.take_of_length_le (by omega)
  rw[hk',hkr] at rk
  have hnn:nss.length=n.toNat:=by
   have:=congrArg List.length hkr
   rw[zD] at this
   omega
  refine⟨fun i=>Dl.rk nss (nss.getD i []),tuples' true,fun h2 s3 I3=>⟨fun Q' q'=>?_,fun i j Cc hi hj q'=>?_⟩,fun s3 Dn c I3 fD e=>?_⟩
  ·obtain⟨fs',tt,hlen,hff⟩:=qA (iz I3 g3.fh rk rvk) hne
   refine W.kat_kind (T:=.type "int") tt (by omega) (fun v hv=>?_) (by decide) q'
   obtain⟨n',t',rfl⟩:=hff v hv
   exact W.Looks.of_pure rfl
  ·have hp3:=iz I3 g3.fh rk rvk
   have ri:=cX (d:=Value.none) (d':=[]) hp3 (show i < us.length by omega)
   have rj:=cX (d:=Value.none) (d':=[]) hp3 (show j < us.length by omega)
   obtain⟨a,o,its1,n1,ea,e1,e2,e3,e4⟩:=ri.ex
   obtain⟨b,o',its',n',eb,f1,f2,f3,f4⟩:=rj.ex
   unfold W.kas_ask
   rw[ea,eb]
   have hmem:nss.getD i []∈nss:=by
    rw[zG,zK (by omega)]
    exact List.getElem_mem _
   have q2:Cc (lexLt (nss.getD i []) (nss.getD j [])) s3:=by
    rw[w4 hmem]
    exact q'
   refine W.kat_lt e1 e3 f1 f3 ?_
   have:=rJ (prog:=X.prog) (w:=X.w) (A:=X.A.in1.in1) (s:=s3) 0 e4 f4 q2
   have l1:its1.size=(nss.getD i []).length:=by have:=IntsAre.length e4;simpa using this
   have l2:its'.size=(nss.getD j []).length:=by have:=IntsAre.length f4;simpa using this
   rw[l1,l2]
   exact this
  ·have rvi:aH ((List.range n.toNat).map fun i=>V.int ((i:Nat):Int)) its:=by
    have:=tY (vs:=its) (k:=0) fun i v hv=>by
     obtain⟨t',e'⟩:=hiv i v hv
     exact⟨t',by rw[e'];congr 1;omega⟩
    rw[hil,<- yI] at this
    exact this
   have rr:ar X.K HF1 (rl n.toNat) ((List.range n.toNat).map fun i=>V.int ((i:Nat):Int)):=uF _
   have hv:=nB (fun i=>Dl.rk nss (nss.getD i [])) rvi
   have hr:=mT (fun i=>Dl.rk nss (nss.getD i [])) rr
   have hnD:H3 Dn=none:=fD.1
   have I4:=Inv.track (o:=.lst (nF (fun i=>Dl.rk nss (nss.getD i [])) ((List.range n.toNat).map fun i=>V.int ((i:Nat):Int)) .non)) I3 fD ⟨by rw[(fK _ _ _).length_eq,zD,zS,PySem.sizeLine_eq];omega,_,c,hv,e⟩
   have G:=(g1.trans g2).trans g3
   refine⟨.ref Dn,_,I4.unpinned.unpinned,rfl,q Dn _ _ HF3 (G.trans (.own G.fh hnD)) (G.hh.free hnD) (G.fh.free hnD) aL (hr.mono g3.ff)⟩
end
section
variable {X:Cx}{pos:Pos}
def HV(i j l:Nat):Env->D->Option Env:=fun ρ d=>match d with
 | .tuple [x,y,z]=>if isFree ρ i=true/\isFree ρ j=true/\isFree ρ l=true then some (((ρ.set i (some x)).set j (some y)).set l (some z)) else none
 | _=>none
theorem Hl(i j l:Nat){x y z:Str}{px py pz:Pos}{k:Nat}(hc:X.calm=true)(hN:X.N.Nodup)(hi:X.N[i]?=some x)(hx:Loc X.env.scope x)(hj:X.N[j]?=some y)(hy:Loc X.env.scope y)(hl:X.N[l]?=some z)(hz:Loc X.env.scope z)
  (hf:X.fn x=true\/X.env.scope.names.lookup x=some .local) (hf':X.fn y=true\/X.env.scope.names.lookup y=some .local) (hf'':X.fn z=true\/X.env.scope.names.lookup z=some .local) :
  DG X (.Tuple [.Name x px,.Name y py,.Name z pz] k pos) (HV i j l) :=
 qM (Aw hc (gR (gx hN hi hx hf) (gR (gx hN hj hy hf') (gR (gx hN hl hz hf'') vx)))) fun v σ H Q ⟨HF,ρ,d,ρ',sm,eo,r,hf,q⟩=>by
  unfold HV at hf
  split at hf
  ·rename_i x' y' z'
   split at hf
   ·rename_i hh
    cases hf
    simp only[Rep] at r
    obtain⟨a,vs,rfl,hs,rr⟩:=r
    obtain⟨v1,r1,rfl,a1,b1⟩:=rr.cons_inv
    obtain⟨v2,r2,rfl,a2,b2⟩:=b1.cons_inv
    obtain⟨v3,r3,rfl,a3,b3⟩:=b2.cons_inv
    rw[b3.nil_inv] at hs
    exact⟨a,_,rfl,aG sm hs,rfl,v1,_,rfl,v2,_,rfl,v3,_,rfl,rfl,q _ (jx (jx (jx eo a1) a2) a3) (lE (lE (lE eo hh.1) hh.2.1) hh.2.2)⟩
   ·cases hf
  ·cases hf
end
section
variable {X:Cx}{a:Expr}{fa:Env->Option D}{pos p1 p2 p3 p4:Pos}{i j:Nat}
end
section
variable {X:Cx}
variable {HF₀ H₀:Hp}
end
section
variable {X:Cx}{e:Expr}{es:List Expr}{fs:Env->Option (List D)}{pos p:Pos}
def DM:List D->Option D
 | [.int a,.int b]=>some (.int (max a b))
 | _=>none
theorem EV(hc:X.calm=true):d9 X (.builtin "max") (fun xs H Q=>∃a b:Int,xs=[.int a,.int b]/\Q (.int (max a b)) H):=by
 intro pins s σ H xs us Q I r h
 have hh:X.A.handled=none:=I.ok.hd hc
 obtain⟨a,b,rfl,q⟩:=h
 cases r with
 | cons r1 r =>
  cases r with
  | cons r2 r =>
   cases r
   obtain⟨t,rfl⟩:=r1
   obtain⟨u,rfl⟩:=r2
   refine max_two_ints hh fun h' tk kp=>⟨.int (max a b),H,I.kept (t':=tk) kp,?_,q⟩
   by_cases h:b > a
   ·rw[if_pos h,show max a b=b by omega];exact⟨_,rfl⟩
   ·rw[if_neg h,show max a b=a by omega];exact⟨_,rfl⟩
theorem Lc(hc:X.calm=true)(B:nU X "max" (.builtin "max"))(he:starEach (e::es) X.env=(false,eval e X.env)::starEach es X.env)(hpl:(backTo pos (starEach es X.env)).any (·.1)=false)(ha:DA X (e::es) fs):DE X (.Call (.Name "max" p) (e::es) [] pos) (aU DM fs) :=
 fE (EV hc) (by
  intro HF H ds vs d Q sm r hg q
  unfold DM at hg
  split at hg
  ·cases hg
   obtain⟨v1,r1,rfl,a1,b1⟩:=r.cons_inv
   obtain⟨v2,r2,rfl,a2,b2⟩:=b1.cons_inv
   rw[b2.nil_inv]
   simp only[Rep] at a1 a2
   exact⟨_,_,by rw[a1,a2],q _ H HF (.refl sm) (by simp[Rep])⟩
  ·cases hg) B ha (by decide) (by decide) he hpl
end
section
variable {X:Cx}{N:List Str}{sc:Scope}{k:Nat}{a b e:Expr}{fa fb:Env->Option D}{pos p:Pos}{HF₀ H₀:Hp}
end
section
variable {X:Cx}{e:Expr}{f:Env->Option D}{pos p p' pos':Pos}
end
section
variable {X:Cx}{a b c e:Expr}{es:List Expr}{fk:Env->Option D}{fs:Env->Option (List D)}{pos p p1 p2 p3:Pos}{x y:Str}
def qf(n:Nat)(m m':List D->Option D)(fk:Env->Option D)(fs:Env->Option (List D)):Env->Option D:=fun ρ=>(fk ρ).bind fun kd=>(fs ρ).bind fun ds=>if ds.length=n then (match kd with
 | .int k=>if k=0 then m ds else if k=1 then m' ds else none
 | _=>none) else none
theorem JU{k n:Nat}{m m':List D->Option D}(F:dk X.prog X.w X.K X.mg X.base k x n m)(F':dk X.prog X.w X.K X.mg X.base k y n m')(hr:eH k X.A)(hg:Gl X x)(hg':Gl X y)(hk:DE X b fk)(ha:DA X (e::es) fs)
  (hdb:(x == ("__debug__":Str))=false:=by decide) (hdb':(y == ("__debug__":Str))=false:=by decide) (hs:pR b:=by intro _ _;rfl)
  (he:starEach (e::es) X.env=(false,eval e X.env)::starEach es X.env:=by rfl) (hpl:(backTo pos (starEach es X.env)).any (·.1)=false:=by rfl)
  (ht:eval (.Call (.Subscript (.List [.Name x p,.Name y p1] p2) b p3) (e::es) [] pos) X.env=(do callWith pos (<- eval (.Subscript (.List [.Name x p,.Name y p1] p2) b p3) X.env) [] (backTo pos (starEach (e::es) X.env)) (backToKw pos (keywordEach [] X.env))):=by rfl) :
  DE X (.Call (.Subscript (.List [.Name x p,.Name y p1] p2) b p3) (e::es) [] pos) (qf n m m' fk fs):=by
 obtain⟨f,fd,ps,ok,hm,hkp,hb⟩:=F.ex
 obtain⟨f',fd',ps',ok',hm',hkp',hb'⟩:=F'.ex
 intro pins s σ H Q I ⟨HF,ρ,d,sm,eo,hf,q⟩
 obtain⟨kd,h1,hf⟩:=bs hf
 obtain⟨ds,h2,hf⟩:=bs hf
 split at hf
 ·rename_i hl
  obtain⟨kk,rfl⟩:∃kk,kd=.int kk:=by cases kd<;>first|exact⟨_,rfl⟩|cases hf
  rw[ht]
  have hc:PE X (.Subscript (.List [.Name x p,.Name y p1] p2) b p3) _:=K0 CJ (F1 (dg (vq (v:=.ref f) hg hm rfl hdb) (dg (vq (v:=.ref f') hg' hm' rfl hdb') iS))) hk hs
  have run:∀ {s1:Shared}{H1 HF1:Hp}{g:Addr}{gd:FuncData}{gs:List Str}{M:List D->Option D},pA X.prog X.w X.K X.mg X.base L8 k g gd gs (Li X.K n M)->W.keepIn X.K (.ref g)=true->Binds X.K gd gs []->M ds=some d->Inv X pins σ H1 s1->cg HF H HF1 H1 ->
    wpAny (model X.prog X.w) X.A (callWith pos (.ref g) [] (backTo pos (starEach (e::es) X.env)) (backToKw pos (keywordEach [] X.env))) (EP X pins σ Q) X.xe s1:=by
   intro s1 H1 HF1 g gd gs M O0 kpg bg hM I1 G1
   refine W.callWith_K (h₀:=X.base) I.ok.mod.kin kpg (cy (ha pos pins s1 σ H1 (fun vs H2=>Li X.K n M (vs++[]) H2 Q E0) I1 ⟨HF1,ρ,ds,G1.fh,eo.mono G1.ff,h2,fun vs H2 HF2 G2 r2=>⟨HF2,ds,d,G2.fh,(eo.mono G1.ff).tb.mono G2.ff,by rw[List.append_nil];exact r2,hl,hM,fun v H' HF' g' r=>q v H' HF' (G1.trans (G2.trans g')) r⟩⟩) fun us s2 ⟨vs,H2,I2,r,q2⟩=>⟨I2.kIn,?_⟩) he hpl
   exact GV O0 hr bg .nil KO I2 r q2
  refine zW (cy (hc pins s σ H (fun v H1=>∃HF1,cg HF H HF1 H1/\v=(if kk=0 then V.ref f else .ref f')) I ⟨by rw[sizeLine_eq];simp,fun z hz=>?_⟩) fun u s1 ⟨v,H1,I1,rv,HF1,G1,ev⟩=>?_)
  ·have G0:cg HF H HF (upd H z (.lst [.ref f,.ref f'])):=.own sm hz
   refine⟨HF,ρ,.int kk,G0.fh,eo,h1,fun v1 H1 HF1 g1 r1=>?_⟩
   simp only[Rep] at r1
   refine⟨z,[.ref f,.ref f'],kk,(if kk=0 then V.ref f else .ref f'),rfl,r1,.of (g1.hh z _ aL),?_,HF1,G0.trans g1,rfl⟩
   dsimp only at hf
   by_cases h0:kk=0
   ·subst h0;rfl
   ·rw[if_neg h0] at hf ⊢
    by_cases h1:kk=1
    ·subst h1;rfl
    ·rw[if_neg h1] at hf;cases hf
  ·dsimp only at hf
   by_cases h0:kk=0
   ·rw[if_pos h0] at hf ev
    subst ev
    cases rv
    exact run ok hkp hb hf I1 G1
   ·rw[if_neg h0] at hf ev
    subst ev
    cases rv
    by_cases h1:kk=1
    ·rw[if_pos h1] at hf
     exact run ok' hkp' hb' hf I1 G1
    ·rw[if_neg h1] at hf;cases hf
 ·cases hf
end
section
variable {X:Cx}{HF₀ H₀:Hp}{e:Expr}{pos:Pos}
end
def fZ:List Int->D
 | [x,y,m]=>.tuple [.tuple [.int x,.int y],.int m]
 | _=>.none
def vf:D->Option (List Int)
 | .tuple [.tuple [.int x,.int y],.int m]=>some [x,y,m]
 | _=>none
theorem zc{d:D}{r:List Int}(h:vf d=some r):d=fZ r/\∃x y m,r=[x,y,m]:=by
 unfold vf at h
 split at h
 ·cases h;exact⟨rfl,_,_,_,rfl⟩
 ·cases h
def nestsOf:List D->Option (List (List Int))
 | []=>some []
 | d::r=>(vf d).bind fun ns=>(nestsOf r).map (ns::·)
theorem mF:∀ {ds:List D}{nss:List (List Int)},nestsOf ds=some nss->ds=nss.map fZ/\∀ns∈nss,∃x y m,ns=[x,y,m]
 | [],nss,h=>by cases h;exact⟨rfl,fun _ z=>by cases z⟩
 | d::r,nss,h=>by
  obtain⟨ns,h1,h⟩:=bs h
  obtain⟨rest,h2,rfl⟩:=ag h
  obtain⟨e,hn⟩:=zc h1
  obtain⟨e2,hn2⟩:=mF h2
  refine⟨by rw[e,e2];rfl,fun m hm=>?_⟩
  rcases zR.mp hm with z|z
  ·rw[z];exact hn
  ·exact hn2 m z
structure rT(h:Heap)(v:Value)(r:List Int):Prop where
 ex:∃ (a:Addr) (o:Obj) (n:Nat) (p:Value) (x y m:Int) (t:Tok),v=.ref a/\r=[x,y,m]/\h.get? a=some o/\o.cls=.type "tuple"/\o.data=.seq #[p,.int m t] n/\dA h p [x,y]
theorem rT.keep{h h':Heap}{v:Value}{r:List Int}(q:rT h v r)(k:∀b o,h.get? b=some o->h'.get? b=some o):rT h' v r:=by
 obtain⟨a,o,n,p,x,y,m,t,e,e1,e2,e3,e4,e5⟩:=q.ex
 exact⟨a,o,n,p,x,y,m,t,e,e1,k _ _ e2,e3,e4,e5.keep k⟩
theorem o6:∀ {us:List Value}{ns ms:List Int},IntsAre us ns->IntsAre us ms->ns=ms
 | [],_,_,.nil,.nil=>rfl
 | _,_,_,.cons n t r,.cons _ _ r2=>by rw[o6 r r2]
theorem FT:∀ {ns ms:List Int},((List.range (min ns.length ms.length)).all (fun j=>ns.getD j 0 == ms.getD j 0)&&ns.length == ms.length)=decide (ns=ms):=fun {ns ms}=>by
 by_cases e:ns=ms
 ·subst e
  rw[yB rfl]
  simp
 ·rw[yA e]
  refine Bool.eq_false_iff.mpr fun h=>e ?_
  rw[zF,List.all_eq_true,beq_iff_eq] at h
  refine List.ext_getElem h.2 fun j h1 h2=>?_
  have:=h.1 j (by simp;omega)
  simpa [h1,h2] using this
section
variable {prog:Program}{w:World}{A:Around}{E:Value->Shared->Prop}{s:Shared}
theorem Mh{p q:Value}{ns ms:List Int}(hp:dA s.heap p ns)(hq:dA s.heap q ms)(hu:A.units < cLine):SeqAt.EqAt A s p q (decide (ns=ms)):=by
 obtain⟨a,o,its,n,rfl,e1,e2,e3,e4⟩:=hp.ex
 obtain⟨b,o',its',n',rfl,f1,f2,f3,f4⟩:=hq.ex
 by_cases hab:a=b
 ·subst hab
  rw[e1] at f1;cases f1
  rw[e3] at f3;cases f3
  rw[o6 e4 f4,yB rfl]
  exact SeqAt.EqAt.same _
 ·refine SeqAt.EqAt.of_refs hab ?_
  have l1:its.size=ns.length:=by have:=IntsAre.length e4;simpa using this
  have l2:its'.size=ms.length:=by have:=IntsAre.length f4;simpa using this
  have:=SeqAt.RcAt.tuples (A:=A) (s:=s) (e:=fun j=>ns.getD j 0 == ms.getD j 0) ⟨o,e1,e2,n,e3⟩ ⟨o',f1,f2,n',f3⟩ hu fun j h1 h2=>by
   obtain⟨t1,g1⟩:=ee e4 (i:=j) (by simpa using h1)
   obtain⟨t2,g2⟩:=ee f4 (i:=j) (by simpa using h2)
   have k1:its[j]=.int (ns.getD j 0) t1:=by rw[<- g1];simp[h1]
   have k2:its'[j]=.int (ms.getD j 0) t2:=by rw[<- g2];simp[h2]
   rw[k1,k2]
   exact SeqAt.EqAt.int_int _ _ _ _
  rw[l1,l2,FT] at this
  exact this
theorem ug{h:Heap}:∀ {vs:List Value}{nss:List (List Int)},Paired (rT h) vs nss->∃fs:List Value,W.KatTups h vs fs/\fs.length=vs.length/\∀f∈fs,∃ns,dA h f ns
 | _,_,.nil=>⟨[],trivial,rfl,fun _ z=>by cases z⟩
 | _,_,.cons (a:=v) (b:=ns) r p=>by
  obtain⟨fs,h1,h2,h3⟩:=ug p
  obtain⟨a,o,n,q,x,y,m,t,e,e1,e2,e3,e4,e5⟩:=r.ex
  refine⟨q::fs,⟨⟨a,o,_,n,e,e2,e3,e4,rfl⟩,h1⟩,by simp[h2],fun f hf=>?_⟩
  rcases zR.mp hf with z|z
  ·rw[z];exact⟨_,e5⟩
  ·exact h3 f z
theorem yk{l:Addr}{vs:List Value}{nss:List (List Int)}{Q:Value->Shared->Prop}(hu:A.in1.in1.units < cLine)(hl:Srt.Coll s.heap l vs)(hp:Paired (rT s.heap) vs nss)(h64:vs.length < 64)
  (h:∀ (h':Heap) (D:Addr) (c:Nat),(∀b o,s.heap.get? b=some o->h'.get? b=some o)->s.heap.objs.size<=D->h'.get? D=some (seqObj "list" (Srt.outV (fun i=>rk nss (nss.getD i [])) vs).toArray c)->Q (.ref D) { s with heap:=h' }) :
  wpAny (model prog w) A (call (.builtin "sorted") [.ref l]) Q E s:=by
 refine Srt.sortedG hl h64 (fun i=>rk nss (nss.getD i [])) (tuples' false) (fun h2 h' kp Q' q=>?_) (fun h2 h' kp i j C hi hj q=>?_) h
 ·have hp':Paired (rT h') vs nss:=Paired.mapP hp fun _ _ r=>r.keep kp
  obtain⟨fs,t,hlen,hf⟩:=ug hp'
  refine W.kat_kind (s:={ s with heap:=h' }) (T:=.type "tuple") t (by omega) (fun v hv=>?_) (by decide) q
  obtain⟨ns,r⟩:=hf v hv
  obtain⟨a,o,its,n,rfl,e1,e2,e3,e4⟩:=r.ex
  exact fun A Q E s k q=>wpAny_typeOf (T:="tuple") ⟨o,k _ _ e1,e2⟩ q
 ·have ri:=(cX (d:=Value.none) (d':=[]) hp hi).keep kp
  have rj:=(cX (d:=Value.none) (d':=[]) hp hj).keep kp
  have hlen:=hp.length
  have hmem:nss.getD i []∈nss:=by
   rw[zG,zK (by omega)]
   exact List.getElem_mem _
  have q':C (lexLt (nss.getD i []) (nss.getD j [])) { s with heap:=h' }:=by
   rw[w4 hmem]
   exact q
  obtain⟨a,o,n,p,x,y,m,t,ea,er,e1,e2,e3,e5⟩:=ri.ex
  obtain⟨b,o',n',p',x',y',m',t',eb,er',f1,f2,f3,f5⟩:=rj.ex
  unfold W.kas_ask
  rw[ea,eb]
  rw[er,er'] at q'
  refine W.kat_lt (s:={ s with heap:=h' }) e1 e3 f1 f3 ?_
  refine W.kat_cons (Mh e5 f5 hu prog w _ _ ?_)
  have q2:C (HT.lexLt [x,y,m] [x',y',m']) { s with heap:=h' }:=q'
  rw[HT.aQ,HT.aQ,HT.aQ,HT.dB] at q2
  by_cases hxy:[x,y]=[x',y']
  ·rw[yB hxy]
   simp only[List.cons.injEq,and_true] at hxy
   rw[if_pos hxy.1,if_pos hxy.2] at q2
   refine W.kat_yes (W.kat_cons (SeqAt.EqAt.int_int m t m' t' prog w _ _ ?_))
   by_cases hm:m=m'
   ·rw[if_pos hm] at q2
    subst hm
    rw[beq_self_eq_true]
    exact W.kat_yes (W.kat_nil q2)
   ·rw[if_neg hm] at q2
    rw[show (m == m')=false by simpa using hm]
    refine W.kat_no (W.kat_one _ _ ?_)
    exact HT.zk _ _ m t m' t' prog w _ _ q2
  ·rw[yA hxy]
   refine W.kat_no (W.kat_one _ _ ?_)
   obtain⟨a1,o1,i1,n1,rfl,g1,g2,g3,g4⟩:=e5.ex
   obtain⟨a2,o2,i2,n2,rfl,k1,k2,k3,k4⟩:=f5.ex
   refine HT.qX (s:={ s with heap:=h' }) ⟨o1,g1,g2,n1,g3⟩ ⟨o2,k1,k2,n2,k3⟩ g4 k4 hu ?_
   show C (HT.lexLt [x,y] [x',y']) _
   rw[HT.aQ,HT.aQ,HT.dB]
   simp only[List.cons.injEq,and_true,not_and] at hxy
   by_cases hx:x=x'
   ·rw[if_pos hx] at q2 ⊢
    rw[if_neg (hxy hx)] at q2 ⊢
    exact q2
   ·rw[if_neg hx] at q2 ⊢
    exact q2
end
section
variable {X:Cx}{e:Expr}{fs:Env->Option (List D)}{p pos:Pos}
theorem yc{pins:List (Addr×Obj)}{σ:L2.St}{H HF:Hp}{s:Shared}(I:Inv X pins σ H s)(sm:aR HF H):∀ {nss:List (List Int)}{vs:List V}{us:List Value},(∀ns∈nss,∃x y m,ns=[x,y,m])->ar X.K HF (nss.map fZ) vs->aH vs us->Paired (rT s.heap) us nss
 | [],_,_,_,h,r=>by rw[h.nil_inv] at r;cases r;exact .nil
 | ns::nss,_,_,hn,h,r=>by
  obtain⟨v,vr,rfl,a,b⟩:=h.cons_inv
  obtain⟨x,y,m,rfl⟩:=hn ns zE
  cases r with
  | cons r rr =>
   refine .cons ?_ (yc I sm (fun z hz=>hn z (zC _ hz)) b rr)
   simp only[fZ,Rep] at a
   obtain⟨p,ws,rfl,hs,rw'⟩:=a
   obtain⟨v1,r1,rfl,a1,b1⟩:=rw'.cons_inv
   obtain⟨v2,r2,rfl,a2,b2⟩:=b1.cons_inv
   rw[b2.nil_inv] at hs
   simp only[Rep] at a2
   subst a2
   cases r
   obtain⟨its,rv,⟨o,ho,hc,n,hd⟩,_⟩:=I.tuple (aG sm hs)
   cases rv with
   | cons q1 rv =>
    cases rv with
    | cons q2 rv =>
     cases rv
     obtain⟨t,rfl⟩:=q2
     have pr:=iz I sm (nss:=[[x,y]]) (ar.cons a1 ar.nil) (.cons q1 .nil)
     cases pr with
     | cons rv _=>exact⟨p,o,n,_,x,y,m,t,rfl,rfl,ho,hc,hd,rv⟩
theorem GE(z:Nat->Int)(nss:List (List Int)):nF z (nss.map fZ) .none=(nF z nss []).map fZ:=by
 unfold nF
 rw[zD]
 split
 ·rfl
 ·rename_i h
  rw[zM]
  obtain⟨hp,_⟩:=SP.gh (z:=z) (n:=nss.length) (by omega)
  refine yJ fun i hi=>?_
  have hi':i < nss.length:=by have:=hp.mem_iff.mp hi;simpa using this
  simp[hi']
theorem oo(hu:X.A.units+66 < cLine):d9 X (.builtin "sorted") (fun xs H Q=>∃ (HF:Hp) (a:Addr) (vs:List V) (nss:List (List Int)),xs=[.ref a]/\aR HF H/\hZ X.K HF a vs/\ar X.K HF (nss.map fZ) vs/\(∀ns∈nss,∃x y m,ns=[x,y,m])/\nss.length < 64 /\
  ∀ (Dn:Addr) (us:List V),H Dn=none->ar X.K HF ((oU nss).map fZ) us->Q (.ref Dn) (upd H Dn (.lst us))):=by
 intro pins s σ H xs us Q I r h
 obtain⟨HF,a,vs,nss,rfl,sm,hq,rr,hn,h64,q⟩:=h
 obtain⟨u,rfl,rx⟩:=vals1 r
 cases rx
 obtain⟨its,rv,pl,hz⟩:=I.list (sm.seq hq)
 obtain⟨o,ho,hc,n,hd⟩:=pl.isList
 have hl1:=rr.length
 rw[zD] at hl1
 refine yk (by show X.A.units+1+1 < cLine;omega) ⟨o,"list",n,.inl rfl,ho,hc,hd⟩ (yc I sm hn rr rv) (by have:=rv.length;omega) fun h' Dn c kp hD e=>?_
 have hv:=nB (fun i=>rk nss (nss.getD i [])) rv
 have hr:=mT (fun i=>rk nss (nss.getD i [])) rr
 rw[GE,CO] at hr
 refine⟨.ref Dn,_,I.laid (t':=s.toks) (o:=.lst (nF (fun i=>rk nss (nss.getD i [])) vs .non)) kp hD ⟨?_,_,c,hv,e⟩,rfl,q Dn _ (I.hok.fresh hD) hr⟩
 rw[(fK _ _ _).length_eq]
 exact hz
def kK:List D->Option (List D):=fun ds=>(oneOf ds).bind fun d=>match d with
 | .list es=>(nestsOf es).bind fun nss=>if nss.length < 64 then some ((oU nss).map fZ) else none
 | _=>none
theorem GF(hu:X.A.units+66 < cLine)(B:nU X "sorted" (.builtin "sorted"))(ha:DA X [e] fs)(he:starEach [e] X.env=(false,eval e X.env)::starEach [] X.env:=by rfl):DF X (.Call (.Name "sorted" p) [e] [] pos) (lX kK fs) :=
 wU (oo hu) (by
  intro HF H ds vs d Q sm r hg q
  obtain⟨x,hx,hg⟩:=bs hg
  rw[dR hx] at r
  cases x<;>try cases hg
  obtain⟨nss,hb,hg⟩:=bs hg
  split at hg
  ·rename_i h64
   cases hg
   obtain⟨v,r',rfl,a,b⟩:=r.cons_inv
   rw[b.nil_inv]
   simp only[Rep] at a
   obtain⟨p,us,rfl,h,rr⟩:=a
   obtain⟨e1,e2⟩:=mF hb
   rw[e1] at rr
   exact⟨HF,p,us,nss,rfl,sm,h,rr,e2,h64,fun Dn ws hD hr=>q Dn ws _ HF (.own sm hD) hD (sm.free hD) aL hr⟩
  ·cases hg) B ha (by decide) (by decide) he rfl
end
end Dl
namespace HT
open PySem PyProof.Rows
section
open PySem.SeqAt
open PySem.AutoSeq1 (wpAny_loadPart')
open PySem.MeetsSeq PySem.MeetsSeq2 PySem.MeetsSeq3
theorem EK(A:Around)(s:Shared)(a:Int)(t:Tok)(c:Int)(u:Tok)(prog:Program)(w:World)(E:Value->Shared->Prop)(Q:Value->Shared->Prop)(h:Q (.bool (decide (c < a))) s) :
  wpAny (model prog w) A (richCompare .Gt (.int a t) (.int c u)) Q E s :=
 (PyProof.Rows.gt_int h:wpAny (model prog w) A (compareOp .Gt (.int a t) (.int c u)) Q E s)
theorem tw(l b:Addr)(items items2:Array Value)(n n2:Nat)(dd dd2:Option Addr)(sl sl2:Array (Option Value))(ns ms:List Int)(hi:IntsAre items.toList ns)(hj:IntsAre items2.toList ms) :
  Meets (Builtin.«tuple.__gt__» ⟨[.ref l,.ref b],[]⟩)
   (fun _ R s=>s.heap.get? l=some { cls:=.type "tuple",dict:=dd,data:=.seq items n,slots:=sl }/\s.heap.get? b=some { cls:=.type "tuple",dict:=dd2,data:=.seq items2 n2,slots:=sl2 } /\
    R (.ok (.ret (.bool (lexLt ms ns)))) s) :=
 .of_wp fun prog w A R s h=>by
  obtain⟨hp,g,d,tk,os⟩:=s;obtain⟨hl,hb,h⟩:=h
  have f2:=AutoSeq1.sub_tuple_tuple
  have z1:items.size=ns.length:=by rw[<- hi.length];simp
  have z2:items2.size=ms.length:=by rw[<- hj.length];simp
  wp_walk using wpAny_loadPart' hl,wpAny_loadPart' hb,wpAny_forIn_list _ (fun rest b s'=>b.1=none/\s'=⟨hp,g,d,tk,os⟩/\∃ (vs ws:List Value) (ns' ms':List Int),rest=vs.zip ws /\
   IntsAre vs ns'/\IntsAre ws ms'/\ns'.length+items2.size=ms'.length+items.size/\R (.ok (.ret (.bool (lexLt ms' ns')))) ⟨hp,g,d,tk,os⟩) _
  case turn =>
   rintro⟨y,x⟩ rest b s' ⟨hb',rfl,vs,ws,ns',ms',hz,hvi,hwi,hlen,hR⟩
   cases hvi with
   | nil=>rw[List.zip_nil_left] at hz;cases hz
   | cons a t hvi' =>
    cases hwi with
    | nil=>rw[List.zip_nil_right] at hz;cases hz
    | cons c u hwi' =>
     rw[List.zip_cons_cons] at hz
     injection hz with hyx hrest
     injection hyx with hy hx
     subst hy hx
     rw[aQ] at hR
     simp only[zL] at hlen
     obtain⟨e,he,hiff⟩:=qH A.in1 ⟨hp,g,d,tk,os⟩ a t c u
     refine zW (he prog w _ _ ?_)
     cases e with
     | true =>
      rw[if_pos (hiff.mp rfl).symm] at hR
      wp_walk
      exact⟨rfl,rfl,_,_,_,_,hrest,hvi',hwi',by omega,hR⟩
     | false =>
      rw[if_neg (fun q=>absurd (hiff.mpr q.symm) Bool.false_ne_true)] at hR
      have hri:=EK A.in1 ⟨hp,g,d,tk,os⟩ a t c u prog w
      wp_walk using hri
      exact⟨_,rfl,hR⟩
  case fin =>
   rintro⟨b1,b2⟩ s' ⟨hb',rfl,vs,ws,ns',ms',hz,hvi,hwi,hlen,hR⟩
   simp only at hb'
   subst hb'
   have hv2:lexLt ms' ns'=decide (items.size > items2.size):=by
    cases hvi with
    | nil =>
     cases hwi with
     | nil =>
      simp only[List.length_nil] at hlen
      rw[dB]
      exact (yA (by omega)).symm
     | cons c u hw =>
      simp only[List.length_nil,zL] at hlen
      rw[gX]
      exact (yA (by omega)).symm
    | cons a t hv =>
     cases hwi with
     | nil =>
      simp only[List.length_nil,zL] at hlen
      rw[gU]
      exact (yB (by omega)).symm
     | cons c u hw =>
      rw[List.zip_cons_cons] at hz
      cases hz
   rw[hv2] at hR
   wp_walk
   exact⟨_,rfl,hR⟩
  case h =>
   exact⟨rfl,rfl,items.toList,items2.toList,ns,ms,rfl,hi,hj,by omega,h⟩
end
end HT
namespace Dl
open PySem L2 PySem.Spec PyProof.Rows
def dC(nss:List (List Int))(i j:Nat):Bool:=lexLt (nss.getD j []) (nss.getD i [])
def dD(nss:List (List Int))(i j:Nat):Bool:=lexLt (nss.getD i []) (nss.getD j [])
theorem jb{h h':Heap}{I S:Addr}{oI oS:Obj}{vs:List Value}{nss:List (List Int)}(hI:h.get? I=some oI)(cI:oI.cls≠.type "tuple")(hS:h.get? S=some oS)(cS:oS.cls≠.type "tuple")(k:∀b o,b≠I->b≠S->h.get? b=some o->h'.get? b=some o)(p:Paired (dA h) vs nss):Paired (dA h') vs nss :=
 Paired.mapP p fun _ _ r=>by
  obtain⟨a,o,its,n,e,e1,e2,e3,e4⟩:=r.ex
  refine⟨a,o,its,n,e,k a o (fun z=>?_) (fun z=>?_) e1,e2,e3,e4⟩
  ·subst z;rw[hI] at e1;cases e1;exact cI e2
  ·subst z;rw[hS] at e1;cases e1;exact cS e2
theorem nr{h:Heap}{vs:List Value}{nss:List (List Int)}{i:Nat}{v:Value}(p:Paired (dA h) vs nss)(e:vs[i]?=some v):dA h v (nss.getD i []):=by
 have hi:i < vs.length:=(zU.mp e).1
 have:=cX (d:=Value.none) (d':=[]) p hi
 rw[zG,e] at this
 exact this
section
variable {prog:Program}{w:World}{A:Around}{E:Value->Shared->Prop}{s:Shared}
theorem Ny{p q:Value}{ns ms:List Int}{Q:Value->Shared->Prop}(hp:dA s.heap p ns)(hq:dA s.heap q ms)(hu:A.units < cLine)(h:Q (.bool (lexLt ns ms)) s):wpAny (model prog w) A (richCompare .Lt p q) Q E s:=by
 obtain⟨a,o,its,n,rfl,e1,e2,e3,e4⟩:=hp.ex
 obtain⟨b,o',its',n',rfl,f1,f2,f3,f4⟩:=hq.ex
 exact HT.qX ⟨o,e1,e2,n,e3⟩ ⟨o',f1,f2,n',f3⟩ e4 f4 hu h
theorem NO{p q:Value}{ns ms:List Int}{Q:Value->Shared->Prop}(hp:dA s.heap p ns)(hq:dA s.heap q ms)(hu:A.units < cLine)(h:Q (.bool (lexLt ms ns)) s):wpAny (model prog w) A (richCompare .Gt p q) Q E s:=by
 obtain⟨a,⟨cls,dd,data,sl⟩,its,n,rfl,e1,e2,e3,e4⟩:=hp.ex
 obtain⟨b,⟨cls2,dd2,data2,sl2⟩,its',n',rfl,f1,f2,f3,f4⟩:=hq.ex
 simp only at e2 e3 f2 f3
 subst e2 e3 f2 f3
 exact richCompare_meets_room (op:=.Gt) ⟨_,e1,rfl⟩ ⟨_,f1,rfl⟩ PySem.F.slot_tuple_gt PySem.F.entry_tuple_gt (PySem.F.args_tuple_gt_2 _ _) (HT.tw a b its its' n n' dd dd2 sl sl2 ns ms e4 f4)
  ⟨e1,f1,show Value.bool (lexLt ms ns)≠Value.notImplemented/\Q (.bool (lexLt ms ns)) s from ⟨(fun x=>nomatch x),h⟩⟩ hu
theorem tG(hu:A.in1.units < cLine){I l S:Addr}{vs:List Value}{nss:List (List Int)}(hh:A.in1.handled=none)(hlI:l≠I)(hSI:S≠I)(hSl:S≠l){R:Result->Shared->Prop} :
  ∀ (k j:Nat) (s:Shared) (vb:Value) (c:Nat),vs.length - (j+1)=k->j+1<=vs.length->(s.heap.IsListIter I l (j+1)/\s.heap.IsList l vs.toArray)->Paired (dA s.heap) vs nss->vs[PySem.argBest (dC nss) j]?=some vb ->
  s.heap.get? S=some { cls:=.type "list",dict:=none,data:=.seq #[vb,vb] c,slots:=#[] } ->
  (∀v h' tk,vs[PySem.argBest (dC nss) (vs.length - 1)]?=some v->(∀b o,b≠I->b≠S->s.heap.get? b=some o->h'.get? b=some o)->R (.ok (.ret v)) { s with heap:=h',toks:=tk }) ->
  codeAny (model prog w) A (.builtin "max.loop" ⟨[.ref I,.none,.ref S],[]⟩) R s:=by
 have W:=Walks.list (prog:=prog) (w:=w) (A:=A.in1) hh I l hlI vs.toArray
 have hSw:S∉[I]:=by simp[hSI]
 have hSf:S∉[I,l]:=by simp[hSI,hSl]
 have hname:(toString "max"++toString ".loop":String)="max.loop":=by decide
 have vsz:vs.toArray.size=vs.length:=by simp
 intro k
 induction k with
 | zero =>
  intro j s vb c hk hj hst hr hb hS hR
  have hin:j+1=vs.length:=by omega
  refine codeAny_builtin F.entry_max_loop ?_
  rw[Around.under_plainId F.plain_max_loop _]
  show wpAny _ A.in1 (seqItems? (.ref S) >>= _) _ _ s
  refine zW (wpAny_seqItems hS rfl ?_)
  show wpAny _ A.in1 (tryCatch (pyNext (.ref I)) _ >>= _) _ _ s
  refine zW (wpAny_tryCatch (W.done s _ _ (by rw[vsz,<- hin];exact hst) fun h' tk hk'=>?_))
  have hS':=hk' S _ hSw hS
  show wpAny _ A.in1 (updateSeq S (fun _=>#[]) >>= _) _ _ _
  refine zW ?_
  refine wpAny_updateSeq hS' rfl (zW (wpAny_letGo (zX ?_)))
  exact hR vb _ tk (by rw[<- hin];exact hb) fun b o hbw hbS e=>(Heap.get?_update_other _ _ (Ne.symm hbS)).trans (hk' b o (by simpa using hbw) e)
 | succ k ih =>
  intro j s vb c hk hj hst hr hb hS hR
  have hlt:j+1 < vs.length:=by omega
  refine codeAny_builtin F.entry_max_loop ?_
  rw[Around.under_plainId F.plain_max_loop _]
  show wpAny _ A.in1 (seqItems? (.ref S) >>= _) _ _ s
  refine zW (wpAny_seqItems hS rfl ?_)
  show wpAny _ A.in1 (tryCatch (pyNext (.ref I)) _ >>= _) _ _ s
  refine zW (wpAny_tryCatch (W.item (j+1) s _ _ (by rw[vsz];exact hlt) hst fun v h' tk hP hst' hk'=>?_))
  have hS':=hk' S _ hSw hS
  obtain⟨oI,hoI,cI,_⟩:=hst.1
  have hr':Paired (dA h') vs nss:=jb hoI (by rw[cI];decide) hS (by show Value.type "list"≠Value.type "tuple";decide) (fun b o n1 _ e=>hk' b o (by simpa using n1) e) hr
  have hv:vs[j+1]?=some v:=by simpa using hP
  have r1:dA h' v (nss.getD (j+1) []):=nr hr' hv
  have r2:dA h' vb (nss.getD (PySem.argBest (dC nss) j) []):=nr hr' hb
  show wpAny _ A.in1 (tryCatch (holding [v,v] (richCompare .Gt v vb >>= _)) _ >>= _) _ _ _
  refine zW (wpAny_tryCatch (wpAny_holding (zW (NO (s:={ s with heap:=h',toks:=tk }) r1 r2 hu ?_))))
  refine zW (wpAny_holding (wpAny_truthy_bool ?_))
  refine zW (wpAny_letGo (zX ?_))
  have ebt:lexLt (nss.getD (PySem.argBest (dC nss) j) []) (nss.getD (j+1) [])=dC nss (j+1) (PySem.argBest (dC nss) j):=rfl
  rw[ebt]
  cases hbt:dC nss (j+1) (PySem.argBest (dC nss) j) with
  | true =>
   simp only[if_true]
   refine zW ?_
   refine wpAny_updateSeq hS' rfl (zW (wpAny_letGo ?_))
   rw[hname]
   have kp:∀b o,b≠S->h'.get? b=some o->(h'.update S (Obj.mapSeq fun _=>#[v,v])).get? b=some o:=fun b o n e=>(Heap.get?_update_other _ _ (Ne.symm n)).trans e
   refine zX ⟨plainId_quiet F.plain_max_loop _,ih (j+1) _ v _ (by omega) (by omega) (W.frame _ _ _ hst' fun b hbf o e=>?_) ?_ (by simp only[PySem.argBest,hbt,if_true];exact hv) (Heap.get?_update_self _ hS' rfl) fun v' h'' tk'' hP' hk''=>?_⟩
   ·exact kp b o (fun z=>hSf (z ▸ hbf)) e
   ·exact jb hoI (by rw[cI];decide) hS (by show Value.type "list"≠Value.type "tuple";decide) (fun b o n1 n2 e=>kp b o n2 (hk' b o (by simpa using n1) e)) hr
   ·exact hR v' h'' tk'' hP' fun b o hbw hbS e=>hk'' b o hbw hbS (kp b o hbS (hk' b o (by simpa using hbw) e))
  | false =>
   simp only[Bool.false_eq_true,if_false]
   refine zW (wpAny_letGo ?_)
   rw[hname]
   refine zX ⟨plainId_quiet F.plain_max_loop _,ih (j+1) _ vb c (by omega) (by omega) hst' hr' (by simp only[PySem.argBest,hbt,Bool.false_eq_true,if_false];exact hb) hS' fun v' h'' tk'' hP' hk''=>?_⟩
   exact hR v' h'' tk'' hP' fun b o hbw hbS e=>hk'' b o hbw hbS (hk' b o (by simpa using hbw) e)
theorem Fj(hu:A.in1.units < cLine){l:Addr}{vs:List Value}{nss:List (List Int)}{Q:Value->Shared->Prop}(hh:A.handled=none)(hl:s.heap.IsList l vs.toArray)(hr:Paired (dA s.heap) vs nss)(hne:0 < vs.length)
  (h:∀v h' tk,vs[PySem.argBest (dC nss) (vs.length - 1)]?=some v->(∀b o,s.heap.get? b=some o->h'.get? b=some o)->Q v { s with heap:=h',toks:=tk }) :
  wpAny (model prog w) A (call (.builtin "max") [.ref l]) Q E s:=by
 have hname:(toString "max"++toString ".loop":String)="max.loop":=by decide
 have hlt:l < s.heap.objs.size:=by obtain⟨_,e,_⟩:=hl;exact zZ e
 refine call_function_tree F.kind_max F.plain_max F.entry_max (F.args_max1 _) ?_
 show wpAny _ A.in1 (Builtin.Builtins.bindParams "max" ["key","default"] 0 ⟨[],[]⟩ >>= _) _ _ s
 refine zW (wpAny_of_eq (show Builtin.Builtins.bindParams "max" ["key","default"] 0 ⟨[],[]⟩=pure [none,none] from rfl) ?_)
 refine zW (zX ?_)
 refine zW (wpAny_pyIter_list hl ?_)
 refine zW (wpAny_newObj_type ?_)
 rw[hname]
 refine zX ⟨plainId_quiet F.plain_max_loop _,codeAny_builtin F.entry_max_loop ?_⟩
 have hz1:(s.heap.push { cls:=.type "list_iterator",data:=.fields #[.ref l,.int 0 0] }).objs.size=s.heap.objs.size+1:=Heap.size_push ..
 generalize hh1:s.heap.push { cls:=.type "list_iterator",data:=.fields #[.ref l,.int 0 0] }=h1 at hz1
 have k1:∀b o,s.heap.get? b=some o->h1.get? b=some o:=fun b o e=>by rw[<- hh1];exact zV _ e
 have it1:h1.IsListIter s.heap.objs.size l 0:=by rw[<- hh1];exact⟨_,zY _ rfl,rfl,rfl⟩
 have k2:∀b o,h1.get? b=some o->(h1.push { cls:=.type "list",data:=.seq ([]:List Value).toArray }).get? b=some o:=fun b o e=>zV _ e
 have hS:(h1.push { cls:=.type "list",data:=.seq ([]:List Value).toArray }).get? h1.objs.size=some { cls:=.type "list",dict:=none,data:=.seq #[] 0,slots:=#[] }:=zY _ rfl
 have hSI:h1.objs.size≠s.heap.objs.size:=by rw[hz1];exact Nat.succ_ne_self _
 have hSl:h1.objs.size≠l:=by rw[hz1];exact Nat.ne_of_gt (Nat.lt_succ_of_lt hlt)
 have hlI:l≠s.heap.objs.size:=zzB hlt
 generalize h1.push { cls:=.type "list",data:=.seq ([]:List Value).toArray }=h2 at k2 hS
 have W:=Walks.list (prog:=prog) (w:=w) (A:=A.in1) hh s.heap.objs.size l hlI vs.toArray
 have nh:h2.IsListIter s.heap.objs.size l 0/\h2.IsList l vs.toArray:=⟨it1.at fun o e=>k2 _ _ e,hl.at fun o e=>k2 _ _ (k1 _ _ e)⟩
 rw[Around.under_plainId F.plain_max_loop _]
 show wpAny _ A.in1 (seqItems? (.ref h1.objs.size) >>= _) _ _ { s with heap:=h2 }
 refine zW (wpAny_seqItems hS rfl ?_)
 show wpAny _ A.in1 (tryCatch (pyNext (.ref s.heap.objs.size)) _ >>= _) _ _ { s with heap:=h2 }
 refine zW (wpAny_tryCatch (W.item 0 { s with heap:=h2 } _ _ (by simpa using hne) nh fun v h' tk hP hst' hk'=>?_))
 have hS':=hk' h1.objs.size _ (by simp[hSI]) hS
 show wpAny _ A.in1 (updateSeq h1.objs.size (fun _=>#[v,v]) >>= _) _ _ _
 refine zW ?_
 refine wpAny_updateSeq hS' rfl ?_
 rw[hname]
 have kp:∀b o,b≠h1.objs.size->h'.get? b=some o->(h'.update h1.objs.size (Obj.mapSeq fun _=>#[v,v])).get? b=some o:=fun b o n e=>(Heap.get?_update_other _ _ (Ne.symm n)).trans e
 have hr2:Paired (dA h2) vs nss:=Paired.mapP hr fun _ _ r=>r.keep fun b o e=>k2 b o (k1 b o e)
 obtain⟨oI,hoI,cI,_⟩:=nh.1
 refine zX ⟨plainId_quiet F.plain_max_loop _,tG (A:=A) hu (l:=l) (nss:=nss) hh hlI hSI hSl _ 0 _ v _ rfl hne (W.frame _ _ _ hst' fun b hbf o e=>?_) ?_ (show vs[0]?=some v by simpa using hP) (Heap.get?_update_self _ hS' rfl) fun v' h'' tk'' hP' hk''=>?_⟩
 ·refine kp b o (fun z=>?_) e
  subst z
  simp at hbf
  rcases hbf with z|z
  ·exact hSI z
  ·exact hSl z
 ·exact jb hoI (by rw[cI];decide) hS (by show Value.type "list"≠Value.type "tuple";decide) (fun b o n1 n2 e=>kp b o n2 (hk' b o (by simpa using n1) e)) hr2
 ·refine h v' h'' tk'' hP' fun b o e=>?_
  have hb1:b < s.heap.objs.size:=zZ e
  have n1:b≠s.heap.objs.size:=zzB hb1
  have n2:b≠h1.objs.size:=by rw[hz1];exact zzB (Nat.lt_succ_of_lt hb1)
  exact hk'' b o n1 n2 (kp b o n2 (hk' b o (by simpa using n1) (k2 b o (k1 b o e))))
theorem sX(hu:A.in1.units < cLine){I l S:Addr}{vs:List Value}{nss:List (List Int)}(hh:A.in1.handled=none)(hlI:l≠I)(hSI:S≠I)(hSl:S≠l){R:Result->Shared->Prop} :
  ∀ (k j:Nat) (s:Shared) (vb:Value) (c:Nat),vs.length - (j+1)=k->j+1<=vs.length->(s.heap.IsListIter I l (j+1)/\s.heap.IsList l vs.toArray)->Paired (dA s.heap) vs nss->vs[PySem.argBest (dD nss) j]?=some vb ->
  s.heap.get? S=some { cls:=.type "list",dict:=none,data:=.seq #[vb,vb] c,slots:=#[] } ->
  (∀v h' tk,vs[PySem.argBest (dD nss) (vs.length - 1)]?=some v->(∀b o,b≠I->b≠S->s.heap.get? b=some o->h'.get? b=some o)->R (.ok (.ret v)) { s with heap:=h',toks:=tk }) ->
  codeAny (model prog w) A (.builtin "min.loop" ⟨[.ref I,.none,.ref S],[]⟩) R s:=by
 have W:=Walks.list (prog:=prog) (w:=w) (A:=A.in1) hh I l hlI vs.toArray
 have hSw:S∉[I]:=by simp[hSI]
 have hSf:S∉[I,l]:=by simp[hSI,hSl]
 have hname:(toString "min"++toString ".loop":String)="min.loop":=by decide
 have vsz:vs.toArray.size=vs.length:=by simp
 intro k
 induction k with
 | zero =>
  intro j s vb c hk hj hst hr hb hS hR
  have hin:j+1=vs.length:=by omega
  refine codeAny_builtin F.entry_min_loop ?_
  rw[Around.under_plainId F.plain_min_loop _]
  show wpAny _ A.in1 (seqItems? (.ref S) >>= _) _ _ s
  refine zW (wpAny_seqItems hS rfl ?_)
  show wpAny _ A.in1 (tryCatch (pyNext (.ref I)) _ >>= _) _ _ s
  refine zW (wpAny_tryCatch (W.done s _ _ (by rw[vsz,<- hin];exact hst) fun h' tk hk'=>?_))
  have hS':=hk' S _ hSw hS
  show wpAny _ A.in1 (updateSeq S (fun _=>#[]) >>= _) _ _ _
  refine zW ?_
  refine wpAny_updateSeq hS' rfl (zW (wpAny_letGo (zX ?_)))
  exact hR vb _ tk (by rw[<- hin];exact hb) fun b o hbw hbS e=>(Heap.get?_update_other _ _ (Ne.symm hbS)).trans (hk' b o (by simpa using hbw) e)
 | succ k ih =>
  intro j s vb c hk hj hst hr hb hS hR
  have hlt:j+1 < vs.length:=by omega
  refine codeAny_builtin F.entry_min_loop ?_
  rw[Around.under_plainId F.plain_min_loop _]
  show wpAny _ A.in1 (seqItems? (.ref S) >>= _) _ _ s
  refine zW (wpAny_seqItems hS rfl ?_)
  show wpAny _ A.in1 (tryCatch (pyNext (.ref I)) _ >>= _) _ _ s
  refine zW (wpAny_tryCatch (W.item (j+1) s _ _ (by rw[vsz];exact hlt) hst fun v h' tk hP hst' hk'=>?_))
  have hS':=hk' S _ hSw hS
  obtain⟨oI,hoI,cI,_⟩:=hst.1
  have hr':Paired (dA h') vs nss:=jb hoI (by rw[cI];decide) hS (by show Value.type "list"≠Value.type "tuple";decide) (fun b o n1 _ e=>hk' b o (by simpa using n1) e) hr
  have hv:vs[j+1]?=some v:=by simpa using hP
  have r1:dA h' v (nss.getD (j+1) []):=nr hr' hv
  have r2:dA h' vb (nss.getD (PySem.argBest (dD nss) j) []):=nr hr' hb
  show wpAny _ A.in1 (tryCatch (holding [v,v] (richCompare .Lt v vb >>= _)) _ >>= _) _ _ _
  refine zW (wpAny_tryCatch (wpAny_holding (zW (Ny (s:={ s with heap:=h',toks:=tk }) r1 r2 hu ?_))))
  refine zW (wpAny_holding (wpAny_truthy_bool ?_))
  refine zW (wpAny_letGo (zX ?_))
  have ebt:lexLt (nss.getD (j+1) []) (nss.getD (PySem.argBest (dD nss) j) [])=dD nss (j+1) (PySem.argBest (dD nss) j):=rfl
  rw[ebt]
  cases hbt:dD nss (j+1) (PySem.argBest (dD nss) j) with
  | true =>
   simp only[if_true]
   refine zW ?_
   refine wpAny_updateSeq hS' rfl (zW (wpAny_letGo ?_))
   rw[hname]
   have kp:∀b o,b≠S->h'.get? b=some o->(h'.update S (Obj.mapSeq fun _=>#[v,v])).get? b=some o:=fun b o n e=>(Heap.get?_update_other _ _ (Ne.symm n)).trans e
   refine zX ⟨plainId_quiet F.plain_min_loop _,ih (j+1) _ v _ (by omega) (by omega) (W.frame _ _ _ hst' fun b hbf o e=>?_) ?_ (by simp only[PySem.argBest,hbt,if_true];exact hv) (Heap.get?_update_self _ hS' rfl) fun v' h'' tk'' hP' hk''=>?_⟩
   ·exact kp b o (fun z=>hSf (z ▸ hbf)) e
   ·exact jb hoI (by rw[cI];decide) hS (by show Value.type "list"≠Value.type "tuple";decide) (fun b o n1 n2 e=>kp b o n2 (hk' b o (by simpa using n1) e)) hr
   ·exact hR v' h'' tk'' hP' fun b o hbw hbS e=>hk'' b o hbw hbS (kp b o hbS (hk' b o (by simpa using hbw) e))
  | false =>
   simp only[Bool.false_eq_true,if_false]
   refine zW (wpAny_letGo ?_)
   rw[hname]
   refine zX ⟨plainId_quiet F.plain_min_loop _,ih (j+1) _ vb c (by omega) (by omega) hst' hr' (by simp only[PySem.argBest,hbt,Bool.false_eq_true,if_false];exact hb) hS' fun v' h'' tk'' hP' hk''=>?_⟩
   exact hR v' h'' tk'' hP' fun b o hbw hbS e=>hk'' b o hbw hbS (hk' b o (by simpa using hbw) e)
theorem Hj(hu:A.in1.units < cLine){l:Addr}{vs:List Value}{nss:List (List Int)}{Q:Value->Shared->Prop}(hh:A.handled=none)(hl:s.heap.IsList l vs.toArray)(hr:Paired (dA s.heap) vs nss)(hne:0 < vs.length)
  (h:∀v h' tk,vs[PySem.argBest (dD nss) (vs.length - 1)]?=some v->(∀b o,s.heap.get? b=some o->h'.get? b=some o)->Q v { s with heap:=h',toks:=tk }) :
  wpAny (model prog w) A (call (.builtin "min") [.ref l]) Q E s:=by
 have hname:(toString "min"++toString ".loop":String)="min.loop":=by decide
 have hlt:l < s.heap.objs.size:=by obtain⟨_,e,_⟩:=hl;exact zZ e
 refine call_function_tree F.kind_min F.plain_min F.entry_min (F.args_min1 _) ?_
 show wpAny _ A.in1 (Builtin.Builtins.bindParams "min" ["key","default"] 0 ⟨[],[]⟩ >>= _) _ _ s
 refine zW (wpAny_of_eq (show Builtin.Builtins.bindParams "min" ["key","default"] 0 ⟨[],[]⟩=pure [none,none] from rfl) ?_)
 refine zW (zX ?_)
 refine zW (wpAny_pyIter_list hl ?_)
 refine zW (wpAny_newObj_type ?_)
 rw[hname]
 refine zX ⟨plainId_quiet F.plain_min_loop _,codeAny_builtin F.entry_min_loop ?_⟩
 have hz1:(s.heap.push { cls:=.type "list_iterator",data:=.fields #[.ref l,.int 0 0] }).objs.size=s.heap.objs.size+1:=Heap.size_push ..
 generalize hh1:s.heap.push { cls:=.type "list_iterator",data:=.fields #[.ref l,.int 0 0] }=h1 at hz1
 have k1:∀b o,s.heap.get? b=some o->h1.get? b=some o:=fun b o e=>by rw[<- hh1];exact zV _ e
 have it1:h1.IsListIter s.heap.objs.size l 0:=by rw[<- hh1];exact⟨_,zY _ rfl,rfl,rfl⟩
 have k2:∀b o,h1.get? b=some o->(h1.push { cls:=.type "list",data:=.seq ([]:List Value).toArray }).get? b=some o:=fun b o e=>zV _ e
 have hS:(h1.push { cls:=.type "list",data:=.seq ([]:List Value).toArray }).get? h1.objs.size=some { cls:=.type "list",dict:=none,data:=.seq #[] 0,slots:=#[] }:=zY _ rfl
 have hSI:h1.objs.size≠s.heap.objs.size:=by rw[hz1];exact Nat.succ_ne_self _
 have hSl:h1.objs.size≠l:=by rw[hz1];exact Nat.ne_of_gt (Nat.lt_succ_of_lt hlt)
 have hlI:l≠s.heap.objs.size:=zzB hlt
 generalize h1.push { cls:=.type "list",data:=.seq ([]:List Value).toArray }=h2 at k2 hS
 have W:=Walks.list (prog:=prog) (w:=w) (A:=A.in1) hh s.heap.objs.size l hlI vs.toArray
 have nh:h2.IsListIter s.heap.objs.size l 0/\h2.IsList l vs.toArray:=⟨it1.at fun o e=>k2 _ _ e,hl.at fun o e=>k2 _ _ (k1 _ _ e)⟩
 rw[Around.under_plainId F.plain_min_loop _]
 show wpAny _ A.in1 (seqItems? (.ref h1.objs.size) >>= _) _ _ { s with heap:=h2 }
 refine zW (wpAny_seqItems hS rfl ?_)
 show wpAny _ A.in1 (tryCatch (pyNext (.ref s.heap.objs.size)) _ >>= _) _ _ { s with heap:=h2 }
 refine zW (wpAny_tryCatch (W.item 0 { s with heap:=h2 } _ _ (by simpa using hne) nh fun v h' tk hP hst' hk'=>?_))
 have hS':=hk' h1.objs.size _ (by simp[hSI]) hS
 show wpAny _ A.in1 (updateSeq h1.objs.size (fun _=>#[v,v]) >>= _) _ _ _
 refine zW ?_
 refine wpAny_updateSeq hS' rfl ?_
 rw[hname]
 have kp:∀b o,b≠h1.objs.size->h'.get? b=some o->(h'.update h1.objs.size (Obj.mapSeq fun _=>#[v,v])).get? b=some o:=fun b o n e=>(Heap.get?_update_other _ _ (Ne.symm n)).trans e
 have hr2:Paired (dA h2) vs nss:=Paired.mapP hr fun _ _ r=>r.keep fun b o e=>k2 b o (k1 b o e)
 obtain⟨oI,hoI,cI,_⟩:=nh.1
 refine zX ⟨plainId_quiet F.plain_min_loop _,sX (A:=A) hu (l:=l) (nss:=nss) hh hlI hSI hSl _ 0 _ v _ rfl hne (W.frame _ _ _ hst' fun b hbf o e=>?_) ?_ (show vs[0]?=some v by simpa using hP) (Heap.get?_update_self _ hS' rfl) fun v' h'' tk'' hP' hk''=>?_⟩
 ·refine kp b o (fun z=>?_) e
  subst z
  simp at hbf
  rcases hbf with z|z
  ·exact hSI z
  ·exact hSl z
 ·exact jb hoI (by rw[cI];decide) hS (by show Value.type "list"≠Value.type "tuple";decide) (fun b o n1 n2 e=>kp b o n2 (hk' b o (by simpa using n1) e)) hr2
 ·refine h v' h'' tk'' hP' fun b o e=>?_
  have hb1:b < s.heap.objs.size:=zZ e
  have n1:b≠s.heap.objs.size:=zzB hb1
  have n2:b≠h1.objs.size:=by rw[hz1];exact zzB (Nat.lt_succ_of_lt hb1)
  exact hk'' b o n1 n2 (kp b o n2 (hk' b o (by simpa using n1) (k2 b o (k1 b o e))))
end
section
variable {X:Cx}{e:Expr}{fs:Env->Option (List D)}{p pos:Pos}
theorem Ds(hc:X.calm=true)(hu:X.A.units+66 < cLine):d9 X (.builtin "max") (fun xs H Q=>∃ (HF:Hp) (a:Addr) (vs:List V) (nss:List (List Int)) (v:V),xs=[.ref a]/\aR HF H/\hZ X.K HF a vs/\ar X.K HF (nss.map af) vs/\vs[PySem.argBest (dC nss) (nss.length - 1)]?=some v/\Q v H):=by
 intro pins s σ H xs us Q I r h
 obtain⟨HF,a,vs,nss,v,rfl,sm,hq,rr,hv,q⟩:=h
 obtain⟨u,rfl,rx⟩:=vals1 r
 cases rx
 obtain⟨its,rv,pl,hz⟩:=I.list (sm.seq hq)
 have hl1:=rr.length
 rw[zD] at hl1
 have hl2:=rv.length
 have hpos:0 < its.length:=by have:=(zU.mp hv).1;omega
 refine Fj (by show X.A.units+1 < cLine;omega) (I.ok.hd hc) pl.isList (iz I sm rr rv) hpos fun v' h' tk hP kp=>?_
 obtain⟨u',hu',ru⟩:=rv.get hv
 rw[<- hl2,hl1,hu'] at hP
 cases hP
 exact⟨v,H,I.kept (t':=tk) kp,ru,q⟩
theorem Df(hc:X.calm=true)(hu:X.A.units+66 < cLine):d9 X (.builtin "min") (fun xs H Q=>∃ (HF:Hp) (a:Addr) (vs:List V) (nss:List (List Int)) (v:V),xs=[.ref a]/\aR HF H/\hZ X.K HF a vs/\ar X.K HF (nss.map af) vs/\vs[PySem.argBest (dD nss) (nss.length - 1)]?=some v/\Q v H):=by
 intro pins s σ H xs us Q I r h
 obtain⟨HF,a,vs,nss,v,rfl,sm,hq,rr,hv,q⟩:=h
 obtain⟨u,rfl,rx⟩:=vals1 r
 cases rx
 obtain⟨its,rv,pl,hz⟩:=I.list (sm.seq hq)
 have hl1:=rr.length
 rw[zD] at hl1
 have hl2:=rv.length
 have hpos:0 < its.length:=by have:=(zU.mp hv).1;omega
 refine Hj (by show X.A.units+1 < cLine;omega) (I.ok.hd hc) pl.isList (iz I sm rr rv) hpos fun v' h' tk hP kp=>?_
 obtain⟨u',hu',ru⟩:=rv.get hv
 rw[<- hl2,hl1,hu'] at hP
 cases hP
 exact⟨v,H,I.kept (t':=tk) kp,ru,q⟩
def gc:List D->Option (List (List Int))
 | []=>some []
 | d::r=>(jH d).bind fun ns=>(gc r).map (ns::·)
theorem rm:∀ {ds:List D}{nss:List (List Int)},gc ds=some nss->ds=nss.map af
 | [],nss,h=>by cases h;rfl
 | d::r,nss,h=>by
  obtain⟨ns,h1,h⟩:=bs h
  obtain⟨rest,h2,rfl⟩:=ag h
  rw[gF h1,rm h2]
  rfl
theorem nO:∀ (nss:List (List Int)),gc (nss.map af)=some nss
 | []=>rfl
 | ns::r=>by
  have h:jH (af ns)=some ns:=bZ ns
  simp only[zI,gc,h,zA,nO r,zB]
def eS(bt:List (List Int)->Nat->Nat->Bool):List D->Option D:=fun ds=>(oneOf ds).bind fun d=>match d with
 | .list es=>(gc es).bind fun nss=>(nss[PySem.argBest (bt nss) (nss.length - 1)]?).map af
 | _=>none
theorem xx{K:W.Frag}{bt:List (List Int)->Nat->Nat->Bool}:D9 K (fun xs H Q=>∃ (HF:Hp) (a:Addr) (vs:List V) (nss:List (List Int)) (v:V),xs=[.ref a]/\aR HF H/\hZ K HF a vs/\ar K HF (nss.map af) vs/\vs[PySem.argBest (bt nss) (nss.length - 1)]?=some v/\Q v H) (eS bt):=by
 intro HF H ds vs d Q sm r hg q
 obtain⟨x,hx,hg⟩:=bs hg
 rw[dR hx] at r
 cases x<;>try cases hg
 obtain⟨nss,hb,hg⟩:=bs hg
 obtain⟨ns,hn,rfl⟩:=ag hg
 obtain⟨v,r',rfl,a,b⟩:=r.cons_inv
 rw[b.nil_inv]
 simp only[Rep] at a
 obtain⟨p,us,rfl,h,rr⟩:=a
 have e1:=rm hb
 rw[e1] at rr
 have hd:(nss.map af)[PySem.argBest (bt nss) (nss.length - 1)]?=some (af ns):=by rw[zO,hn];rfl
 obtain⟨w,hw,rw'⟩:=rr.getD hd
 exact⟨HF,p,us,nss,w,rfl,sm,h,rr,hw,q w H HF (.refl sm) rw'⟩
theorem Jg(hc:X.calm=true)(hu:X.A.units+66 < cLine)(B:nU X "max" (.builtin "max"))(ha:DA X [e] fs)(he:starEach [e] X.env=(false,eval e X.env)::starEach [] X.env:=by rfl):DE X (.Call (.Name "max" p) [e] [] pos) (aU (eS dC) fs) :=
 fE (Ds hc hu) xx B ha (by decide) (by decide) he rfl
theorem Iy(hc:X.calm=true)(hu:X.A.units+66 < cLine)(B:nU X "min" (.builtin "min"))(ha:DA X [e] fs)(he:starEach [e] X.env=(false,eval e X.env)::starEach [] X.env:=by rfl):DE X (.Call (.Name "min" p) [e] [] pos) (aU (eS dD) fs) :=
 fE (Df hc hu) xx B ha (by decide) (by decide) he rfl
end
end Dl
namespace Rf
open PySem L2 Dl PySem.Spec PyProof.Rows
structure Tr where
 e:Expr->Option (Dl.Env->Option D)
 f:Expr->Option (Dl.Env->Option (List D))
 t:Expr->Option (Dl.Env->Option Bool)
structure Sg where
 fn:List (Str×Nat×(List D->Option D))
 int:List (Str×Int)
abbrev FE:=Dl.Env->Option D
def By(G:Sg)(sc:Scope)(N:List Str)(x:Str):Option FE:=match N.idxOf? x with
 | some i=>if DL N sc i x=true then some (ab i) else none
 | none=>if (zw sc x&&!(x == ("__debug__":Str)))=true then (G.int.lookup x).map fun n=>fC (.int n) else none
def Ci:Const->Option FE
 | .int i=>some (fC (.int i))
 | .bool b=>some (fC (.bool b))
 | .none=>some (fC .none)
 | .str x=>some (fC (.str x))
 | _=>none
def ND(T:Tr)(op:UnaryOp)(a:Expr):Option FE:=match op with
 | .Not=>(T.e a).map K4
 | _=>none
def Pi:Operator->Option (D->D->Option D)
 | .Add=>some aA
 | .Sub=>some Dl.gP
 | .Mult=>some ej
 | .FloorDiv=>some nE
 | .Mod=>some lL
 | _=>none
def Oy:Expr->Bool
 | .List ..=>true
 | .ListComp ..=>true
 | _=>false
def CV:Expr->Bool
 | .List ..=>true
 | .ListComp ..=>true
 | .BinOp a .Mult _ _=>Oy a
 | .BinOp a .Add b _=>CV a||CV b
 | .Call (.Name x _) _ _ _=>x == ("sorted":Str)||x == ("list":Str)
 | _=>false
def G6(T:Tr)(whole a:Expr)(op:Operator)(b:Expr):Option FE :=
 if CV whole=true then (T.f whole).map cx else (Pi op).bind fun g=>(T.e a).bind fun x=>(T.e b).map fun y=>f2 g x y
def vc(T:Tr)(op:BoolOp):List Expr->Option FE
 | []=>none
 | [a]=>T.e a
 | a::b::r=>(T.e a).bind fun x=>(vc T op (b::r)).map fun y=>match op with|.And=>jZ x y|.Or=>Px x y
def NM:CmpOp->Option (D->D->Option D)
 | .Lt=>some Ey
 | .LtE=>some Cw
 | .Gt=>some zz
 | .GtE=>some Py
 | .Eq=>some bQ
 | .NotEq=>some j3
 | .In=>none
 | .NotIn=>none
 | .Is=>some sk
 | .IsNot=>some oW
def Ph:CmpOp->Option (D->D->Option D)
 | .Lt=>some Ey
 | .LtE=>some Cw
 | _=>none
def CF(T:Tr)(a:Expr)(ops:List CmpOp)(cs:List Expr):Option FE:=match ops,cs with
 | [op],[b]=>if behindInMarks op b=false then (NM op).bind fun g=>(T.e a).bind fun x=>(T.e b).map fun y=>f2 g x y else none
 | [op,op'],[b,c]=>if lastMarks [op,op'] [b,c]=false then (Ph op).bind fun g=>(Ph op').bind fun g'=>(T.e a).bind fun x=>(T.e b).bind fun y=>(T.e c).map fun z=>kW g g' x y z else none
 | _,_=>none
def vR(T:Tr):List Expr->Option (Dl.Env->Option (List D))
 | []=>some ae
 | e::es=>if isStar e=false then (T.e e).bind fun x=>(vR T es).map fun r=>aa x r else none
def Pu(T:Tr):Option Expr->Option (Dl.Env->Option (Option Int))
 | none=>some nW
 | some e=>(T.e e).map C7
def Cj:Expr->Bool
 | .Slice ..=>true
 | .Tuple ..=>true
 | .Starred ..=>true
 | _=>false
def FJ(T:Tr)(a b:Expr):Option FE:=match b with
 | .Slice lo hi none _=>(T.e a).bind fun x=>(Pu T lo).bind fun l=>(Pu T hi).map fun h=>oM je x l h
 | _=>if Cj b=false then (T.e a).bind fun x=>(T.e b).map fun y=>f2 au x y else none
def He:List D->Option D:=fun ds=>(oneOf ds).bind fun d=>match d with
 | .list es=>(boolsOf es).map fun bs=>.bool (bs.any id)
 | _=>none
def nR:Expr->Option Expr
 | .Call (.Name x _) [e] [] _=>if x="set" then some e else none
 | _=>none
def Lo(x:Str):Option String:=if x="int" then some "int" else if x="bool" then some "bool" else if x="tuple" then some "tuple" else if x="list" then some "list" else none
def Ak(T:Tr)(x:Str)(args:List Expr):Option FE :=
 if x="max" then (if args.isEmpty=true then none else (vR T args).map fun fs=>if args.length=1 then aU (eS dC) fs else aU DM fs)
 else none
def AZ(G:Sg)(sc:Scope)(T:Tr)(whole:Expr)(x:Str)(args:List Expr):Option FE :=
 if (zw sc x&&args.all fun e=>!isStar e)=true then
  match G.fn.lookup x with
  | some (n,m)=>if (args.isEmpty||x == ("__debug__":Str))=true then none else (vR T args).map fun fs=>ah n m fs
  | none =>
   if x="len" then (match args with
    | [e]=>(match nR e with
     | some e'=>if (zw sc "set"&&!isStar e')=true then (T.e e').map fun y=>f1 lJ y else none
     | none=>(vR T args).map fun fs=>aU bq fs)
    | _=>none)
   else if x="isinstance" then (match args with
    | [e,.Name y _]=>if zw sc y=true then (Lo y).bind fun ty=>(T.e e).map fun z=>KP ty z else none
    | _=>none)
   else if x="tuple" then (if args.length=1 then (vR T args).map fun fs=>aU bo fs else none)
   else if x="all" then (if args.length=1 then (vR T args).map fun fs=>aU mC fs else none)
   else if x="any" then (if args.length=1 then (vR T args).map fun fs=>aU He fs else none)
   else if x="sum" then (if args.length=1 then (vR T args).map fun fs=>aU md fs else none)
   else if x="min" then (if args.isEmpty=true then none else (vR T args).map fun fs=>if args.length=1 then aU (eS dD) fs else aU xZ fs)
   else if (x == ("list":Str)||x == ("sorted":Str))=true then (T.f whole).map cx
   else Ak T x args
 else none
def BP:Expr->Bool
 | .Call ..=>true
 | _=>false
def Br(T:Tr)(o:Expr)(m:Str)(apos:Pos)(args:List Expr)(cpos:Pos):Option FE :=
 if (m == ("index":Str)&&apos.endLine == cpos.line&&!BP o)=true then (match args with
  | [e]=>if isStar e=false then (T.e o).bind fun x=>(T.e e).map fun y=>f2 pd x y else none
  | _=>none)
 else none
def AR(G:Sg)(sc:Scope)(T:Tr)(x y:Str)(b:Expr)(args:List Expr):Option FE :=
 if ((zw sc x&&zw sc y)&&((args.all fun e=>!isStar e)&&(!args.isEmpty&&(!Cj b&&(!(x == ("__debug__":Str))&&!(y == ("__debug__":Str)))))))=true then
  (G.fn.lookup x).bind fun p=>(G.fn.lookup y).bind fun q=>if p.1=q.1 then (T.e b).bind fun fk=>(vR T args).map fun fs=>qf p.1 p.2 q.2 fk fs else none
 else none
def GB(G:Sg)(sc:Scope)(N:List Str)(T:Tr)(whole:Expr):Option FE:=match whole with
 | .Name x _=>By G sc N x
 | .Constant c _ _=>Ci c
 | .UnaryOp op a _=>ND T op a
 | .BinOp a op b _=>G6 T whole a op b
 | .BoolOp op es _=>vc T op es
 | .Compare a ops cs _=>CF T a ops cs
 | .IfExp c a b _=>(T.t c).bind fun z=>(T.e a).bind fun x=>(T.e b).map fun y=>Ft z x y
 | .Tuple es _ _=>(vR T es).map aC
 | .Subscript a b _=>FJ T a b
 | .List ..=>(T.f whole).map cx
 | .ListComp ..=>(T.f whole).map cx
 | .Call (.Name x _) args [] _=>AZ G sc T whole x args
 | .Call (.Name _ _) _ (_::_) _=>(T.f whole).map cx
 | .Call (.Attribute o m apos) args [] cpos=>Br T o m apos args cpos
 | .Call (.Subscript (.List [.Name x _,.Name y _] _) b _) args [] _=>AR G sc T x y b args
 | _=>none
def OS(T:Tr)(op:BoolOp):List Expr->Option (Dl.Env->Option Bool)
 | []=>none
 | [a]=>T.t a
 | a::b::r=>(T.t a).bind fun x=>(OS T op (b::r)).map fun y=>match op with|.And=>oX x y|.Or=>qQ x y
def GQ:Expr->Bool
 | .Name ..=>true
 | .Call ..=>true
 | .Subscript ..=>true
 | _=>false
def stepT(T:Tr)(whole:Expr):Option (Dl.Env->Option Bool):=match whole with
 | .Compare a ops cs _=>(CF T a ops cs).map fB
 | .UnaryOp .Not a _=>(T.t a).map b8
 | .BoolOp op es _=>OS T op es
 | _=>if GQ whole=true then (T.e whole).map fB else none
def uM:Expr->Bool
 | .Tuple ..=>true
 | _=>false
def OO(sc:Scope)(T:Tr)(tg iter:Expr):Option (Dl.Env->Option (List D)):=match iter with
 | .Call (.Name x _) args [] _ =>
  if x="range" then (match args with|[e]=>if (zw sc "range"&&!isStar e)=true then (vR T args).map bj else none|_=>none)
  else if x="enumerate" then (match args with|[e]=>if (zw sc "enumerate"&&!isStar e&&uM tg)=true then (vR T args).map bx else none|_=>none)
  else if x="zip" then (match args with|[e,e']=>if (zw sc "zip"&&!isStar e&&!isStar e'&&uM tg)=true then (vR T args).map dz else none|_=>none)
  else (T.e iter).map aO
 | .Set ..=>none
 | _=>(T.e iter).map aO
def PB:Expr->Option (List Str)
 | .Name x _=>some [x]
 | .Tuple [.Name x _,.Name y _] _ _=>some [x,y]
 | _=>none
def O3:Expr->Option (List Str)
 | .Tuple [.Name x _,.Name y _,.Name z _] _ _=>some [x,y,z]
 | tg=>PB tg
def f9(N:List Str)(scope:Scope):List Nat:=(List.range N.length).filter fun j=>match N[j]? with|some x=>decide (scope.names.lookup x=some .free)|none=>false
def K6:Expr->Bool
 | .Set ..=>false
 | _=>true
def KA(B:Tr)(ifs:List Expr):Option (Dl.Env->Option Bool):=match ifs with
 | []=>some fun _=>some true
 | [c]=>B.t c
 | _=>none
def vF(sc:Scope)(N:List Str)(T:Tr)(blk:Scope->List Str->Tr)(elt:Expr)(gens:List Comprehension)(scope:Scope):Option (Dl.Env->Option (List D)):=match gens with
 | [⟨tg,iter,ifs,as⟩] =>
  if as=0 then (O3 tg).bind fun xs =>
   if (jz sc scope N (xs++(f9 N scope).filterMap fun j=>N[j]?) xs.length (f9 N scope)&&(List.range xs.length).all fun i=>Bi (xs++(f9 N scope).filterMap fun j=>N[j]?) scope i (xs.getD i ""))=true then
    (OO sc T tg iter).bind fun fi=>(KA (blk scope (xs++(f9 N scope).filterMap fun j=>N[j]?)) ifs).bind fun tt =>
     ((blk scope (xs++(f9 N scope).filterMap fun j=>N[j]?)).e elt).map fun te=>aq xs.length (f9 N scope) fi (match xs with|[_]=>fG 0|[_,_]=>gw 0 1|_=>HV 0 1 2) tt te
   else none
  else none
 | _=>none
def BS:Arguments->Option Str
 | ⟨[],[⟨x,none,_⟩],none,[],[],none,[]⟩=>if x="number" then some x else if x="plan" then some x else none
 | _=>none
def wH(lam:Option Str)(sc:Scope)(N:List Str)(T:Tr)(lmb:Scope->List Str->Tr)(l:Expr)(params:Arguments)(body:Expr)(scope:Scope):Option (Dl.Env->Option (List D)) :=
 if (lam.isSome&&zw sc "sorted"&&!isStar l)=true then
  (BS params).bind fun p =>
   if (jz sc scope N (p::(f9 N scope).filterMap fun j=>N[j]?) 1 (f9 N scope)&&o4 scope (p::(f9 N scope).filterMap fun j=>N[j]?) p)=true then
    (T.e l).bind fun fl=>((lmb scope (p::(f9 N scope).filterMap fun j=>N[j]?)).e body).map fun te=>n9 (f9 N scope) fl te
   else none
 else none
def vn(lam:Option Str)(sc:Scope)(N:List Str)(T:Tr)(lmb:Scope->List Str->Tr)(l:Expr)(params:Arguments)(body:Expr)(scope:Scope):Option (Dl.Env->Option (List D)):=match l with
 | .Call (.Name r _) [e] [] _ =>
  if (lam.isSome&&zw sc "sorted"&&r == ("range":Str)&&zw sc "range"&&!isStar e)=true then
   (BS params).bind fun p =>
    if (jz sc scope N (p::(f9 N scope).filterMap fun j=>N[j]?) 1 (f9 N scope)&&o4 scope (p::(f9 N scope).filterMap fun j=>N[j]?) p)=true then
     (vR T [e]).bind fun fs=>((lmb scope (p::(f9 N scope).filterMap fun j=>N[j]?)).e body).map fun te=>qk (f9 N scope) fs te
    else none
  else none
 | _=>none
def K3:Expr->Bool
 | .Name x _=>x == ("_law_told":Str)
 | _=>false
def Cb(lam:Option Str)(sc:Scope)(N:List Str)(T:Tr)(blk lmb:Scope->List Str->Tr)(whole:Expr):Option (Dl.Env->Option (List D)):=match whole with
 | .List es _=>(vR T es).map eV
 | .ListComp elt gens scope _=>vF sc N T blk elt gens scope
 | .BinOp a .Add b _=>(T.e a).bind fun x=>(T.e b).map fun y=>P5 uu x y
 | .Call (.Name x _) [l] [⟨some ky,.Lambda params body scope _,_⟩] _=>if (x == ("sorted":Str)&&ky == ("key":Str))=true then (match wH lam sc N T lmb l params body scope with|some f=>some f|none=>vn lam sc N T lmb l params body scope) else none
 | .Call (.Name x _) [e] [] _ =>
  if (zw sc x&&!isStar e)=true then
   if x="sorted" then (vR T [e]).map fun fs=>if K3 e=true then lX kK fs else lX hU fs
   else none
  else none
 | _=>none
def tr(G:Sg):Nat->Option Str->Scope->List Str->Tr
 | 0,_,_,_=>⟨fun _=>none,fun _=>none,fun _=>none⟩
 | n+1,lam,sc,N=>⟨GB G sc N (tr G n lam sc N),Cb lam sc N (tr G n lam sc N) (tr G n none) (tr G n none),stepT (tr G n lam sc N)⟩
structure Nu(G:Sg)(X:Cx)(j:Nat):Prop where
 fn:∀x n m,G.fn.lookup x=some (n,m)->dk X.prog X.w X.K X.mg X.base j x n m
 int:∀x i,G.int.lookup x=some i->∃t,X.mg x=some (.int i t)
 bn:Bn X
structure qp(X:Cx)(tg iter:Expr)(ifs:List Expr)(elt:Expr)(scope:Scope)(f:Dl.Env->Option (List D)):Prop where
 ex:∃ (N':List Str) (t:Nat) (cs:List Nat) (fi:Dl.Env->Option (List D)) (tgt:Dl.Env->D->Option Dl.Env) (tt:Dl.Env->Option Bool) (te:FE),f=aq t cs fi tgt tt te/\jw X scope N' (k5 t cs)/\DI X tg iter fi/\(∀x,foldedSetIterable iter X.env x=pure x) /\
  ∀fp s H,DG (aV X scope N' fp s H) tg tgt/\N6 (aV X scope N' fp s H) ifs tt/\DE (aV X scope N' fp s H) elt te
structure dQ(X:Cx)(T:Tr):Prop where
 c:∀elt gens scope p f,T.f (.ListComp elt gens scope p)=some f->∃tg iter ifs,gens=[⟨tg,iter,ifs,0⟩]/\qp X tg iter ifs elt scope f
 e:∀e f,T.e e=some f->DE X e f
 f:∀e f,T.f e=some f->DF X e f
 t:∀e f,T.t e=some f->DT X e f
section
variable {G:Sg}{X:Cx}{N:List Str}{sc:Scope}{k j:Nat}{T:Tr}{pos p:Pos}
theorem DV(C:Bk X N sc k)(g:Nu G X j){x:Str}{f:FE}(h:By G sc N x=some f):DE X (.Name x pos) f:=by
 unfold By at h
 split at h
 ·split at h
  ·cases h;exact C.v _ ‹_›
  ·cases h
 ·split at h
  ·rename_i hg
   obtain⟨n,hn,rfl⟩:=ag h
   obtain⟨t,ht⟩:=g.int x n hn
   simp only[zF,Bool.not_eq_true'] at hg
   exact JS (C.gl hg.1) ht hg.2
  ·cases h
theorem A1{c:Const}{i:Nat}{f:FE}(h:Ci c=some f):DE X (.Constant c i pos) f:=by
 cases c<;>cases h<;>first|exact MC|exact N7|exact Le|exact K8
theorem Jr(C:Bk X N sc k)(O:dQ X T){op:UnaryOp}{a:Expr}{f:FE}(h:ND T op a=some f):DE X (.UnaryOp op a pos) f:=by
 cases op<;>try cases h
 ·obtain⟨x,hx,rfl⟩:=ag h;exact LL (O.e _ _ hx)
theorem Ge(C:Bk X N sc k)(O:dQ X T){op:Operator}{a b:Expr}{f:FE}(h:G6 T (.BinOp a op b pos) a op b=some f):DE X (.BinOp a op b pos) f:=by
 unfold G6 at h
 split at h
 ·obtain⟨x,hx,rfl⟩:=ag h;exact DF.de (O.f _ _ hx)
 ·obtain⟨g,hg,h⟩:=bs h
  obtain⟨x,hx,h⟩:=bs h
  obtain⟨y,hy,rfl⟩:=ag h
  cases op<;>cases hg
  ·exact C.add (O.e _ _ hx) (O.e _ _ hy)
  ·exact C.sub (O.e _ _ hx) (O.e _ _ hy)
  ·exact C.mul (O.e _ _ hx) (O.e _ _ hy)
  ·exact C.mod (O.e _ _ hx) (O.e _ _ hy)
  ·exact C.div (O.e _ _ hx) (O.e _ _ hy)
theorem tN(O:dQ X T){op:BoolOp}:∀ {es:List Expr}{f:FE},vc T op es=some f->DE X (.BoolOp op es pos) f
 | [],f,h=>by cases h
 | [a],f,h=>Ls (O.e _ _ h)
 | a::b::r,f,h=>by
  unfold vc at h
  obtain⟨x,hx,h⟩:=bs h
  obtain⟨y,hy,rfl⟩:=ag h
  have ih:=tN O hy
  cases op with
  | And=>exact Nf (O.e _ _ hx) ih
  | Or=>exact NX (O.e _ _ hx) ih
theorem LV(C:Bk X N sc k){op:CmpOp}{a b:Expr}{g:D->D->Option D}{x y:FE}(hg:NM op=some g)(hm:behindInMarks op b=false)(ha:DE X a x)(hb:DE X b y):DE X (.Compare a [op] [b] pos) (f2 g x y)/\DT X (.Compare a [op] [b] pos) (fB (f2 g x y)):=by
 cases op<;>cases hg
 ·exact⟨C.eq ha hb,C.teq ha hb⟩
 ·exact⟨C.ne ha hb,C.tne ha hb⟩
 ·exact⟨C.lt ha hb,C.tlt ha hb⟩
 ·exact⟨C.le ha hb,C.tle ha hb⟩
 ·exact⟨C.gt ha hb,C.tgt ha hb⟩
 ·exact⟨C.ge ha hb,C.tge ha hb⟩
 ·exact⟨C.is0 ha hb,C.tis0 ha hb⟩
 ·exact⟨C.not0 ha hb,C.tnot0 ha hb⟩
theorem Kw{op:CmpOp}{g:D->D->Option D}(h:Ph op=some g):∃r,jm X (compareOp op) r/\gC X.K r g:=by
 cases op<;>cases h
 ·exact⟨_,GO,iG⟩
 ·exact⟨_,Hb,iG⟩
theorem zr(C:Bk X N sc k)(O:dQ X T){a:Expr}{ops:List CmpOp}{cs:List Expr}{f:FE}(h:CF T a ops cs=some f):DE X (.Compare a ops cs pos) f/\DT X (.Compare a ops cs pos) (fB f):=by
 unfold CF at h
 split at h
 ·split at h
  ·rename_i hm
   obtain⟨g,hg,h⟩:=bs h
   obtain⟨x,hx,h⟩:=bs h
   obtain⟨y,hy,rfl⟩:=ag h
   exact LV C hg hm (O.e _ _ hx) (O.e _ _ hy)
  ·cases h
 ·split at h
  ·rename_i hm
   obtain⟨g,hg,h⟩:=bs h
   obtain⟨g',hg',h⟩:=bs h
   obtain⟨x,hx,h⟩:=bs h
   obtain⟨y,hy,h⟩:=bs h
   obtain⟨z,hz,rfl⟩:=ag h
   obtain⟨r,r1,r2⟩:=Kw (X:=X) hg
   obtain⟨r',r1',r2'⟩:=Kw (X:=X) hg'
   exact⟨GU r1 r2 r1' r2' (O.e _ _ hx) (O.e _ _ hy) (O.e _ _ hz) hm,Gn r1 r2 r1' r2' (O.e _ _ hx) (O.e _ _ hy) (O.e _ _ hz) hm⟩
  ·cases h
 ·cases h
theorem cn(O:dQ X T):∀ {es:List Expr}{fs:Dl.Env->Option (List D)},vR T es=some fs->DA X es fs
 | [],fs,h=>by cases h;exact Hu
 | e::es,fs,h=>by
  unfold vR at h
  split at h
  ·rename_i hs
   obtain⟨x,hx,h⟩:=bs h
   obtain⟨r,hr,rfl⟩:=ag h
   exact O5 hs (O.e _ _ hx) (cn O hr)
  ·cases h
theorem Hv(O:dQ X T){o:Option Expr}{f:Dl.Env->Option (Option Int)}(h:Pu T o=some f):DO X o f:=by
 cases o with
 | none=>cases h;exact Iq
 | some e=>obtain⟨x,hx,rfl⟩:=ag h;exact Jd (O.e _ _ hx)
theorem qo{b:Expr}(h:Cj b=false):pR b:=by
 cases b<;>first|(intro _ _;rfl)|cases h
theorem EG(C:Bk X N sc k)(O:dQ X T){a b:Expr}{f:FE}(h:FJ T a b=some f):DE X (.Subscript a b pos) f:=by
 unfold FJ at h
 split at h
 ·obtain⟨x,hx,h⟩:=bs h
  obtain⟨l,hl,h⟩:=bs h
  obtain⟨u,hu,rfl⟩:=ag h
  exact C.cut (O.e _ _ hx) (Hv O hl) (Hv O hu)
 ·split at h
  ·rename_i hc
   obtain⟨x,hx,h⟩:=bs h
   obtain⟨y,hy,rfl⟩:=ag h
   exact OC (O.e _ _ hx) (O.e _ _ hy) (qo hc)
  ·cases h
theorem dc{env:PySem.Env}:∀ {es:List Expr},(es.all fun e=>!isStar e)=true->(backTo pos (starEach es env)).any (·.1)=false
 | [],_=>rfl
 | e::es,h=>by
  rw[List.all_cons,zF,Bool.not_eq_true'] at h
  rw[bw h.1]
  show (false||(backTo pos (starEach es env)).any (·.1))=false
  rw[dc h.2]
  rfl
theorem E7{e e':Expr}(h:nR e=some e'):∃p q,e=.Call (.Name "set" p) [e'] [] q:=by
 unfold nR at h
 split at h
 ·split at h
  ·rename_i hx;cases h;subst hx;exact⟨_,_,rfl⟩
  ·cases h
 ·cases h
theorem JL{y:Str}{ty:String}(h:Lo y=some ty):y∈cU/\bootBuiltins y=some (.type ty)/\y≠"__name__"/\(y == ("__debug__":Str))=false:=by
 unfold Lo at h
 split at h
 ·rename_i e;cases h;subst e;exact⟨by decide +kernel,by decide +kernel,by decide,by decide⟩
 ·split at h
  ·rename_i e;cases h;subst e;exact⟨by decide +kernel,by decide +kernel,by decide,by decide⟩
  ·split at h
   ·rename_i e;cases h;subst e;exact⟨by decide +kernel,by decide +kernel,by decide,by decide⟩
   ·split at h
    ·rename_i e;cases h;subst e;exact⟨by decide +kernel,by decide +kernel,by decide,by decide⟩
    ·cases h
theorem Mt:bootBuiltins "any"=some (.builtin "any"):=by decide +kernel
theorem LP:bootBuiltins "sum"=some (.builtin "sum"):=by decide +kernel
theorem EI:bootBuiltins "max"=some (.builtin "max"):=by decide +kernel
theorem FG:bootBuiltins "min"=some (.builtin "min"):=by decide +kernel
theorem wM{α:Type}{l:List α}(h:l.length=1):∃a,l=[a]:=by
 match l,h with
 | [a],_=>exact⟨a,rfl⟩
theorem Ep(C:Bk X N sc k)(g:Nu G X j)(O:dQ X T){x:Str}{args:List Expr}{f:FE}(hg:zw sc x=true)(hs:args.all (fun e=>!isStar e)=true)(h:Ak T x args=some f):DE X (.Call (.Name x p) args [] pos) f:=by
 have st1:∀ {e:Expr}{es:List Expr},args=e::es->starEach (e::es) X.env=(false,eval e X.env)::starEach es X.env:=fun {e es} q=>by
  subst q
  rw[List.all_cons,zF,Bool.not_eq_true'] at hs
  exact bw hs.1
 have nh:∀ {e:Expr}{es:List Expr},args=e::es->(backTo pos (starEach es X.env)).any (·.1)=false:=fun {e es} q=>by
  subst q
  rw[List.all_cons,zF] at hs
  exact dc hs.2
 unfold Ak at h
 split at h
 ·rename_i hx
  subst hx
  split at h
  ·cases h
  ·rename_i hl
   obtain⟨fs,hfs,rfl⟩:=ag h
   cases args with
   | nil=>exact absurd rfl hl
   | cons e es =>
    split
    ·rename_i h1
     obtain rfl:es=[]:=by cases es with|nil=>rfl|cons _ _=>simp at h1
     exact Jg C.calm C.u66 (C.blt g.bn hg (by decide +kernel) EI) (cn O hfs) (st1 rfl)
    ·exact Lc C.calm (C.blt g.bn hg (by decide +kernel) EI) (st1 rfl) (nh rfl) (cn O hfs)
 ·cases h
theorem DJ(C:Bk X N sc k)(g:Nu G X j)(hjk:j<=k)(O:dQ X T){x:Str}{args:List Expr}{f:FE}(h:AZ G sc T (.Call (.Name x p) args [] pos) x args=some f):DE X (.Call (.Name x p) args [] pos) f:=by
 unfold AZ at h
 split at h
 ·rename_i hg
  rw[zF] at hg
  obtain⟨hg,hs⟩:=hg
  have st1:∀ {e:Expr}{es:List Expr},args=e::es->starEach (e::es) X.env=(false,eval e X.env)::starEach es X.env:=fun {e es} q=>by
   subst q
   rw[List.all_cons,zF,Bool.not_eq_true'] at hs
   exact bw hs.1
  have nh:∀ {e:Expr}{es:List Expr},args=e::es->(backTo pos (starEach es X.env)).any (·.1)=false:=fun {e es} q=>by
   subst q
   rw[List.all_cons,zF] at hs
   exact dc hs.2
  split at h
  ·rename_i n m hfn
   split at h
   ·cases h
   ·rename_i hne
    obtain⟨fs,hfs,rfl⟩:=ag h
    cases args with
    | nil=>exact absurd (by simp) hne
    | cons e es =>
     have hd:(x == ("__debug__":Str))=false:=by simpa using hne
     exact JH (g.fn x n m hfn) (C.room.mono hjk) (C.gl hg) (cn O hfs) hd (st1 rfl) (nh rfl)
  ·split at h
   ·rename_i hx
    subst hx
    split at h
    ·rename_i e
     split at h
     ·rename_i e' he'
      split at h
      ·rename_i hg2
       rw[zF,Bool.not_eq_true'] at hg2
       obtain⟨y,hy,rfl⟩:=ag h
       obtain⟨p1,p2,rfl⟩:=E7 he'
       exact Eo C.calm (C.blt g.bn hg (by decide +kernel) Fm) (C.blt g.bn hg2.1 (by decide +kernel) LN) (O.e _ _ hy) (bw hg2.2)
      ·cases h
     ·obtain⟨fs,hfs,rfl⟩:=ag h
      exact MM (C.blt g.bn hg (by decide +kernel) Fm) (cn O hfs) (st1 rfl)
    ·cases h
   ·split at h
    ·rename_i hx
     subst hx
     split at h
     ·rename_i e y py
      split at h
      ·rename_i hgy
       obtain⟨ty,hty,h⟩:=bs h
       obtain⟨z,hz,rfl⟩:=ag h
       obtain⟨t1,t2,t3,t4⟩:=JL hty
       exact NZ (C.blt g.bn hg (by decide +kernel) sJ) (C.blt g.bn hgy t1 t2) (O.e _ _ hz) t3 t4 (st1 rfl)
      ·cases h
     ·cases h
    ·split at h
     ·rename_i hx
      subst hx
      split at h
      ·rename_i hl
       obtain⟨fs,hfs,rfl⟩:=ag h
       obtain⟨e,rfl⟩:=wM hl
       exact FF (C.blt g.bn hg (by decide +kernel) Hw) (cn O hfs) (st1 rfl)
      ·cases h
     ·split at h
      ·rename_i hx
       subst hx
       split at h
       ·rename_i hl
        obtain⟨fs,hfs,rfl⟩:=ag h
        obtain⟨e,rfl⟩:=wM hl
        exact Lv C.calm (C.blt g.bn hg (by decide +kernel) L4) (cn O hfs) (st1 rfl)
       ·cases h
      ·split at h
       ·rename_i hx
        subst hx
        split at h
        ·rename_i hl
         obtain⟨fs,hfs,rfl⟩:=ag h
         obtain⟨e,rfl⟩:=wM hl
         exact LB C.calm (C.blt g.bn hg (by decide +kernel) Mt) (st1 rfl) (cn O hfs)
        ·cases h
       ·split at h
        ·rename_i hx
         subst hx
         split at h
         ·rename_i hl
          obtain⟨fs,hfs,rfl⟩:=ag h
          obtain⟨e,rfl⟩:=wM hl
          exact LW C.calm (C.blt g.bn hg (by decide +kernel) LP) (st1 rfl) (cn O hfs)
         ·cases h
        ·split at h
         ·rename_i hx
          subst hx
          split at h
          ·cases h
          ·rename_i hl
           obtain⟨fs,hfs,rfl⟩:=ag h
           cases args with
           | nil=>exact absurd rfl hl
           | cons e es =>
            split
            ·rename_i h1
             obtain rfl:es=[]:=by cases es with|nil=>rfl|cons _ _=>simp at h1
             exact Iy C.calm C.u66 (C.blt g.bn hg (by decide +kernel) FG) (cn O hfs) (st1 rfl)
            ·exact ML C.calm (C.blt g.bn hg (by decide +kernel) FG) (st1 rfl) (nh rfl) (cn O hfs)
         ·split at h
          ·obtain⟨y,hy,rfl⟩:=ag h
           exact DF.de (O.f _ _ hy)
          ·exact Ep C g O hg hs h
 ·cases h
end
section
variable {G:Sg}{X:Cx}{N:List Str}{sc:Scope}{k j:Nat}{T:Tr}{pos p:Pos}
theorem Pd{env:PySem.Env}{e:Expr}{cpos:Pos}(h:isStar e=false):((backTo cpos (starEach [e] env)).all (fun x=>!x.1)&&(backToKw cpos (keywordEach [] env)).all (fun x=>x.1.isSome)&&decide ([e].length+([]:List Keyword).length+(if ([]:List Keyword).isEmpty then 0 else 1) < 30))=true:=by
 rw[bw h];rfl
theorem mN{o:Expr}{a:Str}{env:PySem.Env}{w:Sem Value}(h:BP o=false):attributeBase o a env w=w:=by
 cases o<;>first|rfl|cases h
theorem D8(C:Bk X N sc k)(O:dQ X T){o:Expr}{m:Str}{apos cpos:Pos}{args:List Expr}{f:FE}(h:Br T o m apos args cpos=some f):DE X (.Call (.Attribute o m apos) args [] cpos) f:=by
 unfold Br at h
 split at h
 ·rename_i hm
  rw[zF,zF,Bool.not_eq_true'] at hm
  obtain⟨⟨hm1,hm⟩,hcl⟩:=hm
  have e1:m="index":=eq_of_beq hm1
  subst e1
  split at h
  ·rename_i e
   split at h
   ·rename_i hs
    obtain⟨x,hx,h⟩:=bs h
    obtain⟨y,hy,rfl⟩:=ag h
    exact D4 (mN hcl) (Pd hs) hm (bw hs) (O.e _ _ hx) (O.e _ _ hy)
   ·cases h
  ·cases h
 ·cases h
theorem Dq(C:Bk X N sc k)(g:Nu G X j)(hjk:j<=k)(O:dQ X T){x y:Str}{b:Expr}{args:List Expr}{f:FE}{p0 p1 p2 p3:Pos}(h:AR G sc T x y b args=some f):DE X (.Call (.Subscript (.List [.Name x p0,.Name y p1] p2) b p3) args [] pos) f:=by
 unfold AR at h
 split at h
 ·rename_i hg
  simp only[zF,Bool.not_eq_true'] at hg
  obtain⟨⟨hx,hy⟩,hs,he,hb,dx,dy⟩:=hg
  obtain⟨⟨n,m⟩,h1,h⟩:=bs h
  obtain⟨⟨n',m'⟩,h2,h⟩:=bs h
  split at h
  ·rename_i hn
   obtain rfl:n=n':=hn
   obtain⟨fk,h3,h⟩:=bs h
   obtain⟨fs,h4,rfl⟩:=ag h
   cases args with
   | nil=>cases he
   | cons e es =>
    rw[List.all_cons,zF,Bool.not_eq_true'] at hs
    exact JU (g.fn x n m h1) (g.fn y n m' h2) (C.room.mono hjk) (C.gl hx) (C.gl hy) (O.e _ _ h3) (cn O h4) dx dy (qo hb) (bw hs.1) (dc hs.2)
  ·cases h
 ·cases h
theorem HQ(C:Bk X N sc k)(g:Nu G X j)(hjk:j<=k)(O:dQ X T){e:Expr}{f:FE}(h:GB G sc N T e=some f):DE X e f:=by
 unfold GB at h
 split at h
 ·exact DV C g h
 ·exact A1 h
 ·exact Jr C O h
 ·exact Ge C O h
 ·exact tN O h
 ·exact (zr C O h).1
 ·obtain⟨z,hz,h⟩:=bs h
  obtain⟨x,hx,h⟩:=bs h
  obtain⟨y,hy,rfl⟩:=ag h
  exact NV (O.t _ _ hz) (O.e _ _ hx) (O.e _ _ hy)
 ·obtain⟨x,hx,rfl⟩:=ag h;exact MJ (cn O hx)
 ·exact EG C O h
 ·obtain⟨x,hx,rfl⟩:=ag h;exact DF.de (O.f _ _ hx)
 ·obtain⟨x,hx,rfl⟩:=ag h;exact DF.de (O.f _ _ hx)
 ·exact DJ C g hjk O h
 ·obtain⟨x,hx,rfl⟩:=ag h;exact DF.de (O.f _ _ hx)
 ·exact D8 C O h
 ·exact Dq C g hjk O h
 ·cases h
theorem EM(O:dQ X T){op:BoolOp}:∀ {es:List Expr}{f:Dl.Env->Option Bool},OS T op es=some f->DW X (.BoolOp op es pos) f
 | [],f,h=>by cases h
 | [a],f,h=>by
  cases op with
  | And=>exact Jl (O.t _ _ h)
  | Or=>exact M9 (O.t _ _ h)
 | a::b::r,f,h=>by
  unfold OS at h
  obtain⟨x,hx,h⟩:=bs h
  obtain⟨y,hy,rfl⟩:=ag h
  have ih:=EM O hy
  cases op with
  | And=>exact Ng (O.t _ _ hx) ih
  | Or=>exact N5 (O.t _ _ hx) ih
theorem ER(C:Bk X N sc k)(O:dQ X T){e:Expr}{f:Dl.Env->Option Bool}(h:stepT T e=some f):DT X e f:=by
 unfold stepT at h
 split at h
 ·obtain⟨x,hx,rfl⟩:=ag h;exact (zr C O hx).2
 ·obtain⟨x,hx,rfl⟩:=ag h;exact MR (O.t _ _ hx)
 ·exact DW.dt (EM O h)
 ·split at h
  ·rename_i hp
   obtain⟨x,hx,rfl⟩:=ag h
   refine Mm (O.e _ _ hx) ?_
   revert hp
   cases e<;>first|(intro hp;cases hp;done)|(intro hp _;rfl)
  ·cases h
theorem Ni{e:Expr}{env:PySem.Env}(h:K6 e=true):∀x,foldedSetIterable e env x=pure x:=by
 cases e<;>first|(intro _;rfl)|cases h
theorem Ht(C:Bk X N sc k)(B:Bn X)(O:dQ X T){tg iter:Expr}{fi:Dl.Env->Option (List D)}(h:OO sc T tg iter=some fi):DI X tg iter fi/\∀x,foldedSetIterable iter X.env x=pure x:=by
 unfold OO at h
 split at h
 ·refine⟨?_,fun _=>rfl⟩
  split at h
  ·rename_i hx
   subst hx
   split at h
   ·split at h
    ·rename_i hg
     rw[zF,Bool.not_eq_true'] at hg
     obtain⟨x,hx,rfl⟩:=ag h
     exact Fb (C.blt B hg.1 (by decide +kernel) xv) (cn O hx) (bw hg.2)
    ·cases h
   ·cases h
  ·split at h
   ·rename_i hx
    subst hx
    split at h
    ·split at h
     ·rename_i hg
      simp only[zF,Bool.not_eq_true'] at hg
      obtain⟨x,hx,rfl⟩:=ag h
      cases tg<;>first|exact Iv (C.blt B hg.1.1 (by decide +kernel) vg) (cn O hx) (bw hg.1.2)|exact absurd hg.2 (by simp[uM])
     ·cases h
    ·cases h
   ·split at h
    ·rename_i hx
     subst hx
     split at h
     ·split at h
      ·rename_i e e' hg
       simp only[zF,Bool.not_eq_true'] at hg
       obtain⟨x,hx,rfl⟩:=ag h
       cases tg<;>first|exact Ie (C.blt B hg.1.1.1 (by decide +kernel) LY) (bw hg.1.1.2) (dc (by simp[hg.1.2])) (cn O hx)|exact absurd hg.2 (by simp[uM])
      ·cases h
     ·cases h
    ·obtain⟨x,hx,rfl⟩:=ag h
     exact E3 (O.e _ _ hx)
 ·cases h
 ·rename_i h1 h2
  obtain⟨x,hx,rfl⟩:=ag h
  refine⟨E3 (O.e _ _ hx),Ni ?_⟩
  cases iter<;>first|rfl|exact absurd rfl (h2 _ _ _)
theorem LX{tg:Expr}{xs:List Str}(h:PB tg=some xs):(∃x px,tg=.Name x px/\xs=[x])\/∃x px y py m pt,tg=.Tuple [.Name x px,.Name y py] m pt/\xs=[x,y]:=by
 unfold PB at h
 split at h
 ·cases h;exact .inl ⟨_,_,rfl,rfl⟩
 ·cases h;exact .inr ⟨_,_,_,_,_,_,rfl,rfl⟩
 ·cases h
theorem Ln{tg:Expr}{xs:List Str}(h:O3 tg=some xs):((∃x px,tg=.Name x px/\xs=[x])\/∃x px y py m pt,tg=.Tuple [.Name x px,.Name y py] m pt/\xs=[x,y])\/∃x px y py z pz m pt,tg=.Tuple [.Name x px,.Name y py,.Name z pz] m pt/\xs=[x,y,z]:=by
 unfold O3 at h
 split at h
 ·cases h;exact .inr ⟨_,_,_,_,_,_,_,_,rfl,rfl⟩
 ·exact .inl (LX h)
theorem tQ(C:Bk X N sc k)(B:Bn X)(O:dQ X T){blk:Scope->List Str->Tr}(OB:∀scope N' fp s H,Bk (aV X scope N' fp s H) N' scope k->dQ (aV X scope N' fp s H) (blk scope N')){tg iter elt:Expr}{ifs:List Expr}{as:Int}{scope:Scope}{f:Dl.Env->Option (List D)}
  (h:vF sc N T blk elt [⟨tg,iter,ifs,as⟩] scope=some f):as=0/\qp X tg iter ifs elt scope f:=by
 unfold vF at h
 dsimp only at h
 split at h
 ·rename_i has
  refine⟨has,?_⟩
  obtain⟨xs,hxs,h⟩:=bs h
  split at h
  ·rename_i hok
   rw[zF] at hok
   obtain⟨fi,hfi,h⟩:=bs h
   obtain⟨tt,htt,h⟩:=bs h
   obtain⟨te,hte,rfl⟩:=ag h
   obtain⟨S,CB⟩:=C.comp hok.1
   obtain⟨hd,hfold⟩:=Ht C B O hfi
   refine⟨_,_,_,_,_,_,_,rfl,S,hd,hfold,fun fp s H=>?_⟩
   have C1:=CB fp s H
   have O1:=OB scope _ fp s H C1
   refine⟨?_,?_,O1.e _ _ hte⟩
   ·rcases Ln hxs with (⟨x,px,rfl,rfl⟩|⟨x,px,y,py,m,pt,rfl,rfl⟩)|⟨x,px,y,py,z,pz,m,pt,htg,rfl⟩
    ·have z:=C1.loc (i:=0) (x:=x) (List.all_eq_true.mp hok.2 0 (by simp))
     exact Iw 0 z.1 z.2.1 z.2.2.1 z.2.2.2
    ·have z:=C1.loc (i:=0) (x:=x) (List.all_eq_true.mp hok.2 0 (by simp))
     have w:=C1.loc (i:=1) (x:=y) (List.all_eq_true.mp hok.2 1 (by simp))
     exact Lp 0 1 C1.calm z.1 z.2.1 z.2.2.1 w.2.1 w.2.2.1 z.2.2.2 w.2.2.2
    ·have z0:=C1.loc (i:=0) (x:=x) (List.all_eq_true.mp hok.2 0 (by simp))
     have w:=C1.loc (i:=1) (x:=y) (List.all_eq_true.mp hok.2 1 (by simp))
     have u:=C1.loc (i:=2) (x:=z) (List.all_eq_true.mp hok.2 2 (by simp))
     subst htg
     exact Hl 0 1 2 C1.calm z0.1 z0.2.1 z0.2.2.1 w.2.1 w.2.2.1 u.2.1 u.2.2.1 z0.2.2.2 w.2.2.2 u.2.2.2
   ·unfold KA at htt
    split at htt
    ·cases htt;exact Ij
    ·exact J6 (O1.t _ _ htt)
    ·cases htt
  ·cases h
 ·cases h
theorem qp.df{tg iter elt:Expr}{ifs:List Expr}{scope:Scope}{f:Dl.Env->Option (List D)}(hc:X.calm=true)(h:qp X tg iter ifs elt scope f):DF X (.ListComp elt [⟨tg,iter,ifs,0⟩] scope pos) f:=by
 obtain⟨N',t,cs,fi,tgt,tt,te,rfl,S,hd,hfold,hY⟩:=h.ex
 exact Kj hc S hd hY hfold
theorem w8{a:Arguments}{x:Str}(h:BS a=some x):∃px,a=⟨[],[⟨x,none,px⟩],none,[],[],none,[]⟩/\(x="number"\/x="plan"):=by
 unfold BS at h
 split at h
 ·split at h
  ·cases h;exact⟨_,rfl,.inl ‹_›⟩
  ·split at h
   ·cases h;exact⟨_,rfl,.inr ‹_›⟩
   ·cases h
 ·cases h
theorem bind1{x q:Str}{px:Pos}{body:Expr}{scope:Scope}{cl:List (Str×Addr)}{pm ctv u:Value}{c:Addr}(h:x="number"\/x="plan") :
  bindArgs (W.kla_fn "<lambda>" q ⟨[],[⟨x,none,px⟩],none,[],[],none,[]⟩ body scope cl pm (.ref c) ctv) ⟨[u],[]⟩=pure [(x,u)]:=by
 rcases h with rfl|rfl<;>rfl
theorem AV{lam:Option Str}(C:Bk X N sc k)(B:Bn X)(hlam:∀q,lam=some q->qj X q/\j+3<=k)(O:dQ X T){lmb:Scope->List Str->Tr}
  (OL:∀scope N' qual A f c s H,Bk (iq X A qual scope N' f c s H) N' scope (k - 3)->j<=k - 3->dQ (iq X A qual scope N' f c s H) (lmb scope N')) {l body:Expr}{params:Arguments}{scope:Scope}{p0 lpos kpos:Pos}{f:Dl.Env->Option (List D)}
  (h:wH lam sc N T lmb l params body scope=some f):DF X (.Call (.Name "sorted" p0) [l] [⟨some "key",.Lambda params body scope lpos,kpos⟩] pos) f:=by
 unfold wH at h
 split at h
 ·rename_i hg
  simp only[zF,Bool.not_eq_true'] at hg
  obtain⟨⟨hl,hg⟩,hs⟩:=hg
  obtain⟨q,rfl⟩:=Option.isSome_iff_exists.mp hl
  obtain⟨L,hk⟩:=hlam q rfl
  obtain⟨x,hx,h2⟩:=bs h
  clear h
  obtain⟨px,rfl,hpx⟩:=w8 hx
  split at h2
  ·rename_i hok
   rw[zF] at hok
   obtain⟨fl,hfl,h⟩:=bs h2
   obtain⟨te,hte,rfl⟩:=ag h
   obtain⟨k',rfl⟩:∃k',k=k'+3:=⟨k - 3,by omega⟩
   exact Bk.sortK (p:=x) C (C.blt B hg (by decide +kernel) lG) L hok.1 hok.2 (fun _ _ _ _ _=>bind1 hpx) rfl (O.e _ _ hfl) (fun A f c s H C'=>(OL scope _ q A f c s H C' (by omega)).e _ _ hte) (bw hs) (by rw[bw hs];rfl) (dc (by simp[hs]))
  ·cases h2
 ·cases h
theorem BC{lam:Option Str}(C:Bk X N sc k)(B:Bn X)(hlam:∀q,lam=some q->qj X q/\j+3<=k)(O:dQ X T){lmb:Scope->List Str->Tr}
  (OL:∀scope N' qual A f c s H,Bk (iq X A qual scope N' f c s H) N' scope (k - 3)->j<=k - 3->dQ (iq X A qual scope N' f c s H) (lmb scope N')) {l body:Expr}{params:Arguments}{scope:Scope}{p0 lpos kpos:Pos}{f:Dl.Env->Option (List D)}
  (h:vn lam sc N T lmb l params body scope=some f):DF X (.Call (.Name "sorted" p0) [l] [⟨some "key",.Lambda params body scope lpos,kpos⟩] pos) f:=by
 unfold vn at h
 split at h
 ·split at h
  ·rename_i hg
   simp only[zF,Bool.not_eq_true'] at hg
   obtain⟨⟨⟨⟨hl,hg⟩,hr⟩,hgr⟩,hs⟩:=hg
   have er:=eq_of_beq hr
   subst er
   obtain⟨q,rfl⟩:=Option.isSome_iff_exists.mp hl
   obtain⟨L,hk⟩:=hlam q rfl
   obtain⟨x,hx,h2⟩:=bs h
   clear h
   obtain⟨px,rfl,hpx⟩:=w8 hx
   split at h2
   ·rename_i hok
    rw[zF] at hok
    obtain⟨fl,hfl,h⟩:=bs h2
    obtain⟨te,hte,rfl⟩:=ag h
    obtain⟨k',rfl⟩:∃k',k=k'+3:=⟨k - 3,by omega⟩
    exact Bk.sortR (p:=x) C (C.blt B hg (by decide +kernel) lG) (C.blt B hgr (by decide +kernel) xv) L hok.1 hok.2 (fun _ _ _ _ _=>bind1 hpx) rfl (cn O hfl) (fun A f c s H C'=>(OL scope _ q A f c s H C' (by omega)).e _ _ hte) (bw hs) (bw rfl) (by rw[bw rfl];rfl) (dc (by rfl))
   ·cases h2
  ·cases h
 ·cases h
theorem GI{lam:Option Str}(C:Bk X N sc k)(B:Bn X)(hlam:∀q,lam=some q->qj X q/\j+3<=k)(O:dQ X T){blk lmb:Scope->List Str->Tr}
  (OB:∀scope N' fp s H,Bk (aV X scope N' fp s H) N' scope k->dQ (aV X scope N' fp s H) (blk scope N'))
  (OL:∀scope N' qual A f c s H,Bk (iq X A qual scope N' f c s H) N' scope (k - 3)->j<=k - 3->dQ (iq X A qual scope N' f c s H) (lmb scope N')) {e:Expr}{f:Dl.Env->Option (List D)}(h:Cb lam sc N T blk lmb e=some f):DF X e f:=by
 unfold Cb at h
 split at h
 ·obtain⟨x,hx,rfl⟩:=ag h;exact L9 (cn O hx)
 ·rename_i elt gens scope ps
  match gens,h with
  | [⟨tg,iter,ifs,as⟩],h =>
   obtain⟨rfl,q⟩:=tQ C B O OB h
   exact q.df C.calm
 ·obtain⟨x,hx,h⟩:=bs h
  obtain⟨y,hy,rfl⟩:=ag h
  exact Mf (O.e _ _ hx) (O.e _ _ hy)
 ·split at h
  ·rename_i hk
   rw[zF] at hk
   have e1:=eq_of_beq hk.1
   have e2:=eq_of_beq hk.2
   subst e1 e2
   split at h
   ·cases h;exact AV C B hlam O OL ‹_›
   ·exact BC C B hlam O OL h
  ·cases h
 ·split at h
  ·rename_i hg
   rw[zF,Bool.not_eq_true'] at hg
   split at h
   ·rename_i hx
    subst hx
    obtain⟨x,hx,rfl⟩:=ag h
    split
    ·exact GF C.u66 (C.blt B hg.1 (by decide +kernel) lG) (cn O hx) (bw hg.2)
    ·exact C8 (C.blt B hg.1 (by decide +kernel) lG) (cn O hx) (bw hg.2)
   ·cases h
  ·cases h
 ·cases h
theorem J3{lam:Option Str}(C:Bk X N sc k)(B:Bn X)(O:dQ X T){blk lmb:Scope->List Str->Tr}(OB:∀scope N' fp s H,Bk (aV X scope N' fp s H) N' scope k->dQ (aV X scope N' fp s H) (blk scope N'))
  {elt:Expr}{gens:List Comprehension}{scope:Scope}{p:Pos}{f:Dl.Env->Option (List D)}(h:Cb lam sc N T blk lmb (.ListComp elt gens scope p)=some f):∃tg iter ifs,gens=[⟨tg,iter,ifs,0⟩]/\qp X tg iter ifs elt scope f:=by
 have h:vF sc N T blk elt gens scope=some f:=h
 match gens,h with
 | [⟨tg,iter,ifs,as⟩],h =>
  obtain⟨rfl,q⟩:=tQ C B O OB h
  exact⟨tg,iter,ifs,rfl,q⟩
theorem KZ(n:Nat):∀ {lam:Option Str}{X:Cx}{N:List Str}{sc:Scope}{k:Nat},Bk X N sc k->Nu G X j->j<=k->(∀q,lam=some q->qj X q/\j+3<=k)->dQ X (tr G n lam sc N):=by
 induction n with
 | zero=>intro lam X N sc k C g hjk hlam;exact⟨fun _ _ _ _ _ h=>(by cases h),fun _ _ h=>(by cases h),fun _ _ h=>(by cases h),fun _ _ h=>(by cases h)⟩
 | succ n ih =>
  intro lam X N sc k C g hjk hlam
  have O:=ih C g hjk hlam
  exact⟨fun elt gens scope p f h=>J3 (lam:=lam) (lmb:=tr G n none) (p:=p) C g.bn O (fun scope N' fp s H C'=>ih C' ⟨g.fn,g.int,g.bn⟩ hjk fun q z=>by cases z) h,fun e f h=>HQ C g hjk O h,
   fun e f h=>GI C g.bn hlam O (fun scope N' fp s H C'=>ih C' ⟨g.fn,g.int,g.bn⟩ hjk fun q z=>by cases z) (fun scope N' qual A f c s H C' hk=>ih C' ⟨g.fn,g.int,g.bn⟩ hk fun q z=>by cases z) h,
   fun e f h=>ER C O h⟩
end
def qK:Nat->Expr->List Str
 | 0,_=>[]
 | n+1,e=>match e with
  | .Name x _=>[x]
  | .UnaryOp _ a _=>qK n a
  | .BinOp a _ b _=>qK n a++qK n b
  | .BoolOp _ es _=>es.flatMap (qK n)
  | .Compare a _ cs _=>qK n a++cs.flatMap (qK n)
  | .IfExp c a b _=>qK n c++(qK n a++qK n b)
  | .Tuple es _ _=>es.flatMap (qK n)
  | .List es _=>es.flatMap (qK n)
  | .Subscript a b _=>qK n a++qK n b
  | .Slice lo hi st _=>(lo.toList++(hi.toList++st.toList)).flatMap (qK n)
  | .Call f args kws _=>qK n f++(args.flatMap (qK n)++kws.flatMap fun k=>qK n k.value)
  | .Attribute o _ _=>qK n o
  | .ListComp elt gens _ _=>qK n elt++gens.flatMap fun g=>qK n g.iter++g.ifs.flatMap (qK n)
  | .Lambda _ b _ _=>qK n b
  | _=>[]
def r9(N:List Str)(e:Expr):List Nat:=let ns:=qK 60 e;(List.range N.length).filter fun j=>match N[j]? with|some x=>ns.contains x|none=>false
abbrev GS:=aj->Option Out
def turns:Nat:=1000000
def Fx:Expr->Bool
 | .ListComp ..=>true
 | .SetComp ..=>true
 | .DictComp ..=>true
 | _=>false
def Hs(sc:Scope)(N:List Str)(T:Tr)(x:Str)(px:Pos)(e:Expr):Option GS :=
 (N.idxOf? x).bind fun i=>if Bi N sc i x=true then
  (if CV e=true then (match e with
   | .ListComp _ _ scope lp =>
    if (decide (sc.names.lookup x=some .local)&&(px.line == lp.line&&!(scope.names.any fun (n,k)=>n == x&&(k == .local || k == .cell))))=true then (T.f e).map fun f=>aM i (r9 N e) f
    else if decide (sc.names.lookup x=some .cell)=true then (T.f e).map fun f=>aM i (r9 N e) f
    else if (px.line == lp.line)=false then (T.f e).map fun f=>aM i (r9 N e) f
    else none
   | _=>(T.f e).map fun f=>aM i (r9 N e) f)
  else if Fx e=false then (T.e e).map fun f=>az i (r9 N e) f else none) else none
def E2(N:List Str)(sc:Scope)(T:Tr)(e:Expr):Option GS:=match e with
 | .Constant (.str _) _ _=>some gN
 | .Call (.Attribute (.Name x _) m apos) args [] cpos =>
  (N.idxOf? x).bind fun i=>if (DL N sc i x&&apos.endLine == cpos.line&&args.all fun e=>!isStar e)=true then
   (if m="append" then (match args with
    | [a]=>(T.e a).map fun f=>kZ i (r9 N a) f
    | _=>none)
   else if m="extend" then (match args with
    | [a]=>(T.f a).map fun f=>v8 i (r9 N a) f
    | _=>none)
   else if m="insert" then (match args with
    | [a,b]=>(T.e a).bind fun fk=>(T.e b).map fun f=>Fp i (r9 N b) fk f
    | _=>none)
   else none) else none
 | .Call (.Name _ _) _ _ _=>(T.e e).map iX
 | _=>none
def PJ(sc:Scope)(N:List Str)(tg:Expr):Option (aj->D->Option aj):=match tg with
 | .Name x _=>(N.idxOf? x).bind fun i=>if Bi N sc i x=true then some (lA i) else none
 | .Tuple [.Name x _,.Name y _] _ _=>(N.idxOf? x).bind fun i=>(N.idxOf? y).bind fun j=>if (Bi N sc i x&&Bi N sc j y)=true then some (dZ i j) else none
 | _=>none
def EC(sc:Scope)(N:List Str)(T:Tr)(x:Str)(kx e:Expr):Option GS :=
 (N.idxOf? x).bind fun i=>if (DL N sc i x&&!Cj kx)=true then (T.e kx).bind fun fk=>(T.e e).map fun f=>AM i (r9 N e) fk f else none
def qu(f:Stmt->Option GS):List Stmt->Option GS
 | []=>some gN
 | [s]=>f s
 | s::r=>(f s).bind fun g=>(qu f r).map fun h=>av g h
def HU(sc:Scope)(N:List Str)(T:Tr):Nat->Stmt->Option GS
 | 0,_=>none
 | n+1,st=>match st with
  | .Return (some e) _=>(T.e e).map aJ
  | .If c a b _=>(T.t c).bind fun t=>(qu (HU sc N T n) a).bind fun g=>(qu (HU sc N T n) b).map fun h=>hC t g h
  | .Assign [.Name x px] e _=>Hs sc N T x px e
  | .Assign [.Subscript (.Name x _) kx _] e _=>EC sc N T x kx e
  | .For tg iter body [] _=>(OO sc T tg iter).bind fun fi=>(PJ sc N tg).bind fun t=>(qu (HU sc N T n) body).map fun g=>cM (r9 N iter) fi t g
  | .While c body [] _=>(T.t c).bind fun t=>(qu (HU sc N T n) body).map fun g=>Jb t g turns
  | .Expr e _=>E2 N sc T e
  | .Raise ..=>some Np
  | .Pass _=>some gN
  | _=>none
section
variable {X:Cx}{N:List Str}{sc:Scope}{k:Nat}{T:Tr}{HF₀ H₀:Hp}{pos:Pos}
theorem jn{f:Stmt->Option GS}(H:∀s g,f s=some g->DS X HF₀ H₀ s g):∀ {l:List Stmt}{g:GS},qu f l=some g->Ez X HF₀ H₀ l g
 | [],g,h=>by cases h;exact Kd
 | [s],g,h=>JN (H _ _ h)
 | s::t::r,g,h=>by
  unfold qu at h
  obtain⟨x,hx,h⟩:=bs h
  obtain⟨y,hy,rfl⟩:=ag h
  exact GR (H _ _ hx) (jn H hy)
theorem uD{e:Expr}{x:Str}{px:Pos}{line:Nat}{env:PySem.Env}(h:Fx e=false):swapsWith e (some (.Name x px)) line env=pure false:=by
 cases e<;>first|rfl|cases h
theorem EU(C:Bk X N sc k)(O:dQ X T){x:Str}{px:Pos}{e:Expr}{g:GS}(h:Hs sc N T x px e=some g):DS X HF₀ H₀ (.Assign [.Name x px] e pos) g:=by
 unfold Hs at h
 obtain⟨i,hi,h⟩:=bs h
 split at h
 ·rename_i hloc
  obtain⟨z1,z2,z3,z4⟩:=C.loc hloc
  split at h
  ·split at h
   ·rename_i elt gens scope lp hl
    split at h
    ·rename_i hc
     rw[zF] at hc
     obtain⟨f,hf,rfl⟩:=ag h
     obtain⟨tg,iter,ifs,rfl,q⟩:=O.c _ _ _ _ _ hf
     obtain⟨N',t,cs,fi,tgt,tt,te,rfl,S,hd,hfold,hY⟩:=q.ex
     exact IU i _ C.calm S hd hY z1 z2 (C.locl hc.1) (C.swap hc.1 hc.2) hfold
    ·split at h
     ·rename_i hc
      obtain⟨f,hf,rfl⟩:=ag h
      exact vi i _ z1 z2 z3 (O.f _ _ hf) (C.noswap hc) z4
     ·split at h
      ·rename_i hc
       obtain⟨f,hf,rfl⟩:=ag h
       refine vi i _ z1 z2 z3 (O.f _ _ hf) ?_ z4
       rw[qN,hc]
       simp
      ·cases h
   ·rename_i hl hn
    obtain⟨f,hf,rfl⟩:=ag h
    refine vi i _ z1 z2 z3 (O.f _ _ hf) (uD ?_) z4
    cases e<;>first|rfl|exact absurd rfl (hn _ _ _ _)|(rename_i hl _;cases hl;done)
  ·split at h
   ·rename_i hc
    obtain⟨f,hf,rfl⟩:=ag h
    exact Mc i _ z1 z2 z3 (O.e _ _ hf) (uD hc) z4
   ·cases h
 ·cases h
theorem Az{env:PySem.Env}{es:List Expr}{cpos:Pos}(h:(es.all fun e=>!isStar e)=true)(hl:es.length < 20):((backTo cpos (starEach es env)).all (fun x=>!x.1)&&(backToKw cpos (keywordEach [] env)).all (fun x=>x.1.isSome)&&decide (es.length+([]:List Keyword).length+(if ([]:List Keyword).isEmpty then 0 else 1) < 30))=true:=by
 have h1:(backTo cpos (starEach es env)).all (fun x=>!x.1)=true:=by
  have:=dc (pos:=cpos) (env:=env) h
  rw[List.all_eq_not_any_not]
  simpa using this
 rw[h1]
 simp[backToKw,keywordEach]
 omega
theorem HD(C:Bk X N sc k)(O:dQ X T){e:Expr}{g:GS}(h:E2 N sc T e=some g):DS X HF₀ H₀ (.Expr e pos) g:=by
 unfold E2 at h
 split at h
 ·cases h;exact M8
 ·rename_i x px m apos args cpos
  replace h:=bs h
  obtain⟨i,hi,h⟩:=h
  split at h
  ·rename_i hv
   simp only[zF] at hv
   obtain⟨⟨hv,hline⟩,hs⟩:=hv
   obtain⟨z1,z2,z3,z4⟩:=C.vis hv
   split at h
   ·rename_i hm
    subst hm
    split at h
    ·obtain⟨f,hf,rfl⟩:=ag h
     exact C2 i _ z1 z2 (O.e _ _ hf) z3 z4 (Az hs (by simp)) hline (bw (by simpa using hs))
    ·cases h
   ·split at h
    ·rename_i hm
     subst hm
     split at h
     ·obtain⟨f,hf,rfl⟩:=ag h
      exact DC i _ z1 z2 (O.f _ _ hf) z3 z4 (Az hs (by simp)) hline (bw (by simpa using hs))
     ·cases h
    ·split at h
     ·rename_i hm
      subst hm
      split at h
      ·obtain⟨fk,hfk,h⟩:=bs h
       obtain⟨f,hf,rfl⟩:=ag h
       have hs':=hs
       simp only[List.all_cons,List.all_nil,Bool.and_true,zF,Bool.not_eq_true'] at hs'
       exact Ea i _ z1 z2 (O.e _ _ hfk) (O.e _ _ hf) z3 z4 (Az hs (by simp)) hline (bw hs'.1) (bw hs'.2)
      ·cases h
     ·cases h
  ·cases h
 ·obtain⟨f,hf,rfl⟩:=ag h
  exact JW rfl (O.e _ _ hf)
 ·cases h
theorem LQ(C:Bk X N sc k){tg:Expr}{t:aj->D->Option aj}(h:PJ sc N tg=some t):OK X HF₀ H₀ tg t:=by
 unfold PJ at h
 split at h
 ·obtain⟨i,hi,h⟩:=bs h
  split at h
  ·rename_i hl
   cases h
   have z:=C.loc hl
   exact GP i z.1 z.2.1 z.2.2.1 z.2.2.2
  ·cases h
 ·obtain⟨i,hi,h⟩:=bs h
  obtain⟨j,hj,h⟩:=bs h
  split at h
  ·rename_i hl
   rw[zF] at hl
   cases h
   have z:=C.loc hl.1
   have w:=C.loc hl.2
   exact JC i j C.calm z.1 z.2.1 z.2.2.1 w.2.1 w.2.2.1 z.2.2.2 w.2.2.2
  ·cases h
 ·cases h
theorem FQ(C:Bk X N sc k)(O:dQ X T){x:Str}{px spos:Pos}{kx e:Expr}{g:GS}(h:EC sc N T x kx e=some g):DS X HF₀ H₀ (.Assign [.Subscript (.Name x px) kx spos] e pos) g:=by
 unfold EC at h
 obtain⟨i,hi,h⟩:=bs h
 split at h
 ·rename_i hv
  simp only[zF,Bool.not_eq_true'] at hv
  obtain⟨hv,hc⟩:=hv
  obtain⟨z1,z2,z3,z4⟩:=C.vis hv
  obtain⟨fk,hfk,h⟩:=bs h
  obtain⟨f,hf,rfl⟩:=ag h
  refine GA i _ z1 z2 (O.e _ _ hfk) (O.e _ _ hf) z3 z4 (fun v=>?_) ?_ ?_ rfl
  ·cases kx<;>first|rfl|cases hc
  ·cases e<;>rfl
  ·rfl
 ·cases h
theorem AG(C:Bk X N sc k)(B:Bn X)(O:dQ X T):∀ (n:Nat) {st:Stmt}{g:GS},HU sc N T n st=some g->DS X HF₀ H₀ st g
 | 0,st,g,h=>by cases h
 | n+1,st,g,h=>by
  have ih:=fun s g h=>AG C B O n (st:=s) (g:=g) h
  unfold HU at h
  split at h
  ·obtain⟨f,hf,rfl⟩:=ag h;exact MX (O.e _ _ hf)
  ·obtain⟨t,ht,h⟩:=bs h
   obtain⟨a,ha,h⟩:=bs h
   obtain⟨b,hb,rfl⟩:=ag h
   exact Oa (O.t _ _ ht) (jn ih ha) (jn ih hb)
  ·exact EU C O h
  ·exact FQ C O h
  ·obtain⟨fi,hfi,h⟩:=bs h
   obtain⟨t,ht,h⟩:=bs h
   obtain⟨b,hb,rfl⟩:=ag h
   obtain⟨hd,hfold⟩:=Ht C B O hfi
   exact M1 _ C.pass C.calm hd (LQ C ht) (jn ih hb) hfold
  ·obtain⟨t,ht,h⟩:=bs h
   obtain⟨b,hb,rfl⟩:=ag h
   exact Gd _ C.pass (O.t _ _ ht) (jn ih hb)
  ·exact HD C O h
  ·cases h;exact Oo
  ·cases h;exact IG
  ·cases h
end
section
variable {P:Program}{w:World}{K:W.Frag}{mg:Str->Option Value}{base:Heap}{j:Nat}
def lT(P:Program)(w:World)(K:W.Frag)(mg:Str->Option Value)(base:Heap)(j:Nat)(l:List (Str×Nat×(List D->Option D))):Prop:=∀x n m,l.lookup x=some (n,m)->dk P w K mg base j x n m
def kY(mg:Str->Option Value)(l:List (Str×Int)):Prop:=∀x i,l.lookup x=some i->∃t,mg x=some (.int i t)
theorem bL:lT P w K mg base j []:=fun _ _ _ h=>by cases h
theorem NU{x:Str}{n:Nat}{m:List D->Option D}{l:List (Str×Nat×(List D->Option D))}(F:dk P w K mg base j x n m)(h:lT P w K mg base j l):lT P w K mg base j ((x,n,m)::l):=fun y n' m' e=>by
 rw[yC] at e
 cases q:y == x with
 | true=>rw[q] at e;cases e;rw[eq_of_beq q];exact F
 | false=>rw[q] at e;exact h y n' m' e
theorem bJ:kY mg []:=fun _ _ h=>by cases h
theorem Cy{x:Str}{i:Int}{l:List (Str×Int)}(F:∃t,mg x=some (.int i t))(h:kY mg l):kY mg ((x,i)::l):=fun y i' e=>by
 rw[yC] at e
 cases q:y == x with
 | true=>rw[q] at e;cases e;rw[eq_of_beq q];exact F
 | false=>rw[q] at e;exact h y i' e
theorem KI{X:Cx}{N:List Str}{st:Stmt}{g:aj->Option Out}{fs:List (Str×Nat×(List D->Option D))}{is:List (Str×Int)}{HF₀ H₀:Hp}(C:Bk X N (aN st) j)(B:Bn X)(hf:lT X.prog X.w X.K X.mg X.base j fs)(hi:kY X.mg is)
  (t:qu (HU (aN st) N (tr ⟨fs,is⟩ 40 none (aN st) N) 40) (cE st)=some g):Ez X HF₀ H₀ (cE st) g :=
 jn (fun s g h=>AG C B (KZ (G:=⟨fs,is⟩) 40 C ⟨hf,hi,B⟩ (zzA j) fun q z=>by cases z) 40 h) t
theorem Qd{x:Str}{st:Stmt}{ps N:List Str}{g:aj->Option Out}{fs:List (Str×Nat×(List D->Option D))}{is:List (Str×Int)}(D:bE K mg x st ps)(S:gm N ps (aN st))(B:∀x∈cU,mg x=none)(hf:lT P w K mg base j fs)(hi:kY mg is)
  (t:qu (HU (aN st) N (tr ⟨fs,is⟩ 40 none (aN st) N) 40) (cE st)=some g):dk P w K mg base (j+1) x ps.length (ba g N.length):=by
 obtain⟨f,fd,hm,F,hb⟩:=D.ex
 exact P2 F S hb hm fun X hP hw hK hm' hb' C _ _ HF H=>by subst hP;subst hw;subst hK;subst hm';subst hb';exact KI C B hf hi t
theorem Qp{x q:Str}{st:Stmt}{ps N:List Str}{g:aj->Option Out}{fs:List (Str×Nat×(List D->Option D))}{is:List (Str×Int)}(D:Gw K mg x st ps)(S:gm N ps (aN st))(B:∀x∈cU,mg x=none)(hf:lT P w K mg base j fs)(hi:kY mg is)
  (hq:x∈kF/\x++".<locals>."++"<lambda>"=q) (t:qu (HU (aN st) N (tr ⟨fs,is⟩ 40 (some q) (aN st) N) 40) (cE st)=some g):dk P w K mg base (j+4) x ps.length (ba g N.length):=by
 obtain⟨f,fd,c,P',hm,F,hb,hc,hh⟩:=D.ex
 refine P2 (k:=j+3) F S hb hm fun X hP hw hK hm' hb' C h1 h2 HF H=>?_
 subst hP;subst hw;subst hK;subst hm';subst hb'
 have L:qj X q:=by
  refine⟨c,P',by rw[h1,hc],by rw[h2];exact hq.2,hh,fun HF tb=>?_⟩
  obtain⟨oc,od,kV,doc,pm,an,cdv,ct,osl,rfl,lk,_⟩:=F.ex
  have:=tb f oc od _ osl c P' lk hq.1 hc hh
  rw[<- hq.2]
  exact this
 exact jn (fun s g h=>AG C B (KZ (G:=⟨fs,is⟩) (j:=j) 40 C ⟨hf,hi,B⟩ (Nat.le_add_right _ _) fun q' z=>by cases z;exact⟨L,zzA _⟩) 40 h) t
end
abbrev tW(s:Stmt)(N:List Str)(S:Sg)(l:Option Str):Option GS:=qu (HU (aN s) N (tr S 40 l (aN s) N) 40) (cE s)
theorem Pj{N P:List Str}{sc:Scope}(a:sc.kind=.function:=by rfl)(b:sc.isCoroutine=false:=by rfl)(c:sc.isGenerator=false:=by rfl)(d:N.Nodup:=by decide +kernel)(e:N.take P.length=P:=by rfl)(f:∀x∈P,sc.names.lookup x=some .local \/ sc.names.lookup x=some .cell:=by decide +kernel)(g:∀y∈sc.names,y.2≠.free:=by decide +kernel):gm N P sc:=⟨a,b,c,d,e,f,g⟩
section
variable {P:Program}{w:World}{K:W.Frag}{mg:Str->Option Value}{base:Heap}{i j:Nat}
theorem fm{x:Str}{n:Nat}{m:List D->Option D}{l:List (Str×Nat×(List D->Option D))}(F:dk P w K mg base i x n m)(h:lT P w K mg base j l)(e:i<=j:=by decide):lT P w K mg base j ((x,n,m)::l):=NU (F.mono e) h
theorem f7{x:Str}{st:Stmt}{ps N:List Str}{g:aj->Option Out}{S:Sg}(D:bE K mg x st ps)(B:∀x∈cU,mg x=none)(hf:lT P w K mg base j S.fn)(hi:kY mg S.int)(t:tW st N S none=some g)(F:gm N ps (aN st):=by exact Rf.Pj):dk P w K mg base (j+1) x ps.length (ba g N.length):=Qd D F B hf hi t
theorem P4{x q:Str}{st:Stmt}{ps N:List Str}{g:aj->Option Out}{S:Sg}(D:Gw K mg x st ps)(B:∀x∈cU,mg x=none)(hf:lT P w K mg base j S.fn)(hi:kY mg S.int)(t:tW st N S (some q)=some g)(F:gm N ps (aN st):=by exact Rf.Pj)(hq:x∈kF/\x++".<locals>."++"<lambda>"=q:=by decide +kernel):dk P w K mg base (j+4) x ps.length (ba g N.length):=Qp D F B hf hi hq t
end
end Rf
namespace Hd
open PySem L2 Dl PySem.Spec PyProof.Rows
section
variable {K:W.Frag}
theorem fIn{x:Str}{st:Stmt}{ps:List Str}{f c:Addr}{pm:Value}(hb:iC st ps)(a:W.nsIn K mainGlobals x=some (some (.ref f)))(l:K.lookup f=some (fo x st pm c))(d:W.codeIn K (.ref c) x=true)(k:W.keepIn K (.ref f)=true):aF K x st ps:=NS hb a l d k
theorem lIn{x:Str}{st:Stmt}{ps:List Str}{f c:Addr}{pm:Value}(hb:iC st ps)(a:W.nsIn K mainGlobals x=some (some (.ref f)))(l:K.lookup f=some (fo x st pm c))(d:W.codeIn K (.ref c) x=true)(k:W.keepIn K (.ref f)=true)(hh:W.codeHdIn K c (HN K c)=true):o3 K x st ps:=NH hb a l d k hh
end
section
variable {α:Type}{R:List α->Prop}
theorem wM(h:∀a,R [a])(us:List α)(e:us.length=1):R us:=by
 obtain⟨a,rfl⟩:=List.length_eq_one_iff.mp e;exact h a
theorem lenS{n:Nat}(us:List α)(e:us.length=n+1):∃a r,us=a::r/\r.length=n:=by
 cases us with
 | nil=>cases e
 | cons a r=>exact⟨a,r,rfl,by simpa using e⟩
theorem len2(h:∀a b,R [a,b])(us:List α)(e:us.length=2):R us:=by
 obtain⟨a,r,rfl,e'⟩:=lenS us e;exact wM (R:=fun r=>R (a::r)) (h a) r e'
theorem len3(h:∀a b c,R [a,b,c])(us:List α)(e:us.length=3):R us:=by
 obtain⟨a,r,rfl,e'⟩:=lenS us e;exact len2 (R:=fun r=>R (a::r)) (h a) r e'
theorem len4(h:∀a b c d,R [a,b,c,d])(us:List α)(e:us.length=4):R us:=by
 obtain⟨a,r,rfl,e'⟩:=lenS us e;exact len3 (R:=fun r=>R (a::r)) (h a) r e'
end
section
variable {K:W.Frag}
theorem f1(f c:Addr)(pm:Value){x:Str}{st:Stmt}{ps:List Str}(hb:iC st ps:=by exact fun _ _ _ _ _ _ _ _ us hl=>wM (R:=fun us=>bindArgs _ ⟨us,[]⟩=pure (List.zip _ us)) (fun _=>rfl) us hl)(a:W.nsIn K mainGlobals x=some (some (.ref f)):=by kernel_rfl)(l:K.lookup f=some (fo x st pm c):=by kernel_rfl)(d:W.codeIn K (.ref c) x=true:=by kernel_rfl)(k:W.keepIn K (.ref f)=true:=by kernel_rfl):aF K x st ps:=fIn hb a l d k
theorem l1(f c:Addr)(pm:Value){x:Str}{st:Stmt}{ps:List Str}(hb:iC st ps:=by exact fun _ _ _ _ _ _ _ _ us hl=>wM (R:=fun us=>bindArgs _ ⟨us,[]⟩=pure (List.zip _ us)) (fun _=>rfl) us hl)(a:W.nsIn K mainGlobals x=some (some (.ref f)):=by kernel_rfl)(l:K.lookup f=some (fo x st pm c):=by kernel_rfl)(d:W.codeIn K (.ref c) x=true:=by kernel_rfl)(k:W.keepIn K (.ref f)=true:=by kernel_rfl)(hh:W.codeHdIn K c (HN K c)=true:=by kernel_rfl):o3 K x st ps:=lIn hb a l d k hh
theorem f2(f c:Addr)(pm:Value){x:Str}{st:Stmt}{ps:List Str}(hb:iC st ps:=by exact fun _ _ _ _ _ _ _ _ us hl=>len2 (R:=fun us=>bindArgs _ ⟨us,[]⟩=pure (List.zip _ us)) (fun _ _=>rfl) us hl)(a:W.nsIn K mainGlobals x=some (some (.ref f)):=by kernel_rfl)(l:K.lookup f=some (fo x st pm c):=by kernel_rfl)(d:W.codeIn K (.ref c) x=true:=by kernel_rfl)(k:W.keepIn K (.ref f)=true:=by kernel_rfl):aF K x st ps:=fIn hb a l d k
theorem f3(f c:Addr)(pm:Value){x:Str}{st:Stmt}{ps:List Str}(hb:iC st ps:=by exact fun _ _ _ _ _ _ _ _ us hl=>len3 (R:=fun us=>bindArgs _ ⟨us,[]⟩=pure (List.zip _ us)) (fun _ _ _=>rfl) us hl)(a:W.nsIn K mainGlobals x=some (some (.ref f)):=by kernel_rfl)(l:K.lookup f=some (fo x st pm c):=by kernel_rfl)(d:W.codeIn K (.ref c) x=true:=by kernel_rfl)(k:W.keepIn K (.ref f)=true:=by kernel_rfl):aF K x st ps:=fIn hb a l d k
theorem l3(f c:Addr)(pm:Value){x:Str}{st:Stmt}{ps:List Str}(hb:iC st ps:=by exact fun _ _ _ _ _ _ _ _ us hl=>len3 (R:=fun us=>bindArgs _ ⟨us,[]⟩=pure (List.zip _ us)) (fun _ _ _=>rfl) us hl)(a:W.nsIn K mainGlobals x=some (some (.ref f)):=by kernel_rfl)(l:K.lookup f=some (fo x st pm c):=by kernel_rfl)(d:W.codeIn K (.ref c) x=true:=by kernel_rfl)(k:W.keepIn K (.ref f)=true:=by kernel_rfl)(hh:W.codeHdIn K c (HN K c)=true:=by kernel_rfl):o3 K x st ps:=lIn hb a l d k hh
theorem f4(f c:Addr)(pm:Value){x:Str}{st:Stmt}{ps:List Str}(hb:iC st ps:=by exact fun _ _ _ _ _ _ _ _ us hl=>len4 (R:=fun us=>bindArgs _ ⟨us,[]⟩=pure (List.zip _ us)) (fun _ _ _ _=>rfl) us hl)(a:W.nsIn K mainGlobals x=some (some (.ref f)):=by kernel_rfl)(l:K.lookup f=some (fo x st pm c):=by kernel_rfl)(d:W.codeIn K (.ref c) x=true:=by kernel_rfl)(k:W.keepIn K (.ref f)=true:=by kernel_rfl):aF K x st ps:=fIn hb a l d k
end
end Hd
namespace Pg
open PySem L2 Dl PySem.Spec PyProof.Rows
abbrev AD:List Str:=["thing","least","most"]
def lV:aj->Option Out:=(av (hC (qQ (b8 (fB (KP "int" (ab 0)))) (fB (KP "bool" (ab 0)))) (aJ (fC (.bool false))) gN) (aJ (kW Cw Cw (ab 1) (ab 0) (ab 2))))
def aS:List D->Option D:=ba lV 3
abbrev yU:List Str:=["thing","many"]
def kX:aj->Option Out:=(aJ (ah 3 aS (aa (ab 0) (aa (fC (.int 0)) (aa (f2 Dl.gP (ab 1) (fC (.int 1))) ae)))))
def bU:List D->Option D:=ba kX 2
abbrev Da:List Str:=["thing","least","most"]
def ow:aj->Option Out:=(aJ (jZ (KP "tuple" (ab 0)) (kW Cw Cw (ab 1) (aU bq (aa (ab 0) ae)) (ab 2))))
def bc:List D->Option D:=ba ow 3
abbrev wN:List Str:=["thing","many"]
def ki:aj->Option Out:=(av (hC (b8 (fB (KP "tuple" (ab 0)))) (aJ (fC (.bool false))) gN) (av (hC (b8 (fB (aU mC (aa (cx (aq 1 [1] (aO (ab 0)) (fG 0) (fun _=>some true) (ah 2 bU (aa (ab 0) (aa (ab 1) ae))))) ae)))) (aJ (fC (.bool false))) gN) (aJ (f2 bQ (f1 lJ (ab 0)) (aU bq (aa (ab 0) ae))))))
def fJ:List D->Option D:=ba ki 2
abbrev FY:List Str:=["thing","many"]
def qw:aj->Option Out:=(aJ (jZ (ah 3 bc (aa (ab 0) (aa (fC (.int 2)) (aa (fC (.int 2)) ae)))) (jZ (ah 3 aS (aa (f2 au (ab 0) (fC (.int 0))) (aa (fC (.int 0)) (aa (fC (.int 9)) ae)))) (ah 2 fJ (aa (f2 au (ab 0) (fC (.int 1))) (aa (ab 1) ae))))))
def fM:List D->Option D:=ba qw 2
abbrev Hc:List Str:=["thing","givers","takers"]
def rC:aj->Option Out:=(av (hC (b8 (fB (ah 3 bc (aa (ab 0) (aa (fC (.int 3)) (aa (fC (.int 3)) ae)))))) (aJ (fC (.bool false))) gN) (aJ (jZ (ah 2 bU (aa (f2 au (ab 0) (fC (.int 0))) (aa (ab 1) ae))) (jZ (ah 2 bU (aa (f2 au (ab 0) (fC (.int 1))) (aa (ab 2) ae))) (ah 3 aS (aa (f2 au (ab 0) (fC (.int 2))) (aa (fC (.int 1)) (aa (fC (.int 9)) ae))))))))
def jh:List D->Option D:=ba rC 3
abbrev yP:List Str:=["givers","takers","ways"]
def kr:aj->Option Out:=(av (hC (qQ (b8 (fB (ah 3 bc (aa (ab 0) (aa (fC (.int 1)) (aa (fC (.int 4)) ae)))))) (b8 (fB (ah 3 bc (aa (ab 1) (aa (fC (.int 1)) (aa (fC (.int 4)) ae))))))) (aJ (fC (.bool false))) gN) (av (hC (b8 (fB (aU mC (aa (cx (aq 1 [1] (aO (ab 0)) (fG 0) (fun _=>some true) (ah 2 fM (aa (ab 0) (aa (aU bq (aa (ab 1) ae)) ae))))) ae)))) (aJ (fC (.bool false))) gN) (av (hC (b8 (fB (aU mC (aa (cx (aq 1 [0] (aO (ab 1)) (fG 0) (fun _=>some true) (ah 2 fM (aa (ab 0) (aa (aU bq (aa (ab 1) ae)) ae))))) ae)))) (aJ (fC (.bool false))) gN) (aJ (jZ (KP "tuple" (ab 2)) (aU mC (aa (cx (aq 1 [0,1] (aO (ab 2)) (fG 0) (fun _=>some true) (ah 3 jh (aa (ab 0) (aa (aU bq (aa (ab 1) ae)) (aa (aU bq (aa (ab 2) ae)) ae)))))) ae)))))))
def fI:List D->Option D:=ba kr 3
abbrev su:List Str:=["places","pairs","number","place"]
def iL:aj->Option Out:=(av (aM 1 [] (eV ae)) (av (cM [0] (bx (aa (ab 0) ae)) (dZ 2 3) (v8 1 [2,3] (aq 1 [2] (aO (f2 au (ab 3) (fC (.int 1)))) (fG 0) (fun _=>some true) (aC (aa (ab 1) (aa (ab 0) ae)))))) (aJ (ab 1))))
def bF:List D->Option D:=ba iL 4
abbrev Ba:List Str:=["thing","joined","by_givers","by_takers"]
def gK:aj->Option Out:=(av (hC (qQ (b8 (fB (ah 3 bc (aa (ab 0) (aa (fC (.int 3)) (aa (fC (.int 3)) ae)))))) (b8 (fB (ah 3 fI (aa (f2 au (ab 0) (fC (.int 0))) (aa (f2 au (ab 0) (fC (.int 1))) (aa (f2 au (ab 0) (fC (.int 2))) ae))))))) (aJ (fC (.bool false))) gN) (av (aM 1 [0] (aq 1 [] (aO (f2 au (ab 0) (fC (.int 2)))) (fG 0) (fun _=>some true) (aC (aa (f2 au (ab 0) (fC (.int 0))) (aa (f2 au (ab 0) (fC (.int 1))) ae))))) (av (aM 2 [0] (lX hU (aa (ah 1 bF (aa (f2 au (ab 0) (fC (.int 0))) ae)) ae))) (av (aM 3 [0] (lX hU (aa (cx (aq 2 [] (aO (ah 1 bF (aa (f2 au (ab 0) (fC (.int 1))) ae))) (gw 0 1) (fun _=>some true) (aC (aa (ab 1) (aa (ab 0) ae))))) ae))) (aJ (jZ (f2 bQ (ab 1) (ab 2)) (f2 bQ (ab 1) (ab 3))))))))
def cA:List D->Option D:=ba gK 4
abbrev tE:List Str:=["world"]
def dE:aj->Option Out:=(hC (b8 (fB (ah 1 cA (aa (ab 0) ae)))) Np gN)
def bh:List D->Option D:=ba dE 1
abbrev tJ:List Str:=["thing","least","most"]
def dw:aj->Option Out:=(hC (b8 (fB (ah 3 aS (aa (ab 0) (aa (ab 1) (aa (ab 2) ae)))))) Np gN)
def fv:List D->Option D:=ba dw 3
abbrev qG:List Str:=["thing","many"]
def cW:aj->Option Out:=(iX (ah 3 fv (aa (ab 0) (aa (fC (.int 0)) (aa (f2 Dl.gP (ab 1) (fC (.int 1))) ae)))))
def aX:List D->Option D:=ba cW 2
abbrev vT:List Str:=["thing"]
def d6:aj->Option Out:=(iX (ah 2 aX (aa (ab 0) (aa (fC (.int 2)) ae))))
def gG:List D->Option D:=ba d6 1
abbrev As:List Str:=["parts","number","part"]
def lU:aj->Option Out:=(aJ (f2 aA (f2 aA (oM je (ab 0) nW (C7 (ab 1))) (aC (aa (ab 2) ae))) (oM je (ab 0) (C7 (f2 aA (ab 1) (fC (.int 1)))) nW)))
def js:List D->Option D:=ba lU 3
abbrev D0:List Str:=["world","side","place","ways","likes","own"]
def k8:aj->Option Out:=(av (az 3 [0] (f2 au (ab 0) (fC (.int 2)))) (av (az 4 [0,1,2] (f2 au (f2 au (f2 au (ab 0) (ab 1)) (ab 2)) (fC (.int 1)))) (av (aM 5 [1,2,3] (aq 2 [1,2] (bx (aa (ab 3) ae)) (gw 0 1) (fB (f2 bQ (f2 au (ab 1) (ab 2)) (ab 3))) (ab 0))) (aJ (cx (n9 [1,3,4] (ab 5) (f2 pd (ab 3) (f2 au (f2 au (ab 2) (ab 0)) (f2 Dl.gP (fC (.int 1)) (ab 1))))))))))
def bT:List D->Option D:=ba k8 6
abbrev xF:List Str:=["world","side","place","offers","chosen","left","number"]
def iy:aj->Option Out:=(av (aM 4 [0] (aq 1 [] (aO (f2 au (ab 0) (fC (.int 2)))) (fG 0) (fun _=>some true) (fC (.int 0)))) (av (az 5 [0,1,2] (f2 au (f2 au (f2 au (ab 0) (ab 1)) (ab 2)) (fC (.int 0)))) (av (cM [0,1,2] (aO (ah 3 bT (aa (ab 0) (aa (ab 1) (aa (ab 2) ae))))) (lA 6) (av (AM 4 [0,3,5,6] (ab 6) (aU xZ (aa (f2 au (ab 3) (ab 6)) (aa (f2 au (f2 au (f2 au (ab 0) (fC (.int 2))) (ab 6)) (fC (.int 2))) (aa (ab 5) ae))))) (az 5 [4,5,6] (f2 Dl.gP (ab 5) (f2 au (ab 4) (ab 6)))))) (aJ (aU bo (aa (ab 4) ae))))))
def dW:List D->Option D:=ba iy 7
abbrev pf:List Str:=["world","side","offers","sums","place","chosen"]
def dJ:aj->Option Out:=(av (aM 3 [0] (aq 1 [] (aO (f2 au (ab 0) (fC (.int 2)))) (fG 0) (fun _=>some true) (fC (.int 0)))) (av (cM [0,1] (bj (aa (aU bq (aa (f2 au (ab 0) (ab 1)) ae)) ae)) (lA 4) (av (az 5 [0,1,2,4] (ah 4 dW (aa (ab 0) (aa (ab 1) (aa (ab 4) (aa (ab 2) ae)))))) (aM 3 [3,5] (aq 2 [] (dz (aa (ab 3) (aa (ab 5) ae))) (gw 0 1) (fun _=>some true) (f2 aA (ab 0) (ab 1)))))) (aJ (aU bo (aa (ab 3) ae)))))
def aZ:List D->Option D:=ba dJ 6
abbrev Fo:List Str:=["world"]
def rG:aj->Option Out:=(aJ (aU bo (aa (cx (aq 1 [] (aO (f2 au (ab 0) (fC (.int 2)))) (fG 0) (fun _=>some true) (f2 au (ab 0) (fC (.int 2))))) ae)))
def fH:List D->Option D:=ba rG 1
abbrev Dg:List Str:=["caps","way","cap"]
def nZ:aj->Option Out:=(aJ (ah 3 js (aa (ab 0) (aa (ab 1) (aa (ab 2) ae)))))
def cm:List D->Option D:=ba nZ 3
abbrev Dw:List Str:=["world","caps","given","kept","way","many"]
def ll:aj->Option Out:=(av (az 2 [0,1] (ah 3 aZ (aa (ab 0) (aa (fC (.int 0)) (aa (ab 1) ae))))) (av (az 3 [0,2] (ah 3 aZ (aa (ab 0) (aa (fC (.int 1)) (aa (ab 2) ae))))) (av (cM [3] (bx (aa (ab 3) ae)) (dZ 4 5) (hC (fB (f2 Ey (ab 5) (f2 au (ab 2) (ab 4)))) (aJ (aC (aa (ab 4) (aa (ab 5) ae)))) gN)) (aJ (fC .none)))))
def dU:List D->Option D:=ba ll 6
abbrev ID:List Str:=["world","rows","caps","row"]
def pV:aj->Option Out:=(av (aM 1 [] (eV ae)) (av (az 2 [0] (ah 1 fH (aa (ab 0) ae))) (av (az 3 [0,2] (ah 2 dU (aa (ab 0) (aa (ab 2) ae)))) (av (Jb (fB (f2 oW (ab 3) (fC .none))) (av (kZ 1 [3] (ab 3)) (av (az 2 [2,3] (ah 3 cm (aa (ab 2) (aa (f2 au (ab 3) (fC (.int 0))) (aa (f2 au (ab 3) (fC (.int 1))) ae))))) (az 3 [0,2] (ah 2 dU (aa (ab 0) (aa (ab 2) ae)))))) Rf.turns) (aJ (ab 1))))))
def pL:List D->Option D:=ba pV 4
abbrev FW:List Str:=["world","rows","caps","way","cap"]
def mY:aj->Option Out:=(av (az 2 [0] (ah 1 fH (aa (ab 0) ae))) (av (cM [1] (aO (ab 1)) (dZ 3 4) (az 2 [2,3,4] (ah 3 cm (aa (ab 2) (aa (ab 3) (aa (ab 4) ae)))))) (aJ (ab 2))))
def ny:List D->Option D:=ba mY 5
abbrev tM:List Str:=["world"]
def fu:aj->Option Out:=(av (iX (ah 1 bh (aa (ab 0) ae))) (aJ (ah 3 aZ (aa (ab 0) (aa (fC (.int 0)) (aa (ah 2 ny (aa (ab 0) (aa (ah 1 pL (aa (ab 0) ae)) ae))) ae))))))
def bN:List D->Option D:=ba fu 1
abbrev xJ:List Str:=["_law_script","_law_k"]
def iA:aj->Option Out:=(av (hC (fB (f2 bQ (ab 0) (cx (eV ae)))) (aJ (f2 ej (fC (.int 7)) (ab 1))) gN) (aJ (f2 aA (f2 au (ab 0) (f2 lL (ab 1) (aU bq (aa (ab 0) ae)))) (f2 ej (fC (.int 6553)) (f2 nE (ab 1) (aU bq (aa (ab 0) ae)))))))
def dS:List D->Option D:=ba iA 2
abbrev ve:List Str:=["_law_script","_law_k","_law_many","_law_cell_here"]
def jR:aj->Option Out:=(av (az 3 [0,1] (f2 lL (f2 aA (f2 ej (f2 lL (ah 2 dS (aa (ab 0) (aa (ab 1) ae))) (fC (.int 2147483563))) (fC (.int 69069))) (f2 ej (fC (.int 104723)) (f2 aA (ab 1) (fC (.int 1))))) (fC (.int 2147483563)))) (av (az 3 [3] (f2 lL (f2 aA (f2 ej (ab 3) (ab 3)) (f2 nE (ab 3) (fC (.int 3)))) (fC (.int 2147483399)))) (aJ (f2 lL (f2 nE (f2 lL (f2 aA (f2 ej (ab 3) (ab 3)) (f2 nE (ab 3) (fC (.int 7)))) (fC (.int 2147483647))) (fC (.int 11))) (ab 2)))))
def ak:List D->Option D:=ba jR 4
abbrev sx:List Str:=["_law_script","_law_at","_law_rows","_law_found","_law_k","_law_row","_law_order","_law_j","_law_one"]
def iH:aj->Option Out:=(av (aM 3 [] (eV ae)) (av (cM [2] (bx (aa (ab 2) ae)) (dZ 4 5) (av (aM 6 [] (eV ae)) (av (cM [5] (bx (aa (ab 5) ae)) (dZ 7 8) (Fp 6 [8] (ah 3 ak (aa (ab 0) (aa (f2 aA (f2 aA (ab 1) (f2 ej (fC (.int 4)) (ab 4))) (ab 7)) (aa (f2 aA (aU bq (aa (ab 6) ae)) (fC (.int 1))) ae)))) (ab 8))) (kZ 3 [6] (aU bo (aa (ab 6) ae)))))) (aJ (ab 3))))
def bO:List D->Option D:=ba iH 9
abbrev vy:List Str:=["_law_script","_law_at","_law_most","_law_each","_law_takers","_law_many","_law_size","_law_ways","_law_k","_law_mine","_law_yours","_law_givers"]
def eE:aj->Option Out:=(av (hC (oX (fB (f2 zz (ab 2) (fC (.int 3)))) (fB (f2 bQ (ah 3 ak (aa (ab 0) (aa (f2 aA (ab 1) (fC (.int 64))) (aa (fC (.int 4)) ae)))) (fC (.int 0))))) (av (az 3 [0,1] (f2 aA (fC (.int 1)) (ah 3 ak (aa (ab 0) (aa (f2 aA (ab 1) (fC (.int 65))) (aa (fC (.int 2)) ae)))))) (av (az 4 [3] (aC (aa (aC (aa (ab 3) (aa (aC (aa (fC (.int 1)) (aa (fC (.int 0)) ae))) ae))) (aa (aC (aa (ab 3) (aa (aC (aa (fC (.int 0)) (aa (fC (.int 1)) ae))) ae))) ae)))) (aJ (aC (aa (aC (aa (aC (aa (ab 3) (aa (aC (aa (fC (.int 0)) (aa (fC (.int 1)) ae))) ae))) (aa (aC (aa (ab 3) (aa (aC (aa (fC (.int 1)) (aa (fC (.int 0)) ae))) ae))) ae))) (aa (ab 4) (aa (aC (aa (aC (aa (fC (.int 0)) (aa (fC (.int 0)) (aa (fC (.int 2)) ae)))) (aa (aC (aa (fC (.int 0)) (aa (fC (.int 1)) (aa (fC (.int 2)) ae)))) (aa (aC (aa (fC (.int 1)) (aa (fC (.int 0)) (aa (fC (.int 2)) ae)))) (aa (aC (aa (fC (.int 1)) (aa (fC (.int 1)) (aa (fC (.int 2)) ae)))) ae))))) ae))))))) gN) (av (az 5 [0,1] (f2 aA (fC (.int 1)) (ah 3 ak (aa (ab 0) (aa (ab 1) (aa (fC (.int 3)) ae)))))) (av (az 6 [0,1] (f2 aA (fC (.int 1)) (ah 3 ak (aa (ab 0) (aa (f2 aA (ab 1) (fC (.int 1))) (aa (fC (.int 3)) ae)))))) (av (aM 7 [] (eV ae)) (av (cM [5,6] (bj (aa (f2 ej (ab 5) (ab 6)) ae)) (lA 8) (hC (oX (fB (f2 Ey (aU bq (aa (ab 7) ae)) (ab 2))) (fB (f2 zz (ah 3 ak (aa (ab 0) (aa (f2 aA (f2 aA (ab 1) (fC (.int 2))) (ab 8)) (aa (fC (.int 4)) ae)))) (fC (.int 0))))) (kZ 7 [0,1,6,8] (aC (aa (f2 nE (ab 8) (ab 6)) (aa (f2 lL (ab 8) (ab 6)) (aa (f2 aA (fC (.int 1)) (ah 3 ak (aa (ab 0) (aa (f2 aA (f2 aA (ab 1) (fC (.int 12))) (ab 8)) (aa (fC (.int 2)) ae))))) ae))))) gN)) (av (az 9 [0,1,5,7] (ah 3 bO (aa (ab 0) (aa (f2 aA (ab 1) (fC (.int 24))) (aa (cx (aq 1 [7] (bj (aa (ab 5) ae)) (fG 0) (fun _=>some true) (cx (aq 1 [0] (aO (ab 1)) (fG 0) (fB (f2 bQ (f2 au (ab 0) (fC (.int 0))) (ab 1))) (f2 au (ab 0) (fC (.int 1))))))) ae))))) (av (az 10 [0,1,6,7] (ah 3 bO (aa (ab 0) (aa (f2 aA (ab 1) (fC (.int 40))) (aa (cx (aq 1 [7] (bj (aa (ab 6) ae)) (fG 0) (fun _=>some true) (cx (aq 1 [0] (aO (ab 1)) (fG 0) (fB (f2 bQ (f2 au (ab 0) (fC (.int 1))) (ab 1))) (f2 au (ab 0) (fC (.int 0))))))) ae))))) (av (az 11 [0,1,8,9] (aU bo (aa (cx (aq 2 [0,1] (bx (aa (ab 9) ae)) (gw 0 1) (fun _=>some true) (aC (aa (ah 3 ak (aa (ab 2) (aa (f2 aA (f2 aA (ab 3) (fC (.int 56))) (ab 0)) (aa (fC (.int 4)) ae)))) (aa (ab 1) ae))))) ae))) (av (az 4 [0,1,8,10] (aU bo (aa (cx (aq 2 [0,1] (bx (aa (ab 10) ae)) (gw 0 1) (fun _=>some true) (aC (aa (ah 3 ak (aa (ab 2) (aa (f2 aA (f2 aA (ab 3) (fC (.int 60))) (ab 0)) (aa (fC (.int 4)) ae)))) (aa (ab 1) ae))))) ae))) (aJ (aC (aa (ab 11) (aa (ab 4) (aa (aU bo (aa (ab 7) ae)) ae))))))))))))))
def cC:List D->Option D:=ba eE 12
abbrev Eb:List Str:=["world","plan","side","place"]
def oJ:aj->Option Out:=(aJ (aU md (aa (cx (aq 2 [2,3] (dz (aa (f2 au (ab 0) (fC (.int 2))) (aa (ab 1) ae))) (gw 0 1) (fB (f2 bQ (f2 au (ab 0) (ab 2)) (ab 3))) (ab 1))) ae)))
def bP:List D->Option D:=ba oJ 4
abbrev o9:List Str:=["world","plan","side"]
def fO:aj->Option Out:=(aJ (aU mC (aa (cx (aq 2 [0,1,2] (bx (aa (f2 au (ab 0) (ab 2)) ae)) (gw 0 1) (fun _=>some true) (f2 Cw (ah 4 bP (aa (ab 2) (aa (ab 3) (aa (ab 4) (aa (ab 0) ae))))) (f2 au (ab 1) (fC (.int 0)))))) ae)))
def cJ:List D->Option D:=ba fO 3
abbrev Dx:List Str:=["world","thing","ways"]
def lr:aj->Option Out:=(av (az 2 [0] (f2 au (ab 0) (fC (.int 2)))) (av (hC (b8 (fB (ah 3 bc (aa (ab 1) (aa (aU bq (aa (ab 2) ae)) (aa (aU bq (aa (ab 2) ae)) ae)))))) (aJ (fC (.bool false))) gN) (av (hC (b8 (fB (aU mC (aa (cx (aq 2 [] (dz (aa (ab 2) (aa (ab 1) ae))) (gw 0 1) (fun _=>some true) (ah 3 aS (aa (ab 1) (aa (fC (.int 0)) (aa (f2 au (ab 0) (fC (.int 2))) ae)))))) ae)))) (aJ (fC (.bool false))) gN) (aJ (jZ (ah 3 cJ (aa (ab 0) (aa (ab 1) (aa (fC (.int 0)) ae)))) (ah 3 cJ (aa (ab 0) (aa (ab 1) (aa (fC (.int 1)) ae)))))))))
def eQ:List D->Option D:=ba lr 3
abbrev u4:List Str:=["world","plan"]
def eF:aj->Option Out:=(av (iX (ah 1 bh (aa (ab 0) ae))) (hC (b8 (fB (ah 2 eQ (aa (ab 0) (aa (ab 1) ae))))) Np gN))
def bH:List D->Option D:=ba eF 2
abbrev rK:List Str:=["world","ways"]
def eh:aj->Option Out:=(av (az 1 [0] (f2 au (ab 0) (fC (.int 2)))) (aJ (cx (qk [1] (aa (aU bq (aa (ab 1) ae)) ae) (aC (aa (f2 au (f2 au (ab 1) (ab 0)) (fC (.int 1))) (aa (f2 au (f2 au (ab 1) (ab 0)) (fC (.int 0))) ae)))))))
def aY:List D->Option D:=ba eh 2
abbrev ED:List Str:=["world","ways"]
def mH:aj->Option Out:=(av (iX (ah 1 bh (aa (ab 0) ae))) (av (aM 1 [0] (aq 1 [0] (aO (ah 1 aY (aa (ab 0) ae))) (fG 0) (fun _=>some true) (f2 au (f2 au (ab 1) (fC (.int 2))) (ab 0)))) (aJ (aC (aa (f2 au (ab 0) (fC (.int 1))) (aa (f2 au (ab 0) (fC (.int 0))) (aa (aU bo (aa (cx (aq 3 [] (aO (ab 1)) (HV 0 1 2) (fun _=>some true) (aC (aa (ab 1) (aa (ab 0) (aa (ab 2) ae)))))) ae)) ae)))))))
def j8:List D->Option D:=ba mH 2
abbrev tj:List Str:=["world","plan"]
def fj:aj->Option Out:=(av (iX (ah 2 bH (aa (ab 0) (aa (ab 1) ae)))) (aJ (aU bo (aa (cx (aq 1 [1] (aO (ah 1 aY (aa (ab 0) ae))) (fG 0) (fun _=>some true) (f2 au (ab 1) (ab 0)))) ae))))
def fg:List D->Option D:=ba fj 2
abbrev LC:List Str:=["world","plan","giver"]
def vE:aj->Option Out:=(av (iX (ah 2 bH (aa (ab 0) (aa (ab 1) ae)))) (av (iX (ah 2 aX (aa (ab 2) (aa (aU bq (aa (f2 au (ab 0) (fC (.int 0))) ae)) ae)))) (aJ (ah 4 bP (aa (ab 0) (aa (ab 1) (aa (fC (.int 0)) (aa (ab 2) ae))))))))
def oE:List D->Option D:=ba vE 3
abbrev Ig:List Str:=["world","plan","taker"]
def pN:aj->Option Out:=(av (iX (ah 2 bH (aa (ab 0) (aa (ab 1) ae)))) (av (iX (ah 2 aX (aa (ab 2) (aa (aU bq (aa (f2 au (ab 0) (fC (.int 1))) ae)) ae)))) (aJ (ah 4 bP (aa (ab 0) (aa (ab 1) (aa (fC (.int 1)) (aa (ab 2) ae))))))))
def lI:List D->Option D:=ba pN 3
abbrev wo:List Str:=["world","plan","side","way","place","own","less_liked"]
def gD:aj->Option Out:=(av (az 4 [0,2,3] (f2 au (f2 au (f2 au (ab 0) (fC (.int 2))) (ab 3)) (ab 2))) (av (hC (fB (f2 Ey (ah 4 bP (aa (ab 0) (aa (ab 1) (aa (ab 2) (aa (ab 4) ae))))) (f2 au (f2 au (f2 au (ab 0) (ab 2)) (ab 4)) (fC (.int 0))))) (aJ (fC (.bool true))) gN) (av (az 5 [0,2,4] (ah 3 bT (aa (ab 0) (aa (ab 2) (aa (ab 4) ae))))) (av (az 6 [3,5] (oM je (ab 5) (C7 (f2 aA (f2 pd (ab 5) (ab 3)) (fC (.int 1)))) nW)) (aJ (aU Rf.He (aa (cx (aq 1 [1] (aO (ab 6)) (fG 0) (fun _=>some true) (f2 zz (f2 au (ab 1) (ab 0)) (fC (.int 0))))) ae)))))))
def cG:List D->Option D:=ba gD 7
abbrev BA:List Str:=["world","plan","way"]
def jB:aj->Option Out:=(av (hC (fB (f2 bQ (f2 au (ab 1) (ab 2)) (f2 au (f2 au (f2 au (ab 0) (fC (.int 2))) (ab 2)) (fC (.int 2))))) (aJ (fC (.str "full"))) gN) (av (hC (b8 (fB (ah 4 cG (aa (ab 0) (aa (ab 1) (aa (fC (.int 0)) (aa (ab 2) ae))))))) (aJ (fC (.str "giver"))) gN) (av (hC (b8 (fB (ah 4 cG (aa (ab 0) (aa (ab 1) (aa (fC (.int 1)) (aa (ab 2) ae))))))) (aJ (fC (.str "taker"))) gN) (aJ (fC .none)))))
def eM:List D->Option D:=ba jB 3
abbrev pj:List Str:=["world","plan","way"]
def dH:aj->Option Out:=(av (cM [1] (bj (aa (aU bq (aa (ab 1) ae)) ae)) (lA 2) (hC (fB (f2 sk (ah 3 eM (aa (ab 0) (aa (ab 1) (aa (ab 2) ae)))) (fC .none))) (aJ (ab 2)) gN)) (aJ (fC .none)))
def dM:List D->Option D:=ba dH 3
abbrev Ah:List Str:=["world","plan"]
def jq:aj->Option Out:=(aJ (f2 sk (ah 2 dM (aa (ab 0) (aa (ab 1) ae))) (fC .none)))
def jM:List D->Option D:=ba jq 2
abbrev sZ:List Str:=["world","other"]
def eX:aj->Option Out:=(av (az 1 [0] (ah 1 j8 (aa (ab 0) ae))) (aJ (ah 2 fg (aa (ab 1) (aa (ah 1 bN (aa (ab 1) ae)) ae)))))
def dF:List D->Option D:=ba eX 2
abbrev w6:List Str:=["_law_world_here","_law_plan_here","_law_side","_law_place"]
def k6:aj->Option Out:=(aJ (aU md (aa (cx (aq 2 [2,3] (dz (aa (ab 1) (aa (f2 au (ab 0) (fC (.int 2))) ae))) (gw 0 1) (fB (f2 bQ (f2 au (ab 1) (ab 2)) (ab 3))) (ab 0))) ae)))
def cT:List D->Option D:=ba k6 4
abbrev xn:List Str:=["_law_world_here","_law_plan_here","_law_side","_law_place","_law_row"]
def ik:aj->Option Out:=(av (cM [] (bj (aa (fC (.int 2)) ae)) (lA 2) (cM [0,2] (bx (aa (f2 au (ab 0) (ab 2)) ae)) (dZ 3 4) (hC (fB (f2 zz (ah 4 cT (aa (ab 0) (aa (ab 1) (aa (ab 2) (aa (ab 3) ae))))) (f2 au (ab 4) (fC (.int 0))))) (aJ (fC (.bool false))) gN))) (aJ (fC (.bool true))))
def cR:List D->Option D:=ba ik 5
abbrev xR:List Str:=["_law_script","_law_at","_law_world_here","_law_found","_law_k","_law_way","_law_more","_law_fit"]
def ie:aj->Option Out:=(av (az 3 [] (aC ae)) (av (cM [2] (bx (aa (f2 au (ab 2) (fC (.int 2))) ae)) (dZ 4 5) (av (az 6 [0,1,3,4,5] (f2 aA (ab 3) (aC (aa (ah 3 ak (aa (ab 0) (aa (f2 aA (ab 1) (ab 4)) (aa (f2 aA (f2 au (ab 5) (fC (.int 2))) (fC (.int 1))) ae)))) ae)))) (av (az 7 [2,6] (ah 2 cR (aa (ab 2) (aa (f2 aA (ab 6) (f2 ej (aC (aa (fC (.int 0)) ae)) (f2 Dl.gP (aU bq (aa (f2 au (ab 2) (fC (.int 2))) ae)) (aU bq (aa (ab 6) ae))))) ae)))) (az 3 [3,6,7] (Ft (fB (ab 7)) (ab 6) (f2 aA (ab 3) (aC (aa (fC (.int 0)) ae)))))))) (aJ (ab 3))))
def ix:List D->Option D:=ba ie 8
abbrev tK:List Str:=["world","side","place"]
def dv:aj->Option Out:=(av (iX (ah 1 gG (aa (ab 1) ae))) (iX (ah 2 aX (aa (ab 2) (aa (aU bq (aa (f2 au (ab 0) (ab 1)) ae)) ae)))))
def eZ:List D->Option D:=ba dv 3
abbrev Do:List Str:=["one","other"]
def nN:aj->Option Out:=(aJ (aU bo (aa (cx (aq 2 [] (dz (aa (ab 0) (aa (ab 1) ae))) (gw 0 1) (fun _=>some true) (aU DM (aa (ab 0) (aa (ab 1) ae))))) ae)))
def eT:List D->Option D:=ba nN 2
abbrev wb:List Str:=["world","side","place","numbers"]
def jO:aj->Option Out:=(aJ (aU bo (aa (cx (aq 1 [3] (aO (ah 3 bT (aa (ab 0) (aa (ab 1) (aa (ab 2) ae))))) (fG 0) (fun _=>some true) (f2 au (ab 1) (ab 0)))) ae)))
def gz:List D->Option D:=ba jO 4
abbrev uK:List Str:=["world","many","way"]
def eA:aj->Option Out:=(av (az 1 [] (fC (.int 1))) (av (cM [0] (aO (f2 au (ab 0) (fC (.int 2)))) (lA 2) (az 1 [1,2] (f2 ej (ab 1) (f2 aA (f2 au (ab 2) (fC (.int 2))) (fC (.int 1)))))) (hC (fB (f2 zz (ab 1) (fC (.int 3000)))) Np gN)))
def gE:List D->Option D:=ba eA 3
abbrev pG:List Str:=["ways","found","way","longer","begun"]
def dN:aj->Option Out:=(av (aM 1 [] (eV (aa (aC ae) ae))) (av (cM [0] (aO (ab 0)) (lA 2) (av (aM 3 [] (eV ae)) (av (cM [1] (aO (ab 1)) (lA 4) (v8 3 [2,4] (aq 1 [4] (bj (aa (f2 aA (f2 au (ab 2) (fC (.int 2))) (fC (.int 1))) ae)) (fG 0) (fun _=>some true) (f2 aA (ab 1) (aC (aa (ab 0) ae)))))) (az 1 [3] (ab 3))))) (aJ (ab 1))))
def dI:List D->Option D:=ba dN 5
abbrev yS:List Str:=["world"]
def ir:aj->Option Out:=(av (iX (ah 1 bh (aa (ab 0) ae))) (av (iX (ah 1 gE (aa (ab 0) ae))) (aJ (cx (aq 1 [0] (aO (ah 1 dI (aa (f2 au (ab 0) (fC (.int 2))) ae))) (fG 0) (fB (ah 2 eQ (aa (ab 1) (aa (ab 0) ae)))) (ab 0))))))
def iw:List D->Option D:=ba ir 1
abbrev zm:List Str:=["world"]
def ib:aj->Option Out:=(aJ (cx (aq 1 [0] (aO (ah 1 iw (aa (ab 0) ae))) (fG 0) (fB (ah 2 jM (aa (ab 1) (aa (ab 0) ae)))) (ab 0))))
def ij:List D->Option D:=ba ib 1
abbrev Mn:List Str:=["world","side","place","plan"]
def wq:aj->Option Out:=(av (iX (ah 2 bH (aa (ab 0) (aa (ab 3) ae)))) (av (iX (ah 3 eZ (aa (ab 0) (aa (ab 1) (aa (ab 2) ae))))) (aJ (ah 4 gz (aa (ab 0) (aa (ab 1) (aa (ab 2) (aa (ab 3) ae))))))))
def eO:List D->Option D:=ba wq 4
abbrev uk:List Str:=["_law_script","_law_world_here","_law_plan_here","_law_side","_law_told","_law_place","_law_row","_law_own","_law_other","_law_many","_law_rows","_law_best","_law_ranks","_law_more"]
def lg:aj->Option Out:=(av (az 1 [0] (ah 3 cC (aa (ab 0) (aa (fC (.int 0)) (aa (fC (.int 4)) ae))))) (av (az 2 [0,1] (ah 3 ix (aa (ab 0) (aa (fC (.int 70)) (aa (ab 1) ae))))) (av (cM [] (bj (aa (fC (.int 2)) ae)) (lA 3) (av (aM 4 [] (eV ae)) (av (cM [1,3] (bx (aa (f2 au (ab 1) (ab 3)) ae)) (dZ 5 6) (av (az 7 [1,2,3,5] (ah 4 eO (aa (ab 1) (aa (ab 3) (aa (ab 5) (aa (ab 2) ae)))))) (av (hC (qQ (fB (f2 j3 (aU bq (aa (ab 7) ae)) (aU bq (aa (f2 au (ab 6) (fC (.int 1))) ae)))) (fB (f2 j3 (aU md (aa (ab 7) ae)) (qf 3 oE lI (ab 3) (aa (ab 1) (aa (ab 2) (aa (ab 5) ae))))))) (aJ (fC (.bool false))) gN) (cM [6,7] (dz (aa (f2 au (ab 6) (fC (.int 1))) (aa (ab 7) ae))) (dZ 8 9) (kZ 4 [3,5,8,9] (aC (aa (Ft (fB (f2 bQ (ab 3) (fC (.int 0)))) (aC (aa (ab 5) (aa (ab 8) ae))) (aC (aa (ab 8) (aa (ab 5) ae)))) (aa (ab 9) ae)))))))) (hC (fB (f2 j3 (aU bo (aa (cx (aq 2 [] (aO (cx (lX kK (aa (ab 4) ae)))) (gw 0 1) (fun _=>some true) (ab 1))) ae)) (ab 2))) (aJ (fC (.bool false))) gN)))) (av (az 10 [1] (ah 1 ij (aa (ab 1) ae))) (av (az 11 [1] (aC (aa (ah 1 bN (aa (ab 1) ae)) (aa (ah 1 dF (aa (ab 1) ae)) ae)))) (av (cM [] (bj (aa (fC (.int 2)) ae)) (lA 3) (cM [1,3] (bj (aa (aU bq (aa (f2 au (ab 1) (ab 3)) ae)) ae)) (lA 5) (av (aM 12 [1,3,5,10] (aq 1 [1,3,5] (aO (ab 10)) (fG 0) (fun _=>some true) (ah 4 eO (aa (ab 1) (aa (ab 2) (aa (ab 3) (aa (ab 0) ae))))))) (av (hC (fB (f2 j3 (aU (eS dC) (aa (ab 12) ae)) (ah 4 eO (aa (ab 1) (aa (ab 3) (aa (ab 5) (aa (f2 au (ab 11) (ab 3)) ae))))))) (aJ (fC (.bool false))) gN) (hC (fB (f2 j3 (aU (eS dD) (aa (ab 12) ae)) (ah 4 eO (aa (ab 1) (aa (ab 3) (aa (ab 5) (aa (f2 au (ab 11) (f2 Dl.gP (fC (.int 1)) (ab 3))) ae))))))) (aJ (fC (.bool false))) gN))))) (av (az 13 [11] (ah 2 eT (aa (f2 au (ab 11) (fC (.int 0))) (aa (f2 au (ab 11) (fC (.int 1))) ae)))) (aJ (jZ (f2 bQ (ah 2 eT (aa (ab 13) (aa (f2 au (ab 11) (fC (.int 0))) ae))) (ab 13)) (jZ (f2 bQ (ah 2 eT (aa (ab 2) (aa (ab 2) ae))) (ab 2)) (f2 bQ (ah 2 eT (aa (f2 au (ab 11) (fC (.int 1))) (aa (f2 au (ab 11) (fC (.int 0))) ae))) (ab 13))))))))))))
def i6:List D->Option D:=ba lg 14
end Pg
namespace K42
open PySem L2 Dl PySem.Spec PyProof.Rows
open Pg
abbrev mv:Stmt:=top 9
abbrev Ax:Rf.Sg:=⟨[],[]⟩
theorem Ap:Rf.tW mv AD Ax none=some lV:=by kernel_rfl
abbrev ke:Stmt:=top 10
abbrev wY:Rf.Sg:=⟨[("is_whole",3,aS)],[]⟩
theorem xu:Rf.tW ke yU wY none=some kX:=by kernel_rfl
abbrev og:Stmt:=top 11
abbrev C0:Rf.Sg:=⟨[],[]⟩
theorem Dm:Rf.tW og Da C0 none=some ow:=by kernel_rfl
abbrev kE:Stmt:=top 12
abbrev zd:Rf.Sg:=⟨[("is_number",2,bU)],[]⟩
theorem yO:Rf.tW kE wN zd none=some ki:=by kernel_rfl
abbrev qB:Stmt:=top 13
abbrev Hf:Rf.Sg:=⟨[("is_long",3,bc),("is_whole",3,aS),("are_likes",2,fJ)],[("MOST",9)]⟩
theorem F0:Rf.tW qB FY Hf none=some qw:=by kernel_rfl
abbrev qU:Stmt:=top 14
abbrev FA:Rf.Sg:=⟨[("is_long",3,bc),("is_number",2,bU),("is_whole",3,aS)],[("MOST",9)]⟩
theorem Gm:Rf.tW qU Hc FA none=some rC:=by kernel_rfl
abbrev kn:Stmt:=top 15
abbrev xB:Rf.Sg:=⟨[("is_long",3,bc),("is_end",2,fM),("is_way",3,jh)],[("MOST_PLACES",4)]⟩
theorem wX:Rf.tW kn yP xB none=some kr:=by kernel_rfl
abbrev iE:Stmt:=top 16
abbrev tm:Rf.Sg:=⟨[],[]⟩
theorem sU:Rf.tW iE su tm none=some iL:=by kernel_rfl
abbrev mi:Stmt:=top 17
abbrev A2:Rf.Sg:=⟨[("liked_pairs",1,bF),("is_long",3,bc),("are_parts",3,fI)],[]⟩
theorem AW:Rf.tW mi Ba A2 none=some gK:=by kernel_rfl
abbrev n6:Stmt:=top 18
abbrev DN:Rf.Sg:=⟨[],[]⟩
theorem DU:Rf.tW n6 Eb DN none=some oJ:=by kernel_rfl
abbrev fU:Stmt:=top 19
abbrev pq:Rf.Sg:=⟨[("through",4,bP)],[]⟩
theorem ph:Rf.tW fU o9 pq none=some fO:=by kernel_rfl
abbrev oh:Stmt:=top 20
abbrev C3:Rf.Sg:=⟨[("is_long",3,bc),("keeps_amounts",3,cJ),("is_whole",3,aS)],[]⟩
theorem Dk:Rf.tW oh Dx C3 none=some lr:=by kernel_rfl
abbrev iQ:Stmt:=top 21
abbrev sM:Rf.Sg:=⟨[("is_world",1,cA)],[]⟩
theorem sg:Rf.tW iQ tE sM none=some dE:=by kernel_rfl
abbrev jA:Stmt:=top 22
abbrev wC:Rf.Sg:=⟨[("check_world",1,bh),("is_plan",2,eQ)],[]⟩
theorem u6:Rf.tW jA u4 wC none=some eF:=by kernel_rfl
abbrev iK:Stmt:=top 23
abbrev tI:Rf.Sg:=⟨[("is_whole",3,aS)],[]⟩
theorem tH:Rf.tW iK tJ tI none=some dw:=by kernel_rfl
abbrev g9:Stmt:=top 24
abbrev rV:Rf.Sg:=⟨[("check_whole",3,fv)],[]⟩
theorem qC:Rf.tW g9 qG rV none=some cW:=by kernel_rfl
abbrev jv:Stmt:=top 25
abbrev u3:Rf.Sg:=⟨[("check_number",2,aX)],[]⟩
theorem wI:Rf.tW jv vT u3 none=some d6:=by kernel_rfl
abbrev iR:Stmt:=top 26
abbrev sH:Rf.Sg:=⟨[("check_side",1,gG),("check_number",2,aX)],[]⟩
theorem se:Rf.tW iR tK sH none=some dv:=by kernel_rfl
abbrev l6:Stmt:=top 27
abbrev AH:Rf.Sg:=⟨[],[]⟩
theorem Ai:Rf.tW l6 As AH none=some lU:=by kernel_rfl
abbrev gZ:Stmt:=top 28
abbrev rD:Rf.Sg:=⟨[],[]⟩
theorem rf:Rf.tW gZ rK rD (some "turned_order.<locals>.<lambda>")=some eh:=by kernel_rfl
abbrev qF:Stmt:=top 29
abbrev Gx:Rf.Sg:=⟨[("check_world",1,bh),("turned_order",1,aY)],[]⟩
theorem Ha:Rf.tW qF ED Gx none=some mH:=by kernel_rfl
abbrev iP:Stmt:=top 30
abbrev sf:Rf.Sg:=⟨[("check_plan",2,bH),("turned_order",1,aY)],[]⟩
theorem sy:Rf.tW iP tj sf none=some fj:=by kernel_rfl
abbrev AQ:Stmt:=top 32
abbrev LR:Rf.Sg:=⟨[("check_plan",2,bH),("check_number",2,aX),("through",4,bP)],[]⟩
theorem MB:Rf.tW AQ LC LR none=some vE:=by kernel_rfl
abbrev uW:Stmt:=top 33
abbrev Il:Rf.Sg:=⟨[("check_plan",2,bH),("check_number",2,aX),("through",4,bP)],[]⟩
theorem IX:Rf.tW uW Ig Il none=some pN:=by kernel_rfl
abbrev oG:Stmt:=top 34
abbrev DH:Rf.Sg:=⟨[],[]⟩
theorem Ei:Rf.tW oG D0 DH (some "ways_of.<locals>.<lambda>")=some k8:=by kernel_rfl
abbrev kq:Stmt:=top 35
abbrev zi:Rf.Sg:=⟨[("ways_of",3,bT)],[]⟩
theorem yo:Rf.tW kq xF zi none=some iy:=by kernel_rfl
abbrev jo:Stmt:=top 36
abbrev vZ:Rf.Sg:=⟨[("ways_of",3,bT),("through",4,bP)],[]⟩
theorem wD:Rf.tW jo wo vZ none=some gD:=by kernel_rfl
abbrev l8:Stmt:=top 37
abbrev Ab:Rf.Sg:=⟨[("wants_more",4,cG)],[]⟩
theorem Bj:Rf.tW l8 BA Ab none=some jB:=by kernel_rfl
abbrev fT:Stmt:=top 38
abbrev o8:Rf.Sg:=⟨[("why_kept",3,eM)],[]⟩
theorem pE:Rf.tW fT pj o8 none=some dH:=by kernel_rfl
abbrev mh:Stmt:=top 39
abbrev AJ:Rf.Sg:=⟨[("first_leaving",2,dM)],[]⟩
theorem Au:Rf.tW mh Ah AJ none=some jq:=by kernel_rfl
abbrev fS:Stmt:=top 41
abbrev pk:Rf.Sg:=⟨[("chosen_by",4,dW)],[]⟩
theorem pH:Rf.tW fS pf pk none=some dJ:=by kernel_rfl
abbrev rz:Stmt:=top 42
abbrev FU:Rf.Sg:=⟨[],[]⟩
theorem Gy:Rf.tW rz Fo FU none=some rG:=by kernel_rfl
abbrev oz:Stmt:=top 43
abbrev Eg:Rf.Sg:=⟨[("replaced",3,js)],[]⟩
theorem Di:Rf.tW oz Dg Eg none=some nZ:=by kernel_rfl
abbrev ou:Stmt:=top 44
abbrev C6:Rf.Sg:=⟨[("chosen_by_all",3,aZ)],[]⟩
theorem D1:Rf.tW ou Dw C6 none=some ll:=by kernel_rfl
abbrev wa:Stmt:=top 45
abbrev JI:Rf.Sg:=⟨[("limits",1,fH),("refused",2,dU),("lowered",3,cm)],[]⟩
theorem JZ:Rf.tW wa ID JI none=some pV:=by kernel_rfl
abbrev qg:Stmt:=top 46
abbrev FO:Rf.Sg:=⟨[("limits",1,fH),("lowered",3,cm)],[]⟩
theorem E5:Rf.tW qg FW FO none=some mY:=by kernel_rfl
abbrev iO:Stmt:=top 47
abbrev sD:Rf.Sg:=⟨[("check_world",1,bh),("chosen_by_all",3,aZ),("capped",2,ny),("steps",1,pL)],[]⟩
theorem sP:Rf.tW iO tM sD none=some fu:=by kernel_rfl
abbrev iN:Stmt:=top 48
abbrev r8:Rf.Sg:=⟨[("turned",1,j8),("turned_plan",2,fg),("givers_best",1,bN)],[]⟩
theorem sS:Rf.tW iN sZ r8 none=some eX:=by kernel_rfl
abbrev n0:Stmt:=top 50
abbrev DK:Rf.Sg:=⟨[],[]⟩
theorem Eh:Rf.tW n0 Do DK none=some nN:=by kernel_rfl
abbrev jC:Stmt:=top 51
abbrev uJ:Rf.Sg:=⟨[("ways_of",3,bT)],[]⟩
theorem uT:Rf.tW jC wb uJ none=some jO:=by kernel_rfl
abbrev A7:Stmt:=top 52
abbrev M6:Rf.Sg:=⟨[("check_plan",2,bH),("check_place",3,eZ),("on_ways_of",4,gz)],[]⟩
theorem Nc:Rf.tW A7 Mn M6 none=some wq:=by kernel_rfl
abbrev jJ:Stmt:=top 55
abbrev wt:Rf.Sg:=⟨[],[("MOST_LISTED",3000)]⟩
theorem vK:Rf.tW jJ uK wt none=some eA:=by kernel_rfl
abbrev fP:Stmt:=top 56
abbrev pD:Rf.Sg:=⟨[],[]⟩
theorem pC:Rf.tW fP pG pD none=some dN:=by kernel_rfl
abbrev kH:Stmt:=top 57
abbrev xa:Rf.Sg:=⟨[("check_world",1,bh),("check_many",1,gE),("within_limits",1,dI),("is_plan",2,eQ)],[]⟩
theorem xU:Rf.tW kH yS xa none=some ir:=by kernel_rfl
abbrev kM:Stmt:=top 58
abbrev yZ:Rf.Sg:=⟨[("all_plans",1,iw),("is_still",2,jM)],[]⟩
theorem yR:Rf.tW kM zm yZ none=some ib:=by kernel_rfl
abbrev j7:Stmt:=top 60
abbrev xk:Rf.Sg:=⟨[],[]⟩
theorem xG:Rf.tW j7 xJ xk none=some iA:=by kernel_rfl
abbrev jS:Stmt:=top 61
abbrev uS:Rf.Sg:=⟨[("_law_cell",2,dS)],[]⟩
theorem vv:Rf.tW jS ve uS none=some jR:=by kernel_rfl
abbrev iD:Stmt:=top 62
abbrev sL:Rf.Sg:=⟨[("_law_drawn",3,ak)],[]⟩
theorem sR:Rf.tW iD sx sL none=some iH:=by kernel_rfl
abbrev jy:Stmt:=top 63
abbrev vo:Rf.Sg:=⟨[("_law_orders",3,bO),("_law_drawn",3,ak)],[]⟩
theorem vP:Rf.tW jy vy vo none=some eE:=by kernel_rfl
abbrev kc:Stmt:=top 64
abbrev yn:Rf.Sg:=⟨[],[]⟩
theorem xA:Rf.tW kc w6 yn none=some k6:=by kernel_rfl
abbrev ka:Stmt:=top 65
abbrev xM:Rf.Sg:=⟨[("_law_used",4,cT)],[]⟩
theorem xP:Rf.tW ka xn xM none=some ik:=by kernel_rfl
abbrev m9:Stmt:=top 66
abbrev kP:Stmt:=top 67
abbrev zg:Rf.Sg:=⟨[("_law_fits",2,cR),("_law_drawn",3,ak)],[]⟩
theorem yx:Rf.tW kP xR zg none=some ie:=by kernel_rfl
abbrev Hr:Stmt:=top 68
abbrev Nv:Rf.Sg:=⟨[("_law_world",3,cC),("_law_plan",3,ix),("all_rests",1,ij),("greater",2,eT),("givers_best",1,bN),("takers_best",1,dF),("rank",4,eO),("sent",3,oE),("taken",3,lI)],[]⟩
theorem Om:Rf.tW Hr uk Nv none=some lg:=by kernel_rfl
structure NY(K:W.Frag):Prop where
 c0:aF K "is_whole" mv ["thing","least","most"]
 c1:aF K "is_number" ke ["thing","many"]
 c2:aF K "is_long" og ["thing","least","most"]
 c3:aF K "are_likes" kE ["thing","many"]
 c4:aF K "is_end" qB ["thing","many"]
 c5:aF K "is_way" qU ["thing","givers","takers"]
 c6:aF K "are_parts" kn ["givers","takers","ways"]
 c7:aF K "liked_pairs" iE ["places"]
 c8:aF K "is_world" mi ["thing"]
 c9:aF K "through" n6 ["world","plan","side","place"]
 c10:aF K "keeps_amounts" fU ["world","plan","side"]
 c11:aF K "is_plan" oh ["world","thing"]
 c12:aF K "check_world" iQ ["world"]
 c13:aF K "check_plan" jA ["world","plan"]
 c14:aF K "check_whole" iK ["thing","least","most"]
 c15:aF K "check_number" g9 ["thing","many"]
 c16:aF K "check_side" jv ["thing"]
 c17:aF K "check_place" iR ["world","side","place"]
 c18:aF K "replaced" l6 ["parts","number","part"]
 c19:o3 K "turned_order" gZ ["world"]
 c20:aF K "turned" qF ["world"]
 c21:aF K "turned_plan" iP ["world","plan"]
 c22:aF K "sent" AQ ["world","plan","giver"]
 c23:aF K "taken" uW ["world","plan","taker"]
 c24:o3 K "ways_of" oG ["world","side","place"]
 c25:aF K "chosen_by" kq ["world","side","place","offers"]
 c26:aF K "wants_more" jo ["world","plan","side","way"]
 c27:aF K "why_kept" l8 ["world","plan","way"]
 c28:aF K "first_leaving" fT ["world","plan"]
 c29:aF K "is_still" mh ["world","plan"]
 c30:aF K "chosen_by_all" fS ["world","side","offers"]
 c31:aF K "limits" rz ["world"]
 c32:aF K "lowered" oz ["caps","way","cap"]
 c33:aF K "refused" ou ["world","caps"]
 c34:aF K "steps" wa ["world"]
 c35:aF K "capped" qg ["world","rows"]
 c36:aF K "givers_best" iO ["world"]
 c37:aF K "takers_best" iN ["world"]
 c38:aF K "greater" n0 ["one","other"]
 c39:aF K "on_ways_of" jC ["world","side","place","numbers"]
 c40:aF K "rank" A7 ["world","side","place","plan"]
 c41:aF K "check_many" jJ ["world"]
 c42:aF K "within_limits" fP ["ways"]
 c43:aF K "all_plans" kH ["world"]
 c44:aF K "all_rests" kM ["world"]
 c45:aF K "_law_cell" j7 ["_law_script","_law_k"]
 c46:aF K "_law_drawn" jS ["_law_script","_law_k","_law_many"]
 c47:aF K "_law_orders" iD ["_law_script","_law_at","_law_rows"]
 c48:aF K "_law_world" jy ["_law_script","_law_at","_law_most"]
 c49:aF K "_law_used" kc ["_law_world_here","_law_plan_here","_law_side","_law_place"]
 c50:aF K "_law_fits" ka ["_law_world_here","_law_plan_here"]
 c51:aF K "_law_plans" m9 ["_law_world_here"]
 c52:aF K "_law_plan" kP ["_law_script","_law_at","_law_world_here"]
 c53:aF K "law" Hr ["_law_script"]
 i_MOST_PLACES:∃t,W.nsIn K mainGlobals "MOST_PLACES"=some (some (.int 4 t))
 i_MOST:∃t,W.nsIn K mainGlobals "MOST"=some (some (.int 9 t))
 i_MOST_LISTED:∃t,W.nsIn K mainGlobals "MOST_LISTED"=some (some (.int 3000 t))
 b:∀x∈cU,W.nsIn K mainGlobals x=some none
structure bI(K:W.Frag)(mg:Str->Option Value):Prop where
 c0:bE K mg "is_whole" mv ["thing","least","most"]
 c1:bE K mg "is_number" ke ["thing","many"]
 c2:bE K mg "is_long" og ["thing","least","most"]
 c3:bE K mg "are_likes" kE ["thing","many"]
 c4:bE K mg "is_end" qB ["thing","many"]
 c5:bE K mg "is_way" qU ["thing","givers","takers"]
 c6:bE K mg "are_parts" kn ["givers","takers","ways"]
 c7:bE K mg "liked_pairs" iE ["places"]
 c8:bE K mg "is_world" mi ["thing"]
 c9:bE K mg "through" n6 ["world","plan","side","place"]
 c10:bE K mg "keeps_amounts" fU ["world","plan","side"]
 c11:bE K mg "is_plan" oh ["world","thing"]
 c12:bE K mg "check_world" iQ ["world"]
 c13:bE K mg "check_plan" jA ["world","plan"]
 c14:bE K mg "check_whole" iK ["thing","least","most"]
 c15:bE K mg "check_number" g9 ["thing","many"]
 c16:bE K mg "check_side" jv ["thing"]
 c17:bE K mg "check_place" iR ["world","side","place"]
 c18:bE K mg "replaced" l6 ["parts","number","part"]
 c19:Gw K mg "turned_order" gZ ["world"]
 c20:bE K mg "turned" qF ["world"]
 c21:bE K mg "turned_plan" iP ["world","plan"]
 c22:bE K mg "sent" AQ ["world","plan","giver"]
 c23:bE K mg "taken" uW ["world","plan","taker"]
 c24:Gw K mg "ways_of" oG ["world","side","place"]
 c25:bE K mg "chosen_by" kq ["world","side","place","offers"]
 c26:bE K mg "wants_more" jo ["world","plan","side","way"]
 c27:bE K mg "why_kept" l8 ["world","plan","way"]
 c28:bE K mg "first_leaving" fT ["world","plan"]
 c29:bE K mg "is_still" mh ["world","plan"]
 c30:bE K mg "chosen_by_all" fS ["world","side","offers"]
 c31:bE K mg "limits" rz ["world"]
 c32:bE K mg "lowered" oz ["caps","way","cap"]
 c33:bE K mg "refused" ou ["world","caps"]
 c34:bE K mg "steps" wa ["world"]
 c35:bE K mg "capped" qg ["world","rows"]
 c36:bE K mg "givers_best" iO ["world"]
 c37:bE K mg "takers_best" iN ["world"]
 c38:bE K mg "greater" n0 ["one","other"]
 c39:bE K mg "on_ways_of" jC ["world","side","place","numbers"]
 c40:bE K mg "rank" A7 ["world","side","place","plan"]
 c41:bE K mg "check_many" jJ ["world"]
 c42:bE K mg "within_limits" fP ["ways"]
 c43:bE K mg "all_plans" kH ["world"]
 c44:bE K mg "all_rests" kM ["world"]
 c45:bE K mg "_law_cell" j7 ["_law_script","_law_k"]
 c46:bE K mg "_law_drawn" jS ["_law_script","_law_k","_law_many"]
 c47:bE K mg "_law_orders" iD ["_law_script","_law_at","_law_rows"]
 c48:bE K mg "_law_world" jy ["_law_script","_law_at","_law_most"]
 c49:bE K mg "_law_used" kc ["_law_world_here","_law_plan_here","_law_side","_law_place"]
 c50:bE K mg "_law_fits" ka ["_law_world_here","_law_plan_here"]
 c51:bE K mg "_law_plans" m9 ["_law_world_here"]
 c52:bE K mg "_law_plan" kP ["_law_script","_law_at","_law_world_here"]
 c53:bE K mg "law" Hr ["_law_script"]
 i_MOST_PLACES:∃t,mg "MOST_PLACES"=some (.int 4 t)
 i_MOST:∃t,mg "MOST"=some (.int 9 t)
 i_MOST_LISTED:∃t,mg "MOST_LISTED"=some (.int 3000 t)
 b:∀x∈cU,mg x=none
theorem NY.defs{K:W.Frag}{h:Heap}{mg:Str->Option Value}(I:NY K)(X:K.In h)(G:h.Ns mainGlobals mg):bI K mg :=
 ⟨I.c0.mg X G,I.c1.mg X G,I.c2.mg X G,I.c3.mg X G,I.c4.mg X G,I.c5.mg X G,I.c6.mg X G,I.c7.mg X G,I.c8.mg X G,I.c9.mg X G,I.c10.mg X G,I.c11.mg X G,I.c12.mg X G,I.c13.mg X G,I.c14.mg X G,I.c15.mg X G,I.c16.mg X G,I.c17.mg X G,I.c18.mg X G,I.c19.mg X G,I.c20.mg X G,I.c21.mg X G,I.c22.mg X G,I.c23.mg X G,I.c24.mg X G,I.c25.mg X G,I.c26.mg X G,I.c27.mg X G,I.c28.mg X G,I.c29.mg X G,I.c30.mg X G,I.c31.mg X G,I.c32.mg X G,I.c33.mg X G,I.c34.mg X G,I.c35.mg X G,I.c36.mg X G,I.c37.mg X G,I.c38.mg X G,I.c39.mg X G,I.c40.mg X G,I.c41.mg X G,I.c42.mg X G,I.c43.mg X G,I.c44.mg X G,I.c45.mg X G,I.c46.mg X G,I.c47.mg X G,I.c48.mg X G,I.c49.mg X G,I.c50.mg X G,I.c51.mg X G,I.c52.mg X G,I.c53.mg X G,(let ⟨t,h⟩:=I.i_MOST_PLACES;⟨t,W.mg_of X G h⟩),(let ⟨t,h⟩:=I.i_MOST;⟨t,W.mg_of X G h⟩),(let ⟨t,h⟩:=I.i_MOST_LISTED;⟨t,W.mg_of X G h⟩),fun x hx=>W.mg_none_of X G (I.b x hx)⟩
section
variable {P:Program}{w:World}{K:W.Frag}{mg:Str->Option Value}{base:Heap}
theorem gM(D:bI K mg):dk P w K mg base 1 "is_whole" 3 aS:=Rf.f7 (j:=0) D.c0 D.b Rf.bL Rf.bJ Ap
theorem oQ(D:bI K mg):dk P w K mg base 2 "is_number" 2 bU:=Rf.f7 (j:=1) D.c1 D.b (Rf.fm (gM D) Rf.bL) Rf.bJ xu
theorem i4(D:bI K mg):dk P w K mg base 1 "is_long" 3 bc:=Rf.f7 (j:=0) D.c2 D.b Rf.bL Rf.bJ Dm
theorem za(D:bI K mg):dk P w K mg base 3 "are_likes" 2 fJ:=Rf.f7 (j:=2) D.c3 D.b (Rf.fm (oQ D) Rf.bL) Rf.bJ yO
theorem HI(D:bI K mg):dk P w K mg base 4 "is_end" 2 fM:=Rf.f7 (j:=3) D.c4 D.b (Rf.fm (i4 D) (Rf.fm (gM D) (Rf.fm (za D) Rf.bL))) (Rf.Cy D.i_MOST Rf.bJ) F0
theorem Fu(D:bI K mg):dk P w K mg base 3 "is_way" 3 jh:=Rf.f7 (j:=2) D.c5 D.b (Rf.fm (i4 D) (Rf.fm (oQ D) (Rf.fm (gM D) Rf.bL))) (Rf.Cy D.i_MOST Rf.bJ) Gm
theorem xj(D:bI K mg):dk P w K mg base 5 "are_parts" 3 fI:=Rf.f7 (j:=4) D.c6 D.b (Rf.fm (i4 D) (Rf.fm (HI D) (Rf.fm (Fu D) Rf.bL))) (Rf.Cy D.i_MOST_PLACES Rf.bJ) wX
theorem so(D:bI K mg):dk P w K mg base 1 "liked_pairs" 1 bF:=Rf.f7 (j:=0) D.c7 D.b Rf.bL Rf.bJ sU
theorem AI(D:bI K mg):dk P w K mg base 6 "is_world" 1 cA:=Rf.f7 (j:=5) D.c8 D.b (Rf.fm (so D) (Rf.fm (i4 D) (Rf.fm (xj D) Rf.bL))) Rf.bJ AW
theorem lh(D:bI K mg):dk P w K mg base 1 "through" 4 bP:=Rf.f7 (j:=0) D.c9 D.b Rf.bL Rf.bJ DU
theorem pe(D:bI K mg):dk P w K mg base 2 "keeps_amounts" 3 cJ:=Rf.f7 (j:=1) D.c10 D.b (Rf.fm (lh D) Rf.bL) Rf.bJ ph
theorem tV(D:bI K mg):dk P w K mg base 3 "is_plan" 2 eQ:=Rf.f7 (j:=2) D.c11 D.b (Rf.fm (i4 D) (Rf.fm (pe D) (Rf.fm (gM D) Rf.bL))) Rf.bJ Dk
theorem eY(D:bI K mg):dk P w K mg base 7 "check_world" 1 bh:=Rf.f7 (j:=6) D.c12 D.b (Rf.fm (AI D) Rf.bL) Rf.bJ sg
theorem gp(D:bI K mg):dk P w K mg base 8 "check_plan" 2 bH:=Rf.f7 (j:=7) D.c13 D.b (Rf.fm (eY D) (Rf.fm (tV D) Rf.bL)) Rf.bJ u6
theorem sE(D:bI K mg):dk P w K mg base 2 "check_whole" 3 fv:=Rf.f7 (j:=1) D.c14 D.b (Rf.fm (gM D) Rf.bL) Rf.bJ tH
theorem d7(D:bI K mg):dk P w K mg base 3 "check_number" 2 aX:=Rf.f7 (j:=2) D.c15 D.b (Rf.fm (sE D) Rf.bL) Rf.bJ qC
theorem vN(D:bI K mg):dk P w K mg base 4 "check_side" 1 gG:=Rf.f7 (j:=3) D.c16 D.b (Rf.fm (d7 D) Rf.bL) Rf.bJ wI
theorem sv(D:bI K mg):dk P w K mg base 5 "check_place" 3 eZ:=Rf.f7 (j:=4) D.c17 D.b (Rf.fm (vN D) (Rf.fm (d7 D) Rf.bL)) Rf.bJ se
theorem Bu(D:bI K mg):dk P w K mg base 1 "replaced" 3 js:=Rf.f7 (j:=0) D.c18 D.b Rf.bL Rf.bJ Ai
theorem kG(D:bI K mg):dk P w K mg base 4 "turned_order" 1 aY:=Rf.P4 (j:=0) D.c19 D.b Rf.bL Rf.bJ rf
theorem Hq(D:bI K mg):dk P w K mg base 8 "turned" 1 j8:=Rf.f7 (j:=7) D.c20 D.b (Rf.fm (eY D) (Rf.fm (kG D) Rf.bL)) Rf.bJ Ha
theorem sN(D:bI K mg):dk P w K mg base 9 "turned_plan" 2 fg:=Rf.f7 (j:=8) D.c21 D.b (Rf.fm (gp D) (Rf.fm (kG D) Rf.bL)) Rf.bJ sy
theorem Mx(D:bI K mg):dk P w K mg base 9 "sent" 3 oE:=Rf.f7 (j:=8) D.c22 D.b (Rf.fm (gp D) (Rf.fm (d7 D) (Rf.fm (lh D) Rf.bL))) Rf.bJ MB
theorem Ih(D:bI K mg):dk P w K mg base 9 "taken" 3 lI:=Rf.f7 (j:=8) D.c23 D.b (Rf.fm (gp D) (Rf.fm (d7 D) (Rf.fm (lh D) Rf.bL))) Rf.bJ IX
theorem nM(D:bI K mg):dk P w K mg base 4 "ways_of" 3 bT:=Rf.P4 (j:=0) D.c24 D.b Rf.bL Rf.bJ Ei
theorem zt(D:bI K mg):dk P w K mg base 5 "chosen_by" 4 dW:=Rf.f7 (j:=4) D.c25 D.b (Rf.fm (nM D) Rf.bL) Rf.bJ yo
theorem wG(D:bI K mg):dk P w K mg base 5 "wants_more" 4 cG:=Rf.f7 (j:=4) D.c26 D.b (Rf.fm (nM D) (Rf.fm (lh D) Rf.bL)) Rf.bJ wD
theorem Bo(D:bI K mg):dk P w K mg base 6 "why_kept" 3 eM:=Rf.f7 (j:=5) D.c27 D.b (Rf.fm (wG D) Rf.bL) Rf.bJ Bj
theorem pF(D:bI K mg):dk P w K mg base 7 "first_leaving" 2 dM:=Rf.f7 (j:=6) D.c28 D.b (Rf.fm (Bo D) Rf.bL) Rf.bJ pE
theorem Ar(D:bI K mg):dk P w K mg base 8 "is_still" 2 jM:=Rf.f7 (j:=7) D.c29 D.b (Rf.fm (pF D) Rf.bL) Rf.bJ Au
theorem jT(D:bI K mg):dk P w K mg base 6 "chosen_by_all" 3 aZ:=Rf.f7 (j:=5) D.c30 D.b (Rf.fm (zt D) Rf.bL) Rf.bJ pH
theorem xb(D:bI K mg):dk P w K mg base 1 "limits" 1 fH:=Rf.f7 (j:=0) D.c31 D.b Rf.bL Rf.bJ Gy
theorem uv(D:bI K mg):dk P w K mg base 2 "lowered" 3 cm:=Rf.f7 (j:=1) D.c32 D.b (Rf.fm (Bu D) Rf.bL) Rf.bJ Di
theorem DR(D:bI K mg):dk P w K mg base 7 "refused" 2 dU:=Rf.f7 (j:=6) D.c33 D.b (Rf.fm (jT D) Rf.bL) Rf.bJ D1
theorem JP(D:bI K mg):dk P w K mg base 8 "steps" 1 pL:=Rf.f7 (j:=7) D.c34 D.b (Rf.fm (xb D) (Rf.fm (DR D) (Rf.fm (uv D) Rf.bL))) Rf.bJ JZ
theorem HB(D:bI K mg):dk P w K mg base 3 "capped" 2 ny:=Rf.f7 (j:=2) D.c35 D.b (Rf.fm (xb D) (Rf.fm (uv D) Rf.bL)) Rf.bJ E5
theorem lS(D:bI K mg):dk P w K mg base 9 "givers_best" 1 bN:=Rf.f7 (j:=8) D.c36 D.b (Rf.fm (eY D) (Rf.fm (jT D) (Rf.fm (HB D) (Rf.fm (JP D) Rf.bL)))) Rf.bJ sP
theorem sr(D:bI K mg):dk P w K mg base 10 "takers_best" 1 dF:=Rf.f7 (j:=9) D.c37 D.b (Rf.fm (Hq D) (Rf.fm (sN D) (Rf.fm (lS D) Rf.bL))) Rf.bJ sS
theorem Ec(D:bI K mg):dk P w K mg base 1 "greater" 2 eT:=Rf.f7 (j:=0) D.c38 D.b Rf.bL Rf.bJ Eh
theorem uP(D:bI K mg):dk P w K mg base 5 "on_ways_of" 4 gz:=Rf.f7 (j:=4) D.c39 D.b (Rf.fm (nM D) Rf.bL) Rf.bJ uT
theorem Lj(D:bI K mg):dk P w K mg base 9 "rank" 4 eO:=Rf.f7 (j:=8) D.c40 D.b (Rf.fm (gp D) (Rf.fm (sv D) (Rf.fm (uP D) Rf.bL))) Rf.bJ Nc
theorem vp(D:bI K mg):dk P w K mg base 1 "check_many" 1 gE:=Rf.f7 (j:=0) D.c41 D.b Rf.bL (Rf.Cy D.i_MOST_LISTED Rf.bJ) vK
theorem pI(D:bI K mg):dk P w K mg base 1 "within_limits" 1 dI:=Rf.f7 (j:=0) D.c42 D.b Rf.bL Rf.bJ pC
theorem yd(D:bI K mg):dk P w K mg base 8 "all_plans" 1 iw:=Rf.f7 (j:=7) D.c43 D.b (Rf.fm (eY D) (Rf.fm (vp D) (Rf.fm (pI D) (Rf.fm (tV D) Rf.bL)))) Rf.bJ xU
theorem yV(D:bI K mg):dk P w K mg base 9 "all_rests" 1 ij:=Rf.f7 (j:=8) D.c44 D.b (Rf.fm (yd D) (Rf.fm (Ar D) Rf.bL)) Rf.bJ yR
theorem yp(D:bI K mg):dk P w K mg base 1 "_law_cell" 2 dS:=Rf.f7 (j:=0) D.c45 D.b Rf.bL Rf.bJ xG
theorem jE(D:bI K mg):dk P w K mg base 2 "_law_drawn" 3 ak:=Rf.f7 (j:=1) D.c46 D.b (Rf.fm (yp D) Rf.bL) Rf.bJ vv
theorem sC(D:bI K mg):dk P w K mg base 3 "_law_orders" 3 bO:=Rf.f7 (j:=2) D.c47 D.b (Rf.fm (jE D) Rf.bL) Rf.bJ sR
theorem vJ(D:bI K mg):dk P w K mg base 4 "_law_world" 3 cC:=Rf.f7 (j:=3) D.c48 D.b (Rf.fm (sC D) (Rf.fm (jE D) Rf.bL)) Rf.bJ vP
theorem y1(D:bI K mg):dk P w K mg base 1 "_law_used" 4 cT:=Rf.f7 (j:=0) D.c49 D.b Rf.bL Rf.bJ xA
theorem xQ(D:bI K mg):dk P w K mg base 2 "_law_fits" 2 cR:=Rf.f7 (j:=1) D.c50 D.b (Rf.fm (y1 D) Rf.bL) Rf.bJ xP
theorem yl(D:bI K mg):dk P w K mg base 3 "_law_plan" 3 ix:=Rf.f7 (j:=2) D.c52 D.b (Rf.fm (xQ D) (Rf.fm (jE D) Rf.bL)) Rf.bJ yx
end
theorem Nb{P:Program}{w:World}{K:W.Frag}{h:Heap}{mg:Str->Option Value}{fa:Addr}(X:K.In h)(G:h.Ns mainGlobals mg)(hfa:mg "law"=some (.ref fa))(I:NY K):∃fd:FuncData,(∀ (s:Shared) (v:Value),BindsTo s fd ⟨[v],[]⟩ [("_law_script",v)])/\∀base:Heap,K.In base->base.Ns mainGlobals mg->pA P w K mg base L8 11 fa fd ["_law_script"] (Li K 1 i6):=by
 have D:=I.defs X G
 obtain⟨f,fd,hm,F,hb⟩:=D.c53.ex
 rw[hfa] at hm;cases hm
 refine⟨fd,fun s v=>?_,fun base _ _=>KY F (Rf.Pj (N:=uk)) fun X hP hw hK hm' hb' C _ _ HF H=>by subst hP;subst hw;subst hK;subst hm';subst hb';exact Rf.KI (j:=10) C D.b (Rf.fm (vJ D) (Rf.fm (yl D) (Rf.fm (yV D) (Rf.fm (Ec D) (Rf.fm (lS D) (Rf.fm (sr D) (Rf.fm (Lj D) (Rf.fm (Mx D) (Rf.fm (Ih D) Rf.bL))))))))) Rf.bJ Om⟩
 obtain⟨oc,od,kV,doc,pm,an,cdv,ct,osl,rfl,lk,hcd⟩:=F.ex
 exact .of_eq rfl
theorem walk{l:W.OpenLaw}{q:Program}{loose:List Str}{XP:(Str->Option Value)->Heap->Prop}{YP:World->Heap->Prop}{d:DefRec}{K:Params->W.Frag}{ts:List Addr}(hn:l.most=some 63)(hdf:d.params.defaults=[])(hname:d.name="law")
  (hY:∀ (w:World) (h:Heap),YP w h->(K w.params).In h/\∀P∈ts,h.get? P=some (W.tabObj #[])) (ht:∀w:World,m7 (K w.params) ts=true) (hI:∀w:World,NY (K w.params)) (main:∀ns:List Int,ns.length<=63->i6 [.list (ns.map PyData.int)]=some (.bool true)) :
  W.WalkO q loose XP YP l.row.toRowW d [] (fun f vs=>PySem.call f vs) :=
 HJ (n:=63) (k:=11) (x:="_law_script") (CX:=fun _=>L8) (sp:=fun w=>Li (K w.params) 1 i6) hn (by decide) hdf ⟨rfl,by decide,by decide⟩ hY ht (fun w mg fa h KX G hmg=>Nb KX G (by rw[<- hname];exact hmg) (hI w)) (fun _ _ a ns hl hT hS=>AS hS hT (main ns hl)) fun _ _ _ _ _ z=>z
end K42
namespace Dl
open PySem L2 PySem.Spec PyProof.Rows
def xh:D->Prop|.none=>True|.bool _=>True|.int _=>True|.str x=>PyData.canLay0 (.str x)=true|_=>False
def jI(b:Nat):Nat->D->Prop
 | 0,d=>xh d
 | k+1,d=>xh d\/(∃xs,(d=.list xs\/d=.tuple xs)/\xs.length<=b/\∀x∈xs,jI b k x)
theorem jI.leaf{b k:Nat}{d:D}(h:xh d):jI b k d:=by
 cases k with
 | zero=>exact h
 | succ k=>exact .inl h
theorem jI.tup{b k:Nat}{xs:List D}(hb:xs.length<=b)(h:∀x∈xs,jI b k x):jI b (k+1) (.tuple xs):=.inr ⟨xs,.inr rfl,hb,h⟩
theorem jI.lst{b k:Nat}{xs:List D}(hb:xs.length<=b)(h:∀x∈xs,jI b k x):jI b (k+1) (.list xs):=.inr ⟨xs,.inl rfl,hb,h⟩
theorem jI.of_tup{b k:Nat}{xs:List D}(h:jI b k (.tuple xs)):∃j,k=j+1/\xs.length<=b/\∀x∈xs,jI b j x:=by
 cases k with
 | zero=>cases h
 | succ k =>
  rcases h with h|⟨ys,h|h,h1,h2⟩
  ·cases h
  ·cases h
  ·cases h;exact⟨k,rfl,h1,h2⟩
theorem jI.mono{b b':Nat}(hb:b<=b'):∀ {k k':Nat}{d:D},k<=k'->jI b k d->jI b' k' d
 | 0,k',d,_,h=>.leaf h
 | k+1,0,d,hk,h=>by omega
 | k+1,k'+1,d,hk,h=>by
  rcases h with h|⟨xs,h,h1,h2⟩
  ·exact .inl h
  ·exact .inr ⟨xs,h,yE h1 hb,fun x hx=>(h2 x hx).mono hb (by omega)⟩
theorem CT{b k:Nat}:∀ {xs:List D},(∀x∈xs,PyData.canLay0 x=true/\x.depth<=k)->PyData.canLayAll0 xs=true/\PyData.depthAll xs<=k
 | [],_=>⟨by simp[PyData.canLayAll0],by simp[PyData.depthAll]⟩
 | x::xs,h=>by
  obtain⟨a,c⟩:=CT (b:=b) (xs:=xs) fun y hy=>h y (zC _ hy)
  obtain⟨a',c'⟩:=h x zE
  exact⟨by simp[PyData.canLayAll0,a,a'],by simp[PyData.depthAll];omega⟩
theorem jI.lay{b:Nat}:∀ {k:Nat}{d:D},jI b k d->PyData.canLay0 d=true/\d.depth<=k:=by
 have lf:∀ {k:Nat}{d:D},xh d->PyData.canLay0 d=true/\d.depth<=k:=fun {k d} h=>by
  cases d<;>simp only[xh] at h<;>first|exact⟨h,by simp[PyData.depth]⟩|exact⟨by simp[PyData.canLay0],by simp[PyData.depth]⟩
 intro k
 induction k with
 | zero=>exact fun h=>lf h
 | succ k ih =>
  intro d h
  rcases h with h|⟨xs,h,h1,h2⟩
  ·exact lf h
  ·obtain⟨a,c⟩:=CT (b:=b) (xs:=xs) fun y hy=>ih (h2 y hy)
   rcases h with rfl|rfl
   ·exact⟨by simp[PyData.canLay0,a],by simp[PyData.depth];omega⟩
   ·exact⟨by simp[PyData.canLay0,a],by simp[PyData.depth];omega⟩
theorem jI.shaped{b k:Nat}{d:D}(h:jI b k d)(hk:k<=64):SeqAt.shaped d=true:=by
 obtain⟨a,c⟩:=h.lay
 simp[SeqAt.shaped,a];omega
theorem jI.noDict{b k:Nat}{d:D}(h:jI b k d):∀kv,d≠.dict kv:=by
 rintro kv rfl
 have:=h.lay.1
 simp[PyData.canLay0] at this
def oP:D->Bool|.dict _=>false|_=>true
theorem jI.nd{b k:Nat}{d:D}(h:jI b k d):oP d=true:=by
 cases d<;>first|rfl|exact absurd rfl (h.noDict _)
def P3:D->Bool|.int _=>true|.bool _=>true|_=>false
def Qa:D->Bool|.bool _=>true|_=>false
def KR:D->Bool|.tuple _=>true|_=>false
theorem kI{d:D}(h:oP d=true):wc (iJ d) "int"=some (P3 d):=by cases d<;>first|cases h;done|exact JD _ (by simp[iJ])
theorem kB{d:D}(h:oP d=true):wc (iJ d) "bool"=some (Qa d):=by cases d<;>first|cases h;done|exact Fc _ (by simp[iJ])
theorem kT{d:D}(h:oP d=true):wc (iJ d) "tuple"=some (KR d):=by cases d<;>first|cases h;done|exact kit_tuple _ (by simp[iJ])
def whole(a b:Int):D->Bool|.int i=>decide (a<=i)&&decide (i<=b)|_=>false
theorem ur{tgt:Env->D->Option Env}{te:Env->Option D}{ρ:Env}{h:D->D}:∀ {ds:List D},(∀d∈ds,∃ρ',tgt ρ d=some ρ'/\te ρ'=some (h d))->cO tgt (fun _=>some true) te ρ ds=some (ds.map h)
 | [],_=>rfl
 | d::ds,hh=>by
  obtain⟨ρ',h1,h2⟩:=hh d zE
  have ih:=ur (ds:=ds) fun y hy=>hh y (zC _ hy)
  unfold cO
  rw[h1]
  simp[h2,ih]
theorem mL{tgt:Env->D->Option Env}{tt:Env->Option Bool}{te:Env->Option D}{ρ:Env}{p:D->Bool}{h:D->D}:∀ {ds:List D},(∀d∈ds,∃ρ',tgt ρ d=some ρ'/\tt ρ'=some (p d)/\(p d=true->te ρ'=some (h d)))->cO tgt tt te ρ ds=some ((ds.filter p).map h)
 | [],_=>rfl
 | d::ds,hh=>by
  obtain⟨ρ',h1,h2,h3⟩:=hh d zE
  have ih:=mL (ds:=ds) fun y hy=>hh y (zC _ hy)
  unfold cO
  rw[h1]
  simp only[zA,h2]
  cases hp:p d with
  | true=>rw[if_pos rfl,h3 hp];simp[ih,List.filter_cons,hp]
  | false=>simp[ih,List.filter_cons,hp]
theorem oV{p:D->Bool}:∀ds:List D,boolsOf (ds.map fun d=>.bool (p d))=some (ds.map p)
 | []=>rfl
 | d::ds=>by simp[boolsOf,oV ds]
theorem mz{p:D->Bool}(ds:List D):mC [.list (ds.map fun d=>.bool (p d))]=some (.bool (ds.all p)):=by
 simp only[mC,oneOf,zA,oV,zB,List.all_map]
 rfl
theorem bD{ds:List D}(h:ds.length<=4000):small ds=some ds:=if_pos (yE h (by decide))
theorem m8{ds:List D}{i:Nat}(h:i < ds.length):vV ds (i:Nat)=some (ds.getD i .none):=by
 have:=uV (xs:=ds) (j:=i) (v:=ds[i]) (zU.mpr ⟨h,rfl⟩)
 rw[this]
 simp[List.getD,h]
theorem Cq{ds:List D}(h:0 < ds.length):vV ds 0=some (ds.getD 0 .none):=m8 (i:=0) h
theorem xS{ds:List D}(h:1 < ds.length):vV ds 1=some (ds.getD 1 .none):=m8 (i:=1) h
theorem Kp{ds:List D}(h:2 < ds.length):vV ds 2=some (ds.getD 2 .none):=m8 (i:=2) h
end Dl
namespace Wm
open PySem L2 Dl PySem.Spec PyProof.Rows Pg
theorem xK{fa fb fc:Dl.Env->Option D}{ρ:Dl.Env}{a i b:Int}(ha:fa ρ=some (.int a))(hb:fb ρ=some (.int i))(hc:fc ρ=some (.int b)):kW Cw Cw fa fb fc ρ=some (.bool (decide (a<=i)&&decide (i<=b))):=by
 simp only[kW,ha,hb,hc,zA,Cw,wF,if_true]
 by_cases h:a<=i<;>simp[h]
theorem mI(i j:Int):Dl.gP (.int i) (.int j)=some (.int (i - j)):=rfl
theorem fL(i j:Int):Dl.aA (.int i) (.int j)=some (.int (i+j)):=rfl
theorem wy(d:D):Slot.all (.val d)=some d:=rfl
theorem vd(ds:List D):Slot.all (.own ds)=some (.list ds):=rfl
theorem BV:Slot.all .non=none:=rfl
theorem BE(d:D):Slot.frz (.val d)=some d:=rfl
theorem Cn(ds:List D):Slot.frz (.own ds)=none:=rfl
theorem Cr:Slot.frz .non=none:=rfl
local macro_rules|`(tactic| simp! [$ts,*])=>`(tactic| simp only[ba,av,hC,aJ,gN,qQ,oX,b8,fB,gB,KP,ab,fC,jZ,Px,K4,NI,f1,f2,mI,fL,aa,ae,ah,aU,lX,bq,dO,oneOf,fY,bA,wy,vd,BV,BE,Cn,Cr,aO,cx,bo,aC,eV,au,  zI,List.map_nil,List.cons_append,List.nil_append,zL,List.length_nil,List.replicate,List.getElem?_cons_zero,List.getElem?_cons_succ,Option.getD_some,Option.getD_none,zA,Option.bind_none,zB,Option.map_none,Nat.reduceAdd,Nat.reduceSub,Nat.zero_add,Nat.sub_self,if_true,reduceIte,$ts,*])
theorem gO{d:D}(h:oP d=true)(a b:Int):aS [d,.int a,.int b]=some (.bool (whole a b d)):=by
 simp! [aS,lV,kI h,kB h]
 cases d<;>simp[P3,Qa,whole]
 rw[xK rfl rfl rfl]
theorem kL{d:D}(h:oP d=true)(n:Int):bU [d,.int n]=some (.bool (whole 0 (n - 1) d)):=by
 simp! [bU,kX,gO h]
def long(a b:Int):D->Bool|.tuple ds=>decide (a<=(ds.length:Int))&&decide ((ds.length:Int)<=b)|_=>false
theorem eL{d:D}(h:oP d=true)(a b:Int):bc [d,.int a,.int b]=some (.bool (long a b d)):=by
 simp! [bc,ow,kT h]
 cases d<;>simp[KR,long]
 rw[xK rfl (i:=_) rfl rfl]
def jl:D->Int|.int i=>i|_=>0
theorem gJ{a b:Int}{d:D}(h:whole a b d=true):d=.int (jl d)/\a<=jl d/\jl d<=b:=by
 cases d<;>simp[whole] at h
 exact⟨rfl,h⟩
theorem l0{a b:Int}:∀ {ls:List D},ls.all (whole a b)=true->ls=(ls.map jl).map PyData.int
 | [],_=>rfl
 | d::ls,h=>by
  rw[List.all_cons,zF] at h
  rw[zI,zI,<- (gJ h.1).1,<- l0 h.2]
def jL(n:Int):D->Bool|.tuple ls=>ls.all (whole 0 (n - 1))&&decide ((ls.map jl).Nodup)|_=>false
theorem cY(i j:Int):bQ (.int i) (.int j)=some (.bool (decide (i=j))):=by
 simp[bQ,MP,SeqAt.shaped,PyData.canLay0,PyData.depth,PyData.eqv]
 rfl
theorem xl(i j:Int):j3 (.int i) (.int j)=some (.bool (!decide (i=j))):=by
 simp[j3,Ot,SeqAt.shaped,PyData.canLay0,PyData.depth,PyData.eqv]
 rfl
theorem Ee{ls:List D}{a b:Int}(h:ls.all (whole a b)=true)(hl:ls.length<=100):f2 bQ (f1 lJ (fun _=>some (.tuple ls))) (aU bq (aa (fun _=>some (.tuple ls)) ae)) []=some (.bool (decide ((ls.map jl).Nodup))):=by
 have e:=l0 h
 have e1:lJ (.tuple ls)=some (.int (many (ls.map jl))):=by
  simp only[lJ,jH]
  conv=>lhs;rw[e]
  rw[bZ,zA,if_pos]
  rw[zD]
  exact Nat.lt_of_le_of_lt (Nat.add_le_add_right hl 1) (by decide)
 simp! [e1,cY]
 have:=AN (ls.map jl)
 rw[zD] at this
 simp only[<- this,Int.ofNat_inj,yM,PyData.bool.injEq]
theorem Ou(r:Dl.Env)(d:D):fG 0 (none::r) d=some (some d::r):=by simp[fG,isFree]
theorem cq{cs:List Nat}{fi:Dl.Env->Option (List D)}{ds:List D}{te:Dl.Env->Option D}{h:D->D}{ρ:Dl.Env}(hfi:fi ρ=some ds)(hl:ds.length<=4000)(hh:∀d∈ds,te (some d::cs.map fun j=>(ρ[j]?).getD none)=some (h d)):aq 1 cs fi (fG 0) (fun _=>some true) te ρ=some (ds.map h):=by
 simp only[aq,hfi,zA,fA,List.replicate,List.cons_append,List.nil_append]
 rw[ur (h:=h) fun d hd=>⟨_,Ou _ d,hh d hd⟩,zA,bD (by rw[zD];exact hl)]
theorem mP{cs:List Nat}{fi:Dl.Env->Option (List D)}{ds:List D}{tt:Dl.Env->Option Bool}{te:Dl.Env->Option D}{p:D->Bool}{h:D->D}{ρ:Dl.Env}(hfi:fi ρ=some ds)(hl:ds.length<=4000)
  (hp:∀d∈ds,tt (some d::cs.map fun j=>(ρ[j]?).getD none)=some (p d)) (hh:∀d∈ds,p d=true->te (some d::cs.map fun j=>(ρ[j]?).getD none)=some (h d)):aq 1 cs fi (fG 0) tt te ρ=some ((ds.filter p).map h):=by
 simp only[aq,hfi,zA,fA,List.replicate,List.cons_append,List.nil_append]
 rw[mL (p:=p) (h:=h) fun d hd=>⟨_,Ou _ d,hp d hd,hh d hd⟩,zA,bD (by rw[zD];exact yE (List.length_filter_le _ _) hl)]
theorem yi{b k:Nat}{d:D}(h:jI b k d)(hb:b<=100)(n:Int):fJ [d,.int n]=some (.bool (jL n d)):=by
 simp! [fJ,ki,kT h.nd]
 cases d<;>try (simp[KR,jL];done)
 rename_i ls
 obtain⟨j,rfl,hl,hf⟩:=h.of_tup
 have c:=cq (cs:=[1]) (fi:=aO (ab 0)) (te:=(ah 2 bU (aa (ab 0) (aa (ab 1) ae)))) (h:=fun x=>.bool (whole 0 (n - 1) x)) (ρ:=[some (.tuple ls),some (.int n)]) rfl (by omega) fun x hx=>by simp! [kL (hf x hx).nd]
 simp! [KR,Bool.not_true,Bool.false_eq_true,c,mz]
 cases e:ls.all (whole 0 (n - 1)) with
 | false=>simp[jL,e]
 | true =>
  have:=Ee e (yE hl hb)
  simp only[f2,f1,aU,aa,ae,zA,zB] at this
  simp! [jL,e,Bool.not_true,Bool.false_eq_true,Bool.true_and]
  simp only[bq,dO,oneOf,zA,fY,zB] at this
  simp! [this]
def placeOk(n:Int):D->Bool|.tuple ds=>decide (ds.length=2)&&(whole 0 9 (ds.getD 0 .none)&&jL n (ds.getD 1 .none))|_=>false
def jX(g t:Int):D->Bool|.tuple ds=>decide (ds.length=3)&&(whole 0 (g - 1) (ds.getD 0 .none)&&(whole 0 (t - 1) (ds.getD 1 .none)&&whole 1 9 (ds.getD 2 .none)))|_=>false
theorem vC(n:Nat)(ds:List D):long (n:Int) (n:Int) (.tuple ds)=decide (ds.length=n):=by
 simp only[long]
 by_cases h:ds.length=n
 ·simp[h]
 ·rw[yA h,Bool.and_eq_false_iff,decide_eq_false_iff_not,decide_eq_false_iff_not];omega
theorem getD_mem{ds:List D}{i:Nat}(h:i < ds.length):ds.getD i .none∈ds:=by simp[List.getD,h]
theorem xw{b k:Nat}{d:D}(h:jI b k d)(hb:b<=100)(n:Int):fM [d,.int n]=some (.bool (placeOk n d)):=by
 simp! [fM,qw,eL h.nd]
 cases d<;>try (simp[long,placeOk];done)
 rename_i ds
 obtain⟨j,rfl,hl,hf⟩:=h.of_tup
 rw[show long 2 2 (.tuple ds)=decide (ds.length=2) from vC 2 ds]
 by_cases e:ds.length=2
 ·have f0:=hf _ (getD_mem (i:=0) (by omega))
  have f1:=hf _ (getD_mem (i:=1) (by omega))
  simp! [e,decide_true,Cq (show 0 < ds.length by omega),xS (show 1 < ds.length by omega),gO f0.nd,yi f1 hb,placeOk]
  cases whole 0 9 (ds.getD 0 .none)<;>simp
 ·simp[e,placeOk]
theorem Fw{b k:Nat}{d:D}(h:jI b k d)(hb:b<=100)(g t:Int):jh [d,.int g,.int t]=some (.bool (jX g t d)):=by
 simp! [jh,rC,eL h.nd]
 cases d<;>try (simp[long,jX];done)
 rename_i ds
 obtain⟨j,rfl,hl,hf⟩:=h.of_tup
 rw[show long 3 3 (.tuple ds)=decide (ds.length=3) from vC 3 ds]
 by_cases e:ds.length=3
 ·have f0:=hf _ (getD_mem (i:=0) (by omega))
  have f1:=hf _ (getD_mem (i:=1) (by omega))
  have f2':=hf _ (getD_mem (i:=2) (by omega))
  simp! [e,decide_true,Bool.not_true,Bool.false_eq_true,Cq (show 0 < ds.length by omega),xS (show 1 < ds.length by omega),Kp (show 2 < ds.length by omega),gO f2'.nd,kL f0.nd,kL f1.nd,jX]
  cases whole 0 (g - 1) (ds.getD 0 .none)<;>cases whole 0 (t - 1) (ds.getD 1 .none)<;>simp
 ·simp[e,jX]
def cQ:D->List D|.tuple ds=>ds|_=>[]
def oe(d:D):Bool:=long 1 4 d
def jG(g t w:D):Bool:=oe g&&(oe t&&((cQ g).all (placeOk (cQ t).length)&&((cQ t).all (placeOk (cQ g).length)&&(KR w&&(cQ w).all (jX (cQ g).length (cQ t).length)))))
theorem kO{a b:Int}{d:D}(h:long a b d=true):d=.tuple (cQ d):=by cases d<;>first|rfl|cases h
theorem oY{b k:Nat}{g t w:D}(hg:jI b k g)(ht:jI b k t)(hw:jI b k w)(hb:b<=100):fI [g,t,w]=some (.bool (jG g t w)):=by
 simp! [fI,kr,eL hg.nd,eL ht.nd,kT hw.nd]
 unfold jG oe
 cases e1:long 1 4 g with
 | false=>simp
 | true =>
  cases e2:long 1 4 t with
  | false=>simp
  | true =>
   obtain⟨gs,rfl⟩:∃gs,g=.tuple gs:=⟨_,kO e1⟩
   obtain⟨ts,rfl⟩:∃ts,t=.tuple ts:=⟨_,kO e2⟩
   obtain⟨j,rfl,hgl,hgf⟩:=hg.of_tup
   obtain⟨j',hj,htl,htf⟩:=ht.of_tup
   have c1:=cq (cs:=[1]) (fi:=aO (ab 0)) (te:=(ah 2 fM (aa (ab 0) (aa (aU bq (aa (ab 1) ae)) ae)))) (h:=fun x=>.bool (placeOk ts.length x)) (ρ:=[some (.tuple gs),some (.tuple ts),some w]) rfl (by omega) fun x hx=>by simp! [xw (hgf x hx) hb]
   have c2:=cq (cs:=[0]) (fi:=aO (ab 1)) (te:=(ah 2 fM (aa (ab 0) (aa (aU bq (aa (ab 1) ae)) ae)))) (h:=fun x=>.bool (placeOk gs.length x)) (ρ:=[some (.tuple gs),some (.tuple ts),some w]) rfl (by omega) fun x hx=>by simp! [xw (htf x hx) hb]
   simp! [Bool.not_true,Bool.false_eq_true,c1,mz,cQ,Bool.true_and]
   cases e3:gs.all (placeOk ts.length) with
   | false=>simp
   | true =>
    simp! [Bool.not_true,Bool.false_eq_true,c2,mz,Bool.true_and]
    cases e4:ts.all (placeOk gs.length) with
    | false=>simp
    | true =>
     cases hT:KR w with
     | false=>simp! [Bool.not_true,Bool.false_eq_true,kT hw.nd,hT,Bool.false_and,Bool.and_false]
     | true =>
     obtain⟨ws,rfl⟩:∃ws,w=.tuple ws:=by cases w<;>first|exact⟨_,rfl⟩|cases hT
     obtain⟨j2,hj2,hwl,hwf⟩:=hw.of_tup
     have c3:=cq (cs:=[0,1]) (fi:=aO (ab 2)) (te:=(ah 3 jh (aa (ab 0) (aa (aU bq (aa (ab 1) ae)) (aa (aU bq (aa (ab 2) ae)) ae))))) (h:=fun x=>.bool (jX gs.length ts.length x)) (ρ:=[some (.tuple gs),some (.tuple ts),some (.tuple ws)]) rfl (by omega) fun x hx=>by simp! [Fw (hwf x hx) hb]
     simp! [Bool.not_true,Bool.false_eq_true,c3,mz,Bool.true_and,kT hw.nd,KR]
theorem rA:∀ (a b:List Int),PyData.eqvAll (a.map PyData.int) (b.map PyData.int)=decide (a=b)
 | [],[]=>by simp[PyData.eqvAll]
 | [],_::_=>by simp[PyData.eqvAll]
 | _::_,[]=>by simp[PyData.eqvAll]
 | i::a,j::b=>by
  rw[zI,zI,PyData.eqvAll,rA a b]
  by_cases h:i=j
  ·subst h;simp[PyData.eqv]
  ·simp[PyData.eqv,h]
theorem yY:∀ (a b:List (List Int)),PyData.eqvAll (a.map af) (b.map af)=decide (a=b)
 | [],[]=>by simp[PyData.eqvAll]
 | [],_::_=>by simp[PyData.eqvAll]
 | _::_,[]=>by simp[PyData.eqvAll]
 | x::a,y::b=>by
  rw[zI,zI,PyData.eqvAll,yY a b,af,af,PyData.eqv,rA]
  by_cases h:x=y
  ·subst h;simp
  ·simp[h]
theorem nj{b k:Nat}(i:Int):jI b k (.int i):=.leaf trivial
theorem Cf{b k:Nat}{r:List Int}(h:r.length<=b):jI b (k+1) (af r):=.tup (by rw[zD];exact h) fun x hx=>by
 obtain⟨i,_,rfl⟩:=zQ.mp hx
 exact nj i
theorem FZ{b k:Nat}{a:List (List Int)}(h:a.length<=b)(hr:∀r∈a,r.length<=b):jI b (k+2) (.list (a.map af)):=.lst (by rw[zD];exact h) fun x hx=>by
 obtain⟨r,hr',rfl⟩:=zQ.mp hx
 exact Cf (hr r hr')
theorem Ej(a:List (List Int)):∃b,a.length<=b/\∀r∈a,r.length<=b:=by
 induction a with
 | nil=>exact⟨0,zzA _,fun r h=>by cases h⟩
 | cons x a ih =>
  obtain⟨b,h1,h2⟩:=ih
  refine⟨b+1+x.length,by rw[zL];omega,fun r hr=>?_⟩
  rcases zR.mp hr with rfl|hr
  ·omega
  ·have:=h2 r hr;omega
theorem xO(a:List (List Int)):SeqAt.shaped (.list (a.map af))=true:=by
 obtain⟨b,h1,h2⟩:=Ej a
 exact (FZ (b:=b) (k:=0) h1 h2).shaped (by decide)
theorem Dd(a b:List (List Int)):bQ (.list (a.map af)) (.list (b.map af))=some (.bool (decide (a=b))):=by
 simp only[bQ,MP,xO,and_self,if_true,PyData.eqv,yY,zB]
def jf(d:D):List Int:=(cQ ((cQ d).getD 1 .none)).map jl
theorem ju{n:Int}{d:D}(h:placeOk n d=true):∃a ds,d=.tuple ds/\ds.length=2/\ds.getD 0 .none=.int a/\0<=a/\a<=9/\ds.getD 1 .none=.tuple ((jf d).map PyData.int)/\(jf d).Nodup/\∀j∈jf d,0<=j/\j<=n - 1:=by
 cases d<;>simp only[placeOk] at h<;>try cases h
 rename_i ds
 simp only[zF,zJ] at h
 obtain⟨h1,h2,h3⟩:=h
 have e:jf (.tuple ds)=(cQ (ds.getD 1 .none)).map jl:=rfl
 rw[e]
 generalize hl:ds.getD 1 .none=l at h3
 cases l<;>simp only[jL] at h3<;>try cases h3
 rename_i ls
 simp only[zF,zJ] at h3
 obtain⟨w1,w2,w3⟩:=gJ h2
 refine⟨_,ds,rfl,h1,w1,w2,w3,?_,h3.2,fun j hj=>?_⟩
 ·rw[show cQ (.tuple ls)=ls from rfl,<- l0 h3.1];exact hl
 ·obtain⟨x,hx,rfl⟩:=zQ.mp hj
  exact (gJ (List.all_eq_true.mp h3.1 x hx)).2
def my(k:Nat):List D->List (List Int)|[]=>[]|p::ps=>(jf p).map (fun j=>[((k:Nat):Int),j])++my (k+1) ps
theorem qE:∀ (n:Nat) {l:List Int},l.Nodup->(∀j∈l,0<=j/\j<=(n:Int) - 1)->l.length<=n:=by
 intro n l hn h
 have hs:l.map Int.toNat ⊆ List.range n:=fun x hx=>by
  obtain⟨j,hj,rfl⟩:=zQ.mp hx
  have:=h j hj
  exact zT.mpr (by omega)
 have hnd:(l.map Int.toNat).Nodup:=by
  refine List.pairwise_map.mpr (hn.imp_of_mem fun {x y} hx hy hne e=>hne ?_)
  have:=h x hx;have:=h y hy;omega
 have:=List.Nodup.length_le_of_subset hnd hs
 simpa using this
theorem v9{n:Nat}:∀ {ps:List D}{k:Nat},(∀p∈ps,placeOk n p=true)->(my k ps).length<=ps.length * n
 | [],k,_=>Nat.zero_le _
 | p::ps,k,h=>by
  obtain⟨_,_,_,_,_,_,_,_,hn,hr⟩:=ju (h p zE)
  have h1:=qE n hn hr
  have h2:=v9 (ps:=ps) (k:=k+1) fun q hq=>h q (zC _ hq)
  rw[my,zN,zD,zL,Nat.succ_mul]
  omega
def pB:aj->Option Out:=v8 1 [2,3] (aq 1 [2] (aO (f2 au (ab 3) (fC (.int 1)))) (fG 0) (fun _=>some true) (aC (aa (ab 1) (aa (ab 0) ae))))
theorem Bc{n:Nat}{p x:D}{acc:List D}{k:Nat}(hp:placeOk n p=true)(hn:n<=100)(ha:acc.length<=1000):pB [.val x,.own acc,.val (.int (k:Nat)),.val p]=some (.nx [.val x,.own (acc++((jf p).map fun j=>af [((k:Nat):Int),j])),.val (.int (k:Nat)),.val p]):=by
 obtain⟨a,ds,rfl,hl,_,_,_,h1,hnd,hr⟩:=ju hp
 have hb:=qE n hnd hr
 generalize jf (.tuple ds)=ls at *
 have c:=cq (cs:=[2]) (fi:=aO (f2 au (ab 3) (fC (.int 1)))) (te:=aC (aa (ab 1) (aa (ab 0) ae))) (h:=fun y=>.tuple [.int (k:Nat),y]) (ρ:=[some x,none,some (.int (k:Nat)),some (.tuple ds)]) (ds:=ls.map PyData.int)
  (by simp! [xS (show 1 < ds.length by omega),h1]) (by rw[zD];omega) fun y hy=>by
   simp! [bD (show [PyData.int (k:Nat),y].length<=4000 by simp)]
 have hh:hand [2,3] 0 [Slot.val x,.own acc,.val (.int (k:Nat)),.val (.tuple ds)]=[Slot.val x,.own acc,.val (.int (k:Nat)),.val (.tuple ds)]:=rfl
 simp only[pB,v8,hh,bY,zI,List.map_nil,Slot.frz,c,zA,nI,List.getElem?_cons_succ,List.getElem?_cons_zero]
 rw[if_pos]
 ·simp only[zB,List.set_cons_succ,List.set_cons_zero,zM]
  rfl
 ·simp only[zD]
  exact yE (show acc.length+ls.length<=1100 by omega) (by decide)
theorem uC{n:Nat}{x:D}(hn:n<=100):∀ {ps:List D}{k:Nat}{acc:List D}{s2 s3:Slot},(∀p∈ps,placeOk n p=true)->acc.length+ps.length * n<=1000 ->
  ∃t2 t3,cH (dZ 2 3) pB (bK k ps) [.val x,.own acc,s2,s3]=some (.nx [.val x,.own (acc++(my k ps).map af),t2,t3])
 | [],k,acc,s2,s3,_,_=>⟨s2,s3,by simp[bK,cH,my]⟩
 | p::ps,k,acc,s2,s3,h,hl=>by
  have hp:=h p zE
  obtain⟨_,_,_,_,_,_,_,_,hnd,hr⟩:=ju hp
  have hb:=qE n hnd hr
  rw[zL,Nat.succ_mul] at hl
  obtain⟨t2,t3,e⟩:=uC hn (x:=x) (ps:=ps) (k:=k+1) (acc:=acc++((jf p).map fun j=>af [((k:Nat):Int),j])) (s2:=.val (.int (k:Nat))) (s3:=.val p) (fun q hq=>h q (zC _ hq)) (by rw[zN,zD];omega)
  refine⟨t2,t3,?_⟩
  have hs:dZ 2 3 [.val x,.own acc,s2,s3] (.tuple [.int (k:Nat),p])=some [.val x,.own acc,.val (.int (k:Nat)),.val p]:=rfl
  simp only[bK,cH,hs,zA,Bc hp hn (show acc.length<=1000 by omega)]
  rw[e]
  simp[my,zM,Function.comp_def]
theorem Ce{n:Nat}{ps:List D}(h:∀p∈ps,placeOk n p=true)(hn:n<=100)(hl:ps.length * n<=1000):bF [.tuple ps]=some (.list ((my 0 ps).map af)):=by
 obtain⟨t2,t3,e⟩:=uC hn (x:=.tuple ps) (k:=0) (acc:=[]) (s2:=.non) (s3:=.non) h (by simpa using hl)
 have hs:aM 1 [] (eV ae) [Slot.val (.tuple ps),.non,.non,.non]=some (.nx [.val (.tuple ps),.own [],.non,.non]):=rfl
 have hh:hand [0] 0 [Slot.val (.tuple ps),.own [],.non,.non]=[Slot.val (.tuple ps),.own [],.non,.non]:=rfl
 have hf:bx (aa (ab 0) ae) (bY [Slot.val (.tuple ps),.own [],.non,.non])=some (bK 0 ps):=rfl
 simp! [bF,iL,hs,cM,hh,hf]
 rw[show v8 1 [2,3] (aq 1 [2] (aO (f2 au (ab 3) (fC (.int 1)))) (fG 0) (fun _=>some true) (aC (aa (ab 1) (aa (ab 0) ae))))=pB from rfl,e]
 simp! []
def fX(d:D):List Int:=[jl ((cQ d).getD 0 .none),jl ((cQ d).getD 1 .none)]
theorem Bb{g t:Int}{d:D}(h:jX g t d=true):∃ds c,d=.tuple ds/\ds.length=3/\ds.getD 0 .none=.int (jl (ds.getD 0 .none))/\ds.getD 1 .none=.int (jl (ds.getD 1 .none))/\ds.getD 2 .none=.int c/\1<=c/\c<=9 /\
  0<=jl (ds.getD 0 .none)/\jl (ds.getD 0 .none)<=g - 1/\0<=jl (ds.getD 1 .none)/\jl (ds.getD 1 .none)<=t - 1:=by
 cases d<;>simp only[jX] at h<;>try cases h
 rename_i ds
 simp only[zF,zJ] at h
 obtain⟨h1,h2,h3,h4⟩:=h
 have a:=gJ h2
 have b:=gJ h3
 have c:=gJ h4
 exact⟨ds,_,rfl,h1,a.1,b.1,c.1,c.2.1,c.2.2,a.2.1,a.2.2,b.2.1,b.2.2⟩
def z6(g t w:D):Bool:=decide ((cQ w).map fX=oU (my 0 (cQ g)))&&decide ((cQ w).map fX=oU ((my 0 (cQ t)).map List.reverse))
def ON(d:D):Bool:=long 3 3 d&&(jG ((cQ d).getD 0 .none) ((cQ d).getD 1 .none) ((cQ d).getD 2 .none)&&z6 ((cQ d).getD 0 .none) ((cQ d).getD 1 .none) ((cQ d).getD 2 .none))
theorem lx:∀ {ps:List D}{k:Nat},∀r∈my k ps,∃i j,r=[i,j]
 | [],k,r,h=>by cases h
 | p::ps,k,r,h=>by
  rcases List.mem_append.mp h with h|h
  ·obtain⟨j,_,rfl⟩:=zQ.mp h;exact⟨_,_,rfl⟩
  ·exact lx r h
theorem nu{a:List (List Int)}(h:∀r∈a,∃i j,r=[i,j])(hl:a.length < 64):hU [.list (a.map af)]=some ((oU a).map af):=by
 have:∀ns∈a,ns≠[]:=fun ns hn=>by obtain⟨i,j,rfl⟩:=h ns hn;exact List.cons_ne_nil _ _
 simp only[hU,oneOf,zA,mf this,if_pos hl]
theorem um:∀ {a:List (List Int)},(∀r∈a,∃i j,r=[i,j])->cO (gw 0 1) (fun _=>some true) (aC (aa (ab 1) (aa (ab 0) ae))) [none,none] (a.map af)=some ((a.map List.reverse).map af)
 | [],_=>rfl
 | r::a,h=>by
  obtain⟨i,j,rfl⟩:=h r zE
  have ih:=um (a:=a) fun q hq=>h q (zC _ hq)
  have e:gw 0 1 [none,none] (af [i,j])=some [some (.int i),some (.int j)]:=rfl
  rw[zI,cO,e,zA,zA,if_pos rfl,ih]
  simp! [bD (show [PyData.int j,.int i].length<=4000 by simp)]
  rfl
theorem Es{a:List (List Int)}{fi:Dl.Env->Option (List D)}{ρ:Dl.Env}(hfi:fi ρ=some (a.map af))(hl:a.length<=4000)(h:∀r∈a,∃i j,r=[i,j]):aq 2 [] fi (gw 0 1) (fun _=>some true) (aC (aa (ab 1) (aa (ab 0) ae))) ρ=some ((a.map List.reverse).map af):=by
 simp only[aq,hfi,zA,fA,List.replicate,List.cons_append,List.nil_append,List.map_nil]
 rw[um h,zA,bD (by rw[zD,zD];exact hl)]
theorem yN{g t w:D}(h:jG g t w=true):∃gs ts ws,g=.tuple gs/\t=.tuple ts/\w=.tuple ws/\1<=gs.length/\gs.length<=4/\1<=ts.length/\ts.length<=4/\(∀p∈gs,placeOk ts.length p=true)/\(∀p∈ts,placeOk gs.length p=true)/\∀x∈ws,jX gs.length ts.length x=true:=by
 simp only[jG,oe,zF] at h
 obtain⟨h1,h2,h3,h4,h5,h6⟩:=h
 cases w<;>try cases h5
 rename_i ws
 have e1:=kO h1
 have e2:=kO h2
 generalize cQ g=gs at *
 generalize cQ t=ts at *
 subst e1 e2
 simp only[long,zF,zJ] at h1 h2
 exact⟨gs,ts,ws,rfl,rfl,rfl,by omega,by omega,by omega,by omega,List.all_eq_true.mp h3,List.all_eq_true.mp h4,List.all_eq_true.mp h6⟩
theorem Bm{b k:Nat}{d:D}(h:jI b k d)(hb:b<=100):cA [d]=some (.bool (ON d)):=by
 unfold ON
 cases e1:long 3 3 d with
 | false=>simp! [cA,gK,eL h.nd,e1,Bool.not_false,Bool.false_and]
 | true =>
  obtain⟨ds,rfl⟩:∃ds,d=.tuple ds:=⟨_,kO e1⟩
  obtain⟨j,rfl,hl,hf⟩:=h.of_tup
  rw[show long 3 3 (.tuple ds)=decide (ds.length=3) from vC 3 ds,zJ] at e1
  have f0:=hf _ (getD_mem (i:=0) (by omega))
  have f1:=hf _ (getD_mem (i:=1) (by omega))
  have f2':=hf _ (getD_mem (i:=2) (by omega))
  have i0:=Cq (show 0 < ds.length by omega)
  have i1:=xS (show 1 < ds.length by omega)
  have i2:=Kp (show 2 < ds.length by omega)
  have el:bc [.tuple ds,.int 3,.int 3]=some (.bool true):=by rw[eL rfl,show long 3 3 (.tuple ds)=decide (ds.length=3) from vC 3 ds,yB e1]
  rw[show cQ (.tuple ds)=ds from rfl,Bool.true_and]
  generalize hg:ds.getD 0 .none=g at *
  generalize ht:ds.getD 1 .none=t at *
  generalize hw:ds.getD 2 .none=w at *
  cases e2:jG g t w with
  | false=>simp! [cA,gK,el,i0,i1,i2,oY f0 f1 f2' hb,e2,Bool.not_false,Bool.not_true,Bool.false_and]
  | true =>
   obtain⟨gs,ts,ws,rfl,rfl,rfl,g1,g4,t1,t4,hG,hT,hW⟩:=yN e2
   have hfw:=f2'.of_tup
   obtain⟨j2,_,hwl,_⟩:=hfw
   have q1:=v9 (k:=0) hG
   have q2:=v9 (k:=0) hT
   have m1:gs.length * ts.length<=16:=Nat.mul_le_mul g4 t4
   have m2:ts.length * gs.length<=16:=Nat.mul_le_mul t4 g4
   have l1:=Ce hG (by omega) (by omega)
   have l2:=Ce hT (by omega) (by omega)
   have s1:=nu (a:=my 0 gs) lx (by omega)
   have s2:=nu (a:=(my 0 ts).map List.reverse) (fun r hr=>by
    obtain⟨q,hq,rfl⟩:=zQ.mp hr
    obtain⟨i,j,rfl⟩:=lx q hq
    exact⟨j,i,rfl⟩) (by rw[zD];omega)
   have c1:aq 1 [] (aO (f2 au (ab 0) (fC (.int 2)))) (fG 0) (fun _=>some true) (aC (aa (f2 au (ab 0) (fC (.int 0))) (aa (f2 au (ab 0) (fC (.int 1))) ae))) [some (.tuple ds),none,none,none]=some ((ws.map fX).map af):=by
    rw[cq (ds:=ws) (h:=fun x=>af (fX x)) (by simp! [i2]) (by omega) fun x hx=>?_,zM]
    ·rfl
    ·obtain⟨vs,c,rfl,v3,v0,v1,_⟩:=Bb (hW x hx)
     simp! [Cq (show 0 < vs.length by omega),xS (show 1 < vs.length by omega),bD (show [vs.getD 0 PyData.none,vs.getD 1 .none].length<=4000 by simp),af,fX,cQ]
     rw[<- v0,<- v1]
   have c2:∀x y z,aq 2 [] (aO (ah 1 bF (aa (f2 au (ab 0) (fC (.int 1))) ae))) (gw 0 1) (fun _=>some true) (aC (aa (ab 1) (aa (ab 0) ae))) [some (.tuple ds),x,y,z]=some (((my 0 ts).map List.reverse).map af):=fun x y z =>
    Es (by simp! [i1,l2]) (by omega) lx
   have st1:aM 1 [0] (aq 1 [] (aO (f2 au (ab 0) (fC (.int 2)))) (fG 0) (fun _=>some true) (aC (aa (f2 au (ab 0) (fC (.int 0))) (aa (f2 au (ab 0) (fC (.int 1))) ae)))) [Slot.val (.tuple ds),.non,.non,.non]=some (.nx [.val (.tuple ds),.own ((ws.map fX).map af),.non,.non]):=by
    have hh:hand [0] 0 [Slot.val (.tuple ds),.non,.non,.non]=[Slot.val (.tuple ds),.non,.non,.non]:=rfl
    simp only[aM,hh,bY,zI,List.map_nil,Slot.frz,c1,zB,List.set_cons_succ,List.set_cons_zero]
   have nh:aM 2 [0] (lX hU (aa (ah 1 bF (aa (f2 au (ab 0) (fC (.int 0))) ae)) ae)) [Slot.val (.tuple ds),.own ((ws.map fX).map af),.non,.non]=some (.nx [.val (.tuple ds),.own ((ws.map fX).map af),.own ((oU (my 0 gs)).map af),.non]):=by
    have hh:hand [0] 0 [Slot.val (.tuple ds),.own ((ws.map fX).map af),.non,.non]=[Slot.val (.tuple ds),.own ((ws.map fX).map af),.non,.non]:=rfl
    simp only[aM,hh,bY,zI,List.map_nil,Slot.frz]
    simp! [i0,l1,s1,List.set_cons_succ,List.set_cons_zero]
   have st3:aM 3 [0] (lX hU (aa (cx (aq 2 [] (aO (ah 1 bF (aa (f2 au (ab 0) (fC (.int 1))) ae))) (gw 0 1) (fun _=>some true) (aC (aa (ab 1) (aa (ab 0) ae))))) ae)) [Slot.val (.tuple ds),.own ((ws.map fX).map af),.own ((oU (my 0 gs)).map af),.non]
      =some (.nx [.val (.tuple ds),.own ((ws.map fX).map af),.own ((oU (my 0 gs)).map af),.own ((oU ((my 0 ts).map List.reverse)).map af)]):=by
    have hh:hand [0] 0 [Slot.val (.tuple ds),.own ((ws.map fX).map af),.own ((oU (my 0 gs)).map af),.non]=[Slot.val (.tuple ds),.own ((ws.map fX).map af),.own ((oU (my 0 gs)).map af),.non]:=rfl
    simp only[aM,hh,bY,zI,List.map_nil,Slot.frz]
    simp! [c2,s2,List.set_cons_succ,List.set_cons_zero]
   simp! [cA,gK,el,i0,i1,i2,oY f0 f1 f2' hb,e2,Bool.not_true,Bool.false_eq_true,st1,nh,st3,Dd,z6,cQ,Bool.true_and]
   by_cases hq:List.map fX ws=oU (my 0 gs)<;>simp[hq]
theorem AO(xs:List D):PyData.eqvAll xs []=xs.isEmpty:=by cases xs<;>simp[PyData.eqvAll]
theorem A9:SeqAt.shaped (.list [])=true:=by simp[SeqAt.shaped,PyData.canLay0,PyData.canLayAll0,PyData.depth,PyData.depthAll]
theorem Fe{b k:Nat}{xs:List D}(h:∀x∈xs,jI b k x)(hk:k<=60):bQ (.list xs) (.list [])=some (.bool xs.isEmpty):=by
 have hs:SeqAt.shaped (.list xs)=true:=(jI.lst (b:=max b xs.length) (k:=k) (Nat.le_max_right _ _) fun x hx=>(h x hx).mono (Nat.le_max_left _ _) (zzA _)).shaped (by omega)
 simp only[bQ,MP,hs,A9,and_self,if_true,PyData.eqv,AO,zB]
theorem jd:small []=some []:=rfl
theorem FD{α:Type}(xs:List α)(k:Nat):cut xs none (some (k:Int))=xs.take k:=by
 simp only[cut,HT.y0,HT.BN,List.drop_zero,Nat.sub_zero]
 rw[List.take_eq_take_iff];omega
theorem zf{α:Type}(xs:List α)(k:Nat):cut xs (some (k:Int)) none=xs.drop k:=by
 simp only[cut,HT.y0,HT.BN]
 rw[List.take_of_length_le (by rw[List.length_drop];omega)]
 by_cases h:k<=xs.length
 ·rw[Nat.min_eq_left h]
 ·rw[Nat.min_eq_right (by omega),List.drop_of_length_le (zzA _),List.drop_of_length_le (by omega)]
theorem hV(b:Bool):gB (.bool b)=some b:=rfl
def Qe(P:List (List Int))(i j:Int)(lp lq:List Int):Bool:=decide ([i,j]∈P) == decide (j∈lp)&&decide ([i,j]∈P) == decide (i∈lq)
def P9(P:List (List Int))(i:Int)(lp:List Int):Nat->List D->Bool|_,[]=>true|k,q::qs=>Qe P i k lp (jf q)&&P9 P i lp (k+1) qs
def O0(P:List (List Int))(ts:List D):Nat->List D->Bool|_,[]=>true|k,p::ps=>P9 P k (jf p) 0 ts&&O0 P ts (k+1) ps
theorem BB(a b:D):small [a,b]=some [a,b]:=rfl
theorem Gu(ρ:Dl.Env):bj (aa (fC (.int 2)) ae) ρ=some [.int 0,.int 1]:=by
 have:BO 2=true:=by decide
 simp! [bj,kR,this]
 rfl
theorem mE:∀ (ρ:aj) (k:Nat),hand [] k ρ=ρ
 | [],k=>rfl
 | s::r,k=>by simp[hand,mE r]
theorem pK:∀ {ps:List D}{k:Nat}{i j:Int},[i,j]∈my k ps↔∃m p,ps[m]?=some p/\i=((k+m:Nat):Int)/\j∈jf p
 | [],k,i,j=>by simp[my]
 | p::ps,k,i,j=>by
  rw[my,List.mem_append,pK (ps:=ps)]
  constructor
  ·rintro (h|⟨m,q,h1,h2,h3⟩)
   ·obtain⟨y,hy,e⟩:=zQ.mp h
    injection e with e1 e2
    injection e2 with e2 _
    exact⟨0,p,rfl,by simpa using e1.symm,e2 ▸ hy⟩
   ·exact⟨m+1,q,by simpa using h1,by rw[h2];congr 1;omega,h3⟩
  ·rintro⟨m,q,h1,h2,h3⟩
   cases m with
   | zero =>
    simp at h1
    subst h1
    exact .inl (zQ.mpr ⟨j,h3,by rw[h2];rfl⟩)
   | succ m=>exact .inr ⟨m,q,by simpa using h1,by rw[h2];congr 1;omega,h3⟩
theorem tO:∀ {ps:List D}{k:Nat},(∀p∈ps,(jf p).Nodup)->(my k ps).Nodup
 | [],k,_=>List.nodup_nil
 | p::ps,k,h=>by
  rw[my,List.nodup_append]
  refine⟨List.pairwise_map.mpr ((h p zE).imp fun hne e=>hne ?_),tO fun q hq=>h q (zC _ hq),?_⟩
  rotate_left
  ·injection e with _ e2
   injection e2
  ·rintro a ha b hb rfl
   obtain⟨y,hy,rfl⟩:=zQ.mp ha
   obtain⟨m,q,h1,h2,h3⟩:=pK.mp hb
   omega
theorem Oc{a b:List Int}(h:Dl.lexLt a b=true):lexLe a b=true:=by
 unfold lexLe
 cases e:Dl.lexLt b a with
 | false=>rfl
 | true=>have:=dh h e;rw[cF] at this;cases this
theorem eD{i j:Int}(h:si i j):Dl.ej (.int i) (.int j)=some (.int (i * j)):=by
 simp only[Dl.ej,wF,if_pos h,Option.some_or]
theorem iY{i j:Int}(h:0 < j):Dl.lL (.int i) (.int j)=some (.int (i % j)):=if_pos h
theorem kg{i j:Int}(h:0 < j/\j < 1073741824):Dl.nE (.int i) (.int j)=some (.int (i / j)):=if_pos h
theorem gq(i j:Int):Dl.zz (.int i) (.int j)=some (.bool (decide (j < i))):=rfl
theorem mJ(i j:Int):Dl.Ey (.int i) (.int j)=some (.bool (decide (i < j))):=rfl
theorem l4{i j:Int}(h:-(2 ^ 64) < i/\i < 2 ^ 64):si i j:=.inl h
theorem M0{i j:Int}(h:-(2 ^ 64) < j/\j < 2 ^ 64):si i j:=.inr h
theorem yt(i:Int):Dl.qm (.int i)=true:=rfl
theorem xX(i:List D):Dl.qm (.tuple i)=false:=rfl
def bW(ns:List Int):D:=.list (ns.map PyData.int)
theorem My{ns:List Int}(k:Int)(hl:ns.length<=63):∃c,dS [bW ns,.int k]=some (.int c):=by
 have heq:bQ (.list (ns.map PyData.int)) (.list [])=some (.bool ns.isEmpty):=by
  have:=Fe (b:=0) (k:=0) (xs:=ns.map PyData.int) (fun x hx=>by obtain⟨i,_,rfl⟩:=zQ.mp hx;exact nj i) (by decide)
  rw[this];cases ns<;>rfl
 by_cases hn:ns=[]
 ·subst hn
  refine⟨7 * k,?_⟩
  rw[List.map_nil,List.isEmpty_nil] at heq
  simp! [dS,iA,bW,jd,heq,List.isEmpty_nil,eD (l4 (i:=7) (j:=k) (by decide))]
 ·have hpos:(0:Int) < (ns.length:Int):=by have:=List.length_pos_iff.mpr hn;omega
  have he:ns.isEmpty=false:=by cases ns<;>first|rfl|exact absurd rfl hn
  obtain⟨j,hj⟩:=Int.eq_ofNat_of_zero_le (Int.emod_nonneg k (show (ns.length:Int)≠0 by omega))
  have hlt:=Int.emod_lt_of_pos k hpos
  have hx:vV (ns.map PyData.int) (k % (ns.length:Int))=some (.int (ns.getD j 0)):=by
   rw[hj]
   have:j < (ns.map PyData.int).length:=by rw[zD];omega
   rw[m8 this,zG,zO,zG]
   rw[zK (by omega)]
   rfl
  refine⟨ns.getD j 0+6553 * (k / (ns.length:Int)),?_⟩
  simp! [dS,iA,bW,jd,heq,he,Bool.false_eq_true,zD,iY hpos,hx,kg (i:=k) (j:=(ns.length:Int)) ⟨hpos,by omega⟩,eD (l4 (i:=6553) (j:=k / (ns.length:Int)) (by decide))]
theorem J7{ns:List Int}(k many:Int)(hl:ns.length<=63)(hm:0 < many):∃r,ak [bW ns,.int k,.int many]=some (.int r)/\0<=r/\r < many:=by
 obtain⟨c,hc⟩:=My k hl
 have m1:∀i:Int,Dl.lL (.int i) (.int 2147483563)=some (.int (i % 2147483563)):=fun i=>iY (by decide)
 have m2:∀i:Int,Dl.lL (.int i) (.int 2147483399)=some (.int (i % 2147483399)):=fun i=>iY (by decide)
 have m3:∀i:Int,Dl.lL (.int i) (.int 2147483647)=some (.int (i % 2147483647)):=fun i=>iY (by decide)
 have d1:∀i:Int,Dl.nE (.int i) (.int 3)=some (.int (i / 3)):=fun i=>kg (by decide)
 have d2:∀i:Int,Dl.nE (.int i) (.int 7)=some (.int (i / 7)):=fun i=>kg (by decide)
 have d3:∀i:Int,Dl.nE (.int i) (.int 11)=some (.int (i / 11)):=fun i=>kg (by decide)
 have u1:∀i:Int,Dl.ej (.int i) (.int 69069)=some (.int (i * 69069)):=fun i=>eD (M0 (by decide))
 have u2:∀i:Int,Dl.ej (.int 104723) (.int i)=some (.int (104723 * i)):=fun i=>eD (l4 (by decide))
 have b1:∀x:Int,Dl.ej (.int (x % 2147483563)) (.int (x % 2147483563))=some (.int (x % 2147483563 * (x % 2147483563))):=fun x=>eD (l4 (by
  have:=Int.emod_nonneg x (show (2147483563:Int)≠0 by decide)
  have:=Int.emod_lt_of_pos x (show (0:Int) < 2147483563 by decide)
  omega))
 have b2:∀x:Int,Dl.ej (.int (x % 2147483399)) (.int (x % 2147483399))=some (.int (x % 2147483399 * (x % 2147483399))):=fun x=>eD (l4 (by
  have:=Int.emod_nonneg x (show (2147483399:Int)≠0 by decide)
  have:=Int.emod_lt_of_pos x (show (0:Int) < 2147483399 by decide)
  omega))
 suffices h:∃x,ak [bW ns,.int k,.int many]=some (.int (x % many)) by
  obtain⟨x,hx⟩:=h
  exact⟨_,hx,Int.emod_nonneg x (show many≠0 by omega),Int.emod_lt_of_pos x hm⟩
 ·refine⟨(((((c % 2147483563 * 69069+104723 * (k+1)) % 2147483563) * ((c % 2147483563 * 69069+104723 * (k+1)) % 2147483563)+((c % 2147483563 * 69069+104723 * (k+1)) % 2147483563) / 3) % 2147483399) * ((((c % 2147483563 * 69069+104723 * (k+1)) % 2147483563) * ((c % 2147483563 * 69069+104723 * (k+1)) % 2147483563)+((c % 2147483563 * 69069+104723 * (k+1)) % 2147483563) / 3) % 2147483399)+((((c % 2147483563 * 69069+104723 * (k+1)) % 2147483563) * ((c % 2147483563 * 69069+104723 * (k+1)) % 2147483563)+((c % 2147483563 * 69069+104723 * (k+1)) % 2147483563) / 3) % 2147483399) / 7) % 2147483647 / 11,?_⟩
  simp! [ak,jR,hc,m1,u1,u2,Dl.az,yt,List.set_cons_succ,List.set_cons_zero,b1,d1,m2,b2,d2,m3,d3,iY (j:=many) hm]
def dr(ns:List Int)(k many:Int):Int:=jl ((ak [bW ns,.int k,.int many]).getD .none)
theorem gS{ns:List Int}(k many:Int)(hl:ns.length<=63)(hm:0 < many):ak [bW ns,.int k,.int many]=some (.int (dr ns k many))/\0<=dr ns k many/\dr ns k many < many:=by
 obtain⟨r,h1,h2⟩:=J7 k many hl hm
 have:dr ns k many=r:=by simp only[dr,h1,Option.getD_some,jl]
 rw[this];exact⟨h1,h2⟩
theorem uE{ns:List Int}(k many:Int)(hl:ns.length<=63)(hm:0 < many):ak [bW ns,.int k,.int many]=some (.int (dr ns k many)):=(gS k many hl hm).1
theorem Ko{ns:List Int}(k many:Int)(hl:ns.length<=63)(hm:0 < many):0<=dr ns k many:=(gS k many hl hm).2.1
theorem KQ{ns:List Int}(k many:Int)(hl:ns.length<=63)(hm:0 < many):dr ns k many < many:=(gS k many hl hm).2.2
def cw(r:List Int):D:=.list (r.map PyData.int)
def insI(ds:List Int)(k:Int)(d:Int):List Int:=let j:=if k < 0 then (k+(ds.length:Int)).toNat else min k.toNat ds.length;ds.take j++d::ds.drop j
theorem Dy(ds:List Int)(k d:Int):B0 (ds.map PyData.int) k (.int d)=(insI ds k d).map PyData.int:=by
 simp only[B0,insI,zD,List.map_append,zI,List.map_take,List.map_drop]
theorem insI_perm(ds:List Int)(k d:Int):(insI ds k d).Perm (d::ds):=by
 simp only[insI]
 refine List.perm_middle.trans ?_
 rw[List.take_append_drop]
def oB:aj->Option Out:=(Fp 6 [8] (ah 3 ak (aa (ab 0) (aa (f2 aA (f2 aA (ab 1) (f2 ej (fC (.int 4)) (ab 4))) (ab 7)) (aa (f2 aA (aU bq (aa (ab 6) ae)) (fC (.int 1))) ae)))) (ab 8))
theorem Lx{ns order:List Int}{a k j x:Int}{s2 s3 s5:Slot}(hl:ns.length<=63)(ho:order.length<=1000) :
  oB [.val (bW ns),.val (.int a),s2,s3,.val (.int k),s5,.own (order.map PyData.int),.val (.int j),.val (.int x)] =
   some (.nx [.val (bW ns),.val (.int a),s2,s3,.val (.int k),s5,.own ((insI order (dr ns (a+4 * k+j) ((order.length:Int)+1)) x).map PyData.int),.val (.int j),.val (.int x)]):=by
 have h4:Dl.ej (.int 4) (.int k)=some (.int (4 * k)):=eD (l4 (by decide))
 have hd:=gS (ns:=ns) (a+4 * k+j) ((order.length:Int)+1) hl (by omega)
 have hr:BO (dr ns (a+4 * k+j) ((order.length:Int)+1))=true:=by
  simp only[BO,zF,zJ]
  omega
 have hz:(order.map PyData.int).length < sizeLine:=by rw[zD];exact Nat.lt_of_le_of_lt ho (by decide)
 simp! [oB,Fp,lR,yt,nI,zD,h4,hd.1]
 rw[zD] at hz
 simp only[hr,hz,and_self,if_true,zB,Dy,List.set_cons_succ,List.set_cons_zero]
theorem HR{ns:List Int}{a k:Int}{s2 s3 s5:Slot}(hl:ns.length<=63):∀ {row order:List Int}{j:Nat}{s7 s8:Slot},order.length+row.length<=1000 ->
  ∃ (o:List Int) (t7 t8:Slot),cH (dZ 7 8) oB (bK j (row.map PyData.int)) [.val (bW ns),.val (.int a),s2,s3,.val (.int k),s5,.own (order.map PyData.int),s7,s8] =
   some (.nx [.val (bW ns),.val (.int a),s2,s3,.val (.int k),s5,.own (o.map PyData.int),t7,t8])/\o.Perm (row++order)
 | [],order,j,s7,s8,_=>⟨order,s7,s8,by simp[bK,cH],by simp⟩
 | x::row,order,j,s7,s8,h=>by
  rw[zL] at h
  have hp:=insI_perm order (dr ns (a+4 * k+((j:Nat):Int)) ((order.length:Int)+1)) x
  have hlen:=hp.length_eq
  rw[zL] at hlen
  obtain⟨o,t7,t8,e,p⟩:=HR (s2:=s2) (s3:=s3) (s5:=s5) (a:=a) (k:=k) hl (row:=row) (order:=insI order (dr ns (a+4 * k+((j:Nat):Int)) ((order.length:Int)+1)) x) (j:=j+1) (s7:=.val (.int (j:Nat))) (s8:=.val (.int x)) (by omega)
  refine⟨o,t7,t8,?_,p.trans ?_⟩
  ·have hs:dZ 7 8 [.val (bW ns),.val (.int a),s2,s3,.val (.int k),s5,.own (order.map PyData.int),s7,s8] (.tuple [.int (j:Nat),.int x])=some [.val (bW ns),.val (.int a),s2,s3,.val (.int k),s5,.own (order.map PyData.int),.val (.int (j:Nat)),.val (.int x)]:=rfl
   simp only[zI,bK,cH,hs,zA,Lx hl (show order.length<=1000 by omega),e]
  ·refine (hp.append_left row).trans ?_
   rw[List.cons_append]
   exact List.perm_middle
def qJ:List (List Int)->List (List Int)->Prop|[],[]=>True|a::l,b::m=>a.Perm b/\qJ l m|_,_=>False
def rB:aj->Option Out:=(av (aM 6 [] (eV ae)) (av (cM [5] (bx (aa (ab 5) ae)) (dZ 7 8) oB) (kZ 3 [6] (aU bo (aa (ab 6) ae)))))
theorem Lh{ns row:List Int}{a k:Int}{rows:D}{found:List D}{s6 s7 s8:Slot}(hl:ns.length<=63)(hr:row.length<=1000)(hf:found.length<=1000) :
  ∃ (o:List Int) (t7 t8:Slot),rB [.val (bW ns),.val (.int a),.val rows,.own found,.val (.int k),.val (cw row),s6,s7,s8]=some (.nx [.val (bW ns),.val (.int a),.val rows,.own (found++[af o]),.val (.int k),.val (cw row),.val (cw o),t7,t8])/\o.Perm row:=by
 obtain⟨o,t7,t8,e,p⟩:=HR (s2:=.val rows) (s3:=.own found) (s5:=.val (cw row)) (a:=a) (k:=k) hl (row:=row) (order:=[]) (j:=0) (s7:=s7) (s8:=s8) (by simpa using hr)
 rw[List.append_nil] at p
 refine⟨o,t7,t8,?_,p⟩
 have h1:aM 6 [] (eV ae) [.val (bW ns),.val (.int a),.val rows,.own found,.val (.int k),.val (cw row),s6,s7,s8]=some (.nx [.val (bW ns),.val (.int a),.val rows,.own found,.val (.int k),.val (cw row),.own [],s7,s8]):=by
  simp only[aM,mE,eV,ae,zA,jd,zB,List.set_cons_succ,List.set_cons_zero]
 have h2:cM [5] (bx (aa (ab 5) ae)) (dZ 7 8) oB [.val (bW ns),.val (.int a),.val rows,.own found,.val (.int k),.val (cw row),.own [],s7,s8]=some (.nx [.val (bW ns),.val (.int a),.val rows,.own found,.val (.int k),.val (cw row),.own (o.map PyData.int),t7,t8]):=by
  have hh:hand [5] 0 [Slot.val (bW ns),.val (.int a),.val rows,.own found,.val (.int k),.val (cw row),.own [],s7,s8]=[Slot.val (bW ns),.val (.int a),.val rows,.own found,.val (.int k),.val (cw row),.own [],s7,s8]:=rfl
  have hq:bx (aa (ab 5) ae) (bY [Slot.val (bW ns),.val (.int a),.val rows,.own found,.val (.int k),.val (cw row),.own [],s7,s8])=some (bK 0 (row.map PyData.int)):=by
   simp only[bY,zI,List.map_nil]
   simp! [bx,cw]
  simp only[cM,hh,hq,zA]
  exact e
 have h3:kZ 3 [6] (aU bo (aa (ab 6) ae)) [.val (bW ns),.val (.int a),.val rows,.own found,.val (.int k),.val (cw row),.own (o.map PyData.int),t7,t8]=some (.nx [.val (bW ns),.val (.int a),.val rows,.own (found++[af o]),.val (.int k),.val (cw row),.val (cw o),t7,t8]):=by
  have hz:found.length < sizeLine:=Nat.lt_of_le_of_lt hf (by decide)
  have hh:hand [6] 0 [Slot.val (bW ns),.val (.int a),.val rows,.own found,.val (.int k),.val (cw row),.own (o.map PyData.int),t7,t8]=[Slot.val (bW ns),.val (.int a),.val rows,.own found,.val (.int k),.val (cw row),.val (cw o),t7,t8]:=rfl
  simp only[kZ,lR,hh,bY,zI,List.map_nil]
  simp! [xX,Bool.false_eq_true,nI,hz,List.set_cons_succ,List.set_cons_zero,cw,af]
 simp only[rB,av,h1,h2,h3,zA]
theorem EZ{ns:List Int}{a:Int}{rws:D}(hl:ns.length<=63):∀ {rows:List (List Int)}{found:List D}{k:Nat}{s4 s5 s6 s7 s8:Slot},(∀r∈rows,r.length<=1000)->found.length+rows.length<=1000 ->
  ∃ (os:List (List Int)) (t4 t5 t6 t7 t8:Slot),cH (dZ 4 5) rB (bK k (rows.map cw)) [.val (bW ns),.val (.int a),.val rws,.own found,s4,s5,s6,s7,s8]=some (.nx [.val (bW ns),.val (.int a),.val rws,.own (found++os.map af),t4,t5,t6,t7,t8])/\qJ os rows
 | [],found,k,s4,s5,s6,s7,s8,_,_=>⟨[],s4,s5,s6,s7,s8,by simp[bK,cH],trivial⟩
 | r::rows,found,k,s4,s5,s6,s7,s8,h,hf=>by
  rw[zL] at hf
  obtain⟨o,u7,u8,e1,p1⟩:=Lh (rows:=rws) (a:=a) (k:=((k:Nat):Int)) (s6:=s6) (s7:=s7) (s8:=s8) hl (h r zE) (show found.length<=1000 by omega)
  obtain⟨os,t4,t5,t6,t7,t8,e,p⟩:=EZ hl (rws:=rws) (a:=a) (rows:=rows) (found:=found++[af o]) (k:=k+1) (s4:=.val (.int (k:Nat))) (s5:=.val (cw r)) (s6:=.val (cw o)) (s7:=u7) (s8:=u8) (fun r' hr'=>h r' (zC _ hr')) (by rw[zN,List.length_singleton];omega)
  refine⟨o::os,t4,t5,t6,t7,t8,?_,p1,p⟩
  have hs:dZ 4 5 [.val (bW ns),.val (.int a),.val rws,.own found,s4,s5,s6,s7,s8] (.tuple [.int (k:Nat),cw r])=some [.val (bW ns),.val (.int a),.val rws,.own found,.val (.int (k:Nat)),.val (cw r),s6,s7,s8]:=rfl
  simp only[zI,bK,cH,hs,zA,e1]
  rw[e,List.append_assoc]
  rfl
theorem wZ{ns:List Int}{a:Int}{rows:List (List Int)}(hl:ns.length<=63)(hr:∀r∈rows,r.length<=1000)(hn:rows.length<=1000):∃os:List (List Int),bO [bW ns,.int a,.list (rows.map cw)]=some (.list (os.map af))/\qJ os rows:=by
 obtain⟨os,t4,t5,t6,t7,t8,e,p⟩:=EZ hl (rws:=.list (rows.map cw)) (a:=a) (rows:=rows) (found:=[]) (k:=0) (s4:=.non) (s5:=.non) (s6:=.non) (s7:=.non) (s8:=.non) hr (by simpa using hn)
 refine⟨os,?_,p⟩
 rw[List.nil_append] at e
 have h1:aM 3 [] (eV ae) [.val (bW ns),.val (.int a),.val (.list (rows.map cw)),.non,.non,.non,.non,.non,.non]=some (.nx [.val (bW ns),.val (.int a),.val (.list (rows.map cw)),.own [],.non,.non,.non,.non,.non]):=by
  simp only[aM,mE,eV,ae,zA,jd,zB,List.set_cons_succ,List.set_cons_zero]
 have h2:cM [2] (bx (aa (ab 2) ae)) (dZ 4 5) rB [.val (bW ns),.val (.int a),.val (.list (rows.map cw)),.own [],.non,.non,.non,.non,.non]=some (.nx [.val (bW ns),.val (.int a),.val (.list (rows.map cw)),.own (os.map af),t4,t5,t6,t7,t8]):=by
  have hh:hand [2] 0 [Slot.val (bW ns),.val (.int a),.val (.list (rows.map cw)),.own [],.non,.non,.non,.non,.non]=[Slot.val (bW ns),.val (.int a),.val (.list (rows.map cw)),.own [],.non,.non,.non,.non,.non]:=rfl
  have hq:bx (aa (ab 2) ae) (bY [Slot.val (bW ns),.val (.int a),.val (.list (rows.map cw)),.own [],.non,.non,.non,.non,.non])=some (bK 0 (rows.map cw)):=by
   simp only[bY,zI,List.map_nil]
   simp! [bx]
  simp only[cM,hh,hq,zA]
  exact e
 unfold rB oB at h2
 simp! [bO,iH,h1,h2]
abbrev Pl:=Int×List Int
abbrev Wy:=Int×Int×Int
def aW(p:Pl):D:=.tuple [.int p.1,af p.2]
def ao(w:Wy):D:=.tuple [.int w.1,.int w.2.1,.int w.2.2]
def ax(G T:List Pl)(W:List Wy):D:=.tuple [.tuple (G.map aW),.tuple (T.map aW),.tuple (W.map ao)]
def B5(W:List Wy)(i:Int):List Int:=(W.filter fun w=>decide (w.1=i)).map fun w=>w.2.1
def ofT(W:List Wy)(j:Int):List Int:=(W.filter fun w=>decide (w.2.1=j)).map fun w=>w.1
abbrev tT(W:List Wy):Prop:=W.Pairwise fun a b=>a.1 < b.1\/(a.1=b.1/\a.2.1 < b.2.1)
structure Wd(G T:List Pl)(W:List Wy):Prop where
 g1:1<=G.length
 g4:G.length<=4
 t1:1<=T.length
 t4:T.length<=4
 ga:∀p∈G,0<=p.1/\p.1<=9
 ta:∀p∈T,0<=p.1/\p.1<=9
 gl:∀ (i:Nat) (p:Pl),G[i]?=some p->p.2.Perm (B5 W i)
 tl:∀ (j:Nat) (p:Pl),T[j]?=some p->p.2.Perm (ofT W j)
 wr:∀w∈W,(0<=w.1/\w.1 < G.length)/\(0<=w.2.1/\w.2.1 < T.length)/\1<=w.2.2/\w.2.2<=9
 wp:tT W
 wl:W.length<=16
theorem vX{W:List Wy}{i j:Int}:j∈B5 W i↔[i,j]∈W.map fun w=>[w.1,w.2.1]:=by
 simp only[B5,zQ,List.mem_filter,zJ,List.cons.injEq,and_true]
 constructor
 ·rintro⟨w,⟨h1,h2⟩,h3⟩;exact⟨w,h1,h2,h3⟩
 ·rintro⟨w,h1,h2,h3⟩;exact⟨w,⟨h1,h2⟩,h3⟩
theorem vQ{W:List Wy}{i j:Int}:i∈ofT W j↔[i,j]∈W.map fun w=>[w.1,w.2.1]:=by
 simp only[ofT,zQ,List.mem_filter,zJ,List.cons.injEq,and_true]
 constructor
 ·rintro⟨w,⟨h1,h2⟩,h3⟩;exact⟨w,h1,h3,h2⟩
 ·rintro⟨w,h1,h2,h3⟩;exact⟨w,⟨h1,h3⟩,h2⟩
theorem nQ{W:List Wy}(h:tT W)(i:Int):(B5 W i).Nodup:=by
 unfold B5 List.Nodup
 rw[List.pairwise_map,List.pairwise_filter]
 refine h.imp fun hab ha hb=>?_
 rw[zJ] at ha hb
 omega
theorem oF{W:List Wy}(h:tT W)(i:Int):(ofT W i).Nodup:=by
 unfold ofT List.Nodup
 rw[List.pairwise_map,List.pairwise_filter]
 refine h.imp fun hab ha hb=>?_
 rw[zJ] at ha hb
 omega
theorem gH(p:Pl):jf (aW p)=p.2:=by
 show ((p.2.map PyData.int).map jl)=p.2
 rw[zM]
 exact List.map_id _
theorem o7{n:Int}{p:Pl}(ha:0<=p.1/\p.1<=9)(hn:p.2.Nodup)(hr:∀j∈p.2,0<=j/\j < n):placeOk n (aW p)=true:=by
 have e:(p.2.map PyData.int).map jl=p.2:=gH p
 have e2:(p.2.map PyData.int).all (whole 0 (n - 1))=true:=by
  rw[List.all_eq_true]
  intro x hx
  obtain⟨j,hj,rfl⟩:=zQ.mp hx
  have:=hr j hj
  simp only[whole,zF,zJ]
  omega
 simp only[placeOk,aW,af,zL,List.length_nil,List.getD_cons_zero,List.getD_cons_succ,jL,whole,e,e2,ha.1,ha.2,hn,decide_true,Bool.and_self]
theorem Dj{g t:Int}{w:Wy}(h:(0<=w.1/\w.1 < g)/\(0<=w.2.1/\w.2.1 < t)/\1<=w.2.2/\w.2.2<=9):jX g t (ao w)=true:=by
 obtain⟨⟨a,b⟩,⟨c,d⟩,e,f⟩:=h
 have b':w.1<=g - 1:=by omega
 have d':w.2.1<=t - 1:=by omega
 simp only[jX,ao,zL,List.length_nil,List.getD_cons_zero,List.getD_cons_succ,whole,a,b',c,d',e,f,decide_true,Bool.and_self]
theorem PX{a b c d:Int}(h:a < c\/(a=c/\b < d)):Dl.lexLt [a,b] [c,d]=true:=by
 show HT.lexLt [a,b] [c,d]=true
 rw[HT.aQ]
 by_cases e:a=c
 ·rw[if_pos e,HT.aQ,if_neg (by omega)]
  simp only[zJ];omega
 ·rw[if_neg e];simp only[zJ];omega
theorem Wd.glike{G T:List Pl}{W:List Wy}(h:Wd G T W){p:Pl}(hp:p∈G):∃i:Nat,i < G.length/\p.2.Perm (B5 W i):=by
 obtain⟨i,hi,e⟩:=List.getElem_of_mem hp
 exact⟨i,hi,h.gl i p (by rw[zK hi,e])⟩
theorem Wd.tlike{G T:List Pl}{W:List Wy}(h:Wd G T W){p:Pl}(hp:p∈T):∃i:Nat,i < T.length/\p.2.Perm (ofT W i):=by
 obtain⟨i,hi,e⟩:=List.getElem_of_mem hp
 exact⟨i,hi,h.tl i p (by rw[zK hi,e])⟩
theorem Wd.gok{G T:List Pl}{W:List Wy}(h:Wd G T W):(G.map aW).all (placeOk T.length)=true:=by
 rw[List.all_eq_true]
 intro x hx
 obtain⟨p,hp,rfl⟩:=zQ.mp hx
 obtain⟨i,hi,q⟩:=h.glike hp
 refine o7 (h.ga p hp) (q.nodup_iff.mpr (nQ h.wp _)) fun j hj=>?_
 obtain⟨w,hw,e⟩:=zQ.mp (vX.mp (q.mem_iff.mp hj))
 injection e with e1 e2
 injection e2 with e2 _
 have:=(h.wr w hw).2.1
 rw[e2] at this;exact this
theorem Wd.tok{G T:List Pl}{W:List Wy}(h:Wd G T W):(T.map aW).all (placeOk G.length)=true:=by
 rw[List.all_eq_true]
 intro x hx
 obtain⟨p,hp,rfl⟩:=zQ.mp hx
 obtain⟨i,hi,q⟩:=h.tlike hp
 refine o7 (h.ta p hp) (q.nodup_iff.mpr (oF h.wp _)) fun j hj=>?_
 obtain⟨w,hw,e⟩:=zQ.mp (vQ.mp (q.mem_iff.mp hj))
 injection e with e1 e2
 have:=(h.wr w hw).1
 rw[e1] at this;exact this
theorem qY{W:List Wy}{p:Wy->Bool}(h:W.length<=16):(W.filter p).length<=16:=yE (List.length_filter_le _ _) h
theorem Ct{p:Pl}(h:p.2.length<=16):jI 16 2 (aW p):=.tup (by simp only[zL,List.length_nil];omega) fun x hx=>by
 rcases zR.mp hx with rfl|hx
 ·exact nj _
 ·rw[yL] at hx
  subst hx
  exact Cf h
theorem Jk(w:Wy):jI 16 1 (ao w):=.tup (by simp only[zL,List.length_nil];omega) fun x hx=>by
 simp only[zR,yG,or_false] at hx
 rcases hx with rfl|rfl|rfl<;>exact nj _
theorem Wd.fit{G T:List Pl}{W:List Wy}(h:Wd G T W):jI 16 4 (ax G T W):=by
 refine .tup (by simp only[zL,List.length_nil];omega) fun x hx=>?_
 simp only[zR,yG,or_false] at hx
 have h4:=h.g4
 have h5:=h.t4
 have h6:=h.wl
 rcases hx with rfl|rfl|rfl
 ·refine .tup (by rw[zD];omega) fun x hx=>?_
  obtain⟨p,hp,rfl⟩:=zQ.mp hx
  obtain⟨i,hi,q⟩:=h.glike hp
  exact Ct (by rw[q.length_eq,B5,zD];exact qY h.wl)
 ·refine .tup (by rw[zD];omega) fun x hx=>?_
  obtain⟨p,hp,rfl⟩:=zQ.mp hx
  obtain⟨i,hi,q⟩:=h.tlike hp
  exact Ct (by rw[q.length_eq,ofT,zD];exact qY h.wl)
 ·refine .tup (by rw[zD];omega) fun x hx=>?_
  obtain⟨p,hp,rfl⟩:=zQ.mp hx
  exact (Jk p).mono (zzA _) (by decide)
theorem C4{c:Int}(h0:0<=c)(h9:c<=9):Wd [(c,[0,1]),(c,[1,0])] [(c,[1,0]),(c,[0,1])] [(0,0,2),(0,1,2),(1,0,2),(1,1,2)] where
 g1:=by simp only[zL,List.length_nil];omega
 g4:=by simp only[zL,List.length_nil];omega
 t1:=by simp only[zL,List.length_nil];omega
 t4:=by simp only[zL,List.length_nil];omega
 ga:=by intro p hp;simp only[zR,yG,or_false] at hp;rcases hp with rfl|rfl<;>exact⟨h0,h9⟩
 ta:=by intro p hp;simp only[zR,yG,or_false] at hp;rcases hp with rfl|rfl<;>exact⟨h0,h9⟩
 gl:=by
  intro i p hp
  match i,hp with
  | 0,hp=>injection hp with hp;subst hp;exact (show List.Perm ([0,1]:List Int) (B5 [(0,0,2),(0,1,2),(1,0,2),(1,1,2)] ((0:Nat):Int)) by decide)
  | 1,hp=>injection hp with hp;subst hp;exact (show List.Perm ([1,0]:List Int) (B5 [(0,0,2),(0,1,2),(1,0,2),(1,1,2)] ((1:Nat):Int)) by decide)
 tl:=by
  intro i p hp
  match i,hp with
  | 0,hp=>injection hp with hp;subst hp;exact (show List.Perm ([1,0]:List Int) (ofT [(0,0,2),(0,1,2),(1,0,2),(1,1,2)] ((0:Nat):Int)) by decide)
  | 1,hp=>injection hp with hp;subst hp;exact (show List.Perm ([0,1]:List Int) (ofT [(0,0,2),(0,1,2),(1,0,2),(1,1,2)] ((1:Nat):Int)) by decide)
 wr:=show ∀w∈([(0,0,2),(0,1,2),(1,0,2),(1,1,2)]:List Wy),(0<=w.1/\w.1 < ((2:Nat):Int))/\(0<=w.2.1/\w.2.1 < ((2:Nat):Int))/\1<=w.2.2/\w.2.2<=9 by decide
 wp:=by decide
 wl:=by decide
def j4(f:Nat->Int):Nat->List (List Int)->List Pl|_,[]=>[]|k,r::rs=>(f k,r)::j4 f (k+1) rs
theorem iZ(f:Nat->Int):∀ (rs:List (List Int)) (k:Nat),(j4 f k rs).length=rs.length
 | [],k=>rfl
 | r::rs,k=>by rw[j4,zL,zL,iZ f rs]
theorem jg(f:Nat->Int):∀ {rs:List (List Int)}{k i:Nat}{p:Pl},(j4 f k rs)[i]?=some p->∃r,rs[i]?=some r/\p=(f (k+i),r)
 | [],k,i,p,h=>by simp[j4] at h
 | r::rs,k,0,p,h=>by simp[j4] at h;exact⟨r,rfl,h.symm⟩
 | r::rs,k,i+1,p,h=>by
  simp only[j4,List.getElem?_cons_succ] at h
  obtain⟨y,h1,h2⟩:=jg f h
  exact⟨y,by simpa using h1,by rw[h2];congr 2;omega⟩
theorem eW:∀ {a b:List (List Int)},qJ a b->a.length=b.length
 | [],[],_=>rfl
 | x::a,y::b,h=>by rw[zL,zL,eW h.2]
 | [],_::_,h=>h.elim
 | _::_,[],h=>h.elim
theorem oC:∀ {a b:List (List Int)}{i:Nat}{r:List Int},qJ a b->a[i]?=some r->∃s,b[i]?=some s/\r.Perm s
 | [],[],i,r,_,h=>by simp at h
 | x::a,y::b,0,r,h,e=>by
  simp only[List.getElem?_cons_zero,yM] at e
  subst e
  exact⟨y,rfl,h.1⟩
 | x::a,y::b,i+1,r,h,e=>by
  simp only[List.getElem?_cons_succ] at e
  obtain⟨s,h1,h2⟩:=oC h.2 e
  exact⟨s,by simpa using h1,h2⟩
 | [],_::_,i,r,h,_=>h.elim
 | _::_,[],i,r,h,_=>h.elim
def lQ(W:List Wy)(m:Nat):List (List Int):=(List.range m).map fun i=>B5 W ((i:Nat):Int)
def gc(W:List Wy)(m:Nat):List (List Int):=(List.range m).map fun i=>ofT W ((i:Nat):Int)
theorem JX{m s:Nat}{W:List Wy}{mine yours:List (List Int)}{f g:Nat->Int}(m1:1<=m)(m4:m<=4)(s1:1<=s)(s4:s<=4)(hf:∀k,0<=f k/\f k<=9)(hg:∀k,0<=g k/\g k<=9)
  (hm:qJ mine (lQ W m)) (hy:qJ yours (gc W s)) (wr:∀w∈W,(0<=w.1/\w.1 < m)/\(0<=w.2.1/\w.2.1 < s)/\1<=w.2.2/\w.2.2<=9) (wp:tT W) (wl:W.length<=16):Wd (j4 f 0 mine) (j4 g 0 yours) W:=by
 have lm:(j4 f 0 mine).length=m:=by rw[iZ,eW hm,lQ,zD,zS]
 have ly:(j4 g 0 yours).length=s:=by rw[iZ,eW hy,gc,zD,zS]
 have am:∀ {h:Nat->Int}{rs:List (List Int)},(∀k,0<=h k/\h k<=9)->∀p∈j4 h 0 rs,0<=p.1/\p.1<=9:=fun {h rs} hh p hp=>by
  obtain⟨i,hi⟩:=List.mem_iff_getElem?.mp hp
  obtain⟨r,_,rfl⟩:=jg h hi
  exact hh _
 refine⟨by omega,by omega,by omega,by omega,am hf,am hg,fun i p hp=>?_,fun i p hp=>?_,by rw[lm,ly];exact wr,wp,wl⟩
 ·obtain⟨r,h1,rfl⟩:=jg f hp
  obtain⟨t,h2,h3⟩:=oC hm h1
  rw[lQ,zO] at h2
  obtain⟨k,hk,rfl⟩:=Option.map_eq_some_iff.mp h2
  have:k=i:=by
   rw[zU] at hk
   obtain⟨h,e⟩:=hk
   rw[List.getElem_range] at e
   exact e.symm
  subst this
  exact h3
 ·obtain⟨r,h1,rfl⟩:=jg g hp
  obtain⟨t,h2,h3⟩:=oC hy h1
  rw[gc,zO] at h2
  obtain⟨k,hk,rfl⟩:=Option.map_eq_some_iff.mp h2
  have:k=i:=by
   rw[zU] at hk
   obtain⟨h,e⟩:=hk
   rw[List.getElem_range] at e
   exact e.symm
  subst this
  exact h3
theorem ck{i:Nat}{fz:List Nat}{f:Dl.Env->Option D}{ρ ρ':aj}{d:D}(hf:f (bA ρ)=some d)(hs:Dl.qm d=false)(hh:hand fz 0 ρ=ρ')(hv:bY ρ'=bA ρ)(hr:lP d=false\/ρ'=ρ:=by first|exact .inr rfl|exact .inl rfl):Dl.az i fz f ρ=some (.nx (ρ'.set i (.val d))):=by
 rcases hr with hr|hr
 ·simp only[Dl.az,hf,zA,hs,Bool.false_eq_true,if_false,hh,hv,zB,hr]
 ·subst hr
  simp only[Dl.az,hf,zA,hs,Bool.false_eq_true,if_false,hh,hv,zB,ite_self]
theorem di{i:Nat}{fz:List Nat}{f:Dl.Env->Option D}{ρ:aj}{d:D}(hf:f (bA ρ)=some d)(hs:Dl.qm d=true):Dl.az i fz f ρ=some (.nx (ρ.set i (.val d))):=by
 simp only[Dl.az,hf,zA,hs,if_true]
theorem Ku(w:Wy):au (ao w) (.int 0)=some (.int w.1):=rfl
theorem Ks(w:Wy):au (ao w) (.int 1)=some (.int w.2.1):=rfl
theorem Bv(a b c:D):small [a,b,c]=some [a,b,c]:=rfl
theorem NG{a b s:Int}(hs:s=1\/s=2\/s=3)(h:a < b):a / s < b / s\/(a / s=b / s/\a % s < b % s):=by rcases hs with rfl|rfl|rfl<;>omega
theorem Lm{k m s:Int}(hs:s=1\/s=2\/s=3)(hm:m=1\/m=2\/m=3)(h0:0<=k)(h:k < m * s):(0<=k / s/\k / s < m)/\0<=k % s/\k % s < s:=by
 rcases hs with rfl|rfl|rfl<;>rcases hm with rfl|rfl|rfl<;>omega
def lB:aj->Option Out:=(hC (oX (fB (f2 Ey (aU bq (aa (ab 7) ae)) (ab 2))) (fB (f2 zz (ah 3 ak (aa (ab 0) (aa (f2 aA (f2 aA (ab 1) (fC (.int 2))) (ab 8)) (aa (fC (.int 4)) ae)))) (fC (.int 0))))) (kZ 7 [0,1,6,8] (aC (aa (f2 nE (ab 8) (ab 6)) (aa (f2 lL (ab 8) (ab 6)) (aa (f2 aA (fC (.int 1)) (ah 3 ak (aa (ab 0) (aa (f2 aA (f2 aA (ab 1) (fC (.int 12))) (ab 8)) (aa (fC (.int 2)) ae))))) ae))))) gN)
abbrev st(ns:List Int)(a mo m s:Int)(x4 x7 x8 x9 x10 x11:Slot):aj:=[.val (bW ns),.val (.int a),.val (.int mo),.non,x4,.val (.int m),.val (.int s),x7,x8,x9,x10,x11]
def Jc(ns:List Int)(a mo s k:Int)(W:List Wy):List Wy:=if (W.length:Int) < mo/\0 < dr ns (a+2+k) 4 then W++[(k / s,k % s,1+dr ns (a+12+k) 2)] else W
theorem M3{ns:List Int}{a mo m s k:Int}{W:List Wy}(hl:ns.length<=63)(hs:s=1\/s=2\/s=3)(hw:W.length<=9) :
  lB (st ns a mo m s .non (.own (W.map ao)) (.val (.int k)) .non .non .non)=some (.nx (st ns a mo m s .non (.own ((Jc ns a mo s k W).map ao)) (.val (.int k)) .non .non .non)):=by
 have hs0:0 < s:=by omega
 have hz:W.length < sizeLine:=Nat.lt_of_le_of_lt hw (by decide)
 have hd:Dl.nE (.int k) (.int s)=some (.int (k / s)):=kg ⟨hs0,by omega⟩
 have hm:Dl.lL (.int k) (.int s)=some (.int (k % s)):=iY hs0
 have e4:=uE (ns:=ns) (a+2+k) 4 hl (by decide)
 have e2:=uE (ns:=ns) (a+12+k) 2 hl (by decide)
 have hh:hand [0,1,6,8] 0 (st ns a mo m s .non (.own (W.map ao)) (.val (.int k)) .non .non .non)=st ns a mo m s .non (.own (W.map ao)) (.val (.int k)) .non .non .non:=rfl
 have ha:kZ 7 [0,1,6,8] (aC (aa (f2 nE (ab 8) (ab 6)) (aa (f2 lL (ab 8) (ab 6)) (aa (f2 aA (fC (.int 1)) (ah 3 ak (aa (ab 0) (aa (f2 aA (f2 aA (ab 1) (fC (.int 12))) (ab 8)) (aa (fC (.int 2)) ae))))) ae)))) (st ns a mo m s .non (.own (W.map ao)) (.val (.int k)) .non .non .non)=some (.nx (st ns a mo m s .non (.own ((W++[(k / s,k % s,1+dr ns (a+12+k) 2)]).map ao)) (.val (.int k)) .non .non .non)):=by
  simp only[kZ,lR,hh,bY,zI,List.map_nil]
  simp! [xX,Bool.false_eq_true,nI,hd,hm,e2,Bv,zD,hz,List.set_cons_succ,List.set_cons_zero,List.map_append]
  rfl
 by_cases c1:(W.length:Int) < mo
 ·by_cases c2:0 < dr ns (a+2+k) 4
  ·rw[show Jc ns a mo s k W=W++[(k / s,k % s,1+dr ns (a+12+k) 2)] from if_pos ⟨c1,c2⟩,<- ha]
   simp! [lB,mJ,gq,zD,c1,c2,decide_true,hV,e4]
  ·rw[show Jc ns a mo s k W=W from if_neg fun h=>c2 h.2]
   simp! [lB,mJ,gq,zD,c1,c2,decide_true,decide_false,hV,e4,Bool.false_eq_true]
 ·rw[show Jc ns a mo s k W=W from if_neg fun h=>c1 h.1]
  simp! [lB,mJ,gq,zD,c1,decide_false,hV,Bool.false_eq_true]
structure Ew(mo s k:Int)(W:List Wy):Prop where
 mem:∀w∈W,∃j:Int,0<=j/\j < k/\w.1=j / s/\w.2.1=j % s/\1<=w.2.2/\w.2.2<=2
 ris:tT W
 len:(W.length:Int)<=k
 lem:(W.length:Int)<=mo
theorem Ew.next{ns:List Int}{a mo s k:Int}{W:List Wy}(hl:ns.length<=63)(hs:s=1\/s=2\/s=3)(hk:0<=k)(h:Ew mo s k W):Ew mo s (k+1) (Jc ns a mo s k W):=by
 have old:∀w∈W,∃j:Int,0<=j/\j < k+1/\w.1=j / s/\w.2.1=j % s/\1<=w.2.2/\w.2.2<=2:=fun w hw=>by
  obtain⟨j,a,b,c⟩:=h.mem w hw
  exact⟨j,a,by omega,c⟩
 by_cases c:(W.length:Int) < mo/\0 < dr ns (a+2+k) 4
 ·rw[show Jc ns a mo s k W=W++[(k / s,k % s,1+dr ns (a+12+k) 2)] from if_pos c]
  have g1:=Ko (ns:=ns) (a+12+k) 2 hl (by decide)
  have g2:=KQ (ns:=ns) (a+12+k) 2 hl (by decide)
  refine⟨fun w hw=>?_,?_,?_,?_⟩
  ·rcases List.mem_append.mp hw with hw|hw
   ·exact old w hw
   ·rw[yL] at hw
    subst hw
    exact⟨k,hk,by omega,rfl,rfl,by simp only;omega,by simp only;omega⟩
  ·refine List.pairwise_append.mpr ⟨h.ris,List.pairwise_singleton _ _,fun a ha b hb=>?_⟩
   rw[yL] at hb
   subst hb
   obtain⟨j,_,b,c1,c2,_⟩:=h.mem a ha
   rw[c1,c2]
   exact NG hs b
  ·have:=h.len;rw[zN,List.length_singleton];omega
  ·have:=c.1;rw[zN,List.length_singleton];omega
 ·rw[show Jc ns a mo s k W=W from if_neg c]
  exact⟨old,h.ris,by have:=h.len;omega,h.lem⟩
theorem F4{ns:List Int}{a mo m s:Int}(hl:ns.length<=63)(hs:s=1\/s=2\/s=3):∀ (n k:Nat) {W:List Wy}{x8:Slot},k+n<=9->Ew mo s k W ->
  ∃W' t8,cH (lA 8) lB ((List.range' k n).map fun i=>PyData.int ((i:Nat):Int)) (st ns a mo m s .non (.own (W.map ao)) x8 .non .non .non)=some (.nx (st ns a mo m s .non (.own (W'.map ao)) t8 .non .non .non))/\(n=0/\t8=x8\/∃d,t8=.val d)/\Ew mo s ((k+n:Nat):Int) W'
 | 0,k,W,x8,hk,h=>⟨W,x8,rfl,.inl ⟨rfl,rfl⟩,h⟩
 | n+1,k,W,x8,hk,h=>by
  have h':Ew mo s ((k+1:Nat):Int) (Jc ns a mo s k W):=by
   have:=h.next (ns:=ns) (a:=a) hl hs (by omega)
   rwa [show ((k:Int)+1)=((k+1:Nat):Int) by omega] at this
  obtain⟨W',t8,e,q,b⟩:=F4 hl hs n (k+1) (W:=Jc ns a mo s k W) (x8:=.val (.int (k:Nat))) (by omega) h'
  refine⟨W',t8,?_,.inr (q.elim (fun z=>⟨_,z.2⟩) id),by rw[show k+(n+1)=k+1+n by omega];exact b⟩
  have hsg:∀d,lA 8 (st ns a mo m s .non (.own (W.map ao)) x8 .non .non .non) d=some (st ns a mo m s .non (.own (W.map ao)) (.val d) .non .non .non):=fun d=>rfl
  rw[List.range'_succ,zI,cH,hsg,zA,M3 hl hs (by have:=h.len;omega)]
  exact e
theorem Qk(W:List Wy)(i:Int)(hw:W.length<=20):aq 1 [0] (aO (ab 1)) (fG 0) (fB (f2 bQ (f2 au (ab 0) (fC (.int 0))) (ab 1))) (f2 au (ab 0) (fC (.int 1))) [some (.int i),some (.list (W.map ao))]=some ((B5 W i).map PyData.int):=by
 rw[mP (ds:=W.map ao) (p:=fun d=>decide (jl ((cQ d).getD 0 .none)=i)) (h:=fun d=>(cQ d).getD 1 .none) rfl (by rw[zD];omega) (fun d hd=>?_) fun d hd _=>?_]
 ·rw[List.filter_map,zM,B5,zM];rfl
 ·obtain⟨w,_,rfl⟩:=zQ.mp hd
  simp! [Ku,cY,hV]
  rfl
 ·obtain⟨w,_,rfl⟩:=zQ.mp hd
  simp! [Ks]
  rfl
theorem Ql(W:List Wy)(i:Int)(hw:W.length<=20):aq 1 [0] (aO (ab 1)) (fG 0) (fB (f2 bQ (f2 au (ab 0) (fC (.int 1))) (ab 1))) (f2 au (ab 0) (fC (.int 0))) [some (.int i),some (.list (W.map ao))]=some ((ofT W i).map PyData.int):=by
 rw[mP (ds:=W.map ao) (p:=fun d=>decide (jl ((cQ d).getD 1 .none)=i)) (h:=fun d=>(cQ d).getD 0 .none) rfl (by rw[zD];omega) (fun d hd=>?_) fun d hd _=>?_]
 ·rw[List.filter_map,zM,ofT,zM];rfl
 ·obtain⟨w,_,rfl⟩:=zQ.mp hd
  simp! [Ks,cY,hV]
  rfl
 ·obtain⟨w,_,rfl⟩:=zQ.mp hd
  simp! [Ku]
  rfl
theorem vL{m:Nat}(hm:m<=1000):BO ((m:Nat):Int)=true:=by
 unfold BO
 rw[zF,zJ,zJ]
 have h1:(0:Int)<=(m:Int):=Int.natCast_nonneg m
 have h2:(m:Int)<=1000:=by omega
 exact⟨Int.le_trans (by decide) h1,Int.lt_of_le_of_lt h2 (by decide)⟩
theorem yX{j:Int}(h:BO j=true):kR [.int j]=some ((List.range j.toNat).map fun i=>PyData.int ((i:Nat):Int)):=by
 rw[kR,if_pos h]
theorem vj{fi:Dl.Env->Option D}{ρ:Dl.Env}(m:Nat)(hm:m<=1000)(h:fi ρ=some (.int (m:Nat))):bj (aa fi ae) ρ=some ((List.range m).map fun i=>PyData.int ((i:Nat):Int)):=by
 have e:aa fi ae ρ=some [.int ((m:Nat):Int)]:=by simp only[aa,ae,h,zA,zB]
 have e2:bj (aa fi ae) ρ=(aa fi ae ρ).bind kR:=rfl
 rw[e2,e,zA,yX (vL hm),yH]
theorem J2{W:List Wy}{m:Nat}{i7 i5:Nat}{ρ:Dl.Env}(hw:W.length<=20)(hm:m<=1000)(h5:ab i5 ρ=some (.int (m:Nat)))(h7:(ρ[i7]?).getD none=some (.list (W.map ao))) :
  aq 1 [i7] (bj (aa (ab i5) ae)) (fG 0) (fun _=>some true) (cx (aq 1 [0] (aO (ab 1)) (fG 0) (fB (f2 bQ (f2 au (ab 0) (fC (.int 0))) (ab 1))) (f2 au (ab 0) (fC (.int 1))))) ρ=some ((lQ W m).map cw):=by
 rw[cq (h:=fun d=>cw (B5 W (jl d))) (vj m hm h5) (by rw[zD,zS];omega) fun d hd=>?_]
 ·rw[lQ,zM,zM];rfl
 ·obtain⟨i,_,rfl⟩:=zQ.mp hd
  simp only[zI,List.map_nil,h7,cx,Qk W _ hw,zB,cw,jl]
theorem Ke{W:List Wy}{m:Nat}{i7 i5:Nat}{ρ:Dl.Env}(hw:W.length<=20)(hm:m<=1000)(h5:ab i5 ρ=some (.int (m:Nat)))(h7:(ρ[i7]?).getD none=some (.list (W.map ao))) :
  aq 1 [i7] (bj (aa (ab i5) ae)) (fG 0) (fun _=>some true) (cx (aq 1 [0] (aO (ab 1)) (fG 0) (fB (f2 bQ (f2 au (ab 0) (fC (.int 1))) (ab 1))) (f2 au (ab 0) (fC (.int 0))))) ρ=some ((gc W m).map cw):=by
 rw[cq (h:=fun d=>cw (ofT W (jl d))) (vj m hm h5) (by rw[zD,zS];omega) fun d hd=>?_]
 ·rw[gc,zM,zM];rfl
 ·obtain⟨i,_,rfl⟩:=zQ.mp hd
  simp only[zI,List.map_nil,h7,cx,Ql W _ hw,zB,cw,jl]
def KE(c:Int):Dl.Env->Option D:=(aC (aa (ah 3 ak (aa (ab 2) (aa (f2 aA (f2 aA (ab 3) (fC (.int c))) (ab 0)) (aa (fC (.int 4)) ae)))) (aa (ab 1) ae)))
theorem Ov{ns:List Int}{a:Int}(c:Int)(hl:ns.length<=63):∀ (mine:List (List Int)) (k:Nat),cO (gw 0 1) (fun _=>some true) (KE c) [none,none,some (bW ns),some (.int a)] (bK k (mine.map af))=some ((j4 (fun k=>dr ns (a+c+((k:Nat):Int)) 4) k mine).map aW)
 | [],k=>rfl
 | r::mine,k=>by
  have hg:gw 0 1 [none,none,some (bW ns),some (.int a)] (.tuple [.int ((k:Nat):Int),af r])=some [some (.int ((k:Nat):Int)),some (af r),some (bW ns),some (.int a)]:=rfl
  have he:KE c [some (.int ((k:Nat):Int)),some (af r),some (bW ns),some (.int a)]=some (aW (dr ns (a+c+((k:Nat):Int)) 4,r)):=by
   simp! [KE,uE (ns:=ns) (a+c+((k:Nat):Int)) 4 hl (by decide),BB,aW]
  have ih:=Ov (a:=a) c hl mine (k+1)
  rw[zI,bK,cO,hg]
  simp only[zA,if_true,he,ih,zB,j4,zI]
theorem lb:∀ (ds:List D) (k:Nat),(bK k ds).length=ds.length
 | [],k=>rfl
 | d::ds,k=>by rw[bK,zL,zL,lb ds]
theorem xc{ns:List Int}{a c:Int}{i9:Nat}{ρ:Dl.Env}{mine:List (List Int)}(hl:ns.length<=63)(hm:mine.length<=1000)(h9:ab i9 ρ=some (.list (mine.map af)))(h0:(ρ[0]?).getD none=some (bW ns))(h1:(ρ[1]?).getD none=some (.int a)) :
  aU bo (aa (cx (aq 2 [0,1] (bx (aa (ab i9) ae)) (gw 0 1) (fun _=>some true) (KE c))) ae) ρ=some (.tuple ((j4 (fun k=>dr ns (a+c+((k:Nat):Int)) 4) 0 mine).map aW)):=by
 have hi:bx (aa (ab i9) ae) ρ=some (bK 0 (mine.map af)):=by
  simp only[bx,aa,ae,h9,zA,zB,dO,oneOf,fY]
 have hc:aq 2 [0,1] (bx (aa (ab i9) ae)) (gw 0 1) (fun _=>some true) (KE c) ρ=some ((j4 (fun k=>dr ns (a+c+((k:Nat):Int)) 4) 0 mine).map aW):=by
  simp only[aq,hi,zA,fA,zI,List.map_nil,h0,h1,List.replicate,List.cons_append,List.nil_append,Ov c hl]
  exact bD (by rw[zD,iZ];omega)
 simp only[aU,aa,ae,cx,hc,zB,zA,bo,dO,oneOf,fY]
theorem ai{g1 g2:aj->Option Out}{ρ ρ':aj}(h:g1 ρ=some (.nx ρ')):av g1 g2 ρ=g2 ρ':=by
 simp only[av,h,zA]
theorem aI{g:aj->Option Out}{n:Nat}{args:List D}{d:D}(h:g (args.map Slot.val++List.replicate (n - args.length) .non)=some (.rt d)):ba g n args=some d:=by
 simp only[ba,h,zB]
theorem jj{g:D->D->Option D}{fa fb:Dl.Env->Option D}{ρ:Dl.Env}{a b:D}(ha:fa ρ=some a)(hb:fb ρ=some b):f2 g fa fb ρ=g a b:=by
 simp only[f2,ha,hb,zA]
theorem L0{ns:List Int}{a mo:Int}{m s:Nat}(m1:m<=3)(s1:s<=3):f2 ej (ab 5) (ab 6) (bY (st ns a mo m s .non (.own []) .non .non .non .non))=some (.int ((m * s:Nat):Int)):=by
 have h:Dl.ej (.int (m:Int)) (.int (s:Int))=some (.int ((m:Int) * (s:Int))):=eD (l4 (by omega))
 rw[jj (a:=.int (m:Int)) (b:=.int (s:Int)) rfl rfl,h,Int.natCast_mul]
theorem Mo{ns:List Int}{a mo:Int}{m s:Nat}(m1:m<=3)(s1:s<=3)(hms:m * s<=9){W:List Wy}{t8:Slot}(e: cH (lA 8) lB ((List.range' 0 (m * s)).map fun i=>PyData.int ((i:Nat):Int)) (st ns a mo m s .non (.own (([]:List Wy).map ao)) .non .non .non .non)=some (.nx (st ns a mo m s .non (.own (W.map ao)) t8 .non .non .non))):cM [5,6] (bj (aa (f2 ej (ab 5) (ab 6)) ae)) (lA 8) lB (st ns a mo m s .non (.own []) .non .non .non .non)=some (.nx (st ns a mo m s .non (.own (W.map ao)) t8 .non .non .non)):=by
 have hh:hand [5,6] 0 (st ns a mo m s .non (.own []) .non .non .non .non)=st ns a mo m s .non (.own []) .non .non .non .non:=rfl
 have hr:=vj (fi:=f2 ej (ab 5) (ab 6)) (ρ:=bY (st ns a mo m s .non (.own []) .non .non .non .non)) (m * s) (by omega) (L0 m1 s1)
 rw[yI] at hr
 rw[List.map_nil] at e
 simp only[cM,hh,hr,zA]
 exact e
structure Pk(mo:Int)(G T:List Pl)(W:List Wy):Prop where
 g3:G.length<=3
 t3:T.length<=3
 w2:∀w∈W,w.2.2<=2
 ga:∀p∈G,p.1<=3
 ta:∀p∈T,p.1<=3
 wm:(W.length:Int)<=mo
theorem wu{ns:List Int}{a mo:Int}(hl:ns.length<=63)(hmo:3 < mo)(c:dr ns (a+64) 4=0):∃G T W,cC [bW ns,.int a,.int mo]=some (ax G T W)/\Wd G T W/\Pk mo G T W:=by
 have e64:=uE (ns:=ns) (a+64) 4 hl (by decide)
 have e65:=gS (ns:=ns) (a+65) 2 hl (by decide)
 refine⟨_,_,_,?_,C4 (c:=1+dr ns (a+65) 2) (by omega) (by omega),⟨by simp,by simp,by decide,fun p hp=>?_,fun p hp=>?_,by simp;omega⟩⟩
 rotate_left
 ·simp only[zR,yG,or_false] at hp;rcases hp with rfl|rfl<;>(simp only;omega)
 ·simp only[zR,yG,or_false] at hp;rcases hp with rfl|rfl<;>(simp only;omega)
 have s1:Dl.az 3 [0,1] (f2 aA (fC (.int 1)) (ah 3 ak (aa (ab 0) (aa (f2 aA (ab 1) (fC (.int 65))) (aa (fC (.int 2)) ae))))) [.val (bW ns),.val (.int a),.val (.int mo),.non,.non,.non,.non,.non,.non,.non,.non,.non]=some (.nx [.val (bW ns),.val (.int a),.val (.int mo),.val (.int (1+dr ns (a+65) 2)),.non,.non,.non,.non,.non,.non,.non,.non]) :=
  di (d:=.int (1+dr ns (a+65) 2)) (by simp! [e65.1]) rfl
 generalize 1+dr ns (a+65) 2=x at *
 have s2:Dl.az 4 [3] (aC (aa (aC (aa (ab 3) (aa (aC (aa (fC (.int 1)) (aa (fC (.int 0)) ae))) ae))) (aa (aC (aa (ab 3) (aa (aC (aa (fC (.int 0)) (aa (fC (.int 1)) ae))) ae))) ae))) [.val (bW ns),.val (.int a),.val (.int mo),.val (.int x),.non,.non,.non,.non,.non,.non,.non,.non]=some (.nx [.val (bW ns),.val (.int a),.val (.int mo),.val (.int x),.val (.tuple [aW (x,[1,0]),aW (x,[0,1])]),.non,.non,.non,.non,.non,.non,.non]) :=
  ck (d:=.tuple [aW (x,[1,0]),aW (x,[0,1])]) (by simp! [BB];rfl) rfl rfl rfl
 simp! [cC,eE,gq,e64,c,cY,decide_true,hV,show decide ((3:Int) < mo)=true from yB hmo,s1,s2,BB,Bv,show ∀a b c d:D,small [a,b,c,d]=some [a,b,c,d] from fun _ _ _ _=>rfl]
 rfl
theorem uY{ns:List Int}{a mo:Int}(hl:ns.length<=63)(hm0:0<=mo)(c:¬ (3 < mo/\dr ns (a+64) 4=0)):∃G T W,cC [bW ns,.int a,.int mo]=some (ax G T W)/\Wd G T W/\Pk mo G T W:=by
 have e64:=uE (ns:=ns) (a+64) 4 hl (by decide)
 have em:=gS (ns:=ns) a 3 hl (by decide)
 have es:=gS (ns:=ns) (a+1) 3 hl (by decide)
 obtain⟨m,hm⟩:=Int.eq_ofNat_of_zero_le (show 0<=1+dr ns a 3 by omega)
 obtain⟨s,hs⟩:=Int.eq_ofNat_of_zero_le (show 0<=1+dr ns (a+1) 3 by omega)
 have m1:1<=m/\m<=3:=by omega
 have s1:1<=s/\s<=3:=by omega
 have hs':(s:Int)=1\/(s:Int)=2\/(s:Int)=3:=by omega
 have hm':(m:Int)=1\/(m:Int)=2\/(m:Int)=3:=by omega
 have t5:Dl.az 5 [0,1] (f2 aA (fC (.int 1)) (ah 3 ak (aa (ab 0) (aa (ab 1) (aa (fC (.int 3)) ae))))) [.val (bW ns),.val (.int a),.val (.int mo),.non,.non,.non,.non,.non,.non,.non,.non,.non]=some (.nx [.val (bW ns),.val (.int a),.val (.int mo),.non,.non,.val (.int (m:Nat)),.non,.non,.non,.non,.non,.non]) :=
  di (d:=.int (m:Nat)) (by simp! [em.1,hm]) rfl
 have t6:Dl.az 6 [0,1] (f2 aA (fC (.int 1)) (ah 3 ak (aa (ab 0) (aa (f2 aA (ab 1) (fC (.int 1))) (aa (fC (.int 3)) ae))))) [.val (bW ns),.val (.int a),.val (.int mo),.non,.non,.val (.int (m:Nat)),.non,.non,.non,.non,.non,.non]=some (.nx (st ns a mo m s .non .non .non .non .non .non)) :=
  di (d:=.int (s:Nat)) (by simp! [es.1,hs]) rfl
 have t7:aM 7 [] (eV ae) (st ns a mo m s .non .non .non .non .non .non)=some (.nx (st ns a mo m s .non (.own []) .non .non .non .non)):=by
  simp only[aM,mE,eV,ae,zA,jd,zB,List.set_cons_succ,List.set_cons_zero]
 have hms:m * s<=9:=Nat.mul_le_mul m1.2 s1.2
 have hms1:1<=m * s:=Nat.mul_le_mul m1.1 s1.1
 obtain⟨W,t8,e,h8,I⟩:=F4 (ns:=ns) (a:=a) (m:=m) (s:=s) hl hs' (m * s) 0 (W:=[]) (x8:=.non) (by omega) (mo:=mo) ⟨fun w hw=>(by cases hw),List.Pairwise.nil,by decide,hm0⟩
 rw[Nat.zero_add] at I
 obtain⟨d8,rfl⟩:∃d,t8=.val d:=h8.elim (fun z=>by omega) id
 have hlen9:W.length<=9:=by have:=I.len;omega
 have tf:=Mo m1.2 s1.2 hms e
 unfold lB at tf
 have hwl:W.length<=20:=by omega
 have wr:∀w∈W,(0<=w.1/\w.1 < m)/\(0<=w.2.1/\w.2.1 < s)/\1<=w.2.2/\w.2.2<=9:=fun w hw=>by
  obtain⟨j,j0,jk,ea,b,c1,c2⟩:=I.mem w hw
  have:=Lm hs' hm' j0 (by rw[<- Int.natCast_mul];exact jk)
  rw[ea,b]
  exact⟨this.1,this.2,c1,by omega⟩
 have lenG:∀r∈lQ W m,r.length<=1000:=fun r hr=>by
  obtain⟨i,_,rfl⟩:=zQ.mp hr
  rw[B5,zD]
  exact yE (List.length_filter_le _ _) (by omega)
 have lenT:∀r∈gc W s,r.length<=1000:=fun r hr=>by
  obtain⟨i,_,rfl⟩:=zQ.mp hr
  rw[ofT,zD]
  exact yE (List.length_filter_le _ _) (by omega)
 obtain⟨mine,om,pm⟩:=wZ (ns:=ns) (a:=a+24) (rows:=lQ W m) hl lenG (by rw[lQ,zD,zS];omega)
 obtain⟨yours,oy,py⟩:=wZ (ns:=ns) (a:=a+40) (rows:=gc W s) hl lenT (by rw[gc,zD,zS];omega)
 have lm:mine.length<=1000:=by rw[eW pm,lQ,zD,zS];omega
 have ly:yours.length<=1000:=by rw[eW py,gc,zD,zS];omega
 have t9:Dl.az 9 [0,1,5,7] (ah 3 bO (aa (ab 0) (aa (f2 aA (ab 1) (fC (.int 24))) (aa (cx (aq 1 [7] (bj (aa (ab 5) ae)) (fG 0) (fun _=>some true) (cx (aq 1 [0] (aO (ab 1)) (fG 0) (fB (f2 bQ (f2 au (ab 0) (fC (.int 0))) (ab 1))) (f2 au (ab 0) (fC (.int 1))))))) ae)))) (st ns a mo m s .non (.own (W.map ao)) (.val d8) .non .non .non)=some (.nx (st ns a mo m s .non (.val (.list (W.map ao))) (.val d8) (.val (.list (mine.map af))) .non .non)):=by
  refine (ck (ρ':=st ns a mo m s .non (.val (.list (W.map ao))) (.val d8) .non .non .non) (d:=.list (mine.map af)) ?_ rfl rfl ?_).trans rfl
  ·have q:=J2 (ρ:=bA (st ns a mo m s .non (.own (W.map ao)) (.val d8) .non .non .non)) (i5:=5) (i7:=7) hwl (show m<=1000 by omega) rfl rfl
   simp only[ah,aa,ae,cx,q,zB,zA]
   simp! [om]
  ·simp only[st,bY,bA,zI,List.map_nil];rfl
 have t10:Dl.az 10 [0,1,6,7] (ah 3 bO (aa (ab 0) (aa (f2 aA (ab 1) (fC (.int 40))) (aa (cx (aq 1 [7] (bj (aa (ab 6) ae)) (fG 0) (fun _=>some true) (cx (aq 1 [0] (aO (ab 1)) (fG 0) (fB (f2 bQ (f2 au (ab 0) (fC (.int 1))) (ab 1))) (f2 au (ab 0) (fC (.int 0))))))) ae)))) (st ns a mo m s .non (.val (.list (W.map ao))) (.val d8) (.val (.list (mine.map af))) .non .non)=some (.nx (st ns a mo m s .non (.val (.list (W.map ao))) (.val d8) (.val (.list (mine.map af))) (.val (.list (yours.map af))) .non)):=by
  refine (ck (ρ':=st ns a mo m s .non (.val (.list (W.map ao))) (.val d8) (.val (.list (mine.map af))) .non .non) (d:=.list (yours.map af)) ?_ rfl ?_ ?_).trans rfl
  ·have q:=Ke (ρ:=bA (st ns a mo m s .non (.val (.list (W.map ao))) (.val d8) (.val (.list (mine.map af))) .non .non)) (i5:=6) (i7:=7) hwl (show s<=1000 by omega) rfl rfl
   simp only[ah,aa,ae,cx,q,zB,zA]
   simp! [oy]
  ·rfl
  ·simp only[st,bY,bA,zI,List.map_nil];rfl
 have t11:Dl.az 11 [0,1,8,9] (aU bo (aa (cx (aq 2 [0,1] (bx (aa (ab 9) ae)) (gw 0 1) (fun _=>some true) (KE 56))) ae)) (st ns a mo m s .non (.val (.list (W.map ao))) (.val d8) (.val (.list (mine.map af))) (.val (.list (yours.map af))) .non)=some (.nx (st ns a mo m s .non (.val (.list (W.map ao))) (.val d8) (.val (.list (mine.map af))) (.val (.list (yours.map af))) (.val (.tuple ((j4 (fun k=>dr ns (a+56+((k:Nat):Int)) 4) 0 mine).map aW))))):=by
  refine (ck (ρ':=st ns a mo m s .non (.val (.list (W.map ao))) (.val d8) (.val (.list (mine.map af))) (.val (.list (yours.map af))) .non) (xc hl lm rfl rfl rfl) rfl rfl ?_).trans rfl
  simp only[st,bY,bA,zI,List.map_nil];rfl
 have t4:∀G:D,Dl.az 4 [0,1,8,10] (aU bo (aa (cx (aq 2 [0,1] (bx (aa (ab 10) ae)) (gw 0 1) (fun _=>some true) (KE 60))) ae)) (st ns a mo m s .non (.val (.list (W.map ao))) (.val d8) (.val (.list (mine.map af))) (.val (.list (yours.map af))) (.val G))=some (.nx (st ns a mo m s (.val (.tuple ((j4 (fun k=>dr ns (a+60+((k:Nat):Int)) 4) 0 yours).map aW))) (.val (.list (W.map ao))) (.val d8) (.val (.list (mine.map af))) (.val (.list (yours.map af))) (.val G))):=fun G=>by
  refine (ck (ρ':=st ns a mo m s .non (.val (.list (W.map ao))) (.val d8) (.val (.list (mine.map af))) (.val (.list (yours.map af))) (.val G)) (xc hl ly rfl rfl rfl) rfl rfl ?_).trans rfl
  simp only[st,bY,bA,zI,List.map_nil];rfl
 refine⟨_,_,W,?_,JX (f:=fun k=>dr ns (a+56+((k:Nat):Int)) 4) (g:=fun k=>dr ns (a+60+((k:Nat):Int)) 4) m1.1 (by omega) s1.1 (by omega) (fun k=>?_) (fun k=>?_) pm py wr I.ris (by omega),⟨by rw[iZ,eW pm,lQ,zD,zS];omega,by rw[iZ,eW py,gc,zD,zS];omega,fun w hw=>(by obtain⟨j,_,_,_,_,_,z⟩:=I.mem w hw;exact z),fun p hp=>?_,fun p hp=>?_,I.lem⟩⟩
 ·unfold KE at t11 t4
  have tA:∀g,hC (oX (fB (f2 zz (ab 2) (fC (.int 3)))) (fB (f2 bQ (ah 3 ak (aa (ab 0) (aa (f2 aA (ab 1) (fC (.int 64))) (aa (fC (.int 4)) ae)))) (fC (.int 0))))) g gN [.val (bW ns),.val (.int a),.val (.int mo),.non,.non,.non,.non,.non,.non,.non,.non,.non]=some (.nx [.val (bW ns),.val (.int a),.val (.int mo),.non,.non,.non,.non,.non,.non,.non,.non,.non]):=fun g=>by
   by_cases c1:3 < mo
   ·have c2:¬ dr ns (a+64) 4=0:=fun z=>c ⟨c1,z⟩
    simp! [gq,e64,c1,c2,cY,decide_false,decide_true,hV,Bool.false_eq_true]
   ·simp! [gq,c1,decide_false,hV,Bool.false_eq_true]
  refine aI ?_
  show eE [.val (bW ns),.val (.int a),.val (.int mo),.non,.non,.non,.non,.non,.non,.non,.non,.non]=_
  unfold eE
  rw[ai (tA _),ai t5,ai t6,ai t7,ai tf,ai t9,ai t10,ai t11,ai (t4 _)]
  simp! [Bv,ax]
 ·have q:=gS (ns:=ns) (a+56+((k:Nat):Int)) 4 hl (by decide)
  exact⟨q.2.1,by omega⟩
 ·have q:=gS (ns:=ns) (a+60+((k:Nat):Int)) 4 hl (by decide)
  exact⟨q.2.1,by omega⟩
 ·obtain⟨i,hi⟩:=List.getElem?_of_mem hp
  obtain⟨r,_,rfl⟩:=jg _ hi
  have q:=gS (ns:=ns) (a+56+((0+i:Nat):Int)) 4 hl (by decide)
  simp only;omega
 ·obtain⟨i,hi⟩:=List.getElem?_of_mem hp
  obtain⟨r,_,rfl⟩:=jg _ hi
  have q:=gS (ns:=ns) (a+60+((0+i:Nat):Int)) 4 hl (by decide)
  simp only;omega
theorem wR{ns:List Int}{a mo:Int}(hl:ns.length<=63)(hm0:0<=mo):∃G T W,cC [bW ns,.int a,.int mo]=some (ax G T W)/\Wd G T W/\Pk mo G T W:=by
 by_cases c:3 < mo/\dr ns (a+64) 4=0
 ·exact wu hl c.1 c.2
 ·exact uY hl hm0 c
section
variable {G T:List Pl}{W:List Wy}
theorem KG(h:tT W):(W.map fun w=>[w.1,w.2.1]).Pairwise fun a b=>Dl.lexLt a b=true:=List.pairwise_map.mpr (h.imp fun hab=>PX hab)
theorem Gs(h:tT W):(W.map fun w=>[w.1,w.2.1]).Nodup:=(KG h).imp fun {a b} hab e=>by
 rw[e,cF] at hab
 cases hab
theorem G8(h:tT W){m:List (List Int)}(hn:m.Nodup)(hm:∀r,r∈W.map (fun w=>[w.1,w.2.1])↔r∈m):W.map (fun w=>[w.1,w.2.1])=oU m :=
 An ((List.perm_ext_iff_of_nodup (Gs h) hn).mpr hm) ((KG h).imp fun hab=>Oc hab)
theorem Wd.wok(h:Wd G T W):ON (ax G T W)=true:=by
 have hP:(W.map ao).map fX=W.map fun w=>[w.1,w.2.1]:=by rw[zM];rfl
 have hpg:∀i j:Int,[i,j]∈W.map (fun w=>[w.1,w.2.1])↔[i,j]∈my 0 (G.map aW):=fun i j=>by
  rw[pK]
  constructor
  ·intro hm
   obtain⟨w,hw,e⟩:=zQ.mp hm
   simp only[List.cons.injEq,and_true] at e
   have hr:=(h.wr w hw).1
   obtain⟨p,hp⟩:∃p,G[i.toNat]?=some p:=⟨G[i.toNat]'(by omega),zK (by omega)⟩
   refine⟨i.toNat,aW p,by rw[zO,hp];rfl,by omega,?_⟩
   rw[gH,(h.gl _ p hp).mem_iff,vX,show ((i.toNat:Nat):Int)=i by omega]
   exact hm
  ·rintro⟨m,p,hp,rfl,hj⟩
   rw[zO] at hp
   obtain⟨p',hp',rfl⟩:=Option.map_eq_some_iff.mp hp
   rw[gH,(h.gl m p' hp').mem_iff,vX] at hj
   rwa [Nat.zero_add]
 have hpt:∀i j:Int,[i,j]∈W.map (fun w=>[w.1,w.2.1])↔[j,i]∈my 0 (T.map aW):=fun i j=>by
  rw[pK]
  constructor
  ·intro hm
   obtain⟨w,hw,e⟩:=zQ.mp hm
   simp only[List.cons.injEq,and_true] at e
   have hr:=(h.wr w hw).2.1
   obtain⟨p,hp⟩:∃p,T[j.toNat]?=some p:=⟨T[j.toNat]'(by omega),zK (by omega)⟩
   refine⟨j.toNat,aW p,by rw[zO,hp];rfl,by omega,?_⟩
   rw[gH,(h.tl _ p hp).mem_iff,vQ,show ((j.toNat:Nat):Int)=j by omega]
   exact hm
  ·rintro⟨m,p,hp,rfl,hj⟩
   rw[zO] at hp
   obtain⟨p',hp',rfl⟩:=Option.map_eq_some_iff.mp hp
   rw[gH,(h.tl m p' hp').mem_iff,vQ] at hj
   rwa [Nat.zero_add]
 have two:∀ {r:List Int},r∈W.map (fun w=>[w.1,w.2.1])->∃i j,r=[i,j]:=fun hr=>by
  obtain⟨w,_,rfl⟩:=zQ.mp hr
  exact⟨_,_,rfl⟩
 have ng:∀ (L:List Pl),(∀p∈L,p.2.Nodup)->(my 0 (L.map aW)).Nodup:=fun L hL=>tO fun p hp=>by
  obtain⟨p',hp',rfl⟩:=zQ.mp hp
  rw[gH]
  exact hL p' hp'
 have e1:W.map (fun w=>[w.1,w.2.1])=oU (my 0 (G.map aW)):=G8 h.wp (ng G fun p hp=>by
   obtain⟨i,hi,e⟩:=List.getElem_of_mem hp
   exact (h.gl i p (by rw[zK hi,e])).nodup_iff.mpr (nQ h.wp i)) fun r=>⟨fun hr=>by
   obtain⟨i,j,rfl⟩:=two hr
   exact (hpg i j).mp hr,fun hr=>by
   obtain⟨i,j,rfl⟩:=lx r hr
   exact (hpg i j).mpr hr⟩
 have e2:W.map (fun w=>[w.1,w.2.1])=oU ((my 0 (T.map aW)).map List.reverse):=G8 h.wp (by
   exact List.pairwise_map.mpr (List.Pairwise.imp (fun {a b} hne e=>hne (List.reverse_inj.mp e)) (ng T fun p hp=>by
    obtain⟨i,hi,e⟩:=List.getElem_of_mem hp
    exact (h.tl i p (by rw[zK hi,e])).nodup_iff.mpr (oF h.wp i)))) fun r=>⟨fun hr=>by
   obtain⟨i,j,rfl⟩:=two hr
   exact zQ.mpr ⟨[j,i],(hpt i j).mp hr,rfl⟩,fun hr=>by
   obtain⟨r',hr',rfl⟩:=zQ.mp hr
   obtain⟨i,j,rfl⟩:=lx r' hr'
   exact (hpt j i).mpr hr'⟩
 have hw:(W.map ao).all (jX G.length T.length)=true:=by
  rw[List.all_eq_true]
  intro x hx
  obtain⟨w,hw,rfl⟩:=zQ.mp hx
  exact Dj (h.wr w hw)
 have hs:∀ {L:List Pl},1<=L.length->L.length<=4->oe (.tuple (L.map aW))=true:=fun {L} a b=>by
  simp only[oe,long,zD,zF,zJ];omega
 have h3:long 3 3 (ax G T W)=true:=rfl
 have hg:=h.gok
 have ht:=h.tok
 unfold ON z6
 rw[h3,Bool.true_and]
 simp only[ax,cQ,List.getD_cons_zero,List.getD_cons_succ,hP,<- e1,<- e2,decide_true,Bool.and_true,jG,hs h.g1 h.g4,hs h.t1 h.t4,zD,hg,ht,hw,KR]
end
def sI(b:Bool):Int:=if b then 1 else 0
def bz(b:Bool)(w:Wy):Int:=if b then w.2.1 else w.1
def cf(b:Bool)(w:Wy):Int:=bz (!b) w
def aD(b:Bool)(G T:List Pl):List Pl:=if b then T else G
theorem jQ(b:Bool)(G T:List Pl)(W:List Wy):au (ax G T W) (.int (sI b))=some (.tuple ((aD b G T).map aW)):=by cases b<;>rfl
theorem pJ(G T:List Pl)(W:List Wy):au (ax G T W) (.int 2)=some (.tuple (W.map ao)):=rfl
theorem p5(b:Bool)(w:Wy):au (ao w) (.int (sI b))=some (.int (bz b w)):=by cases b<;>rfl
theorem IF(b:Bool)(w:Wy):au (ao w) (.int (1 - sI b))=some (.int (cf b w)):=by cases b<;>rfl
theorem p8(w:Wy):au (ao w) (.int 2)=some (.int w.2.2):=rfl
theorem IP(p:Pl):au (aW p) (.int 0)=some (.int p.1):=rfl
theorem IQ(p:Pl):au (aW p) (.int 1)=some (af p.2):=rfl
theorem rQ{ds:List D}{i:Nat}{d:D}(h:ds[i]?=some d):au (.tuple ds) (.int ((i:Nat):Int))=some d:=by
 show vV ds (i:Nat)=_
 exact uV h
theorem Mu{ds:List D}{i:Nat}{d:D}(h:ds[i]?=some d):au (.list ds) (.int ((i:Nat):Int))=some d:=by
 show vV ds (i:Nat)=_
 exact uV h
theorem nV{α:Type}{f:α->D}{l:List α}{i:Nat}{x:α}(h:l[i]?=some x):au (.tuple (l.map f)) (.int ((i:Nat):Int))=some (f x):=rQ (by rw[zO,h];rfl)
theorem Ik{α:Type}{f:α->D}{l:List α}{i:Nat}{x:α}(h:l[i]?=some x):au (.list (l.map f)) (.int ((i:Nat):Int))=some (f x):=Mu (by rw[zO,h];rfl)
def Nt(b:Bool)(W:List Wy)(p:Int):List Int:=(W.filter fun w=>decide (bz b w=p)).map (cf b)
theorem Wd.lik{G T:List Pl}{W:List Wy}(h:Wd G T W){b:Bool}{i:Nat}{p:Pl}(e:(aD b G T)[i]?=some p):p.2.Perm (Nt b W i):=by
 cases b
 ·exact h.gl i p e
 ·exact h.tl i p e
theorem Wd.nod{G T:List Pl}{W:List Wy}(h:Wd G T W)(b:Bool)(i:Int):(Nt b W i).Nodup:=by
 cases b
 ·exact nQ h.wp i
 ·exact oF h.wp i
theorem qL{tt:Dl.Env->Option Bool}{te:Dl.Env->Option D}{r:List (Option D)}{p:Nat->D->Bool}{h:Nat->D->D}:∀ {ds:List D}{k:Nat},
  (∀i d,ds[i]?=some d->tt (some (.int ((k+i:Nat):Int))::some d::r)=some (p (k+i) d)/\(p (k+i) d=true->te (some (.int ((k+i:Nat):Int))::some d::r)=some (h (k+i) d))) ->
  cO (gw 0 1) tt te (none::none::r) (bK k ds)=some (((ds.zipIdx k).filter fun q=>p q.2 q.1).map fun q=>h q.2 q.1)
 | [],k,_=>rfl
 | d::ds,k,hh=>by
  obtain⟨h1,h2⟩:=hh 0 d rfl
  have ih:=qL (ds:=ds) (k:=k+1) fun i x hx=>by
   have:=hh (i+1) x (by simpa using hx)
   rw[show k+1+i=k+(i+1) by omega]
   exact this
  have hg:gw 0 1 (none::none::r) (.tuple [.int ((k:Nat):Int),d])=some (some (.int ((k:Nat):Int))::some d::r):=by
   simp only[gw,isFree,List.getElem?_cons_zero,List.getElem?_cons_succ,Option.getD_some,Option.isNone_none,and_self,if_true,List.set_cons_zero,List.set_cons_succ]
  rw[bK,cO,hg,List.zipIdx_cons]
  simp only[Nat.add_zero] at h1 h2
  simp only[zA,h1]
  cases hp:p k d with
  | true=>simp[h2 hp,ih,hp]
  | false=>simp[ih,hp]
theorem Dz{cs:List Nat}{fi:Dl.Env->Option (List D)}{tt:Dl.Env->Option Bool}{te:Dl.Env->Option D}{ρ:Dl.Env}{ds:List D}{p:Nat->D->Bool}{h:Nat->D->D}(hfi:fi ρ=some (bK 0 ds))(hl:ds.length<=1000)
  (hh:∀i d,ds[i]?=some d->tt (some (.int ((i:Nat):Int))::some d::cs.map fun j=>(ρ[j]?).getD none)=some (p i d)/\(p i d=true->te (some (.int ((i:Nat):Int))::some d::cs.map fun j=>(ρ[j]?).getD none)=some (h i d))) :
  aq 2 cs fi (gw 0 1) tt te ρ=some ((ds.zipIdx.filter fun q=>p q.2 q.1).map fun q=>h q.2 q.1):=by
 have:=qL (tt:=tt) (te:=te) (r:=cs.map fun j=>(ρ[j]?).getD none) (p:=p) (h:=h) (ds:=ds) (k:=0) (by simpa using hh)
 simp only[aq,hfi,zA,fA,List.replicate,List.cons_append,List.nil_append,this]
 refine bD ?_
 rw[zD]
 refine yE (List.length_filter_le _ _) ?_
 rw[List.length_zipIdx]
 omega
theorem iI{α:Type}(f:α->Int):∀ {l m:List α},l.Perm m->(l.Pairwise fun a b=>f a<=f b)->(m.Pairwise fun a b=>f a < f b)->l=m
 | l,[],hp,_,_=>hp.eq_nil
 | [],x::m,hp,_,_=>absurd hp.symm.eq_nil (by simp)
 | y::l,x::m,hp,h1,h2=>by
  rw[List.pairwise_cons] at h1 h2
  have e:y=x:=by
   have hx:x∈y::l:=hp.mem_iff.mpr zE
   rcases zR.mp hx with z|hx
   ·exact z.symm
   ·have hy:y∈x::m:=hp.mem_iff.mp zE
    rcases zR.mp hy with z|hy
    ·exact z
    ·have:=h1.1 x hx
     have:=h2.1 y hy
     omega
  subst e
  rw[iI f ((List.perm_cons y).mp hp) h1.2 h2.2]
theorem qy{α:Type}(z:Nat->Int)(l:List α)(d:α)(f:α->Int)(h:∀i,i < l.length->z i=f (l.getD i d)):(nF z l d).Pairwise fun a b=>f a<=f b:=by
 unfold nF
 split
 ·rename_i hl
  match l,hl with
  | [],_=>exact List.Pairwise.nil
  | [a],_=>exact List.pairwise_singleton _ _
 ·rename_i hl
  obtain⟨hp,hs⟩:=SP.gh (z:=z) (n:=l.length) (by omega)
  rw[List.pairwise_map] at hs ⊢
  refine hs.imp_of_mem fun {i j} hi hj hij=>?_
  have hi':i < l.length:=by have:=hp.mem_iff.mp hi;simpa using this
  have hj':j < l.length:=by have:=hp.mem_iff.mp hj;simpa using this
  rw[<- h i hi',<- h j hj']
  exact hij
def ay(W:List Wy)(i:Nat):Wy:=W.getD i (0,0,0)
theorem fQ{W:List Wy}{k:Nat}(hk:k < W.length):W[k]=ay W k:=by simp[ay,hk]
theorem nz{W:List Wy}{k:Nat}(hk:k < W.length):W[k]?=some (ay W k):=by rw[zK hk,fQ hk]
def own(b:Bool)(W:List Wy)(p:Int):List Nat:=(List.range W.length).filter fun i=>decide (bz b (ay W i)=p)
def me(b:Bool)(W:List Wy)(p o:Int):Nat:=W.findIdx fun w=>decide (bz b w=p)&&decide (cf b w=o)
def eU(b:Bool)(W:List Wy)(p:Int)(L:List Int):List Nat:=L.map (me b W p)
theorem cB{b:Bool}{W:List Wy}{p:Int}{i:Nat}:i∈own b W p↔i < W.length/\bz b (ay W i)=p:=by simp[own]
theorem map_range{α β:Type}(d:α)(f:α->β)(l:List α):(List.range l.length).map (fun i=>f (l.getD i d))=l.map f:=by
 apply List.ext_getElem
 ·simp
 ·intro i h1 h2
  have:i < l.length:=by simpa using h2
  simp[this]
theorem wx{α:Type}(d:α)(q:α->Bool):∀ (l:List α),((List.range l.length).filter fun i=>q (l.getD i d)).map (fun i=>l.getD i d)=l.filter q:=by
 intro l
 have e:l=(List.range l.length).map fun i=>l.getD i d:=by
  have:=map_range d (fun x=>x) l
  simp at this
  simpa using this.symm
 conv=>rhs;rw[e]
 rw[List.filter_map]
 rfl
theorem lu(b:Bool)(W:List Wy)(p:Int):(own b W p).map (fun i=>cf b (ay W i))=Nt b W p:=by
 unfold own Nt ay
 rw[<- wx (0,0,0) (fun w=>decide (bz b w=p)) W,zM]
 rfl
theorem wk{W:List Wy}(h:tT W){i j:Nat}(hi:i < W.length)(hj:j < W.length)(h1:(ay W i).1=(ay W j).1)(h2:(ay W i).2.1=(ay W j).2.1):i=j:=by
 have e:∀k,k < W.length->W[k]?=some (ay W k):=fun k hk=>by simp[ay,hk]
 rcases Nat.lt_trichotomy i j with z|z|z
 ·have:=List.pairwise_iff_getElem.mp h i j hi hj z
  have a:=e i hi
  have b:=e j hj
  rw[zK hi] at a
  rw[zK hj] at b
  rw[Option.some.inj a,Option.some.inj b] at this
  rcases this with z|z<;>omega
 ·exact z
 ·have:=List.pairwise_iff_getElem.mp h j i hj hi z
  have a:=e i hi
  have b:=e j hj
  rw[zK hi] at a
  rw[zK hj] at b
  rw[Option.some.inj a,Option.some.inj b] at this
  rcases this with z|z<;>omega
theorem xg{W:List Wy}(h:tT W){b:Bool}{i j:Nat}(hi:i < W.length)(hj:j < W.length)(h1:bz b (ay W i)=bz b (ay W j))(h2:cf b (ay W i)=cf b (ay W j)):i=j:=by
 cases b
 ·exact wk h hi hj h1 h2
 ·exact wk h hi hj h2 h1
theorem wJ{W:List Wy}(h:tT W){b:Bool}{p:Int}{i:Nat}(hi:i∈own b W p):me b W p (cf b (ay W i))=i:=by
 obtain⟨hl,he⟩:=cB.mp hi
 have hw:W[i]=ay W i:=by simp[ay,hl]
 unfold me
 have hlt:W.findIdx (fun w=>decide (bz b w=p)&&decide (cf b w=cf b (ay W i))) < W.length:=by
  apply List.findIdx_lt_length_of_exists
  exact⟨W[i],List.getElem_mem _,by rw[hw];simp[he]⟩
 have hq:=List.findIdx_getElem (w:=hlt)
 rw[zF,zJ,zJ] at hq
 rw[fQ hlt] at hq
 exact xg h hlt hl (by rw[hq.1,he]) hq.2
theorem fF{G T:List Pl}{W:List Wy}(h:Wd G T W){b:Bool}{i:Nat}{p:Pl}(e:(aD b G T)[i]?=some p):(eU b W i p.2).Perm (own b W i):=by
 have h1:=(h.lik e).map (me b W i)
 rw[<- lu b W i,zM] at h1
 have e2:(own b W i).map (me b W i ∘ fun j=>cf b (ay W j))=own b W i:=by
  conv=>rhs;rw[<- List.map_id (own b W i)]
  exact yJ fun j hj=>wJ h.wp hj
 rw[e2] at h1
 exact h1
theorem lF{G T:List Pl}{W:List Wy}(h:Wd G T W){b:Bool}{i:Nat}{p:Pl}(e:(aD b G T)[i]?=some p){o:Int}(ho:o∈p.2):me b W i o < W.length/\bz b (ay W (me b W i o))=i/\cf b (ay W (me b W i o))=o:=by
 have hm:=(h.lik e).mem_iff.mp ho
 rw[<- lu b W i] at hm
 obtain⟨j,hj,rfl⟩:=zQ.mp hm
 rw[wJ h.wp hj]
 obtain⟨h1,h2⟩:=cB.mp hj
 exact⟨h1,h2,rfl⟩
def kD(b:Bool)(W:List Wy)(L:List Int)(d:D):Int:=(L.findIdx fun o=>decide (o=cf b (ay W (jl d).toNat)):Nat)
theorem nK:∀ {L:List Int}{x:Int},x∈L->xi x L=some (L.findIdx fun o=>decide (o=x))
 | [],x,h=>by cases h
 | o::L,x,h=>by
  unfold xi
  by_cases e:o=x
  ·simp[e,List.findIdx_cons]
  ·rw[if_neg e]
   have hx:x∈L:=(zR.mp h).resolve_left fun z=>e z.symm
   rw[nK hx]
   simp[List.findIdx_cons,e]
theorem Gb{G T:List Pl}{W:List Wy}(h:Wd G T W){b:Bool}{i:Nat}{p:Pl}(e:(aD b G T)[i]?=some p)(z:Nat->Int)(hz:∀j,j < (own b W i).length->z j=kD b W p.2 (((own b W i).map fun n=>PyData.int ((n:Nat):Int)).getD j .none)) :
  nF z ((own b W i).map fun n=>PyData.int ((n:Nat):Int)) .none=(eU b W i p.2).map fun n=>PyData.int ((n:Nat):Int):=by
 refine iI (kD b W p.2) ((fK _ _ _).trans ((fF h e).symm.map _)) (qy z _ _ _ fun j hj=>hz j (by simpa using hj)) ?_
 have hn:p.2.Nodup:=(h.lik e).nodup_iff.mpr (h.nod b i)
 unfold eU
 rw[zM,List.pairwise_map]
 have key:∀k (hk:k < p.2.length),kD b W p.2 (PyData.int ((me b W i p.2[k]:Nat):Int))=(k:Nat):=fun k hk=>by
  obtain⟨_,_,e3⟩:=lF h e (List.getElem_mem hk)
  unfold kD
  simp only[jl,yH,e3]
  congr 1
  rw[List.findIdx_eq (by exact hk)]
  refine⟨by simp,fun j hj=>?_⟩
  have:=List.pairwise_iff_getElem.mp hn j k (by omega) hk hj
  simpa using this
 refine List.pairwise_iff_getElem.mpr fun j k hj hk hjk=>?_
 show kD b W p.2 (PyData.int ((me b W i p.2[j]:Nat):Int)) < kD b W p.2 (PyData.int ((me b W i p.2[k]:Nat):Int))
 rw[key j hj,key k hk]
 omega
abbrev nD(n:Nat):D:=.int ((n:Nat):Int)
theorem nS{te:Dl.Env->Option D}{ρ:Dl.Env}{h:D->D}:∀ {ds:List D},(∀d∈ds,te (ρ.set 0 (some d))=some (h d))->iT te ρ ds=some (ds.map h)
 | [],_=>rfl
 | d::ds,hh=>by
  unfold iT
  rw[hh d zE,zA,nS fun x hx=>hh x (zC _ hx)]
  rfl
theorem pY(b:Bool)(W:List Wy)(p:Int):(own b W p).length<=W.length:=by
 unfold own
 refine yE (List.length_filter_le _ _) ?_
 rw[zS]
 exact zzA _
theorem Ad(b:Bool)(W:List Wy)(p:Int):(((W.map ao).zipIdx.filter fun q=>decide (bz b (ay W q.2)=p)).map fun q=>nD q.2)=(own b W p).map nD:=by
 have e:(W.map ao).zipIdx=(List.range W.length).map fun i=>(ao (ay W i),i):=by
  apply List.ext_getElem
  ·simp
  ·intro i h1 h2
   have:i < W.length:=by simpa using h2
   simp[fQ this]
 rw[e,List.filter_map,zM]
 rfl
theorem oq{G T:List Pl}{W:List Wy}(h:Wd G T W){b:Bool}{i:Nat}{p:Pl}(e:(aD b G T)[i]?=some p):bT [ax G T W,.int (sI b),nD i]=some (.list ((eU b W i p.2).map nD)):=by
 have hw:=h.wl
 have ep:au (.tuple ((aD b G T).map aW)) (nD i)=some (aW p):=nV e
 have hl:=pY b W i
 have t3:Dl.az 3 [0] (f2 au (ab 0) (fC (.int 2))) [.val (ax G T W),.val (.int (sI b)),.val (nD i),.non,.non,.non]=some (.nx [.val (ax G T W),.val (.int (sI b)),.val (nD i),.val (.tuple (W.map ao)),.non,.non]) :=
  ck (d:=.tuple (W.map ao)) rfl rfl rfl rfl
 have t4:Dl.az 4 [0,1,2] (f2 au (f2 au (f2 au (ab 0) (ab 1)) (ab 2)) (fC (.int 1))) [.val (ax G T W),.val (.int (sI b)),.val (nD i),.val (.tuple (W.map ao)),.non,.non]=some (.nx [.val (ax G T W),.val (.int (sI b)),.val (nD i),.val (.tuple (W.map ao)),.val (af p.2),.non]):=by
  refine ck (d:=af p.2) ?_ rfl rfl rfl
  rw[jj (a:=aW p) (b:=.int 1) ?_ rfl,IQ]
  rw[jj (a:=.tuple ((aD b G T).map aW)) (b:=nD i) ?_ rfl,ep]
  rw[jj (a:=ax G T W) (b:=.int (sI b)) rfl rfl,jQ]
 have c5:aq 2 [1,2] (bx (aa (ab 3) ae)) (gw 0 1) (fB (f2 bQ (f2 au (ab 1) (ab 2)) (ab 3))) (ab 0) [some (ax G T W),some (.int (sI b)),some (nD i),some (.tuple (W.map ao)),some (af p.2),none]=some ((own b W i).map nD):=by
  rw[Dz (ds:=W.map ao) (p:=fun j _=>decide (bz b (ay W j)=i)) (h:=fun j _=>nD j) rfl (by rw[zD];omega) fun j d hd=>?_,Ad]
  rw[zO] at hd
  obtain⟨w,hw',rfl⟩:=Dl.ag hd
  have hj:j < W.length:=(zU.mp hw').1
  rw[nz hj] at hw'
  cases hw'
  refine⟨?_,fun _=>rfl⟩
  show fB (f2 bQ (f2 au (ab 1) (ab 2)) (ab 3)) [some (nD j),some (ao (ay W j)),some (.int (sI b)),some (nD i)]=_
  simp only[fB]
  rw[jj (a:=.int (bz b (ay W j))) (b:=nD i) (by rw[jj (a:=ao (ay W j)) (b:=.int (sI b)) rfl rfl,p5]) rfl,cY]
  rfl
 have t5:aM 5 [1,2,3] (aq 2 [1,2] (bx (aa (ab 3) ae)) (gw 0 1) (fB (f2 bQ (f2 au (ab 1) (ab 2)) (ab 3))) (ab 0)) [.val (ax G T W),.val (.int (sI b)),.val (nD i),.val (.tuple (W.map ao)),.val (af p.2),.non]=some (.nx [.val (ax G T W),.val (.int (sI b)),.val (nD i),.val (.tuple (W.map ao)),.val (af p.2),.own ((own b W i).map nD)]):=by
  have hh:hand [1,2,3] 0 [Slot.val (ax G T W),.val (.int (sI b)),.val (nD i),.val (.tuple (W.map ao)),.val (af p.2),.non]=[Slot.val (ax G T W),.val (.int (sI b)),.val (nD i),.val (.tuple (W.map ao)),.val (af p.2),.non]:=rfl
  simp only[aM,hh,bY,zI,List.map_nil,Slot.frz,c5,zB,List.set_cons_succ,List.set_cons_zero]
 have hk:iT (f2 pd (ab 3) (f2 au (f2 au (ab 2) (ab 0)) (f2 Dl.gP (fC (.int 1)) (ab 1)))) [none,some (.int (sI b)),some (.tuple (W.map ao)),some (af p.2)] ((own b W i).map nD)=some (((own b W i).map nD).map fun d=>.int (kD b W p.2 d)):=by
  refine nS fun d hd=>?_
  obtain⟨j,hj,rfl⟩:=zQ.mp hd
  obtain⟨hjl,hje⟩:=cB.mp hj
  show f2 pd (ab 3) (f2 au (f2 au (ab 2) (ab 0)) (f2 Dl.gP (fC (.int 1)) (ab 1))) [some (nD j),some (.int (sI b)),some (.tuple (W.map ao)),some (af p.2)]=_
  have ew:au (.tuple (W.map ao)) (nD j)=some (ao (ay W j)):=nV (nz hjl)
  rw[jj (a:=af p.2) (b:=.int (cf b (ay W j))) rfl ?_]
  ·have hm:cf b (ay W j)∈p.2:=(h.lik e).mem_iff.mpr (by rw[<- lu];exact zQ.mpr ⟨j,hj,rfl⟩)
   simp only[pd,af,bZ,zA,nK hm,zB,kD,jl,yH]
   all_goals first|rfl|(congr 3;funext o;congr)
  ·rw[jj (a:=ao (ay W j)) (b:=.int (1 - sI b)) ?_ ?_,IF]
   ·rw[jj (a:=.tuple (W.map ao)) (b:=nD j) rfl rfl,ew]
   ·rw[jj (a:=.int 1) (b:=.int (sI b)) rfl rfl,mI]
 have hi:intsOf (((own b W i).map nD).map fun d=>PyData.int (kD b W p.2 d))=some (((own b W i).map nD).map (kD b W p.2)):=by
  rw[show (((own b W i).map nD).map fun d=>PyData.int (kD b W p.2 d))=(((own b W i).map nD).map (kD b W p.2)).map PyData.int by simp only[zM];rfl,bZ]
 have t6:aJ (cx (n9 [1,3,4] (ab 5) (f2 pd (ab 3) (f2 au (f2 au (ab 2) (ab 0)) (f2 Dl.gP (fC (.int 1)) (ab 1)))))) [.val (ax G T W),.val (.int (sI b)),.val (nD i),.val (.tuple (W.map ao)),.val (af p.2),.own ((own b W i).map nD)]=some (.rt (.list ((eU b W i p.2).map nD))):=by
  have es:n9 [1,3,4] (ab 5) (f2 pd (ab 3) (f2 au (f2 au (ab 2) (ab 0)) (f2 Dl.gP (fC (.int 1)) (ab 1)))) [some (ax G T W),some (.int (sI b)),some (nD i),some (.tuple (W.map ao)),some (af p.2),some (.list ((own b W i).map nD))]=some ((eU b W i p.2).map nD):=by
   unfold n9
   show (iT _ [none,some (.int (sI b)),some (.tuple (W.map ao)),some (af p.2)] ((own b W i).map nD)).bind _=_
   rw[hk,zA,hi,zA,if_pos (by rw[zD];omega),Gb h e _ fun j hj=>?_]
   simp[hj]
  simp only[aJ,bA,zI,List.map_nil,wy,vd,cx,es,zB]
 refine aI ?_
 show k8 [.val (ax G T W),.val (.int (sI b)),.val (nD i),.non,.non,.non]=_
 unfold k8
 rw[ai t3,ai t4,ai t5,t6]
local macro_rules|`(tactic| dsimp! [$ts,*])=>`(tactic| simp only[ab,fC,f1,f2,aa,ae,ah,aU,lX,aO,fY,cx,fB,gB,b8,oX,qQ,bx,bA,bY,wy,vd,BV,BE,Cn,Cr,zI,List.map_nil,List.getElem?_cons_zero,List.getElem?_cons_succ,zA,zB,Option.getD_some,zL,List.length_nil,Nat.reduceAdd,Nat.zero_add,reduceIte,List.set_cons_succ,List.set_cons_zero,$ts,*])
theorem mS{S α:Type}{tgt:aj->D->Option aj}{gb:aj->Option Out}(R:S->aj->Prop)(f:α->D)(st:S->α->S):∀ {l:List α}{s:S}{ρ:aj},
  (∀s ρ x,x∈l->R s ρ->∃ρ1 ρ2,tgt ρ (f x)=some ρ1/\gb ρ1=some (.nx ρ2)/\R (st s x) ρ2)->R s ρ->∃ρ',cH tgt gb (l.map f) ρ=some (.nx ρ')/\R (l.foldl st s) ρ'
 | [],s,ρ,_,h=>⟨ρ,rfl,h⟩
 | d::ds,s,ρ,hh,h=>by
  obtain⟨ρ1,ρ2,e1,e2,h2⟩:=hh s ρ d zE h
  obtain⟨ρ',e3,h3⟩:=mS R f st (fun s ρ x hx=>hh s ρ x (zC _ hx)) h2
  refine⟨ρ',?_,h3⟩
  rw[zI,cH,e1,zA,e2]
  exact e3
theorem g0{α:Type}{tgt:aj->D->Option aj}{gb:aj->Option Out}(R:aj->Prop)(f:α->D)(q:α->Bool)(out:α->D):∀ {l:List α}{ρ:aj},
  (∀ρ x,x∈l->R ρ->∃ρ1,tgt ρ (f x)=some ρ1/\(q x=true->gb ρ1=some (.rt (out x)))/\(q x=false->∃ρ2,gb ρ1=some (.nx ρ2)/\R ρ2))->R ρ ->
  (∀x,l.find? q=some x->cH tgt gb (l.map f) ρ=some (.rt (out x)))/\(l.find? q=none->∃ρ',cH tgt gb (l.map f) ρ=some (.nx ρ')/\R ρ')
 | [],ρ,_,h=>⟨fun x hx=>(by cases hx),fun _=>⟨ρ,rfl,h⟩⟩
 | x::l,ρ,hh,h=>by
  obtain⟨ρ1,e1,e2,e3⟩:=hh ρ x zE h
  rw[zI,cH,e1,zA]
  cases hq:q x with
  | true =>
   rw[List.find?_cons_of_pos (by simpa using hq),e2 hq]
   exact⟨fun y hy=>(by cases hy;rfl),fun hn=>(by cases hn)⟩
  | false =>
   obtain⟨ρ2,e4,h2⟩:=e3 hq
   rw[List.find?_cons_of_neg (by simp[hq]),e4]
   exact g0 R f q out (fun ρ x hx=>hh ρ x (zC _ hx)) h2
theorem bG{fz:List Nat}{fi:Dl.Env->Option (List D)}{tgt:aj->D->Option aj}{gb:aj->Option Out}{ρ ρ1:aj}{ds:List D}{o:Option Out}(h:cH tgt gb ds ρ1=o)(hi:fi (bY ρ1)=some ds)(hh:hand fz 0 ρ=ρ1):cM fz fi tgt gb ρ=o:=by
 simp only[cM,hh,hi,zA,h]
theorem vz{i:Nat}{fz:List Nat}{f:Dl.Env->Option (List D)}{ρ ρ':aj}{ds:List D}(hh:hand fz 0 ρ=ρ')(hf:f (bY ρ')=some ds):aM i fz f ρ=some (.nx (ρ'.set i (.own ds))):=by
 simp only[aM,hh,hf,zB]
theorem eR{i:Nat}{fz:List Nat}{f:Dl.Env->Option (List D)}{ρ:aj}{ds:List D}(hf:f (bY ρ)=some ds)(hh:hand fz 0 ρ=ρ):aM i fz f ρ=some (.nx (ρ.set i (.own ds))):=vz hh hf
theorem mr{i:Nat}{fz:List Nat}{f:Dl.Env->Option D}{ρ ρ':aj}(hh:hand fz 0 ρ=ρ'){d:D}(hA:f (bA ρ)=some d)(hF:f (bY ρ')=some d)(hs:Dl.qm d=false)(hr:lP d=false\/ρ'=ρ:=by first|exact .inr rfl|exact .inl rfl):Dl.az i fz f ρ=some (.nx (ρ'.set i (.val d))):=by
 rcases hr with hr|hr
 ·simp only[Dl.az,hA,zA,hs,Bool.false_eq_true,if_false,hh,hF,zB,hr]
 ·subst hr
  simp only[Dl.az,hA,zA,hs,Bool.false_eq_true,if_false,hh,hF,zB,ite_self]
theorem call_of{n:Nat}{m:List D->Option D}{fs:Dl.Env->Option (List D)}{ρ:Dl.Env}{ds:List D}{d:D}(h:m ds=some d)(hf:fs ρ=some ds)(hn:ds.length=n):ah n m fs ρ=some d:=by
 unfold ah
 rw[hf,zA,if_pos hn,h]
theorem cons_of{f:Dl.Env->Option D}{fs:Dl.Env->Option (List D)}{ρ:Dl.Env}{d:D}{ds:List D}(h:f ρ=some d)(hs:fs ρ=some ds):aa f fs ρ=some (d::ds):=by
 unfold aa
 rw[h,hs]
 rfl
theorem aK{f:Dl.Env->Option D}{ρ:aj}{d:D}(hf:f (bA ρ)=some d):aJ f ρ=some (.rt d):=by
 simp only[aJ,hf,zB]
theorem du{f:Dl.Env->Option D}{ρ:aj}{d:D}(hf:f (bA ρ)=some d):iX f ρ=some (.nx ρ):=by
 simp only[iX,hf,zB]
theorem cZ{t:Dl.Env->Option Bool}{g:aj->Option Out}{ρ:aj}(h:t (bA ρ)=some false):hC t g gN ρ=some (.nx ρ):=by
 simp[hC,h,gN]
theorem ip{t:Dl.Env->Option Bool}{g g2:aj->Option Out}{ρ:aj}(h:t (bA ρ)=some true):hC t g g2 ρ=g ρ:=by
 simp[hC,h]
theorem jt{g1 g2:aj->Option Out}{ρ:aj}{d:D}(h:g1 ρ=some (.rt d)):av g1 g2 ρ=some (.rt d):=by
 simp only[av,h,zA]
theorem D5{i:Nat}{fz:List Nat}{fk f:Dl.Env->Option D}{ρ:aj}{d:D}{k:Nat}{ds:List D}(hf:f (bA ρ)=some d)(hs:Dl.qm d=true)(hk:fk (bA ρ)=some (nD k))(ho:ρ[i]?=some (.own ds))(hl:k < ds.length):AM i fz fk f ρ=some (.nx (ρ.set i (.own (ds.set k d)))):=by
 have hx:HW ds.length ((k:Nat):Int)=some k:=by
  unfold HW
  rw[if_pos (Int.natCast_nonneg k),if_pos (by omega)]
  simp
 simp only[AM,lR,hf,zA,hs,if_true,hk,nI,ho,hx,zB]
def lp{S:Type}(cont:S->Bool)(st:S->S):Nat->S->S
 | 0,s=>s
 | n+1,s=>if cont s=true then lp cont st n (st s) else s
theorem yQ{S:Type}{t:Dl.Env->Option Bool}{gb:aj->Option Out}(R:S->aj->Prop)(cont:S->Bool)(st:S->S)(μ:S->Nat)
  (ht:∀s ρ,R s ρ->t (bA ρ)=some (cont s)) (hb:∀s ρ,R s ρ->cont s=true->∃ρ',gb ρ=some (.nx ρ')/\R (st s) ρ'/\μ (st s) < μ s) :
  ∀ (n:Nat) (s:S) (ρ:aj),μ s < n->R s ρ->∃ρ',Jb t gb n ρ=some (.nx ρ')/\R (lp cont st n s) ρ'/\cont (lp cont st n s)=false
 | 0,s,ρ,h,_=>absurd h (by omega)
 | n+1,s,ρ,h,r=>by
  rw[Jb,ht s ρ r,zA,lp]
  cases hc:cont s with
  | false=>exact⟨ρ,by simp,by simpa [hc] using r,by simpa [hc] using hc⟩
  | true =>
   obtain⟨ρ',e,r',hm⟩:=hb s ρ r hc
   obtain⟨ρ2,e2,r2,c2⟩:=yQ R cont st μ ht hb n (st s) ρ' (by omega) r'
   refine⟨ρ2,?_,by simpa [hc] using r2,by simpa [hc] using c2⟩
   simp only[if_true,e,zA]
   exact e2
theorem n8{off:List Int}{i:Nat}(h:i < off.length):au (af off) (nD i)=some (.int (off.getD i 0)):=nV (f:=PyData.int) (l:=off) (by simp[h])
theorem LA{off:List Int}{i:Nat}(h:i < off.length):au (.list (off.map PyData.int)) (nD i)=some (.int (off.getD i 0)):=Ik (f:=PyData.int) (l:=off) (by simp[h])
theorem qP{W:List Wy}{i:Nat}(h:i < W.length):au (.tuple (W.map ao)) (nD i)=some (ao (ay W i)):=nV (nz h)
theorem Pc(a b c:Int):xZ [.int a,.int b,.int c]=some (.int (min (min a b) c)):=rfl
theorem Km(l:List Int)(k:Nat)(v:Int):(l.map PyData.int).set k (.int v)=(l.set k v).map PyData.int:=by rw[List.map_set]
theorem JE(l:List Int):bo [.list (l.map PyData.int)]=some (af l):=rfl
theorem qx(l:List D):bo [.list l]=some (.tuple l):=rfl
theorem Cz(l:List D):bq [.tuple l]=some (nD l.length):=rfl
theorem v7(l:List Int):bq [af l]=some (nD l.length):=by
 show some (PyData.int ((l.map PyData.int).length:Nat))=_
 rw[zD]
theorem Ed{n:Nat}(h:n<=1000):kR [nD n]=some ((List.range n).map nD):=by
 rw[yX (vL h),yH]
theorem rR{fs:Dl.Env->Option (List D)}{ρ:Dl.Env}{n:Nat}(h:fs ρ=some [nD n])(hn:n<=1000):bj fs ρ=some ((List.range n).map nD):=by
 unfold bj
 rw[h,zA,Ed hn]
theorem sub_int(i j:Int):Dl.gP (.int i) (.int j)=some (.int (i - j)):=mI i j
theorem zeros{fi:Dl.Env->Option (List D)}{ρ:Dl.Env}{ds:List D}(hfi:fi ρ=some ds)(hl:ds.length<=1000):aq 1 [] fi (fG 0) (fun _=>some true) (fC (.int 0)) ρ=some ((List.replicate ds.length (0:Int)).map PyData.int):=by
 rw[cq (h:=fun _=>.int 0) hfi (by omega) fun d hd=>rfl]
 simp[List.map_const']
theorem KC:∀n,(List.replicate n [PyData.int 0]).flatten=(List.replicate n (0:Int)).map PyData.int
 | 0=>rfl
 | n+1=>by rw[List.replicate_succ,List.flatten_cons,KC n,List.replicate_succ];rfl
theorem uf{r:List (Option D)}:∀ (a b:List Int),cO (gw 0 1) (fun _=>some true) (f2 aA (ab 0) (ab 1)) (none::none::r) (gT (a.map PyData.int) (b.map PyData.int))=some ((List.zipWith (·+·) a b).map PyData.int)
 | [],b=>by cases b<;>rfl
 | x::a,[]=>rfl
 | x::a,y::b=>by
  have ih:=uf (r:=r) a b
  have hg:gw 0 1 (none::none::r) (.tuple [.int x,.int y])=some (some (.int x)::some (.int y)::r):=by
   simp only[gw,isFree,List.getElem?_cons_zero,List.getElem?_cons_succ,Option.getD_some,Option.isNone_none,and_self,if_true,List.set_cons_zero,List.set_cons_succ]
  rw[zI,zI,gT,cO,hg,zA]
  dsimp! [fL,ih,List.zipWith_cons_cons]
theorem Fi{fi:Dl.Env->Option (List D)}{ρ:Dl.Env}{a b:List Int}(hfi:fi ρ=some (gT (a.map PyData.int) (b.map PyData.int)))(hl:a.length<=1000) :
  aq 2 [] fi (gw 0 1) (fun _=>some true) (f2 aA (ab 0) (ab 1)) ρ=some ((List.zipWith (·+·) a b).map PyData.int):=by
 have:=uf (r:=[]) a b
 simp only[aq,hfi,zA,fA,List.replicate,List.map_nil,List.append_nil,this]
 refine bD ?_
 rw[zD,List.length_zipWith]
 omega
def cV(W:List Wy)(off:List Int)(left:Int)(i:Nat):Int:=min (min (off.getD i 0) (ay W i).2.2) left
def mw(W:List Wy)(off:List Int)(s:Int×List Int)(i:Nat):Int×List Int:=(s.1 - cV W off s.1 i,s.2.set i (cV W off s.1 i))
def rZ(W:List Wy)(off:List Int)(amt:Int)(is:List Nat):List Int:=(is.foldl (mw W off) (amt,List.replicate W.length 0)).2
theorem B2(W:List Wy)(off:List Int):∀ (is:List Nat) (s:Int×List Int),(is.foldl (mw W off) s).2.length=s.2.length
 | [],s=>rfl
 | i::is,s=>by rw[yK,B2 W off is];simp[mw]
theorem uR(W:List Wy)(off:List Int)(amt:Int)(is:List Nat):(rZ W off amt is).length=W.length:=by rw[rZ,B2];simp
theorem Oe{G T:List Pl}{W:List Wy}{b:Bool}{i:Nat}{p:Pl}(e:(aD b G T)[i]?=some p):au (.tuple ((aD b G T).map aW)) (nD i)=some (aW p):=nV e
theorem LK{G T:List Pl}{W:List Wy}{off:List Int}{d1 d2:D}{s:Int×List Int}{i:Nat}(hi:i < W.length)(ho:off.length=W.length)(hs:s.2.length=W.length) :
  (av (AM 4 [0,3,5,6] (ab 6) (aU xZ (aa (f2 au (ab 3) (ab 6)) (aa (f2 au (f2 au (f2 au (ab 0) (fC (.int 2))) (ab 6)) (fC (.int 2))) (aa (ab 5) ae))))) (Dl.az 5 [4,5,6] (f2 Dl.gP (ab 5) (f2 au (ab 4) (ab 6))))) [.val (ax G T W),.val d1,.val d2,.val (af off),.own (s.2.map PyData.int),.val (.int s.1),.val (nD i)]=some (.nx [.val (ax G T W),.val d1,.val d2,.val (af off),.own ((mw W off s i).2.map PyData.int),.val (.int (mw W off s i).1),.val (nD i)]):=by
 have hv:(aU xZ (aa (f2 au (ab 3) (ab 6)) (aa (f2 au (f2 au (f2 au (ab 0) (fC (.int 2))) (ab 6)) (fC (.int 2))) (aa (ab 5) ae)))) (bA [.val (ax G T W),.val d1,.val d2,.val (af off),.own (s.2.map PyData.int),.val (.int s.1),.val (nD i)])=some (.int (cV W off s.1 i)):=by
  dsimp! [n8 (show i < off.length by omega),pJ,qP hi,p8,Pc,cV]
 have t1:=D5 (i:=4) (fz:=[0,3,5,6]) (fk:=ab 6) (k:=i) (ds:=s.2.map PyData.int) hv rfl rfl rfl (by rw[zD];omega)
 rw[Km] at t1
 rw[ai t1]
 have hl:i < (s.2.set i (cV W off s.1 i)).length:=by rw[yD];omega
 have hg:(s.2.set i (cV W off s.1 i)).getD i 0=cV W off s.1 i:=by
  have:i < s.2.length:=by omega
  simp[this]
 have hv2:(f2 Dl.gP (ab 5) (f2 au (ab 4) (ab 6))) (bA ([.val (ax G T W),.val d1,.val d2,.val (af off),.own (s.2.map PyData.int),.val (.int s.1),.val (nD i)].set 4 (.own ((s.2.set i (cV W off s.1 i)).map PyData.int))))=some (.int (mw W off s i).1):=by
  dsimp! [LA hl,sub_int,hg,mw]
 rw[di hv2 rfl]
 rfl
theorem oT{G T:List Pl}{W:List Wy}{off:List Int}(h:Wd G T W)(ho:off.length=W.length){b:Bool}{i:Nat}{p:Pl}(e:(aD b G T)[i]?=some p) :
  dW [ax G T W,.int (sI b),nD i,af off]=some (af (rZ W off p.1 (eU b W i p.2))):=by
 have hw:W.length<=16:=h.wl
 have t4:aM 4 [0] (aq 1 [] (aO (f2 au (ab 0) (fC (.int 2)))) (fG 0) (fun _=>some true) (fC (.int 0))) [.val (ax G T W),.val (.int (sI b)),.val (nD i),.val (af off),.non,.non,.non]=some (.nx [.val (ax G T W),.val (.int (sI b)),.val (nD i),.val (af off),.own ((List.replicate W.length (0:Int)).map PyData.int),.non,.non]):=by
  have z:=zeros (fi:=aO (f2 au (ab 0) (fC (.int 2)))) (ρ:=bY [.val (ax G T W),.val (.int (sI b)),.val (nD i),.val (af off),.non,.non,.non]) (ds:=W.map ao) rfl (by rw[zD];omega)
  rw[zD] at z
  exact vz rfl z
 have t5:Dl.az 5 [0,1,2] (f2 au (f2 au (f2 au (ab 0) (ab 1)) (ab 2)) (fC (.int 0))) [.val (ax G T W),.val (.int (sI b)),.val (nD i),.val (af off),.own ((List.replicate W.length (0:Int)).map PyData.int),.non,.non]=some (.nx [.val (ax G T W),.val (.int (sI b)),.val (nD i),.val (af off),.own ((List.replicate W.length (0:Int)).map PyData.int),.val (.int p.1),.non]) :=
  di (d:=.int p.1) (by dsimp! [jQ,Oe (W:=W) e,IP]) rfl
 obtain⟨ρ',e3,hs',x,rfl⟩:=mS (tgt:=lA 6) (gb:=(av (AM 4 [0,3,5,6] (ab 6) (aU xZ (aa (f2 au (ab 3) (ab 6)) (aa (f2 au (f2 au (f2 au (ab 0) (fC (.int 2))) (ab 6)) (fC (.int 2))) (aa (ab 5) ae))))) (Dl.az 5 [4,5,6] (f2 Dl.gP (ab 5) (f2 au (ab 4) (ab 6)))))) (R:=fun s ρ=>s.2.length=W.length/\∃x,ρ=[.val (ax G T W),.val (.int (sI b)),.val (nD i),.val (af off),.own (s.2.map PyData.int),.val (.int s.1),x]) nD (mw W off)
  (l:=eU b W i p.2) (s:=(p.1,List.replicate W.length (0:Int))) (ρ:=[.val (ax G T W),.val (.int (sI b)),.val (nD i),.val (af off),.own ((List.replicate W.length (0:Int)).map PyData.int),.val (.int p.1),.non])
  (fun s ρ j hj ⟨hs,x,hρ⟩=>by
   subst hρ
   obtain⟨hjl,_⟩:=cB.mp ((fF h e).mem_iff.mp hj)
   refine⟨_,_,rfl,LK hjl ho hs,?_,.val (nD j),rfl⟩
   simp[mw,hs]) ⟨by simp,_,rfl⟩
 refine aI ?_
 show iy [.val (ax G T W),.val (.int (sI b)),.val (nD i),.val (af off),.non,.non,.non]=_
 unfold iy
 rw[ai t4,ai t5,ai (bG e3 (by dsimp! [oq h e]) rfl)]
 exact aK rfl
def br(b:Bool)(G T:List Pl)(i:Nat):Pl:=(aD b G T).getD i (0,[])
def zh(b:Bool)(G T:List Pl)(W:List Wy)(off s:List Int)(i:Nat):List Int:=List.zipWith (·+·) s (rZ W off (br b G T i).1 (eU b W i (br b G T i).2))
def bC(b:Bool)(G T:List Pl)(W:List Wy)(off:List Int):List Int:=(List.range (aD b G T).length).foldl (zh b G T W off) (List.replicate W.length 0)
theorem iF{b:Bool}{G T:List Pl}{i:Nat}(h:i < (aD b G T).length):(aD b G T)[i]?=some (br b G T i):=by simp[br,h]
theorem pQ{b:Bool}{G T:List Pl}{W:List Wy}{off s:List Int}{i:Nat}(h:s.length=W.length):(zh b G T W off s i).length=W.length:=by
 unfold zh
 rw[List.length_zipWith,uR,h,Nat.min_self]
theorem lC{S α:Type}{f:S->α->S}(R:S->Prop):∀ {l:List α}{s:S},(∀s x,x∈l->R s->R (f s x))->R s->R (l.foldl f s)
 | [],s,_,h=>h
 | x::l,s,hh,h=>by
  rw[yK]
  exact lC (l:=l) R (fun s y hy=>hh s y (zC _ hy)) (hh s x zE h)
theorem eB(b:Bool)(G T:List Pl)(W:List Wy)(off:List Int):(bC b G T W off).length=W.length :=
 lC (fun s:List Int=>s.length=W.length) (fun s i _ h=>pQ h) (by simp)
theorem Wd.pl{G T:List Pl}{W:List Wy}(h:Wd G T W)(b:Bool):(aD b G T).length<=4:=by
 cases b
 ·exact h.g4
 ·exact h.t4
def Qt:aj->Option Out:=(av (Dl.az 5 [0,1,2,4] (ah 4 dW (aa (ab 0) (aa (ab 1) (aa (ab 4) (aa (ab 2) ae)))))) (aM 3 [3,5] (aq 2 [] (dz (aa (ab 3) (aa (ab 5) ae))) (gw 0 1) (fun _=>some true) (f2 aA (ab 0) (ab 1)))))
theorem fR{G T:List Pl}{W:List Wy}{off:List Int}(h:Wd G T W)(ho:off.length=W.length)(b:Bool) :
  aZ [ax G T W,.int (sI b),af off]=some (af (bC b G T W off)):=by
 have hw:W.length<=16:=h.wl
 have hp:=h.pl b
 have t3:aM 3 [0] (aq 1 [] (aO (f2 au (ab 0) (fC (.int 2)))) (fG 0) (fun _=>some true) (fC (.int 0))) [.val (ax G T W),.val (.int (sI b)),.val (af off),.non,.non,.non]=some (.nx [.val (ax G T W),.val (.int (sI b)),.val (af off),.own ((List.replicate W.length (0:Int)).map PyData.int),.non,.non]):=by
  have z:=zeros (fi:=aO (f2 au (ab 0) (fC (.int 2)))) (ρ:=bY [.val (ax G T W),.val (.int (sI b)),.val (af off),.non,.non,.non]) (ds:=W.map ao) rfl (by rw[zD];omega)
  rw[zD] at z
  exact eR z rfl
 obtain⟨ρ',e3,hs',x,y,rfl⟩:=mS (tgt:=lA 4) (gb:=Qt) (R:=fun s ρ=>s.length=W.length/\∃x y,ρ=[.val (ax G T W),.val (.int (sI b)),.val (af off),.own (s.map PyData.int),x,y]) nD (zh b G T W off)
  (l:=List.range (aD b G T).length) (s:=List.replicate W.length (0:Int)) (ρ:=[.val (ax G T W),.val (.int (sI b)),.val (af off),.own ((List.replicate W.length (0:Int)).map PyData.int),.non,.non])
  (fun s ρ i hi ⟨hs,x,y,hρ⟩=>by
   subst hρ
   have ei:=iF (zT.mp hi)
   have t1:Dl.az 5 [0,1,2,4] (ah 4 dW (aa (ab 0) (aa (ab 1) (aa (ab 4) (aa (ab 2) ae))))) [.val (ax G T W),.val (.int (sI b)),.val (af off),.own (s.map PyData.int),.val (nD i),y]=some (.nx [.val (ax G T W),.val (.int (sI b)),.val (af off),.own (s.map PyData.int),.val (nD i),.val (af (rZ W off (br b G T i).1 (eU b W i (br b G T i).2)))]):=by
    refine mr (ρ':=[.val (ax G T W),.val (.int (sI b)),.val (af off),.own (s.map PyData.int),.val (nD i),y]) rfl (d:=af (rZ W off (br b G T i).1 (eU b W i (br b G T i).2))) ?_ ?_ rfl
    ·dsimp! [oT h ho ei]
    ·dsimp! [oT h ho ei]
   have t2:aM 3 [3,5] (aq 2 [] (dz (aa (ab 3) (aa (ab 5) ae))) (gw 0 1) (fun _=>some true) (f2 aA (ab 0) (ab 1))) [.val (ax G T W),.val (.int (sI b)),.val (af off),.own (s.map PyData.int),.val (nD i),.val (af (rZ W off (br b G T i).1 (eU b W i (br b G T i).2)))]=some (.nx [.val (ax G T W),.val (.int (sI b)),.val (af off),.own ((zh b G T W off s i).map PyData.int),.val (nD i),.val (af (rZ W off (br b G T i).1 (eU b W i (br b G T i).2)))]):=by
    refine vz (ρ':=[.val (ax G T W),.val (.int (sI b)),.val (af off),.val (.list (s.map PyData.int)),.val (nD i),.val (af (rZ W off (br b G T i).1 (eU b W i (br b G T i).2)))]) rfl (ds:=(zh b G T W off s i).map PyData.int) ?_
    exact Fi (a:=s) (b:=rZ W off (br b G T i).1 (eU b W i (br b G T i).2)) rfl (by omega)
   exact⟨_,_,rfl,(ai t1).trans t2,pQ hs,_,_,rfl⟩) ⟨by simp,_,_,rfl⟩
 refine aI ?_
 show dJ [.val (ax G T W),.val (.int (sI b)),.val (af off),.non,.non,.non]=_
 unfold dJ
 rw[ai t3]
 refine (ai (bG e3 (rR (by dsimp! [jQ,Cz,zD]) (by omega)) rfl)).trans ?_
 exact aK rfl
theorem vm{xs ys:List D}(h:(xs++ys).length<=4000):Dl.aA (.tuple xs) (.tuple ys)=some (.tuple (xs++ys)):=by
 simp only[Dl.aA,wF,IT,bD h,zB,Option.none_or,Option.some_or]
theorem EL{f:Dl.Env->Option D}{ρ:Dl.Env}{d:D}(h:f ρ=some d):aC (aa f ae) ρ=some (.tuple [d]):=by
 simp only[aC,aa,ae,h,zA,zB]
 rw[bD (by simp),zB]
theorem AE{f g:Dl.Env->Option D}{ρ:Dl.Env}{d e:D}(h:f ρ=some d)(h2:g ρ=some e):aC (aa f (aa g ae)) ρ=some (.tuple [d,e]):=by
 simp only[aC,aa,ae,h,h2,zA,zB]
 rw[bD (by simp),zB]
theorem aw{g:D->D->Option D}{fa fb:Dl.Env->Option D}{ρ:Dl.Env}{a b c:D}(h:g a b=some c)(ha:fa ρ=some a)(hb:fb ρ=some b):f2 g fa fb ρ=some c:=by rw[jj ha hb,h]
theorem Na{f g:Dl.Env->Option D}{ρ:Dl.Env}{ds:List D}{k:Nat}(h:f ρ=some (.tuple ds))(h2:g ρ=some (nD k)):oM je f nW (C7 g) ρ=some (.tuple (ds.take k)):=by
 simp only[oM,h,nW,C7,h2,zA,gI,zB,je,FD]
theorem Nd{f g:Dl.Env->Option D}{ρ:Dl.Env}{ds:List D}{k:Nat}(h:f ρ=some (.tuple ds))(h2:g ρ=some (nD k)):oM je f (C7 g) nW ρ=some (.tuple (ds.drop k)):=by
 simp only[oM,h,nW,C7,h2,zA,gI,zB,je,zf]
theorem HL(d:D)(ds:List D):au (.tuple (d::ds)) (.int 0)=some d:=rQ (i:=0) rfl
theorem Kk(c d:D)(ds:List D):au (.tuple (c::d::ds)) (.int 1)=some d:=rQ (i:=1) rfl
theorem CN(c:List Int)(i:Nat)(v:Int)(h:i < c.length):((c.map PyData.int).take i++[PyData.int v])++(c.map PyData.int).drop (i+1)=(c.set i v).map PyData.int:=by
 rw[List.set_eq_take_append_cons_drop,if_pos h]
 simp
theorem Qj(i:Nat):Dl.aA (nD i) (.int 1)=some (nD (i+1)):=by
 rw[fL]
 rfl
theorem AL{c:List Int}{i:Nat}{v:Int}(h:i < c.length)(hl:c.length<=1000):js [af c,nD i,.int v]=some (af (c.set i v)):=by
 refine aI ?_
 show lU [.val (af c),.val (nD i),.val (.int v)]=_
 refine aK ?_
 refine aw (a:=.tuple ((c.map PyData.int).take i++[PyData.int v])) (b:=.tuple ((c.map PyData.int).drop (i+1))) ?_ (aw (a:=.tuple ((c.map PyData.int).take i)) (b:=.tuple [.int v]) (vm ?_) (Na rfl rfl) (EL rfl)) (Nd rfl (aw (Qj i) rfl rfl))
 ·rw[vm,CN c i v h]
  ·rfl
  ·rw[CN c i v h];simp;omega
 ·simp;omega
theorem uj{c:List Int}{i:Nat}{v:Int}(h:i < c.length)(hl:c.length<=1000):cm [af c,nD i,.int v]=some (af (c.set i v)):=by
 refine aI ?_
 show nZ [.val (af c),.val (nD i),.val (.int v)]=_
 exact aK (call_of (AL h hl) rfl rfl)
def d5(W:List Wy):List Int:=W.map fun w=>w.2.2
theorem EW{G T:List Pl}{W:List Wy}(h:Wd G T W){f:Dl.Env->Option D}{ρ:Dl.Env}(hf:f ρ=some (ax G T W)):(aU bo (aa (cx (aq 1 [] (aO (f2 au f (fC (.int 2)))) (fG 0) (fun _=>some true) (f2 au (ab 0) (fC (.int 2))))) ae)) ρ=some (af (d5 W)):=by
 have hw:=h.wl
 have hs:(aO (f2 au f (fC (.int 2)))) ρ=some (W.map ao):=by
  unfold aO
  rw[aw (pJ G T W) hf rfl]
  rfl
 have e:aq 1 [] (aO (f2 au f (fC (.int 2)))) (fG 0) (fun _=>some true) (f2 au (ab 0) (fC (.int 2))) ρ=some ((d5 W).map PyData.int):=by
  rw[cq (h:=fun d=>.int (jl ((cQ d).getD 2 .none))) hs (by rw[zD];omega) fun d hd=>?_]
  ·rw[d5,zM,zM]
   rfl
  ·obtain⟨w,hw',rfl⟩:=zQ.mp hd
   rfl
 simp only[aU,aa,ae,cx,e,zB,zA,JE]
theorem ni{G T:List Pl}{W:List Wy}(h:Wd G T W):fH [ax G T W]=some (af (d5 W)):=by
 refine aI ?_
 show rG [.val (ax G T W)]=_
 exact aK (EW h rfl)
theorem mZ(W:List Wy):(d5 W).length=W.length:=by simp[d5]
def jW(G T:List Pl)(W:List Wy)(c:List Int):List Int:=bC true G T W (bC false G T W c)
def qR(G T:List Pl)(W:List Wy)(c:List Int)(k:Nat):Bool:=decide ((jW G T W c).getD k 0 < (bC false G T W c).getD k 0)
def rW(G T:List Pl)(W:List Wy)(c:List Int):Option (Nat×Int):=((List.range W.length).find? (qR G T W c)).map fun k=>(k,(jW G T W c).getD k 0)
def A5:Option (Nat×Int)->D
 | none=>.none
 | some p=>.tuple [nD p.1,.int p.2]
theorem enum_zip:∀ (ds:List D) (k:Nat),bK k ds=(ds.zipIdx k).map fun q=>.tuple [nD q.2,q.1]
 | [],k=>rfl
 | d::ds,k=>by rw[bK,enum_zip ds (k+1),List.zipIdx_cons];rfl
theorem DX(l:List Int):bK 0 (l.map PyData.int)=(List.range l.length).map fun k=>.tuple [nD k,.int (l.getD k 0)]:=by
 rw[enum_zip]
 apply List.ext_getElem
 ·simp
 ·intro i h1 h2
  have:i < l.length:=by simpa using h2
  simp[this]
theorem L3(G T:List Pl)(W:List Wy)(c:List Int):(jW G T W c).length=W.length:=eB _ _ _ _ _
def Pv:aj->Option Out:=(hC (fB (f2 Ey (ab 5) (f2 au (ab 2) (ab 4)))) (aJ (aC (aa (ab 4) (aa (ab 5) ae)))) gN)
theorem lD{G T:List Pl}{W:List Wy}{c:List Int}(h:Wd G T W)(ho:c.length=W.length):dU [ax G T W,af c]=some (A5 (rW G T W c)):=by
 have hw:W.length<=16:=h.wl
 have t2:Dl.az 2 [0,1] (ah 3 aZ (aa (ab 0) (aa (fC (.int 0)) (aa (ab 1) ae)))) [.val (ax G T W),.val (af c),.non,.non,.non,.non]=some (.nx [.val (ax G T W),.val (af c),.val (af (bC false G T W c)),.non,.non,.non]) :=
  ck (call_of (fR h ho false) rfl rfl) rfl rfl rfl
 have t3:Dl.az 3 [0,2] (ah 3 aZ (aa (ab 0) (aa (fC (.int 1)) (aa (ab 2) ae)))) [.val (ax G T W),.val (af c),.val (af (bC false G T W c)),.non,.non,.non]=some (.nx [.val (ax G T W),.val (af c),.val (af (bC false G T W c)),.val (af (jW G T W c)),.non,.non]) :=
  ck (call_of (fR h (eB _ _ _ _ _) true) rfl rfl) rfl rfl rfl
 have hl:=g0 (tgt:=dZ 4 5) (gb:=Pv) (R:=fun ρ=>∃x y,ρ=[.val (ax G T W),.val (af c),.val (af (bC false G T W c)),.val (af (jW G T W c)),x,y]) (fun k=>.tuple [nD k,.int ((jW G T W c).getD k 0)]) (qR G T W c) (fun k=>.tuple [nD k,.int ((jW G T W c).getD k 0)])
  (l:=List.range W.length) (ρ:=[.val (ax G T W),.val (af c),.val (af (bC false G T W c)),.val (af (jW G T W c)),.non,.non])
  (fun ρ k hk ⟨x,y,hρ⟩=>by
   subst hρ
   have hk':k < (bC false G T W c).length:=by rw[eB];exact zT.mp hk
   have hc:(fB (f2 Ey (ab 5) (f2 au (ab 2) (ab 4)))) (bA [.val (ax G T W),.val (af c),.val (af (bC false G T W c)),.val (af (jW G T W c)),.val (nD k),.val (.int ((jW G T W c).getD k 0))])=some (qR G T W c k):=by
    dsimp! [n8 hk',mJ,qR]
   refine⟨[.val (ax G T W),.val (af c),.val (af (bC false G T W c)),.val (af (jW G T W c)),.val (nD k),.val (.int ((jW G T W c).getD k 0))],rfl,fun hq=>?_,fun hq=>?_⟩
   ·rw[hq] at hc
    unfold Pv
    rw[ip hc]
    exact aK (AE rfl rfl)
   ·rw[hq] at hc
    unfold Pv
    rw[cZ hc]
    exact⟨_,rfl,_,_,rfl⟩) ⟨_,_,rfl⟩
 have hi:(bx (aa (ab 3) ae)) (bY [.val (ax G T W),.val (af c),.val (af (bC false G T W c)),.val (af (jW G T W c)),.non,.non])=some ((List.range W.length).map fun k=>.tuple [nD k,.int ((jW G T W c).getD k 0)]):=by
  have:=DX (jW G T W c)
  rw[L3] at this
  rw[<- this]
  rfl
 refine aI ?_
 show ll [.val (ax G T W),.val (af c),.non,.non,.non,.non]=_
 unfold ll
 rw[ai t2,ai t3]
 unfold rW
 cases hq:(List.range W.length).find? (qR G T W c) with
 | some k =>
  exact jt (bG (hl.1 k hq) hi rfl)
 | none =>
  obtain⟨ρ',e,x,y,rfl⟩:=hl.2 hq
  exact (ai (bG e hi rfl)).trans (aK rfl)
theorem cN(l:List Int)(k:Nat)(v:Int)(i:Nat):(l.set k v).getD i 0=if k=i/\i < l.length then v else l.getD i 0:=by
 simp only[zG,List.getElem?_set]
 by_cases h:k=i
 ·subst h
  by_cases h2:k < l.length
  ·simp[h2]
  ·simp[h2]
 ·simp[h]
theorem xo{a b:List Int}{i:Nat}(ha:i < a.length)(hb:i < b.length):(List.zipWith (·+·) a b).getD i 0=a.getD i 0+b.getD i 0:=by
 rw[zG,zG,zG,List.getElem?_zipWith,zK ha,zK hb]
 rfl
def Off(off:List Int):Prop:=∀i,0<=off.getD i 0
def OR(W:List Wy):Prop:=∀i,0<=(ay W i).2.2
theorem Wd.lim{G T:List Pl}{W:List Wy}(h:Wd G T W):OR W:=fun i=>by
 by_cases hi:i < W.length
 ·have:=h.wr (ay W i) (by rw[<- fQ hi];exact List.getElem_mem hi)
  omega
 ·simp only[ay,zG]
  rw[List.getElem?_eq_none (by omega)]
  simp
theorem Wd.amt{G T:List Pl}{W:List Wy}(h:Wd G T W)(b:Bool)(i:Nat):0<=(br b G T i).1:=by
 unfold br
 rw[zG]
 cases e:(aD b G T)[i]? with
 | none=>simp
 | some p =>
  have hm:=List.mem_of_getElem? e
  cases b
  ·exact (h.ga p hm).1
  ·exact (h.ta p hm).1
theorem K2{W:List Wy}{off:List Int}(ho:Off off)(hl:OR W){amt:Int}(ha:0<=amt)(is:List Nat)(i:Nat):0<=(rZ W off amt is).getD i 0/\(rZ W off amt is).getD i 0<=off.getD i 0:=by
 have:=lC (l:=is) (f:=mw W off) (s:=(amt,List.replicate W.length 0)) (fun s=>0<=s.1/\∀i,0<=s.2.getD i 0/\s.2.getD i 0<=off.getD i 0) (fun s k _ ⟨h1,h2⟩=>by
  have ok:=ho k
  have lk:=hl k
  have v0:0<=cV W off s.1 k:=by unfold cV;omega
  have v1:cV W off s.1 k<=off.getD k 0:=by unfold cV;omega
  have v2:cV W off s.1 k<=s.1:=by unfold cV;omega
  refine⟨by simp only[mw];omega,fun i=>?_⟩
  simp only[mw,cN]
  split
  ·rename_i z
   rw[<- z.1]
   exact⟨v0,v1⟩
  ·exact h2 i) ⟨ha,fun i=>by
   have:=ho i
   have z:(List.replicate W.length (0:Int)).getD i 0=0:=by
    simp only[zG,List.getElem?_replicate]
    split<;>rfl
   simp only[z]
   omega⟩
 exact this.2 i
theorem Cu{W:List Wy}{off:List Int}{amt:Int}{is:List Nat}{i:Nat}(hi:i∉is):(rZ W off amt is).getD i 0=0:=by
 refine lC (l:=is) (f:=mw W off) (s:=(amt,List.replicate W.length 0)) (fun s=>s.2.getD i 0=0) (fun s k hk h=>?_) ?_
 ·simp only[mw,cN]
  have hki:¬ (k=i/\i < s.2.length):=fun z=>hi (z.1 ▸ hk)
  rw[if_neg hki,h]
 ·simp only[zG,List.getElem?_replicate]
  split<;>rfl
theorem vS{G T:List Pl}{W:List Wy}(h:Wd G T W){off:List Int}(ho:Off off)(b:Bool):∀ (n:Nat),n<=(aD b G T).length ->
  ((List.range n).foldl (zh b G T W off) (List.replicate W.length 0)).length=W.length/\∀i,i < W.length->(0<=((List.range n).foldl (zh b G T W off) (List.replicate W.length 0)).getD i 0/\((List.range n).foldl (zh b G T W off) (List.replicate W.length 0)).getD i 0<=off.getD i 0)/\((n:Nat)<=bz b (ay W i)->((List.range n).foldl (zh b G T W off) (List.replicate W.length 0)).getD i 0=0)
 | 0,_=>by
  refine⟨by simp,fun i hi=>?_⟩
  have:=ho i
  have z:((List.range 0).foldl (zh b G T W off) (List.replicate W.length 0)).getD i 0=0:=by simp[zG,hi]
  rw[z]
  exact⟨by omega,fun _=>rfl⟩
 | n+1,hn=>by
  obtain⟨h1,h2⟩:=vS h ho b n (by omega)
  rw[List.range_succ,List.foldl_append,yK,List.foldl_nil]
  generalize (List.range n).foldl (zh b G T W off) (List.replicate W.length 0)=s at h1 h2
  refine⟨pQ h1,fun i hi=>?_⟩
  obtain⟨h3,h4⟩:=h2 i hi
  have e:=iF (b:=b) (G:=G) (T:=T) (i:=n) (by omega)
  have hc:=K2 ho h.lim (h.amt b n) (eU b W n (br b G T n).2) i
  have hz:(zh b G T W off s n).getD i 0=s.getD i 0+(rZ W off (br b G T n).1 (eU b W n (br b G T n).2)).getD i 0:=xo (by omega) (by rw[uR];exact hi)
  rw[hz]
  by_cases he:bz b (ay W i)=n
  ·rw[h4 (by omega)]
   exact⟨by omega,fun z=>by omega⟩
  ·have hni:i∉eU b W n (br b G T n).2:=fun z=>he (cB.mp ((fF h e).mem_iff.mp z)).2
   rw[Cu hni]
   exact⟨by omega,fun z=>by rw[h4 (by omega)];rfl⟩
theorem gL{l:List Int}{i:Nat}(h:l.length<=i):l.getD i 0=0:=by simp[zG,h]
theorem jN{G T:List Pl}{W:List Wy}(h:Wd G T W){off:List Int}(ho:Off off)(b:Bool):Off (bC b G T W off):=fun i=>by
 by_cases hi:i < W.length
 ·exact ((vS h ho b _ (zzA _)).2 i hi).1.1
 ·rw[gL (by rw[eB];omega)]
  exact Int.le_refl 0
theorem AK{G T:List Pl}{W:List Wy}(h:Wd G T W){off:List Int}(ho:Off off)(b:Bool){i:Nat}(hi:i < W.length):(bC b G T W off).getD i 0<=off.getD i 0 :=
 ((vS h ho b _ (zzA _)).2 i hi).1.2
theorem Cm{G T:List Pl}{W:List Wy}(h:Wd G T W){c:List Int}(ho:Off c){p:Nat×Int}(e:rW G T W c=some p):p.1 < W.length/\0<=p.2/\p.2 < c.getD p.1 0:=by
 unfold rW at e
 obtain⟨k,hk,rfl⟩:=Dl.ag e
 have hm:=List.mem_of_find?_eq_some hk
 have hq:=List.find?_some hk
 have hi:=zT.mp hm
 rw[qR,zJ] at hq
 have a:=AK h ho false hi
 have b:=jN h (jN h ho false) true k
 exact⟨hi,b,by simp only;omega⟩
def mea(c:List Int):Nat:=(c.map Int.toNat).sum
theorem BX:∀ {c:List Int}{k:Nat}{v:Int},0<=v->v < c.getD k 0->mea (c.set k v) < mea c
 | [],k,v,h0,h1=>by simp at h1;omega
 | x::c,0,v,h0,h1=>by
  simp at h1
  simp only[mea,List.set_cons_zero,zI,List.sum_cons]
  omega
 | x::c,k+1,v,h0,h1=>by
  have:=BX (c:=c) (k:=k) h0 (by simpa using h1)
  simp only[mea,List.set_cons_succ,zI,List.sum_cons] at this ⊢
  omega
theorem Cg:∀ {W:List Wy},(∀w∈W,w.2.2<=9)->mea (d5 W)<=9 * W.length
 | [],_=>by simp[mea,d5]
 | w::W,h=>by
  have:=Cg (W:=W) fun x hx=>h x (zC _ hx)
  have:=h w zE
  simp only[mea,d5,zI,List.sum_cons,zL] at *
  omega
theorem II{G T:List Pl}{W:List Wy}(h:Wd G T W):Off (d5 W):=fun i=>by
 have:=h.lim i
 by_cases hi:i < W.length
 ·simpa [d5,ay,zG,hi] using this
 ·rw[gL (by rw[mZ];omega)]
  exact Int.le_refl 0
theorem CL{c:List Int}(h:Off c){k:Nat}{v:Int}(hv:0<=v):Off (c.set k v):=fun i=>by
 rw[cN]
 split
 ·exact hv
 ·exact h i
theorem rq(a:List Int):SeqAt.shaped (af a)=true :=
 (jI.tup (b:=a.length) (k:=0) (by simp) fun x hx=>by obtain⟨i,_,rfl⟩:=zQ.mp hx;exact nj _).shaped (by decide)
theorem yb(a b:List Int):PyData.eqv (af a) (af b)=decide (a=b):=by
 rw[af,af,PyData.eqv,rA]
theorem b9{f:Dl.Env->Option D}{ρ:Dl.Env}{b:Bool}(h:f ρ=some (.bool b)):fB f ρ=some b:=by
 simp only[fB,h,zA,gB]
theorem hJ{t:Dl.Env->Option Bool}{ρ:Dl.Env}{b:Bool}(h:t ρ=some b):b8 t ρ=some (!b):=by
 simp only[b8,h,zB]
theorem MY{t u:Dl.Env->Option Bool}{ρ:Dl.Env}(h:t ρ=some false)(h2:u ρ=some false):qQ t u ρ=some false:=by
 simp only[qQ,h,zA,h2]
theorem Gf(a b:List Int):j3 (af a) (af b)=some (.bool (!decide (a=b))):=by
 simp only[j3,Ot,rq,and_self,if_true,yb,zB]
theorem qc(a b:List Int):bQ (af a) (af b)=some (.bool (decide (a=b))):=by
 simp only[bQ,MP,rq,and_self,if_true,yb,zB]
theorem nJ(a:List Int):j3 (af a) (af a)=some (.bool false):=by rw[Gf];simp
theorem Kh(x:Option (Nat×Int)):oW (A5 x) .none=some (.bool x.isSome):=by cases x<;>rfl
theorem bb{i:Nat}{fz:List Nat}{f:Dl.Env->Option D}{ρ:aj}{d:D}(hA:f (bA ρ)=some d)(hF:f (bY ρ)=some d)(hh:hand fz 0 ρ=ρ):Dl.az i fz f ρ=some (.nx (ρ.set i (.val d))):=by
 cases hs:Dl.qm d with
 | true=>exact di hA hs
 | false=>exact mr hh hA hF hs (.inr rfl)
theorem GN{i:Nat}{fz:List Nat}{f:Dl.Env->Option D}{ρ:aj}{d:D}{ds:List D}(hA:f (bA ρ)=some d)(hF:f (bY ρ)=some d)(hh:hand fz 0 ρ=ρ)(ho:ρ[i]?=some (.own ds))(hl:ds.length < 4000):kZ i fz f ρ=some (.nx (ρ.set i (.own (ds++[d])))):=by
 have hz:ds.length < sizeLine:=zP hl (by decide)
 have hi:lR fz f ρ=some (d,ρ):=by
  unfold lR
  rw[hA,zA,hh,hF]
  cases Dl.qm d<;>rfl
 simp only[kZ,hi,zA,nI,ho,hz,if_true,zB]
theorem fw{G T:List Pl}{W:List Wy}(h:Wd G T W):bh [ax G T W]=some .none:=by
 have hw:cA [ax G T W]=some (.bool true):=by rw[Bm h.fit (by decide),h.wok]
 have hc:(b8 (fB (ah 1 cA (aa (ab 0) ae)))) (bA [.val (ax G T W)])=some false:=hJ (b9 (call_of hw rfl rfl))
 have:dE [.val (ax G T W)]=some (.nx [.val (ax G T W)]):=by
  unfold dE
  rw[cZ hc]
 show (dE [.val (ax G T W)]).map _=_
 rw[this]
 rfl
theorem sj{a b:Int}{i:Int}(h1:a<=i)(h2:i<=b):fv [.int i,.int a,.int b]=some .none:=by
 have hw:aS [.int i,.int a,.int b]=some (.bool true):=by rw[gO rfl];simp[whole,h1,h2]
 have hc:(b8 (fB (ah 3 aS (aa (ab 0) (aa (ab 1) (aa (ab 2) ae)))))) (bA [.val (.int i),.val (.int a),.val (.int b)])=some false:=hJ (b9 (call_of hw rfl rfl))
 have:dw [.val (.int i),.val (.int a),.val (.int b)]=some (.nx [.val (.int i),.val (.int a),.val (.int b)]):=by
  unfold dw
  rw[cZ hc]
 show (dw [.val (.int i),.val (.int a),.val (.int b)]).map _=_
 rw[this]
 rfl
theorem ek{n i:Int}(h1:0<=i)(h2:i<=n - 1):aX [.int i,.int n]=some .none:=by
 have:cW [.val (.int i),.val (.int n)]=some (.nx [.val (.int i),.val (.int n)]):=by
  unfold cW
  exact du (call_of (sj h1 h2) (cons_of rfl (cons_of rfl (cons_of (aw (sub_int n 1) rfl rfl) rfl))) rfl)
 show (cW [.val (.int i),.val (.int n)]).map _=_
 rw[this]
 rfl
theorem va(b:Bool):gG [.int (sI b)]=some .none:=by
 have:d6 [.val (.int (sI b))]=some (.nx [.val (.int (sI b))]):=by
  unfold d6
  exact du (call_of (ek (n:=2) (i:=sI b) (by cases b<;>decide) (by cases b<;>decide)) rfl rfl)
 show (d6 [.val (.int (sI b))]).map _=_
 rw[this]
 rfl
abbrev Sp:=List (Nat×Int)×List Int
def Kx(G T:List Pl)(W:List Wy)(s:Sp):Bool:=(rW G T W s.2).isSome
def spS(G T:List Pl)(W:List Wy)(s:Sp):Sp:=match rW G T W s.2 with|some p=>(s.1++[p],s.2.set p.1 p.2)|none=>s
def low(c:List Int)(p:Nat×Int):List Int:=c.set p.1 p.2
structure zx(W:List Wy)(s:Sp):Prop where
 len:s.2.length=W.length
 off:Off s.2
 eq:s.2=s.1.foldl low (d5 W)
 bd:s.1.length+mea s.2<=mea (d5 W)
 mem:∀p∈s.1,p.1 < W.length
theorem zx.start{G T:List Pl}{W:List Wy}(h:Wd G T W):zx W ([],d5 W):=⟨mZ W,II h,rfl,by simp,fun p hp=>by cases hp⟩
theorem qV{G T:List Pl}{W:List Wy}{s:Sp}{p:Nat×Int}(e:rW G T W s.2=some p):spS G T W s=(s.1++[p],s.2.set p.1 p.2):=by
 unfold spS
 rw[e]
theorem zx.step{G T:List Pl}{W:List Wy}(h:Wd G T W){s:Sp}(i:zx W s){p:Nat×Int}(e:rW G T W s.2=some p):zx W (spS G T W s)/\mea (spS G T W s).2 < mea s.2:=by
 obtain⟨h1,h2,h3⟩:=Cm h i.off e
 have hm:=BX h2 h3
 rw[qV e]
 refine⟨⟨by simp[i.len],CL i.off h2,?_,?_,fun q hq=>?_⟩,hm⟩
 ·rw[List.foldl_append,<- i.eq]
  rfl
 ·have:=i.bd
  simp only[zN,List.length_singleton]
  omega
 ·rcases List.mem_append.mp hq with z|z
  ·exact i.mem q z
  ·rw[yL] at z
   rw[z]
   exact h1
theorem Wd.mea{G T:List Pl}{W:List Wy}(h:Wd G T W):mea (d5 W)<=144:=by
 have:=Cg (W:=W) fun w hw=>(h.wr w hw).2.2.2
 have:=h.wl
 omega
def r6(r:List (Nat×Int)):List D:=(r.map fun p=>[((p.1:Nat):Int),p.2]).map af
theorem Ii(r:List (Nat×Int))(p:Nat×Int):r6 (r++[p])=r6 r++[A5 (some p)]:=by simp[r6];rfl
theorem Jt(r:List (Nat×Int)):(r6 r).length=r.length:=by simp[r6]
def fin(G T:List Pl)(W:List Wy):Sp:=lp (Kx G T W) (spS G T W) Rf.turns ([],d5 W)
def OZ:aj->Option Out:=(av (kZ 1 [3] (ab 3)) (av (Dl.az 2 [2,3] (ah 3 cm (aa (ab 2) (aa (f2 au (ab 3) (fC (.int 0))) (aa (f2 au (ab 3) (fC (.int 1))) ae))))) (Dl.az 3 [0,2] (ah 2 dU (aa (ab 0) (aa (ab 2) ae))))))
def KS(G T:List Pl)(W:List Wy)(s:Sp):aj:=[.val (ax G T W),.own (r6 s.1),.val (af s.2),.val (A5 (rW G T W s.2))]
theorem Jv{G T:List Pl}{W:List Wy}(h:Wd G T W){s:Sp}(i:zx W s){p:Nat×Int}(e:rW G T W s.2=some p):OZ (KS G T W s)=some (.nx (KS G T W (spS G T W s))):=by
 obtain⟨h1,h2,h3⟩:=Cm h i.off e
 obtain⟨i2,hm⟩:=i.step h e
 have hb:=h.mea
 have hbd:=i.bd
 have hw:=h.wl
 have t1:kZ 1 [3] (ab 3) (KS G T W s)=some (.nx [.val (ax G T W),.own (r6 s.1++[A5 (some p)]),.val (af s.2),.val (A5 (some p))]):=by
  unfold KS
  rw[e]
  exact GN rfl rfl rfl rfl (by rw[Jt];omega)
 have hlow:∀ρ:Dl.Env,ab 2 ρ=some (af s.2)->ab 3 ρ=some (A5 (some p))->(ah 3 cm (aa (ab 2) (aa (f2 au (ab 3) (fC (.int 0))) (aa (f2 au (ab 3) (fC (.int 1))) ae)))) ρ=some (af (s.2.set p.1 p.2)):=fun ρ a b =>
  call_of (uj (c:=s.2) (i:=p.1) (v:=p.2) (by rw[i.len];exact h1) (by rw[i.len];omega)) (cons_of a (cons_of (aw (HL _ _) b rfl) (cons_of (aw (Kk _ _ _) b rfl) rfl))) rfl
 have t2:Dl.az 2 [2,3] (ah 3 cm (aa (ab 2) (aa (f2 au (ab 3) (fC (.int 0))) (aa (f2 au (ab 3) (fC (.int 1))) ae)))) [.val (ax G T W),.own (r6 s.1++[A5 (some p)]),.val (af s.2),.val (A5 (some p))]=some (.nx [.val (ax G T W),.own (r6 s.1++[A5 (some p)]),.val (af (s.2.set p.1 p.2)),.val (A5 (some p))]) :=
  bb (hlow _ rfl rfl) (hlow _ rfl rfl) rfl
 have hl2:(s.2.set p.1 p.2).length=W.length:=by rw[yD,i.len]
 have t3:Dl.az 3 [0,2] (ah 2 dU (aa (ab 0) (aa (ab 2) ae))) [.val (ax G T W),.own (r6 s.1++[A5 (some p)]),.val (af (s.2.set p.1 p.2)),.val (A5 (some p))]=some (.nx [.val (ax G T W),.own (r6 s.1++[A5 (some p)]),.val (af (s.2.set p.1 p.2)),.val (A5 (rW G T W (s.2.set p.1 p.2)))]) :=
  bb (call_of (lD h hl2) rfl rfl) (call_of (lD h hl2) rfl rfl) rfl
 unfold OZ
 rw[ai t1,ai t2,t3,qV e]
 unfold KS
 rw[Ii]
theorem mU{G T:List Pl}{W:List Wy}{s:Sp}(h:Kx G T W s=true):∃p,rW G T W s.2=some p:=Option.isSome_iff_exists.mp h
theorem Kg{G T:List Pl}{W:List Wy}(h:Wd G T W):pL [ax G T W]=some (.list (r6 (fin G T W).1))/\zx W (fin G T W):=by
 have hb:=h.mea
 have t1:aM 1 [] (eV ae) [.val (ax G T W),.non,.non,.non]=some (.nx [.val (ax G T W),.own [],.non,.non]):=eR (f:=eV ae) (ds:=[]) (show small []=some [] from bD (by simp)) rfl
 have t2:Dl.az 2 [0] (ah 1 fH (aa (ab 0) ae)) [.val (ax G T W),.own [],.non,.non]=some (.nx [.val (ax G T W),.own [],.val (af (d5 W)),.non]) :=
  bb (call_of (ni h) rfl rfl) (call_of (ni h) rfl rfl) rfl
 have t3:Dl.az 3 [0,2] (ah 2 dU (aa (ab 0) (aa (ab 2) ae))) [.val (ax G T W),.own [],.val (af (d5 W)),.non]=some (.nx (KS G T W ([],d5 W))) :=
  bb (call_of (lD h (mZ W)) rfl rfl) (call_of (lD h (mZ W)) rfl rfl) rfl
 obtain⟨ρ',ew,⟨rfl,iv⟩,_⟩:=yQ (t:=(fB (f2 oW (ab 3) (fC .none)))) (gb:=OZ) (R:=fun s ρ=>ρ=KS G T W s/\zx W s) (Kx G T W) (spS G T W) (fun s=>mea s.2)
  (fun s ρ ⟨hρ,i⟩=>by
   subst hρ
   exact b9 (aw (Kh _) rfl rfl))
  (fun s ρ ⟨hρ,i⟩ hc=>by
   subst hρ
   obtain⟨p,e⟩:=mU hc
   exact⟨_,Jv h i e,⟨rfl,(i.step h e).1⟩,(i.step h e).2⟩)
  Rf.turns ([],d5 W) (KS G T W ([],d5 W)) (Nat.lt_of_le_of_lt hb (by decide)) ⟨rfl,zx.start h⟩
 refine⟨?_,iv⟩
 refine aI ?_
 show pV [.val (ax G T W),.non,.non,.non]=_
 unfold pV
 rw[ai t1,ai t2,ai t3]
 refine (ai ew).trans ?_
 exact aK rfl
theorem Ib(c:List Int)(p:Nat×Int):(low c p).length=c.length:=by simp[low]
theorem FM{G T:List Pl}{W:List Wy}(h:Wd G T W){r:List (Nat×Int)}(hr:∀p∈r,p.1 < W.length):ny [ax G T W,.list (r6 r)]=some (af (r.foldl low (d5 W))):=by
 have hw:=h.wl
 have t2:Dl.az 2 [0] (ah 1 fH (aa (ab 0) ae)) [.val (ax G T W),.val (.list (r6 r)),.non,.non,.non]=some (.nx [.val (ax G T W),.val (.list (r6 r)),.val (af (d5 W)),.non,.non]) :=
  bb (call_of (ni h) rfl rfl) (call_of (ni h) rfl rfl) rfl
 obtain⟨ρ',e3,hs',x,y,rfl⟩:=mS (tgt:=dZ 3 4) (gb:=Dl.az 2 [2,3,4] (ah 3 cm (aa (ab 2) (aa (ab 3) (aa (ab 4) ae))))) (R:=fun (c:List Int) ρ=>c.length=W.length/\∃x y,ρ=[.val (ax G T W),.val (.list (r6 r)),.val (af c),x,y]) (fun p:Nat×Int=>af [((p.1:Nat):Int),p.2]) low
  (l:=r) (s:=d5 W) (ρ:=[.val (ax G T W),.val (.list (r6 r)),.val (af (d5 W)),.non,.non])
  (fun c ρ p hp ⟨hc,x,y,hρ⟩=>by
   subst hρ
   have el:=uj (c:=c) (i:=p.1) (v:=p.2) (by rw[hc];exact hr p hp) (by omega)
   have t:Dl.az 2 [2,3,4] (ah 3 cm (aa (ab 2) (aa (ab 3) (aa (ab 4) ae)))) [.val (ax G T W),.val (.list (r6 r)),.val (af c),.val (nD p.1),.val (.int p.2)]=some (.nx [.val (ax G T W),.val (.list (r6 r)),.val (af (low c p)),.val (nD p.1),.val (.int p.2)]) :=
    bb (call_of el rfl rfl) (call_of el rfl rfl) rfl
   exact⟨_,_,rfl,t,by rw[Ib,hc],_,_,rfl⟩) ⟨mZ W,_,_,rfl⟩
 refine aI ?_
 show mY [.val (ax G T W),.val (.list (r6 r)),.non,.non,.non]=_
 unfold mY
 rw[ai t2]
 refine (ai (bG e3 ?_ rfl)).trans (aK rfl)
 show some (r6 r)=_
 rw[r6,zM]
 rfl
theorem td{G T:List Pl}{W:List Wy}(h:Wd G T W):bN [ax G T W]=some (af (bC false G T W (fin G T W).2)):=by
 obtain⟨e1,i⟩:=Kg h
 have e2:=FM h i.mem
 rw[<- i.eq] at e2
 refine aI ?_
 show fu [.val (ax G T W)]=_
 unfold fu
 refine (ai (du (call_of (fw h) rfl rfl))).trans ?_
 exact aK (call_of (fR h i.len false) (cons_of rfl (cons_of rfl (cons_of (call_of e2 (cons_of rfl (cons_of (call_of e1 rfl rfl) rfl)) rfl) rfl))) rfl)
def Lk(w:Wy):Wy:=(w.2.1,w.1,w.2.2)
structure Ord(W:List Wy)(π:List Nat):Prop where
 perm:π.Perm (List.range W.length)
 up:π.Pairwise fun i j=>(ay W i).2.1 < (ay W j).2.1\/((ay W i).2.1=(ay W j).2.1/\(ay W i).1 < (ay W j).1)
def eG(W:List Wy)(π:List Nat):List Wy:=π.map fun i=>Lk (ay W i)
def lN(P:List Int)(π:List Nat):List Int:=π.map fun i=>P.getD i 0
section
variable {W:List Wy}{π π':List Nat}{P:List Int}{G T:List Pl}
theorem Ord.len(o:Ord W π):π.length=W.length:=by rw[o.perm.length_eq,zS]
theorem Ord.lt(o:Ord W π){k:Nat}(hk:k < W.length):π.getD k 0 < W.length:=by
 have h:k < π.length:=by rw[o.len];exact hk
 have:=o.perm.mem_iff.mp (List.getElem_mem h)
 rw[zG,zK h]
 simpa using this
theorem Ord.ex(o:Ord W π){i:Nat}(hi:i < W.length):∃k,k < W.length/\π.getD k 0=i:=by
 have:i∈π:=o.perm.mem_iff.mpr (by simpa using hi)
 obtain⟨k,hk,e⟩:=List.getElem_of_mem this
 exact⟨k,by rw[<- o.len];exact hk,by rw[zG,zK hk];exact e⟩
theorem cD(o:Ord W π):(eG W π).length=W.length:=by simp[eG,o.len]
theorem IY(o:Ord W π):(lN P π).length=W.length:=by simp[lN,o.len]
theorem fW(o:Ord W π){k:Nat}(hk:k < W.length):ay (eG W π) k=Lk (ay W (π.getD k 0)):=by
 have h:k < π.length:=by rw[o.len];exact hk
 simp[ay,eG,h,zG]
theorem l5(o:Ord W π){k:Nat}(hk:k < W.length):(lN P π).getD k 0=P.getD (π.getD k 0) 0:=by
 have h:k < π.length:=by rw[o.len];exact hk
 simp[lN,h,zG]
theorem p6(b:Bool)(w:Wy):bz (!b) (Lk w)=bz b w:=by cases b<;>rfl
theorem uN(b:Bool)(w:Wy):cf (!b) (Lk w)=cf b w:=by cases b<;>rfl
theorem Ord.ris(o:Ord W π):tT (eG W π):=by
 unfold tT eG
 rw[List.pairwise_map]
 exact o.up
theorem K9(h:tT W){i j:Nat}(hi:i < W.length)(hj:j < W.length)(e:(ay W i).1 < (ay W j).1\/((ay W i).1=(ay W j).1/\(ay W i).2.1 < (ay W j).2.1)):i < j:=by
 rcases Nat.lt_or_ge i j with q|q
 ·exact q
 ·exfalso
  rcases Nat.eq_or_lt_of_le q with q|q
  ·subst q;omega
  ·have:=List.pairwise_iff_getElem.mp h j i hj hi q
   rw[fQ hi,fQ hj] at this
   omega
theorem Ay{l:List Nat}{n:Nat}(p:l.Perm (List.range n))(h:l.Pairwise (· < ·)):l=List.range n:=by
 refine iI (fun i=>((i:Nat):Int)) p (h.imp fun {a b} q=>by omega) (List.pairwise_lt_range.imp fun {a b} q=>by omega)
theorem map_getD(l:List Nat):(List.range l.length).map (fun k=>l.getD k 0)=l:=by
 apply List.ext_getElem
 ·simp
 ·intro i h1 h2
  simp[h2]
theorem Ord.back(h:tT W)(o:Ord W π)(o':Ord (eG W π) π'):π'.map (fun k=>π.getD k 0)=List.range W.length:=by
 have hl:(eG W π).length=W.length:=cD o
 refine Ay ?_ ?_
 ·have:=(o'.perm.map fun k=>π.getD k 0)
  rw[hl,<- o.len,map_getD] at this
  exact this.trans o.perm
 ·rw[List.pairwise_map]
  refine o'.up.imp_of_mem fun {i j} hi hj q=>?_
  have hi':i < W.length:=by have:=o'.perm.mem_iff.mp hi;rw[hl] at this;simpa using this
  have hj':j < W.length:=by have:=o'.perm.mem_iff.mp hj;rw[hl] at this;simpa using this
  rw[fW o hi',fW o hj'] at q
  exact K9 h (o.lt hi') (o.lt hj') q
theorem vY(h:tT W)(o:Ord W π)(o':Ord (eG W π) π'):eG (eG W π) π'=W:=by
 have hl:(eG W π).length=W.length:=cD o
 have e:eG (eG W π) π'=(π'.map fun k=>π.getD k 0).map fun i=>ay W i:=by
  unfold eG
  rw[zM]
  refine yJ fun k hk=>?_
  have hk':k < W.length:=by have:=o'.perm.mem_iff.mp hk;rw[hl] at this;simpa using this
  have:=fW o hk'
  unfold eG at this
  rw[this];rfl
 rw[e,o.back h o']
 have:=map_range (0,0,0) (fun w:Wy=>w) W
 simpa [ay] using this
theorem I0(h:tT W)(o:Ord W π)(o':Ord (eG W π) π')(hp:P.length=W.length):lN (lN P π) π'=P:=by
 have hl:(eG W π).length=W.length:=cD o
 have e:lN (lN P π) π'=(π'.map fun k=>π.getD k 0).map fun i=>P.getD i 0:=by
  rw[zM]
  unfold lN
  refine yJ fun k hk=>?_
  have hk':k < W.length:=by have:=o'.perm.mem_iff.mp hk;rw[hl] at this;simpa using this
  have:=l5 (P:=P) o hk'
  unfold lN at this
  rw[this];rfl
 rw[e,o.back h o',<- hp]
 have:=map_range 0 (fun x:Int=>x) P
 simpa using this
theorem EN(o:Ord W π)(b:Bool)(p:Int):((own (!b) (eG W π) p).map fun k=>π.getD k 0).Perm (own b W p):=by
 have hl:(eG W π).length=W.length:=cD o
 have e:((own (!b) (eG W π) p).map fun k=>π.getD k 0)=π.filter fun i=>decide (bz b (ay W i)=p):=by
  conv=>rhs;rw[<- map_getD π,List.filter_map,o.len]
  unfold own
  rw[hl]
  congr 1
  refine List.filter_congr fun k hk=>?_
  have hk':k < W.length:=by simpa using hk
  rw[fW o hk',p6];rfl
 rw[e]
 exact o.perm.filter _
theorem Fg(o:Ord W π)(b:Bool)(p:Int):(Nt (!b) (eG W π) p).Perm (Nt b W p):=by
 have hl:(eG W π).length=W.length:=cD o
 rw[<- lu,<- lu]
 have:=(EN o b p).map fun i=>cf b (ay W i)
 rw[zM] at this
 refine List.Perm.trans (List.Perm.of_eq ?_) this
 refine yJ fun k hk=>?_
 have hk':k < W.length:=by have:=(cB.mp hk).1;rwa [hl] at this
 show cf (!b) (ay (eG W π) k)=cf b (ay W (π.getD k 0))
 rw[fW o hk',uN]
theorem Ord.wd(h:Wd G T W)(o:Ord W π):Wd T G (eG W π) where
 g1:=h.t1
 g4:=h.t4
 t1:=h.g1
 t4:=h.g4
 ga:=h.ta
 ta:=h.ga
 gl:=fun i p e=>(h.tl i p e).trans (Fg o true i).symm
 tl:=fun i p e=>(h.gl i p e).trans (Fg o false i).symm
 wr:=fun w hw=>by
  obtain⟨i,hi,rfl⟩:=zQ.mp hw
  have hi':i < W.length:=by have:=o.perm.mem_iff.mp hi;simpa using this
  have:=h.wr (ay W i) (by rw[<- fQ hi'];exact List.getElem_mem _)
  exact⟨this.2.1,this.1,this.2.2⟩
 wp:=o.ris
 wl:=by rw[cD o];exact h.wl
theorem pP(b:Bool)(G T:List Pl):aD (!b) T G=aD b G T:=by cases b<;>rfl
theorem vh(b:Bool)(G T:List Pl)(i:Nat):br (!b) T G i=br b G T i:=by unfold br;rw[pP]
def j5(b:Bool)(W:List Wy)(P:List Int)(p:Int):Int:=((own b W p).map fun i=>P.getD i 0).sum
theorem zq{l m:List Int}(p:l.Perm m):l.sum=m.sum:=by
 induction p with
 | nil=>rfl
 | cons x _ ih=>simp[ih]
 | swap x y l=>simp only[List.sum_cons];omega
 | trans _ _ h1 h2=>exact h1.trans h2
theorem F9(o:Ord W π)(b:Bool)(p:Int):j5 (!b) (eG W π) (lN P π) p=j5 b W P p:=by
 have hl:(eG W π).length=W.length:=cD o
 have:=zq ((EN o b p).map fun i=>P.getD i 0)
 unfold j5
 rw[<- this,zM]
 congr 1
 refine yJ fun k hk=>?_
 have hk':k < W.length:=by have:=(cB.mp hk).1;rwa [hl] at this
 exact l5 o hk'
theorem GT(h:Wd G T W)(o:Ord W π){b:Bool}{i:Nat}{p:Pl}(e:(aD b G T)[i]?=some p){x:Int}(hx:x∈p.2):me (!b) (eG W π) i x < W.length/\π.getD (me (!b) (eG W π) i x) 0=me b W i x:=by
 have e':(aD (!b) T G)[i]?=some p:=by rw[pP];exact e
 obtain⟨h1,h2,h3⟩:=lF (o.wd h) e' hx
 obtain⟨g1,g2,g3⟩:=lF h e hx
 rw[cD o] at h1
 rw[fW o h1,p6] at h2
 rw[fW o h1,uN] at h3
 exact⟨h1,xg h.wp (o.lt h1) g1 (by rw[h2,g2]) (by rw[h3,g3])⟩
end
def sd(L:List Int)(x:Int):Nat:=L.findIdx fun o=>decide (o=x)
def uX(b:Bool)(G T:List Pl)(W:List Wy)(P:List Int)(k:Nat):Bool :=
 decide (j5 b W P (bz b (ay W k)) < (br b G T (bz b (ay W k)).toNat).1) ||
 ((br b G T (bz b (ay W k)).toNat).2.drop (sd (br b G T (bz b (ay W k)).toNat).2 (cf b (ay W k))+1)).any fun o=>decide (0 < P.getD (me b W (bz b (ay W k)) o) 0)
def lM(G T:List Pl)(W:List Wy)(P:List Int)(k:Nat):Nat :=
 if P.getD k 0=(ay W k).2.2 then 0 else if uX false G T W P k=false then 1 else if uX true G T W P k=false then 2 else 3
def BY(G T:List Pl)(W:List Wy)(P:List Int):List Nat:=(List.range W.length).filter fun k=>decide (lM G T W P k=3)
section
variable {W:List Wy}{π π':List Nat}{P:List Int}{G T:List Pl}
theorem Wd.end_pl(h:Wd G T W)(b:Bool){k:Nat}(hk:k < W.length):0<=bz b (ay W k)/\(bz b (ay W k)).toNat < (aD b G T).length/\((bz b (ay W k)).toNat:Int)=bz b (ay W k):=by
 have:=h.wr (ay W k) (by rw[<- fQ hk];exact List.getElem_mem _)
 cases b
 ·simp only[bz,aD,Bool.false_eq_true,if_false];omega
 ·simp only[bz,aD,if_true];omega
theorem ua{α:Type}{p q:α->Bool}:∀ {l:List α},(∀x∈l,p x=q x)->l.any p=l.any q
 | [],_=>rfl
 | a::l,h=>by rw[List.any_cons,List.any_cons,h a zE,ua fun x hx=>h x (zC _ hx)]
theorem GD(h:Wd G T W)(o:Ord W π)(b:Bool){k:Nat}(hk:k < W.length):uX (!b) T G (eG W π) (lN P π) k=uX b G T W P (π.getD k 0):=by
 obtain⟨h1,h2,h3⟩:=h.end_pl b (o.lt hk)
 unfold uX
 rw[fW o hk,p6,uN,vh,F9 o]
 congr 1
 rw[<- h3]
 simp only[yH]
 refine ua fun x hx=>?_
 obtain⟨e1,e2⟩:=GT h o (iF h2) (List.mem_of_mem_drop hx)
 rw[l5 o e1,e2]
theorem L7(h:Wd G T W)(o:Ord W π){k:Nat}(hk:k < W.length):(lM T G (eG W π) (lN P π) k=3)↔(lM G T W P (π.getD k 0)=3):=by
 have e1:=GD (P:=P) h o false hk
 have e2:=GD (P:=P) h o true hk
 simp only[Bool.not_false,Bool.not_true] at e1 e2
 unfold lM
 rw[l5 o hk,fW o hk,e1,e2]
 have:(Lk (ay W (π.getD k 0))).2.2=(ay W (π.getD k 0)).2.2:=rfl
 rw[this]
 cases uX false G T W P (π.getD k 0)<;>cases uX true G T W P (π.getD k 0)<;>simp<;>split<;>simp
theorem Ox(h:Wd G T W)(o:Ord W π):((BY T G (eG W π) (lN P π)).map fun k=>π.getD k 0).Perm (BY G T W P):=by
 have hl:(eG W π).length=W.length:=cD o
 have e:((BY T G (eG W π) (lN P π)).map fun k=>π.getD k 0)=π.filter fun i=>decide (lM G T W P i=3):=by
  conv=>rhs;rw[<- map_getD π,List.filter_map,o.len]
  unfold BY
  rw[hl]
  congr 1
  refine List.filter_congr fun k hk=>?_
  have hk':k < W.length:=by simpa using hk
  exact decide_eq_decide.mpr (L7 h o hk')
 rw[e]
 exact o.perm.filter _
theorem Lu(h:Wd G T W)(o:Ord W π):(BY T G (eG W π) (lN P π)=[])↔(BY G T W P=[]):=by
 have:=(Ox (P:=P) h o).length_eq
 rw[zD] at this
 rw[<- List.length_eq_zero_iff,<- List.length_eq_zero_iff,this]
structure Pn(G T:List Pl)(W:List Wy)(P:List Int):Prop where
 len:P.length=W.length
 bd:∀k,k < W.length->0<=P.getD k 0/\P.getD k 0<=(ay W k).2.2
 am:∀ (b:Bool) (i:Nat),i < (aD b G T).length->j5 b W P i<=(br b G T i).1
theorem Pn.tu(h:Wd G T W)(o:Ord W π)(p:Pn G T W P):Pn T G (eG W π) (lN P π) where
 len:=by rw[IY o,cD o]
 bd:=fun k hk=>by
  rw[cD o] at hk
  rw[l5 o hk,fW o hk]
  exact p.bd _ (o.lt hk)
 am:=fun b i hi=>by
  have:=p.am (!b) i (by rw[<- pP b T G] at hi;exact hi)
  rw[<- F9 o (!b),<- vh (!b),Bool.not_not] at this
  exact this
end
section
variable {W:List Wy}{G T:List Pl}{off:List Int}
theorem BM(h:Wd G T W)(b:Bool):∀ (n:Nat),n<=(aD b G T).length ->
  ((List.range n).foldl (zh b G T W off) (List.replicate W.length 0)).length=W.length/\∀k,k < W.length ->
   ((List.range n).foldl (zh b G T W off) (List.replicate W.length 0)).getD k 0=if bz b (ay W k) < n then (rZ W off (br b G T (bz b (ay W k)).toNat).1 (eU b W (bz b (ay W k)).toNat (br b G T (bz b (ay W k)).toNat).2)).getD k 0 else 0
 | 0,_=>by
  refine⟨by simp,fun k hk=>?_⟩
  obtain⟨h1,_,_⟩:=h.end_pl b hk
  rw[if_neg (by omega)]
  simp[zG,hk]
 | n+1,hn=>by
  obtain⟨h1,h2⟩:=BM h b n (by omega)
  rw[List.range_succ,List.foldl_append,yK,List.foldl_nil]
  generalize (List.range n).foldl (zh b G T W off) (List.replicate W.length 0)=s at h1 h2
  refine⟨pQ h1,fun k hk=>?_⟩
  have hz:(zh b G T W off s n).getD k 0=s.getD k 0+(rZ W off (br b G T n).1 (eU b W n (br b G T n).2)).getD k 0:=xo (by omega) (by rw[uR];exact hk)
  rw[hz,h2 k hk]
  obtain⟨g1,_,_⟩:=h.end_pl b hk
  have e:=iF (b:=b) (G:=G) (T:=T) (i:=n) (by omega)
  by_cases he:bz b (ay W k)=n
  ·have hn':(bz b (ay W k)).toNat=n:=by omega
   rw[if_neg (by omega),if_pos (by omega),hn']
   omega
  ·have hni:k∉eU b W n (br b G T n).2:=fun z=>he (cB.mp ((fF h e).mem_iff.mp z)).2
   rw[Cu hni]
   by_cases hlt:bz b (ay W k) < n
   ·rw[if_pos hlt,if_pos (by omega)];omega
   ·rw[if_neg hlt,if_neg (by omega)];rfl
theorem GW(h:Wd G T W)(b:Bool){k:Nat}(hk:k < W.length):(bC b G T W off).getD k 0=(rZ W off (br b G T (bz b (ay W k)).toNat).1 (eU b W (bz b (ay W k)).toNat (br b G T (bz b (ay W k)).toNat).2)).getD k 0:=by
 have:=(BM (off:=off) h b _ (zzA _)).2 k hk
 obtain⟨_,h2,h3⟩:=h.end_pl b hk
 rw[if_pos (by omega)] at this
 exact this
theorem BI{amt:Int}:∀ (is:List Nat) (s:Int×List Int),is.Nodup->(∀i∈is,i < s.2.length/\s.2.getD i 0=0) ->
  ((is.foldl (mw W off) s).2.length=s.2.length)/\(is.map fun i=>(is.foldl (mw W off) s).2.getD i 0).sum=s.1 - (is.foldl (mw W off) s).1/\∀j,j∉is->(is.foldl (mw W off) s).2.getD j 0=s.2.getD j 0
 | [],s,_,_=>⟨rfl,by simp,fun _ _=>rfl⟩
 | i::is,s,hn,hz=>by
  rw[List.nodup_cons] at hn
  obtain⟨hi,h0⟩:=hz i zE
  have hs:∀j∈is,j < (mw W off s i).2.length/\(mw W off s i).2.getD j 0=0:=fun j hj=>by
   obtain⟨a,b⟩:=hz j (zC _ hj)
   refine⟨by simpa [mw] using a,?_⟩
   simp only[mw,cN]
   have hne:¬ (i=j/\j < s.2.length):=fun z=>hn.1 (z.1 ▸ hj)
   rw[if_neg hne,b]
  obtain⟨r1,r2,r3⟩:=BI (amt:=amt) is (mw W off s i) hn.2 hs
  rw[yK]
  refine⟨by rw[r1];simp[mw],?_,fun j hj=>?_⟩
  ·rw[zI,List.sum_cons,r2,r3 i hn.1]
   simp only[mw,cN]
   rw[if_pos ⟨trivial,hi⟩]
   omega
  ·rw[r3 j fun z=>hj (zC _ z)]
   simp only[mw,cN]
   have hne:¬ (i=j/\j < s.2.length):=fun z=>hj (z.1 ▸ zE)
   rw[if_neg hne]
theorem xy(ho:Off off)(hl:OR W):∀ (is:List Nat) (s:Int×List Int),0<=s.1->0<=(is.foldl (mw W off) s).1
 | [],s,h=>h
 | i::is,s,h=>by
  rw[yK]
  refine xy ho hl is _ ?_
  simp only[mw,cV]
  have:=ho i;have:=hl i
  omega
theorem JK(h:Wd G T W)(ho:Off off){b:Bool}{i:Nat}(hi:i < (aD b G T).length) :
  ((own b W i).map fun k=>(rZ W off (br b G T i).1 (eU b W i (br b G T i).2)).getD k 0).sum<=(br b G T i).1:=by
 have e:=iF hi
 have pm:=fF h e
 rw[<- zq (pm.map fun k=>(rZ W off (br b G T i).1 (eU b W i (br b G T i).2)).getD k 0)]
 have hn:(eU b W i (br b G T i).2).Nodup:=pm.nodup_iff.mpr (List.nodup_range.filter _)
 obtain⟨_,r2,_⟩:=BI (W:=W) (off:=off) (amt:=0) (eU b W i (br b G T i).2) ((br b G T i).1,List.replicate W.length 0) hn fun k hk=>by
  have hk':=(cB.mp (pm.mem_iff.mp hk)).1
  refine⟨by simpa using hk',by simp[zG,hk']⟩
 have:=xy ho h.lim (eU b W i (br b G T i).2) ((br b G T i).1,List.replicate W.length 0) (h.amt b i)
 unfold rZ
 rw[r2]
 show (br b G T i).1 - _<=(br b G T i).1
 omega
theorem Cs(h:Wd G T W)(ho:Off off){b:Bool}{i:Nat}(hi:i < (aD b G T).length):j5 b W (bC b G T W off) i<=(br b G T i).1:=by
 refine Int.le_trans (Int.le_of_eq ?_) (JK h ho hi)
 unfold j5
 congr 1
 refine yJ fun k hk=>?_
 obtain⟨hk',he⟩:=cB.mp hk
 have:=GW (off:=off) h b hk'
 rw[he,yH] at this
 exact this
theorem nH{b:Bool}{P Q:List Int}{p:Int}(h:∀k,k < W.length->P.getD k 0=Q.getD k 0):j5 b W P p=j5 b W Q p:=by
 unfold j5
 congr 1
 exact yJ fun k hk=>h k (cB.mp hk).1
theorem Js(h:Wd G T W){c:List Int}(ho:Off c)(hc:∀k,k < W.length->c.getD k 0<=(ay W k).2.2)(e:rW G T W c=none):Pn G T W (bC false G T W c) where
 len:=eB _ _ _ _ _
 bd:=fun k hk=>⟨jN h ho false k,Int.le_trans (AK h ho false hk) (hc k hk)⟩
 am:=fun b i hi=>by
  cases b
  ·exact Cs h ho hi
  ·have hke:∀k,k < W.length->(jW G T W c).getD k 0=(bC false G T W c).getD k 0:=fun k hk=>by
    have h1:=AK h (jN h ho false) true hk
    have h2:qR G T W c k=false:=by
     unfold rW at e
     rw[Option.map_eq_none_iff] at e
     have:=List.find?_eq_none.mp e k (by simpa using hk)
     simpa using this
    unfold qR at h2
    have h3:=of_decide_eq_false h2
    unfold jW at h3 ⊢
    omega
   rw[<- nH hke]
   exact Cs h (jN h ho false) hi
end
def qS(G T:List Pl)(W:List Wy)(P:List Int):Bool :=
 ((List.range G.length).all fun i=>decide (j5 false W P i<=(br false G T i).1))&&((List.range T.length).all fun i=>decide (j5 true W P i<=(br true G T i).1))
def zs(n:Nat):List Int:=List.replicate n 0
def mn(d:Nat->Int)(G T:List Pl)(W:List Wy):Nat->List Int
 | 0=>[]
 | k+1=>if qS G T W ((mn d G T W k++[d k])++zs (W.length - (mn d G T W k++[d k]).length))=true then mn d G T W k++[d k] else mn d G T W k++[0]
section
variable {W:List Wy}{G T:List Pl}{d:Nat->Int}
theorem gQ{P:List Int}:qS G T W P=true↔∀ (b:Bool) (i:Nat),i < (aD b G T).length->j5 b W P i<=(br b G T i).1:=by
 unfold qS
 rw[zF,List.all_eq_true,List.all_eq_true]
 constructor
 ·rintro⟨h1,h2⟩ b i hi
  cases b
  ·exact of_decide_eq_true (h1 i (by simpa [aD] using hi))
  ·exact of_decide_eq_true (h2 i (by simpa [aD] using hi))
 ·intro h
  exact⟨fun i hi=>yB (h false i (by simpa [aD] using hi)),fun i hi=>yB (h true i (by simpa [aD] using hi))⟩
theorem nc:∀k,(mn d G T W k).length=k
 | 0=>rfl
 | k+1=>by
  unfold mn
  split<;>simp[nc k]
theorem E4{b:Bool}{P:List Int}{p:Int}(h:∀k,P.getD k 0=0):j5 b W P p=0:=by
 unfold j5
 have:((own b W p).map fun i=>P.getD i 0)=(own b W p).map fun _=>(0:Int):=yJ fun k _=>h k
 rw[this]
 generalize own b W p=l
 induction l with
 | nil=>rfl
 | cons a l ih=>simp[ih]
theorem Kt(n k:Nat):(zs n).getD k 0=0:=by
 simp only[zs,zG,List.getElem?_replicate]
 split<;>rfl
theorem FK(l:List Int)(n k:Nat):(l++zs n).getD k 0=l.getD k 0:=by
 by_cases h:k < l.length
 ·simp[zG,List.getElem?_append_left h]
 ·have h':l.length<=k:=by omega
  have:=Kt n (k - l.length)
  simp only[zG] at this ⊢
  rw[List.getElem?_append_right h',this]
  simp[h']
theorem O9(l:List Int)(k:Nat):(l++[0]).getD k 0=l.getD k 0:=FK l 1 k
theorem BW(h:Wd G T W):∀k,qS G T W (mn d G T W k)=true
 | 0=>gQ.mpr fun b i hi=>by
  rw[E4 fun k=>by simp[mn]]
  exact h.amt b i
 | k+1=>by
  unfold mn
  split
  ·rename_i e
   refine gQ.mpr fun b i hi=>?_
   have:=gQ.mp e b i hi
   rw[nH (Q:=mn d G T W k++[d k]) fun j _=>FK _ _ _] at this
   exact this
  ·refine gQ.mpr fun b i hi=>?_
   rw[nH (Q:=mn d G T W k) fun j _=>O9 _ _]
   exact gQ.mp (BW h k) b i hi
theorem Bl(hd:∀k,k < W.length->0<=d k/\d k<=(ay W k).2.2)(hl:OR W):∀k,k<=W.length->∀j,j < k->0<=(mn d G T W k).getD j 0/\(mn d G T W k).getD j 0<=(ay W j).2.2
 | 0,_,j,hj=>by omega
 | k+1,hk,j,hj=>by
  have ih:=Bl hd hl k (by omega) j
  have len:(mn d G T W k).length=k:=nc k
  have key:∀x,(0<=x/\x<=(ay W k).2.2)->0<=(mn d G T W k++[x]).getD j 0/\(mn d G T W k++[x]).getD j 0<=(ay W j).2.2:=fun x hx=>by
   by_cases hjk:j < k
   ·rw[zG,List.getElem?_append_left (by omega),<- zG]
    exact ih hjk
   ·have:j=k:=by omega
    subst this
    rw[zG,List.getElem?_append_right (by omega),len]
    simpa using hx
  unfold mn
  split
  ·exact key _ (hd k (by omega))
  ·exact key _ ⟨by omega,hl k⟩
theorem M7(h:Wd G T W)(hd:∀k,k < W.length->0<=d k/\d k<=(ay W k).2.2):Pn G T W (mn d G T W W.length) where
 len:=nc _
 bd:=Bl hd h.lim W.length (zzA _)
 am:=gQ.mp (BW h _)
theorem Pn.fit{P:List Int}(p:Pn G T W P):qS G T W P=true:=gQ.mpr p.am
end
theorem uo{tt:Dl.Env->Option Bool}{te:Dl.Env->Option D}{r:List (Option D)}{x y h:Nat->D}{p:Nat->Bool}:∀ (is:List Nat),
  (∀i∈is,tt (some (x i)::some (y i)::r)=some (p i)/\(p i=true->te (some (x i)::some (y i)::r)=some (h i))) ->
  cO (gw 0 1) tt te (none::none::r) (is.map fun i=>.tuple [x i,y i])=some ((is.filter p).map h)
 | [],_=>rfl
 | i::is,hh=>by
  obtain⟨h1,h2⟩:=hh i zE
  have ih:=uo is fun j hj=>hh j (zC _ hj)
  have hg:gw 0 1 (none::none::r) (.tuple [x i,y i])=some (some (x i)::some (y i)::r):=by
   simp only[gw,isFree,List.getElem?_cons_zero,List.getElem?_cons_succ,Option.getD_some,Option.isNone_none,and_self,if_true,List.set_cons_zero,List.set_cons_succ]
  rw[zI,cO,hg]
  simp only[zA,h1]
  cases hp:p i with
  | true=>simp[h2 hp,ih,hp]
  | false=>simp[ih,hp]
theorem ji{cs:List Nat}{fi:Dl.Env->Option (List D)}{tt:Dl.Env->Option Bool}{te:Dl.Env->Option D}{ρ:Dl.Env}{n:Nat}{x y h:Nat->D}{p:Nat->Bool}(hfi:fi ρ=some ((List.range n).map fun i=>.tuple [x i,y i]))(hl:n<=1000)
  (hh:∀i,i < n->tt (some (x i)::some (y i)::cs.map fun j=>(ρ[j]?).getD none)=some (p i)/\(p i=true->te (some (x i)::some (y i)::cs.map fun j=>(ρ[j]?).getD none)=some (h i))) :
  aq 2 cs fi (gw 0 1) tt te ρ=some (((List.range n).filter p).map h):=by
 have:=uo (tt:=tt) (te:=te) (r:=cs.map fun j=>(ρ[j]?).getD none) (p:=p) (h:=h) (List.range n) fun i hi=>hh i (by simpa using hi)
 simp only[aq,hfi,zA,fA,List.replicate,List.cons_append,List.nil_append,this]
 refine bD ?_
 rw[zD]
 refine yE (List.length_filter_le _ _) ?_
 rw[zS]
 omega
theorem uH{W:List Wy}{P:List Int}(h:P.length=W.length):gT (W.map ao) (P.map PyData.int)=(List.range W.length).map fun i=>.tuple [ao (ay W i),.int (P.getD i 0)]:=by
 apply List.ext_getElem?
 intro i
 by_cases hi:i < W.length
 ·have hz:i < (gT (W.map ao) (P.map PyData.int)).length:=by rw[nA];simp[h];exact hi
  rw[zK hz]
  obtain⟨x,y,e1,e2,e3⟩:=qv (zK hz)
  rw[zO,nz hi] at e1
  rw[zO,zK (by omega)] at e2
  cases e1
  have e2:PyData.int P[i]=y:=by simpa using e2
  rw[e3,<- e2]
  have:i < P.length:=by omega
  simp[hi,this,zG]
 ·rw[List.getElem?_eq_none (by rw[nA];simp;omega),List.getElem?_eq_none (by simp;omega)]
def Sm(P:List Int):Prop:=∀k,-1000000<=P.getD k 0/\P.getD k 0<=1000000
theorem CC{W:List Wy}{P:List Int}(hs:Sm P)(hw:W.length<=16)(b:Bool)(p:Int):IA ((own b W p).map fun i=>P.getD i 0)=true:=by
 unfold IA
 rw[zF,zJ,List.all_eq_true]
 refine⟨?_,fun x hx=>?_⟩
 ·have:=pY b W p
  rw[zD]
  omega
 ·obtain⟨i,_,rfl⟩:=zQ.mp hx
  rw[zF,zJ,zJ]
  exact hs i
theorem lj{G T:List Pl}{W:List Wy}(h:Wd G T W){P:List Int}(hp:P.length=W.length)(hs:Sm P)(b:Bool)(p:Int):bP [ax G T W,af P,.int (sI b),.int p]=some (.int (j5 b W P p)):=by
 have hw:=h.wl
 refine aI ?_
 show oJ [.val (ax G T W),.val (af P),.val (.int (sI b)),.val (.int p)]=_
 have hz:dz (aa (f2 au (ab 0) (fC (.int 2))) (aa (ab 1) ae)) [some (ax G T W),some (af P),some (.int (sI b)),some (.int p)]=some ((List.range W.length).map fun i=>.tuple [ao (ay W i),.int (P.getD i 0)]):=by
  rw[<- uH hp]
  rfl
 have c:aq 2 [2,3] (dz (aa (f2 au (ab 0) (fC (.int 2))) (aa (ab 1) ae))) (gw 0 1) (fB (f2 bQ (f2 au (ab 0) (ab 2)) (ab 3))) (ab 1) [some (ax G T W),some (af P),some (.int (sI b)),some (.int p)]=some ((own b W p).map fun i=>.int (P.getD i 0)):=by
  rw[ji (p:=fun i=>decide (bz b (ay W i)=p)) (h:=fun i=>.int (P.getD i 0)) hz (by omega) fun i hi=>⟨?_,fun _=>rfl⟩]
  ·rfl
  ·show fB (f2 bQ (f2 au (ab 0) (ab 2)) (ab 3)) [some (ao (ay W i)),some (.int (P.getD i 0)),some (.int (sI b)),some (.int p)]=_
   exact b9 (by rw[jj (a:=.int (bz b (ay W i))) (b:=.int p) (aw (p5 b _) rfl rfl) rfl,cY])
 refine aK ?_
 have e:((own b W p).map fun i=>PyData.int (P.getD i 0))=((own b W p).map fun i=>P.getD i 0).map PyData.int:=by rw[zM];rfl
 show aU md (aa (cx (aq 2 [2,3] (dz (aa (f2 au (ab 0) (fC (.int 2))) (aa (ab 1) ae))) (gw 0 1) (fB (f2 bQ (f2 au (ab 0) (ab 2)) (ab 3))) (ab 1))) ae) [some (ax G T W),some (af P),some (.int (sI b)),some (.int p)]=_
 rw[e] at c
 simp only[aU,aa,ae,cx,c,zB,zA]
 show md [.list (((own b W p).map fun i=>P.getD i 0).map PyData.int)]=_
 simp only[md,dO,oneOf,fY,zA,bZ,CC hs hw b p,if_true]
 rfl
theorem ml(L:List Pl):bK 0 (L.map aW)=(List.range L.length).map fun i=>.tuple [nD i,aW (L.getD i (0,[]))]:=by
 rw[enum_zip]
 apply List.ext_getElem
 ·simp
 ·intro i h1 h2
  have:i < L.length:=by simpa using h2
  simp[this,zG]
theorem uw{p:Nat->Bool}(is:List Nat):mC [.list (is.map fun i=>.bool (p i))]=some (.bool (is.all p)):=by
 have:∀is:List Nat,boolsOf (is.map fun i=>PyData.bool (p i))=some (is.map p):=fun is=>by
  induction is with
  | nil=>rfl
  | cons i is ih=>simp[boolsOf,ih]
 simp only[mC,oneOf,zA,this,zB,List.all_map]
 rfl
theorem BU{G T:List Pl}{W:List Wy}(h:Wd G T W){P:List Int}(hp:P.length=W.length)(hs:Sm P)(b:Bool):cJ [ax G T W,af P,.int (sI b)]=some (.bool ((List.range (aD b G T).length).all fun i=>decide (j5 b W P i<=(br b G T i).1))):=by
 have hl:=h.pl b
 refine aI ?_
 show fO [.val (ax G T W),.val (af P),.val (.int (sI b))]=_
 have he:bx (aa (f2 au (ab 0) (ab 2)) ae) [some (ax G T W),some (af P),some (.int (sI b))]=some ((List.range (aD b G T).length).map fun i=>.tuple [nD i,aW (br b G T i)]):=by
  have:=ml (aD b G T)
  unfold br
  rw[<- this]
  cases b<;>rfl
 have c:=ji (cs:=[0,1,2]) (tt:=fun _=>some true) (te:=f2 Cw (ah 4 bP (aa (ab 2) (aa (ab 3) (aa (ab 4) (aa (ab 0) ae))))) (f2 au (ab 1) (fC (.int 0)))) (p:=fun _=>true) (h:=fun i=>.bool (decide (j5 b W P i<=(br b G T i).1))) he (by omega) fun i hi=>⟨rfl,fun _=>aw (a:=.int (j5 b W P i)) (b:=.int (br b G T i).1) rfl (call_of (lj h hp hs b i) rfl rfl) rfl⟩
 refine aK ?_
 show aU mC (aa (cx (aq 2 [0,1,2] (bx (aa (f2 au (ab 0) (ab 2)) ae)) (gw 0 1) (fun _=>some true) (f2 Cw (ah 4 bP (aa (ab 2) (aa (ab 3) (aa (ab 4) (aa (ab 0) ae))))) (f2 au (ab 1) (fC (.int 0)))))) ae) [some (ax G T W),some (af P),some (.int (sI b))]=_
 simp only[aU,aa,ae,cx,c,zB,zA]
 rw[show (List.range (aD b G T).length).filter (fun _=>true)=List.range (aD b G T).length by simp,uw]
theorem FV{fa fb:Dl.Env->Option D}{ρ:Dl.Env}{d:D}(ha:fa ρ=some (.bool true))(hb:fb ρ=some d):jZ fa fb ρ=some d:=by
 simp only[jZ,ha,zA,hb]
theorem HY{fa fb:Dl.Env->Option D}{ρ:Dl.Env}(ha:fa ρ=some (.bool false)):jZ fa fb ρ=some (.bool false):=by
 simp only[jZ,ha,zA]
theorem vB{fa fb:Dl.Env->Option D}{ρ:Dl.Env}{a b:Bool}(ha:fa ρ=some (.bool a))(hb:fb ρ=some (.bool b)):jZ fa fb ρ=some (.bool (a&&b)):=by
 cases a
 ·exact HY ha
 ·exact FV ha hb
theorem jD{g:List D->Option D}{f:Dl.Env->Option D}{ρ:Dl.Env}{d:D}(h:f ρ=some d):aU g (aa f ae) ρ=g [d]:=by
 simp only[aU,aa,ae,h,zB,zA]
theorem kU{α:Type}{k:α->D}{f:Dl.Env->Option D}{ρ:Dl.Env}{l:List α}(h:f ρ=some (.tuple (l.map k))):aU bq (aa f ae) ρ=some (nD l.length):=by
 rw[jD h,Cz,zD]
def OH(W:List Wy)(P:List Int):Bool:=(List.range W.length).all fun k=>decide (0<=P.getD k 0)&&decide (P.getD k 0<=(ay W k).2.2)
def BQ(b:Bool)(G T:List Pl)(W:List Wy)(P:List Int):Bool:=(List.range (aD b G T).length).all fun i=>decide (j5 b W P i<=(br b G T i).1)
def Nl(G T:List Pl)(W:List Wy)(P:List Int):Bool:=OH W P&&(BQ false G T W P&&BQ true G T W P)
theorem uU{G T:List Pl}{W:List Wy}{P:List Int}(hp:P.length=W.length):Nl G T W P=true↔Pn G T W P:=by
 simp only[Nl,OH,BQ,zF,List.all_eq_true,zT,zJ]
 constructor
 ·rintro⟨h1,h2,h3⟩
  exact⟨hp,h1,fun b=>by cases b<;>assumption⟩
 ·intro p
  exact⟨p.bd,p.am false,p.am true⟩
theorem Nk(P:List Int):oP (af P)=true:=rfl
theorem uc{G T:List Pl}{W:List Wy}(h:Wd G T W){P:List Int}(hp:P.length=W.length)(hs:Sm P):eQ [ax G T W,af P]=some (.bool (Nl G T W P)):=by
 have hw:=h.wl
 have hlen:(P.map PyData.int).length=W.length:=by rw[zD,hp]
 refine aI ?_
 show lr [.val (ax G T W),.val (af P),.non]=_
 unfold lr
 have t1:Dl.az 2 [0] (f2 au (ab 0) (fC (.int 2))) [.val (ax G T W),.val (af P),.non]=some (.nx [.val (ax G T W),.val (af P),.val (.tuple (W.map ao))]):=ck (d:=.tuple (W.map ao)) rfl rfl rfl rfl
 rw[ai t1]
 have el:bc [af P,nD W.length,nD W.length]=some (.bool true):=by
  rw[show nD W.length=.int ((W.length:Nat):Int) from rfl,eL (Nk P)]
  simp[long,af,hp]
 have hl:∀ρ:Dl.Env,ab 2 ρ=some (.tuple (W.map ao))->aU bq (aa (ab 2) ae) ρ=some (nD W.length):=fun ρ hr=>kU hr
 have c1:(b8 (fB (ah 3 bc (aa (ab 1) (aa (aU bq (aa (ab 2) ae)) (aa (aU bq (aa (ab 2) ae)) ae)))))) (bA [.val (ax G T W),.val (af P),.val (.tuple (W.map ao))])=some false :=
  hJ (b9 (call_of el (cons_of rfl (cons_of (hl _ rfl) (cons_of (hl _ rfl) rfl))) rfl))
 rw[ai (cZ c1)]
 have hz:dz (aa (ab 2) (aa (ab 1) ae)) [some (ax G T W),some (af P),some (.tuple (W.map ao))]=some ((List.range W.length).map fun i=>.tuple [ao (ay W i),.int (P.getD i 0)]):=by
  rw[<- uH hp]
  rfl
 have c2:=ji (cs:=[]) (tt:=fun _=>some true) (te:=ah 3 aS (aa (ab 1) (aa (fC (.int 0)) (aa (f2 au (ab 0) (fC (.int 2))) ae)))) (p:=fun _=>true) (h:=fun k=>.bool (decide (0<=P.getD k 0)&&decide (P.getD k 0<=(ay W k).2.2))) hz (by omega)
  fun i hi=>⟨rfl,fun _=>call_of (gO (d:=.int (P.getD i 0)) rfl 0 (ay W i).2.2) rfl rfl⟩
 have hall:(fB (aU mC (aa (cx (aq 2 [] (dz (aa (ab 2) (aa (ab 1) ae))) (gw 0 1) (fun _=>some true) (ah 3 aS (aa (ab 1) (aa (fC (.int 0)) (aa (f2 au (ab 0) (fC (.int 2))) ae)))))) ae))) [some (ax G T W),some (af P),some (.tuple (W.map ao))]=some (OH W P):=by
  refine b9 ?_
  simp only[aU,aa,ae,cx,c2,zB,zA]
  rw[show (List.range W.length).filter (fun _=>true)=List.range W.length by simp,uw]
  rfl
 have k0:=BU h hp hs false
 have k1:=BU h hp hs true
 cases hb:OH W P with
 | false =>
  rw[hb] at hall
  refine jt ((ip (hJ hall)).trans ?_)
  rw[Nl,hb]
  exact aK rfl
 | true =>
  rw[hb] at hall
  rw[ai (cZ (hJ hall)),Nl,hb,Bool.true_and]
  exact aK (vB (call_of k0 rfl rfl) (call_of k1 rfl rfl))
theorem oN{W:List Wy}{k:Nat}(hk:k < W.length):ay W k∈W:=fQ hk ▸ List.getElem_mem hk
theorem Pn.smP{G T:List Pl}{W:List Wy}(h:Wd G T W){P:List Int}(p:Pn G T W P):Sm P:=fun k=>by
 by_cases hk:k < W.length
 ·have:=p.bd k hk
  have:=(h.wr _ (oN hk)).2.2.2
  omega
 ·rw[zG,List.getElem?_eq_none (by rw[p.len];omega)]
  simp
section
variable {G T:List Pl}{W:List Wy}{P:List Int}
theorem sF(h:Wd G T W)(p:Pn G T W P):eQ [ax G T W,af P]=some (.bool true):=by
 rw[uc h p.len (p.smP h),(uU p.len).mpr p]
theorem gu(h:Wd G T W)(p:Pn G T W P):bH [ax G T W,af P]=some .none:=by
 have:eF [.val (ax G T W),.val (af P)]=some (.nx [.val (ax G T W),.val (af P)]):=by
  unfold eF
  refine (ai (du (call_of (fw h) rfl rfl))).trans ?_
  exact cZ (hJ (b9 (call_of (sF h p) rfl rfl)))
 show (eF [.val (ax G T W),.val (af P)]).map _=_
 rw[this]
 rfl
theorem Mj(h:Wd G T W)(p:Pn G T W P){i:Nat}(hi:i < G.length):oE [ax G T W,af P,nD i]=some (.int (j5 false W P i)):=by
 refine aI ?_
 show vE [.val (ax G T W),.val (af P),.val (nD i)]=_
 unfold vE
 refine (ai (du (call_of (gu h p) rfl rfl))).trans ?_
 have hl:(aU bq (aa (f2 au (ab 0) (fC (.int 0))) ae)) [some (ax G T W),some (af P),some (nD i)]=some (nD G.length):=kU (l:=G) (k:=aW) (aw (a:=ax G T W) (c:=.tuple (G.map aW)) rfl rfl rfl)
 refine (ai (du (call_of (ek (n:=(G.length:Nat)) (i:=(i:Nat)) (by omega) (by omega)) (cons_of rfl (cons_of hl rfl)) rfl))).trans ?_
 exact aK (call_of (lj h p.len (p.smP h) false i) rfl rfl)
theorem IW(h:Wd G T W)(p:Pn G T W P){i:Nat}(hi:i < T.length):lI [ax G T W,af P,nD i]=some (.int (j5 true W P i)):=by
 refine aI ?_
 show pN [.val (ax G T W),.val (af P),.val (nD i)]=_
 unfold pN
 refine (ai (du (call_of (gu h p) rfl rfl))).trans ?_
 have hl:(aU bq (aa (f2 au (ab 0) (fC (.int 1))) ae)) [some (ax G T W),some (af P),some (nD i)]=some (nD T.length):=kU (l:=T) (k:=aW) (aw (a:=ax G T W) (c:=.tuple (T.map aW)) rfl rfl rfl)
 refine (ai (du (call_of (ek (n:=(T.length:Nat)) (i:=(i:Nat)) (by omega) (by omega)) (cons_of rfl (cons_of hl rfl)) rfl))).trans ?_
 exact aK (call_of (lj h p.len (p.smP h) true i) rfl rfl)
end
def mX(W:List Wy)(i:Nat):List Int:=[(ay W i).2.1,(ay W i).1]
def ig(W:List Wy):List (List Int):=(List.range W.length).map (mX W)
def bR(W:List Wy):List Nat:=nF (fun i=>rk (ig W) ((ig W).getD i [])) (List.range W.length) 0
theorem GX(z:Nat->Int)(n:Nat):nF z ((List.range n).map nD) .none=(nF z (List.range n) 0).map nD:=by
 unfold nF
 rw[zD]
 split
 ·rfl
 ·rename_i h
  rw[zM]
  obtain⟨hp,_⟩:=SP.gh (z:=z) (n:=(List.range n).length) (by omega)
  refine yJ fun i hi=>?_
  have hi':i < (List.range n).length:=by have:=hp.mem_iff.mp hi;simpa using this
  rw[zS] at hi'
  simp[hi']
theorem FR{W:List Wy}{i:Nat}(hi:i < W.length):(ig W).getD i []=mX W i:=by
 simp[ig,hi]
theorem dG{W:List Wy}(h:tT W):Ord W (bR W) where
 perm:=fK _ _ _
 up:=by
  have hp:(bR W).Perm (List.range W.length):=fK _ _ _
  have hs:(bR W).Pairwise fun i j=>rk (ig W) (mX W i)<=rk (ig W) (mX W j):=by
   refine qy _ _ _ (fun i=>rk (ig W) (mX W i)) fun i hi=>?_
   rw[zS] at hi
   have e:(List.range W.length).getD i 0=i:=by simp[hi]
   show rk (ig W) ((ig W).getD i [])=rk (ig W) (mX W ((List.range W.length).getD i 0))
   rw[e,FR hi]
  have hn:(bR W).Nodup:=hp.nodup_iff.mpr List.nodup_range
  refine (hs.and hn).imp_of_mem fun {i j} hi hj hij=>?_
  have hi':i < W.length:=by have:=hp.mem_iff.mp hi;simpa using this
  have hj':j < W.length:=by have:=hp.mem_iff.mp hj;simpa using this
  obtain⟨hle,hne⟩:=hij
  have mj:mX W j∈ig W:=zQ.mpr ⟨j,by simpa using hj',rfl⟩
  have n1:Dl.lexLt (mX W j) (mX W i)=false:=by
   rw[w4 mj,decide_eq_false_iff_not]
   omega
  simp only[mX,HT.lexLt] at n1
  by_cases e1:(ay W j).2.1=(ay W i).2.1
  ·rw[if_pos e1] at n1
   by_cases e2:(ay W j).1=(ay W i).1
   ·exact absurd (wk h hj' hi' e2 e1).symm hne
   ·rw[if_neg e2,decide_eq_false_iff_not] at n1
    exact .inr ⟨e1.symm,by omega⟩
  ·rw[if_neg e1,decide_eq_false_iff_not] at n1
   exact .inl (by omega)
theorem tup_is{fs:Dl.Env->Option (List D)}{ρ:Dl.Env}{ds:List D}(h:fs ρ=some ds)(hl:ds.length<=1000):aC fs ρ=some (.tuple ds):=by
 simp only[aC,h,zA,bD (show ds.length<=4000 by omega),zB]
theorem PD(w:Wy):au (ao w) (.int 0)=some (.int w.1):=rfl
theorem PM(w:Wy):au (ao w) (.int 1)=some (.int w.2.1):=rfl
section
variable {G T:List Pl}{W:List Wy}{P:List Int}
theorem ku(h:Wd G T W):aY [ax G T W]=some (.list ((bR W).map nD)):=by
 have hw:=h.wl
 have t1:Dl.az 1 [0] (f2 au (ab 0) (fC (.int 2))) [.val (ax G T W),.non]=some (.nx [.val (ax G T W),.val (.tuple (W.map ao))]):=ck (d:=.tuple (W.map ao)) rfl rfl rfl rfl
 have hl:(aU bq (aa (ab 1) ae)) [some (ax G T W),some (.tuple (W.map ao))]=some (nD W.length):=kU (l:=W) (k:=ao) rfl
 have hk:iT (aC (aa (f2 au (f2 au (ab 1) (ab 0)) (fC (.int 1))) (aa (f2 au (f2 au (ab 1) (ab 0)) (fC (.int 0))) ae))) [none,some (.tuple (W.map ao))] ((List.range W.length).map nD)=some (((List.range W.length).map nD).map fun d=>af (mX W (jl d).toNat)):=by
  refine nS fun d hd=>?_
  obtain⟨j,hj,rfl⟩:=zQ.mp hd
  have hj':j < W.length:=by simpa using hj
  have a:∀ρ:Dl.Env,ab 1 ρ=some (.tuple (W.map ao))->ab 0 ρ=some (nD j)->(f2 au (ab 1) (ab 0)) ρ=some (ao (ay W j)):=fun ρ e1 e2=>aw (qP hj') e1 e2
  show aC (aa (f2 au (f2 au (ab 1) (ab 0)) (fC (.int 1))) (aa (f2 au (f2 au (ab 1) (ab 0)) (fC (.int 0))) ae)) [some (nD j),some (.tuple (W.map ao))]=_
  have c2:(aa (f2 au (f2 au (ab 1) (ab 0)) (fC (.int 1))) (aa (f2 au (f2 au (ab 1) (ab 0)) (fC (.int 0))) ae)) [some (nD j),some (.tuple (W.map ao))]=some [.int (ay W j).2.1,.int (ay W j).1] :=
   cons_of (aw (PM (ay W j)) (a _ rfl rfl) rfl) (cons_of (aw (PD (ay W j)) (a _ rfl rfl) rfl) rfl)
  rw[tup_is c2 (by simp)]
  simp[jl,mX,af]
 have hr:rowsOf (((List.range W.length).map nD).map fun d=>af (mX W (jl d).toNat))=some (ig W):=by
  have e:(((List.range W.length).map nD).map fun d=>af (mX W (jl d).toNat))=(ig W).map af:=by
   simp only[zM,ig]
   refine yJ fun j hj=>?_
   simp[jl]
  rw[e,mf]
  intro ns hns
  obtain⟨j,_,rfl⟩:=zQ.mp hns
  exact List.cons_ne_nil _ _
 refine aI ?_
 show eh [.val (ax G T W),.non]=_
 unfold eh
 rw[ai t1]
 refine aK ?_
 have es:qk [1] (aa (aU bq (aa (ab 1) ae)) ae) (aC (aa (f2 au (f2 au (ab 1) (ab 0)) (fC (.int 1))) (aa (f2 au (f2 au (ab 1) (ab 0)) (fC (.int 0))) ae))) [some (ax G T W),some (.tuple (W.map ao))]=some ((bR W).map nD):=by
  unfold qk
  rw[cons_of hl rfl,zA]
  show (if (0:Int)<=((W.length:Nat):Int)/\((W.length:Nat):Int) < 64 then _ else none)=_
  rw[if_pos ⟨by omega,by omega⟩,yH]
  show (iT _ [none,some (.tuple (W.map ao))] ((List.range W.length).map nD)).bind _=_
  rw[hk,zA,hr,zB]
  exact congrArg some (GX _ _)
 show cx _ [some (ax G T W),some (.tuple (W.map ao))]=_
 simp only[cx,es,zB]
theorem jc{cs:List Nat}{fi:Dl.Env->Option (List D)}{te:Dl.Env->Option D}{ρ:Dl.Env}{is:List Nat}{f:Nat->D}(hfi:fi ρ=some (is.map nD))(hl:is.length<=1000)(hh:∀i∈is,te (some (nD i)::cs.map fun j=>(ρ[j]?).getD none)=some (f i)):aq 1 cs fi (fG 0) (fun _=>some true) te ρ=some (is.map f):=by
 rw[cq (h:=fun d=>f (jl d).toNat) hfi (by rw[zD];omega) fun d hd=>?_]
 ·rw[zM]
  refine congrArg some (yJ fun i _=>?_)
  simp[jl]
 ·obtain⟨i,hi,rfl⟩:=zQ.mp hd
  rw[hh i hi]
  simp[jl]
theorem kb{n:Nat}{m:List D->Option D}{fs:Dl.Env->Option (List D)}{ρ:Dl.Env}{ds es:List D}(h:m ds=some (.list es))(hf:fs ρ=some ds)(hn:ds.length=n):aO (ah n m fs) ρ=some es:=by
 simp only[aO,call_of h hf hn,zA,fY]
theorem CG(h:tT W){i:Nat}(hi:i∈bR W):i < W.length:=by
 have:=(dG h).perm.mem_iff.mp hi
 simpa using this
theorem ze(h:tT W):(bR W).length=W.length:=(dG h).len
theorem oO{r:List (Option D)}:∀ (l:List Wy),cO (HV 0 1 2) (fun _=>some true) (aC (aa (ab 1) (aa (ab 0) (aa (ab 2) ae)))) (none::none::none::r) (l.map ao)=some ((l.map Lk).map ao)
 | []=>rfl
 | w::l=>by
  have ih:=oO (r:=r) l
  have hg:HV 0 1 2 (none::none::none::r) (ao w)=some (some (.int w.1)::some (.int w.2.1)::some (.int w.2.2)::r):=rfl
  rw[zI,cO,hg,zA]
  have e:aC (aa (ab 1) (aa (ab 0) (aa (ab 2) ae))) (some (.int w.1)::some (.int w.2.1)::some (.int w.2.2)::r)=some (ao (Lk w)):=rfl
  simp only[zA,if_true,e,ih,zB,zI]
theorem yw(h:Wd G T W):j8 [ax G T W]=some (ax T G (eG W (bR W))):=by
 have hw:=h.wl
 have hn:=ze h.wp
 refine aI ?_
 show mH [.val (ax G T W),.non]=_
 unfold mH
 refine (ai (du (call_of (fw h) rfl rfl))).trans ?_
 have c:aq 1 [0] (aO (ah 1 aY (aa (ab 0) ae))) (fG 0) (fun _=>some true) (f2 au (f2 au (ab 1) (fC (.int 2))) (ab 0)) [some (ax G T W),none]=some ((bR W).map fun i=>ao (ay W i)) :=
  jc (kb (ku h) rfl rfl) (by omega) fun i hi=>aw (qP (CG h.wp hi)) rfl rfl
 have t2:aM 1 [0] (aq 1 [0] (aO (ah 1 aY (aa (ab 0) ae))) (fG 0) (fun _=>some true) (f2 au (f2 au (ab 1) (fC (.int 2))) (ab 0))) [.val (ax G T W),.non]=some (.nx [.val (ax G T W),.own ((bR W).map fun i=>ao (ay W i))]):=eR c rfl
 rw[ai t2]
 refine aK ?_
 have e3:aq 3 [] (aO (ab 1)) (HV 0 1 2) (fun _=>some true) (aC (aa (ab 1) (aa (ab 0) (aa (ab 2) ae)))) [some (ax G T W),some (.list ((bR W).map fun i=>ao (ay W i)))]=some ((eG W (bR W)).map ao):=by
  have:=oO (r:=[]) ((bR W).map fun i=>ay W i)
  rw[zM,zM] at this
  have hf:aO (ab 1) [some (ax G T W),some (.list ((bR W).map fun i=>ao (ay W i)))]=some ((bR W).map fun i=>ao (ay W i)):=rfl
  unfold aq
  rw[hf,zA]
  show (cO (HV 0 1 2) (fun _=>some true) (aC (aa (ab 1) (aa (ab 0) (aa (ab 2) ae)))) [none,none,none] ((bR W).map fun i=>ao (ay W i))).bind small=_
  rw[show ((bR W).map fun i=>ao (ay W i))=List.map (ao ∘ fun i=>ay W i) (bR W) from rfl,this,zA]
  rw[bD (by simp;omega),eG]
  simp only[zM]
  rfl
 show aC (aa (f2 au (ab 0) (fC (.int 1))) (aa (f2 au (ab 0) (fC (.int 0))) (aa (aU bo (aa (cx (aq 3 [] (aO (ab 1)) (HV 0 1 2) (fun _=>some true) (aC (aa (ab 1) (aa (ab 0) (aa (ab 2) ae)))))) ae)) ae))) [some (ax G T W),some (.list ((bR W).map fun i=>ao (ay W i)))]=_
 have e4:(aU bo (aa (cx (aq 3 [] (aO (ab 1)) (HV 0 1 2) (fun _=>some true) (aC (aa (ab 1) (aa (ab 0) (aa (ab 2) ae)))))) ae)) [some (ax G T W),some (.list ((bR W).map fun i=>ao (ay W i)))]=some (.tuple ((eG W (bR W)).map ao)):=by
  simp only[aU,aa,ae,cx,e3,zB,zA,qx]
 exact tup_is (ds:=[.tuple (T.map aW),.tuple (G.map aW),.tuple ((eG W (bR W)).map ao)]) (cons_of (aw (a:=ax G T W) (b:=.int 1) (c:=.tuple (T.map aW)) rfl rfl rfl) (cons_of (aw (a:=ax G T W) (b:=.int 0) (c:=.tuple (G.map aW)) rfl rfl rfl) (cons_of e4 rfl))) (by simp)
theorem sQ(h:Wd G T W)(p:Pn G T W P):fg [ax G T W,af P]=some (af (lN P (bR W))):=by
 have hw:=h.wl
 have hn:=ze h.wp
 refine aI ?_
 show fj [.val (ax G T W),.val (af P)]=_
 unfold fj
 refine (ai (du (call_of (gu h p) rfl rfl))).trans ?_
 have c:aq 1 [1] (aO (ah 1 aY (aa (ab 0) ae))) (fG 0) (fun _=>some true) (f2 au (ab 1) (ab 0)) [some (ax G T W),some (af P)]=some ((bR W).map fun i=>.int (P.getD i 0)) :=
  jc (kb (ku h) rfl rfl) (by omega) fun i hi=>aw (n8 (by rw[p.len];exact CG h.wp hi)) rfl rfl
 refine aK ?_
 show aU bo (aa (cx (aq 1 [1] (aO (ah 1 aY (aa (ab 0) ae))) (fG 0) (fun _=>some true) (f2 au (ab 1) (ab 0)))) ae) [some (ax G T W),some (af P)]=_
 simp only[aU,aa,ae,cx,c,zB,zA,qx]
 simp[af,lN]
end
theorem Jq{f g:Dl.Env->Option D}{ρ:Dl.Env}{ds:List D}{k:Nat}(h:f ρ=some (.list ds))(h2:g ρ=some (nD k)):oM je f (C7 g) nW ρ=some (.list (ds.drop k)):=by
 have:=zf ds k
 simp only[oM,h,C7,h2,nW,gI,je,zA,zB,this]
theorem Em{p:Nat->Bool}(is:List Nat):Rf.He [.list (is.map fun i=>.bool (p i))]=some (.bool (is.any p)):=by
 have:∀is:List Nat,boolsOf (is.map fun i=>PyData.bool (p i))=some (is.map p):=fun is=>by
  induction is with
  | nil=>rfl
  | cons i is ih=>simp[boolsOf,ih]
 simp only[Rf.He,oneOf,zA,this,zB,List.any_map]
 rfl
theorem mW{α β:Type}(f:α->β)(p:β->Bool)(q:α->Bool):∀ (l:List α),(∀x∈l,p (f x)=q x)->(l.map f).findIdx p=l.findIdx q
 | [],_=>rfl
 | x::l,h=>by
  rw[zI,List.findIdx_cons,List.findIdx_cons,h x zE,mW f p q l fun y hy=>h y (zC _ hy)]
section
variable {G T:List Pl}{W:List Wy}{P:List Int}
theorem LS(h:Wd G T W){b:Bool}{i:Nat}{p:Pl}(e:(aD b G T)[i]?=some p){k:Nat}(hk:k < W.length)(he:bz b (ay W k)=i):pd (.list ((eU b W i p.2).map nD)) (nD k)=some (nD (sd p.2 (cf b (ay W k)))):=by
 have ko:k∈own b W i:=cB.mpr ⟨hk,he⟩
 have km:k∈eU b W i p.2:=(fF h e).mem_iff.mpr ko
 have e1:(eU b W i p.2).map nD=((eU b W i p.2).map fun j=>((j:Nat):Int)).map PyData.int:=by rw[zM];rfl
 have m1:((k:Nat):Int)∈(eU b W i p.2).map fun j=>((j:Nat):Int):=zQ.mpr ⟨k,km,rfl⟩
 rw[e1]
 show (intsOf _).bind _=_
 rw[bZ,zA,nK m1,zB]
 have e2:((eU b W i p.2).map fun j=>((j:Nat):Int)).findIdx (fun o=>decide (o=((k:Nat):Int)))=sd p.2 (cf b (ay W k)):=by
  unfold eU sd
  rw[zM]
  refine mW _ _ _ _ fun x hx=>?_
  obtain⟨hl,h1,h2⟩:=lF h e hx
  show decide (((me b W i x:Nat):Int)=(k:Int))=decide (x=cf b (ay W k))
  rw[decide_eq_decide]
  constructor
  ·intro z
   have z:me b W i x=k:=by omega
   rw[<- z,h2]
  ·intro z
   rw[z,wJ h.wp ko]
 rw[e2]
theorem nv(h:Wd G T W)(hp:P.length=W.length)(hs:Sm P)(b:Bool){k:Nat}(hk:k < W.length):cG [ax G T W,af P,.int (sI b),nD k]=some (.bool (uX b G T W P k)):=by
 have hw:=h.wl
 obtain⟨z1,z2,z3⟩:=h.end_pl b hk
 have hx:(aD b G T)[(bz b (ay W k)).toNat]?=some (br b G T (bz b (ay W k)).toNat):=by
  rw[zK z2]
  simp[br,z2]
 have hL:∀x∈(br b G T (bz b (ay W k)).toNat).2,_:=fun x hx'=>lF h hx hx'
 have hb:(br b G T (bz b (ay W k)).toNat).2.length<=16:=by
  have:=(fF h hx).length_eq
  have h2:=pY b W ((bz b (ay W k)).toNat:Int)
  unfold eU at this
  rw[zD] at this
  omega
 have ei:=LS h hx hk z3.symm
 have ew:=oq h hx
 generalize hpl:br b G T (bz b (ay W k)).toNat=pl at *
 generalize hj:(bz b (ay W k)).toNat=j at *
 have ez:PyData.int (bz b (ay W k))=nD j:=by rw[<- z3]
 refine aI ?_
 show gD [.val (ax G T W),.val (af P),.val (.int (sI b)),.val (nD k),.non,.non,.non]=_
 unfold gD
 have t4:Dl.az 4 [0,2,3] (f2 au (f2 au (f2 au (ab 0) (fC (.int 2))) (ab 3)) (ab 2)) [.val (ax G T W),.val (af P),.val (.int (sI b)),.val (nD k),.non,.non,.non]=some (.nx [.val (ax G T W),.val (af P),.val (.int (sI b)),.val (nD k),.val (nD j),.non,.non]):=by
  rw[<- ez]
  exact di (d:=.int (bz b (ay W k))) (aw (p5 b _) (aw (qP hk) rfl rfl) rfl) rfl
 rw[ai t4]
 have ep:au (.tuple ((aD b G T).map aW)) (nD j)=some (aW pl):=nV hx
 have ct:(fB (f2 Ey (ah 4 bP (aa (ab 0) (aa (ab 1) (aa (ab 2) (aa (ab 4) ae))))) (f2 au (f2 au (f2 au (ab 0) (ab 2)) (ab 4)) (fC (.int 0))))) (bA [.val (ax G T W),.val (af P),.val (.int (sI b)),.val (nD k),.val (nD j),.non,.non])=some (decide (j5 b W P j < pl.1)):=by
  refine b9 (aw (mJ _ _) (call_of (lj h hp hs b j) rfl rfl) ?_)
  refine aw (a:=aW pl) (b:=.int 0) rfl (aw ep (aw (jQ b G T W) rfl rfl) rfl) rfl
 have hm:uX b G T W P k=(decide (j5 b W P j < pl.1)||(pl.2.drop (sd pl.2 (cf b (ay W k))+1)).any fun o=>decide (0 < P.getD (me b W j o) 0)):=by
  unfold uX
  rw[hj,hpl,z3]
 rw[hm]
 cases hc:decide (j5 b W P j < pl.1) with
 | true =>
  rw[hc] at ct
  exact jt ((ip ct).trans (aK rfl))
 | false =>
  rw[hc] at ct
  rw[ai (cZ ct),Bool.false_or]
  have t5:Dl.az 5 [0,2,4] (ah 3 bT (aa (ab 0) (aa (ab 2) (aa (ab 4) ae)))) [.val (ax G T W),.val (af P),.val (.int (sI b)),.val (nD k),.val (nD j),.non,.non]=some (.nx [.val (ax G T W),.val (af P),.val (.int (sI b)),.val (nD k),.val (nD j),.val (.list ((eU b W j pl.2).map nD)),.non]) :=
   bb (call_of ew rfl rfl) (call_of ew rfl rfl) rfl
  rw[ai t5]
  have cu:∀ρ:Dl.Env,ab 5 ρ=some (.list ((eU b W j pl.2).map nD))->ab 3 ρ=some (nD k)->(oM je (ab 5) (C7 (f2 aA (f2 pd (ab 5) (ab 3)) (fC (.int 1)))) nW) ρ=some (.list (((eU b W j pl.2).map nD).drop (sd pl.2 (cf b (ay W k))+1))):=fun ρ a c =>
   Jq a (aw (fL _ _) (aw ei a c) rfl)
  have t6:Dl.az 6 [3,5] (oM je (ab 5) (C7 (f2 aA (f2 pd (ab 5) (ab 3)) (fC (.int 1)))) nW) [.val (ax G T W),.val (af P),.val (.int (sI b)),.val (nD k),.val (nD j),.val (.list ((eU b W j pl.2).map nD)),.non]=some (.nx [.val (ax G T W),.val (af P),.val (.int (sI b)),.val (nD k),.val (nD j),.val (.list ((eU b W j pl.2).map nD)),.val (.list (((eU b W j pl.2).drop (sd pl.2 (cf b (ay W k))+1)).map nD))]):=by
   rw[List.map_drop]
   exact bb (cu _ rfl rfl) (cu _ rfl rfl) rfl
  rw[ai t6]
  have c:aq 1 [1] (aO (ab 6)) (fG 0) (fun _=>some true) (f2 zz (f2 au (ab 1) (ab 0)) (fC (.int 0))) [some (ax G T W),some (af P),some (.int (sI b)),some (nD k),some (nD j),some (.list ((eU b W j pl.2).map nD)),some (.list (((eU b W j pl.2).drop (sd pl.2 (cf b (ay W k))+1)).map nD))]=some (((eU b W j pl.2).drop (sd pl.2 (cf b (ay W k))+1)).map fun i=>.bool (decide (0 < P.getD i 0))):=by
   refine jc rfl ?_ fun i hi=>?_
   ·rw[List.length_drop,eU,zD]
    omega
   ·have hi':=List.mem_of_mem_drop hi
    unfold eU at hi'
    obtain⟨x,hx',rfl⟩:=zQ.mp hi'
    exact aw (gq _ _) (aw (n8 (by rw[hp];exact (hL x hx').1)) rfl rfl) rfl
  refine aK ?_
  show aU Rf.He (aa (cx (aq 1 [1] (aO (ab 6)) (fG 0) (fun _=>some true) (f2 zz (f2 au (ab 1) (ab 0)) (fC (.int 0))))) ae) [some (ax G T W),some (af P),some (.int (sI b)),some (nD k),some (nD j),some (.list ((eU b W j pl.2).map nD)),some (.list (((eU b W j pl.2).drop (sd pl.2 (cf b (ay W k))+1)).map nD))]=_
  simp only[aU,aa,ae,cx,c,zB,zA,Em]
  unfold eU
  rw[<- List.map_drop,List.any_map]
  rfl
def N2:Nat->D|0=>.str "full" | 1=>.str "giver" | 2=>.str "taker" | _=>.none
theorem Ag(h:Wd G T W)(hp:P.length=W.length)(hs:Sm P){k:Nat}(hk:k < W.length):eM [ax G T W,af P,nD k]=some (N2 (lM G T W P k)):=by
 refine aI ?_
 show jB [.val (ax G T W),.val (af P),.val (nD k)]=_
 unfold jB lM
 have c1:(fB (f2 bQ (f2 au (ab 1) (ab 2)) (f2 au (f2 au (f2 au (ab 0) (fC (.int 2))) (ab 2)) (fC (.int 2))))) (bA [.val (ax G T W),.val (af P),.val (nD k)])=some (decide (P.getD k 0=(ay W k).2.2)) :=
  b9 (aw (cY _ _) (aw (n8 (by rw[hp];exact hk)) rfl rfl) (aw (a:=ao (ay W k)) (b:=.int 2) rfl (aw (qP hk) rfl rfl) rfl))
 have w0:=nv h hp hs false hk
 have w1:=nv h hp hs true hk
 have c2:(b8 (fB (ah 4 cG (aa (ab 0) (aa (ab 1) (aa (fC (.int 0)) (aa (ab 2) ae))))))) (bA [.val (ax G T W),.val (af P),.val (nD k)])=some (!(uX false G T W P k)):=hJ (b9 (call_of w0 rfl rfl))
 have c3:(b8 (fB (ah 4 cG (aa (ab 0) (aa (ab 1) (aa (fC (.int 1)) (aa (ab 2) ae))))))) (bA [.val (ax G T W),.val (af P),.val (nD k)])=some (!(uX true G T W P k)):=hJ (b9 (call_of w1 rfl rfl))
 by_cases e1:P.getD k 0=(ay W k).2.2
 ·rw[yB e1] at c1
  rw[if_pos e1]
  exact jt ((ip c1).trans (aK rfl))
 ·rw[yA e1] at c1
  rw[if_neg e1,ai (cZ c1)]
  cases e2:uX false G T W P k with
  | false =>
   rw[e2] at c2
   rw[if_pos rfl]
   exact jt ((ip c2).trans (aK rfl))
  | true =>
   rw[e2] at c2
   rw[if_neg (by simp),ai (cZ c2)]
   cases e3:uX true G T W P k with
   | false =>
    rw[e3] at c3
    rw[if_pos rfl]
    exact jt ((ip c3).trans (aK rfl))
   | true =>
    rw[e3] at c3
    rw[if_neg (by simp),ai (cZ c3)]
    exact aK rfl
theorem Ml(G T:List Pl)(W:List Wy)(P:List Int)(k:Nat):lM G T W P k<=3:=by
 unfold lM
 split
 ·omega
 ·split
  ·omega
  ·split<;>omega
theorem IZ(n:Nat)(h:n<=3):sk (N2 n) .none=some (.bool (decide (n=3))):=by
 match n,h with
 | 0,_=>rfl
 | 1,_=>rfl
 | 2,_=>rfl
 | 3,_=>rfl
theorem GY{ρ:Dl.Env}{f:Dl.Env->Option D}(hp:P.length=W.length)(hf:f ρ=some (af P)):(aa (aU bq (aa f ae)) ae) ρ=some [nD W.length]:=by
 have:=v7 P
 rw[hp] at this
 refine cons_of ?_ rfl
 rw[jD hf,this]
theorem pw(h:Wd G T W)(hp:P.length=W.length)(hs:Sm P):dM [ax G T W,af P]=some (match (List.range W.length).find? fun k=>decide (lM G T W P k=3) with|some k=>nD k|none=>.none):=by
 have hw:=h.wl
 refine aI ?_
 show dH [.val (ax G T W),.val (af P),.non]=_
 unfold dH
 obtain⟨f1,f2'⟩:=g0 (tgt:=lA 2) (gb:=hC (fB (f2 sk (ah 3 eM (aa (ab 0) (aa (ab 1) (aa (ab 2) ae)))) (fC .none))) (aJ (ab 2)) gN) (fun ρ=>∃x,ρ=[.val (ax G T W),.val (af P),x]) nD (fun k=>decide (lM G T W P k=3)) nD
  (l:=List.range W.length) (ρ:=[.val (ax G T W),.val (af P),.non])
  (fun ρ k hk hρ=>by
   obtain⟨x,rfl⟩:=hρ
   have hk':k < W.length:=by simpa using hk
   have c:(fB (f2 sk (ah 3 eM (aa (ab 0) (aa (ab 1) (aa (ab 2) ae)))) (fC .none))) (bA [.val (ax G T W),.val (af P),.val (nD k)])=some (decide (lM G T W P k=3)) :=
    b9 (aw (IZ _ (Ml G T W P k)) (call_of (Ag h hp hs hk') rfl rfl) rfl)
   refine⟨_,rfl,fun hq=>?_,fun hq=>?_⟩
   ·show hC _ _ _ [.val (ax G T W),.val (af P),.val (nD k)]=_
    rw[hq] at c
    exact (ip c).trans (aK rfl)
   ·rw[hq] at c
    exact⟨_,cZ c,_,rfl⟩) ⟨_,rfl⟩
 have hr:bj (aa (aU bq (aa (ab 1) ae)) ae) [some (ax G T W),some (af P),none]=some ((List.range W.length).map nD):=rR (GY hp rfl) (by omega)
 cases e:(List.range W.length).find? fun k=>decide (lM G T W P k=3) with
 | some k=>exact jt (bG (f1 k e) hr rfl)
 | none =>
  obtain⟨ρ',e',x,rfl⟩:=f2' e
  exact (ai (bG e' hr rfl)).trans (aK rfl)
theorem Bf(h:Wd G T W)(hp:P.length=W.length)(hs:Sm P):jM [ax G T W,af P]=some (.bool (decide (BY G T W P=[]))):=by
 refine aI ?_
 show jq [.val (ax G T W),.val (af P)]=_
 unfold jq
 refine aK (aw ?_ (call_of (pw h hp hs) rfl rfl) rfl)
 cases e:(List.range W.length).find? fun k=>decide (lM G T W P k=3) with
 | some k =>
  have:BY G T W P≠[]:=fun z=>by
   have hm:=List.mem_of_find?_eq_some e
   have hq:=List.find?_some e
   have:k∈BY G T W P:=List.mem_filter.mpr ⟨hm,hq⟩
   rw[z] at this
   cases this
  rw[yA this]
  rfl
 | none =>
  have:BY G T W P=[]:=by
   rw[List.find?_eq_none] at e
   exact List.filter_eq_nil_iff.mpr e
  rw[yB this]
  rfl
theorem tq(h:Wd G T W){c:List Int}(hb:bN [ax T G (eG W (bR W))]=some (af c))(p:Pn T G (eG W (bR W)) c):dF [ax G T W]=some (af (lN c (bR (eG W (bR W))))):=by
 have o:=dG h.wp
 have h':=o.wd h
 refine aI ?_
 show eX [.val (ax G T W),.non]=_
 unfold eX
 have t1:Dl.az 1 [0] (ah 1 j8 (aa (ab 0) ae)) [.val (ax G T W),.non]=some (.nx [.val (ax G T W),.val (ax T G (eG W (bR W)))]):=bb (call_of (yw h) rfl rfl) (call_of (yw h) rfl rfl) rfl
 rw[ai t1]
 exact aK (call_of (sQ h' p) (cons_of rfl (cons_of (call_of hb rfl rfl) rfl)) rfl)
end
theorem mQ{tgt:aj->D->Option aj}{gb:aj->Option Out}(f:Nat->D)(R:Nat->aj->Prop):∀ (n k:Nat) (ρ:aj),
  (∀j ρ,k<=j->j < k+n->R j ρ->∃ρ1 ρ2,tgt ρ (f j)=some ρ1/\gb ρ1=some (.nx ρ2)/\R (j+1) ρ2)->R k ρ->∃ρ',cH tgt gb ((List.range' k n).map f) ρ=some (.nx ρ')/\R (k+n) ρ'
 | 0,k,ρ,_,h=>⟨ρ,rfl,h⟩
 | n+1,k,ρ,hh,h=>by
  obtain⟨ρ1,ρ2,e1,e2,h2⟩:=hh k ρ (zzA _) (by omega) h
  obtain⟨ρ',e3,h3⟩:=mQ f R n (k+1) ρ2 (fun j ρ a b=>hh j ρ (by omega) (by omega)) h2
  refine⟨ρ',?_,by rw[show k+(n+1)=k+1+n by omega];exact h3⟩
  rw[List.range'_succ,zI,cH,e1,zA,e2]
  exact e3
theorem Nx{n:Nat}(hl:n<=1000):Dl.ej (.tuple [.int 0]) (nD n)=some (af (zs n)):=by
 have e:xf (.tuple [.int 0]) (nD n)=some (af (zs n)):=by
  show (if BO ((n:Nat):Int)=true/\[PyData.int 0].length * ((n:Nat):Int).toNat<=sizeLine then some (PyData.tuple (List.replicate ((n:Nat):Int).toNat [PyData.int 0]).flatten) else none)=_
  have hz:[PyData.int 0].length * n<=sizeLine:=by
   rw[List.length_singleton,Nat.one_mul]
   exact yE hl (by decide)
  rw[yH,if_pos ⟨vL hl,hz⟩,KC]
  rfl
 show ((wF si fun i j=>PyData.int (i * j)) (.tuple [.int 0]) (nD n)).or (xf (.tuple [.int 0]) (nD n))=_
 rw[e]
 rfl
section
variable {G T:List Pl}{W:List Wy}{P:List Int}
theorem AX(h:P.length=W.length):gT (P.map PyData.int) (W.map ao)=(List.range W.length).map fun i=>.tuple [.int (P.getD i 0),ao (ay W i)]:=by
 have:∀ (a:List Int) (l:List Wy),a.length=l.length->gT (a.map PyData.int) (l.map ao)=(List.range l.length).map fun i=>.tuple [.int (a.getD i 0),ao (ay l i)]:=by
  intro a
  induction a with
  | nil=>intro l e;cases l with|nil=>rfl|cons _ _=>simp at e
  | cons x a ih =>
   intro l e
   cases l with
   | nil=>simp at e
   | cons w l =>
    rw[zI,zI,gT,ih l (by simpa using e),zL,List.range_succ_eq_map,zI,zM]
    rfl
 exact this P W h
theorem Bs(h:Wd G T W)(hp:P.length=W.length)(hs:Sm P)(b:Bool)(p:Int):cT [ax G T W,af P,.int (sI b),.int p]=some (.int (j5 b W P p)):=by
 have hw:=h.wl
 refine aI ?_
 show k6 [.val (ax G T W),.val (af P),.val (.int (sI b)),.val (.int p)]=_
 have hz:dz (aa (ab 1) (aa (f2 au (ab 0) (fC (.int 2))) ae)) [some (ax G T W),some (af P),some (.int (sI b)),some (.int p)]=some ((List.range W.length).map fun i=>.tuple [.int (P.getD i 0),ao (ay W i)]):=by
  rw[<- AX hp]
  rfl
 have c:aq 2 [2,3] (dz (aa (ab 1) (aa (f2 au (ab 0) (fC (.int 2))) ae))) (gw 0 1) (fB (f2 bQ (f2 au (ab 1) (ab 2)) (ab 3))) (ab 0) [some (ax G T W),some (af P),some (.int (sI b)),some (.int p)]=some ((own b W p).map fun i=>.int (P.getD i 0)):=by
  rw[ji (p:=fun i=>decide (bz b (ay W i)=p)) (h:=fun i=>.int (P.getD i 0)) hz (by omega) fun i hi=>⟨?_,fun _=>rfl⟩]
  ·rfl
  ·show fB (f2 bQ (f2 au (ab 1) (ab 2)) (ab 3)) [some (.int (P.getD i 0)),some (ao (ay W i)),some (.int (sI b)),some (.int p)]=_
   exact b9 (by rw[jj (a:=.int (bz b (ay W i))) (b:=.int p) (aw (p5 b _) rfl rfl) rfl,cY])
 refine aK ?_
 have e:((own b W p).map fun i=>PyData.int (P.getD i 0))=((own b W p).map fun i=>P.getD i 0).map PyData.int:=by rw[zM];rfl
 show aU md (aa (cx (aq 2 [2,3] (dz (aa (ab 1) (aa (f2 au (ab 0) (fC (.int 2))) ae))) (gw 0 1) (fB (f2 bQ (f2 au (ab 1) (ab 2)) (ab 3))) (ab 0))) ae) [some (ax G T W),some (af P),some (.int (sI b)),some (.int p)]=_
 rw[e] at c
 simp only[aU,aa,ae,cx,c,zB,zA]
 show md [.list (((own b W p).map fun i=>P.getD i 0).map PyData.int)]=_
 simp only[md,dO,oneOf,fY,zA,bZ,CC hs hw b p,if_true]
 rfl
def OY:aj->Option Out:=(cM [0,2] (bx (aa (f2 au (ab 0) (ab 2)) ae)) (dZ 3 4) (hC (fB (f2 zz (ah 4 cT (aa (ab 0) (aa (ab 1) (aa (ab 2) (aa (ab 3) ae))))) (f2 au (ab 4) (fC (.int 0))))) (aJ (fC (.bool false))) gN))
theorem IS(h:Wd G T W)(hp:P.length=W.length)(hs:Sm P)(b:Bool)(x y:Slot):(BQ b G T W P=false->OY [.val (ax G T W),.val (af P),.val (.int (sI b)),x,y]=some (.rt (.bool false)))/\(BQ b G T W P=true->∃x' y',OY [.val (ax G T W),.val (af P),.val (.int (sI b)),x,y]=some (.nx [.val (ax G T W),.val (af P),.val (.int (sI b)),x',y'])):=by
 have hl:=h.pl b
 obtain⟨f1,f2'⟩:=g0 (tgt:=dZ 3 4) (gb:=hC (fB (f2 zz (ah 4 cT (aa (ab 0) (aa (ab 1) (aa (ab 2) (aa (ab 3) ae))))) (f2 au (ab 4) (fC (.int 0))))) (aJ (fC (.bool false))) gN)
  (fun ρ=>∃x y,ρ=[.val (ax G T W),.val (af P),.val (.int (sI b)),x,y]) (fun i:Nat=>.tuple [nD i,aW (br b G T i)]) (fun i=>decide ((br b G T i).1 < j5 b W P i)) (fun _=>.bool false)
  (l:=List.range (aD b G T).length) (ρ:=[.val (ax G T W),.val (af P),.val (.int (sI b)),x,y])
  (fun ρ i hi hρ=>by
   obtain⟨x,y,rfl⟩:=hρ
   have c:(fB (f2 zz (ah 4 cT (aa (ab 0) (aa (ab 1) (aa (ab 2) (aa (ab 3) ae))))) (f2 au (ab 4) (fC (.int 0))))) (bA [.val (ax G T W),.val (af P),.val (.int (sI b)),.val (nD i),.val (aW (br b G T i))])=some (decide ((br b G T i).1 < j5 b W P i)) :=
    b9 (aw (gq _ _) (call_of (Bs h hp hs b i) rfl rfl) (aw (a:=aW (br b G T i)) (b:=.int 0) rfl rfl rfl))
   refine⟨_,rfl,fun hq=>?_,fun hq=>?_⟩
   ·rw[hq] at c
    exact (ip c).trans (aK rfl)
   ·rw[hq] at c
    exact⟨_,cZ c,_,_,rfl⟩) ⟨_,_,rfl⟩
 have he:bx (aa (f2 au (ab 0) (ab 2)) ae) (bY [.val (ax G T W),.val (af P),.val (.int (sI b)),x,y])=some ((List.range (aD b G T).length).map fun i=>.tuple [nD i,aW (br b G T i)]):=by
  have:=ml (aD b G T)
  unfold br
  rw[<- this]
  cases b<;>rfl
 have hh:hand [0,2] 0 [Slot.val (ax G T W),.val (af P),.val (.int (sI b)),x,y]=[Slot.val (ax G T W),.val (af P),.val (.int (sI b)),x,y]:=rfl
 unfold BQ
 constructor
 ·intro hk
  cases e:(List.range (aD b G T).length).find? fun i=>decide ((br b G T i).1 < j5 b W P i) with
  | some i=>exact bG (f1 i e) he hh
  | none =>
   rw[List.find?_eq_none] at e
   rw[List.all_eq_false] at hk
   obtain⟨i,hi,hn⟩:=hk
   have:=e i hi
   simp only[zJ] at this hn
   omega
 ·intro hk
  have e:(List.range (aD b G T).length).find? (fun i=>decide ((br b G T i).1 < j5 b W P i))=none:=by
   rw[List.find?_eq_none]
   intro i hi
   have:=List.all_eq_true.mp hk i hi
   simp only[zJ] at this ⊢
   omega
  obtain⟨ρ',e',x',y',rfl⟩:=f2' e
  exact⟨x',y',bG e' he hh⟩
theorem Mv:qS G T W P=(BQ false G T W P&&BQ true G T W P):=rfl
theorem Am(h:Wd G T W)(hp:P.length=W.length)(hs:Sm P):cR [ax G T W,af P]=some (.bool (qS G T W P)):=by
 obtain⟨f1,f2'⟩:=g0 (tgt:=lA 2) (gb:=OY)
  (fun ρ=>∃x y z,ρ=[.val (ax G T W),.val (af P),x,y,z]) (fun b:Bool=>.int (sI b)) (fun b=>!(BQ b G T W P)) (fun _=>.bool false)
  (l:=[false,true]) (ρ:=[.val (ax G T W),.val (af P),.non,.non,.non])
  (fun ρ b _ hρ=>by
   obtain⟨x,y,z,rfl⟩:=hρ
   obtain⟨r1,r2⟩:=IS h hp hs b y z
   refine⟨_,rfl,fun hq=>?_,fun hq=>?_⟩
   ·exact r1 (by simpa using hq)
   ·obtain⟨x',y',e⟩:=r2 (by simpa using hq)
    exact⟨_,e,_,_,_,rfl⟩) ⟨_,_,_,rfl⟩
 have hr:bj (aa (fC (.int 2)) ae) (bY [.val (ax G T W),.val (af P),.non,.non,.non])=some ([false,true].map fun b=>.int (sI b)):=rR (n:=2) rfl (by omega)
 refine aI ?_
 show ik [.val (ax G T W),.val (af P),.non,.non,.non]=_
 unfold ik
 rw[Mv]
 cases e0:BQ false G T W P with
 | false =>
  have e:[false,true].find? (fun b=>!(BQ b G T W P))=some false:=by rw[List.find?_cons_of_pos (by simp[e0])]
  exact jt (bG (f1 _ e) hr rfl)
 | true =>
  cases e1:BQ true G T W P with
  | false =>
   have e:[false,true].find? (fun b=>!(BQ b G T W P))=some true:=by rw[List.find?_cons_of_neg (by simp[e0]),List.find?_cons_of_pos (by simp[e1])]
   exact jt (bG (f1 _ e) hr rfl)
  | true =>
   have e:[false,true].find? (fun b=>!(BQ b G T W P))=none:=by rw[List.find?_cons_of_neg (by simp[e0]),List.find?_cons_of_neg (by simp[e1])];rfl
   obtain⟨ρ',e',x,y,z,rfl⟩:=f2' e
   exact (ai (bG e' hr rfl)).trans (aK rfl)
end
theorem Sm.app{a b:List Int}(ha:Sm a)(hb:Sm b):Sm (a++b):=fun k=>by
 by_cases hk:k < a.length
 ·have:=ha k
  rwa [show (a++b).getD k 0=a.getD k 0 by simp[List.getElem?_append_left hk]]
 ·have:=hb (k - a.length)
  rwa [show (a++b).getD k 0=b.getD (k - a.length) 0 by simp[List.getElem?_append_right (by omega:a.length<=k)]]
theorem Ma{x:Int}(h1:-1000000<=x)(h2:x<=1000000):Sm [x]:=fun k=>by
 cases k with
 | zero=>exact⟨h1,h2⟩
 | succ k=>simp
theorem N8(n:Nat):Sm (zs n):=fun k=>by rw[Kt];omega
section
variable {ns:List Int}{G T:List Pl}{W:List Wy}{at':Int}
def rY(ns:List Int)(at':Int)(W:List Wy)(k:Nat):Int:=dr ns (at'+(k:Nat)) ((ay W k).2.2+1)
theorem Av(hl:ns.length<=63)(h:Wd G T W){k:Nat}(hk:k < W.length):0<=rY ns at' W k/\rY ns at' W k<=(ay W k).2.2:=by
 have:=(h.wr _ (oN hk)).2.2
 have h1:=Ko (ns:=ns) (at'+(k:Nat)) ((ay W k).2.2+1) hl (by omega)
 have h2:=KQ (ns:=ns) (at'+(k:Nat)) ((ay W k).2.2+1) hl (by omega)
 unfold rY
 omega
def OW:aj->Option Out:=(av (az 6 [0,1,3,4,5] (f2 aA (ab 3) (aC (aa (ah 3 ak (aa (ab 0) (aa (f2 aA (ab 1) (ab 4)) (aa (f2 aA (f2 au (ab 5) (fC (.int 2))) (fC (.int 1))) ae)))) ae)))) (av (az 7 [2,6] (ah 2 cR (aa (ab 2) (aa (f2 aA (ab 6) (f2 ej (aC (aa (fC (.int 0)) ae)) (f2 Dl.gP (aU bq (aa (f2 au (ab 2) (fC (.int 2))) ae)) (aU bq (aa (ab 6) ae))))) ae)))) (az 3 [3,6,7] (Ft (fB (ab 7)) (ab 6) (f2 aA (ab 3) (aC (aa (fC (.int 0)) ae)))))))
theorem pU{a b:List Int}(h:a.length+b.length<=1000):Dl.aA (af a) (af b)=some (af (a++b)):=by
 unfold af
 rw[vm (by simp;omega),List.map_append]
theorem uQ{tc:Dl.Env->Option Bool}{fa fb:Dl.Env->Option D}{ρ:Dl.Env}{d:D}(h:tc ρ=some true)(ha:fa ρ=some d):Ft tc fa fb ρ=some d:=by
 simp only[Ft,h,zA,ha]
theorem Ac{tc:Dl.Env->Option Bool}{fa fb:Dl.Env->Option D}{ρ:Dl.Env}{d:D}(h:tc ρ=some false)(ha:fb ρ=some d):Ft tc fa fb ρ=some d:=by
 simp only[Ft,h,zA,ha]
theorem MF(hl:ns.length<=63)(h:Wd G T W){k:Nat}(hk:k<=W.length):Sm (mn (rY ns at' W) G T W k):=fun j=>by
 by_cases hj:j < k
 ·have:=Bl (d:=rY ns at' W) (G:=G) (T:=T) (W:=W) (fun k hk=>Av hl h hk) h.lim k hk j hj
  have:=(h.wr _ (oN (show j < W.length by omega))).2.2
  omega
 ·rw[zG,List.getElem?_eq_none (by rw[nc];omega)]
  simp
theorem Kc(hl:ns.length<=63)(h:Wd G T W){k:Nat}(hk:k < W.length)(x y:Slot):∃x' y',OW [.val (bW ns),.val (.int at'),.val (ax G T W),.val (af (mn (rY ns at' W) G T W k)),.val (nD k),.val (ao (ay W k)),x,y]=some (.nx [.val (bW ns),.val (.int at'),.val (ax G T W),.val (af (mn (rY ns at' W) G T W (k+1))),.val (nD k),.val (ao (ay W k)),x',y']):=by
 have hw:=h.wl
 have hr:=(h.wr _ (oN hk)).2.2
 have hsm:=MF (at':=at') hl h (Nat.le_of_lt hk)
 have hfl:=nc (d:=rY ns at' W) (G:=G) (T:=T) (W:=W) k
 have hdb:=Av (at':=at') hl h hk
 have e2:mn (rY ns at' W) G T W (k+1)=if qS G T W ((mn (rY ns at' W) G T W k++[rY ns at' W k])++zs (W.length - (mn (rY ns at' W) G T W k++[rY ns at' W k]).length))=true then mn (rY ns at' W) G T W k++[rY ns at' W k] else mn (rY ns at' W) G T W k++[0]:=rfl
 rw[e2]
 clear e2
 generalize hf:mn (rY ns at' W) G T W k=f at hsm hfl ⊢
 generalize hd:rY ns at' W k=d at hdb ⊢
 have ed:∀ρ:Dl.Env,ab 0 ρ=some (bW ns)->ab 1 ρ=some (.int at')->ab 4 ρ=some (nD k)->ab 5 ρ=some (ao (ay W k))->(ah 3 ak (aa (ab 0) (aa (f2 aA (ab 1) (ab 4)) (aa (f2 aA (f2 au (ab 5) (fC (.int 2))) (fC (.int 1))) ae)))) ρ=some (.int d):=fun ρ a b c e=>by
  rw[<- hd]
  exact call_of (uE (at'+((k:Nat):Int)) ((ay W k).2.2+1) hl (by omega)) (cons_of a (cons_of (aw (fL at' k) b c) (cons_of (aw (fL (ay W k).2.2 1) (aw (p8 _) e rfl) rfl) rfl))) rfl
 have em:∀ρ:Dl.Env,ab 0 ρ=some (bW ns)->ab 1 ρ=some (.int at')->ab 3 ρ=some (af f)->ab 4 ρ=some (nD k)->ab 5 ρ=some (ao (ay W k))->(f2 aA (ab 3) (aC (aa (ah 3 ak (aa (ab 0) (aa (f2 aA (ab 1) (ab 4)) (aa (f2 aA (f2 au (ab 5) (fC (.int 2))) (fC (.int 1))) ae)))) ae))) ρ=some (af (f++[d])):=fun ρ a b z c e =>
  aw (pU (a:=f) (b:=[d]) (by simp;omega)) z (EL (ed ρ a b c e))
 have t6:Dl.az 6 [0,1,3,4,5] (f2 aA (ab 3) (aC (aa (ah 3 ak (aa (ab 0) (aa (f2 aA (ab 1) (ab 4)) (aa (f2 aA (f2 au (ab 5) (fC (.int 2))) (fC (.int 1))) ae)))) ae))) [.val (bW ns),.val (.int at'),.val (ax G T W),.val (af f),.val (nD k),.val (ao (ay W k)),x,y]=some (.nx [.val (bW ns),.val (.int at'),.val (ax G T W),.val (af f),.val (nD k),.val (ao (ay W k)),.val (af (f++[d])),y]) :=
  bb (em _ rfl rfl rfl rfl rfl) (em _ rfl rfl rfl rfl rfl) rfl
 have hlen:(f++[d]).length=k+1:=by simp[hfl]
 have hsub:((W.length:Nat):Int) - (((f++[d]).length:Nat):Int)=((W.length - (f++[d]).length:Nat):Int):=by omega
 have hwl:((f++[d])++zs (W.length - (f++[d]).length)).length=W.length:=by simp[zs,hfl];omega
 have hsl:Sm ((f++[d])++zs (W.length - (f++[d]).length)):=(hsm.app (Ma (by omega) (by omega))).app (N8 _)
 have ef:∀ρ:Dl.Env,ab 2 ρ=some (ax G T W)->ab 6 ρ=some (af (f++[d]))->(ah 2 cR (aa (ab 2) (aa (f2 aA (ab 6) (f2 ej (aC (aa (fC (.int 0)) ae)) (f2 Dl.gP (aU bq (aa (f2 au (ab 2) (fC (.int 2))) ae)) (aU bq (aa (ab 6) ae))))) ae))) ρ=some (.bool (qS G T W ((f++[d])++zs (W.length - (f++[d]).length)))):=fun ρ a b=>by
  refine call_of (Am h hwl hsl) (cons_of a (cons_of (aw (pU ?_) b (aw (Nx (n:=W.length - (f++[d]).length) (by omega)) (EL rfl) ?_)) rfl)) rfl
  ·rw[<- zN,hwl];omega
  ·rw[show nD (W.length - (f++[d]).length)=.int (((W.length:Nat):Int) - (((f++[d]).length:Nat):Int)) by rw[hsub]]
   exact aw (sub_int _ _) (kU (l:=W) (k:=ao) (aw (pJ G T W) a rfl)) (kU (l:=f++[d]) (k:=PyData.int) b)
 have t7:Dl.az 7 [2,6] (ah 2 cR (aa (ab 2) (aa (f2 aA (ab 6) (f2 ej (aC (aa (fC (.int 0)) ae)) (f2 Dl.gP (aU bq (aa (f2 au (ab 2) (fC (.int 2))) ae)) (aU bq (aa (ab 6) ae))))) ae))) [.val (bW ns),.val (.int at'),.val (ax G T W),.val (af f),.val (nD k),.val (ao (ay W k)),.val (af (f++[d])),y]=some (.nx [.val (bW ns),.val (.int at'),.val (ax G T W),.val (af f),.val (nD k),.val (ao (ay W k)),.val (af (f++[d])),.val (.bool (qS G T W ((f++[d])++zs (W.length - (f++[d]).length))))]) :=
  bb (ef _ rfl rfl) (ef _ rfl rfl) rfl
 unfold OW
 rw[ai t6,ai t7]
 have h0:∀ρ:Dl.Env,ab 3 ρ=some (af f)->(f2 aA (ab 3) (aC (aa (fC (.int 0)) ae))) ρ=some (af (f++[0])):=fun ρ z=>aw (pU (a:=f) (b:=[0]) (by simp;omega)) z (EL rfl)
 generalize qS G T W ((f++[d])++zs (W.length - (f++[d]).length))=fb
 cases fb with
 | true =>
  rw[if_pos rfl]
  exact⟨_,_,bb (uQ (b9 rfl) rfl) (uQ (b9 rfl) rfl) rfl⟩
 | false =>
  rw[if_neg (by simp)]
  exact⟨_,_,bb (Ac (b9 rfl) (h0 _ rfl)) (Ac (b9 rfl) (h0 _ rfl)) rfl⟩
theorem DQ(W:List Wy):bK 0 (W.map ao)=(List.range' 0 W.length).map fun i=>.tuple [nD i,ao (ay W i)]:=by
 rw[<- yI,enum_zip]
 apply List.ext_getElem
 ·simp
 ·intro i h1 h2
  have:i < W.length:=by simpa using h2
  simp[fQ this]
theorem Bq(hl:ns.length<=63)(h:Wd G T W):ix [bW ns,.int at',ax G T W]=some (af (mn (rY ns at' W) G T W W.length)):=by
 have hw:=h.wl
 obtain⟨ρ',e,x4,x5,x6,x7,rfl⟩:=mQ (tgt:=dZ 4 5) (gb:=OW) (fun i=>.tuple [nD i,ao (ay W i)]) (fun k ρ=>∃x4 x5 x6 x7,ρ=[.val (bW ns),.val (.int at'),.val (ax G T W),.val (af (mn (rY ns at' W) G T W k)),x4,x5,x6,x7]) W.length 0 [.val (bW ns),.val (.int at'),.val (ax G T W),.val (af []),.non,.non,.non,.non]
  (fun j ρ _ hj hρ=>by
   obtain⟨x4,x5,x6,x7,rfl⟩:=hρ
   obtain⟨x',y',e⟩:=Kc (at':=at') hl h (show j < W.length by omega) x6 x7
   exact⟨_,_,rfl,e,_,_,_,_,rfl⟩) ⟨_,_,_,_,rfl⟩
 refine aI ?_
 show ie [.val (bW ns),.val (.int at'),.val (ax G T W),.non,.non,.non,.non,.non]=_
 unfold ie
 have t3:Dl.az 3 [] (aC ae) [.val (bW ns),.val (.int at'),.val (ax G T W),.non,.non,.non,.non,.non]=some (.nx [.val (bW ns),.val (.int at'),.val (ax G T W),.val (af []),.non,.non,.non,.non]) :=
  bb (tup_is (ds:=[]) rfl (by simp)) (tup_is (ds:=[]) rfl (by simp)) rfl
 rw[ai t3]
 have he:bx (aa (f2 au (ab 2) (fC (.int 2))) ae) (bY [.val (bW ns),.val (.int at'),.val (ax G T W),.val (af []),.non,.non,.non,.non])=some ((List.range' 0 W.length).map fun i=>.tuple [nD i,ao (ay W i)]):=by
  rw[<- DQ]
  rfl
 rw[Nat.zero_add] at e
 exact (ai (bG e he rfl)).trans (aK rfl)
theorem Je(hl:ns.length<=63)(h:Wd G T W):Pn G T W (mn (rY ns at' W) G T W W.length):=M7 h fun k hk=>Av hl h hk
end
theorem p7{S:Type}(cont:S->Bool)(st:S->S)(μ:S->Nat)(I:S->Prop)(hb:∀s,I s->cont s=true->I (st s)/\μ (st s) < μ s):∀ (n:Nat) (s:S),μ s < n->I s->cont (lp cont st n s)=false/\I (lp cont st n s)
 | 0,s,h,_=>absurd h (by omega)
 | n+1,s,h,i=>by
  rw[lp]
  cases hc:cont s with
  | false=>exact⟨by simpa [hc] using hc,by simpa using i⟩
  | true =>
   obtain⟨i2,hm⟩:=hb s i hc
   have:=p7 cont st μ I hb n (st s) (by omega) i2
   simpa using this
section
variable {G T:List Pl}{W:List Wy}
theorem AA{k:Nat}(hk:k < W.length):(d5 W).getD k 0=(ay W k).2.2:=by
 unfold d5
 rw[zG,zO,nz hk]
 rfl
theorem mR(h:Wd G T W):rW G T W (fin G T W).2=none/\zx W (fin G T W)/\∀k,k < W.length->(fin G T W).2.getD k 0<=(ay W k).2.2:=by
 have hb:=h.mea
 obtain⟨h1,i,h2⟩:=p7 (Kx G T W) (spS G T W) (fun s=>mea s.2) (fun s=>zx W s/\∀k,k < W.length->s.2.getD k 0<=(ay W k).2.2)
  (fun s ⟨i,l⟩ hc=>by
   obtain⟨p,e⟩:=mU hc
   obtain⟨a,b,c⟩:=Cm h i.off e
   obtain⟨i2,hm⟩:=i.step h e
   refine⟨⟨i2,fun k hk=>?_⟩,hm⟩
   rw[qV e]
   show (s.2.set p.1 p.2).getD k 0<=_
   by_cases z:k=p.1
   ·subst z
    have:=l p.1 a
    have hl:p.1 < s.2.length:=by rw[i.len];exact a
    rw[show (s.2.set p.1 p.2).getD p.1 0=p.2 by simp[hl]]
    omega
   ·rw[show (s.2.set p.1 p.2).getD k 0=s.2.getD k 0 by simp[List.getElem?_set_ne (Ne.symm z)]]
    exact l k hk) Rf.turns ([],d5 W) (Nat.lt_of_le_of_lt hb (by decide)) ⟨zx.start h,fun k hk=>by rw[AA hk];omega⟩
 refine⟨?_,i,h2⟩
 have:Kx G T W (fin G T W)=false:=h1
 unfold Kx at this
 exact Option.isNone_iff_eq_none.mp (by simpa using this)
def j1(G T:List Pl)(W:List Wy):List Int:=bC false G T W (fin G T W).2
theorem jP(h:Wd G T W):Pn G T W (j1 G T W):=by
 obtain⟨h1,i,h2⟩:=mR h
 exact Js h i.off h2 h1
theorem A8(h:Wd G T W):bN [ax G T W]=some (af (j1 G T W)):=td h
end
section
variable {W:List Wy}{G T:List Pl}{P off:List Int}
theorem EO:∀ (xs:List Nat),(∀i∈xs,0<=off.getD i 0)->0<=(xs.map fun i=>off.getD i 0).sum
 | [],_=>by simp
 | i::xs,h=>by
  have:=EO xs fun j hj=>h j (zC _ hj)
  have:=h i zE
  rw[zI,List.sum_cons];omega
theorem BH:∀ (xs:List Nat),(∀i∈xs,0<=P.getD i 0)->(0 < (xs.map fun i=>P.getD i 0).sum↔(xs.any fun i=>decide (0 < P.getD i 0))=true)
 | [],_=>by simp
 | i::xs,h=>by
  have ih:=BH xs fun j hj=>h j (zC _ hj)
  have h0:=EO (off:=P) xs fun j hj=>h j (zC _ hj)
  have hi:=h i zE
  rw[zI,List.sum_cons,List.any_cons,Bool.or_eq_true,zJ,<- ih]
  omega
theorem JO(h:Wd G T W){b:Bool}{k:Nat}(hk:k < W.length) :
  let i:=(bz b (ay W k)).toNat
  let L:=(br b G T i).2
  eU b W i L=(L.take (sd L (cf b (ay W k)))).map (me b W i)++k::(L.drop (sd L (cf b (ay W k))+1)).map (me b W i):=by
 intro i L
 obtain⟨h1,h2,h3⟩:=h.end_pl b hk
 have e:=iF h2
 have hm:cf b (ay W k)∈L:=by
  rw[(h.lik e).mem_iff,<- lu]
  exact zQ.mpr ⟨k,cB.mpr ⟨hk,h3.symm⟩,rfl⟩
 have hlt:sd L (cf b (ay W k)) < L.length:=by
  unfold sd
  exact List.findIdx_lt_length_of_exists ⟨_,hm,by simp⟩
 have hg:L[sd L (cf b (ay W k))]=cf b (ay W k):=by
  have:=List.findIdx_getElem (w:=hlt)
  exact of_decide_eq_true this
 have hx:me b W i (cf b (ay W k))=k:=wJ h.wp (cB.mpr ⟨hk,h3.symm⟩)
 unfold eU
 conv=>lhs;rw[<- List.take_append_drop (sd L (cf b (ay W k))) L,List.drop_eq_getElem_cons hlt,hg,List.map_append,zI,hx]
end
def sm(l:List Nat)(f:Nat->Int):Int:=(l.map f).sum
theorem bM(q:Nat)(l:List Nat)(f:Nat->Int):sm (q::l) f=f q+sm l f:=by simp[sm]
theorem vH(l r:List Nat)(f:Nat->Int):sm (l++r) f=sm l f+sm r f:=by simp[sm]
theorem pM(q:Nat)(f:Nat->Int):sm [q] f=f q:=by simp[sm]
theorem ja:∀ {l:List Nat}{f g:Nat->Int},(∀q∈l,f q=g q)->sm l f=sm l g
 | [],_,_,_=>rfl
 | q::l,f,g,h=>by rw[bM,bM,h q zE,ja fun x hx=>h x (zC _ hx)]
theorem CH:∀ {l:List Nat}{f g:Nat->Int},(∀q∈l,f q<=g q)->sm l f<=sm l g
 | [],_,_,_=>Int.le_refl _
 | q::l,f,g,h=>by
  have h1:=h q zE
  have h2:=CH (l:=l) fun x hx=>h x (zC _ hx)
  rw[bM,bM]
  omega
theorem qD{l:List Nat}{f:Nat->Int}(h:∀q∈l,0<=f q):0<=sm l f:=by
 have:sm l (fun _=>0)=0:=by induction l with
  | nil=>rfl
  | cons q l ih=>rw[bM,ih fun x hx=>h x (zC _ hx)];rfl
 rw[<- this]
 exact CH h
theorem Hz:∀ {l:List Nat}{f g:Nat->Int}{p:Nat},(∀q∈l,f q<=g q)->p∈l->f p < g p->sm l f < sm l g
 | q::l,f,g,p,h,hp,e=>by
  have h1:=h q zE
  have h2:=CH (l:=l) fun x hx=>h x (zC _ hx)
  rw[bM,bM]
  rcases zR.mp hp with z|z
  ·subst z;omega
  ·have:=Hz (l:=l) (fun x hx=>h x (zC _ hx)) z e
   omega
theorem Og{l:List Nat}{f g:Nat->Int}{p:Nat}(h:sm l f<=sm l g)(hp:p∈l)(e:g p < f p):∃q∈l,f q < g q:=by
 refine Classical.byContradiction fun hn=>?_
 have:∀q∈l,g q<=f q:=fun q hq=>by
  refine Classical.byContradiction fun z=>hn ⟨q,hq,by omega⟩
 have:=Hz this hp e
 omega
theorem MU{l:List Nat}{f:Nat->Int}{p:Nat}(h:∀q∈l,0<=f q)(hp:p∈l):f p<=sm l f:=by
 obtain⟨xs,ys,rfl⟩:=List.append_of_mem hp
 rw[vH,bM]
 have h1:=qD (l:=xs) fun q hq=>h q (List.mem_append_left _ hq)
 have h2:=qD (l:=ys) fun q hq=>h q (yF _ (zC _ hq))
 omega
theorem JJ{l r:List Nat}(p:l.Perm r)(f:Nat->Int):sm l f=sm r f:=by
 induction p with
 | nil=>rfl
 | cons x _ ih=>rw[bM,bM,ih]
 | swap x y l=>rw[bM,bM,bM,bM];omega
 | trans _ _ h1 h2=>rw[h1,h2]
def ch(m:Nat->Int):Int->List Nat->Nat->Int
 | _,[],_=>0
 | a,q::r,k=>if k=q then min (m q) a else ch m (a - min (m q) a) r k
theorem bp(m:Nat->Int)(a:Int)(q:Nat)(r:List Nat):ch m a (q::r) q=min (m q) a:=by simp[ch]
theorem bf{m:Nat->Int}{a:Int}{q k:Nat}{r:List Nat}(h:k≠q):ch m a (q::r) k=ch m (a - min (m q) a) r k:=by simp[ch,h]
theorem F8{m:Nat->Int}:∀ {a:Int}{l:List Nat},(∀q∈l,0<=m q)->0<=a->∀k,0<=ch m a l k/\ch m a l k<=a/\(k∈l->ch m a l k<=m k)
 | a,[],_,ha,k=>⟨Int.le_refl _,ha,fun h=>by cases h⟩
 | a,q::r,hm,ha,k=>by
  have h0:=hm q zE
  by_cases e:k=q
  ·subst e
   rw[bp]
   exact⟨by omega,by omega,fun _=>by omega⟩
  ·rw[bf e]
   obtain⟨h1,h2,h3⟩:=F8 (m:=m) (a:=a - min (m q) a) (l:=r) (fun x hx=>hm x (zC _ hx)) (by omega) k
   refine⟨h1,by omega,fun hk=>?_⟩
   rcases zR.mp hk with z|z
   ·exact absurd z e
   ·exact h3 z
theorem CU{m:Nat->Int}:∀ {a a':Int}{l:List Nat}{k:Nat},a<=a'->ch m a l k<=ch m a' l k
 | _,_,[],_,_=>Int.le_refl _
 | a,a',q::r,k,h=>by
  by_cases e:k=q
  ·subst e
   rw[bp,bp]
   omega
  ·rw[bf e,bf e]
   exact CU (by omega)
theorem CW{m m':Nat->Int}:∀ {a:Int}{l:List Nat},l.Nodup->(∀q∈l,ch m a l q<=m' q/\m' q<=m q)->∀k,ch m' a l k=ch m a l k
 | _,[],_,_,_=>rfl
 | a,q::r,hn,h,k=>by
  rw[List.nodup_cons] at hn
  have h0:=h q zE
  rw[bp] at h0
  have e0:min (m' q) a=min (m q) a:=by omega
  by_cases e:k=q
  ·subst e
   rw[bp,bp,e0]
  ·rw[bf e,bf e,e0]
   exact CW hn.2 (fun x hx=>by
    have:=h x (zC _ hx)
    rwa [bf (show x≠q from fun z=>hn.1 (z ▸ hx))] at this) k
theorem rO{m m':Nat->Int}:∀ {a:Int}{l:List Nat},(∀q∈l,m q=m' q)->∀k,ch m a l k=ch m' a l k
 | _,[],_,_=>rfl
 | a,q::r,h,k=>by
  have h0:=h q zE
  by_cases e:k=q
  ·subst e
   rw[bp,bp,h0]
  ·rw[bf e,bf e,h0]
   exact rO (fun x hx=>h x (zC _ hx)) k
def up:List Nat->Nat->List Nat
 | [],_=>[]
 | q::r,k=>if k=q then [q] else q::up r k
theorem gy(q:Nat)(r:List Nat):up (q::r) q=[q]:=by simp[up]
theorem gg{q k:Nat}{r:List Nat}(h:k≠q):up (q::r) k=q::up r k:=by simp[up,h]
theorem fN:∀ {l:List Nat}{k q:Nat},q∈up l k->q∈l
 | [],_,_,h=>by cases h
 | x::l,k,q,h=>by
  by_cases e:k=x
  ·subst e
   rw[gy,yL] at h
   exact h ▸ zE
  ·rw[gg e] at h
   rcases zR.mp h with z|z
   ·exact z ▸ zE
   ·exact zC _ (fN z)
theorem uZ:∀ {l:List Nat}{k:Nat},k∈l->k∈up l k
 | x::l,k,h=>by
  by_cases e:k=x
  ·subst e
   rw[gy]
   exact zE
  ·rw[gg e]
   rcases zR.mp h with z|z
   ·exact absurd z e
   ·exact zC _ (uZ z)
theorem uO:∀ {xs ys:List Nat}{k:Nat},k∉xs->up (xs++k::ys) k=xs++[k]
 | [],ys,k,_=>gy _ _
 | x::xs,ys,k,h=>by
  rw[zR,not_or] at h
  rw[List.cons_append,gg h.1,uO h.2]
  rfl
theorem CQ{l:List Nat}{k:Nat}(hn:l.Nodup)(hk:k∈l):∃ys,l=up l k++ys/\(∀q∈ys,q∉up l k):=by
 obtain⟨xs,ys,rfl⟩:=List.append_of_mem hk
 have hx:k∉xs:=fun z=>by
  rw[List.nodup_append] at hn
  exact hn.2.2 k z k zE rfl
 refine⟨ys,by rw[uO hx];simp,fun q hq hq2=>?_⟩
 rw[uO hx] at hq2
 rw[show xs++k::ys=(xs++[k])++ys by simp,List.nodup_append] at hn
 exact hn.2.2 q hq2 q hq rfl
theorem B7:∀ {l:List Nat}{k q:Nat},l.Nodup->q∈up l k->k∈up l q->k=q
 | [],_,_,_,h,_=>by cases h
 | x::l,k,q,hn,h1,h2=>by
  rw[List.nodup_cons] at hn
  by_cases e:k=x
  ·subst e
   rw[gy,yL] at h1
   exact h1.symm
  ·by_cases e2:q=x
   ·subst e2
    rw[gy,yL] at h2
    exact h2
   ·rw[gg e] at h1
    rw[gg e2] at h2
    rcases zR.mp h1 with z|z
    ·exact absurd z e2
    ·rcases zR.mp h2 with z2|z2
     ·exact absurd z2 e
     ·exact B7 hn.2 z z2
theorem BG{m:Nat->Int}:∀ {a:Int}{l:List Nat}{k:Nat},l.Nodup->k∈l->ch m a l k < m k->sm (up l k) (ch m a l)=a
 | a,q::r,k,hn,hk,h=>by
  rw[List.nodup_cons] at hn
  by_cases e:k=q
  ·subst e
   rw[bp] at h
   rw[gy,pM,bp]
   omega
  ·rw[bf e] at h
   have hk':k∈r:=by
    rcases zR.mp hk with z|z
    ·exact absurd z e
    ·exact z
   have ih:=BG hn.2 hk' h
   rw[gg e,bM,bp,ja (g:=ch m (a - min (m q) a) r) fun x hx=>bf fun z=>hn.1 (z ▸ fN hx),ih]
   omega
theorem HA{m:Nat->Int}:∀ {a:Int}{l:List Nat}{k q:Nat},l.Nodup->(∀x∈l,0<=m x)->0<=a->0 < ch m a l k->q∈up l k->q≠k->ch m a l q=m q
 | a,[],_,_,_,_,_,_,h,_=>by cases h
 | a,x::r,k,q,hn,hm,ha,h,hq,hne=>by
  rw[List.nodup_cons] at hn
  have h0:=hm x zE
  have hr:∀y∈r,0<=m y:=fun y hy=>hm y (zC _ hy)
  by_cases e:k=x
  ·subst e
   rw[gy,yL] at hq
   exact absurd hq hne
  ·rw[bf e] at h
   rw[gg e] at hq
   rcases zR.mp hq with z|z
   ·subst z
    rw[bp]
    have:=(F8 (m:=m) (a:=a - min (m q) a) hr (by omega) k).2.1
    omega
   ·have hqx:q≠x:=fun w=>hn.1 (w ▸ fN z)
    rw[bf hqx]
    exact HA hn.2 hr (by omega) h z hne
theorem KB{m:Nat->Int}:∀ {a:Int}{l:List Nat}{k:Nat},l.Nodup->(∀x∈l,0<=m x)->0<=a->k∈l->sm (up l k) (ch m a l)=min a (sm (up l k) m)
 | a,q::r,k,hn,hm,ha,hk=>by
  rw[List.nodup_cons] at hn
  have h0:=hm q zE
  have hr:∀y∈r,0<=m y:=fun y hy=>hm y (zC _ hy)
  by_cases e:k=q
  ·subst e
   rw[gy,pM,pM,bp]
   omega
  ·have hk':k∈r:=by
    rcases zR.mp hk with z|z
    ·exact absurd z e
    ·exact z
   have ih:=KB (m:=m) (a:=a - min (m q) a) hn.2 hr (by omega) hk'
   have hs:=qD (l:=up r k) fun y hy=>hr y (fN hy)
   rw[gg e,bM,bM,bp,ja (g:=ch m (a - min (m q) a) r) fun x hx=>bf fun z=>hn.1 (z ▸ fN hx),ih]
   omega
theorem Fv{m m':Nat->Int}{p:Nat}:∀ {a:Int}{l:List Nat},l.Nodup->(∀x∈l,x≠p->m' x=m x)->m' p<=ch m a l p->(∀k∈l,k≠p->ch m a l k<=ch m' a l k)/\(p∈l->ch m' a l p=m' p)
 | _,[],_,_,_=>⟨fun _ h=>absurd h yG,fun h=>absurd h yG⟩
 | a,q::r,hn,h,hp=>by
  rw[List.nodup_cons] at hn
  by_cases e:q=p
  ·subst e
   rw[bp] at hp
   have hs:∀x∈r,m' x=m x:=fun x hx=>h x (zC _ hx) fun z=>hn.1 (z ▸ hx)
   refine⟨fun k hk hne=>?_,fun _=>?_⟩
   ·rw[bf hne,bf hne,rO (m:=m') (m':=m) hs]
    exact CU (by omega)
   ·rw[bp];omega
  ·have hq:=h q zE e
   rw[bf (Ne.symm e)] at hp
   obtain⟨i1,i2⟩:=Fv (m:=m) (m':=m') (p:=p) (a:=a - min (m q) a) hn.2 (fun x hx=>h x (zC _ hx)) hp
   refine⟨fun k hk hne=>?_,fun hk=>?_⟩
   ·by_cases e2:k=q
    ·subst e2
     rw[bp,bp,hq]
     exact Int.le_refl _
    ·rw[bf e2,bf e2,hq]
     rcases zR.mp hk with z|z
     ·exact absurd z e2
     ·exact i1 k z hne
   ·rw[bf (Ne.symm e),hq]
    rcases zR.mp hk with z|z
    ·exact absurd z.symm e
    ·exact i2 z
theorem Kv{m X:Nat->Int}:∀ {a:Int}{l:List Nat},l.Nodup->(∀q∈l,0<=X q/\X q<=m q)->sm l X<=a->(∀k∈l,X k=m k\/sm (up l k) X=a)->∀k∈l,ch m a l k=X k
 | _,[],_,_,_,_,_,h=>by cases h
 | a,q::r,hn,hX,hs,h,k,hk=>by
  rw[List.nodup_cons] at hn
  have h0:=hX q zE
  have hr:∀y∈r,0<=X y/\X y<=m y:=fun y hy=>hX y (zC _ hy)
  have hnn:=qD (l:=r) fun y hy=>(hr y hy).1
  rw[bM] at hs
  have e0:min (m q) a=X q:=by
   rcases h q zE with z|z
   ·omega
   ·rw[gy,pM] at z
    omega
  by_cases e:k=q
  ·subst e
   rw[bp,e0]
  ·rw[bf e,e0]
   rcases zR.mp hk with z|z
   ·exact absurd z e
   ·refine Kv hn.2 hr (by omega) (fun j hj=>?_) k z
    have hjq:j≠q:=fun w=>hn.1 (w ▸ hj)
    rcases h j (zC _ hj) with w|w
    ·exact .inl w
    ·rw[gg hjq,bM] at w
     exact .inr (by omega)
def cP(b:Bool)(W:List Wy)(k:Nat):Nat:=(bz b (ay W k)).toNat
def lst(b:Bool)(G T:List Pl)(W:List Wy)(i:Nat):List Nat:=eU b W i (br b G T i).2
def amt(b:Bool)(G T:List Pl)(i:Nat):Int:=(br b G T i).1
def mm(W:List Wy)(off:List Int)(q:Nat):Int:=min (off.getD q 0) (ay W q).2.2
def vl(P:List Int)(q:Nat):Int:=P.getD q 0
section
variable {G T:List Pl}{W:List Wy}{P X c off:List Int}{b:Bool}{i k q:Nat}
theorem dq(h:Wd G T W)(b:Bool)(hk:k < W.length):cP b W k < (aD b G T).length:=(h.end_pl b hk).2.1
theorem i3(h:Wd G T W)(hi:i < (aD b G T).length):(lst b G T W i).Perm (own b W i):=fF h (iF hi)
theorem bS(h:Wd G T W)(hi:i < (aD b G T).length):(lst b G T W i).Nodup:=(i3 h hi).nodup_iff.mpr (List.nodup_range.filter _)
theorem ft(h:Wd G T W)(hi:i < (aD b G T).length):q∈lst b G T W i↔q < W.length/\cP b W q=i:=by
 rw[(i3 h hi).mem_iff,cB]
 constructor
 ·rintro⟨h1,h2⟩
  exact⟨h1,by unfold cP;rw[h2];simp⟩
 ·rintro⟨h1,h2⟩
  have:=(h.end_pl b h1).2.2
  unfold cP at h2
  rw[h2] at this
  exact⟨h1,this.symm⟩
theorem cL(h:Wd G T W)(b:Bool)(hk:k < W.length):k∈lst b G T W (cP b W k):=(ft h (dq h b hk)).mpr ⟨hk,rfl⟩
theorem Gr(h:Wd G T W)(ho:Off off)(q:Nat):0<=mm W off q:=by
 have h1:=ho q
 have h2:=h.lim q
 unfold mm
 omega
theorem Hg:∀ (is:List Nat) (a:Int) (l:List Int),is.Nodup->(∀i∈is,i < l.length)->∀k,(is.foldl (mw W off) (a,l)).2.getD k 0=if k∈is then ch (mm W off) a is k else l.getD k 0
 | [],a,l,_,_,k=>by simp
 | q::is,a,l,hn,hl,k=>by
  rw[List.nodup_cons] at hn
  have ih:=Hg is (a - cV W off a q) (l.set q (cV W off a q)) hn.2 (fun i hi=>by rw[yD];exact hl i (zC _ hi)) k
  rw[yK]
  show (is.foldl (mw W off) (a - cV W off a q,l.set q (cV W off a q))).2.getD k 0=_
  rw[ih]
  have hq:=hl q zE
  by_cases e:k=q
  ·subst e
   rw[if_neg hn.1,if_pos zE,bp,cN,if_pos ⟨rfl,hq⟩]
   rfl
  ·rw[bf e]
   by_cases hk:k∈is
   ·rw[if_pos hk,if_pos (zC _ hk)]
    rfl
   ·rw[if_neg hk,if_neg (by rw[zR,not_or];exact⟨e,hk⟩),cN,if_neg (fun z=>e z.1.symm)]
theorem fV(h:Wd G T W)(b:Bool)(off:List Int)(hk:k < W.length):(bC b G T W off).getD k 0=ch (mm W off) (amt b G T (cP b W k)) (lst b G T W (cP b W k)) k:=by
 have hi:=dq h b hk
 rw[GW h b hk]
 show (rZ W off (amt b G T (cP b W k)) (lst b G T W (cP b W k))).getD k 0=_
 unfold rZ
 rw[Hg _ _ _ (bS h hi) (fun j hj=>by rw[List.length_replicate];exact ((ft h hi).mp hj).1),if_pos (cL h b hk)]
theorem A6(h:Wd G T W)(b:Bool)(i:Nat):0<=amt b G T i:=h.amt b i
theorem Bw(h:Wd G T W)(hi:i < (aD b G T).length):j5 b W P i=sm (lst b G T W i) (vl P):=by
 unfold j5
 rw[JJ (i3 h hi)]
 rfl
def Fl(b:Bool)(G T:List Pl)(W:List Wy)(P:List Int)(k:Nat):Prop:=sm (up (lst b G T W (cP b W k)) k) (vl P)=amt b G T (cP b W k)
def Rs(G T:List Pl)(W:List Wy)(P:List Int):Prop:=∀k,k < W.length->P.getD k 0=(ay W k).2.2\/Fl false G T W P k\/Fl true G T W P k
theorem Pn.nn(p:Pn G T W P)(q:Nat):0<=vl P q:=by
 by_cases hq:q < W.length
 ·exact (p.bd q hq).1
 ·unfold vl
  rw[gL (by rw[p.len];omega)]
  omega
theorem Pn.le_sm(h:Wd G T W)(p:Pn G T W P)(hi:i < (aD b G T).length):sm (lst b G T W i) (vl P)<=amt b G T i:=by
 rw[<- Bw h hi]
 exact p.am b i hi
theorem BF(h:Wd G T W)(p:Pn G T W P)(b:Bool)(hk:k < W.length):uX b G T W P k=false↔Fl b G T W P k:=by
 obtain⟨z1,z2,z3⟩:=h.end_pl b hk
 have hc:lst b G T W (cP b W k)=((br b G T (cP b W k)).2.take (sd (br b G T (cP b W k)).2 (cf b (ay W k)))).map (me b W (cP b W k))++k::((br b G T (cP b W k)).2.drop (sd (br b G T (cP b W k)).2 (cf b (ay W k))+1)).map (me b W (cP b W k)):=JO h hk
 have hn:=bS (b:=b) h z2
 change (lst b G T W (cP b W k)).Nodup at hn
 have hle:=p.le_sm h z2
 change sm (lst b G T W (cP b W k)) (vl P)<=amt b G T (cP b W k) at hle
 have hth:=Bw (P:=P) h z2
 have hy:uX b G T W P k=(decide (j5 b W P ((cP b W k:Nat):Int) < amt b G T (cP b W k))||(((br b G T (cP b W k)).2.drop (sd (br b G T (cP b W k)).2 (cf b (ay W k))+1)).map (me b W (cP b W k))).any fun q=>decide (0 < vl P q)):=by
  unfold uX
  rw[List.any_map]
  unfold cP amt
  rw[z3]
  rfl
 change j5 b W P ((cP b W k:Nat):Int)=sm (lst b G T W (cP b W k)) (vl P) at hth
 unfold Fl
 rw[hy,hth]
 revert hc
 generalize ((br b G T (cP b W k)).2.take (sd (br b G T (cP b W k)).2 (cf b (ay W k)))).map (me b W (cP b W k))=xs
 generalize ((br b G T (cP b W k)).2.drop (sd (br b G T (cP b W k)).2 (cf b (ay W k))+1)).map (me b W (cP b W k))=ys
 intro hc
 have hx:k∉xs:=fun z=>by
  rw[hc,List.nodup_append] at hn
  exact hn.2.2 k z k zE rfl
 rw[hc,uO hx]
 rw[hc] at hle
 have e:sm (xs++k::ys) (vl P)=sm (xs++[k]) (vl P)+sm ys (vl P):=by
  rw[<- vH]
  simp
 have hnn:=qD (l:=ys) fun q _=>p.nn q
 have hpos:=BH (P:=P) ys fun q _=>p.nn q
 change (0 < sm ys (vl P)↔(ys.any fun q=>decide (0 < vl P q))=true) at hpos
 rw[e] at hle ⊢
 rw[Bool.or_eq_false_iff,decide_eq_false_iff_not]
 constructor
 ·rintro⟨h1,h2⟩
  have:¬ 0 < sm ys (vl P):=fun z=>by rw[hpos.mp z] at h2;cases h2
  omega
 ·intro h1
  refine⟨by omega,?_⟩
  cases hh:(ys.any fun q=>decide (0 < vl P q)) with
  | false=>rfl
  | true=>have:=hpos.mpr hh;omega
theorem m6(h:Wd G T W)(p:Pn G T W P):BY G T W P=[]↔Rs G T W P:=by
 unfold BY
 rw[List.filter_eq_nil_iff]
 constructor
 ·intro hh k hk
  have:=hh k (by simpa using hk)
  rw[zJ] at this
  unfold lM at this
  by_cases e1:P.getD k 0=(ay W k).2.2
  ·exact .inl e1
  ·rw[if_neg e1] at this
   by_cases e2:uX false G T W P k=false
   ·exact .inr (.inl ((BF h p false hk).mp e2))
   ·rw[if_neg e2] at this
    by_cases e3:uX true G T W P k=false
    ·exact .inr (.inr ((BF h p true hk).mp e3))
    ·rw[if_neg e3] at this
     exact absurd rfl this
 ·intro hh k hk
  rw[zJ]
  unfold lM
  rcases hh k (by simpa using hk) with e|e|e
  ·rw[if_pos e];omega
  ·rw[if_pos ((BF h p false (by simpa using hk)).mpr e)]
   split<;>omega
  ·rw[if_pos ((BF h p true (by simpa using hk)).mpr e)]
   split
   ·omega
   ·split<;>omega
theorem vU(e:rW G T W c=some (k,q')):k < W.length/\q'=(jW G T W c).getD k 0/\(jW G T W c).getD k 0 < (bC false G T W c).getD k 0:=by
 unfold rW at e
 obtain⟨j,hj,e2⟩:=Dl.ag e
 cases e2
 have hm:=List.mem_of_find?_eq_some hj
 have hq:=List.find?_some hj
 rw[qR,zJ] at hq
 exact⟨zT.mp hm,rfl,hq⟩
theorem JR(e:rW G T W c=none)(hk:k < W.length):(bC false G T W c).getD k 0<=(jW G T W c).getD k 0:=by
 unfold rW at e
 rw[Option.map_eq_none_iff] at e
 have:=List.find?_eq_none.mp e k (by simpa using hk)
 rw[qR,zJ] at this
 omega
end
section
variable {G T:List Pl}{W:List Wy}{P X c off:List Int}{b:Bool}{i k q:Nat}
theorem l7(h:Wd G T W)(hk:k < W.length)(hq:q∈lst b G T W (cP b W k)):q < W.length/\cP b W q=cP b W k:=(ft h (dq h b hk)).mp hq
theorem ox(h:Wd G T W)(hi:i < (aD b G T).length)(hq:q∈lst b G T W i):vl (bC b G T W off) q=ch (mm W off) (amt b G T i) (lst b G T W i) q:=by
 obtain⟨h1,h2⟩:=(ft h hi).mp hq
 have:=fV h b off h1
 rw[h2] at this
 exact this
theorem Gz(h:Wd G T W)(ho:Off off)(b:Bool)(hk:k < W.length):sm (up (lst b G T W (cP b W k)) k) (vl (bC b G T W off))=min (amt b G T (cP b W k)) (sm (up (lst b G T W (cP b W k)) k) (mm W off)):=by
 have hi:=dq h b hk
 rw[ja fun q hq=>ox h hi (fN hq)]
 exact KB (bS h hi) (fun q _=>Gr h ho q) (A6 h b _) (cL h b hk)
theorem qr(h:Wd G T W)(b:Bool)(hk:k < W.length)(e:(bC b G T W off).getD k 0 < mm W off k):Fl b G T W (bC b G T W off) k:=by
 have hi:=dq h b hk
 rw[fV h b off hk] at e
 unfold Fl
 rw[ja fun q hq=>ox h hi (fN hq)]
 exact BG (bS h hi) (cL h b hk) e
theorem Jp(h:Wd G T W)(ho:Off off)(hk:k < W.length)(e:0 < (bC b G T W off).getD k 0)(hq:q∈up (lst b G T W (cP b W k)) k)(hne:q≠k):(bC b G T W off).getD q 0=mm W off q:=by
 have hi:=dq h b hk
 rw[fV h b off hk] at e
 have:=ox (off:=off) h hi (fN hq)
 unfold vl at this
 rw[this]
 exact HA (bS h hi) (fun q _=>Gr h ho q) (A6 h b _) e hq hne
theorem Bg(h:Wd G T W)(ho:Off off)(b:Bool)(hk:k < W.length):0<=(bC b G T W off).getD k 0/\(bC b G T W off).getD k 0<=mm W off k:=by
 have hi:=dq h b hk
 rw[fV h b off hk]
 have:=F8 (m:=mm W off) (a:=amt b G T (cP b W k)) (l:=lst b G T W (cP b W k)) (fun q _=>Gr h ho q) (A6 h b _) k
 exact⟨this.1,this.2.2 (cL h b hk)⟩
theorem Ob(h:Wd G T W)(p:Pn G T W X)(b:Bool)(hk:k < W.length):sm (up (lst b G T W (cP b W k)) k) (vl X)<=amt b G T (cP b W k):=by
 have hi:=dq h b hk
 have:=p.le_sm h hi
 obtain⟨ys,e,_⟩:=CQ (bS h hi) (cL h b hk)
 rw[e,vH] at this
 have hn:=qD (l:=ys) fun q _=>p.nn q
 omega
theorem Ae(h:Wd G T W)(p:Pn G T W X)(hq:q < W.length)(f:Fl b G T W X q)(hk:k∈lst b G T W (cP b W q))(hn:k∉up (lst b G T W (cP b W q)) q):X.getD k 0=0:=by
 have hi:=dq h b hq
 have hle:=p.le_sm h hi
 obtain⟨ys,e,_⟩:=CQ (bS h hi) (cL h b hq)
 have hy:k∈ys:=by
  rw[e] at hk
  rcases List.mem_append.mp hk with z|z
  ·exact absurd z hn
  ·exact z
 rw[e,vH] at hle
 unfold Fl at f
 have:=MU (l:=ys) (fun q _=>p.nn q) hy
 have h0:=p.nn k
 unfold vl at this h0
 have:sm ys (vl X)=sm ys fun q=>X.getD q 0:=rfl
 omega
theorem xH(h:Wd G T W)(p:Pn G T W X)(ho:Off c)(hc:∀k,k < W.length->X.getD k 0<=c.getD k 0)(hq:q < W.length)(e:X.getD q 0 < (bC false G T W c).getD q 0):¬ Fl false G T W X q:=fun f=>by
 have hi:=dq h false hq
 have hpos:0 < (bC false G T W c).getD q 0:=by have:=p.nn q;unfold vl at this;omega
 have hlt:sm (up (lst false G T W (cP false W q)) q) (vl X) < sm (up (lst false G T W (cP false W q)) q) (vl (bC false G T W c)):=by
  refine Hz (p:=q) (fun r hr=>?_) (uZ (cL h false hq)) e
  by_cases z:r=q
  ·subst z;exact Int.le_of_lt e
  ·have hr':=(l7 h hq (fN hr)).1
   unfold vl
   rw[Jp h ho hq hpos hr z]
   have h1:=hc r hr'
   have h2:=(p.bd r hr').2
   unfold mm
   omega
 have h2:=Gz h ho false hq
 unfold Fl at f
 omega
end
section
variable {G T:List Pl}{W:List Wy}{P X c off:List Int}{b:Bool}{i k q:Nat}{v:Int}
theorem m5(h:Wd G T W)(ho:Off c)(hk:k < W.length):0<=(jW G T W c).getD k 0/\(jW G T W c).getD k 0<=(bC false G T W c).getD k 0/\(bC false G T W c).getD k 0<=c.getD k 0/\(bC false G T W c).getD k 0<=(ay W k).2.2/\mm W (bC false G T W c) k=(bC false G T W c).getD k 0:=by
 have h1:=Bg h ho false hk
 have h2:=Bg h (jN h ho false) true hk
 change 0<=(jW G T W c).getD k 0/\(jW G T W c).getD k 0<=_ at h2
 unfold mm at h1 h2 ⊢
 omega
theorem Gh(h:Wd G T W)(p:Pn G T W X)(r:Rs G T W X)(ho:Off c)(hc:∀k,k < W.length->X.getD k 0<=c.getD k 0)(e:rW G T W c=some (k,v)):X.getD k 0<=v:=by
 obtain⟨hk,rfl,hlt⟩:=vU e
 refine Classical.byContradiction fun hn=>?_
 have hn:(jW G T W c).getD k 0 < X.getD k 0:=by omega
 obtain⟨b0,b1,b2,b3,b4⟩:=m5 h ho hk
 have ff:Fl true G T W (jW G T W c) k:=qr h true hk (by rw[b4];exact hlt)
 have hle:=Ob h p true hk
 unfold Fl at ff
 obtain⟨q,hq,hqx⟩:=Og (f:=vl X) (g:=vl (jW G T W c)) (l:=up (lst true G T W (cP true W k)) k) (p:=k) (by omega) (uZ (cL h true hk)) hn
 obtain⟨hq1,hq2⟩:=l7 h hk (fN hq)
 unfold vl at hqx
 have hne:q≠k:=fun z=>by subst z;omega
 obtain⟨d0,d1,d2,d3,d4⟩:=m5 h ho hq1
 have hxq:=(p.bd q hq1).1
 rcases r q hq1 with z|z|z
 ·omega
 ·exact xH h p ho hc hq1 (by omega) z
 ·have hn2:k∉up (lst true G T W (cP true W q)) q:=fun w=>by
   rw[hq2] at w
   exact hne (B7 (bS h (dq h true hk)) hq w).symm
  have:=Ae h p hq1 z (by rw[hq2];exact cL h true hk) hn2
  omega
theorem CY(h:Wd G T W)(p:Pn G T W X)(r:Rs G T W X)(hk:k < W.length):X.getD k 0<=(fin G T W).2.getD k 0:=by
 have hb:=h.mea
 obtain⟨_,_,h2⟩:=p7 (Kx G T W) (spS G T W) (fun s=>mea s.2) (fun s=>zx W s/\∀k,k < W.length->X.getD k 0<=s.2.getD k 0)
  (fun s ⟨i,l⟩ hc=>by
   obtain⟨⟨k,v⟩,e⟩:=mU hc
   obtain⟨i2,hm⟩:=i.step h e
   have hx:=Gh h p r i.off l e
   refine⟨⟨i2,fun j hj=>?_⟩,hm⟩
   rw[qV e]
   show _<=(s.2.set k v).getD j 0
   rw[cN]
   split
   ·rename_i z
    rw[<- z.1]
    exact hx
   ·exact l j hj) Rf.turns ([],d5 W) (Nat.lt_of_le_of_lt hb (by decide)) ⟨zx.start h,fun k hk=>by rw[AA hk];exact (p.bd k hk).2⟩
 exact h2 k hk
def Jn(G T:List Pl)(W:List Wy)(c:List Int):Prop:=∀k,k < W.length->c.getD k 0 < (ay W k).2.2->Fl true G T W (jW G T W c) k
theorem MA(h:Wd G T W)(ho:Off c)(hl:c.length=W.length)(e:rW G T W c=some (k,v))(hq:q < W.length):(jW G T W c).getD q 0<=(bC false G T W (c.set k v)).getD q 0:=by
 obtain⟨hk,rfl,hlt⟩:=vU e
 obtain⟨b0,b1,b2,b3,b4⟩:=m5 h ho hk
 obtain⟨d0,d1,d2,d3,d4⟩:=m5 h ho hq
 have hi:=dq h false hq
 have hm:∀x,x≠k->mm W (c.set k ((jW G T W c).getD k 0)) x=mm W c x:=fun x hx=>by
  unfold mm
  rw[cN,if_neg (fun z=>hx z.1.symm)]
 have hmk:mm W (c.set k ((jW G T W c).getD k 0)) k=(jW G T W c).getD k 0:=by
  unfold mm
  rw[cN,if_pos ⟨rfl,by rw[hl];exact hk⟩]
  omega
 rw[fV h false _ hq]
 by_cases z:cP false W q=cP false W k
 ·have hkL:k∈lst false G T W (cP false W q):=by rw[z];exact cL h false hk
  have hA:vl (bC false G T W c) k=ch (mm W c) (amt false G T (cP false W q)) (lst false G T W (cP false W q)) k:=ox h hi hkL
  unfold vl at hA
  obtain⟨l1,l2⟩:=Fv (m:=mm W c) (m':=mm W (c.set k ((jW G T W c).getD k 0))) (p:=k) (a:=amt false G T (cP false W q)) (l:=lst false G T W (cP false W q)) (bS h hi) (fun x _ hx=>hm x hx) (by rw[hmk,<- hA];exact b1)
  by_cases y:q=k
  ·subst y
   rw[l2 hkL,hmk]
   exact Int.le_refl _
  ·have:=l1 q (cL h false hq) y
   rw[<- fV h false c hq] at this
   omega
 ·rw[rO (m:=mm W (c.set k ((jW G T W c).getD k 0))) (m':=mm W c) fun x hx=>hm x fun w=>by
   subst w
   exact z ((ft h hi).mp hx).2.symm]
  rw[<- fV h false c hq]
  exact d1
theorem Jn.step(h:Wd G T W)(ho:Off c)(hl:c.length=W.length)(j:Jn G T W c)(e:rW G T W c=some (k,v)):Jn G T W (c.set k v):=fun q hq hlim=>by
 have ho':Off (c.set k v):=CL ho (Cm h ho e).2.1
 have fq:Fl true G T W (jW G T W c) q:=by
  obtain⟨hk,rfl,hlt⟩:=vU e
  by_cases z:q=k
  ·subst z
   exact qr h true hq (by rw[(m5 h ho hq).2.2.2.2];exact hlt)
  ·rw[cN,if_neg (fun w=>z w.1.symm)] at hlim
   exact j q hq hlim
 have hu:=Gz h (jN h ho' false) true hq
 change sm _ (vl (jW G T W (c.set k v)))=_ at hu
 unfold Fl at fq ⊢
 have hs:sm (up (lst true G T W (cP true W q)) q) (vl (jW G T W c))<=sm (up (lst true G T W (cP true W q)) q) (mm W (bC false G T W (c.set k v))):=CH fun x hx=>by
  have hx':=(l7 h hq (fN hx)).1
  have h1:=MA h ho hl e hx'
  have h2:=m5 h ho hx'
  unfold vl mm
  omega
 rw[hu]
 omega
theorem Oh(h:Wd G T W):Jn G T W (fin G T W).2:=by
 have hb:=h.mea
 obtain⟨_,_,h2⟩:=p7 (Kx G T W) (spS G T W) (fun s=>mea s.2) (fun s=>zx W s/\Jn G T W s.2)
  (fun s ⟨i,j⟩ hc=>by
   obtain⟨⟨k,v⟩,e⟩:=mU hc
   obtain⟨i2,hm⟩:=i.step h e
   refine⟨⟨i2,?_⟩,hm⟩
   rw[qV e]
   exact j.step h i.off i.len e) Rf.turns ([],d5 W) (Nat.lt_of_le_of_lt hb (by decide)) ⟨zx.start h,fun k hk hl=>by rw[AA hk] at hl;omega⟩
 exact h2
theorem GL(h:Wd G T W):Rs G T W (j1 G T W):=fun k hk=>by
 obtain⟨hnone,i,hlim⟩:=mR h
 have j:=Oh h
 have heq:∀q,q < W.length->(j1 G T W).getD q 0=(jW G T W (fin G T W).2).getD q 0:=fun q hq=>by
  have h1:=JR hnone hq
  have h2:=(m5 h i.off hq).2.1
  unfold j1
  omega
 obtain⟨d0,d1,d2,d3,d4⟩:=m5 h i.off hk
 by_cases e:(j1 G T W).getD k 0=(ay W k).2.2
 ·exact .inl e
 ·by_cases e2:(j1 G T W).getD k 0 < mm W (fin G T W).2 k
  ·exact .inr (.inl (qr h false hk e2))
  ·have h3:=(Bg h i.off false hk).2
   have:(fin G T W).2.getD k 0 < (ay W k).2.2:=by
    unfold j1 at e e2
    unfold mm at e2 h3
    omega
   have f:=j k hk this
   refine .inr (.inr ?_)
   unfold Fl at f ⊢
   rw[<- f]
   exact ja fun q hq=>heq q (l7 h hk (fN hq)).1
theorem Jm(h:Wd G T W)(hk:k < W.length):(j1 G T W).getD k 0<=(fin G T W).2.getD k 0:=(m5 h (mR h).2.1.off hk).2.2.1
def mx(P X:List Int):List Int:=List.zipWith max P X
theorem xD(hp:P.length=X.length)(q:Nat)(hn:0<=P.getD q 0\/q < P.length):(mx P X).getD q 0=max (P.getD q 0) (X.getD q 0):=by
 unfold mx
 by_cases hq:q < P.length
 ·rw[zG,List.getElem?_zipWith,zK hq,zK (by omega)]
  simp[hq,show q < X.length by omega]
 ·rw[gL (by simp;omega),gL (by omega),gL (by omega)]
  rfl
theorem kJ(hp:P.length=X.length):(mx P X).length=P.length:=by unfold mx;simp;omega
theorem Ck(p:Pn G T W P)(x:Pn G T W X)(hq:q < W.length):mm W (mx P X) q=max (P.getD q 0) (X.getD q 0):=by
 unfold mm
 rw[xD (by rw[p.len,x.len]) q (.inl (p.nn q))]
 have h1:=(p.bd q hq).2
 have h2:=(x.bd q hq).2
 omega
theorem tX(h:Wd G T W)(x:Pn G T W X)(r:Rs G T W X)(hk:k < W.length):(bC false G T W (mx (j1 G T W) X)).getD k 0=(j1 G T W).getD k 0:=by
 have p:=jP h
 obtain⟨_,i,_⟩:=mR h
 have hi:=dq h false hk
 rw[fV h false _ hk,show (j1 G T W).getD k 0=ch (mm W (fin G T W).2) (amt false G T (cP false W k)) (lst false G T W (cP false W k)) k from fV h false _ hk]
 refine CW (bS h hi) (fun q hq=>?_) k
 have hq':=(l7 h hk hq).1
 have hA:vl (bC false G T W (fin G T W).2) q=ch (mm W (fin G T W).2) (amt false G T (cP false W k)) (lst false G T W (cP false W k)) q:=ox h hi hq
 rw[<- hA,Ck p x hq']
 have h1:=Jm h hq'
 have h2:=CY h x r hq'
 have h3:=(p.bd q hq').2
 have h4:=(x.bd q hq').2
 change (j1 G T W).getD q 0<=_/\_
 unfold mm
 omega
theorem ub(h:Wd G T W)(x:Pn G T W X)(r:Rs G T W X)(hk:k < W.length):(bC true G T W (mx (j1 G T W) X)).getD k 0=X.getD k 0:=by
 have p:=jP h
 obtain⟨_,i,_⟩:=mR h
 have hi:=dq h true hk
 rw[fV h true _ hk]
 refine Kv (X:=vl X) (bS h hi) (fun q hq=>?_) (x.le_sm h hi) (fun q hq=>?_) k (cL h true hk)
 ·have hq':=(l7 h hk hq).1
  rw[Ck p x hq']
  have:=(x.bd q hq').1
  unfold vl
  omega
 ·obtain⟨hq',hpl⟩:=l7 h hk hq
  rw[Ck p x hq']
  by_cases e:X.getD q 0 < (j1 G T W).getD q 0
  ·refine .inr ?_
   rcases r q hq' with z|z|z
   ·have:=(p.bd q hq').2
    omega
   ·exact absurd z (xH h x i.off (fun k hk=>CY h x r hk) hq' e)
   ·unfold Fl at z
    rwa [hpl] at z
  ·refine .inl ?_
   unfold vl
   omega
end
theorem Ho{m m':Nat->Int}{f:Nat->Nat}:∀ {a:Int}{l:List Nat}{k:Nat},(∀q∈l,m' q=m (f q))->(∀q∈l,f q=f k->q=k)->ch m' a l k=ch m a (l.map f) (f k)
 | _,[],_,_,_=>rfl
 | a,q::l,k,h,hi=>by
  have h0:=h q zE
  rw[zI]
  by_cases e:k=q
  ·subst e
   rw[bp,bp,h0]
  ·have e2:f k≠f q:=fun z=>e (hi q zE z.symm).symm
   rw[bf e,bf e2,h0]
   exact Ho (fun x hx=>h x (zC _ hx)) fun x hx=>hi x (zC _ hx)
section
variable {G T:List Pl}{W:List Wy}{P X c off:List Int}{b:Bool}{i k q:Nat}{π:List Nat}
theorem Ly(o:Ord W π)(b:Bool)(hk:k < W.length):cP (!b) (eG W π) k=cP b W (π.getD k 0):=by
 unfold cP
 rw[fW o hk,p6]
theorem MQ(h:Wd G T W)(o:Ord W π)(hi:i < (aD b G T).length):(lst (!b) T G (eG W π) i).map (fun k=>π.getD k 0)=lst b G T W i:=by
 unfold lst eU
 rw[vh,zM]
 exact yJ fun x hx=>(GT h o (iF hi) hx).2
theorem Md(o:Ord W π){j:Nat}(hk:k < W.length)(hj:j < W.length)(e:π.getD k 0=π.getD j 0):k=j:=by
 have hn:π.Nodup:=o.perm.nodup_iff.mpr List.nodup_range
 have hl:=o.len
 have h1:π[k]?=some (π.getD k 0):=by simp[show k < π.length by omega]
 have h2:π[j]?=some (π.getD j 0):=by simp[show j < π.length by omega]
 rw[<- e] at h2
 exact (List.getElem?_inj (by omega) hn).mp (h1.trans h2.symm)
theorem L6(h:Wd G T W)(o:Ord W π)(b:Bool)(hl:off.length=W.length)(hk:k < W.length):(bC (!b) T G (eG W π) (lN off π)).getD k 0=(bC b G T W off).getD (π.getD k 0) 0:=by
 have h':=o.wd h
 have hk':k < (eG W π).length:=by rw[cD o];exact hk
 have hp:=o.lt hk
 have hi:=dq h b hp
 rw[fV h' (!b) _ hk',fV h b _ hp,Ly o b hk]
 have hi':cP b W (π.getD k 0) < (aD (!b) T G).length:=by rw[pP];exact hi
 rw[<- MQ h o hi,show amt (!b) T G (cP b W (π.getD k 0))=amt b G T (cP b W (π.getD k 0)) by unfold amt;rw[vh]]
 refine Ho (f:=fun k=>π.getD k 0) (fun q hq=>?_) fun q hq e=>?_
 ·have hq':=((ft h' hi').mp hq).1
  rw[cD o] at hq'
  unfold mm
  rw[l5 o hq',fW o hq']
  rfl
 ·have hq':=((ft h' hi').mp hq).1
  rw[cD o] at hq'
  exact Md o hq' hk e
theorem NL(o:Ord W π)(hp:P.length=W.length)(hx:X.length=W.length):mx (lN P π) (lN X π)=lN (mx P X) π:=by
 unfold lN
 unfold mx
 rw[List.zipWith_map,List.zipWith_self]
 refine yJ fun i hi=>?_
 have:=xD (P:=P) (X:=X) (by omega) i (.inr (by
  have:=o.perm.mem_iff.mp hi
  rw[zT] at this
  omega))
 exact this.symm
theorem mV{P X:List Int}(h:P.length=X.length)(e:∀k,k < P.length->P.getD k 0=X.getD k 0):P=X:=by
 apply List.ext_getElem h
 intro k h1 h2
 have:=e k h1
 simpa [h1,h2] using this
theorem Rs.tu(h:Wd G T W)(o:Ord W π)(p:Pn G T W P)(r:Rs G T W P):Rs T G (eG W π) (lN P π):=(m6 (o.wd h) (p.tu h o)).mp ((Lu h o).mpr ((m6 h p).mpr r))
def gn(G T:List Pl)(W:List Wy):List Int:=lN (j1 T G (eG W (bR W))) (bR (eG W (bR W)))
theorem Cv(h:Wd G T W):lN (gn G T W) (bR W)=j1 T G (eG W (bR W)):=by
 have o:=dG h.wp
 have h':=o.wd h
 have o':=dG h'.wp
 have o2:Ord (eG (eG W (bR W)) (bR (eG W (bR W)))) (bR W):=by rw[vY h.wp o o'];exact o
 exact I0 h'.wp o' o2 (jP h').len
theorem E6(h:Wd G T W):Pn G T W (gn G T W):=by
 have o:=dG h.wp
 have h':=o.wd h
 have o':=dG h'.wp
 have:=(jP h').tu h' o'
 rwa [vY h.wp o o'] at this
theorem Oq(h:Wd G T W):Rs G T W (gn G T W):=by
 have o:=dG h.wp
 have h':=o.wd h
 have o':=dG h'.wp
 have:=(GL h').tu h' o' (jP h')
 rwa [vY h.wp o o'] at this
theorem F7(h:Wd G T W)(b:Bool)(hl:off.length=W.length)(hx:X.length=W.length)(e:∀k,k < W.length->(bC (!b) T G (eG W (bR W)) (lN off (bR W))).getD k 0=(lN X (bR W)).getD k 0):bC b G T W off=X:=by
 have o:=dG h.wp
 refine mV (by rw[eB,hx]) fun k hk=>?_
 rw[eB] at hk
 obtain⟨j,hj,rfl⟩:=o.ex hk
 rw[<- L6 h o b hl hj,e j hj,l5 o hj]
theorem Jx(h:Wd G T W)(x:Pn G T W X)(r:Rs G T W X):bC false G T W (mx (j1 G T W) X)=j1 G T W :=
 mV (by rw[eB,(jP h).len]) fun k hk=>tX h x r (by rw[eB] at hk;exact hk)
theorem JB(h:Wd G T W)(x:Pn G T W X)(r:Rs G T W X):bC true G T W (mx (j1 G T W) X)=X :=
 mV (by rw[eB,x.len]) fun k hk=>ub h x r (by rw[eB] at hk;exact hk)
theorem yg(h:Wd G T W)(x:Pn G T W X)(r:Rs G T W X):bC true G T W (mx (gn G T W) X)=gn G T W/\bC false G T W (mx (gn G T W) X)=X:=by
 have o:=dG h.wp
 have h':=o.wd h
 have pl:=(E6 h).len
 have hm:(mx (gn G T W) X).length=W.length:=by rw[kJ (by rw[pl,x.len]),pl]
 have em:lN (mx (gn G T W) X) (bR W)=mx (j1 T G (eG W (bR W))) (lN X (bR W)):=by rw[<- NL o pl x.len,Cv h]
 have x':=x.tu h o
 have r':=r.tu h o x
 have l':=cD o
 constructor
 ·refine F7 h true hm pl fun k hk=>?_
  rw[em,Cv h]
  exact tX h' x' r' (by rw[l'];exact hk)
 ·refine F7 h false hm x.len fun k hk=>?_
  rw[em]
  exact ub h' x' r' (by rw[l'];exact hk)
end
section
variable {G T:List Pl}{W:List Wy}{P X:List Int}{b:Bool}{i:Nat}
theorem zip_rows:∀ {P X:List Int},P.length=X.length->gT (P.map PyData.int) (X.map PyData.int)=(List.range P.length).map fun i=>.tuple [.int (P.getD i 0),.int (X.getD i 0)]
 | [],[],_=>rfl
 | [],_::_,h=>by simp at h
 | _::_,[],h=>by simp at h
 | x::P,y::X,h=>by
  rw[zI,zI,gT,zip_rows (P:=P) (X:=X) (by simpa using h),zL,List.range_succ_eq_map,zI,zM]
  rfl
theorem lH(hp:P.length=X.length)(hl:P.length<=1000):eT [af P,af X]=some (af (mx P X)):=by
 refine aI ?_
 show nN [.val (af P),.val (af X)]=_
 have hz:dz (aa (ab 0) (aa (ab 1) ae)) [some (af P),some (af X)]=some ((List.range P.length).map fun i=>.tuple [.int (P.getD i 0),.int (X.getD i 0)]):=by
  rw[<- zip_rows hp]
  rfl
 have c:=ji (cs:=[]) (tt:=fun _=>some true) (te:=aU DM (aa (ab 0) (aa (ab 1) ae))) (p:=fun _=>true) (h:=fun i=>.int (max (P.getD i 0) (X.getD i 0))) hz hl fun i hi=>⟨rfl,fun _=>rfl⟩
 refine aK ?_
 show aU bo (aa (cx (aq 2 [] (dz (aa (ab 0) (aa (ab 1) ae))) (gw 0 1) (fun _=>some true) (aU DM (aa (ab 0) (aa (ab 1) ae))))) ae) [some (af P),some (af X)]=_
 simp only[aU,aa,ae,cx,zB,zA] at c ⊢
 rw[c]
 simp only[zB,zA,qx]
 rw[show (List.range P.length).filter (fun _=>true)=List.range P.length by simp]
 have e:mx P X=(List.range P.length).map fun i=>max (P.getD i 0) (X.getD i 0):=by
  refine mV (by rw[kJ hp];simp) fun k hk=>?_
  rw[kJ hp] at hk
  rw[xD hp k (.inr hk)]
  simp[hk]
 rw[e,af,zM]
 rfl
theorem Du(h:Wd G T W)(hi:i < (aD b G T).length)(hp:P.length=W.length):gz [ax G T W,.int (sI b),nD i,af P]=some (af ((lst b G T W i).map (vl P))):=by
 have hw:=h.wl
 have hl:(lst b G T W i).length<=16:=by
  rw[(i3 h hi).length_eq]
  exact yE (pY b W i) hw
 have ew:bT [ax G T W,.int (sI b),nD i]=some (.list ((lst b G T W i).map nD)):=oq h (iF hi)
 refine aI ?_
 show jO [.val (ax G T W),.val (.int (sI b)),.val (nD i),.val (af P)]=_
 have c:aq 1 [3] (aO (ah 3 bT (aa (ab 0) (aa (ab 1) (aa (ab 2) ae))))) (fG 0) (fun _=>some true) (f2 au (ab 1) (ab 0)) [some (ax G T W),some (.int (sI b)),some (nD i),some (af P)]=some ((lst b G T W i).map fun q=>.int (P.getD q 0)) :=
  jc (kb ew rfl rfl) (by omega) fun q hq=>aw (n8 (by rw[hp];exact ((ft h hi).mp hq).1)) rfl rfl
 refine aK ?_
 show aU bo (aa (cx (aq 1 [3] (aO (ah 3 bT (aa (ab 0) (aa (ab 1) (aa (ab 2) ae))))) (fG 0) (fun _=>some true) (f2 au (ab 1) (ab 0)))) ae) [some (ax G T W),some (.int (sI b)),some (nD i),some (af P)]=_
 rw[jD (d:=.list ((lst b G T W i).map fun q=>.int (P.getD q 0))) (by simp only[cx,c,zB]),qx,af,zM]
 rfl
theorem B6(h:Wd G T W):dF [ax G T W]=some (af (gn G T W)):=by
 have h':=(dG h.wp).wd h
 exact tq h (A8 h') (jP h')
end
theorem u0{f:Dl.Env->Option (List D)}{ρ:Dl.Env}{ds:List D}(h:f ρ=some ds):cx f ρ=some (.list ds):=by
 simp only[cx,h,zB]
theorem CI{f:Dl.Env->Option D}{ρ:Dl.Env}{ds:List D}(h:f ρ=some (.list ds)):aO f ρ=some ds:=by
 simp only[aO,h,zA,fY]
theorem Gj{fs:Dl.Env->Option (List D)}{ρ:Dl.Env}{ds:List D}(h:fs ρ=some ds)(hl:ds.length<=1000):eV fs ρ=some ds:=by
 simp only[eV,h,zA,bD (show ds.length<=4000 by omega)]
theorem FI{ρ:Dl.Env}{f g:Dl.Env->Option D}{G T:List Pl}{W:List Wy}{b:Bool}(hf:f ρ=some (ax G T W))(hg:g ρ=some (.int (sI b))):(aa (aU bq (aa (f2 au f g) ae)) ae) ρ=some [nD (aD b G T).length] :=
 cons_of (kU (l:=aD b G T) (k:=aW) (aw (jQ b G T W) hf hg)) rfl
section
variable {G T:List Pl}{W:List Wy}{P X:List Int}
end
section
variable {G T:List Pl}{W:List Wy}{P X c:List Int}{b:Bool}{k:Nat}
end
structure Wk(G T G' T':List Pl):Prop where
 len:∀b,(aD b G' T').length=(aD b G T).length
 lik:∀b i,(br b G' T' i).2=(br b G T i).2
 gv:∀i,amt false G' T' i<=amt false G T i
 tk:∀i,amt true G T i<=amt true G' T' i
section
variable {G T G' T':List Pl}{W:List Wy}{P X c:List Int}{b:Bool}{i k q:Nat}{v:Int}
theorem Wk.lst(w:Wk G T G' T')(b:Bool)(i:Nat):lst b G' T' W i=lst b G T W i:=by unfold Wm.lst;rw[w.lik]
theorem B4(h:P.length=X.length):mx P X=mx X P:=by
 refine mV (by rw[kJ h,kJ h.symm,h]) fun k hk=>?_
 rw[kJ h] at hk
 rw[xD h k (.inr hk),xD h.symm k (.inr (by omega))]
 omega
end
section
variable {G T G' T':List Pl}{W:List Wy}{P X off:List Int}{b:Bool}{i j k:Nat}{a:Int}
theorem rg(h:Wd G T W)(b:Bool)(hi:i < (aD b G T).length):eZ [ax G T W,.int (sI b),nD i]=some .none:=by
 have:dv [.val (ax G T W),.val (.int (sI b)),.val (nD i)]=some (.nx [.val (ax G T W),.val (.int (sI b)),.val (nD i)]):=by
  unfold dv
  refine (ai (du (call_of (va b) rfl rfl))).trans ?_
  exact du (call_of (ek (n:=((aD b G T).length:Nat)) (i:=(i:Nat)) (by omega) (by omega)) (cons_of rfl (cons_of (kU (l:=aD b G T) (k:=aW) (aw (jQ b G T W) rfl rfl)) rfl)) rfl)
 show (dv [.val (ax G T W),.val (.int (sI b)),.val (nD i)]).map _=_
 rw[this]
 rfl
end
def wL(l:Int)(fs:List (List Int)):List (List Int):=(fs.map fun r=>(List.range (l+1).toNat).map fun m=>r++[((m:Nat):Int)]).flatten
def Co:List Wy->List (List Int)->List (List Int)
 | [],fs=>fs
 | w::W,fs=>Co W (wL w.2.2 fs)
theorem wg{l:Int}{fs:List (List Int)}{r:List Int}:r∈wL l fs↔∃r'∈fs,∃v:Int,0<=v/\v<=l/\r=r'++[v]:=by
 unfold wL
 rw[List.mem_flatten]
 constructor
 ·rintro⟨L,hL,hr⟩
  obtain⟨r',h',rfl⟩:=zQ.mp hL
  obtain⟨m,hm,rfl⟩:=zQ.mp hr
  rw[zT] at hm
  exact⟨r',h',_,by omega,by omega,rfl⟩
 ·rintro⟨r',h',v,h0,h1,rfl⟩
  exact⟨_,zQ.mpr ⟨r',h',rfl⟩,zQ.mpr ⟨v.toNat,by rw[zT];omega,by rw[show ((v.toNat:Nat):Int)=v by omega]⟩⟩
theorem B3:∀ {W:List Wy}{fs:List (List Int)}{r:List Int},r∈Co W fs↔∃r'∈fs,∃q:List Int,q.length=W.length/\(∀k,k < W.length->0<=q.getD k 0/\q.getD k 0<=(ay W k).2.2)/\r=r'++q
 | [],fs,r=>by
  unfold Co
  constructor
  ·intro h
   exact⟨r,h,[],rfl,fun k hk=>by simp at hk,by simp⟩
  ·rintro⟨r',h',q,hq,_,rfl⟩
   have:q=[]:=List.length_eq_zero_iff.mp hq
   subst this
   simpa using h'
 | w::W,fs,r=>by
  rw[Co,B3]
  constructor
  ·rintro⟨r',h',q,hq,hb,rfl⟩
   obtain⟨r2,h2,v,h0,h1,rfl⟩:=wg.mp h'
   refine⟨r2,h2,v::q,by simp[hq],fun k hk=>?_,by simp⟩
   cases k with
   | zero=>exact⟨h0,h1⟩
   | succ k=>exact hb k (by simpa using hk)
  ·rintro⟨r',h',q,hq,hb,rfl⟩
   cases q with
   | nil=>simp at hq
   | cons v q =>
    refine⟨r'++[v],wg.mpr ⟨r',h',v,(hb 0 (by simp)).1,(hb 0 (by simp)).2,rfl⟩,q,by simpa using hq,fun k hk=>hb (k+1) (by simpa using hk),by simp⟩
theorem Ca(l:Int)(fs:List (List Int)):(wL l fs).length=fs.length * (l+1).toNat:=by
 unfold wL
 induction fs with
 | nil=>simp
 | cons r fs ih=>rw[zI,List.flatten_cons,zN,ih,zL,Nat.add_mul];simp;omega
section
variable {G T:List Pl}{W:List Wy}{P X:List Int}
def wB:aj->Option Out:=(v8 3 [2,4] (aq 1 [4] (bj (aa (f2 Dl.aA (f2 au (ab 2) (fC (.int 2))) (fC (.int 1))) ae)) (fG 0) (fun _=>some true) (f2 Dl.aA (ab 1) (aC (aa (ab 0) ae)))))
def ext(l:Int)(r:List Int):List (List Int):=(List.range (l+1).toNat).map fun m=>r++[((m:Nat):Int)]
theorem LG{d:D}{x1:Slot}{w:Wy}{acc:List (List Int)}{r:List Int}(hl:0<=w.2.2/\w.2.2<=9)(hr:r.length<=100)(ha:acc.length<=3000):wB [.val d,x1,.val (ao w),.own (acc.map af),.val (af r)]=some (.nx [.val d,x1,.val (ao w),.own ((acc++ext w.2.2 r).map af),.val (af r)]):=by
 have c:aq 1 [4] (bj (aa (f2 Dl.aA (f2 au (ab 2) (fC (.int 2))) (fC (.int 1))) ae)) (fG 0) (fun _=>some true) (f2 Dl.aA (ab 1) (aC (aa (ab 0) ae))) (bY [.val d,x1,.val (ao w),.own (acc.map af),.val (af r)])=some ((List.range (w.2.2+1).toNat).map fun m=>af (r++[((m:Nat):Int)])):=by
  refine jc (rR (n:=(w.2.2+1).toNat) (cons_of ?_ rfl) (by omega)) (by rw[zS];omega) fun m _=>aw (pU (a:=r) (b:=[((m:Nat):Int)]) (by simp;omega)) rfl (EL rfl)
  rw[show nD (w.2.2+1).toNat=.int (w.2.2+1) by show PyData.int _=_;congr 1;omega]
  exact aw (fL w.2.2 1) (aw (p8 w) rfl rfl) rfl
 have hh:hand [2,4] 0 [Slot.val d,x1,.val (ao w),.own (acc.map af),.val (af r)]=[Slot.val d,x1,.val (ao w),.own (acc.map af),.val (af r)]:=rfl
 have hz:(acc.map af).length+((List.range (w.2.2+1).toNat).map fun m=>af (r++[((m:Nat):Int)])).length<=sizeLine:=by
  rw[zD,zD,zS]
  exact yE (show acc.length+(w.2.2+1).toNat<=4000 by omega) (by decide)
 have e:(acc++ext w.2.2 r).map af=acc.map af++(List.range (w.2.2+1).toNat).map fun m=>af (r++[((m:Nat):Int)]):=by
  rw[List.map_append,ext,zM]
  rfl
 unfold wB v8
 rw[hh,c,zA,e]
 simp only[nI,List.getElem?_cons_succ,List.getElem?_cons_zero,hz,if_true,zB,zA]
 rfl
def wO:aj->Option Out:=(av (aM 3 [] (eV ae)) (av (cM [1] (aO (ab 1)) (lA 4) wB) (Dl.az 1 [3] (ab 3))))
theorem E1(l:Int)(r:List Int)(fs:List (List Int)):wL l (r::fs)=ext l r++wL l fs:=by simp[wL,ext]
theorem Gg{d:D}{x1:Slot}{w:Wy}(hl:0<=w.2.2/\w.2.2<=2):∀ (fs acc:List (List Int)) (x4:Slot),(∀r∈fs,r.length<=16)->acc.length+3 * fs.length<=3000->∃y4,cH (lA 4) wB (fs.map af) [.val d,x1,.val (ao w),.own (acc.map af),x4]=some (.nx [.val d,x1,.val (ao w),.own ((acc++wL w.2.2 fs).map af),y4])
 | [],acc,x4,_,_=>⟨x4,by simp[wL,cH]⟩
 | r::fs,acc,x4,hr,hb=>by
  have he:(ext w.2.2 r).length<=3:=by unfold ext;rw[zD,zS];omega
  rw[zL] at hb
  obtain⟨y4,e⟩:=Gg (d:=d) (x1:=x1) hl fs (acc++ext w.2.2 r) (.val (af r)) (fun q hq=>hr q (zC _ hq)) (by rw[zN];omega)
  have h1:=LG (d:=d) (x1:=x1) (w:=w) (acc:=acc) (r:=r) ⟨hl.1,by omega⟩ (by have:=hr r zE;omega) (by omega)
  have ht:lA 4 [.val d,x1,.val (ao w),.own (acc.map af),x4] (af r)=some [.val d,x1,.val (ao w),.own (acc.map af),.val (af r)]:=rfl
  refine⟨y4,?_⟩
  rw[zI,cH,ht,zA,h1]
  show cH (lA 4) wB (fs.map af) _=_
  rw[e,E1,List.append_assoc]
theorem K7{d:D}{s1 x3 x4:Slot}{w:Wy}{fs:List (List Int)}(hl:0<=w.2.2/\w.2.2<=2)(hr:∀r∈fs,r.length<=16)(hf:fs.length<=81)(h1:s1=.own (fs.map af)\/s1=.val (.list (fs.map af))):∃y3 y4,wO [.val d,s1,.val (ao w),x3,x4]=some (.nx [.val d,.val (.list ((wL w.2.2 fs).map af)),.val (ao w),y3,y4]):=by
 obtain⟨y4,e⟩:=Gg (d:=d) (x1:=.val (.list (fs.map af))) hl fs [] x4 hr (by simp;omega)
 rw[List.nil_append] at e
 have t1:aM 3 [] (eV ae) [.val d,s1,.val (ao w),x3,x4]=some (.nx [.val d,s1,.val (ao w),.own [],x4]):=eR (Gj (ds:=[]) rfl (by simp)) rfl
 have hh:hand [1] 0 [.val d,s1,.val (ao w),.own [],x4]=[Slot.val d,.val (.list (fs.map af)),.val (ao w),.own [],x4]:=by
  rcases h1 with rfl|rfl<;>rfl
 unfold wO
 rw[ai t1]
 refine⟨.val (.list ((wL w.2.2 fs).map af)),y4,?_⟩
 refine (ai (bG e rfl hh)).trans ?_
 exact mr (ρ':=[.val d,.val (.list (fs.map af)),.val (ao w),.val (.list ((wL w.2.2 fs).map af)),y4]) rfl (d:=.list ((wL w.2.2 fs).map af)) rfl rfl rfl (.inl rfl)
theorem J4{l:Int}{fs:List (List Int)}{n:Nat}(h:∀r∈fs,r.length<=n):∀r∈wL l fs,r.length<=n+1:=fun r hr=>by
 obtain⟨r',h',v,_,_,rfl⟩:=wg.mp hr
 have:=h r' h'
 simp
 omega
theorem Gc{d:D}:∀ (W:List Wy) (fs:List (List Int)) (s1 x2 x3 x4:Slot),(∀w∈W,0<=w.2.2/\w.2.2<=2)->fs.length * 3 ^ W.length<=81->(∀r∈fs,r.length<=16 - W.length)->W.length<=16->(s1=.own (fs.map af)\/s1=.val (.list (fs.map af))) ->
  ∃s1' y2 y3 y4,cH (lA 2) wO (W.map ao) [.val d,s1,x2,x3,x4]=some (.nx [.val d,s1',y2,y3,y4])/\(s1'=.own ((Co W fs).map af)\/s1'=.val (.list ((Co W fs).map af)))
 | [],fs,s1,x2,x3,x4,_,_,_,_,h1=>⟨s1,x2,x3,x4,rfl,h1⟩
 | w::W,fs,s1,x2,x3,x4,hl,hf,hr,hw,h1=>by
  rw[zL] at hf hr hw
  have hp:1<=3 ^ W.length:=Nat.one_le_pow _ _ (by omega)
  have hf1:fs.length<=81:=by
   refine yE ?_ hf
   exact Nat.le_mul_of_pos_right _ (Nat.pow_pos (by omega))
  have hlw:=hl w zE
  obtain⟨y3,y4,e⟩:=K7 (d:=d) (x3:=x3) (x4:=x4) hlw (fun r hr'=>by have:=hr r hr';omega) hf1 h1
  have hll:(wL w.2.2 fs).length<=fs.length * 3:=by rw[Ca];exact Nat.mul_le_mul_left _ (by omega)
  obtain⟨s1',z2,z3,z4,e2,h2⟩:=Gc (d:=d) W (wL w.2.2 fs) (.val (.list ((wL w.2.2 fs).map af))) (.val (ao w)) y3 y4 (fun q hq=>hl q (zC _ hq)) (by
   refine yE (Nat.mul_le_mul_right _ hll) ?_
   rw[Nat.mul_assoc,<- Nat.pow_succ']
   exact hf) (fun r hr'=>by
   have:=J4 (n:=16 - (W.length+1)) hr r hr'
   omega) (by omega) (.inr rfl)
  have ht:lA 2 [.val d,s1,x2,x3,x4] (ao w)=some [.val d,s1,.val (ao w),x3,x4]:=rfl
  refine⟨s1',z2,z3,z4,?_,h2⟩
  rw[zI,cH,ht,zA,e]
  exact e2
theorem ES(hl:∀w∈W,0<=w.2.2/\w.2.2<=2)(hw:W.length<=4):dI [.tuple (W.map ao)]=some (.list ((Co W [[]]).map af)):=by
 obtain⟨s1',z2,z3,z4,e2,h2⟩:=Gc (d:=.tuple (W.map ao)) W [[]] (.own ([[]].map af)) .non .non .non hl (by
  rw[List.length_singleton,Nat.one_mul]
  exact yE (Nat.pow_le_pow_right (by omega) hw) (by decide)) (fun r hr=>by simp at hr;subst hr;simp) (by omega) (.inl rfl)
 refine aI ?_
 show dN [.val (.tuple (W.map ao)),.non,.non,.non,.non]=_
 unfold dN
 refine (ai (eR (ds:=[[]].map af) (Gj (cons_of (tup_is (ds:=[]) rfl (by simp)) rfl) (by simp)) rfl)).trans ?_
 refine (ai (bG e2 rfl rfl)).trans ?_
 refine aK ?_
 rcases h2 with rfl|rfl<;>rfl
theorem rH{α:Type}{tt:Dl.Env->Option Bool}{te:Dl.Env->Option D}{r:List (Option D)}{g f:α->D}{q:α->Bool}:∀ (l:List α),(∀x∈l,tt (some (g x)::r)=some (q x)/\(q x=true->te (some (g x)::r)=some (f x)))->cO (fG 0) tt te (none::r) (l.map g)=some ((l.filter q).map f)
 | [],_=>rfl
 | x::l,h=>by
  have ih:=rH (tt:=tt) (te:=te) (r:=r) (g:=g) (f:=f) (q:=q) l fun y hy=>h y (zC _ hy)
  obtain⟨h1,h2⟩:=h x zE
  have hg:fG 0 (none::r) (g x)=some (some (g x)::r):=rfl
  rw[zI,cO,hg,zA,h1,zA,List.filter_cons]
  cases e:q x with
  | true =>
   rw[if_pos rfl,if_pos rfl,h2 e,zA,ih]
   rfl
  | false =>
   rw[if_neg (by simp),if_neg (by simp),ih]
theorem oD{α:Type}{cs:List Nat}{fi:Dl.Env->Option (List D)}{tt:Dl.Env->Option Bool}{te:Dl.Env->Option D}{ρ:Dl.Env}{l:List α}{g f:α->D}{q:α->Bool}(hfi:fi ρ=some (l.map g))(hl:l.length<=1000)(hh:∀x∈l,tt (some (g x)::cs.map fun j=>(ρ[j]?).getD none)=some (q x)/\(q x=true->te (some (g x)::cs.map fun j=>(ρ[j]?).getD none)=some (f x))):aq 1 cs fi (fG 0) tt te ρ=some ((l.filter q).map f):=by
 have:=rH l hh
 simp only[aq,hfi,zA,fA,List.replicate,List.cons_append,List.nil_append,this]
 refine bD ?_
 rw[zD]
 refine yE (List.length_filter_le _ _) ?_
 omega
def mB:aj->Option Out:=(Dl.az 1 [1,2] (f2 Dl.ej (ab 1) (f2 Dl.aA (f2 au (ab 2) (fC (.int 2))) (fC (.int 1)))))
theorem GH{d:D}:∀ (W:List Wy) (p:Nat) (x2:Slot),(∀w∈W,0<=w.2.2/\w.2.2<=2)->p * 3 ^ W.length<=81->∃p' y2,cH (lA 2) mB (W.map ao) [.val d,.val (nD p),x2]=some (.nx [.val d,.val (nD p'),y2])/\p'<=81
 | [],p,x2,_,hp=>⟨p,x2,rfl,by simpa using hp⟩
 | w::W,p,x2,hl,hp=>by
  have hlw:=hl w zE
  rw[zL] at hp
  have hp1:p<=81:=yE (Nat.le_mul_of_pos_right _ (Nat.pow_pos (by omega))) hp
  obtain⟨p',y2,e,h2⟩:=GH (d:=d) W (p * (w.2.2+1).toNat) (.val (ao w)) (fun q hq=>hl q (zC _ hq)) (by
   refine yE (Nat.mul_le_mul_right _ (Nat.mul_le_mul_left p (show (w.2.2+1).toNat<=3 by omega))) ?_
   rw[Nat.mul_assoc,<- Nat.pow_succ']
   exact hp)
  have ht:lA 2 [.val d,.val (nD p),x2] (ao w)=some [.val d,.val (nD p),.val (ao w)]:=rfl
  have hm:mB [.val d,.val (nD p),.val (ao w)]=some (.nx [.val d,.val (nD (p * (w.2.2+1).toNat)),.val (ao w)]):=by
   have hv:nD (p * (w.2.2+1).toNat)=.int (((p:Nat):Int) * (w.2.2+1)):=by
    show PyData.int _=_
    rw[Int.natCast_mul,show (((w.2.2+1).toNat:Nat):Int)=w.2.2+1 by omega]
   rw[hv]
   unfold mB
   exact di (aw (eD (.inl ⟨by omega,by omega⟩)) rfl (aw (fL _ _) (aw (p8 w) rfl rfl) rfl)) rfl
  refine⟨p',y2,?_,h2⟩
  rw[zI,cH,ht,zA,hm]
  exact e
theorem vD(hl:∀w∈W,0<=w.2.2/\w.2.2<=2)(hw:W.length<=4):gE [ax G T W]=some .none:=by
 obtain⟨p',y2,e,h2⟩:=GH (d:=ax G T W) W 1 .non hl (by rw[Nat.one_mul];exact yE (Nat.pow_le_pow_right (by omega) hw) (by decide))
 have:eA [.val (ax G T W),.non,.non]=some (.nx [.val (ax G T W),.val (nD p'),y2]):=by
  unfold eA
  refine (ai (di (d:=.int 1) rfl rfl)).trans ?_
  refine (ai (bG e rfl rfl)).trans ?_
  exact cZ (b9 (aw ((gq _ _).trans (by rw[yA (by omega)])) rfl rfl))
 show (eA [.val (ax G T W),.non,.non]).map _=_
 rw[this]
 rfl
def Fk(G T:List Pl)(W:List Wy):List (List Int):=(Co W [[]]).filter (Nl G T W)
def allR(G T:List Pl)(W:List Wy):List (List Int):=(Fk G T W).filter fun P=>decide (BY G T W P=[])
theorem CZ{r:List Int}:r∈Co W [[]]↔r.length=W.length/\∀k,k < W.length->0<=r.getD k 0/\r.getD k 0<=(ay W k).2.2:=by
 rw[B3]
 constructor
 ·rintro⟨r',h',q,hq,hb,rfl⟩
  simp at h'
  subst h'
  exact⟨hq,hb⟩
 ·rintro⟨h1,h2⟩
  exact⟨[],by simp,r,h1,h2,rfl⟩
theorem xt:X∈Fk G T W↔Pn G T W X:=by
 unfold Fk
 rw[List.mem_filter,CZ]
 constructor
 ·rintro⟨⟨h1,h2⟩,h3⟩
  exact (uU h1).mp h3
 ·intro p
  exact⟨⟨p.len,p.bd⟩,(uU p.len).mpr p⟩
theorem kA(h:Wd G T W):X∈allR G T W↔Pn G T W X/\Rs G T W X:=by
 unfold allR
 rw[List.mem_filter,xt,zJ]
 constructor
 ·rintro⟨p,r⟩
  exact⟨p,(m6 h p).mp r⟩
 ·rintro⟨p,r⟩
  exact⟨p,(m6 h p).mpr r⟩
theorem BK:∀ (W:List Wy) (fs:List (List Int)),(∀w∈W,0<=w.2.2/\w.2.2<=2)->(Co W fs).length<=fs.length * 3 ^ W.length
 | [],fs,_=>by simp[Co]
 | w::W,fs,hl=>by
  rw[Co]
  refine yE (BK W _ fun q hq=>hl q (zC _ hq)) ?_
  have:=hl w zE
  rw[Ca,zL,Nat.pow_succ',<- Nat.mul_assoc]
  exact Nat.mul_le_mul_right _ (Nat.mul_le_mul_left _ (by omega))
theorem xp(h:Wd G T W)(hl:∀w∈W,0<=w.2.2/\w.2.2<=2)(hw:W.length<=4):iw [ax G T W]=some (.list ((Fk G T W).map af))/\(Co W [[]]).length<=81:=by
 have hlen:(Co W [[]]).length<=81:=by
  have:=BK W [[]] hl
  rw[List.length_singleton,Nat.one_mul] at this
  exact yE this (yE (Nat.pow_le_pow_right (by omega) hw) (by decide))
 refine⟨?_,hlen⟩
 refine aI ?_
 show ir [.val (ax G T W)]=_
 unfold ir
 refine (ai (du (call_of (fw h) rfl rfl))).trans ?_
 refine (ai (du (call_of (vD hl hw) rfl rfl))).trans ?_
 refine aK (u0 (oD (g:=af) (f:=af) (q:=Nl G T W) (kb (ES hl hw) (cons_of (aw (pJ G T W) rfl rfl) rfl) rfl) (by omega) fun x hx=>⟨?_,fun _=>rfl⟩))
 obtain⟨h1,h2⟩:=CZ.mp hx
 exact b9 (call_of (uc h h1 fun k=>by
  by_cases hk:k < W.length
  ·have a:=h2 k hk
   have b:=(h.wr _ (oN hk)).2.2.2
   omega
  ·rw[gL (by omega)]
   omega) rfl rfl)
theorem xY(h:Wd G T W)(hl:∀w∈W,0<=w.2.2/\w.2.2<=2)(hw:W.length<=4):ij [ax G T W]=some (.list ((allR G T W).map af))/\(allR G T W).length<=81:=by
 obtain⟨e,hlen⟩:=xp h hl hw
 have hp:(Fk G T W).length<=81:=yE (List.length_filter_le _ _) hlen
 refine⟨?_,yE (List.length_filter_le _ _) hp⟩
 refine aI ?_
 show ib [.val (ax G T W)]=_
 unfold ib
 refine aK (u0 (oD (g:=af) (f:=af) (q:=fun P=>decide (BY G T W P=[])) (kb e rfl rfl) (by omega) fun x hx=>⟨?_,fun _=>rfl⟩))
 have p:=xt.mp hx
 exact b9 (call_of (Bf h p.len (p.smP h)) rfl rfl)
end
section
variable {G T:List Pl}{W:List Wy}{P X:List Int}{b:Bool}{i k q:Nat}
end
section
variable {G T:List Pl}{W:List Wy}{P X:List Int}{b:Bool}{i k:Nat}
end
theorem Gp{l:List Int}(hl:l.length<=1000)(hb:∀x∈l,-1000000<=x/\x<=1000000):md [af l]=some (.int l.sum):=by
 have hok:IA l=true:=by
  unfold IA
  rw[zF,zJ,List.all_eq_true]
  refine⟨hl,fun x hx=>?_⟩
  rw[zF,zJ,zJ]
  exact hb x hx
 show md [.tuple (l.map PyData.int)]=_
 simp only[md,dO,oneOf,fY,zA,bZ,hok,if_true]
def sh(k q:Nat):Nat:=if q < k then q else q+1
def nk(k:Nat):Nat->Bool:=fun q=>!decide (q=k)
section
variable {G T:List Pl}{W:List Wy}{P X:List Int}{b:Bool}{i k q:Nat}
end
theorem FC{m X Y:Nat->Int}:∀ {l:List Nat}{a:Int},l.Nodup->(∀q∈l,0<=X q)->sm l X<=a->(∀q∈l,Y q=ch m a l q)->(∀q∈l,m q=max (Y q) (X q))->lexLt (l.map Y) (l.map X)=false
 | [],_,_,_,_,_,_=>rfl
 | q::r,a,hn,h0,hs,hY,hm=>by
  rw[List.nodup_cons] at hn
  have e:=hY q zE
  rw[bp] at e
  have em:=hm q zE
  have hr:0<=sm r X:=qD fun x hx=>h0 x (zC _ hx)
  rw[bM] at hs
  show HT.lexLt (Y q::_) (X q::_)=false
  rw[HT.aQ]
  by_cases z:Y q=X q
  ·rw[if_pos z]
   refine FC (m:=m) (a:=a - min (m q) a) hn.2 (fun x hx=>h0 x (zC _ hx)) (by omega) (fun x hx=>?_) fun x hx=>hm x (zC _ hx)
   have hne:x≠q:=fun y=>hn.1 (y ▸ hx)
   rw[hY x (zC _ hx),bf hne]
  ·rw[if_neg z,yA (by omega)]
section
variable {G T:List Pl}{W:List Wy}{P X Y:List Int}{b:Bool}{i k:Nat}
def oK(b:Bool)(G T:List Pl)(W:List Wy)(i:Nat)(P:List Int):List Int:=(lst b G T W i).map (vl P)
theorem Fn(h:Wd G T W)(y:Pn G T W Y)(x:Pn G T W X)(hi:i < (aD b G T).length)(e:bC b G T W (mx Y X)=Y):lexLt (oK b G T W i Y) (oK b G T W i X)=false:=by
 refine FC (m:=mm W (mx Y X)) (a:=amt b G T i) (bS h hi) (fun q _=>x.nn q) (x.le_sm h hi) (fun q hq=>?_) fun q hq=>?_
 ·have:=ox (off:=mx Y X) h hi hq
  rw[e] at this
  exact this
 ·exact Ck y x ((ft h hi).mp hq).1
theorem vO(h:Wd G T W)(p:Pn G T W P)(hi:i < (aD b G T).length):eO [ax G T W,.int (sI b),nD i,af P]=some (af (oK b G T W i P)):=by
 refine aI ?_
 show wq [.val (ax G T W),.val (.int (sI b)),.val (nD i),.val (af P)]=_
 unfold wq
 refine (ai (du (call_of (gu h p) rfl rfl))).trans ?_
 refine (ai (du (call_of (rg h b hi) rfl rfl))).trans ?_
 exact aK (call_of (Du h hi p.len) rfl rfl)
theorem mq(bt:Nat->Nat->Bool):∀n,PySem.argBest bt n<=n
 | 0=>zzA _
 | n+1=>by
  unfold PySem.argBest
  have:=mq bt n
  split<;>omega
theorem eI{a c:List Int}(h:lexLt a c=false)(h2:lexLt c a=false):a=c:=rL (by unfold lexLe;rw[h2];rfl) (by unfold lexLe;rw[h];rfl)
theorem qb(f:Nat->List Int):∀n j,j<=n->lexLt (f (PySem.argBest (fun i j=>lexLt (f j) (f i)) n)) (f j)=false
 | 0,j,hj=>by
  have:j=0:=by omega
  subst this
  exact cF _
 | n+1,j,hj=>by
  unfold PySem.argBest
  by_cases e:lexLt (f (PySem.argBest (fun i j=>lexLt (f j) (f i)) n)) (f (n+1))=true
  ·rw[if_pos e]
   by_cases z:j=n+1
   ·subst z;exact cF _
   ·have ih:=qb f n j (by omega)
    refine Bool.eq_false_iff.mpr fun y=>?_
    have:=dh e y
    rw[ih] at this
    cases this
  ·rw[if_neg e]
   by_cases z:j=n+1
   ·subst z;simpa using e
   ·exact qb f n j (by omega)
theorem qa(f:Nat->List Int):∀n j,j<=n->lexLt (f j) (f (PySem.argBest (fun i j=>lexLt (f i) (f j)) n))=false
 | 0,j,hj=>by
  have:j=0:=by omega
  subst this
  exact cF _
 | n+1,j,hj=>by
  unfold PySem.argBest
  by_cases e:lexLt (f (n+1)) (f (PySem.argBest (fun i j=>lexLt (f i) (f j)) n))=true
  ·rw[if_pos e]
   by_cases z:j=n+1
   ·subst z;exact cF _
   ·have ih:=qa f n j (by omega)
    refine Bool.eq_false_iff.mpr fun y=>?_
    have:=dh y e
    rw[ih] at this
    cases this
  ·rw[if_neg e]
   by_cases z:j=n+1
   ·subst z;simpa using e
   ·exact qa f n j (by omega)
theorem NF{nss:List (List Int)}{r:List Int}(hr:r∈nss)(h:∀x∈nss,lexLt r x=false):eS dC [.list (nss.map af)]=some (af r):=by
 have hpos:0 < nss.length:=List.length_pos_of_mem hr
 have hle:=mq (dC nss) (nss.length - 1)
 have hlt:PySem.argBest (dC nss) (nss.length - 1) < nss.length:=by omega
 have e:nss[PySem.argBest (dC nss) (nss.length - 1)]?=some r:=by
  rw[zK hlt]
  refine congrArg some ?_
  obtain⟨j,hj,rfl⟩:=List.mem_iff_getElem.mp hr
  have h1:=qb (fun k=>nss.getD k []) (nss.length - 1) j (by omega)
  have h2:=h _ (List.getElem_mem hlt)
  have d1:nss.getD (PySem.argBest (dC nss) (nss.length - 1)) []=nss[PySem.argBest (dC nss) (nss.length - 1)]:=by simp[hlt]
  have d2:nss.getD j []=nss[j]:=by simp[hj]
  have h1:lexLt (nss.getD (PySem.argBest (dC nss) (nss.length - 1)) []) (nss.getD j [])=false:=h1
  rw[d1,d2] at h1
  exact eI h1 h2
 simp only[eS,oneOf,zA,nO,e,zB]
theorem Nw{nss:List (List Int)}{r:List Int}(hr:r∈nss)(h:∀x∈nss,lexLt x r=false):eS dD [.list (nss.map af)]=some (af r):=by
 have hpos:0 < nss.length:=List.length_pos_of_mem hr
 have hle:=mq (dD nss) (nss.length - 1)
 have hlt:PySem.argBest (dD nss) (nss.length - 1) < nss.length:=by omega
 have e:nss[PySem.argBest (dD nss) (nss.length - 1)]?=some r:=by
  rw[zK hlt]
  refine congrArg some ?_
  obtain⟨j,hj,rfl⟩:=List.mem_iff_getElem.mp hr
  have h1:=qa (fun k=>nss.getD k []) (nss.length - 1) j (by omega)
  have h2:=h _ (List.getElem_mem hlt)
  have d1:nss.getD (PySem.argBest (dD nss) (nss.length - 1)) []=nss[PySem.argBest (dD nss) (nss.length - 1)]:=by simp[hlt]
  have d2:nss.getD j []=nss[j]:=by simp[hj]
  have h1:lexLt (nss.getD j []) (nss.getD (PySem.argBest (dD nss) (nss.length - 1)) [])=false:=h1
  rw[d1,d2] at h1
  exact eI h2 h1
 simp only[eS,oneOf,zA,nO,e,zB]
theorem rh{f g:Nat->List Nat}:∀ {l:List Nat},(∀i∈l,f i=g i)->l.flatMap f=l.flatMap g
 | [],_=>rfl
 | i::l,h=>by rw[List.flatMap_cons,List.flatMap_cons,h i zE,rh fun j hj=>h j (zC _ hj)]
theorem tR(f:Nat->Nat):∀ (m:Nat) (l:List Nat),(∀k∈l,f k < m)->((List.range m).flatMap fun i=>l.filter fun k=>decide (f k=i)).Perm l
 | 0,l,h=>by
  cases l with
  | nil=>exact .refl _
  | cons k l=>exact absurd (h k zE) (Nat.not_lt_zero _)
 | m+1,l,h=>by
  rw[List.range_succ,List.flatMap_append]
  have ih:=tR f m (l.filter fun k=>!decide (f k=m)) fun k hk=>by
   have h1:=List.mem_filter.mp hk
   have h2:=h k h1.1
   have h3:f k≠m:=by simpa using h1.2
   omega
  have e:((List.range m).flatMap fun i=>(l.filter fun k=>!decide (f k=m)).filter fun k=>decide (f k=i))=(List.range m).flatMap fun i=>l.filter fun k=>decide (f k=i):=by
   refine rh fun i hi=>?_
   have hi:i < m:=by simpa using hi
   rw[List.filter_filter]
   refine List.filter_congr fun k _=>?_
   by_cases z:f k=i
   ·have:f k≠m:=by omega
    simp[z];omega
   ·simp[z]
  rw[e] at ih
  have e2:([m].flatMap fun i=>l.filter fun k=>decide (f k=i))=l.filter fun k=>decide (f k=m):=by simp
  rw[e2]
  refine (ih.append_right _).trans ?_
  have hp:=List.filter_append_perm (fun k=>decide (f k=m)) l
  exact List.perm_append_comm.trans hp
def sV(W:List Wy)(P:List Int)(k:Nat):List Int:=[(ay W k).1,(ay W k).2.1,P.getD k 0]
theorem yW(h:Wd G T W)(b:Bool):((List.range (aD b G T).length).flatMap fun i=>lst b G T W i).Perm (List.range W.length):=by
 have h1:=tR (fun k=>cP b W k) (aD b G T).length (List.range W.length) fun k hk=>dq h b (by simpa using hk)
 refine List.Perm.trans ?_ h1
 have:∀l:List Nat,(∀i∈l,i < (aD b G T).length)->(l.flatMap fun i=>lst b G T W i).Perm (l.flatMap fun i=>(List.range W.length).filter fun k=>decide (cP b W k=i)):=fun l=>by
  induction l with
  | nil=>exact fun _=>.refl _
  | cons i l ih =>
   intro hl
   rw[List.flatMap_cons,List.flatMap_cons]
   refine List.Perm.append ?_ (ih fun j hj=>hl j (zC _ hj))
   have hi:=hl i zE
   refine (i3 h hi).trans ?_
   unfold own
   refine List.Perm.of_eq (List.filter_congr fun k hk=>?_)
   have hk:k < W.length:=by simpa using hk
   have hz:=(h.end_pl b hk).2.2
   unfold cP
   exact decide_eq_decide.mpr ⟨fun z=>by omega,fun z=>by omega⟩
 exact this _ fun i hi=>by simpa using hi
theorem Ga(h:Wd G T W)(b:Bool):oU (((List.range (aD b G T).length).flatMap fun i=>lst b G T W i).map (sV W P))=(List.range W.length).map (sV W P):=by
 refine (An (((yW h b).map (sV W P)).symm) ?_).symm
 have hp:W.Pairwise fun a b=>a.1 < b.1\/(a.1=b.1/\a.2.1 < b.2.1):=h.wp
 rw[List.pairwise_map]
 refine List.pairwise_lt_range.imp_of_mem fun {i j} hi hj hij=>?_
 have hi:i < W.length:=by simpa using hi
 have hj:j < W.length:=by simpa using hj
 have:=List.pairwise_iff_getElem.mp hp i j hi hj hij
 rw[fQ hi,fQ hj] at this
 unfold lexLe sV
 rw[Bool.not_eq_true']
 show HT.lexLt _ _=false
 rw[HT.aQ]
 rcases this with z|⟨z,y⟩
 ·rw[if_neg (by omega),yA (by omega)]
 ·rw[if_pos z.symm,HT.aQ,if_neg (by omega),yA (by omega)]
end
namespace K42M
theorem IV{n:Nat}{m m':List D->Option D}{fk:Dl.Env->Option D}{fs:Dl.Env->Option (List D)}{ρ:Dl.Env}{ds:List D}{d:D}(b:Bool)(hk:fk ρ=some (.int (sI b)))(h:(if b then m' else m) ds=some d)(hf:fs ρ=some ds)(hn:ds.length=n):qf n m m' fk fs ρ=some d:=by
 cases b
 ·simp only[qf,hk,hf,zA,hn,if_true,sI,Bool.false_eq_true,if_false] at h ⊢
  exact h
 ·simp only[qf,hk,hf,zA,hn,if_true,sI] at h ⊢
  exact h
theorem p9{tgt:aj->D->Option aj}{gb:aj->Option Out}{d:D}{ds:List D}{ρ ρ1 ρ2:aj}(h1:tgt ρ d=some ρ1)(h2:gb ρ1=some (.nx ρ2)):cH tgt gb (d::ds) ρ=cH tgt gb ds ρ2:=by rw[cH,h1,zA,h2];rfl
theorem o5:∀ {l:List (List Int)},(∀r∈l,∃x y m,r=[x,y,m])->nestsOf (l.map fZ)=some l
 | [],_=>rfl
 | r::l,h=>by
  obtain⟨x,y,m,rfl⟩:=h r zE
  have ih:=o5 (l:=l) fun z hz=>h z (zC _ hz)
  simp only[zI,nestsOf,fZ,vf,zA,ih,zB]
theorem G9{l:List Nat}{j:Nat}(hj:j < l.length):l.take (j+1)=l.take j++[l.getD j 0]:=by
 rw[List.take_add_one]
 simp[hj]
section
variable {G T:List Pl}{W:List Wy}{P:List Int}{b:Bool}{i k:Nat}
abbrev EA(W:List Wy)(P:List Int)(k:Nat):D:=fZ (sV W P k)
abbrev st(d0:D)(G T:List Pl)(W:List Wy)(P:List Int)(x3 x4 x5 x6 x7 x8 x9:Slot):aj:=[.val d0,.val (ax G T W),.val (af P),x3,x4,x5,x6,x7,x8,x9,.non,.non,.non,.non]
def aB:aj->Option Out:=(kZ 4 [3,5,8,9] (aC (aa (Ft (fB (f2 bQ (ab 3) (fC (.int 0)))) (aC (aa (ab 5) (aa (ab 8) ae))) (aC (aa (ab 8) (aa (ab 5) ae)))) (aa (ab 9) ae))))
theorem Mq{d0:D}(h:Wd G T W){o m:Int}{acc:List D}(ha:acc.length<=1000){x6 x7:Slot}:aB (st d0 G T W P (.val (.int (sI b))) (.own acc) (.val (nD i)) x6 x7 (.val (.int o)) (.val (.int m)))=some (.nx (st d0 G T W P (.val (.int (sI b))) (.own (acc++[fZ (if b then [o,((i:Nat):Int),m] else [((i:Nat):Int),o,m])])) (.val (nD i)) x6 x7 (.val (.int o)) (.val (.int m)))):=by
 have ev:∀ρ:Dl.Env,ab 3 ρ=some (.int (sI b))->ab 5 ρ=some (nD i)->ab 8 ρ=some (.int o)->ab 9 ρ=some (.int m)->(aC (aa (Ft (fB (f2 bQ (ab 3) (fC (.int 0)))) (aC (aa (ab 5) (aa (ab 8) ae))) (aC (aa (ab 8) (aa (ab 5) ae)))) (aa (ab 9) ae))) ρ=some (fZ (if b then [o,((i:Nat):Int),m] else [((i:Nat):Int),o,m])):=fun ρ e3 e5 e8 e9=>by
  cases b with
  | false=>exact AE (uQ (b9 (aw ((cY _ _).trans rfl) e3 rfl)) (AE e5 e8)) e9
  | true=>exact AE (Ac (b9 (aw ((cY _ _).trans rfl) e3 rfl)) (AE e8 e5)) e9
 unfold aB
 exact GN (ds:=acc) (ev _ rfl rfl rfl rfl) (ev _ rfl rfl rfl rfl) rfl rfl (Nat.lt_of_le_of_lt ha (by decide))
def pB:aj->Option Out:=(av (Dl.az 7 [1,2,3,5] (ah 4 eO (aa (ab 1) (aa (ab 3) (aa (ab 5) (aa (ab 2) ae)))))) (av (hC (qQ (fB (f2 j3 (aU bq (aa (ab 7) ae)) (aU bq (aa (f2 au (ab 6) (fC (.int 1))) ae)))) (fB (f2 j3 (aU md (aa (ab 7) ae)) (qf 3 oE lI (ab 3) (aa (ab 1) (aa (ab 2) (aa (ab 5) ae))))))) (aJ (fC (.bool false))) gN) (cM [6,7] (dz (aa (f2 au (ab 6) (fC (.int 1))) (aa (ab 7) ae))) (dZ 8 9) aB)))
theorem Bc{d0:D}(h:Wd G T W)(p:Pn G T W P)(hi:i < (aD b G T).length){acc:List D}(ha:acc.length<=100){x7 x8 x9:Slot}:∃y7 y8 y9,pB (st d0 G T W P (.val (.int (sI b))) (.own acc) (.val (nD i)) (.val (aW (br b G T i))) x7 x8 x9)=some (.nx (st d0 G T W P (.val (.int (sI b))) (.own (acc++(lst b G T W i).map (EA W P))) (.val (nD i)) (.val (aW (br b G T i))) y7 y8 y9)):=by
 have hw:=h.wl
 have hlen:(lst b G T W i).length=(br b G T i).2.length:=by simp[lst,eU]
 have hll:(lst b G T W i).length<=16:=by
  rw[(i3 h hi).length_eq]
  refine yE (List.length_filter_le _ _) ?_
  rw[zS]
  exact hw
 have hrl:(oK b G T W i P).length=(br b G T i).2.length:=by rw[oK,zD,hlen]
 have er:=vO h p hi
 have lat:∀j,j < (br b G T i).2.length->(lst b G T W i).getD j 0=me b W i ((br b G T i).2.getD j 0):=fun j hj=>by simp[lst,eU,hj]
 have rat:∀j,j < (br b G T i).2.length->(oK b G T W i P).getD j 0=P.getD ((lst b G T W i).getD j 0) 0:=fun j hj=>by
  have:j < (lst b G T W i).length:=by omega
  simp[oK,this,vl]
 have hbd:∀x∈oK b G T W i P,-1000000<=x/\x<=1000000:=fun x hx=>by
  obtain⟨q,hq,rfl⟩:=zQ.mp hx
  have hqW:=((ft h hi).mp hq).1
  have h1:=p.bd q hqW
  have h2:=(h.wr _ (oN hqW)).2.2
  show -1000000<=P.getD q 0/\P.getD q 0<=1000000
  omega
 have es:=Gp (l:=oK b G T W i P) (by omega) hbd
 have et:(oK b G T W i P).sum=j5 b W P i:=(Bw h hi).symm
 rw[et] at es
 have ep:(if b then lI else oE) [ax G T W,af P,nD i]=some (.int (j5 b W P i)):=by
  cases b
  ·exact Mj h p hi
  ·exact IW h p hi
 obtain⟨ρ1,e1,y8,y9,rfl⟩:=mQ (tgt:=dZ 8 9) (gb:=aB) (fun t=>.tuple [.int ((br b G T i).2.getD t 0),.int ((oK b G T W i P).getD t 0)]) (fun t ρ=>∃y8 y9,ρ=st d0 G T W P (.val (.int (sI b))) (.own (acc++((lst b G T W i).take t).map (EA W P))) (.val (nD i)) (.val (aW (br b G T i))) (.val (af (oK b G T W i P))) y8 y9) (br b G T i).2.length 0 (st d0 G T W P (.val (.int (sI b))) (.own acc) (.val (nD i)) (.val (aW (br b G T i))) (.val (af (oK b G T W i P))) x8 x9)
  (fun t ρ _ ht hρ=>by
   obtain⟨y8,y9,rfl⟩:=hρ
   have ht:t < (br b G T i).2.length:=by omega
   have hmem:(br b G T i).2.getD t 0∈(br b G T i).2:=by simp[ht]
   obtain⟨a1,a2,a3⟩:=lF h (iF hi) hmem
   have hs:=Mq (d0:=d0) (P:=P) (b:=b) (i:=i) (o:=(br b G T i).2.getD t 0) (m:=(oK b G T W i P).getD t 0) (acc:=acc++((lst b G T W i).take t).map (EA W P)) (x6:=.val (aW (br b G T i))) (x7:=.val (af (oK b G T W i P))) h (by
    rw[zN,zD,List.length_take];omega)
   refine⟨_,_,rfl,hs,.val (.int ((br b G T i).2.getD t 0)),.val (.int ((oK b G T W i P).getD t 0)),?_⟩
   have hrow:fZ (if b then [(br b G T i).2.getD t 0,((i:Nat):Int),(oK b G T W i P).getD t 0] else [((i:Nat):Int),(br b G T i).2.getD t 0,(oK b G T W i P).getD t 0])=EA W P ((lst b G T W i).getD t 0):=by
    rw[rat t ht,lat t ht]
    unfold EA sV
    cases b
    ·rw[show (ay W (me false W i ((br false G T i).2.getD t 0))).1=((i:Nat):Int) from a2,show (ay W (me false W i ((br false G T i).2.getD t 0))).2.1=_ from a3]
     rfl
    ·rw[show (ay W (me true W i ((br true G T i).2.getD t 0))).2.1=((i:Nat):Int) from a2,show (ay W (me true W i ((br true G T i).2.getD t 0))).1=_ from a3]
     rfl
   rw[hrow,G9 (show t < (lst b G T W i).length by omega),List.map_append,<- List.append_assoc]
   rfl) ⟨x8,x9,by simp⟩
 rw[Nat.zero_add,List.take_of_length_le (by omega),<- yI] at e1
 unfold pB
 refine⟨.val (af (oK b G T W i P)),y8,y9,?_⟩
 refine (ai (bb (call_of er rfl rfl) (call_of er rfl rfl) rfl)).trans ?_
 have elk:∀ρ:Dl.Env,ab 6 ρ=some (aW (br b G T i))->f2 au (ab 6) (fC (.int 1)) ρ=some (af (br b G T i).2):=fun ρ e=>aw (a:=aW (br b G T i)) (b:=.int 1) rfl e rfl
 refine (ai (cZ (MY (b9 (aw ((xl _ _).trans (by rw[hrl,yB rfl];rfl)) ((jD rfl).trans (v7 _)) ((jD (elk _ rfl)).trans (v7 _)))) (b9 (aw ((xl _ _).trans (by rw[yB rfl];rfl)) ((jD rfl).trans es) (IV b rfl ep rfl rfl)))))).trans ?_
 refine bG e1 ?_ rfl
 show ((aa _ (aa _ ae)) _).bind MK=_
 rw[cons_of (elk _ rfl) (cons_of rfl rfl)]
 show some (gT ((br b G T i).2.map PyData.int) ((oK b G T W i P).map PyData.int))=_
 rw[zip_rows (by omega)]
def flt(b:Bool)(G T:List Pl)(W:List Wy)(j:Nat):List Nat:=(List.range j).flatMap fun i=>lst b G T W i
theorem KL(j:Nat):flt b G T W (j+1)=flt b G T W j++lst b G T W j:=by
 unfold flt
 rw[List.range_succ,List.flatMap_append]
 simp
theorem GC(h:Wd G T W){j:Nat}(hj:j<=(aD b G T).length):(flt b G T W j).length<=W.length:=by
 have h1:=(yW h b).length_eq
 rw[zS] at h1
 have key:∀d,(flt b G T W j).length<=(flt b G T W (j+d)).length:=fun d=>by
  induction d with
  | zero=>exact zzA _
  | succ d ih=>rw[<- Nat.add_assoc,KL,zN];omega
 have:=key ((aD b G T).length - j)
 rw[show j+((aD b G T).length - j)=(aD b G T).length by omega] at this
 unfold flt at this ⊢
 omega
def sB:aj->Option Out:=(av (aM 4 [] (eV ae)) (av (cM [1,3] (bx (aa (f2 au (ab 1) (ab 3)) ae)) (dZ 5 6) pB) (hC (fB (f2 j3 (aU bo (aa (cx (aq 2 [] (aO (cx (lX kK (aa (ab 4) ae)))) (gw 0 1) (fun _=>some true) (ab 1))) ae)) (ab 2))) (aJ (fC (.bool false))) gN)))
theorem EF(h:Wd G T W)(b:Bool):kK [.list ((flt b G T W (aD b G T).length).map (EA W P))]=some ((List.range W.length).map fun k=>.tuple [.tuple [.int (ay W k).1,.int (ay W k).2.1],.int (P.getD k 0)]):=by
 have hw:=h.wl
 have e:(flt b G T W (aD b G T).length).map (EA W P)=((flt b G T W (aD b G T).length).map (sV W P)).map fZ:=by rw[zM];rfl
 have hn:∀r∈(flt b G T W (aD b G T).length).map (sV W P),∃x y m,r=[x,y,m]:=fun r hr=>by
  obtain⟨k,_,rfl⟩:=zQ.mp hr
  exact⟨_,_,_,rfl⟩
 have hl:((flt b G T W (aD b G T).length).map (sV W P)).length < 64:=by
  rw[zD]
  have:=GC h (b:=b) (zzA _)
  omega
 rw[e]
 simp only[kK,oneOf,zA,o5 hn,if_pos hl]
 rw[show oU ((flt b G T W (aD b G T).length).map (sV W P))=_ from Ga h b,zM]
 rfl
theorem ET{d0:D}(h:Wd G T W)(p:Pn G T W P){x4 x5 x6 x7 x8 x9:Slot}:∃y4 y5 y6 y7 y8 y9,sB (st d0 G T W P (.val (.int (sI b))) x4 x5 x6 x7 x8 x9)=some (.nx (st d0 G T W P (.val (.int (sI b))) y4 y5 y6 y7 y8 y9)):=by
 have hw:=h.wl
 have h4:=h.pl b
 obtain⟨ρ1,e1,y5,y6,y7,y8,y9,rfl⟩:=mQ (tgt:=dZ 5 6) (gb:=pB) (fun k=>.tuple [nD k,aW ((aD b G T).getD k (0,[]))]) (fun j ρ=>∃y5 y6 y7 y8 y9,ρ=st d0 G T W P (.val (.int (sI b))) (.own ((flt b G T W j).map (EA W P))) y5 y6 y7 y8 y9) (aD b G T).length 0 (st d0 G T W P (.val (.int (sI b))) (.own []) x5 x6 x7 x8 x9)
  (fun j ρ _ hj hρ=>by
   obtain⟨y5,y6,y7,y8,y9,rfl⟩:=hρ
   have hj:j < (aD b G T).length:=by omega
   obtain⟨z7,z8,z9,e⟩:=Bc (d0:=d0) (b:=b) (i:=j) (x7:=y7) (x8:=y8) (x9:=y9) h p hj (acc:=(flt b G T W j).map (EA W P)) (by
    rw[zD];have:=GC h (b:=b) (j:=j) (by omega);omega)
   refine⟨_,_,rfl,e,.val (nD j),.val (aW (br b G T j)),z7,z8,z9,?_⟩
   rw[KL,List.map_append]) ⟨x5,x6,x7,x8,x9,rfl⟩
 rw[<- yI,<- ml,Nat.zero_add] at e1
 unfold sB
 refine⟨.own ((flt b G T W (aD b G T).length).map (EA W P)),y5,y6,y7,y8,y9,?_⟩
 refine (ai (eR (ds:=[]) rfl rfl)).trans ?_
 refine (ai (bG e1 ?_ rfl)).trans ?_
 ·show ((aa _ ae) _).bind (fun ds=>(dO ds).map (bK 0))=_
  rw[cons_of (aw (jQ b G T W) rfl rfl) rfl]
  rfl
 refine cZ (b9 (aw (nJ P) ?_ rfl))
 have es:∀ρ:Dl.Env,ab 4 ρ=some (.list ((flt b G T W (aD b G T).length).map (EA W P)))->aO (cx (lX kK (aa (ab 4) ae))) ρ=some ((List.range W.length).map fun k=>.tuple [.tuple [.int (ay W k).1,.int (ay W k).2.1],.int (P.getD k 0)]):=fun ρ a4=>by
  refine CI (u0 ?_)
  show ((aa _ ae) ρ).bind kK=_
  rw[cons_of a4 rfl]
  exact EF h b
 have c:=ji (cs:=[]) (tt:=fun _=>some true) (te:=ab 1) (p:=fun _=>true) (h:=fun k=>.int (P.getD k 0)) (es (bA (st d0 G T W P (.val (.int (sI b))) (.own ((flt b G T W (aD b G T).length).map (EA W P))) y5 y6 y7 y8 y9)) rfl) (by omega) fun k hk=>⟨rfl,fun _=>rfl⟩
 rw[List.filter_eq_self.mpr fun _ _=>rfl] at c
 refine (jD (u0 c)).trans ?_
 rw[qx]
 show some (PyData.tuple _)=some (.tuple (P.map PyData.int))
 rw[<- p.len]
 exact congrArg (fun z=>some (PyData.tuple z)) (map_range 0 PyData.int P)
abbrev nh(d0:D)(G T:List Pl)(W:List Wy)(P:List Int)(x3 x4 x5 x6 x7 x8 x9 x12:Slot):aj:=[.val d0,.val (ax G T W),.val (af P),x3,x4,x5,x6,x7,x8,x9,.val (.list ((allR G T W).map af)),.val (.tuple [af (j1 G T W),af (gn G T W)]),x12,.non]
def bB:aj->Option Out:=(av (aM 12 [1,3,5,10] (aq 1 [1,3,5] (aO (ab 10)) (fG 0) (fun _=>some true) (ah 4 eO (aa (ab 1) (aa (ab 2) (aa (ab 3) (aa (ab 0) ae))))))) (av (hC (fB (f2 j3 (aU (eS dC) (aa (ab 12) ae)) (ah 4 eO (aa (ab 1) (aa (ab 3) (aa (ab 5) (aa (f2 au (ab 11) (ab 3)) ae))))))) (aJ (fC (.bool false))) gN) (hC (fB (f2 j3 (aU (eS dD) (aa (ab 12) ae)) (ah 4 eO (aa (ab 1) (aa (ab 3) (aa (ab 5) (aa (f2 au (ab 11) (f2 Dl.gP (fC (.int 1)) (ab 3))) ae))))))) (aJ (fC (.bool false))) gN)))
theorem ME{d0:D}(h:Wd G T W)(hR:(allR G T W).length<=81)(hi:i < (aD b G T).length){x4 x6 x7 x8 x9 x12:Slot}:∃y12,bB (nh d0 G T W P (.val (.int (sI b))) x4 (.val (nD i)) x6 x7 x8 x9 x12)=some (.nx (nh d0 G T W P (.val (.int (sI b))) x4 (.val (nD i)) x6 x7 x8 x9 y12)):=by
 have p0:=jP h
 have p1:=E6 h
 have r0:=GL h
 have r1:=Oq h
 have pb:Pn G T W (if b then gn G T W else j1 G T W):=by cases b<;>assumption
 have po:Pn G T W (if b then j1 G T W else gn G T W):=by cases b<;>assumption
 have mb:(if b then gn G T W else j1 G T W)∈allR G T W:=(kA h).mpr (by cases b<;>exact⟨by assumption,by assumption⟩)
 have mo:(if b then j1 G T W else gn G T W)∈allR G T W:=(kA h).mpr (by cases b<;>exact⟨by assumption,by assumption⟩)
 have gmax:=NF (nss:=(allR G T W).map (oK b G T W i)) (r:=oK b G T W i (if b then gn G T W else j1 G T W)) (zQ.mpr ⟨_,mb,rfl⟩) fun x hx=>by
  obtain⟨X,hX,rfl⟩:=zQ.mp hx
  obtain⟨pX,rX⟩:=(kA h).mp hX
  refine Fn h pb pX hi ?_
  cases b
  ·exact Jx h pX rX
  ·exact (yg h pX rX).1
 have gmin:=Nw (nss:=(allR G T W).map (oK b G T W i)) (r:=oK b G T W i (if b then j1 G T W else gn G T W)) (zQ.mpr ⟨_,mo,rfl⟩) fun x hx=>by
  obtain⟨X,hX,rfl⟩:=zQ.mp hx
  obtain⟨pX,rX⟩:=(kA h).mp hX
  refine Fn h pX po hi ?_
  rw[B4 (by rw[pX.len,po.len])]
  cases b
  ·exact (yg h pX rX).2
  ·exact JB h pX rX
 have er:∀ρ:Dl.Env,ab 1 ρ=some (ax G T W)->ab 3 ρ=some (.int (sI b))->ab 5 ρ=some (nD i)->ab 10 ρ=some (.list ((allR G T W).map af))->(aq 1 [1,3,5] (aO (ab 10)) (fG 0) (fun _=>some true) (ah 4 eO (aa (ab 1) (aa (ab 2) (aa (ab 3) (aa (ab 0) ae)))))) ρ=some (((allR G T W).map (oK b G T W i)).map af):=fun ρ a1 a3 a5 a10=>by
  have a1':(ρ[1]?).getD none=some (ax G T W):=a1
  have a3':(ρ[3]?).getD none=some (.int (sI b)):=a3
  have a5':(ρ[5]?).getD none=some (nD i):=a5
  have c:=oD (ρ:=ρ) (fi:=aO (ab 10)) (cs:=[1,3,5]) (tt:=fun _=>some true) (te:=(ah 4 eO (aa (ab 1) (aa (ab 2) (aa (ab 3) (aa (ab 0) ae)))))) (g:=af) (f:=fun X=>af (oK b G T W i X)) (q:=fun _=>true) (l:=allR G T W) (CI a10) (by omega) fun X hX=>⟨rfl,fun _=>by
   rw[zI,zI,zI,List.map_nil,a1',a3',a5']
   exact call_of (vO h ((kA h).mp hX).1 hi) rfl rfl⟩
  rw[List.filter_eq_self.mpr fun _ _=>rfl] at c
  rw[c,zM]
  rfl
 have eb:au (.tuple [af (j1 G T W),af (gn G T W)]) (.int (sI b))=some (af (if b then gn G T W else j1 G T W)):=by cases b<;>rfl
 have eo:au (.tuple [af (j1 G T W),af (gn G T W)]) (.int (1 - sI b))=some (af (if b then j1 G T W else gn G T W)):=by cases b<;>rfl
 unfold bB
 refine⟨.own (((allR G T W).map (oK b G T W i)).map af),?_⟩
 refine (ai (eR (er _ rfl rfl rfl rfl) rfl)).trans ?_
 refine (ai (cZ (b9 (aw (nJ _) ((jD rfl).trans gmax) (call_of (vO h pb hi) (cons_of rfl (cons_of rfl (cons_of rfl (cons_of (aw eb rfl rfl) rfl)))) rfl))))).trans ?_
 exact cZ (b9 (aw (nJ _) ((jD rfl).trans gmin) (call_of (vO h po hi) (cons_of rfl (cons_of rfl (cons_of rfl (cons_of (aw eo rfl (aw (mI 1 _) rfl rfl)) rfl)))) rfl)))
theorem HC{d0:D}(h:Wd G T W)(hR:(allR G T W).length<=81)(b:Bool){x4 x5 x6 x7 x8 x9 x12:Slot}:∃y5 y12,cM [1,3] (bj (aa (aU bq (aa (f2 au (ab 1) (ab 3)) ae)) ae)) (lA 5) bB (nh d0 G T W P (.val (.int (sI b))) x4 x5 x6 x7 x8 x9 x12)=some (.nx (nh d0 G T W P (.val (.int (sI b))) x4 y5 x6 x7 x8 x9 y12)):=by
 obtain⟨ρ1,e1,y5,y12,rfl⟩:=mQ (tgt:=lA 5) (gb:=bB) nD (fun _ ρ=>∃y5 y12,ρ=nh d0 G T W P (.val (.int (sI b))) x4 y5 x6 x7 x8 x9 y12) (aD b G T).length 0 (nh d0 G T W P (.val (.int (sI b))) x4 x5 x6 x7 x8 x9 x12)
  (fun j ρ _ hj hρ=>by
   obtain⟨y5,y12,rfl⟩:=hρ
   obtain⟨z12,e⟩:=ME (d0:=d0) (P:=P) (b:=b) (i:=j) (x4:=x4) (x6:=x6) (x7:=x7) (x8:=x8) (x9:=x9) (x12:=y12) h hR (by omega)
   exact⟨_,_,rfl,e,_,_,rfl⟩) ⟨_,_,rfl⟩
 rw[<- yI] at e1
 have h4:=h.pl b
 exact⟨y5,y12,bG e1 (rR (FI (b:=b) rfl rfl) (by omega)) rfl⟩
theorem Ic(P:List Int):mx P P=P:=by
 unfold mx
 induction P with
 | nil=>rfl
 | cons x P ih=>rw[List.zipWith_cons_cons,ih,Int.max_self]
theorem JT{P X:List Int}(hp:P.length=X.length):mx (mx P X) P=mx P X:=by
 unfold mx
 induction P generalizing X with
 | nil=>rfl
 | cons x P ih =>
  cases X with
  | nil=>rfl
  | cons y X =>
   rw[List.zipWith_cons_cons,List.zipWith_cons_cons,ih (by simpa using hp)]
   congr 1
   omega
theorem main(ns:List Int)(hl:ns.length<=63):i6 [.list (ns.map PyData.int)]=some (.bool true):=by
 obtain⟨G,T,W,ew,h,few⟩:=wR (ns:=ns) (a:=0) (mo:=4) hl (by omega)
 have hw4:W.length<=4:=by have:=few.wm;omega
 have ep:=Bq (ns:=ns) (at':=70) hl h
 have p:=Je (ns:=ns) (at':=70) hl h
 generalize mn (rY ns 70 W) G T W W.length=P at ep p
 obtain⟨ea,hR⟩:=xY h (fun w hw=>⟨by have:=(h.wr w hw).2.2;omega,few.w2 w hw⟩) hw4
 have p0:=jP h
 have p1:=E6 h
 obtain⟨a4,a5,a6,a7,a8,a9,e0⟩:=ET (d0:=bW ns) (b:=false) (x4:=.non) (x5:=.non) (x6:=.non) (x7:=.non) (x8:=.non) (x9:=.non) h p
 obtain⟨c4,c5,c6,c7,c8,c9,e1⟩:=ET (d0:=bW ns) (b:=true) (x4:=a4) (x5:=a5) (x6:=a6) (x7:=a7) (x8:=a8) (x9:=a9) h p
 obtain⟨u5,u12,f0⟩:=HC (d0:=bW ns) (P:=P) (x4:=c4) (x5:=c5) (x6:=c6) (x7:=c7) (x8:=c8) (x9:=c9) (x12:=.non) h hR false
 obtain⟨v5,v12,f1⟩:=HC (d0:=bW ns) (P:=P) (x4:=c4) (x5:=u5) (x6:=c6) (x7:=c7) (x8:=c8) (x9:=c9) (x12:=u12) h hR true
 have l1:cH (lA 3) sB [.int (sI false),.int (sI true)] (st (bW ns) G T W P .non .non .non .non .non .non .non)=some (.nx (st (bW ns) G T W P (.val (.int (sI true))) c4 c5 c6 c7 c8 c9)):=by
  rw[p9 (ρ1:=st (bW ns) G T W P (.val (.int (sI false))) .non .non .non .non .non .non) rfl e0,p9 (ρ1:=st (bW ns) G T W P (.val (.int (sI true))) a4 a5 a6 a7 a8 a9) rfl e1]
  rfl
 have l2:cH (lA 3) (cM [1,3] (bj (aa (aU bq (aa (f2 au (ab 1) (ab 3)) ae)) ae)) (lA 5) bB) [.int (sI false),.int (sI true)] (nh (bW ns) G T W P (.val (.int (sI true))) c4 c5 c6 c7 c8 c9 .non)=some (.nx (nh (bW ns) G T W P (.val (.int (sI true))) c4 v5 c6 c7 c8 c9 v12)):=by
  rw[p9 (ρ1:=nh (bW ns) G T W P (.val (.int (sI false))) c4 c5 c6 c7 c8 c9 .non) rfl f0,p9 (ρ1:=nh (bW ns) G T W P (.val (.int (sI true))) c4 u5 c6 c7 c8 c9 u12) rfl f1]
  rfl
 have hb:(j1 G T W).length=(gn G T W).length:=by rw[p0.len,p1.len]
 have hw:=h.wl
 have g1:=lH (P:=j1 G T W) (X:=gn G T W) hb (by rw[p0.len];omega)
 have g2:=lH (P:=mx (j1 G T W) (gn G T W)) (X:=j1 G T W) (by rw[kJ hb]) (by rw[kJ hb,p0.len];omega)
 rw[JT hb] at g2
 have g3:=lH (P:=P) (X:=P) rfl (by rw[p.len];omega)
 rw[Ic] at g3
 have g4:=lH (P:=gn G T W) (X:=j1 G T W) hb.symm (by rw[p1.len];omega)
 rw[B4 hb.symm] at g4
 refine aI ?_
 show lg [.val (bW ns),.non,.non,.non,.non,.non,.non,.non,.non,.non,.non,.non,.non,.non]=_
 unfold lg
 refine (ai (bb (call_of ew rfl rfl) (call_of ew rfl rfl) rfl)).trans ?_
 refine (ai (bb (call_of ep rfl rfl) (call_of ep rfl rfl) rfl)).trans ?_
 refine (ai (bG l1 (Gu _) rfl)).trans ?_
 have x4h:∀d:D,hand [1] 0 (st (bW ns) G T W P (.val (.int (sI true))) c4 c5 c6 c7 c8 c9)=st (bW ns) G T W P (.val (.int (sI true))) c4 c5 c6 c7 c8 c9:=fun _=>rfl
 refine (ai (bb (call_of ea rfl rfl) (call_of ea rfl rfl) rfl)).trans ?_
 refine (ai (bb (AE (call_of (A8 h) rfl rfl) (call_of (B6 h) rfl rfl)) (AE (call_of (A8 h) rfl rfl) (call_of (B6 h) rfl rfl)) rfl)).trans ?_
 refine (ai (bG l2 (Gu _) rfl)).trans ?_
 refine (ai (bb (call_of g1 (cons_of (aw (HL _ _) rfl rfl) (cons_of (aw (Kk _ _ _) rfl rfl) rfl)) rfl) (call_of g1 (cons_of (aw (HL _ _) rfl rfl) (cons_of (aw (Kk _ _ _) rfl rfl) rfl)) rfl) rfl)).trans ?_
 exact aK (vB (a:=true) (b:=true) (aw ((qc _ _).trans (by rw[yB rfl])) (call_of g2 (cons_of rfl (cons_of (aw (HL _ _) rfl rfl) rfl)) rfl) rfl) (vB (a:=true) (b:=true) (aw ((qc _ _).trans (by rw[yB rfl])) (call_of g3 rfl rfl) rfl) (aw ((qc _ _).trans (by rw[yB rfl])) (call_of g4 (cons_of (aw (Kk _ _ _) rfl rfl) (cons_of (aw (HL _ _) rfl rfl) rfl)) rfl) rfl)))
end
end K42M
end Wm
namespace K42
open PySem L2 Dl PySem.Spec PyProof.Rows Pg Hd
theorem main(ns:List Int)(h:ns.length<=63):i6 [.list (ns.map PyData.int)]=some (.bool true):=Wm.K42M.main ns h
theorem ins(P:Params):NY (Kf P):=⟨f3 82 81 il,f2 89 88 il,f3 96 95 il,f2 101 100 il,f2 108 107 il,f3 115 114 il,f3 120 119 il,f1 125 124 il,f1 130 129 il,f4 135 134 il,f3 140 139 il,f2 145 144 il,f1 152 151 il,f2 159 158 il,f3 166 165 il,f2 173 172 il,f1 180 179 il,f3 187 186 il,f3 194 193 il,l1 201 200 il,f1 206 205 il,f2 211 210 il,f3 218 217 zy,f3 225 224 zy,l3 230 229 zy,f4 235 234 zy,f4 240 239 zy,f3 247 246 zy,f2 254 253 zy,f2 261 260 zy,f3 266 265 zv,f1 271 270 zv,f3 278 277 zv,f2 285 284 zv,f1 292 291 zv,f2 299 298 zv,f1 306 305 zv,f1 313 312 zv,f2 318 317 Nm,f4 323 322 Nm,f4 330 329 Nm,f1 337 336 KF,f1 342 341 KF,f1 347 346 KF,f1 352 351 KF,f2 359 358 wK,f3 366 365 wK,f3 373 372 wK,f3 378 377 wK,f4 383 382 wK,f2 390 389 wK,f1 395 394 wK,f3 402 401 wK,f1 407 406 wK,Dl.GJ (t:=273) (by kernel_rfl),Dl.GJ (t:=275) (by kernel_rfl),Dl.GJ (t:=600) (by kernel_rfl),Dl.MH (by kernel_rfl) (by kernel_rfl) (by kernel_rfl) (by kernel_rfl) (by kernel_rfl) (by kernel_rfl) (by kernel_rfl) (by kernel_rfl) (by kernel_rfl) (by kernel_rfl) (by kernel_rfl) (by kernel_rfl) (by kernel_rfl) (by kernel_rfl) (by kernel_rfl) (by kernel_rfl) (by kernel_rfl)⟩
theorem Qh(w:World):m7 (Kf w.params) [196,227]=true:=by kernel_rfl
end K42
open PySem PySem.W PyProof.Rows
theorem PySem.Challenge.cw_stillflow_k42_whole_ranks_holds : PySem.Challenge.rw_stillflow_k42_whole_ranks.Holds := by
 refine holds_law K42.Pt fun k1=>?_
 refine holds_open (XP:=XL K42.vw []) (YP:=K42.hk.says) K42.left K42.hk.of K42.hk.keeps (fun s e=>xl_of s (Bool.and_eq_true_iff.mp e).1) XL.keeps (by rfl) (by rfl) (by rfl) (fun s e=>recFacts_of (Bool.and_eq_true_iff.mp e).2) (by rfl) k1 (by decide +kernel) ⟨rfl,rfl,rfl,rfl,rfl,by decide +kernel⟩ ?hw ?hc
 case hw=>w_witness2
 case hc=>exact K42.walk (l:=PySem.Challenge.rw_stillflow_k42_whole_ranks) (K:=K42.Kf) (ts:=[196,227]) rfl rfl rfl (fun w h Y=>⟨Y.1,Y.2⟩) K42.Qh (fun w=>K42.ins w.params) K42.main
