import PyProof.Rows.All
import Wide.All
import OpenK.AllK
import Wide.FinOn
import PyProof.EqAt
import PyProof.EqKinds
import PyProof.TupleCall
import Lean
import PyProof.Draws
import PyProof.ListRange
import PySem.Challenge.RW_stillflow_k52_whole_little_changes
set_option Elab.async false
set_option linter.all false
set_option maxRecDepth 100000
set_option maxHeartbeats 4000000
abbrev _root_.zA:=@Option.bind_some
abbrev _root_.zB:=@Option.map_some
abbrev _root_.zC:=@List.mem_cons_of_mem
abbrev _root_.zD:=@List.length_map
abbrev _root_.zE:=@List.mem_cons_self
abbrev _root_.zF:=@Bool.and_eq_true
abbrev _root_.zG:=@List.getD_eq_getElem?_getD
abbrev _root_.zH:=@List.size_toArray
abbrev _root_.zI:=@List.map_cons
abbrev _root_.zJ:=@decide_eq_true_eq
abbrev _root_.zK:=@List.getElem?_eq_getElem
abbrev _root_.zL:=@List.length_cons
abbrev _root_.zM:=@List.map_map
abbrev _root_.zN:=@List.length_append
abbrev _root_.zO:=@List.getElem?_map
abbrev _root_.zP:=@Nat.lt_of_lt_of_le
abbrev _root_.zQ:=@List.mem_map
abbrev _root_.zR:=@List.mem_cons
abbrev _root_.zS:=@List.length_range
abbrev _root_.zT:=@List.mem_range
abbrev _root_.zU:=@List.getElem?_eq_some_iff
abbrev _root_.zV:=@PySem.Heap.get?_push_of_some
abbrev _root_.zW:=@PySem.wpAny_bind
abbrev _root_.zX:=@PySem.wpAny_pure
abbrev _root_.zY:=@PySem.Heap.get?_push_size
abbrev _root_.zZ:=@PySem.Heap.lt_size
abbrev _root_.yA:=@decide_eq_false
abbrev _root_.yB:=@decide_eq_true
abbrev _root_.yC:=@List.lookup_cons
abbrev _root_.yD:=@List.length_set
abbrev _root_.yE:=@Nat.le_trans
abbrev _root_.yF:=@List.mem_append_right
abbrev _root_.yG:=@List.not_mem_nil
abbrev _root_.yH:=@Int.toNat_natCast
abbrev _root_.yI:=@List.range_eq_range'
abbrev _root_.yJ:=@List.map_congr_left
abbrev _root_.yK:=@List.foldl_cons
abbrev _root_.yL:=@List.mem_singleton
abbrev _root_.yM:=@Option.some.injEq
namespace L2
open PySem
noncomputable def iG(s:Stmt):Arguments:=match s with
 | .FunctionDef _ a _ _ _ _ _ _ _ _=>a
 | _=>{ posonlyargs:=[],args:=[],vararg:=none,kwonlyargs:=[],kw_defaults:=[],kwarg:=none,defaults:=[] }
noncomputable def cL(s:Stmt):List Stmt:=match s with
 | .FunctionDef _ _ b _ _ _ _ _ _ _=>b
 | _=>[]
noncomputable def aS(s:Stmt):Scope:=match s with
 | .FunctionDef _ _ _ _ _ _ sc _ _ _=>sc
 | _=>{ kind:=.function,names:=[],isGenerator:=false,isCoroutine:=false }
end L2
namespace Hd
open PySem L2 PySem.Spec PyProof.Rows
noncomputable def en(P:Params)(x:String)(t:Nat)(v:Value):DictEntry:=⟨PyData.keyHash P (Str.ofString x),.str (Str.ofString x) t,v⟩
noncomputable def fo(x:Str)(st:Stmt)(pm:Value)(c:Addr):Obj:=⟨.type "function",none,.func (W.fnOf x x (iG st) (cL st) (aS st) .none .none .none pm none (.ref c) .none),#[]⟩
noncomputable def co(vs:List Value):Obj:=⟨.type "code",none,.fields vs.toArray,#[]⟩
noncomputable def rfV(n:Nat):Value:=if n=0 then .none else .ref n
noncomputable def cdo(x:Str)(t l n a b c d e f u:Nat):Obj:=co [.str x t,.str x (t+1),.str "/claim/cut.py" (t+2),.int l 0,.int n 0,.int 0 0,.int 0 0,.int 3 0,rfV a,.bool true,.int 181 0,rfV b,rfV c,rfV d,rfV e,rfV f,.int u 0,.int l 0,.str "/claim/cut.py" (u+1)]
theorem lf_all{S A B C D E F J O:Type}{x:Option S}{f:S->A×B×C×D×E×F×J}{o:S->O}{g:A×B×C×D×E×F×J}{v:O}(h0:x.map (fun s=>(f s).1)=some g.1)(h1:x.map (fun s=>(f s).2.1)=some g.2.1)(h2:x.map (fun s=>(f s).2.2.1)=some g.2.2.1)(h3:x.map (fun s=>((f s).2.2.2.1,(f s).2.2.2.2.1))=some (g.2.2.2.1,g.2.2.2.2.1))(h4:x.map (fun s=>(f s).2.2.2.2.2.1)=some g.2.2.2.2.2.1)(h5:x.map (fun s=>(f s).2.2.2.2.2.2)=some g.2.2.2.2.2.2)(h6:x.map o=some v):x.map (fun s=>(f s,o s))=some (g,v):=by
 obtain⟨a,b,c,d,e,i,j⟩:=g
 cases x with
 | none=>cases h0
 | some s =>
  simp only[zB,yM,Prod.mk.injEq] at h0 h1 h2 h3 h4 h5 h6 ⊢
  refine⟨?_,h6⟩
  generalize f s=t at *
  obtain⟨a',b',c',d',e',i',j'⟩:=t
  dsimp only at *
  obtain⟨h3,h3'⟩:=h3
  subst h0 h1 h2 h3 h3' h4 h5
  rfl
end Hd
namespace K52
open PySem L2 PySem.Spec PyProof.Rows Hd PySem.W
noncomputable abbrev top(i:Nat):Stmt:=PySem.Challenge.pw_stillflow_k52_whole_little_changes.main.body.getD i (.Pass ⟨0,0,0,0⟩)
noncomputable def vw:Program:=W.view PySem.Challenge.pw_stillflow_k52_whole_little_changes [1,2,3,4,6,7,8,9,10,11,12,13,14,15,16,17,18,19,20,21,22,23,24,25,26,27,28,29,31,32,33,34,35,36,37,38,40,41,42,43,44,45,46,47,48,50,51,52,53,54,55,56,57,59,60,61,62,63,65,66,68,69,70,71,72]
noncomputable def iC:Value:=(.str "stillflow.worlds" 255)
noncomputable def zu:Value:=(.str "stillflow.changes" 423)
noncomputable def xk:Value:=(.str "stillflow.flows" 504)
noncomputable def zv:Value:=(.str "stillflow.finding" 576)
noncomputable def Ih:Value:=(.str "stillflow.comparing" 647)
noncomputable def Pe:Value:=(.str "stillflow.listing" 688)
noncomputable def Ii:Value:=(.str "law_stillflow_k52_whole_little_changes" 704)
noncomputable def Kf(P:Params):W.Frag:=[(3,⟨.type "dict",none,.dict #[en P "__name__" 165 (.str "law_stillflow_k52_whole_little_changes" 704),en P "__doc__" 166 .none,en P "__package__" 167 .none,en P "__loader__" 168 (.builtin "__main__.__loader__#opaque"),en P "__spec__" 169 .none,en P "__annotations__" 170 (.ref 6),en P "__builtins__" 171 (.ref 4),en P "__file__" 173 (.str "/claim/cut.py" 172),en P "__cached__" 174 .none,en P "FlowError" 206 (.ref 24),en P "NoWorld" 222 (.ref 37),en P "NoPlan" 238 (.ref 49),en P "NoPlace" 254 (.ref 61),en P "MOST_PLACES" 258 (.int 4 257),en P "MOST" 260 (.int 9 259),en P "is_whole" 269 (.ref 70),en P "is_number" 277 (.ref 77),en P "is_long" 286 (.ref 84),en P "are_likes" 292 (.ref 89),en P "is_end" 300 (.ref 96),en P "is_way" 309 (.ref 103),en P "are_parts" 315 (.ref 108),en P "liked_pairs" 321 (.ref 113),en P "is_world" 327 (.ref 118),en P "through" 333 (.ref 123),en P "keeps_amounts" 339 (.ref 128),en P "is_plan" 345 (.ref 133),en P "check_world" 352 (.ref 140),en P "check_plan" 360 (.ref 147),en P "check_whole" 369 (.ref 154),en P "check_number" 377 (.ref 161),en P "check_side" 384 (.ref 168),en P "check_place" 393 (.ref 175),en P "replaced" 402 (.ref 182),en P "turned_order" 410 (.ref 189),en P "turned" 416 (.ref 194),en P "turned_plan" 422 (.ref 199),en P "with_end" 435 (.ref 206),en P "with_likes" 445 (.ref 213),en P "with_ways" 453 (.ref 220),en P "with_amount" 463 (.ref 227),en P "with_limit" 473 (.ref 234),en P "without_way" 479 (.ref 239),en P "inserted" 488 (.ref 246),en P "with_way" 503 (.ref 253),en P "sent" 514 (.ref 260),en P "taken" 523 (.ref 267),en P "ways_of" 529 (.ref 272),en P "chosen_by" 535 (.ref 277),en P "wants_more" 541 (.ref 282),en P "why_kept" 550 (.ref 289),en P "first_leaving" 559 (.ref 296),en P "is_still" 567 (.ref 303),en P "rests" 575 (.ref 310),en P "chosen_by_all" 583 (.ref 315),en P "limits" 589 (.ref 320),en P "lowered" 598 (.ref 327),en P "refused" 610 (.ref 334),en P "steps" 620 (.ref 341),en P "capped" 631 (.ref 348),en P "givers_best" 638 (.ref 355),en P "takers_best" 646 (.ref 362),en P "greater" 654 (.ref 367),en P "on_ways_of" 660 (.ref 372),en P "would_keep" 672 (.ref 379),en P "check_both" 681 (.ref 386),en P "all_like" 687 (.ref 391),en P "through_all" 695 (.ref 396),en P "totals" 703 (.ref 403),en P "_law_cell" 713 (.ref 410),en P "_law_drawn" 723 (.ref 417),en P "_law_orders" 738 (.ref 424),en P "_law_world" 744 (.ref 429),en P "law" 767 (.ref 436)] 74,#[]⟩),
 (69,cdo "is_whole" 261 13 3 64 65 0 66 67 68 267),
 (70,fo "is_whole" (top 8) iC 69),
 (76,cdo "is_number" 270 17 2 71 72 0 73 74 75 275),
 (77,fo "is_number" (top 9) iC 76),
 (83,cdo "is_long" 278 19 3 78 79 0 80 81 82 284),
 (84,fo "is_long" (top 10) iC 83),
 (88,cdo "are_likes" 287 21 2 85 86 0 0 0 87 290),
 (89,fo "are_likes" (top 11) iC 88),
 (95,cdo "is_end" 293 27 2 90 91 0 92 93 94 298),
 (96,fo "is_end" (top 12) iC 95),
 (102,cdo "is_way" 301 29 3 97 98 0 99 100 101 307),
 (103,fo "is_way" (top 13) iC 102),
 (107,cdo "are_parts" 310 33 3 104 105 0 0 0 106 313),
 (108,fo "are_parts" (top 14) iC 107),
 (112,cdo "liked_pairs" 316 41 1 109 110 0 0 0 111 319),
 (113,fo "liked_pairs" (top 15) iC 112),
 (117,cdo "is_world" 322 46 1 114 115 0 0 0 116 325),
 (118,fo "is_world" (top 16) iC 117),
 (122,cdo "through" 328 53 4 119 120 0 0 0 121 331),
 (123,fo "through" (top 17) iC 122),
 (127,cdo "keeps_amounts" 334 55 3 124 125 0 0 0 126 337),
 (128,fo "keeps_amounts" (top 18) iC 127),
 (132,cdo "is_plan" 340 57 2 129 130 0 0 0 131 343),
 (133,fo "is_plan" (top 19) iC 132),
 (139,cdo "check_world" 346 64 1 134 135 0 136 137 138 350),
 (140,fo "check_world" (top 20) iC 139),
 (146,cdo "check_plan" 353 67 2 141 142 0 143 144 145 358),
 (147,fo "check_plan" (top 21) iC 146),
 (153,cdo "check_whole" 361 71 3 148 149 0 150 151 152 367),
 (154,fo "check_whole" (top 22) iC 153),
 (160,cdo "check_number" 370 74 2 155 156 0 157 158 159 375),
 (161,fo "check_number" (top 23) iC 160),
 (167,cdo "check_side" 378 76 1 162 163 0 164 165 166 382),
 (168,fo "check_side" (top 24) iC 167),
 (174,cdo "check_place" 385 78 3 169 170 0 171 172 173 391),
 (175,fo "check_place" (top 25) iC 174),
 (181,cdo "replaced" 394 81 3 176 177 0 178 179 180 400),
 (182,fo "replaced" (top 26) iC 181),
 (188,cdo "turned_order" 403 83 1 183 184 0 185 186 187 408),
 (189,fo "turned_order" (top 27) iC 188),
 (193,cdo "turned" 411 86 1 190 191 0 0 0 192 414),
 (194,fo "turned" (top 28) iC 193),
 (198,cdo "turned_plan" 417 90 2 195 196 0 0 0 197 420),
 (199,fo "turned_plan" (top 29) iC 198),
 (205,cdo "with_end" 425 94 5 200 201 0 202 203 204 433),
 (206,fo "with_end" (top 31) zu 205),
 (212,cdo "with_likes" 436 96 4 207 208 0 209 210 211 443),
 (213,fo "with_likes" (top 32) zu 212),
 (219,cdo "with_ways" 446 98 2 214 215 0 216 217 218 451),
 (220,fo "with_ways" (top 33) zu 219),
 (226,cdo "with_amount" 454 100 4 221 222 0 223 224 225 461),
 (227,fo "with_amount" (top 34) zu 226),
 (233,cdo "with_limit" 464 105 3 228 229 0 230 231 232 471),
 (234,fo "with_limit" (top 35) zu 233),
 (238,cdo "without_way" 474 111 2 235 236 0 0 0 237 477),
 (239,fo "without_way" (top 36) zu 238),
 (245,cdo "inserted" 480 120 3 240 241 0 242 243 244 486),
 (246,fo "inserted" (top 37) zu 245),
 (252,cdo "with_way" 489 122 6 247 248 0 249 250 251 501),
 (253,fo "with_way" (top 38) zu 252),
 (259,cdo "sent" 506 137 3 254 255 0 256 257 258 512),
 (260,fo "sent" (top 40) xk 259),
 (266,cdo "taken" 515 141 3 261 262 0 263 264 265 521),
 (267,fo "taken" (top 41) xk 266),
 (271,cdo "ways_of" 524 145 3 268 269 0 0 0 270 527),
 (272,fo "ways_of" (top 42) xk 271),
 (276,cdo "chosen_by" 530 150 4 273 274 0 0 0 275 533),
 (277,fo "chosen_by" (top 43) xk 276),
 (281,cdo "wants_more" 536 157 4 278 279 0 0 0 280 539),
 (282,fo "wants_more" (top 44) xk 281),
 (288,cdo "why_kept" 542 164 3 283 284 0 285 286 287 548),
 (289,fo "why_kept" (top 45) xk 288),
 (295,cdo "first_leaving" 551 172 2 290 291 0 292 293 294 557),
 (296,fo "first_leaving" (top 46) xk 295),
 (302,cdo "is_still" 560 177 2 297 298 0 299 300 301 565),
 (303,fo "is_still" (top 47) xk 302),
 (309,cdo "rests" 568 179 2 304 305 0 306 307 308 573),
 (310,fo "rests" (top 48) xk 309),
 (314,cdo "chosen_by_all" 578 183 3 311 312 0 0 0 313 581),
 (315,fo "chosen_by_all" (top 50) zv 314),
 (319,cdo "limits" 584 189 1 316 317 0 0 0 318 587),
 (320,fo "limits" (top 51) zv 319),
 (326,cdo "lowered" 590 191 3 321 322 0 323 324 325 596),
 (327,fo "lowered" (top 52) zv 326),
 (333,cdo "refused" 599 193 2 328 329 0 330 331 332 608),
 (334,fo "refused" (top 53) zv 333),
 (340,cdo "steps" 611 200 1 335 336 0 337 338 339 618),
 (341,fo "steps" (top 54) zv 340),
 (347,cdo "capped" 621 209 2 342 343 0 344 345 346 629),
 (348,fo "capped" (top 55) zv 347),
 (354,cdo "givers_best" 632 214 1 349 350 0 351 352 353 636),
 (355,fo "givers_best" (top 56) zv 354),
 (361,cdo "takers_best" 639 217 1 356 357 0 358 359 360 644),
 (362,fo "takers_best" (top 57) zv 361),
 (366,cdo "greater" 649 221 2 363 364 0 0 0 365 652),
 (367,fo "greater" (top 59) Ih 366),
 (371,cdo "on_ways_of" 655 223 4 368 369 0 0 0 370 658),
 (372,fo "on_ways_of" (top 60) Ih 371),
 (378,cdo "would_keep" 661 225 5 373 374 0 375 376 377 670),
 (379,fo "would_keep" (top 61) Ih 378),
 (385,cdo "check_both" 673 228 3 380 381 0 382 383 384 679),
 (386,fo "check_both" (top 62) Ih 385),
 (390,cdo "all_like" 682 231 4 387 388 0 0 0 389 685),
 (391,fo "all_like" (top 63) Ih 390),
 (395,cdo "through_all" 690 236 3 392 393 0 0 0 394 693),
 (396,fo "through_all" (top 65) Pe 395),
 (402,cdo "totals" 696 238 1 397 398 0 399 400 401 701),
 (403,fo "totals" (top 66) Pe 402),
 (409,cdo "_law_cell" 706 242 2 404 405 0 406 407 408 711),
 (410,fo "_law_cell" (top 68) Ii 409),
 (416,cdo "_law_drawn" 714 246 3 411 412 0 413 414 415 721),
 (417,fo "_law_drawn" (top 69) Ii 416),
 (423,cdo "_law_orders" 724 250 3 418 419 0 420 421 422 736),
 (424,fo "_law_orders" (top 70) Ii 423),
 (428,cdo "_law_world" 739 258 3 425 426 0 0 0 427 742),
 (429,fo "_law_world" (top 71) Ii 428),
 (435,cdo "law" 745 274 1 430 431 0 432 433 434 765),
 (436,fo "law" (top 72) Ii 435)]
noncomputable def hk:W.Hook:=W.kmHook Kf [3,69,70,76,77,83,84,88,89,95,96,102,103,107,108,112,113,117,118,122,123,127,128,132,133,139,140,146,147,153,154,160,161,167,168,174,175,181,182,188,189,193,194,198,199,205,206,212,213,219,220,226,227,233,234,238,239,245,246,252,253,259,260,266,267,271,272,276,277,281,282,288,289,295,296,302,303,309,310,314,315,319,320,326,327,333,334,340,341,347,348,354,355,361,362,366,367,371,372,378,379,385,386,390,391,395,396,402,403,409,410,416,417,423,424,428,429,435,436] (fun _=>rfl) [184,269]
noncomputable abbrev rn(w:World):=openEnds treeTable PySem.Challenge.pw_stillflow_k52_whole_little_changes w 6000
noncomputable abbrev sn(s:Shared):=openSeen vw [] (importedModules PySem.Challenge.pw_stillflow_k52_whole_little_changes.main.body) (fun s=>xlAt vw [] s&&recOk [] s) true s
noncomputable abbrev gd:=openGood vw []
theorem QP(w:World):(rn w).map (fun s=>(sn s).1)=some (gd.1):=by kernel_rfl
theorem Q8(w:World):(rn w).map (fun s=>(sn s).2.1)=some (gd.2.1):=by kernel_rfl
theorem QV(w:World):(rn w).map (fun s=>(sn s).2.2.1)=some (gd.2.2.1):=by kernel_rfl
theorem Q7(w:World):(rn w).map (fun s=>((sn s).2.2.2.1,(sn s).2.2.2.2.1))=some ((gd.2.2.2.1,gd.2.2.2.2.1)):=by kernel_rfl
theorem QX(w:World):(rn w).map (fun s=>(sn s).2.2.2.2.2.1)=some (gd.2.2.2.2.2.1):=by kernel_rfl
theorem QW(w:World):(rn w).map (fun s=>(sn s).2.2.2.2.2.2)=some (gd.2.2.2.2.2.2):=by kernel_rfl
theorem Q3(w:World):(rn w).map (fun s=>hk.obs s)=some (hk.val w):=by kernel_rfl
theorem left:LeftO PySem.Challenge.pw_stillflow_k52_whole_little_changes vw [] (fun s=>xlAt vw [] s&&recOk [] s) hk.obs hk.val 6000:=fun w=>lf_all (QP w) (Q8 w) (QV w) (Q7 w) (QX w) (QW w) (Q3 w)
theorem PZ:PySem.Challenge.rw_stillflow_k52_whole_little_changes.wellSaid=true:=by kernel_rfl
end K52
namespace L2
open PySem PySem.Spec PyProof.Rows
noncomputable abbrev zt:=Sum Int Str
noncomputable def KR:zt->Value->Bool
 | .inl k,v=>Value.isInt k v
 | .inr x,v=>Value.isStrOf x v
noncomputable def Qp(w:World):zt->Int
 | .inl k=>hashInt k
 | .inr x=>hashStr w x
theorem cm:∀ {k:zt}{v:Value},KR k v=true->(∃i t,k=Sum.inl i/\v=Value.int i t)\/(∃x t,k=Sum.inr x/\v=Value.str x t)
 | .inl i,v,h=>by
  obtain⟨t,e⟩:=Value.isInt_shape (k:=i) (v:=v) h
  exact .inl ⟨i,t,rfl,e⟩
 | .inr x,v,h=>by
  obtain⟨t,e⟩:=Value.isStrOf_shape (x:=x) (v:=v) h
  exact .inr ⟨x,t,rfl,e⟩
theorem L8(a b:Int):decide ((Sum.inl a:zt)=Sum.inl b)=(a == b):=by
 by_cases e:a=b
 ·subst e;simp
 ·have h:¬ (Sum.inl a:zt)=Sum.inl b:=fun q=>e (Sum.inl.inj q)
  rw[yA h]
  exact (beq_eq_false_iff_ne.mpr e).symm
theorem Nv(a b:Str):decide ((Sum.inr a:zt)=Sum.inr b)=decide (a=b):=by
 by_cases e:a=b
 ·subst e;simp
 ·have h:¬ (Sum.inr a:zt)=Sum.inr b:=fun q=>e (Sum.inr.inj q)
  rw[yA h,yA e]
theorem Lj(a:Int)(b:Str):decide ((Sum.inl a:zt)=Sum.inr b)=false:=yA (fun q=>nomatch q)
theorem M6(a:Str)(b:Int):decide ((Sum.inr a:zt)=Sum.inl b)=false:=yA (fun q=>nomatch q)
noncomputable def C3(prog:Program)(w:World):PySem.KeyKind prog w zt where
 is:=KR
 hash:=Qp w
 inj:=fun v a b ha hb=>by
  rcases cm ha with ⟨i,t,rfl,rfl⟩|⟨x,t,rfl,rfl⟩
  ·rcases cm hb with ⟨j,u,rfl,e⟩|⟨y,u,rfl,e⟩
   ·injection e with e1 _;rw[e1]
   ·exact nomatch e
  ·rcases cm hb with ⟨j,u,rfl,e⟩|⟨y,u,rfl,e⟩
   ·exact nomatch e
   ·injection e with e1 _;rw[e1]
 byValue:=fun k v h=>by
  rcases cm h with ⟨i,t,rfl,rfl⟩|⟨x,t,rfl,rfl⟩<;>rfl
 pyHash:=fun hv h=>by
  rcases cm hv with ⟨i,t,rfl,rfl⟩|⟨x,t,rfl,rfl⟩
  ·exact wpAny_pyHash_int h
  ·exact wpAny_pyHash_str h
 eqBool:=fun hu hv h=>by
  rcases cm hu with ⟨i,t,rfl,rfl⟩|⟨x,t,rfl,rfl⟩
  ·rcases cm hv with ⟨j,u,rfl,rfl⟩|⟨y,u,rfl,rfl⟩
   ·rw[L8] at h;exact wpAny_eqBool_int h
   ·rw[Lj] at h;exact SeqAt.EqAt.int_str i t y u _ _ _ _ h
  ·rcases cm hv with ⟨j,u,rfl,rfl⟩|⟨y,u,rfl,rfl⟩
   ·rw[M6] at h;exact SeqAt.EqAt.str_int x t j u _ _ _ _ h
   ·rw[Nv] at h;exact wpAny_eqBool_str h
 «strs»:=fun k x t v h=>by
  rcases cm h with ⟨i,u,rfl,e⟩|⟨y,u,rfl,e⟩
  ·exact nomatch e
  ·injection e with e1 _
   subst e1
   cases v<;>rfl
inductive V where
 | non|bl (b:Bool)|int (i:Int)|str (x:Str)|byt (b:Array UInt8)|flt (b:UInt64)|ref (a:Addr)|ty (n:String)
 deriving DecidableEq
noncomputable def RelV:V->Value->Prop
 | .non,u=>u=Value.none
 | .bl b,u=>u=Value.bool b
 | .int i,u=>∃t,u=Value.int i t
 | .str x,u=>∃t,u=Value.str x t
 | .byt b,u=>∃t,u=Value.bytes b t
 | .flt b,u=>∃t,u=Value.float b t
 | .ref a,u=>u=Value.ref a
 | .ty n,u=>u=Value.type n
noncomputable abbrev aM:List V->List Value->Prop:=Paired RelV
theorem aM.length{xs:List V}{us:List Value}(r:aM xs us):xs.length=us.length:=Paired.length r
theorem aM.get:∀ {xs:List V}{us:List Value}{i:Nat}{x:V},aM xs us->xs[i]?=some x->∃u,us[i]?=some u/\RelV x u
 | _,_,_,_,.nil,e=>by simp at e
 | _,_,0,_,.cons r _,e=>by simp at e;subst e;exact⟨_,rfl,r⟩
 | _,_,i+1,x,.cons _ t,e=>by
  obtain⟨u,h1,h2⟩:=aM.get (i:=i) (x:=x) t (by simpa using e)
  exact⟨u,by simpa using h1,h2⟩
theorem aM.set{x:V}{u:Value}(r:RelV x u):∀ {xs:List V}{us:List Value}(i:Nat),aM xs us->aM (xs.set i x) (us.set i u)
 | _,_,_,.nil=>.nil
 | _,_,0,.cons _ t=>.cons r t
 | _,_,i+1,.cons q t=>.cons q (aM.set r i t)
theorem aM.append:∀ {xs ys:List V}{us ws:List Value},aM xs us->aM ys ws->aM (xs++ys) (us++ws)
 | _,_,_,_,.nil,s=>s
 | _,_,_,_,.cons r t,s=>.cons r (aM.append t s)
theorem aM.take:∀ {xs:List V}{us:List Value}(n:Nat),aM xs us->aM (xs.take n) (us.take n)
 | _,_,0,_=>.nil
 | _,_,_+1,.nil=>.nil
 | _,_,n+1,.cons r t=>.cons r (aM.take n t)
theorem aM.drop:∀ {xs:List V}{us:List Value}(n:Nat),aM xs us->aM (xs.drop n) (us.drop n)
 | _,_,0,r=>r
 | _,_,_+1,.nil=>.nil
 | _,_,n+1,.cons _ t=>aM.drop n t
noncomputable def Oi:Option V->Option Value->Prop
 | some v,some u=>RelV v u
 | none,none=>True
 | _,_=>False
noncomputable def KV{κ:Type}:List (κ×V)->List (κ×Value)->Prop:=Paired fun (p:κ×V) (q:κ×Value)=>p.1=q.1/\RelV p.2 q.2
noncomputable def kV:zt->V
 | .inl i=>.int i
 | .inr x=>.str x
inductive HO where
  | lst (xs:List V)
  | tup (xs:List V)
  | dK (kvs:List (zt×V))|dT (kvs:List (List zt×V))
  | set (S:Int->Bool) (n:Nat)
  | ins (C dx:Addr) (fs:List (Str×V))
  | own (x:Addr)
  | xd (fs:List (Str×V))
  | met (f x:Addr)
  | rng (lo hi:Int)
  | frz (o:Obj) (u:HO)
  | tab (q:Str)
 | cod (q:Str)
  | ext (φ:Heap->Prop)
noncomputable abbrev Hp:=Addr->Option HO
noncomputable def upd(H:Hp)(a:Addr)(o:HO):Hp:=fun b=>if b=a then some o else H b
theorem aO{H:Hp}{a:Addr}{o:HO}:upd H a o a=some o:=by unfold upd;rw[if_pos rfl]
theorem aL{H:Hp}{a b:Addr}{o:HO}(h:b≠a):upd H a o b=H b:=by unfold upd;rw[if_neg h]
theorem aU{H:Hp}{a b:Addr}{o:HO}(h:H a=some o)(h':H b=none):a≠b:=by
 intro e;subst e;rw[h] at h';cases h'
def rJ(h:Heap)(a:Addr)(its:Array Value):Prop:=IsTup h a its/\∃o,h.get? a=some o/\o.dict=none
theorem rJ.new(h:Heap)(its:Array Value):rJ (h.push { cls:=.type "tuple",data:=.seq its }) h.objs.size its:=⟨IsTup.new _ _,_,zY _ rfl,rfl⟩
section
variable (P:Program) (w:World)
noncomputable def fY(H:Hp)(h:Heap)(a:Addr):HO->Prop
 | .lst xs=>xs.length<=sizeLine/\∃ (its:List Value) (n:Nat),aM xs its/\h.get? a=some { cls:=.type "list",data:=.seq its.toArray n }
 | .tup xs=>xs.length<=sizeLine/\∃its:List Value,aM xs its/\rJ h a its.toArray
 | .dK kvs=>kvs.length<=sizeLine/\(a == sysModules)=false/\∃vs,KV kvs vs/\h.DictOf (C3 P w) a vs
 | .dT kvs=>kvs.length<=sizeLine/\(a == sysModules)=false/\∃xs:List (List zt×Addr×Value),
   Paired (fun (p:List zt×V) (q:List zt×Addr×Value)=>p.1=q.1/\H q.2.1=some (.tup (p.1.map kV))/\RelV p.2 q.2.2) kvs xs /\
   ∃o es ep,h.get? a=some o/\o.ExactDict/\o.data=.dict es ep/\es.toList=xs.map (entryOfKey (tupleKind (C3 P w)))/\(xs.map (·.1)).Nodup
 | .set S n=>h.SetOf (intKind P w) a S n
 | .ins C dx fs=>H dx=some (.own a)/\fs.length<=1000/\dx≠a/\h.get? a=some (W.instObj C dx) /\
   ∃mA,h.Ns1 dx mA/\(∀f,Oi (fs.lookup f) (mA f))/\PySem.Within mA (fs.map (·.1))
 | .own _=>∃o,h.get? a=some o
 | .xd fs=>∃mA,h.Ns1 a mA/\∀f,Oi (fs.lookup f) (mA f)
 | .rng lo hi=>∃t u v,h.get? a=some { cls:=.type "range",data:=.fields #[.int lo t,.int hi u,.int 1 v] }
 | .frz o u=>h.get? a=some o/\fY H h a u
 | .tab q=>∃ps:Array Value,h.get? a=some { cls:=.none,data:=.fields ps }/\TriplesOk ps.toList/\∀pos v,codeAmong pos ps.toList=some v->∃c,v=.ref c/\H c=some (.cod q)
 | .cod q=>h.CodeRec (.ref a) q
 | .met f x=>h.get? a=some (W.methodObj (.ref f) (.ref x))
 | .ext φ=>φ h/\(∃o,h.get? a=some o)/\∀h1 h2:Heap,φ h1->(∀o,h1.get? a=some o->h2.get? a=some o)->φ h2
def p9(H:Hp)(h:Heap):Prop:=∀a o,H a=some o->fY P w H h a o
end
section
variable {P:Program}{w:World}{H H':Hp}{h h':Heap}{a:Addr}{o:HO}
theorem fY.lt(x:fY P w H h a o):a < h.objs.size:=by
 cases o with
 | lst xs=>obtain⟨_,_,_,_,e⟩:=x;exact zZ e
 | tup xs=>obtain⟨_,_,_,p⟩:=x;exact p.1.lt
 | dK kvs=>obtain⟨_,_,_,_,o,_,_,e,_⟩:=x;exact zZ e
 | dT kvs=>obtain⟨_,_,_,_,o,_,_,e,_⟩:=x;exact zZ e
 | set S n=>obtain⟨o,_,_,_,e,_⟩:=x;exact zZ e
 | ins C dx fs=>obtain⟨_,_,_,e,_⟩:=x;exact zZ e
 | own y=>obtain⟨_,e⟩:=x;exact zZ e
 | xd fs=>obtain⟨_,⟨_,_,_,e,_⟩,_⟩:=x;exact zZ e
 | rng lo hi=>obtain⟨_,_,_,e⟩:=x;exact zZ e
 | frz ob u=>obtain⟨e,_⟩:=x;exact zZ e
 | tab q=>obtain⟨_,e,_⟩:=x;exact zZ e
 | cod q=>obtain⟨_,_,_,_,e0,e,_⟩:=x;cases e0;exact zZ e
 | met f y=>exact zZ (show h.get? a=some _ from x)
 | ext φ=>obtain⟨_,⟨_,e⟩,_⟩:=x;exact zZ e
theorem Paired.mapP{α β:Type}{F G:α->β->Prop}:∀ {l₁:List α}{l₂:List β},Paired F l₁ l₂->(∀a b,F a b->G a b)->Paired G l₁ l₂
 | _,_,.nil,_=>.nil
 | _,_,.cons r t,f=>.cons (f _ _ r) (Paired.mapP t f)
noncomputable def QO:HO->Prop
 | .tup _=>True
 | .cod _=>True
 | _=>False
theorem fY.stay(x:fY P w H h a o)(k:∀b u,(b=a\/H b=some (.own a))->h.get? b=some u->h'.get? b=some u)
  (ho:∀b,H b=some (.own a)->H' b=some (.own a)) (ht:∀b u,H b=some u->QO u->H' b=some u):fY P w H' h' a o:=by
 induction o with
 | lst xs=>obtain⟨z,its,n,r,e⟩:=x;exact⟨z,its,n,r,k _ _ (.inl rfl) e⟩
 | tup xs=>obtain⟨z,its,r,⟨ob,e,c⟩,o2,e2,d2⟩:=x;exact⟨z,its,r,⟨ob,k _ _ (.inl rfl) e,c⟩,o2,k _ _ (.inl rfl) e2,d2⟩
 | dK kvs=>obtain⟨z,y,vs,r,ob,es,ep,e,c⟩:=x;exact⟨z,y,vs,r,ob,es,ep,k _ _ (.inl rfl) e,c⟩
 | dT kvs =>
  obtain⟨z,y,xs,r,ob,es,ep,e,c⟩:=x
  exact⟨z,y,xs,Paired.mapP r fun p q z=>⟨z.1,ht _ _ z.2.1 trivial,z.2.2⟩,ob,es,ep,k _ _ (.inl rfl) e,c⟩
 | set S n=>obtain⟨ob,es,ep,t,e,c⟩:=x;exact⟨ob,es,ep,t,k _ _ (.inl rfl) e,c⟩
 | ins C dx fs =>
  obtain⟨d,z,ne,e,mA,⟨od,es,ep,e2,c⟩,r⟩:=x
  exact⟨ho _ d,z,ne,k _ _ (.inl rfl) e,mA,⟨od,es,ep,k _ _ (.inr d) e2,c⟩,r⟩
 | own y=>obtain⟨ob,e⟩:=x;exact⟨ob,k _ _ (.inl rfl) e⟩
 | xd fs=>obtain⟨mA,⟨od,es,ep,e,c⟩,r⟩:=x;exact⟨mA,⟨od,es,ep,k _ _ (.inl rfl) e,c⟩,r⟩
 | rng lo hi=>obtain⟨t,u,v,e⟩:=x;exact⟨t,u,v,k _ _ (.inl rfl) e⟩
 | frz ob u ih=>obtain⟨e,q⟩:=x;exact⟨k _ _ (.inl rfl) e,ih q⟩
 | tab q=>obtain⟨ps,e,t,c⟩:=x;exact⟨ps,k a _ (.inl rfl) e,t,fun pos v z=>let ⟨c0,z1,z2⟩:=c pos v z;⟨c0,z1,ht _ _ z2 trivial⟩⟩
 | cod q=>obtain⟨c,oc,vs,t,e0,e,r⟩:=x;cases e0;exact⟨_,oc,vs,t,rfl,k _ _ (.inl rfl) e,r⟩
 | met f y =>
  have e:h.get? a=some (W.methodObj (.ref f) (.ref y)):=x
  show h'.get? a=some (W.methodObj (.ref f) (.ref y))
  exact k a _ (.inl rfl) e
 | ext φ=>obtain⟨p,⟨o,e⟩,st⟩:=x;exact⟨st _ _ p fun o q=>k _ _ (.inl rfl) q,⟨o,k _ _ (.inl rfl) e⟩,st⟩
theorem p9.lt(x:p9 P w H h)(e:H a=some o):a < h.objs.size:=(x a o e).lt
theorem p9.fresh(x:p9 P w H h)(e:h.objs.size<=a):H a=none:=by
 cases q:H a with
 | none=>rfl
 | some u=>exact absurd (zP (x.lt q) e) (Nat.lt_irrefl _)
theorem p9.kept(x:p9 P w H h)(k:∀b u,h.get? b=some u->h'.get? b=some u):p9 P w H h':=fun a o e =>
 (x a o e).stay (fun b u _ q=>k b u q) (fun _ q=>q) fun _ _ q _=>q
theorem p9.laid(x:p9 P w H h)(k:∀b u,h.get? b=some u->h'.get? b=some u)(hp:h.objs.size<=a)(new:fY P w (upd H a o) h' a o):p9 P w (upd H a o) h':=fun b u e=>by
 have hn:=x.fresh hp
 by_cases hb:b=a
 ·subst hb;rw[aO] at e;cases e;exact new
 ·rw[aL hb] at e
  exact (x b u e).stay (fun c v _ q=>k c v q) (fun c q=>by rw[aL (aU q hn)];exact q) fun c xs q _=>by rw[aL (aU q hn)];exact q
end
def Rd(H:Hp)(a:Addr)(u:HO):Prop:=H a=some u\/∃o,H a=some (.frz o u)
theorem Rd.ok{P:Program}{w:World}{H:Hp}{h:Heap}{a:Addr}{u:HO}(r:Rd H a u)(x:p9 P w H h):fY P w H h a u:=by
 rcases r with r|⟨o,r⟩
 ·exact x a u r
 ·obtain⟨_,q⟩:=x a _ r
  exact q
noncomputable def Ox:Option HO->Prop
 | some (.lst _)=>True
 | some (.dK _)=>True
 | some (.dT _)=>True
 | some (.set _ _)=>True
 | some (.ins _ _ _)=>True
 | some (.ext _)=>True
 | _=>False
section
variable {P:Program}{w:World}{H:Hp}{h h':Heap}{x e:Addr}{o':HO}
theorem p9.write(ok:p9 P w H h)(mu:Ox (H x))(he:e=x\/H e=some (.own x))(k:∀b u,b≠e->h.get? b=some u->h'.get? b=some u)(heo:∃u,h'.get? e=some u)
  (new:fY P w (upd H x o') h' x o'):p9 P w (upd H x o') h':=fun b u q=>by
 have nown:∀c y,H c=some (.own y)->c≠x:=fun c y r z=>by subst z;rw[r] at mu;exact mu
 have ntup:∀c u,H c=some u->QO u->c≠x:=fun c u r hr z=>by subst z;rw[r] at mu;cases u<;>first|exact mu|exact hr
 by_cases hb:b=x
 ·subst hb;rw[aO] at q;cases q;exact new
 ·rw[aL hb] at q
  by_cases hbe:b=e
  ·have q':H b=some (.own x):=by
    rcases he with z|z
    ·exact absurd (hbe.trans z) hb
    ·rw[hbe];exact z
   rw[q] at q';cases q'
   obtain⟨v,hv⟩:=heo
   exact⟨v,by rw[hbe];exact hv⟩
  ·refine (ok b u q).stay (fun c v hc r=>k c v ?_ r) (fun c r=>by rw[aL (nown c b r)];exact r) fun c xs r hr=>by rw[aL (ntup c xs r hr)];exact r
   rcases hc with rfl|hc
   ·exact hbe
   ·rintro rfl
    rcases he with z|z
    ·exact nown c b hc z
    ·rw[hc] at z;cases z;exact hb rfl
end
noncomputable def Pj:HO->Prop
 | .tab _=>True
 | .cod _=>True
 | _=>False
theorem Pj.not_mut{u:HO}(h:Pj u):¬ Ox (some u):=by cases u<;>first|exact fun z=>z|exact h.elim
structure KU(H H':Hp)(h h':Heap):Prop where
 st:∀b u,H b=some u->Pj u->H' b=some u
 gr:∀b q ps,H b=some (.tab q)->h.get? b=some { cls:=.none,data:=.fields ps }->∃more:Array Value,h'.get? b=some { cls:=.none,data:=.fields (ps++more) }
theorem KU.kept{H H':Hp}{h h':Heap}(k:∀b u,(∃q,H b=some (.tab q))->h.get? b=some u->h'.get? b=some u)(st:∀b u,H b=some u->Pj u->H' b=some u):KU H H' h h' :=
 ⟨st,fun b q ps e z=>⟨#[],by rw[Array.append_empty];exact k b _ ⟨q,e⟩ z⟩⟩
theorem KU.trans{H H1 H2:Hp}{h h1 h2:Heap}(a:KU H H1 h h1)(b:KU H1 H2 h1 h2):KU H H2 h h2 :=
 ⟨fun c u q t=>b.st c u (a.st c u q t) t,fun c q ps e z=>by
  obtain⟨m1,z1⟩:=a.gr c q ps e z
  obtain⟨m2,z2⟩:=b.gr c q _ (a.st c _ e trivial) z1
  exact⟨m1++m2,by rw[z2,Array.append_assoc]⟩⟩
structure Un(fs ex:List Addr)(H H':Hp)(h h':Heap):Prop where
 keep:∀b o,h.get? b=some o->H b=none->b∉fs->b∉ex->h'.get? b=some o
 slot:∀b o,h.get? b=some o->H b=none->b∈fs->b∉ex->∃sl,h'.get? b=some { o with slots:=sl }
 free:∀b o,h.get? b=some o->H b=none->b∉ex->H' b=none
 there:∀b o,h.get? b=some o->b∉ex->∃o',h'.get? b=some o'
 tups:∀b xs,H b=some (.tup xs)->H' b=some (.tup xs)
 frzs:∀b o u,H b=some (.frz o u)->H' b=some (.frz o u)
 tbls:KU H H' h h'
section
variable {fs fs' ex ex':List Addr}{H H1 H2:Hp}{h h1 h2 h':Heap}{a x e:Addr}{o:HO}
theorem Un.any(u:Un fs ex H H1 h h1){b:Addr}{ob:Obj}(q:h.get? b=some ob)(n:H b=none)(hx:b∉ex):∃sl,h1.get? b=some { ob with slots:=sl }:=by
 by_cases hb:b∈fs
 ·exact u.slot b ob q n hb hx
 ·exact⟨ob.slots,u.keep b ob q n hb hx⟩
theorem Un.kept(k:∀b u,h.get? b=some u->h'.get? b=some u):Un fs ex H H h h' :=
 ⟨fun b ob q _ _ _=>k b ob q,fun b ob q _ _ _=>⟨ob.slots,k b ob q⟩,fun _ _ _ n _=>n,fun b ob q _=>⟨ob,k b ob q⟩,fun _ _ q=>q,fun _ _ _ q=>q,.kept (fun b u _ e=>k b u e) fun _ _ e _=>e⟩
theorem Un.refl:Un fs ex H H h h:=Un.kept fun _ _ q=>q
theorem Un.laid(k:∀b u,h.get? b=some u->h'.get? b=some u)(hp:h.objs.size<=a)(hn:H a=none):Un fs ex H (upd H a o) h h' where
 keep:=fun b u q _ _ _=>k b u q
 slot:=fun b u q _ _ _=>⟨u.slots,k b u q⟩
 free:=fun b u q n _=>by rw[aL (Nat.ne_of_lt (zP (zZ q) hp))];exact n
 there:=fun b u q _=>⟨u,k b u q⟩
 tups:=fun b xs q=>by rw[aL (aU q hn)];exact q
 frzs:=fun b u xs q=>by rw[aL (aU q hn)];exact q
 tbls:=.kept (fun b u _ e=>k b u e) fun b u q _=>by rw[aL (aU q hn)];exact q
theorem Un.write(mu:Ox (H x))(he:e=x\/H e=some (.own x))(k:∀b u,b≠e->h.get? b=some u->h'.get? b=some u)(heo:∃u,h'.get? e=some u):Un fs ex H (upd H x o) h h':=by
 have hx:∀b,H b=none->b≠x:=fun b n z=>by subst z;rw[n] at mu;exact mu
 have hb:∀b,H b=none->b≠e:=fun b n z=>by
  subst z
  rcases he with r|r
  ·exact hx b n r
  ·rw[n] at r;cases r
 have hm:∀b u,H b=some u->¬ Ox (some u)->b≠x:=fun b u q nm z=>by subst z;rw[q] at mu;exact nm mu
 refine⟨fun b u q n _ _=>k b u (hb b n) q,fun b u q n _ _=>⟨u.slots,k b u (hb b n) q⟩,fun b u q n _=>by rw[aL (hx b n)];exact n,fun b u q _=>?_,
  fun b xs q=>by rw[aL (hm b _ q fun z=>z)];exact q,fun b u xs q=>by rw[aL (hm b _ q fun z=>z)];exact q,.kept (fun b u z e=>k b u (fun r=>by subst r;rcases he with r|r<;>first|(subst r;rcases z with ⟨q,z⟩;rw[z] at mu;exact mu)|(rcases z with ⟨q,z⟩;rw[z] at r;cases r)) e) fun b u q nm=>by rw[aL (hm b _ q (nm.not_mut))];exact q⟩
 by_cases hbe:b=e
 ·subst hbe;exact heo
 ·exact⟨u,k b u hbe q⟩
end
noncomputable def Pd(h:Heap)(H:Hp):List Addr:=(List.range h.objs.size).filter fun a=>(H a).isSome
noncomputable def vq(h:Heap)(H:Hp):Heap:=W.hideAll h (Pd h H)
theorem Eo(h:Heap)(H:Hp):(vq h H).objs.size=h.objs.size:=W.hideAll_size _ _
theorem GU{h:Heap}{H:Hp}{b:Addr}{o:Obj}(e:h.get? b=some o)(n:H b=none):(vq h H).get? b=some o :=
 W.hideAll_get _ e fun hm=>by
  have q:(H b).isSome=true:=(List.mem_filter.mp hm).2
  rw[n] at q;simp at q
theorem IP{h:Heap}{H:Hp}{b:Addr}{o:Obj}(e:(vq h H).get? b=some o):h.get? b=some o/\H b=none:=by
 have e':h.get? b=some o:=W.of_hideAll (Pd h H) e
 refine⟨e',?_⟩
 cases q:H b with
 | none=>rfl
 | some x =>
  have hm:b∈Pd h H:=List.mem_filter.mpr ⟨zT.mpr (zZ e'),by simp[q]⟩
  have z:(vq h H).get? b=none:=W.hideAll_none (Pd h H) hm
  rw[z] at e;cases e
def Pc(mg:Str->Option Value)(base:Heap):Prop:=∃bm o,mg "__builtins__"=some (.ref bm)/\bm≠builtinsNs/\bm≠mainGlobals/\base.get? bm=some o/\o.cls=.type "module"/\o.dict=some builtinsNs/\o.data=.plain
structure Mod(K:W.Frag)(mg:Str->Option Value)(base:Heap):Prop where
 kin:K.In base
 glob:base.Ns mainGlobals mg
 blt:∃mb,base.Ns builtinsNs mb/\∀x:Str,x≠"__name__"->mb x=bootBuiltins x
 nolimit:base.NoLimit
 bmd:Pc mg base
structure Cx where
 prog:Program
 w:World
 K:W.Frag
 mg:Str->Option Value
 base:Heap
 A:Around
 N:List Str
 s₀:Shared
 H₀:Hp
 env:Env
 outer:List Env
 stack:List Env
 ex:List Addr
 fn:Str->Bool
 calm:Bool
 pn:List (Addr×Obj)
 xe:Value->Shared->Prop
noncomputable def Fv(l:List Env):List Addr:=l.filterMap (·.frame)
noncomputable abbrev Cx.fs(X:Cx):List Addr:=Fv X.outer
def Lf(sc:Scope)(x:Str):Prop:=sc.names.lookup x=some .local \/ sc.names.lookup x=some .cell\/sc.names.lookup x=some .free
def Loc(sc:Scope)(x:Str):Prop:=sc.names.lookup x=some .local \/ sc.names.lookup x=some .cell
noncomputable def Look(env:Env)(h:Heap)(m:Str->Option Value)(x:Str)(u:Value):Prop :=
 (env.kindOf x=some .local /\ m x=some u)\/((env.kindOf x=some .cell\/env.kindOf x=some .free)/\∃c,env.cells.lookup x=some c/\h.IsCell c (some u))
structure Cx.Ok(X:Cx):Prop where
 mod:Mod X.K X.mg X.base
 kind:X.env.scope.kind=.function
 glob:X.env.globals=mainGlobals
 blt:X.env.builtins=builtinsNs
 above:X.s₀.heap.objs.size<=X.env.locals
 inj:∀x y c,X.env.cells.lookup x=some c->X.env.cells.lookup y=some c->x=y
 has:∀x,(X.env.kindOf x=some .cell\/X.env.kindOf x=some .free)->∃c,X.env.cells.lookup x=some c
 cab:∀x c,X.fn x=true->X.env.cells.lookup x=some c->X.s₀.heap.objs.size<=c
 hd:X.calm=true->X.A.handled=none
 frames:X.A.frames=some X.stack
 stk:X.stack=X.outer\/(X.stack=X.env::X.outer/\X.env.frame=some X.env.locals)
 exf:∀b∈X.ex,b≠X.env.locals/\∀x c,X.env.cells.lookup x=some c->c≠b
 bs:∀b o,X.base.get? b=some o->X.s₀.heap.get? b=some o/\X.H₀ b=none
 bsz:X.base.objs.size<=X.s₀.heap.objs.size
 noex:∀b o,X.base.get? b=some o->b∉X.ex
 exfs:∀b∈X.ex,b∉X.fs
 funs:X.s₀.heap.FunFrames X.base X.outer
 frf:∀b∈X.fs,X.H₀ b=none
structure Inv(X:Cx)(pins:List (Addr×Obj))(σ:List (Option V))(H:Hp)(s:Shared):Prop where
 ok:X.Ok
 os:s.os=X.s₀.os
 bare:AllBare s.gens
 base:Un X.fs X.ex X.H₀ H X.s₀.heap s.heap
 loc:∃m,s.heap.Ns X.env.locals m/\∀ (i:Nat) (x:Str) (v:V),X.N[i]?=some x->σ[i]?=some (some v)->Lf X.env.scope x->∃u,RelV v u/\Look X.env s.heap m x u
 cell:∀x c,X.env.cells.lookup x=some c->∃v,s.heap.IsCell c v
 free:H X.env.locals=none
 freeC:∀x c,X.env.cells.lookup x=some c->H c=none
 pin:∀p∈X.pn++pins,s.heap.get? p.1=some p.2/\H p.1=none/\p.1≠X.env.locals/\p.1∉X.fs/\∀v,p.2.data≠.cell v
 hok:p9 X.prog X.w H s.heap
 len:σ.length=X.N.length
section
variable {X:Cx}{pins:List (Addr×Obj)}{σ:List (Option V)}{H H':Hp}{s:Shared}{h':Heap}
theorem Cx.Ok.nofr(ok:X.Ok){b:Addr}{o:Obj}(e:X.base.get? b=some o):b∉X.fs:=fun hb=>by
 have:=(ok.funs.mem hb).1
 rw[e] at this;cases this
theorem Inv.bs(I:Inv X pins σ H s):∀b o,X.base.get? b=some o->s.heap.get? b=some o/\H b=none:=fun b o e =>
 ⟨I.base.keep b o (I.ok.bs b o e).1 (I.ok.bs b o e).2 (I.ok.nofr e) (I.ok.noex b o e),I.base.free b o (I.ok.bs b o e).1 (I.ok.bs b o e).2 (I.ok.noex b o e)⟩
theorem Inv.bk(I:Inv X pins σ H s):∀b o,X.base.get? b=some o->s.heap.get? b=some o:=fun b o e=>(I.bs b o e).1
theorem Inv.mod(I:Inv X pins σ H s):Mod X.K X.mg X.base:=I.ok.mod
theorem Inv.kIn(I:Inv X pins σ H s):X.K.In s.heap:=I.ok.mod.kin.keeps I.bk
theorem Inv.nolimit(I:Inv X pins σ H s):s.heap.NoLimit:=I.ok.mod.nolimit.keeps I.bk
theorem Inv.lt(I:Inv X pins σ H s):X.env.locals < s.heap.objs.size:=let ⟨_,hn,_⟩:=I.loc;hn.lt
theorem Inv.sz(I:Inv X pins σ H s):X.s₀.heap.objs.size<=s.heap.objs.size:=yE I.ok.above (Nat.le_of_lt I.lt)
theorem Inv.nofs(I:Inv X pins σ H s){a:Addr}(h:s.heap.objs.size<=a):a∉X.fs:=fun hb=>by
 obtain⟨_,o,ho,_⟩:=I.ok.funs.mem hb
 exact absurd (zP (zZ ho) (yE I.sz h)) (Nat.lt_irrefl _)
theorem Inv.cne(I:Inv X pins σ H s):∀x c,X.env.cells.lookup x=some c->c≠X.env.locals:=fun x c e z=>by
 obtain⟨v,o,ho,hd⟩:=I.cell x c e
 obtain⟨m,⟨o',es,ep,ho',hd',_⟩,_⟩:=I.loc
 rw[z,ho'] at ho;cases ho;rw[hd'] at hd;cases hd
theorem Inv.funs(I:Inv X pins σ H s):s.heap.FunFrames X.base X.outer:=by
 have all:∀ (l:List Env),(∀b∈Fv l,b∈X.fs)->X.s₀.heap.FunFrames X.base l->s.heap.FunFrames X.base l:=by
  intro l
  induction l with
  | nil=>intro _ _;trivial
  | cons env r ih =>
   intro hs hl
   obtain⟨hk,⟨L,o,hf,hn,ho,hd⟩,hr⟩:=hl
   have hL:L∈X.fs:=hs L (by unfold Fv;rw[List.filterMap_cons,hf];exact zE)
   obtain⟨sl,e⟩:=I.base.slot L o ho (I.ok.frf L hL) hL fun z=>I.ok.exfs L z hL
   exact⟨hk,⟨L,_,hf,hn,e,hd⟩,ih (fun b hb=>hs b (by unfold Fv;rw[List.filterMap_cons,hf];exact zC _ hb)) hr⟩
 exact all X.outer (fun _ hb=>hb) I.ok.funs
theorem Inv.stack(I:Inv X pins σ H s):s.heap.FunFrames X.base X.stack:=by
 rcases I.ok.stk with e|⟨e,hf⟩
 ·rw[e];exact I.funs
 ·rw[e]
  obtain⟨m,hn,_⟩:=I.loc
  refine .cons (by rw[I.ok.kind];decide) hf hn ?_ I.funs
  exact Heap.get?_none_of_le (yE I.ok.bsz I.ok.above)
theorem Inv.stkSub(I:Inv X pins σ H s):∀b∈Fv X.stack,b∈X.env.locals::X.fs:=fun b hb=>by
 rcases I.ok.stk with e|⟨e,hf⟩
 ·rw[e] at hb;exact zC _ hb
 ·rw[e] at hb
  unfold Fv at hb
  rw[List.filterMap_cons,hf] at hb
  exact hb
theorem Inv.stkFree(I:Inv X pins σ H s):∀b∈Fv X.stack,H b=none:=fun b hb=>by
 rcases zR.mp (I.stkSub b hb) with e|hb
 ·rw[e];exact I.free
 ·obtain⟨_,o,ho,_⟩:=I.ok.funs.mem hb
  exact I.base.free b o ho (I.ok.frf b hb) fun z=>I.ok.exfs b z hb
theorem Inv.step{g':Array GenState}{t':Nat}{d':Drawn}{ch:List Addr}(I:Inv X pins σ H s)
  (hch:∀b∈ch,(b∈X.ex\/X.s₀.heap.objs.size<=b)/\b≠X.env.locals/\(∀x c,X.env.cells.lookup x=some c->c≠b)/\∀p∈X.pn++pins,p.1≠b)
  (keep:∀b o,b≠X.env.locals->b∉X.fs->b∉ch->s.heap.get? b=some o->H b=none->h'.get? b=some o)
  (slot:∀b o,b≠X.env.locals->b∈X.fs->b∉ch->s.heap.get? b=some o->H b=none->∃sl,h'.get? b=some { o with slots:=sl }) (free:∀b o,b∉ch->s.heap.get? b=some o->H b=none->H' b=none)
  (there:∀b o,b∉ch->s.heap.get? b=some o->∃o',h'.get? b=some o')
  (tups:∀b xs,H b=some (.tup xs)->H' b=some (.tup xs)) (frzs:∀b o u,H b=some (.frz o u)->H' b=some (.frz o u)) (tbls:KU H H' s.heap h')
  (ns:∀m,s.heap.Ns X.env.locals m->h'.Ns X.env.locals m) (hok:p9 X.prog X.w H' h') (hg:AllBare g') :
  Inv X pins σ H' { s with heap:=h',gens:=g',drawn:=d',toks:=t' }:=by
 have neL:∀b o,X.s₀.heap.get? b=some o->b≠X.env.locals:=fun b o e=>Nat.ne_of_lt (zP (zZ e) I.ok.above)
 have neC:∀b o,X.s₀.heap.get? b=some o->b∉X.ex->b∉ch:=fun b o e hx hb=>by
  rcases (hch b hb).1 with z|z
  ·exact hx z
  ·exact absurd (zP (zZ e) z) (Nat.lt_irrefl _)
 have cellK:∀x c,X.env.cells.lookup x=some c->∀v,s.heap.IsCell c v->h'.IsCell c v:=fun x c e v ⟨o,ho,hd⟩=>by
  have nch:c∉ch:=fun z=>(hch c z).2.2.1 x c e rfl
  by_cases hc:c∈X.fs
  ·obtain⟨sl,q⟩:=slot c o (I.cne x c e) hc nch ho (I.freeC x c e)
   exact⟨_,q,hd⟩
  ·exact⟨o,keep c o (I.cne x c e) hc nch ho (I.freeC x c e),hd⟩
 refine⟨I.ok,I.os,hg,⟨fun b o e n hb hx=>?_,fun b o e n hb hx=>?_,fun b o e n hx=>?_,fun b o e hx=>?_,fun b xs e=>tups b xs (I.base.tups b xs e),fun b o xs e=>frzs b o xs (I.base.frzs b o xs e),I.base.tbls.trans tbls⟩,?_,fun x c e=>?_,?_,fun x c e=>?_,fun p hp=>?_,hok,I.len⟩
 ·exact keep b o (neL b o e) hb (neC b o e hx) (I.base.keep b o e n hb hx) (I.base.free b o e n hx)
 ·obtain⟨sl,e1⟩:=I.base.slot b o e n hb hx
  obtain⟨sl',e2⟩:=slot b _ (neL b o e) hb (neC b o e hx) e1 (I.base.free b o e n hx)
  exact⟨sl',e2⟩
 ·obtain⟨o',e1⟩:=I.base.there b o e hx
  exact free b o' (neC b o e hx) e1 (I.base.free b o e n hx)
 ·obtain⟨o',e1⟩:=I.base.there b o e hx
  exact there b o' (neC b o e hx) e1
 ·obtain⟨m,hn,hl⟩:=I.loc
  refine⟨m,ns m hn,fun i x v e1 e2 e3=>?_⟩
  obtain⟨u,r,l⟩:=hl i x v e1 e2 e3
  refine⟨u,r,?_⟩
  rcases l with l|⟨k,c,e,z⟩
  ·exact .inl l
  ·exact .inr ⟨k,c,e,cellK x c e _ z⟩
 ·obtain⟨v,z⟩:=I.cell x c e
  exact⟨v,cellK x c e v z⟩
 ·obtain⟨m,⟨o,_,_,ho,_⟩,_⟩:=I.loc
  exact free _ o (fun z=>(hch _ z).2.1 rfl) ho I.free
 ·obtain⟨v,o,ho,hd⟩:=I.cell x c e
  exact free c o (fun z=>(hch c z).2.2.1 x c e rfl) ho (I.freeC x c e)
 ·obtain⟨e,n,ne,nf,d⟩:=I.pin p hp
  have nch:p.1∉ch:=fun z=>(hch p.1 z).2.2.2 p hp rfl
  exact⟨keep p.1 p.2 ne nf nch e n,free p.1 p.2 nch e n,ne,nf,d⟩
theorem Inv.un{t':Nat}(I:Inv X pins σ H s)(u:Un X.fs [] H H' s.heap h')(hok:p9 X.prog X.w H' h'):Inv X pins σ H' { s with heap:=h',toks:=t' }:=by
 obtain⟨m,⟨o,es,ep,ho,r⟩,_⟩:=id I.loc
 obtain⟨sl,hL⟩:=u.any ho I.free (by simp)
 exact I.step (g':=s.gens) (d':=s.drawn) (ch:=[]) (fun _ z=>nomatch z) (fun b o _ hb _ e n=>u.keep b o e n hb (by simp)) (fun b o _ hb _ e n=>u.slot b o e n hb (by simp)) (fun b o _ e n=>u.free b o e n (by simp)) (fun b o _ e=>u.there b o e (by simp)) u.tups u.frzs u.tbls (fun m' hm=>by
  obtain⟨o',es',ep',ho',r'⟩:=hm
  rw[ho] at ho';cases ho'
  exact⟨_,es',ep',hL,r'⟩) hok I.bare
theorem Inv.call{g':Array GenState}{t':Nat}{d':Drawn}{ch:List Addr}(I:Inv X pins σ H s)(u:Un (Fv X.stack) ch H H' s.heap h')(hok:p9 X.prog X.w H' h')(hg:AllBare g')
  (hch:∀b∈ch,(b∈X.ex\/X.s₀.heap.objs.size<=b)/\b≠X.env.locals/\(∀x c,X.env.cells.lookup x=some c->c≠b)/\∀p∈X.pn++pins,p.1≠b) :
  Inv X pins σ H' { s with heap:=h',gens:=g',drawn:=d',toks:=t' }:=by
 obtain⟨m,⟨o,es,ep,ho,r⟩,_⟩:=id I.loc
 obtain⟨sl,hL⟩:=u.any ho I.free fun z=>(hch _ z).2.1 rfl
 exact I.step (ch:=ch) hch (fun b o hL hb hc e n=>u.keep b o e n (fun z=>(zR.mp (I.stkSub b z)).elim hL hb) hc) (fun b o _ _ hc e n=>u.any e n hc) (fun b o hc e n=>u.free b o e n hc) (fun b o hc e=>u.there b o e hc) u.tups u.frzs u.tbls (fun m' hm=>by
  obtain⟨o',es',ep',ho',r'⟩:=hm
  rw[ho] at ho';cases ho'
  exact⟨_,es',ep',hL,r'⟩) hok hg
theorem Inv.turned{t':Nat}{it:Addr}(I:Inv X pins σ H s)(k:∀b o,b≠it->s.heap.get? b=some o->h'.get? b=some o)(hn:H it=none)(hL:it≠X.env.locals)
  (h1:it∈X.ex\/X.s₀.heap.objs.size<=it) (h2:∀x c,X.env.cells.lookup x=some c->c≠it) (h3:∀p∈X.pn++pins,p.1≠it):Inv X pins σ H { s with heap:=h',toks:=t' }:=by
 have nit:∀b u,H b=some u->b≠it:=fun b u e z=>by rw[z,hn] at e;cases e
 refine I.step (g':=s.gens) (d':=s.drawn) (ch:=[it]) (fun b hb=>?_) (fun b o _ _ hc e _=>k b o (fun z=>hc (by simp[z])) e) (fun b o _ _ hc e _=>⟨o.slots,k b o (fun z=>hc (by simp[z])) e⟩) (fun _ _ _ _ n=>n)
  (fun b o hc e=>⟨o,k b o (fun z=>hc (by simp[z])) e⟩) (fun _ _ e=>e) (fun _ _ _ e=>e) (.kept (fun b u z e=>k b u (fun r=>by subst r;rcases z with ⟨q,z⟩;rw[hn] at z;cases z) e) fun _ _ e _=>e) (fun m hm=>?_) (fun b u e=>?_) I.bare
 ·have e:b=it:=by simpa using hb
  subst e
  exact⟨h1,hL,h2,h3⟩
 ·obtain⟨o,es,ep,ho,r⟩:=hm
  exact⟨o,es,ep,k _ o (Ne.symm hL) ho,r⟩
 ·refine (I.hok b u e).stay (fun c v hc q=>k c v ?_ q) (fun _ q=>q) fun _ _ q _=>q
  rcases hc with z|z
  ·rw[z];exact nit b u e
  ·exact nit c _ z
theorem Inv.tok(I:Inv X pins σ H s)(t:Nat):Inv X pins σ H { s with toks:=t }:=I.un (h':=s.heap) (t':=t) Un.refl I.hok
theorem Inv.kept{t':Nat}(I:Inv X pins σ H s)(k:∀b u,s.heap.get? b=some u->h'.get? b=some u):Inv X pins σ H { s with heap:=h',toks:=t' }:=I.un (Un.kept k) (I.hok.kept k)
theorem Inv.laid{a:Addr}{o:HO}{t':Nat}(I:Inv X pins σ H s)(k:∀b u,s.heap.get? b=some u->h'.get? b=some u)(hp:s.heap.objs.size<=a)(new:fY X.prog X.w (upd H a o) h' a o) :
  Inv X pins σ (upd H a o) { s with heap:=h',toks:=t' }:=I.un (Un.laid k hp (I.hok.fresh hp)) (I.hok.laid k hp new)
theorem Inv.write{x e:Addr}{o:HO}{t':Nat}(I:Inv X pins σ H s)(mu:Ox (H x))(he:e=x\/H e=some (.own x))(k:∀b u,b≠e->s.heap.get? b=some u->h'.get? b=some u)(heo:∃u,h'.get? e=some u)
  (new:fY X.prog X.w (upd H x o) h' x o):Inv X pins σ (upd H x o) { s with heap:=h',toks:=t' }:=I.un (Un.write mu he k heo) (I.hok.write mu he k heo new)
theorem Inv.pins_of{pins':List (Addr×Obj)}(I:Inv X pins σ H s)(h:∀p∈pins',s.heap.get? p.1=some p.2/\H p.1=none/\p.1≠X.env.locals/\p.1∉X.fs/\∀v,p.2.data≠.cell v):Inv X pins' σ H s :=
 ⟨I.ok,I.os,I.bare,I.base,I.loc,I.cell,I.free,I.freeC,fun p hp=>(List.mem_append.mp hp).elim (fun z=>I.pin p (List.mem_append_left _ z)) (h p),I.hok,I.len⟩
theorem yv{N:List Str}(hN:N.Nodup){i j:Nat}{x:Str}(a:N[i]?=some x)(b:N[j]?=some x):i=j:=by
 obtain⟨h1,e1⟩:=zU.mp a
 obtain⟨h2,e2⟩:=zU.mp b
 exact (List.getElem_inj hN).mp (e1.trans e2.symm)
theorem uW{M:Model}{A:Around}{E:Value->Shared->Prop}{i:Nat}{x:Str}{v:V}{u:Value}{Q:Unit->Shared->Prop}(I:Inv X pins σ H s)(hN:X.N.Nodup)(hi:X.N[i]?=some x)(hx:Loc X.env.scope x)(r:RelV v u)
  (h:∀s',Inv X pins (σ.set i (some v)) H s'->(∃a,Heap.SameBut a s.heap s'.heap/\(a=X.env.locals\/X.env.cells.lookup x=some a))->Q () s') (hf:X.fn x=true\/X.env.scope.names.lookup x=some .local:=by first|exact .inl rfl|exact .inr rfl|assumption):wpAny M A (storeName X.env x u) Q E s:=by
 obtain⟨m,hn,hl⟩:=id I.loc
 have hcls:(X.env.scope.kind == .class||(X.env.scope.kind == .module&&X.env.locals != X.env.globals))=false:=by rw[I.ok.kind];rfl
 have hiσ:i < σ.length:=by rw[I.len];exact (zU.mp hi).1
 have cne:=I.cne
 have tracked:∀ {a:Addr}{h':Heap},(∃o,s.heap.get? a=some o/\H a=none)->Heap.SameBut a s.heap h'->p9 X.prog X.w H h':=fun {a h'} ha hs b ob e=>by
  obtain⟨_,_,hfree⟩:=ha
  refine (I.hok b ob e).stay (fun c w' hc q=>(hs.2 c ?_).trans q) (fun _ q=>q) fun _ _ q _=>q
  rintro rfl
  rcases hc with rfl|hc
  ·rw[hfree] at e;cases e
  ·rw[hfree] at hc;cases hc
 rcases hx with hk|hk
 ·refine wpAny_storeName_local hk hn (fun h' hn' hs=>?_) hcls
  obtain⟨oL,_,_,hoL,_⟩:=id hn
  refine h _ ⟨I.ok,I.os,I.bare,⟨fun b o e n hb hx=>?_,fun b o e n hb hx=>?_,I.base.free,fun b o e hx=>?_,I.base.tups,I.base.frzs,I.base.tbls.trans (.kept (fun b u z e=>(hs.2 b (fun r=>by rcases z with ⟨q,z⟩;rw[r,I.free] at z;cases z)).trans e) fun _ _ e _=>e)⟩,⟨_,hn',fun j y v' e1 e2 e3=>?_⟩,fun y c e=>?_,I.free,I.freeC,fun p hp=>?_,tracked ⟨oL,hoL,I.free⟩ hs,by simpa using I.len⟩ ⟨_,hs,.inl rfl⟩
  ·exact (hs.2 b (Nat.ne_of_lt (zP (zZ e) I.ok.above))).trans (I.base.keep b o e n hb hx)
  ·obtain⟨sl,e1⟩:=I.base.slot b o e n hb hx
   exact⟨sl,(hs.2 b (Nat.ne_of_lt (zP (zZ e) I.ok.above))).trans e1⟩
  ·obtain⟨o',e1⟩:=I.base.there b o e hx
   exact⟨o',(hs.2 b (Nat.ne_of_lt (zP (zZ e) I.ok.above))).trans e1⟩
  ·by_cases hj:j=i
   ·subst hj
    rw[hi] at e1;cases e1
    rw[List.getElem?_set_self hiσ] at e2
    cases e2
    exact⟨u,r,.inl ⟨hk,by simp⟩⟩
   ·rw[List.getElem?_set_ne (Ne.symm hj)] at e2
    obtain⟨u',r',q⟩:=hl j y v' e1 e2 e3
    refine⟨u',r',?_⟩
    rcases q with ⟨k,e⟩|⟨k,c,e,z⟩
    ·refine .inl ⟨k,?_⟩
     have:y≠x:=fun e=>hj (yv hN e1 (e ▸ hi))
     simp[this,e]
    ·exact .inr ⟨k,c,e,z.sameBut hs (cne y c e)⟩
  ·obtain⟨w',z⟩:=I.cell y c e
   exact⟨w',z.sameBut hs (cne y c e)⟩
  ·obtain⟨e,n,ne,nf,d⟩:=I.pin p hp
   exact⟨(hs.2 p.1 ne).trans e,n,ne,nf,d⟩
 ·have hfn:X.fn x=true:=by
   rcases hf with z|z
   ·exact z
   ·rw[z] at hk;cases hk
  obtain⟨c,hc⟩:=I.ok.has x (.inl hk)
  obtain⟨w',z⟩:=I.cell x c hc
  refine wpAny_storeName_cell I.ok.kind hk hc z (fun h' hc' hs=>?_)
  obtain⟨oc,hoc,hocd⟩:=id z
  refine h { s with heap:=h' } ⟨I.ok,I.os,I.bare,⟨fun b o e n hb hx=>?_,fun b o e n hb hx=>?_,I.base.free,fun b o e hx=>?_,I.base.tups,I.base.frzs,I.base.tbls.trans (.kept (fun b u z e=>(hs.2 b (fun r=>by rcases z with ⟨q,z⟩;rw[r,I.freeC x c hc] at z;cases z)).trans e) fun _ _ e _=>e)⟩,⟨m,hn.sameBut hs (Ne.symm (cne x c hc)),fun j y v' e1 e2 e3=>?_⟩,fun y c' e=>?_,I.free,I.freeC,fun p hp=>?_,tracked ⟨oc,hoc,I.freeC x c hc⟩ hs,by simpa using I.len⟩ ⟨c,hs,.inr hc⟩
  ·exact (hs.2 b (Nat.ne_of_lt (zP (zZ e) (I.ok.cab x c hfn hc)))).trans (I.base.keep b o e n hb hx)
  ·obtain⟨sl,e1⟩:=I.base.slot b o e n hb hx
   exact⟨sl,(hs.2 b (Nat.ne_of_lt (zP (zZ e) (I.ok.cab x c hfn hc)))).trans e1⟩
  ·obtain⟨o',e1⟩:=I.base.there b o e hx
   exact⟨o',(hs.2 b (Nat.ne_of_lt (zP (zZ e) (I.ok.cab x c hfn hc)))).trans e1⟩
  ·by_cases hj:j=i
   ·subst hj
    rw[hi] at e1;cases e1
    rw[List.getElem?_set_self hiσ] at e2
    cases e2
    exact⟨u,r,.inr ⟨.inl hk,c,hc,hc'⟩⟩
   ·rw[List.getElem?_set_ne (Ne.symm hj)] at e2
    obtain⟨u',r',q⟩:=hl j y v' e1 e2 e3
    refine⟨u',r',?_⟩
    rcases q with q|⟨k,c',e,z'⟩
    ·exact .inl q
    ·refine .inr ⟨k,c',e,z'.sameBut hs ?_⟩
     rintro rfl
     exact hj (yv hN e1 (I.ok.inj _ _ _ e hc ▸ hi))
  ·by_cases hcc:c'=c
   ·subst hcc;exact⟨_,hc'⟩
   ·obtain⟨w2,z2⟩:=I.cell y c' e
    exact⟨w2,z2.sameBut hs hcc⟩
  ·obtain⟨e,n,ne,nf,d⟩:=I.pin p hp
   refine⟨(hs.2 p.1 ?_).trans e,n,ne,nf,d⟩
   intro q
   rw[q,hoc] at e
   have q':oc=p.2:=Option.some.inj e
   exact d w' (by rw[<- q'];exact hocd)
theorem xW{M:Model}{A:Around}{E:Value->Shared->Prop}{i:Nat}{x:Str}{v:V}{u:Value}{Q:Unit->Shared->Prop}(I:Inv X pins σ H s)(hN:X.N.Nodup)(hi:X.N[i]?=some x)(hx:Loc X.env.scope x)(r:RelV v u)
  (h:∀s',Inv X pins (σ.set i (some v)) H s'->Q () s') (hf:X.fn x=true\/X.env.scope.names.lookup x=some .local:=by first|exact .inl rfl|exact .inr rfl|assumption):wpAny M A (storeName X.env x u) Q E s :=
 uW I hN hi hx r (fun s' I' _=>h s' I') hf
theorem Inv.call'{s':Shared}{ch:List Addr}(I:Inv X pins σ H s)(ho:s'.os=s.os)(u:Un (Fv X.stack) ch H H' s.heap s'.heap)(hok:p9 X.prog X.w H' s'.heap)(hg:AllBare s'.gens)
  (hch:∀b∈ch,(b∈X.ex\/X.s₀.heap.objs.size<=b)/\b≠X.env.locals/\(∀x c,X.env.cells.lookup x=some c->c≠b)/\∀p∈X.pn++pins,p.1≠b):Inv X pins σ H' s':=by
 obtain⟨h',g',d',t',o'⟩:=s'
 have e:o'=s.os:=ho
 subst e
 exact I.call (g':=g') (t':=t') (d':=d') u hok hg hch
end
noncomputable abbrev XK:=Value->Option Addr->Hp->Prop
noncomputable abbrev St:=List (Option V)
noncomputable abbrev VK:=V->Hp->Prop
noncomputable abbrev TE:=St->Hp->VK->Prop
noncomputable abbrev TT:=St->Hp->(Bool->Hp->Prop)->Prop
noncomputable abbrev TA:=St->Hp->(List V->Hp->Prop)->Prop
structure Ends where
 nx:St->Hp->Prop
 rt:VK
 bk:St->Hp->Prop:=fun _ _=>False
 ct:St->Hp->Prop:=fun _ _=>False
noncomputable abbrev TS:=Ends->St->Hp->Prop
def EP(X:Cx)(pins:List (Addr×Obj))(σ:St)(Q:VK)(u:Value)(s':Shared):Prop:=∃v H',Inv X pins σ H' s'/\RelV v u/\Q v H'
def TP(X:Cx)(pins:List (Addr×Obj))(σ:St)(Q:Bool->Hp->Prop)(b:Bool)(s':Shared):Prop:=∃H',Inv X pins σ H' s'/\Q b H'
def AP(X:Cx)(pins:List (Addr×Obj))(σ:St)(Q:List V->Hp->Prop)(us:List Value)(s':Shared):Prop:=∃vs H',Inv X pins σ H' s'/\aM vs us/\Q vs H'
noncomputable def SP(X:Cx)(pins:List (Addr×Obj))(D:Ends)(f:Flow)(s':Shared):Prop :=
 match f with
 | .next=>∃σ' H',Inv X pins σ' H' s'/\D.nx σ' H'
 | .brk=>∃σ' H',Inv X pins σ' H' s'/\D.bk σ' H'
 | .cont=>∃σ' H',Inv X pins σ' H' s'/\D.ct σ' H'
 | .ret u=>∃v σ' H',Inv X pins σ' H' s'/\RelV v u/\D.rt v H'
noncomputable def PE(X:Cx)(e:Expr)(t:TE):Prop :=
 ∀ (pins:List (Addr×Obj)) (s:Shared) (σ:St) (H:Hp) (Q:VK),Inv X pins σ H s->t σ H Q->wpAny (model X.prog X.w) X.A (eval e X.env) (EP X pins σ Q) X.xe s
noncomputable def PT(X:Cx)(e:Expr)(t:TT):Prop :=
 ∀ (pins:List (Addr×Obj)) (s:Shared) (σ:St) (H:Hp) (Q:Bool->Hp->Prop),Inv X pins σ H s->t σ H Q->wpAny (model X.prog X.w) X.A (isTrue e X.env (eval e X.env)) (TP X pins σ Q) X.xe s
noncomputable def PW(X:Cx)(e:Expr)(t:TT):Prop :=
 ∀ (whole:Sem Value) (pins:List (Addr×Obj)) (s:Shared) (σ:St) (H:Hp) (Q:Bool->Hp->Prop),Inv X pins σ H s->t σ H Q->wpAny (model X.prog X.w) X.A (isTrue e X.env whole) (TP X pins σ Q) X.xe s
theorem PW.pt{X:Cx}{e:Expr}{t:TT}(h:PW X e t):PT X e t:=h _
noncomputable def PA(X:Cx)(es:List Expr)(t:TA):Prop :=
 ∀ (pos:Pos) (pins:List (Addr×Obj)) (s:Shared) (σ:St) (H:Hp) (Q:List V->Hp->Prop),Inv X pins σ H s->t σ H Q->wpAny (model X.prog X.w) X.A (spliced (backTo pos (starEach es X.env))) (AP X pins σ Q) X.xe s
noncomputable def PS(X:Cx)(st:Stmt)(t:TS):Prop :=
 ∀ (pins:List (Addr×Obj)) (s:Shared) (σ:St) (H:Hp) (D:Ends),Inv X pins σ H s->t D σ H->wpAny (model X.prog X.w) X.A (exec st X.env) (SP X pins D) X.xe s
noncomputable def BA(X:Cx)(st:List Stmt)(t:TS):Prop :=
 ∀ (pins:List (Addr×Obj)) (s:Shared) (σ:St) (H:Hp) (D:Ends),Inv X pins σ H s->t D σ H->wpAny (model X.prog X.w) X.A (execs st X.env) (SP X pins D) X.xe s
theorem cK{α:Type}{t:Sem α}{Q Q':α->Shared->Prop}{M:Model}{A:Around}{E:Value->Shared->Prop}{s:Shared}(h:wpAny M A t Q E s)(hQ:∀a s,Q a s->Q' a s):wpAny M A t Q' E s:=wpAny_mono h hQ fun _ _ x=>x
section
variable {X:Cx}
def PL(i:Nat):TE:=fun σ H Q=>∃v,σ[i]?=some (some v)/\Q v H
def tC(v:V):TE:=fun _ H Q=>Q v H
theorem qw{i:Nat}{x:Str}{pos:Pos}(hN:X.N[i]?=some x)(hv:Lf X.env.scope x)(hd:(x == ("__debug__":Str))=false:=by decide)(hcd:(x == ("__classdict__":Str))=false:=by decide):PE X (.Name x pos) (PL i):=by
 intro pins s σ H Q I h
 obtain⟨v,e,h⟩:=h
 obtain⟨m,hn,hl⟩:=I.loc
 obtain⟨u,r,l⟩:=hl i x v hN e hv
 have fin:EP X pins σ Q u s:=⟨v,H,I,r,h⟩
 rcases l with ⟨hk,hm⟩|⟨hk,c,hc,hcell⟩
 ·exact wpAny_Name (wpAny_loadName_local I.ok.kind hk hn hm fin) hd
 ·rcases hk with hk|hk
  ·exact wpAny_Name (wpAny_loadName_cell I.ok.kind hk hc hcell fin) hd
  ·exact wpAny_Name (wpAny_loadName_free I.ok.kind hk hc hcell fin hcd) hd
theorem Nd{i j pos}:PE X (.Constant (.int i) j pos) (tC (.int i)):=fun _ _ _ H _ I h=>wpAny_Constant_int ⟨.int i,H,I.tok _,⟨_,rfl⟩,h⟩
theorem Of{b j pos}:PE X (.Constant (.bool b) j pos) (tC (.bl b)):=fun _ _ _ H _ I h=>Constant_bool ⟨.bl b,H,I,rfl,h⟩
theorem Mz{j pos}:PE X (.Constant .none j pos) (tC .non):=fun _ _ _ H _ I h=>Constant_none ⟨.non,H,I,rfl,h⟩
theorem MR{x j pos}:PE X (.Constant (.str x) j pos) (tC (.str x)):=fun _ _ _ H _ I h=>Calls.Constant_str ⟨.str x,H,I.tok _,⟨_,rfl⟩,h⟩
def Gl(X:Cx)(x:Str):Prop:=X.env.kindOf x=some .globalImplicit
theorem Cg{E:Value->Shared->Prop}{pins:List (Addr×Obj)}{s:Shared}{σ:St}{H:Hp}{x:Str}{u:Value}{pos:Pos}{Q:Value->Shared->Prop}(I:Inv X pins σ H s)(hg:Gl X x)(hm:X.mg x=some u)(h:Q u s)
  (hd:(x == ("__debug__":Str))=false:=by decide):wpAny (model X.prog X.w) X.A (eval (.Name x pos) X.env) Q E s :=
 Calls.Name_function_global I.ok.kind hg (Calls.loadGlobal_global (by rw[I.ok.glob];exact I.mod.glob.keeps I.bk) hm h) hd
theorem j6{E:Value->Shared->Prop}{pins:List (Addr×Obj)}{s:Shared}{σ:St}{H:Hp}{x:Str}{u:Value}{pos:Pos}{Q:Value->Shared->Prop}(I:Inv X pins σ H s)(hg:Gl X x)(hm:X.mg x=none)(hv:bootBuiltins x=some u)(h:Q u s)
  (hn:x≠"__name__":=by decide) (hd:(x == ("__debug__":Str))=false:=by decide):wpAny (model X.prog X.w) X.A (eval (.Name x pos) X.env) Q E s:=by
 obtain⟨mb,h1,h2⟩:=I.mod.blt
 exact Calls.Name_function_global I.ok.kind hg (Calls.loadGlobal_builtin (by rw[I.ok.glob];exact I.mod.glob.keeps I.bk) hm (by rw[I.ok.blt];exact h1.keeps I.bk) ((h2 x hn).trans hv) h) hd
theorem vG{x:Str}{v:V}{u:Value}{pos:Pos}(hg:Gl X x)(hm:X.mg x=some u)(r:RelV v u)(hd:(x == ("__debug__":Str))=false:=by decide):PE X (.Name x pos) (tC v) :=
 fun _ _ _ H _ I h=>Cg I hg hm ⟨v,H,I,r,h⟩ hd
theorem JI{x:Str}{v:V}{u:Value}{pos:Pos}(hg:Gl X x)(hm:X.mg x=none)(hv:bootBuiltins x=some u)(r:RelV v u)(hn:x≠"__name__":=by decide)(hd:(x == ("__debug__":Str))=false:=by decide):PE X (.Name x pos) (tC v) :=
 fun _ _ _ H _ I h=>j6 I hg hm hv ⟨v,H,I,r,h⟩ hn hd
variable {a b:Expr}{ta tb:TE}{pos:Pos}
def tB(t:TE):TT:=fun σ H Q=>t σ H fun x H1=>∃c,x=.bl c/\Q c H1
theorem Lq{e:Expr}{t:TE}(h:PE X e t)(he:∀whole,isTrue e X.env whole=(do let v <- whole;standAt e.pos;holding [v] (truthy v)):=by intro _;rfl):PT X e (tB t):=by
 intro pins s σ H Q I hw
 refine isTrue_plain (cK (h pins s σ H _ I hw) fun v s1 ⟨x,H1,I1,r1,q1⟩=>?_) (he _)
 obtain⟨d,rfl,q⟩:=q1
 cases r1
 exact wpAny_truthy_bool ⟨H1,I1,q⟩
variable {tA tB':TT}{rest:List Expr}
def P0(t u:TT):TT:=fun σ H Q=>t σ H fun c H1=>if c=true then u σ H1 Q else Q false H1
def Q4(t u:TT):TT:=fun σ H Q=>t σ H fun c H1=>if c=true then Q true H1 else u σ H1 Q
def Qx(t:TT):TT:=fun σ H Q=>t σ H fun c H1=>Q (!c) H1
theorem Ko(ha:PT X a tA):PW X (.BoolOp .And [a] pos) tA:=by
 intro wh pins s σ H Q I h
 refine isTrue_and (cK (ha pins s σ H Q I h) fun c s1 e=>?_)
 cases c with
 | true=>exact isTrue_and_nil e
 | false=>exact e
theorem LC(ha:PT X a tA):PW X (.BoolOp .Or [a] pos) tA:=by
 intro wh pins s σ H Q I h
 refine isTrue_or (cK (ha pins s σ H Q I h) fun c s1 e=>?_)
 cases c with
 | false=>exact isTrue_or_nil e
 | true=>exact e
theorem Nu(ha:PT X a tA)(hb:PW X (.BoolOp .And (b::rest) pos) tB'):PW X (.BoolOp .And (a::b::rest) pos) (P0 tA tB'):=by
 intro wh pins s σ H Q I h
 refine isTrue_and (cK (ha pins s σ H _ I h) fun c s1 ⟨H1,I1,q1⟩=>?_)
 cases c with
 | true=>exact hb wh pins s1 σ H1 Q I1 q1
 | false=>exact⟨H1,I1,q1⟩
theorem Ot(ha:PT X a tA)(hb:PW X (.BoolOp .Or (b::rest) pos) tB'):PW X (.BoolOp .Or (a::b::rest) pos) (Q4 tA tB'):=by
 intro wh pins s σ H Q I h
 refine isTrue_or (cK (ha pins s σ H _ I h) fun c s1 ⟨H1,I1,q1⟩=>?_)
 cases c with
 | true=>exact⟨H1,I1,q1⟩
 | false=>exact hb wh pins s1 σ H1 Q I1 q1
theorem Ng(ha:PT X a tA):PT X (.UnaryOp .Not a pos) (Qx tA):=by
 intro pins s σ H Q I h
 exact isTrue_not (ha pins s σ H (fun c H1=>Q (!c) H1) I h)
def NU(ta tb:TE):TE:=fun σ H Q=>ta σ H fun x H1=>∃c,x=.bl c/\if c=true then tb σ H1 Q else Q (.bl false) H1
def PX(ta tb:TE):TE:=fun σ H Q=>ta σ H fun x H1=>∃c,x=.bl c/\if c=true then Q (.bl true) H1 else tb σ H1 Q
def NN(ta:TE):TE:=fun σ H Q=>ta σ H fun x H1=>∃c,x=.bl c/\Q (.bl (!c)) H1
theorem LZ{op}{t:TE}(h:PE X a t):PE X (.BoolOp op [a] pos) t:=fun pins s σ H Q I hw=>BoolOp_one (h pins s σ H Q I hw)
theorem Mn(ha:PE X a ta)(hb:PE X (.BoolOp .And (b::rest) pos) tb):PE X (.BoolOp .And (a::b::rest) pos) (NU ta tb):=by
 intro pins s σ H Q I h
 refine BoolOp_and (cK (ha pins s σ H _ I h) fun v s1 ⟨x,H1,I1,r1,q1⟩=>?_)
 obtain⟨c,rfl,q1⟩:=q1
 cases r1
 refine wpAny_truthy_bool ?_
 cases c with
 | true=>exact hb pins s1 σ H1 Q I1 q1
 | false=>exact⟨.bl false,H1,I1,rfl,q1⟩
theorem Fz(ha:PE X a ta)(hb:PE X (.BoolOp .Or (b::rest) pos) tb):PE X (.BoolOp .Or (a::b::rest) pos) (PX ta tb):=by
 intro pins s σ H Q I h
 refine BoolOp_or (cK (ha pins s σ H _ I h) fun v s1 ⟨x,H1,I1,r1,q1⟩=>?_)
 obtain⟨c,rfl,q1⟩:=q1
 cases r1
 refine wpAny_truthy_bool ?_
 cases c with
 | false=>exact hb pins s1 σ H1 Q I1 q1
 | true=>exact⟨.bl true,H1,I1,rfl,q1⟩
theorem Ma(ha:PE X a ta):PE X (.UnaryOp .Not a pos) (NN ta):=by
 intro pins s σ H Q I h
 refine UnaryOp_ (cK (ha pins s σ H _ I h) fun v s1 ⟨x,H1,I1,r1,q1⟩=>?_)
 obtain⟨c,rfl,q1⟩:=q1
 cases r1
 exact not_of (wpAny_truthy_bool ⟨.bl (!c),H1,I1,rfl,q1⟩)
def Q0(t:TT)(ta tb:TE):TE:=fun σ H Q=>t σ H fun c H1=>if c=true then ta σ H1 Q else tb σ H1 Q
theorem Fs{c:Expr}(hc:PT X c tA)(ha:PE X a ta)(hb:PE X b tb):PE X (.IfExp c a b pos) (Q0 tA ta tb):=by
 intro pins s σ H Q I h
 refine wpAny_IfExp (cK (hc pins s σ H _ I h) fun d s1 ⟨H1,I1,q1⟩=>?_)
 cases d with
 | true=>exact ha pins s1 σ H1 Q I1 q1
 | false=>exact hb pins s1 σ H1 Q I1 q1
end
noncomputable def i8(K:W.Frag)(H:Hp)(a:Addr)(xs:List V):Prop :=
 Rd H a (.lst xs) \/
  ∃ (o:Obj) (its:Array Value) (n:Nat),K.lookup a=some o/\o.cls=.type "list"/\o.dict=none/\o.data=.seq its n/\its.size<=sizeLine/\aM xs its.toList
noncomputable def jA(K:W.Frag)(H:Hp)(a:Addr)(xs:List V):Prop :=
 Rd H a (.tup xs) \/
  ∃ (o:Obj) (its:Array Value) (n:Nat),K.lookup a=some o/\o.cls=.type "tuple"/\o.dict=none/\o.data=.seq its n/\its.size<=sizeLine/\aM xs its.toList
noncomputable def P8:Value->Option V
 | .none=>some .non
 | .bool b=>some (.bl b)
 | .int i _=>some (.int i)
 | .str x _=>some (.str x)
 | .bytes b _=>some (.byt b)
 | .float b _=>some (.flt b)
 | .ref a=>some (.ref a)
 | .type n=>some (.ty n)
 | _=>none
theorem RelV.abs{x:V}{u:Value}(r:RelV x u):P8 u=some x:=by
 cases x with
 | non=>cases r;rfl
 | bl _=>cases r;rfl
 | int _=>obtain⟨t,rfl⟩:=r;rfl
 | str _=>obtain⟨t,rfl⟩:=r;rfl
 | byt _=>obtain⟨t,rfl⟩:=r;rfl
 | flt _=>obtain⟨t,rfl⟩:=r;rfl
 | ref _=>cases r;rfl
 | ty _=>cases r;rfl
theorem RelV.inj{x y:V}{u:Value}(r:RelV x u)(q:RelV y u):x=y:=Option.some.inj (r.abs.symm.trans q.abs)
theorem aM.inj:∀ {xs ys:List V}{us:List Value},aM xs us->aM ys us->xs=ys
 | _,_,_,.nil,.nil=>rfl
 | _,_,_,.cons r t,.cons r' t'=>by rw[r.inj r',aM.inj t t']
section
variable {X:Cx}{pins:List (Addr×Obj)}{σ:St}{H:Hp}{s:Shared}{a:Addr}{xs ys:List V}
theorem i8.of{K:W.Frag}(h:H a=some (.lst xs)):i8 K H a xs:=.inl (.inl h)
theorem Inv.list(I:Inv X pins σ H s)(h:i8 X.K H a xs):∃its:List Value,aM xs its/\PlainL s.heap a its.toArray/\xs.length<=sizeLine:=by
 rcases h with h|⟨o,its,n,hk,hc,hd,hs,hz,r⟩
 ·obtain⟨z,its,n,r,e⟩:=h.ok I.hok
  exact⟨its,r,⟨_,n,e,rfl,rfl,rfl⟩,z⟩
 ·refine⟨its.toList,r,⟨o,n,I.kIn a o hk,hc,hd,by simpa using hs⟩,?_⟩
  have e:=r.length
  simp only[Array.length_toList] at e
  omega
theorem Inv.tuple(I:Inv X pins σ H s)(h:jA X.K H a xs):∃its:List Value,aM xs its/\IsTup s.heap a its.toArray/\xs.length<=sizeLine:=by
 rcases h with h|⟨o,its,n,hk,hc,_,hs,hz,r⟩
 ·obtain⟨z,its,r,p⟩:=h.ok I.hok
  exact⟨its,r,p.1,z⟩
 ·refine⟨its.toList,r,⟨o,I.kIn a o hk,hc,n,by simpa using hs⟩,?_⟩
  have e:=r.length
  simp only[Array.length_toList] at e
  omega
theorem Inv.list_inj(I:Inv X pins σ H s)(h:i8 X.K H a xs)(h':i8 X.K H a ys):xs=ys:=by
 obtain⟨its,r,⟨o,n,e,_,_,d⟩,_⟩:=I.list h
 obtain⟨its',r',⟨o',n',e',_,_,d'⟩,_⟩:=I.list h'
 rw[e] at e';cases e'
 rw[d] at d'
 injection d' with d1 _
 have:its=its':=by simpa using congrArg Array.toList d1
 subst this
 exact r.inj r'
theorem Inv.tuple_inj(I:Inv X pins σ H s)(h:jA X.K H a xs)(h':jA X.K H a ys):xs=ys:=by
 obtain⟨its,r,⟨o,e,_,n,d⟩,_⟩:=I.tuple h
 obtain⟨its',r',⟨o',e',_,n',d'⟩,_⟩:=I.tuple h'
 rw[e] at e';cases e'
 rw[d] at d'
 injection d' with d1 _
 have:its=its':=by simpa using congrArg Array.toList d1
 subst this
 exact r.inj r'
end
noncomputable abbrev Cx.wish(X:Cx)(E:Value->Shared->Prop):Cx:={ X with xe:=E }
noncomputable abbrev Cx.nox(X:Cx):Cx:=X.wish fun _ _=>False
theorem Cx.Ok.wish{X:Cx}(ok:X.Ok)(E:Value->Shared->Prop):(X.wish E).Ok :=
 ⟨ok.mod,ok.kind,ok.glob,ok.blt,ok.above,ok.inj,ok.has,ok.cab,ok.hd,ok.frames,ok.stk,ok.exf,ok.bs,ok.bsz,ok.noex,ok.exfs,ok.funs,ok.frf⟩
theorem Cx.Ok.unwish{X:Cx}{E:Value->Shared->Prop}(ok:(X.wish E).Ok):X.Ok :=
 ⟨ok.mod,ok.kind,ok.glob,ok.blt,ok.above,ok.inj,ok.has,ok.cab,ok.hd,ok.frames,ok.stk,ok.exf,ok.bs,ok.bsz,ok.noex,ok.exfs,ok.funs,ok.frf⟩
section
variable {X:Cx}{pins:List (Addr×Obj)}{σ:St}{H:Hp}{s:Shared}{E:Value->Shared->Prop}
theorem Inv.wish(I:Inv X pins σ H s)(E:Value->Shared->Prop):Inv (X.wish E) pins σ H s:=⟨I.ok.wish E,I.os,I.bare,I.base,I.loc,I.cell,I.free,I.freeC,I.pin,I.hok,I.len⟩
theorem Inv.unwish(I:Inv (X.wish E) pins σ H s):Inv X pins σ H s:=⟨I.ok.unwish,I.os,I.bare,I.base,I.loc,I.cell,I.free,I.freeC,I.pin,I.hok,I.len⟩
theorem SP.unwish{D:Ends}{f:Flow}{s':Shared}(h:SP (X.wish E) pins D f s'):SP X pins D f s':=by
 cases f with
 | next=>obtain⟨σ',H',I,q⟩:=h;exact⟨σ',H',I.unwish,q⟩
 | brk=>obtain⟨σ',H',I,q⟩:=h;exact⟨σ',H',I.unwish,q⟩
 | cont=>obtain⟨σ',H',I,q⟩:=h;exact⟨σ',H',I.unwish,q⟩
 | ret u=>obtain⟨v,σ',H',I,r,q⟩:=h;exact⟨v,σ',H',I.unwish,r,q⟩
theorem BA.nox{st:List Stmt}{t:TS}(h:BA X.nox st t):BA X st t:=fun pins s σ H D I hw =>
 wpAny_mono (h pins s σ H D (I.wish _) hw) (fun _ _ q=>q.unwish) fun _ _ z=>False.elim z
end
section
variable {X:Cx}{st:Stmt}{rest:List Stmt}{t u:TS}{e:Expr}{te:TE}{pos:Pos}
def Ge:TS:=fun D σ H=>D.nx σ H
def PH(t u:TS):TS:=fun D σ H=>t { D with nx:=u D } σ H
theorem JD:BA X [] Ge:=fun _ _ σ H _ I h=>wpAny_execs_nil ⟨σ,H,I,h⟩
theorem FB(h1:PS X st t)(h2:BA X rest u):BA X (st::rest) (PH t u):=by
 intro pins s σ H D I h
 refine wpAny_execs_cons (cK (h1 pins s σ H { D with nx:=u D } I h) fun f s1 q=>?_)
 cases f with
 | next =>
  obtain⟨σ',H',I',q⟩:=q
  exact h2 pins s1 σ' H' D I' q
 | ret v=>exact q
 | brk=>exact q
 | cont=>exact q
theorem KE(h1:PS X st t):BA X [st] t:=by
 intro pins s σ H D I h
 refine wpAny_execs_cons (cK (h1 pins s σ H D I h) fun f s1 q=>?_)
 cases f with
 | next=>exact wpAny_execs_nil q
 | ret v=>exact q
 | brk=>exact q
 | cont=>exact q
theorem Jz:PS X (.Pass pos) Ge:=fun _ _ σ H _ I h=>wpAny_Pass ⟨σ,H,I,h⟩
theorem Inv.quiet{pins:List (Addr×Obj)}{σ:St}{H:Hp}{s:Shared}(I:Inv X pins σ H s):interactive X.env=false:=by simp[interactive,I.ok.kind]
theorem Mr{x j pos pos'}:PS X (.Expr (.Constant (.str x) j pos) pos') Ge:=fun _ s σ H _ I h=>wpAny_Expr (Calls.Constant_str (show SP X _ _ .next { s with toks:=s.toks+1 } from ⟨σ,H,I.tok _,h⟩)) I.quiet
def N2(te:TE):TS:=fun D σ H=>te σ H fun _ H1=>D.nx σ H1
theorem qg(he:PE X e te)(hs:swapsWith e none pos.line X.env=pure false:=by rfl):PS X (.Expr e pos) (N2 te):=by
 intro pins s σ H D I h
 exact wpAny_Expr_any (cK (he pins s σ H _ I h) fun v s1 ⟨x,H1,I1,r1,q1⟩=>⟨σ,H1,I1,q1⟩) I.quiet hs
def Qq(te:TE):TS:=fun D σ H=>te σ H D.rt
theorem Mj(he:PE X e te):PS X (.Return (some e) pos) (Qq te):=by
 intro pins s σ H D I h
 exact wpAny_Return_some (cK (he pins s σ H _ I h) fun v s1 ⟨x,H1,I1,r1,q1⟩=>⟨x,σ,H1,I1,r1,q1⟩)
def Qy(c:TT)(t u:TS):TS:=fun D σ H=>c σ H fun b H1=>if b=true then t D σ H1 else u D σ H1
theorem OE{c:Expr}{a b:List Stmt}{tc:TT}(hc:PT X c tc)(ha:BA X a t)(hb:BA X b u):PS X (.If c a b pos) (Qy tc t u):=by
 intro pins s σ H D I h
 refine wpAny_If (cK (hc pins s σ H _ I h) fun d s1 ⟨H1,I1,q1⟩=>?_)
 cases d with
 | true=>exact ha pins s1 σ H1 D I1 q1
 | false=>exact hb pins s1 σ H1 D I1 q1
end
noncomputable abbrev TG:=V->St->Hp->(St->Hp->Prop)->Prop
noncomputable abbrev L7:=List V->St->Hp->(St->Hp->Prop)->Prop
noncomputable def PG(X:Cx)(target:Expr)(t:TG):Prop :=
 ∀ (pins:List (Addr×Obj)) (s:Shared) (σ:St) (H:Hp) (v:V) (u:Value) (Q:St->Hp->Prop),Inv X pins σ H s->RelV v u->t v σ H Q ->
  wpAny (model X.prog X.w) X.A (assign target X.env u) (fun _ s'=>∃σ' H',Inv X pins σ' H' s'/\Q σ' H') X.xe s
noncomputable def Po(X:Cx)(ts:List Expr)(t:L7):Prop :=
 ∀ (pins:List (Addr×Obj)) (s:Shared) (σ:St) (H:Hp) (vs:List V) (us:List Value) (Q:St->Hp->Prop),Inv X pins σ H s->aM vs us->t vs σ H Q ->
  wpAny (model X.prog X.w) X.A (assignInOrder ((assignEach ts X.env).map (·.2)) us) (fun _ s'=>∃σ' H',Inv X pins σ' H' s'/\Q σ' H') X.xe s
noncomputable abbrev M3:=V->V->V->Hp->(Hp->Prop)->Prop
noncomputable def Pa(X:Cx)(t:M3):Prop :=
 ∀ (pins:List (Addr×Obj)) (s:Shared) (σ:St) (H:Hp) (o i v:V) (ov iv u:Value) (Q:Hp->Prop),Inv X pins σ H s->RelV o ov->RelV i iv->RelV v u->t o i v H Q ->
  wpAny (model X.prog X.w) X.A (setItem ov iv u) (fun _ s'=>∃H',Inv X pins σ H' s'/\Q H') X.xe s
section
variable {X:Cx}{pos:Pos}
def ya(i:Nat):TG:=fun v σ H Q=>Q (σ.set i (some v)) H
theorem dD{i:Nat}{x:Str}(hN:X.N.Nodup)(hi:X.N[i]?=some x)(hx:Loc X.env.scope x)(hf:X.fn x=true\/X.env.scope.names.lookup x=some .local:=by first|exact .inl rfl|exact .inr rfl|assumption):PG X (.Name x pos) (ya i):=by
 intro pins s σ H v u Q I r h
 exact wpAny_assign_Name (xW I hN hi hx r (fun s' I'=>⟨_,H,I',h⟩) hf)
noncomputable def P9:L7:=fun vs σ H Q=>vs=[]/\Q σ H
noncomputable def O0(t:TG)(u:L7):L7:=fun vs σ H Q=>∃v r,vs=v::r/\t v σ H fun σ' H'=>u r σ' H' Q
theorem nv:Po X [] P9:=by
 intro pins s σ H vs us Q I r h
 obtain⟨e,h⟩:=h
 subst e
 cases r
 exact assignInOrder_nil ⟨σ,H,I,h⟩
theorem cY{e:Expr}{es:List Expr}{t:TG}{u:L7}(h1:PG X e t)(h2:Po X es u)
  (hs:(assignEach (e::es) X.env).map (·.2)=assign e X.env::(assignEach es X.env).map (·.2):=by rfl):Po X (e::es) (O0 t u):=by
 intro pins s σ H vs us Q I r h
 obtain⟨v,vr,e1,h⟩:=h
 subst e1
 cases r with
 | cons r rr =>
  rw[hs]
  refine assignInOrder_cons (cK (h1 pins s σ H _ _ _ I r h) fun _ s1 ⟨σ1,H1,I1,q1⟩=>?_)
  exact h2 pins s1 σ1 H1 _ _ Q I1 rr q1
def P4(K:W.Frag)(n:Nat)(t:L7):TG:=fun v σ H Q=>∃a xs,v=.ref a/\jA K H a xs/\xs.length=n/\t xs σ H Q
theorem qu{es:List Expr}{k:Nat}{t:L7}{n:Nat}(hc:X.calm=true)(h:Po X es t)
  (hn:(assignEach es X.env).length=n:=by rfl) (hst:(assignEach es X.env).findIdx? (·.1)=none:=by rfl):PG X (.Tuple es k pos) (P4 X.K n t):=by
 intro pins s σ H v u Q I r hw
 obtain⟨a,xs,e1,hq,hl,hw⟩:=hw
 subst e1
 cases r
 obtain⟨its,rv,ht,hz⟩:=I.tuple hq
 refine assign_Tuple_tuple (I.ok.hd hc) ht (by simp[hn,<- hl,rv.length]) hst fun h' hx=>?_
 have I1:Inv X pins σ H { s with heap:=h' }:=I.kept (t':=s.toks) fun b o e=>hx b o (Nat.ne_of_lt (zZ e)) e
 exact h pins _ σ H xs _ Q I1 (by simpa using rv) hw
def eU(to ti:TE)(t:M3):TG:=fun v σ H Q=>to σ H fun o H1=>ti σ H1 fun i H2=>t o i v H2 fun H3=>Q σ H3
theorem MY{o i:Expr}{to ti:TE}{t:M3}(ho:PE X o to)(hi:PE X i ti)(hs:Pa X t)
  (ha:∀v,assign (.Subscript o i pos) X.env v=(do
   let ov <- holding [v] (eval o X.env)
   let iv <- holding [v,ov] (eval i X.env)
   standAt pos
   holding [v,ov,iv] (setItem ov iv v)
   release [v,ov,iv] []):=by intro _;rfl):PG X (.Subscript o i pos) (eU to ti t):=by
 intro pins s σ H v u Q I r h
 rw[ha]
 refine zW (wpAny_holding (cK (ho pins s σ H _ I h) fun ov s1 ⟨x,H1,I1,r1,q1⟩=>?_))
 refine zW (wpAny_holding (cK (hi pins s1 σ H1 _ I1 q1) fun iv s2 ⟨y,H2,I2,r2,q2⟩=>?_))
 refine zW (wpAny_standAt (zW (wpAny_holding (cK (hs pins s2 σ H2 x y v ov iv u _ I2 r1 r2 r q2) fun _ s3 ⟨H3,I3,q3⟩=>?_))))
 exact wpAny_release ⟨σ,H3,I3,q3⟩
def Gp(te:TE)(g:TG):TS:=fun D σ H=>te σ H fun x H1=>g x σ H1 D.nx
theorem Nn{tg e:Expr}{te:TE}{g:TG}(he:PE X e te)(hg:PG X tg g)(hs:swapsWithSole [tg] e pos.line X.env=pure false:=by rfl)(hw:swappedStores [tg] e X.env=pure none:=by rfl)
  (h1:(assignEach [tg] X.env).map (·.2)=[assign tg X.env]:=by rfl):PS X (.Assign [tg] e pos) (Gp te g):=by
 intro pins s σ H D I h
 refine wpAny_Assign_stores (cK (he pins s σ H _ I h) fun v s1 ⟨x,H1,I1,r1,q1⟩=>?_) hs hw
 rw[h1]
 exact cK (hg pins s1 σ H1 x v _ I1 r1 q1) fun _ s2 q=>q
theorem HB{i:Nat}{x:Str}{e:Expr}{te:TE}{pos':Pos}(hN:X.N.Nodup)(hi:X.N[i]?=some x)(hx:Loc X.env.scope x)(he:PE X e te)(hs:swapsWith e (some (.Name x pos')) pos.line X.env=pure false:=by rfl)(hf:X.fn x=true\/X.env.scope.names.lookup x=some .local:=by first|exact .inl rfl|exact .inr rfl|assumption) :
  PS X (.Assign [.Name x pos'] e pos) (Gp te (ya i)):=by
 intro pins s σ H D I h
 refine wpAny_Assign_Name (cK (he pins s σ H _ I h) fun v s1 ⟨y,H1,I1,r1,q1⟩=>?_) hs
 exact xW I1 hN hi hx r1 (fun s2 I2=>⟨_,H1,I2,q1⟩) hf
end
section
variable {X:Cx}{pos:Pos}
def Mg(c:TT)(tb:TS):TS:=fun D σ H=>∃W:Nat->St->Hp->Prop,(∃m,W m σ H)/\∀m σ H,W m σ H ->
 c σ H fun b H1=>if b=true then ∃N:St->Hp->Prop,(∀σ' H',N σ' H'->∃m',m' < m/\W m' σ' H')/\tb { D with nx:=N,ct:=N,bk:=D.nx } σ H1 else D.nx σ H1
theorem HH{c:Expr}{body:List Stmt}{tc:TT}{tb:TS}(hp:PassesOwn (model X.prog X.w) X.A X.env X.xe)(hc:PT X c tc)(hb:BA X body tb):PS X (.While c body [] pos) (Mg tc tb):=by
 intro pins s σ H D I h
 obtain⟨W,⟨m0,w0⟩,turn⟩:=h
 refine wpAny_While (codeAny_whileLoop (fun n s'=>∃σ' H',Inv X pins σ' H' s'/\W n σ' H') ?_ m0 ⟨σ,H,I,w0⟩)
 rintro n s1 ⟨σ1,H1,I1,w1⟩
 refine wpAny_passesOwn hp (cK (hc pins s1 σ1 H1 _ I1 (turn n σ1 H1 w1)) fun b s2 ⟨H2,I2,q2⟩=>?_)
 cases b with
 | true =>
  obtain⟨N,hN,q2⟩:=q2
  rw[if_pos rfl]
  refine wpAny_passesOwn hp (cK (hb pins s2 σ1 H2 _ I2 q2) fun f s3 q3=>?_)
  cases f with
  | next =>
   obtain⟨σ3,H3,I3,n3⟩:=q3
   obtain⟨m',hm,w3⟩:=hN σ3 H3 n3
   exact⟨m',hm,σ3,H3,I3,w3⟩
  | cont =>
   obtain⟨σ3,H3,I3,n3⟩:=q3
   obtain⟨m',hm,w3⟩:=hN σ3 H3 n3
   exact⟨m',hm,σ3,H3,I3,w3⟩
  | brk=>exact q3
  | ret v=>exact q3
 | false =>
  rw[if_neg Bool.false_ne_true]
  exact wpAny_execs_nil ⟨σ1,H2,I2,q2⟩
end
structure It where
 go:Nat->Hp->Prop
 yld:Nat->Hp->V->Hp->Prop
 stop:Nat->Hp->Prop
noncomputable def cW(X:Cx)(pins:List (Addr×Obj))(H:Hp)(b:Addr):Prop :=
 H b=none/\b≠X.env.locals/\b∉X.fs/\(b∈X.ex\/X.s₀.heap.objs.size<=b)/\(∀x c,X.env.cells.lookup x=some c->c≠b)/\∀p∈X.pn++pins,p.1≠b
theorem Inv.fpOk{X:Cx}{pins:List (Addr×Obj)}{σ:St}{H H':Hp}{s:Shared}{b:Addr}(I:Inv X pins σ H s)(hb:s.heap.objs.size<=b)(hn:H' b=none):cW X pins H' b:=by
 refine⟨hn,Nat.ne_of_gt (zP I.lt hb),I.nofs hb,.inr (yE I.sz hb),fun x c e z=>?_,fun p hp z=>?_⟩
 ·obtain⟨v,q⟩:=I.cell x c e
  exact absurd (zP q.lt (by rw[z];exact hb)) (Nat.lt_irrefl _)
 ·exact absurd (zP (zZ (I.pin p hp).1) (by rw[z];exact hb)) (Nat.lt_irrefl _)
structure Turn(P:Program)(w:World)(K:W.Frag)(tg:Expr)(J:It)(fp:List Addr)(it:Addr)(tn:Nat->Heap->Prop):Prop where
 mem:it∈fp
 obj:∀i h,tn i h->∀b∈fp,∃o,h.get? b=some o/\∀v,o.data≠.cell v
 keep:∀i h h',tn i h->(∀b∈fp,∀o,h.get? b=some o->h'.get? b=some o)->tn i h'
 item:∀ (X:Cx),X.prog=P->X.w=w->X.K=K->X.calm=true->∀ (i:Nat) (pins:List (Addr×Obj)) (s:Shared) (σ:St) (H:Hp) (E:Value->Shared->Prop),Inv X pins σ H s->(∀b∈fp,cW X pins H b)->tn i s.heap->J.go i H ->
  wpAny (model P w) X.A (pyNext (.ref it)) (fun r s1=>∃u,r=some u /\
   wpAny (model P w) X.A (letOwnedTupleGo tg (.ref it) u) (fun _ s2=>∃x H',Inv X pins σ H' s2/\RelV x u/\J.yld i H x H'/\tn (i+1) s2.heap/\∀b∈fp,H' b=none) E s1) E s
 done:∀ (X:Cx),X.prog=P->X.w=w->X.K=K->X.calm=true->∀ (i:Nat) (pins:List (Addr×Obj)) (s:Shared) (σ:St) (H:Hp) (E:Value->Shared->Prop),Inv X pins σ H s->(∀b∈fp,cW X pins H b)->tn i s.heap->J.stop i H ->
  wpAny (model P w) X.A (pyNext (.ref it)) (fun r s1=>r=none/\Inv X pins σ H s1) E s
 self:∀ (A:Around) (i:Nat) (s:Shared) (Q:Value->Shared->Prop) (E:Value->Shared->Prop),tn i s.heap->Q (.ref it) s->wpAny (model P w) A (pyIter (.ref it)) Q E s
noncomputable abbrev TI:=St->Hp->(It->Hp->Prop)->Prop
noncomputable def QF(X:Cx)(pins:List (Addr×Obj))(σ:St)(tg:Expr)(R:It->Hp->Prop)(itv:Value)(s2:Shared):Prop :=
 ∃ (it:Addr) (fp:List Addr) (tn:Nat->Heap->Prop) (J:It) (H':Hp),itv=.ref it/\Inv X pins σ H' s2/\Turn X.prog X.w X.K tg J fp it tn/\tn 0 s2.heap/\(∀b∈fp,cW X pins H' b)/\R J H'
noncomputable def PI(X:Cx)(tg iter:Expr)(wi:TI):Prop :=
 ∀ (pins:List (Addr×Obj)) (s:Shared) (σ:St) (H:Hp) (R:It->Hp->Prop),Inv X pins σ H s->wi σ H R ->
  wpAny (model X.prog X.w) X.A (eval iter X.env) (fun v s1=>wpAny (model X.prog X.w) X.A (pyIter v) (QF X pins σ tg R) X.xe s1) X.xe s
theorem FM{M:Model}{A:Around}{E:Value->Shared->Prop}{s:Shared}{tg:Expr}{it:Addr}{u:Value}{o:Obj}{n:String}{vs:Array Value}{Q:Unit->Shared->Prop}(ho:s.heap.get? it=some o)(hc:o.cls=.type n)(hd:o.data=.fields vs)
  (hn:["enumerate","zip","dict_itemiterator","dict_reverseitemiterator","odict_iterator","itertools.zip_longest","itertools.pairwise"].contains n=false) (hQ:Q () s):wpAny M A (letOwnedTupleGo tg (.ref it) u) Q E s:=by
 unfold letOwnedTupleGo
 cases tg<;>first
  | exact zX hQ
  | (cases u<;>first
    | exact zX hQ
    | (refine zW (wpAny_load ho ?_)
       rw[hc,hd]
       show wpAny M A (if (["enumerate","zip","dict_itemiterator","dict_reverseitemiterator","odict_iterator","itertools.zip_longest","itertools.pairwise"].contains n&&vs[0]? == some (rawInt _))=true then _ else _) Q E s
       rw[if_neg (by intro h;rw[hn,Bool.false_and] at h;cases h)]
       exact zX hQ))
noncomputable def Py(K:W.Frag)(a:Addr):It :=
 ⟨fun i H=>∃xs x,i8 K H a xs/\xs[i]?=some x,fun i H x H'=>H'=H/\∀xs,i8 K H a xs->xs[i]?=some x,fun i H=>∃xs,i8 K H a xs/\xs.length<=i⟩
noncomputable def Pv(K:W.Frag)(a:Addr):It :=
 ⟨fun i H=>∃xs x,jA K H a xs/\xs[i]?=some x,fun i H x H'=>H'=H/\∀xs,jA K H a xs->xs[i]?=some x,fun i H=>∃xs,jA K H a xs/\xs.length<=i⟩
noncomputable def Pr(lo:Int)(n:Nat):It:=⟨fun i _=>i < n,fun i H x H'=>H'=H/\x=.int (lo+i),fun i _=>n<=i⟩
theorem D3{P:Program}{w:World}{K:W.Frag}{tg:Expr}(a it:Addr):Turn P w K tg (Py K a) [it] it (fun i h=>h.IsListIter it a i) where
 mem:=by simp
 obj:=fun i h st b hb=>by
  have e:b=it:=by simpa using hb
  subst e
  obtain⟨o,e,c,d⟩:=st
  exact⟨o,e,fun v z=>by rw[d] at z;cases z⟩
 keep:=fun i h h' st k=>st.at fun o e=>k it (by simp) o e
 item:=by
  intro X hP hw hK hc i pins s σ H E I hf st hg
  subst hP hw hK
  obtain⟨xs,x,hq,hx⟩:=hg
  obtain⟨its,rv,p,hz⟩:=I.list hq
  obtain⟨u,hu,ru⟩:=rv.get hx
  obtain⟨f0,f1,f2,f3,f4,f5⟩:=hf it (by simp)
  refine wpAny_pyNext_list_item st p.isList (x:=u) (by simpa using hu) fun h' st' sb=>?_
  have I1:Inv X pins σ H { s with heap:=h' }:=I.turned (t':=s.toks) (fun b o hb e=>(sb.2 b hb).trans e) f0 f1 f3 f4 f5
  obtain⟨o,e,c,d⟩:=id st'
  exact⟨u,rfl,FM (s:={ s with heap:=h' }) e c d (by decide) ⟨x,H,I1,ru,⟨rfl,fun ys hy=>by rw[I.list_inj hy hq];exact hx⟩,st',fun b hb=>(hf b hb).1⟩⟩
 done:=by
  intro X hP hw hK hc i pins s σ H E I hf st hg
  subst hP hw hK
  obtain⟨xs,hq,hx⟩:=hg
  obtain⟨its,rv,p,hz⟩:=I.list hq
  obtain⟨f0,f1,f2,f3,f4,f5⟩:=hf it (by simp)
  have hl:=rv.length
  exact wpAny_pyNext_list_end (I.ok.hd hc) st p.isList (by simp;omega) fun h' eb=>⟨rfl,I.turned (t':=s.toks) (fun b o hb e=>eb b o hb e) f0 f1 f3 f4 f5⟩
 self:=fun _ _ _ _ _ st h=>wpAny_pyIter_listiter st h
theorem AV{P:Program}{w:World}{K:W.Frag}{tg:Expr}(a it:Addr):Turn P w K tg (Pv K a) [it] it (fun i h=>h.IsTupleIter it a i) where
 mem:=by simp
 obj:=fun i h st b hb=>by
  have e:b=it:=by simpa using hb
  subst e
  obtain⟨o,e,c,d⟩:=st
  exact⟨o,e,fun v z=>by rw[d] at z;cases z⟩
 keep:=fun i h h' st k=>st.at fun o e=>k it (by simp) o e
 item:=by
  intro X hP hw hK hc i pins s σ H E I hf st hg
  subst hP hw hK
  obtain⟨xs,x,hq,hx⟩:=hg
  obtain⟨its,rv,p,hz⟩:=I.tuple hq
  obtain⟨u,hu,ru⟩:=rv.get hx
  obtain⟨f0,f1,f2,f3,f4,f5⟩:=hf it (by simp)
  refine wpAny_pyNext_tuple_item st (show s.heap.IsTuple a its.toArray from p) (x:=u) (by simpa using hu) fun h' st' sb=>?_
  have I1:Inv X pins σ H { s with heap:=h' }:=I.turned (t':=s.toks) (fun b o hb e=>(sb.2 b hb).trans e) f0 f1 f3 f4 f5
  obtain⟨o,e,c,d⟩:=id st'
  exact⟨u,rfl,FM (s:={ s with heap:=h' }) e c d (by decide) ⟨x,H,I1,ru,⟨rfl,fun ys hy=>by rw[I.tuple_inj hy hq];exact hx⟩,st',fun b hb=>(hf b hb).1⟩⟩
 done:=by
  intro X hP hw hK hc i pins s σ H E I hf st hg
  subst hP hw hK
  obtain⟨xs,hq,hx⟩:=hg
  obtain⟨its,rv,p,hz⟩:=I.tuple hq
  obtain⟨f0,f1,f2,f3,f4,f5⟩:=hf it (by simp)
  have hl:=rv.length
  exact wpAny_pyNext_tuple_end (I.ok.hd hc) st (show s.heap.IsTuple a its.toArray from p) (by simp;omega) fun h' eb=>⟨rfl,I.turned (t':=s.toks) (fun b o hb e=>eb b o hb e) f0 f1 f3 f4 f5⟩
 self:=fun _ _ _ _ _ st h=>wpAny_pyIter_tupleiter st h
theorem BF{P:Program}{w:World}{K:W.Frag}{tg:Expr}(it:Addr)(lo:Int)(n:Nat):Turn P w K tg (Pr lo n) [it] it (fun i h=>IsRangeIter h it (lo+(i:Nat) * 1) ((n:Int) - (i:Nat)) 1) where
 mem:=by simp
 obj:=fun i h st b hb=>by
  have e:b=it:=by simpa using hb
  subst e
  exact⟨_,st,fun v z=>by
   have z':Data.fields _=Data.cell v:=z
   cases z'⟩
 keep:=fun i h h' st k=>k it (by simp) _ st
 item:=by
  intro X hP hw hK hc i pins s σ H E I hf st hg
  subst hP hw hK
  obtain⟨f0,f1,f2,f3,f4,f5⟩:=hf it (by simp)
  have W:=Walks.range (prog:=X.prog) (w:=X.w) (I.ok.hd hc) it lo 1 n
  refine W.item i s _ _ hg st fun v h' tk hv st' kk=>?_
  obtain⟨t,rfl⟩:=hv
  have I1:Inv X pins σ H { s with heap:=h',toks:=tk }:=I.turned (fun b o hb e=>kk b o (by simpa using hb) e) f0 f1 f3 f4 f5
  refine⟨_,rfl,FM (s:={ s with heap:=h',toks:=tk }) (n:="range_iterator") st' rfl rfl (by decide) ⟨.int (lo+i),H,I1,⟨t,?_⟩,⟨rfl,rfl⟩,st',fun b hb=>(hf b hb).1⟩⟩
  rw[Int.mul_one]
 done:=by
  intro X hP hw hK hc i pins s σ H E I hf st hg
  subst hP hw hK
  obtain⟨f0,f1,f2,f3,f4,f5⟩:=hf it (by simp)
  exact wpAny_pyNext_range_end (I.ok.hd hc) st (by have:n<=i:=hg;omega) fun h' eb=>⟨rfl,I.turned (t':=s.toks) (fun b o hb e=>eb b o hb e) f0 f1 f3 f4 f5⟩
 self:=fun _ _ _ _ _ st h=>wpAny_pyIter_rangeiter st h
section
variable {X:Cx}{tg:Expr}
theorem F8{pins:List (Addr×Obj)}{σ:St}{H:Hp}{s:Shared}{R:It->Hp->Prop}{E:Value->Shared->Prop}{lo hi:Int}{t u v:Tok}{tk:Nat}(I:Inv X pins σ H s)(h1:-(2 ^ 62)<=lo)(h2:lo < 2 ^ 62)(h3:-(2 ^ 62)<=hi)(h4:hi < 2 ^ 62)
  (q:R (Pr lo (hi - lo).toNat) H):wpAny (model X.prog X.w) X.A (pyIter (.ref s.heap.objs.size)) (QF X pins σ tg R) E { s with heap:=s.heap.push { cls:=.type "range",data:=.fields #[.int lo t,.int hi u,.int 1 v] },toks:=tk }:=by
 refine wpAny_pyIter_range (IsRange.new ..) (small_one h1 h2 h3 h4) ?_
 have I1:Inv X pins σ H { s with heap:=s.heap.push { cls:=.type "range",data:=.fields #[.int lo t,.int hi u,.int 1 v] },toks:=tk }:=I.kept fun b o e=>zV _ e
 refine⟨(s.heap.push { cls:=.type "range",data:=.fields #[.int lo t,.int hi u,.int 1 v] }).objs.size,[(s.heap.push { cls:=.type "range",data:=.fields #[.int lo t,.int hi u,.int 1 v] }).objs.size],_,_,H,rfl,
  I1.kept (t':=tk) fun b o e=>zV _ e,BF _ lo (hi - lo).toNat,?_,fun b hb=>?_,q⟩
 ·have e1:lo+((0:Nat):Int) * 1=lo:=by simp
  have e2:(((hi - lo).toNat:Nat):Int) - ((0:Nat):Int)=Builtin.Range.rangeSize lo hi 1:=by rw[rangeSize_one];split<;>omega
  show IsRangeIter _ _ (lo+((0:Nat):Int) * 1) ((((hi - lo).toNat:Nat):Int) - ((0:Nat):Int)) 1
  rw[e1,e2]
  exact zY _ rfl
 ·have e:b=(s.heap.push { cls:=.type "range",data:=.fields #[.int lo t,.int hi u,.int 1 v] }).objs.size:=by simpa using hb
  subst e
  exact I1.fpOk (Nat.le_refl _) (I1.hok.fresh (Nat.le_refl _))
def ON(ta:TA):TI:=fun σ H R=>ta σ H fun vs H1=>∃j:Int,vs=[.int j]/\-(2 ^ 62)<=j/\j < 2 ^ 62/\R (Pr 0 j.toNat) H1
theorem D7{a:Expr}{ta:TA}{p pos:Pos}(hg:Gl X "range")(hm:X.mg "range"=none)(ha:PA X [a] ta)(hs:starEach [a] X.env=[(false,eval a X.env)]:=by rfl):PI X tg (.Call (.Name "range" p) [a] [] pos) (ON ta):=by
 intro pins s σ H R I h
 refine Call_ (j6 I hg hm boot_range (PyProof.Rows.callWith_type1 (cK (ha pos pins s σ H _ I h) fun us s1 ⟨vs,H1,I1,r1,q1⟩=>?_) hs rfl))
 obtain⟨j,e,q1,q2,q⟩:=q1
 subst e
 cases r1 with
 | cons r rr =>
  cases rr
  obtain⟨t,rfl⟩:=r
  exact call_range_1 (F8 I1 (by omega) (by omega) q1 q2 (by simpa using q))
def Qb(wi:TI)(g:TG)(tb:TS):TS:=fun D σ H=>wi σ H fun J H1=>∃W:Nat->Nat->St->Hp->Prop,(∃m,W 0 m σ H1)/\∀i m σ H,W i m σ H ->
 (J.stop i H/\D.nx σ H)\/(J.go i H/\∃N:St->Hp->Prop,(∀σ' H',N σ' H'->∃m',m' < m/\W (i+1) m' σ' H')/\∀x H',J.yld i H x H'->g x σ H' fun σ2 H2=>tb { D with nx:=N,ct:=N,bk:=D.nx } σ2 H2)
noncomputable def oe(fp:List Addr)(h:Heap):List (Addr×Obj):=fp.filterMap fun b=>(h.get? b).map fun o=>(b,o)
theorem ej{fp:List Addr}{h:Heap}{b:Addr}{o:Obj}(hb:b∈fp)(e:h.get? b=some o):(b,o)∈oe fp h:=List.mem_filterMap.mpr ⟨b,hb,by rw[e];rfl⟩
theorem D4{fp:List Addr}{h:Heap}{p:Addr×Obj}(hp:p∈oe fp h):p.1∈fp/\h.get? p.1=some p.2:=by
 obtain⟨b,hb,e⟩:=List.mem_filterMap.mp hp
 cases q:h.get? b with
 | none=>rw[q] at e;cases e
 | some o =>
  rw[q] at e
  have e':(b,o)=p:=Option.some.inj e
  subst e'
  exact⟨hb,q⟩
theorem Inv.pinned{pins:List (Addr×Obj)}{σ:St}{H:Hp}{s:Shared}{fp:List Addr}(I:Inv X pins σ H s)(hf:∀b∈fp,cW X pins H b)(ho:∀b∈fp,∃o,s.heap.get? b=some o/\∀v,o.data≠.cell v):Inv X (pins++oe fp s.heap) σ H s :=
 I.pins_of fun p hp=>(List.mem_append.mp hp).elim (fun z=>I.pin p (yF _ z)) fun z=>by
  obtain⟨hb,e⟩:=D4 z
  obtain⟨f0,f1,f2,_⟩:=hf p.1 hb
  obtain⟨o,e',d⟩:=ho p.1 hb
  rw[e] at e';cases e'
  exact⟨e,f0,f1,f2,d⟩
theorem Inv.unpinned{pins pl:List (Addr×Obj)}{σ:St}{H:Hp}{s:Shared}(I:Inv X (pins++pl) σ H s):Inv X pins σ H s:=I.pins_of fun p hp=>I.pin p (yF _ (List.mem_append_left _ hp))
theorem LD{iter:Expr}{body:List Stmt}{wi:TI}{g:TG}{tb:TS}{pos:Pos}(hp:PassesOwn (model X.prog X.w) X.A X.env X.xe)(hc:X.calm=true)(hi:PI X tg iter wi)(hg:PG X tg g)(hb:BA X body tb)
  (hs:∀x,foldedSetIterable iter X.env x=pure x:=by intro _;rfl):PS X (.For tg iter body [] pos) (Qb wi g tb):=by
 intro pins s σ H D I h
 refine wpAny_For (cK (hi pins s σ H _ I h) fun v s1 h1=>cK h1 fun itv s2 h2=>?_) hs
 obtain⟨it,fp,tn,J,H2,e,I2,T,st2,f2,W,⟨m0,w0⟩,turn⟩:=h2
 subst e
 have stat:∀ {H':Hp},(∀b∈fp,H' b=none)->∀b∈fp,cW X pins H' b:=fun hn b hb=>⟨hn b hb,(f2 b hb).2⟩
 refine codeAny_forLoop_any (fun n s'=>∃i σ' H',Inv X pins σ' H' s'/\tn i s'.heap/\(∀b∈fp,H' b=none)/\W i n σ' H') ?_ m0 ⟨0,σ,H2,I2,st2,fun b hb=>(f2 b hb).1,w0⟩
 rintro n s3 ⟨i,σ3,H3,I3,st3,fr3,w3⟩
 rcases turn i n σ3 H3 w3 with ⟨stop,qn⟩|⟨go,N,hN,step⟩
 ·refine wpAny_passesOwn hp (cK (T.done X rfl rfl rfl hc i pins s3 σ3 H3 X.xe I3 (stat fr3) st3 stop) fun r s4 ⟨hr,I4⟩=>?_)
  subst hr
  exact wpAny_execs_nil ⟨σ3,H3,I4,qn⟩
 ·refine wpAny_passesOwn hp (cK (T.item X rfl rfl rfl hc i pins s3 σ3 H3 X.xe I3 (stat fr3) st3 go) fun r s4 ⟨u,hr,h4⟩=>?_)
  subst hr
  refine wpAny_passesOwn hp (cK h4 fun _ s5 ⟨x,H5,I5,r5,y5,st5,fr5⟩=>?_)
  have I5':=I5.pinned (stat fr5) (T.obj _ _ st5)
  refine wpAny_passesOwn hp (cK (hg _ s5 σ3 H5 x u _ I5' r5 (step x H5 y5)) fun _ s6 ⟨σ6,H6,I6,q6⟩=>?_)
  refine wpAny_passesOwn hp (cK (hb _ s6 σ6 H6 _ I6 q6) fun f s7 q7=>?_)
  have again:∀ {σ7:St}{H7:Hp},Inv X (pins++oe fp s5.heap) σ7 H7 s7->N σ7 H7->∃m,m < n/\∃i σ' H',Inv X pins σ' H' s7/\tn i s7.heap/\(∀b∈fp,H' b=none)/\W i m σ' H':=fun {σ7 H7} I7 n7=>by
   obtain⟨m',hm,w7⟩:=hN σ7 H7 n7
   refine⟨m',hm,i+1,σ7,H7,I7.unpinned,T.keep _ _ _ st5 fun b hb o e=>(I7.pin (b,o) (yF _ (yF _ (ej hb e)))).1,fun b hb=>?_,w7⟩
   obtain⟨o,e,d⟩:=T.obj _ _ st5 b hb
   exact (I7.pin (b,o) (yF _ (yF _ (ej hb e)))).2.1
  cases f with
  | next=>obtain⟨σ7,H7,I7,n7⟩:=q7;exact again I7 n7
  | cont=>obtain⟨σ7,H7,I7,n7⟩:=q7;exact again I7 n7
  | brk=>obtain⟨σ7,H7,I7,q7⟩:=q7;exact⟨σ7,H7,I7.unpinned,q7⟩
  | ret v=>obtain⟨x7,σ7,H7,I7,r7,q7⟩:=q7;exact⟨x7,σ7,H7,I7.unpinned,r7,q7⟩
end
noncomputable abbrev R2:=V->V->Hp->VK->Prop
noncomputable def ja(X:Cx)(f:Value->Value->Sem Value)(r:R2):Prop :=
 ∀ (pins:List (Addr×Obj)) (s:Shared) (σ:St) (H:Hp) (x y:V) (v u:Value) (Q:VK),Inv X pins σ H s->RelV x v->RelV y u->r x y H Q ->
  wpAny (model X.prog X.w) X.A (f v u) (EP X pins σ Q) X.xe s
noncomputable def PY(X:Cx)(f:Value->Sem Value)(r:V->Hp->VK->Prop):Prop :=
 ∀ (pins:List (Addr×Obj)) (s:Shared) (σ:St) (H:Hp) (x:V) (v:Value) (Q:VK),Inv X pins σ H s->RelV x v->r x H Q ->
  wpAny (model X.prog X.w) X.A (f v) (EP X pins σ Q) X.xe s
noncomputable def eW(X:Cx)(f:Value)(r:List V->Hp->VK->Prop):Prop :=
 ∀ (pins:List (Addr×Obj)) (s:Shared) (σ:St) (H:Hp) (xs:List V) (us:List Value) (Q:VK),Inv X pins σ H s->aM xs us->r xs H Q ->
  wpAny (model X.prog X.w) X.A (call f us) (EP X pins σ Q) X.xe s
def N5(r:R2)(ta tb:TE):TE:=fun σ H Q=>ta σ H fun x H1=>tb σ H1 fun y H2=>r x y H2 Q
def Q1(r:V->Hp->VK->Prop)(ta:TE):TE:=fun σ H Q=>ta σ H fun x H1=>r x H1 Q
def rI(C:Int->Int->Prop)(g:Int->Int->V):R2:=fun x y H Q=>∃i j,x=.int i/\y=.int j/\C i j/\Q (g i j) H
def Im(g:Int->Int->V):R2:=fun x y H Q=>∃i j,x=.int i/\y=.int j/\Q (g i j) H
noncomputable def rU(g:Int->V):V->Hp->VK->Prop:=fun x H Q=>∃i,x=.int i/\Q (g i) H
section
variable {X:Cx}{a b c:Expr}{ta tb tc:TE}{pos:Pos}
theorem MK(ha:PE X a ta)(hb:PE X b tb){pins:List (Addr×Obj)}{s:Shared}{σ:St}{H:Hp}{R:V->V->Hp->Prop}(I:Inv X pins σ H s)
  (h:ta σ H fun x H1=>tb σ H1 fun y H2=>R x y H2) {Q:Value->Shared->Prop}{f:Value->Value->Sem Value}
  (hf:∀v u s2 x y H2,Inv X pins σ H2 s2->RelV x v->RelV y u->R x y H2->wpAny (model X.prog X.w) X.A (f v u) Q X.xe s2) :
  wpAny (model X.prog X.w) X.A (eval a X.env) (fun v s₁=>wpAny (model X.prog X.w) X.A (eval b X.env) (fun u s₂=>wpAny (model X.prog X.w) X.A (f v u) Q X.xe s₂) X.xe s₁) X.xe s:=by
 refine cK (ha pins s σ H _ I h) fun v s1 ⟨x,H1,I1,r1,q1⟩=>?_
 refine cK (hb pins s1 σ H1 _ I1 q1) fun u s2 ⟨y,H2,I2,r2,q2⟩=>?_
 exact hf v u s2 x y H2 I2 r1 r2 q2
theorem GT{op:Operator}{r:R2}(ho:ja X (binaryOp op) r)(ha:PE X a ta)(hb:PE X b tb):PE X (.BinOp a op b pos) (N5 r ta tb):=by
 intro pins s σ H Q I h
 exact wpAny_BinOp (MK ha hb I h fun v u s2 x y H2 I2 rx ry q=>ho pins s2 σ H2 x y v u Q I2 rx ry q)
theorem Oj{op:UnaryOp}{r:V->Hp->VK->Prop}(ho:PY X (unaryOp op) r)(ha:PE X a ta):PE X (.UnaryOp op a pos) (Q1 r ta):=by
 intro pins s σ H Q I h
 exact UnaryOp_ (cK (ha pins s σ H _ I h) fun v s1 ⟨x,H1,I1,r1,q1⟩=>ho pins s1 σ H1 x v Q I1 r1 q1)
theorem Qu{f:Value->Value->Sem Value}{C:Int->Int->Prop}{g:Int->Int->Int}
  (rule:∀ (i j:Int) (t u:Tok) (s:Shared) (Q:Value->Shared->Prop) (E:Value->Shared->Prop),C i j->Q (.int (g i j) s.toks) { s with toks:=s.toks+1 }->wpAny (model X.prog X.w) X.A (f (.int i t) (.int j u)) Q E s) :
  ja X f (rI C fun i j=>.int (g i j)):=by
 intro pins s σ H x y v u Q I rx ry h
 obtain⟨i,j,rfl,rfl,hc,q⟩:=h
 obtain⟨t,rfl⟩:=rx
 obtain⟨t',rfl⟩:=ry
 exact rule i j t t' s _ _ hc ⟨.int (g i j),H,I.tok _,⟨_,rfl⟩,q⟩
theorem OU{f:Value->Value->Sem Value}{g:Int->Int->Int}
  (rule:∀ (i j:Int) (t u:Tok) (s:Shared) (Q:Value->Shared->Prop) (E:Value->Shared->Prop),Q (.int (g i j) s.toks) { s with toks:=s.toks+1 }->wpAny (model X.prog X.w) X.A (f (.int i t) (.int j u)) Q E s) :
  ja X f (Im fun i j=>.int (g i j)):=by
 intro pins s σ H x y v u Q I rx ry h
 obtain⟨i,j,rfl,rfl,q⟩:=h
 obtain⟨t,rfl⟩:=rx
 obtain⟨t',rfl⟩:=ry
 exact rule i j t t' s _ _ ⟨.int (g i j),H,I.tok _,⟨_,rfl⟩,q⟩
theorem Jm{f:Value->Value->Sem Value}{g:Int->Int->Bool}
  (rule:∀ (i j:Int) (t u:Tok) (s:Shared) (Q:Value->Shared->Prop) (E:Value->Shared->Prop),Q (.bool (g i j)) s->wpAny (model X.prog X.w) X.A (f (.int i t) (.int j u)) Q E s) :
  ja X f (Im fun i j=>.bl (g i j)):=by
 intro pins s σ H x y v u Q I rx ry h
 obtain⟨i,j,rfl,rfl,q⟩:=h
 obtain⟨t,rfl⟩:=rx
 obtain⟨t',rfl⟩:=ry
 exact rule i j t t' s _ _ ⟨.bl (g i j),H,I,rfl,q⟩
def IB(i j:Int):Prop:=0 < j/\j < 1073741824
def vj(i j:Int):Prop:=(-(2 ^ 64) < i/\i < 2 ^ 64)\/(-(2 ^ 64) < j/\j < 2 ^ 64)
theorem vj.ok{i j:Int}(h:vj i j):IntMulOk i j:=by
 rcases h with ⟨h1,h2⟩|⟨h1,h2⟩
 ·exact .of_left (intBits_le_64 h1 h2)
 ·exact .of_right (intBits_le_64 h1 h2)
theorem Nq:ja X (binaryOp .Add) (Im fun i j=>.int (i+j)):=OU fun _ _ _ _ _ _ _ q=>add_int q
theorem LK:ja X (binaryOp .Sub) (Im fun i j=>.int (i - j)):=OU fun _ _ _ _ _ _ _ q=>sub_int q
theorem Ny:ja X (binaryOp .Mult) (rI vj fun i j=>.int (i * j)):=Qu fun _ _ _ _ _ _ _ hc q=>mul_int q hc.ok
theorem JX:ja X (binaryOp .FloorDiv) (rI IB fun i j=>.int (i / j)):=Qu fun i j _ _ _ _ _ hc q=>by
 have h1:(0:Int) < j:=hc.1
 have h2:j < 1073741824:=hc.2
 exact floordiv_int (by omega) (by rw[Int.fdiv_eq_ediv_of_nonneg i (by omega)];exact q) (.inl (PyProof.noPylong_small (by omega)))
theorem L9:ja X (binaryOp .Mod) (rI (fun _ j=>0 < j) fun i j=>.int (i % j)):=Qu fun i j _ _ _ _ _ hc q=>by
 have h1:(0:Int) < j:=hc
 exact mod_int' (by omega) (by rw[Int.fmod_eq_emod_of_nonneg i (by omega)];exact q)
theorem QY{f:Value->Sem Value}{g:Int->Int}
  (rule:∀ (i:Int) (t:Tok) (s:Shared) (Q:Value->Shared->Prop) (E:Value->Shared->Prop),Q (.int (g i) s.toks) { s with toks:=s.toks+1 }->wpAny (model X.prog X.w) X.A (f (.int i t)) Q E s) :
  PY X f (rU fun i=>.int (g i)):=by
 intro pins s σ H x v Q I rx h
 obtain⟨i,rfl,q⟩:=h
 obtain⟨t,rfl⟩:=rx
 exact rule i t s _ _ ⟨.int (g i),H,I.tok _,⟨_,rfl⟩,q⟩
theorem Ls:PY X (unaryOp .USub) (rU fun i=>.int (-i)):=QY fun _ _ _ _ _ q=>neg_int q
end
section
variable {X:Cx}{a b c:Expr}{ta tb tc:TE}{pos:Pos}
theorem Fu{pins:List (Addr×Obj)}{σ:St}{H:Hp}{s:Shared}{Q:VK}{k k':Bool}(I:Inv X pins σ H s)(q:Q (.bl k) H)(e:k=k'):EP X pins σ Q (.bool k') s:=by
 subst e
 exact⟨.bl k,H,I,rfl,q⟩
theorem He:ja X (compareOp .Lt) (Im fun i j=>.bl (decide (i < j))):=Jm fun _ _ _ _ _ _ _ q=>lt_int q
theorem FO:ja X (compareOp .LtE) (Im fun i j=>.bl (decide (i<=j))):=Jm fun _ _ _ _ _ _ _ q=>le_int q
theorem KS:ja X (compareOp .Gt) (Im fun i j=>.bl (decide (j < i))):=Jm fun _ _ _ _ _ _ _ q=>gt_int q
theorem K7:ja X (compareOp .GtE) (Im fun i j=>.bl (decide (j<=i))):=Jm fun _ _ _ _ _ _ _ q=>ge_int q
theorem Ia:ja X (compareOp .Is) (fun x y H Q=>y=.non/\Q (.bl (decide (x=.non))) H):=by
 intro pins s σ H x y v u Q I rx ry h
 obtain⟨rfl,q⟩:=h
 cases ry
 refine is_none_gen (Fu I q ?_)
 cases x<;>first
  | (cases rx;rfl)
  | (obtain⟨t,rfl⟩:=rx;rfl)
theorem CD:ja X (compareOp .IsNot) (fun x y H Q=>y=.non/\Q (.bl (!decide (x=.non))) H):=by
 intro pins s σ H x y v u Q I rx ry h
 obtain⟨rfl,q⟩:=h
 cases ry
 refine isnot_none_gen (Fu I q ?_)
 cases x<;>first
  | (cases rx;rfl)
  | (obtain⟨t,rfl⟩:=rx;rfl)
theorem ja.or{f:Value->Value->Sem Value}{r r':R2}(h:ja X f r)(h':ja X f r'):ja X f (fun x y H Q=>r x y H Q\/r' x y H Q):=by
 intro pins s σ H x y v u Q I rx ry q
 rcases q with q|q
 ·exact h pins s σ H x y v u Q I rx ry q
 ·exact h' pins s σ H x y v u Q I rx ry q
theorem dM(b:Expr){op:CmpOp}(h:op≠.In:=by decide)(h2:op≠.NotIn:=by decide):behindInMarks op b=false:=by
 have e1:(op == CmpOp.In)=false:=by cases op<;>first|rfl|exact absurd rfl h
 have e2:(op == CmpOp.NotIn)=false:=by cases op<;>first|rfl|exact absurd rfl h2
 cases b<;>simp[behindInMarks,e1,e2]
theorem JR{op:CmpOp}{r:R2}(ho:ja X (compareOp op) r)(ha:PE X a ta)(hb:PE X b tb)(hm:behindInMarks op b=false):PE X (.Compare a [op] [b] pos) (N5 r ta tb):=by
 intro pins s σ H Q I h
 exact wpAny_Compare1 (MK ha hb I h fun v u s2 x y H2 I2 rx ry q=>ho pins s2 σ H2 x y v u Q I2 rx ry q) hm
def Le(t:TE):TT:=fun σ H Q=>t σ H fun x H'=>∃k,x=.bl k/\Q k H'
theorem J8{op:CmpOp}{r:R2}(ho:ja X (compareOp op) r)(ha:PE X a ta)(hb:PE X b tb)(hm:behindInMarks op b=false):PT X (.Compare a [op] [b] pos) (Le (N5 r ta tb)):=by
 intro pins s σ H Q I h
 refine wpAny_isTrue_Compare1 (cK (ha pins s σ H _ I h) fun v s1 ⟨x,H1,I1,r1,q1⟩=>cK (hb pins s1 σ H1 _ I1 q1) fun u s2 ⟨y,H2,I2,r2,q2⟩ =>
  cK (ho pins s2 σ H2 x y v u _ I2 r1 r2 q2) fun c s3 ⟨z,H3,I3,r3,k,e,q3⟩=>?_) hm
 subst e
 cases r3
 exact wpAny_truthy_bool ⟨H3,I3,q3⟩
def BL(r r':R2)(ta tb tc:TE):TE:=fun σ H Q=>ta σ H fun x H1=>tb σ H1 fun y H2=>r x y H2 fun z H3=>∃k,z=.bl k /\
 (if k=true then tc σ H3 fun w' H4=>r' y w' H4 Q else Q (.bl false) H3)
theorem Gx{op op':CmpOp}{r r':R2}(ho:ja X (compareOp op) r)(ho':ja X (compareOp op') r')(ha:PE X a ta)(hb:PE X b tb)(hc:PE X c tc)
  (hm:lastMarks [op,op'] [b,c]=false:=by with_unfolding_all rfl):PE X (.Compare a [op,op'] [b,c] pos) (BL r r' ta tb tc):=by
 intro pins s σ H Q I h
 refine Compare_chain (cK (ha pins s σ H _ I h) fun v s1 ⟨x,H1,I1,r1,q1⟩=>chain_link (cK (hb pins s1 σ H1 _ I1 q1) fun u s2 ⟨y,H2,I2,r2,q2⟩ =>
  cK (ho pins s2 σ H2 x y v u _ I2 r1 r2 q2) fun d s3 ⟨z,H3,I3,r3,k,e,q3⟩=>?_)) hm
 subst e
 cases r3
 refine wpAny_truthy_bool ?_
 cases k with
 | false=>exact ite_ff ⟨.bl false,H3,I3,rfl,q3⟩
 | true=>exact ite_tt (chain_last (cK (hc pins s3 σ H3 _ I3 q3) fun w' s4 ⟨z',H4,I4,r4,q4⟩=>ho' pins s4 σ H4 y z' u w' Q I4 r2 r4 q4))
theorem GJ{op op':CmpOp}{r r':R2}(ho:ja X (compareOp op) r)(ho':ja X (compareOp op') r')(ha:PE X a ta)(hb:PE X b tb)(hc:PE X c tc)
  (hm:lastMarks [op,op'] [b,c]=false:=by with_unfolding_all rfl):PT X (.Compare a [op,op'] [b,c] pos) (Le (BL r r' ta tb tc)):=by
 intro pins s σ H Q I h
 refine isTrue_chain (cK (ha pins s σ H _ I h) fun v s1 ⟨x,H1,I1,r1,q1⟩=>test_link (cK (hb pins s1 σ H1 _ I1 q1) fun u s2 ⟨y,H2,I2,r2,q2⟩ =>
  cK (ho pins s2 σ H2 x y v u _ I2 r1 r2 q2) fun d s3 ⟨z,H3,I3,r3,k,e,q3⟩=>?_)) hm
 subst e
 cases r3
 refine wpAny_truthy_bool ?_
 cases k with
 | false =>
  obtain⟨k',e',q'⟩:=q3
  cases e'
  exact ite_ff ⟨H3,I3,q'⟩
 | true =>
  refine ite_tt (test_last (cK (hc pins s3 σ H3 _ I3 q3) fun w' s4 ⟨z',H4,I4,r4,q4⟩=>cK (ho' pins s4 σ H4 y z' u w' _ I4 r2 r4 q4) fun d' s5 ⟨z2,H5,I5,r5,k2,e2,q5⟩=>?_))
  subst e2
  cases r5
  exact wpAny_truthy_bool ⟨H5,I5,q5⟩
theorem qX:(sizeLine:Nat) < 2 ^ 63:=by rw[sizeLine_eq];decide
theorem vals1{x:V}{us:List Value}(r:aM [x] us):∃u,us=[u]/\RelV x u:=by
 cases r with
 | cons r1 r2=>cases r2;exact⟨_,rfl,r1⟩
theorem vals2{x y:V}{us:List Value}(r:aM [x,y] us):∃u w',us=[u,w']/\RelV x u/\RelV y w':=by
 cases r with
 | cons r1 r2 =>
  cases r2 with
  | cons r3 r4=>cases r4;exact⟨_,_,rfl,r1,r3⟩
end
section
variable {prog:Program}{w:World}{A:Around}{E:Value->Shared->Prop}{s:Shared}{K:W.Frag}{x dx C f:Addr}{mA:Str->Option Value}{name:Str}{v:Value}
end
section
variable {P:Program}{w:World}{H H':Hp}{h h':Heap}{a C dx:Addr}{fs fs':List (Str×V)}
end
section
variable {X:Cx}{pins:List (Addr×Obj)}{σ:St}{H:Hp}{s:Shared}{a C dx:Addr}{fs:List (Str×V)}{f:Str}{v:V}{A:Around}{E:Value->Shared->Prop}
end
section
variable {X:Cx}{o e value:Expr}{f:Str}{pos pos' tpos:Pos}{ta tv:TE}
end
section
variable {X:Cx}{pins:List (Addr×Obj)}{σ:St}{H:Hp}{s:Shared}{A:Around}{E:Value->Shared->Prop}{Q:Value->Shared->Prop}{c:Value}{b:Bool}
end
structure eS(k:Nat)(A:Around):Prop where
 hd:A.handled=none
 dp:A.depth+3 * k+5 < recursionLimit
 un:A.units+16 * k+200 < cLine
theorem eS.mono{j k:Nat}{A:Around}(r:eS k A)(h:j<=k):eS j A:=⟨r.hd,by have:=r.dp;omega,by have:=r.un;omega⟩
theorem eS.deeper{k:Nat}{A:Around}(r:eS (k+1) A)(env:Env):eS k (A.deeper env) :=
 ⟨r.hd,by have:=r.dp;show A.depth+1+3 * k+5 < _;omega,by have:=r.un;show A.units+3+16 * k+200 < _;omega⟩
theorem eS.in1{k:Nat}{A:Around}(r:eS (k+1) A):eS k A.in1 :=
 ⟨r.hd,by have:=r.dp;show A.depth+3 * k+5 < _;omega,by have:=r.un;show A.units+1+16 * k+200 < _;omega⟩
theorem eS.depth{k:Nat}{A:Around}(r:eS k A):A.depth < recursionLimit:=by have:=r.dp;omega
theorem eS.units{k:Nat}{A:Around}(r:eS k A):A.units+64 < cLine:=by have:=r.un;omega
theorem eS.units0{k:Nat}{A:Around}(r:eS k A):A.units < cLine:=by have:=r.un;omega
def Qg:TA:=fun _ H Q=>Q [] H
def Oa(ta:TE)(tr:TA):TA:=fun σ H Q=>ta σ H fun x H1=>tr σ H1 fun xs H2=>Q (x::xs) H2
section
variable {X:Cx}{e:Expr}{es:List Expr}{te:TE}{t:TA}{pos:Pos}
theorem iY:PA X [] Qg:=fun _ _ _ _ H Q I h=>Calls.spliced_nil ⟨[],H,I,.nil,h⟩
theorem dE(ha:PE X e te)(hr:PA X es t)(hs:starEach (e::es) X.env=(false,eval e X.env)::starEach es X.env:=by rfl):PA X (e::es) (Oa te t):=by
 intro pos pins s σ H Q I h
 rw[hs]
 show wpAny _ _ (spliced ((false,eval e X.env)::backTo pos (starEach es X.env))) _ _ s
 refine Calls.spliced_cons (cK (ha pins s σ H _ I h) fun u s1 ⟨x,H1,I1,r1,q1⟩=>?_)
 exact cK (hr pos pins s1 σ H1 _ I1 q1) fun us s2 ⟨xs,H2,I2,r2,q2⟩=>⟨x::xs,H2,I2,.cons r1 r2,q2⟩
def P3(t:TA):TE:=fun σ H Q=>t σ H fun xs H1=>xs.length<=sizeLine/\∀p,H1 p=none->Q (.ref p) (upd H1 p (.tup xs))
def PM(t:TA):TE:=fun σ H Q=>t σ H fun xs H1=>xs.length<=sizeLine/\∀p,H1 p=none->Q (.ref p) (upd H1 p (.lst xs))
theorem MT{x1}(h:PA X es t):PE X (.Tuple es x1 pos) (P3 t):=by
 intro pins s σ H Q I hq
 refine wpAny_Tuple_spliced (cK (h pos pins s σ H _ I hq) fun us s1 ⟨xs,H1,I1,r,z,q⟩=>⟨by rw[<- r.length];exact z,?_⟩)
 have hf:H1 s1.heap.objs.size=none:=I1.hok.fresh (Nat.le_refl _)
 refine⟨.ref s1.heap.objs.size,upd H1 s1.heap.objs.size (.tup xs),I1.laid (t':=s1.toks) (fun b u e=>zV _ e) (Nat.le_refl _) ?_,rfl,q _ hf⟩
 exact⟨z,us,r,⟨_,zY _ rfl,rfl,_,rfl⟩,_,zY _ rfl,rfl⟩
theorem FS(h:PA X es t):PE X (.List es pos) (PM t):=by
 intro pins s σ H Q I hq
 refine wpAny_List_spliced (cK (h pos pins s σ H _ I hq) fun us s1 ⟨xs,H1,I1,r,z,q⟩=>⟨by rw[<- r.length];exact z,?_⟩)
 have hf:H1 s1.heap.objs.size=none:=I1.hok.fresh (Nat.le_refl _)
 refine⟨.ref s1.heap.objs.size,upd H1 s1.heap.objs.size (.lst xs),I1.laid (t':=s1.toks) (fun b u e=>zV _ e) (Nat.le_refl _) ?_,rfl,q _ hf⟩
 exact⟨z,us,0,r,zY _ rfl⟩
end
noncomputable abbrev Sp:=List V->Hp->VK->XK->Prop
noncomputable abbrev ER:=List Env->Hp->Shared->XK->Value->Shared->Prop
structure JS(P:Program)(w:World)(K:W.Frag)(mg:Str->Option Value)(base:Heap)(A:Around)(outer:List Env)(s:Shared)(H:Hp):Prop where
 frames:A.frames=some outer
 mod:Mod K mg base
 bs:∀b o,base.get? b=some o->s.heap.get? b=some o/\H b=none
 bsz:base.objs.size<=s.heap.objs.size
 funs:s.heap.FunFrames base outer
 frf:∀b∈Fv outer,H b=none
 hok:p9 P w H s.heap
 bare:AllBare s.gens
noncomputable def CE(outer:List Env)(P:Program)(w:World)(H:Hp)(s:Shared)(Q:VK)(u:Value)(s':Shared):Prop :=
 ∃v H',s'.os=s.os/\AllBare s'.gens/\Un (Fv outer) [] H H' s.heap s'.heap/\p9 P w H' s'.heap/\RelV v u/\Q v H'
noncomputable def CR(CX:ER)(outer:List Env)(P:Program)(w:World)(H:Hp)(s:Shared)(Q:VK)(E:XK)(r:Result)(s':Shared):Prop :=
 match r with
 | .ok (.ret u)=>CE outer P w H s Q u s'
 | .ok _=>False
 | .error e=>CX outer H s E e s'
structure pG(P:Program)(w:World)(K:W.Frag)(mg:Str->Option Value)(base:Heap)(CX:ER)(k:Nat)(f:Addr)(fd:FuncData)(ps:List Str)(sp:Sp):Prop where
 len:∀vs H Q E,sp vs H Q E->vs.length=ps.length
 run:∀ (A:Around) (outer:List Env) (s:Shared) (H:Hp) (args:Args) (us:List Value) (vs:List V) (Q:VK) (E:XK),eS k A->JS P w K mg base A outer s H->BindsTo s fd args (ps.zip us)->aM vs us->sp vs H Q E ->
  codeAny (model P w) A (.call (.ref f) args) (CR CX outer P w H s Q E) s
theorem pG.mono{P:Program}{w:World}{K:W.Frag}{mg:Str->Option Value}{base:Heap}{CX:ER}{j k:Nat}{f:Addr}{fd:FuncData}{ps:List Str}{sp:Sp}(F:pG P w K mg base CX j f fd ps sp)(h:j<=k) :
  pG P w K mg base CX k f fd ps sp:=⟨F.len,fun A outer s H args us vs Q E hr=>F.run A outer s H args us vs Q E (hr.mono h)⟩
section
variable {X:Cx}{pins:List (Addr×Obj)}{σ:St}{H:Hp}{s s':Shared}
theorem Inv.env0(I:Inv X pins σ H s):JS X.prog X.w X.K X.mg X.base X.A X.stack s H :=
 ⟨I.ok.frames,I.ok.mod,I.bs,yE I.ok.bsz I.sz,I.stack,I.stkFree,I.hok,I.bare⟩
theorem Inv.after{Q:VK}{u:Value}(I:Inv X pins σ H s)(h:CE X.stack X.prog X.w H s Q u s'):EP X pins σ Q u s':=by
 obtain⟨v,H',os,bare,un,hok,r,q⟩:=h
 obtain⟨hh,g,d,t,os'⟩:=s'
 obtain rfl:os'=s.os:=os
 exact⟨v,H',I.call (h':=hh) (g':=g) (d':=d) (t':=t) (ch:=[]) un hok bare (fun b z=>absurd z (by simp)),r,q⟩
end
def OV(sp:Sp)(dvs:List V)(E:XK)(t:TA):TE:=fun σ H Q=>t σ H fun vs H1=>sp (vs++dvs) H1 Q E
noncomputable def Binds(K:W.Frag)(fd:FuncData)(ps:List Str)(ds:List Value):Prop :=
 ∀ (s:Shared) (us:List Value),K.In s.heap->(us++ds).length=ps.length->BindsTo s fd ⟨us,[]⟩ (ps.zip (us++ds))
theorem Binds.all{K:W.Frag}{fd:FuncData}{ps:List Str}(h:∀us:List Value,us.length=ps.length->bindArgs fd ⟨us,[]⟩=pure (ps.zip us)):Binds K fd ps []:=fun s us _ hl=>by
 rw[List.append_nil] at hl ⊢
 exact .of_eq (h us hl)
def AZ(CX:ER)(X:Cx)(E:XK):Prop:=∀ (pins:List (Addr×Obj)) (σ:St) (H:Hp) (s:Shared) (e:Value) (s':Shared),Inv X pins σ H s->CX X.stack H s E e s'->X.xe e s'
section
variable {X:Cx}{CX:ER}{k:Nat}{f C:Addr}{fd:FuncData}{ps:List Str}{sp:Sp}{dvs:List V}{ds:List Value}{E:XK}{x m:Str}{p pos apos:Pos}{e o:Expr}{es:List Expr}{ta:TE}{t:TA}
theorem FJ{pins:List (Addr×Obj)}{σ:St}{H:Hp}{s:Shared}{Q:VK}{us:List Value}{vs:List V}(F:pG X.prog X.w X.K X.mg X.base CX k f fd ps sp)(hr:eS k X.A)(hb:Binds X.K fd ps ds)(hd:aM dvs ds)(hx:AZ CX X E)
  (I:Inv X pins σ H s) (r:aM vs us) (h:sp (vs++dvs) H Q E):wpAny (model X.prog X.w) X.A (call (.ref f) us) (EP X pins σ Q) X.xe s:=by
 have r2:aM (vs++dvs) (us++ds):=r.append hd
 have hl:(us++ds).length=ps.length:=by rw[<- r2.length];exact F.len _ _ _ _ h
 refine wpAny_call (codeAny_mono (F.run X.A X.stack s H ⟨us,[]⟩ (us++ds) (vs++dvs) Q E hr I.env0 (hb s us I.kIn hl) r2 h) fun r s' hq=>?_)
 cases r with
 | error e=>exact hx pins σ H s e s' I hq
 | ok fl =>
  cases fl with
  | ret u=>exact I.after hq
  | next=>exact False.elim hq
  | brk=>exact False.elim hq
  | cont=>exact False.elim hq
theorem Io(F:pG X.prog X.w X.K X.mg X.base CX k f fd ps sp)(hr:eS k X.A)(hg:Gl X x)(hm:X.mg x=some (.ref f))(hk:W.keepIn X.K (.ref f)=true)(hb:Binds X.K fd ps ds)(hd:aM dvs ds)(hx:AZ CX X E)
  (ha:PA X (e::es) t) (hdb:(x == ("__debug__":Str))=false:=by decide) (he:starEach (e::es) X.env=(false,eval e X.env)::starEach es X.env:=by rfl) (hpl:(backTo pos (starEach es X.env)).any (·.1)=false:=by rfl) :
  PE X (.Call (.Name x p) (e::es) [] pos) (OV sp dvs E t):=by
 intro pins s σ H Q I h
 refine wpAny_Call_Name_kw (Cg I hg hm ?_ hdb)
 refine W.callWith_K (h₀:=X.base) I.ok.mod.kin hk (cK (ha pos pins s σ H _ I h) fun us s1 ⟨vs,H1,I1,r,q⟩=>⟨I1.kIn,?_⟩) he hpl
 exact FJ F hr hb hd hx I1 r q
end
section
variable {X:Cx}{CX:ER}{k:Nat}{f C:Addr}{fd:FuncData}{ps ks:List Str}{sp:Sp}{E:XK}{x m:Str}{p pos apos kpos:Pos}{e o:Expr}{es:List Expr}{kws:List Keyword}{te ta:TE}{t tk:TA}{nm:Option Str}
variable {g:List Value->List Value->List Value}{gV:List V->List V->List V}
end
structure gC(N P:List Str)(sc:Scope):Prop where
 kind:sc.kind=.function
 co:sc.isCoroutine=false
 gen:sc.isGenerator=false
 nd:N.Nodup
 pre:N.take P.length=P
 par:∀x∈P,sc.names.lookup x=some .local \/ sc.names.lookup x=some .cell
 nofree:∀y∈sc.names,y.2≠.free
theorem uN{kindOf:Str->Option NameKind}{x:Str}:∀ {binds:List (Str×Value)}{m:Str->Option Value},(∀v,(x,v)∉binds)->bindL kindOf binds m x=m x
 | [],_,_=>rfl
 | (n,v)::r,m,h=>by
  unfold bindL
  rw[uN fun w hw=>h w (zC _ hw)]
  split
  ·have:x≠n:=by rintro rfl;exact h v zE
   simp[this]
  ·rfl
theorem uU{kindOf:Str->Option NameKind}{x:Str}:∀ {binds:List (Str×Value)}{m:Str->Option Value},(∀v,(x,v)∉binds)->bindC kindOf binds m x=m x
 | [],_,_=>rfl
 | (n,v)::r,m,h=>by
  unfold bindC
  rw[uU fun w hw=>h w (zC _ hw)]
  split
  ·rfl
  ·have:x≠n:=by rintro rfl;exact h v zE
   simp[this]
theorem uX{kindOf:Str->Option NameKind}{x:Str}{v:Value}:∀ {P:List Str}{vs:List Value}{i:Nat}{m:Str->Option Value},P.Nodup->P[i]?=some x->vs[i]?=some v->kindOf x=some .local ->
  bindL kindOf (P.zip vs) m x=some v
 | [],_,_,_,_,h,_,_=>by simp at h
 | _::_,[],_,_,_,_,h,_=>by simp at h
 | p::P,w::vs,0,m,nd,h1,h2,hk=>by
  simp at h1 h2;subst h1;subst h2
  show bindL kindOf ((p,w)::P.zip vs) m p=_
  unfold bindL
  rw[uN fun v hv=>(List.nodup_cons.mp nd).1 (List.of_mem_zip hv).1,if_pos hk]
  simp
 | p::P,w::vs,i+1,m,nd,h1,h2,hk=>by
  show bindL kindOf ((p,w)::P.zip vs) m x=_
  unfold bindL
  exact uX (i:=i) (List.nodup_cons.mp nd).2 (by simpa using h1) (by simpa using h2) hk
theorem uE{kindOf:Str->Option NameKind}{x:Str}{v:Value}:∀ {P:List Str}{vs:List Value}{i:Nat}{m:Str->Option Value},P.Nodup->P[i]?=some x->vs[i]?=some v->kindOf x≠some .local ->
  bindC kindOf (P.zip vs) m x=some v
 | [],_,_,_,_,h,_,_=>by simp at h
 | _::_,[],_,_,_,_,h,_=>by simp at h
 | p::P,w::vs,0,m,nd,h1,h2,hk=>by
  simp at h1 h2;subst h1;subst h2
  show bindC kindOf ((p,w)::P.zip vs) m p=_
  unfold bindC
  rw[uU fun v hv=>(List.nodup_cons.mp nd).1 (List.of_mem_zip hv).1,if_neg hk]
  simp
 | p::P,w::vs,i+1,m,nd,h1,h2,hk=>by
  show bindC kindOf ((p,w)::P.zip vs) m x=_
  unfold bindC
  exact uE (i:=i) (List.nodup_cons.mp nd).2 (by simpa using h1) (by simpa using h2) hk
noncomputable def start(N:List Str)(vs:List V):St:=vs.map some++List.replicate (N.length - vs.length) none
noncomputable def EC(CX:ER)(P:Program)(w:World)(K:W.Frag)(mg:Str->Option Value)(base:Heap)(N:List Str)(qual:Str)(scope:Scope)(f:Addr)(cd:Value)(A:Around)(outer:List Env)(s:Shared)(H:Hp)(E:XK):Cx where
 prog:=P
 w:=w
 K:=K
 mg:=mg
 base:=base
 A:=A.deeper (envOfC qual scope s.heap.objs.size f cd)
 N:=N
 s₀:=s
 H₀:=H
 env:=envOfC qual scope s.heap.objs.size f cd
 outer:=outer
 stack:=envOfC qual scope s.heap.objs.size f cd::outer
 ex:=[]
 calm:=true
 fn:=fun _=>true
 pn:=[]
 xe:=fun e s'=>wpAny (model P w) (A.deeper (envOfC qual scope s.heap.objs.size f cd)) (leaving (envOfC qual scope s.heap.objs.size f cd) e) (fun _ s''=>CX outer H s E e s'') (fun e' s''=>CX outer H s E e' s'') s'
theorem qB{sc:Scope}{n:Nat}{x:Str}(h:sc.names.lookup x=some .cell):∃c,(cellsFrom n sc.names []).lookup x=some c:=by
 have q:=W.cellsFrom_some sc.names n [] (.inl h)
 exact Option.isSome_iff_exists.mp q
theorem DU{CX:ER}{P:Program}{w:World}{K:W.Frag}{mg:Str->Option Value}{base:Heap}{N ps:List Str}{qual:Str}{scope:Scope}{f:Addr}{cd:Value}{A:Around}{outer:List Env}{s s1:Shared}{H:Hp}{E:XK}{us:List Value}{vs:List V}
  (S:gC N ps scope) (hd:A.handled=none) (e0:JS P w K mg base A outer s H) (hl:vs.length=ps.length) (r:aM vs us)
  (x:InCallC s s.heap.objs.size (bindL (envOfC qual scope s.heap.objs.size f cd).kindOf (ps.zip us) fun _=>none) (cellsFrom (s.heap.objs.size+1) scope.names []) (bindC (envOfC qual scope s.heap.objs.size f cd).kindOf (ps.zip us) fun _=>none) s1) :
  Inv (EC CX P w K mg base N qual scope f cd A outer s H E) [] (start N vs) H s1:=by
 have hpl:ps.length<=N.length:=by have:=congrArg List.length S.pre;rw[List.length_take] at this;omega
 obtain⟨h1,tk,rfl,hk⟩:=x.done
 have noA:∀b:Addr,b∉(EC CX P w K mg base N qual scope f cd A outer s H E).ex:=fun b z=>absurd (show b∈([]:List Addr) from z) (by simp)
 refine⟨⟨e0.mod,S.kind,rfl,rfl,Nat.le_refl _,fun y z c h1 h2=>?_,fun y hy=>?_,fun y c _ h=>?_,fun _=>hd,Around.frames_deeper e0.frames,.inr ⟨rfl,rfl⟩,fun b z=>absurd z (noA b),e0.bs,e0.bsz,fun b _ _=>noA b,fun b z=>absurd z (noA b),e0.funs,e0.frf⟩,
  rfl,e0.bare,Un.kept hk,⟨_,x.toInCall.ns,fun i y v h1 h2 h3=>?_⟩,fun y c h=>⟨_,x.cell y c h⟩,e0.hok.fresh (Nat.le_refl _),fun y c h=>?_,fun p hp=>absurd (show p∈([]:List (Addr×Obj)) from hp) (by simp),e0.hok.kept hk,?_⟩
 ·exact name_of_addr x.apart (PySem.mem_of_lookup h1) (PySem.mem_of_lookup h2)
 ·have hy:scope.names.lookup y=some .cell\/scope.names.lookup y=some .free:=hy
  rcases hy with hy|hy
  ·exact qB hy
  ·exact absurd rfl (S.nofree _ (PySem.mem_of_lookup hy))
 ·exact Nat.le_of_lt (x.above y c (PySem.mem_of_lookup h))
 ·have hi:i < vs.length:=by
   unfold start at h2
   by_cases hi:i < vs.length
   ·exact hi
   ·rw[List.getElem?_append_right (by simpa using hi)] at h2
    rw[List.getElem?_replicate] at h2
    split at h2<;>cases h2
  have ha:vs[i]?=some v:=by
   unfold start at h2
   rw[List.getElem?_append_left (by simpa using hi),zO] at h2
   cases e:vs[i]? with
   | none=>rw[e] at h2;cases h2
   | some a=>rw[e] at h2;cases h2;rfl
  obtain⟨u,hu,rv⟩:=r.get ha
  have hp:ps[i]?=some y:=by
   rw[<- S.pre,List.getElem?_take_of_lt (by omega)];exact h1
  have ndP:ps.Nodup:=by rw[<- S.pre];exact S.nd.sublist (List.take_sublist _ _)
  refine⟨u,rv,?_⟩
  rcases S.par y (List.mem_of_getElem? hp) with k|k
  ·exact .inl ⟨k,uX ndP hp hu k⟩
  ·obtain⟨c,e⟩:=qB (n:=s.heap.objs.size+1) k
   refine .inr ⟨.inl k,c,e,?_⟩
   have q:=x.cell y c e
   rw[uE ndP hp hu (by show scope.names.lookup y≠_;rw[k];decide)] at q
   exact q
 ·exact e0.hok.fresh (Nat.le_of_lt (x.above y c (PySem.mem_of_lookup h)))
 ·unfold start
  show _=N.length
  rw[zN,zD,List.length_replicate]
  omega
theorem N9{CX:ER}{P:Program}{w:World}{K:W.Frag}{mg:Str->Option Value}{base:Heap}{k:Nat}{f:Addr}{name qual:Str}{params:Arguments}{body:List Stmt}{scope:Scope}{dV kV doc pm cdv ct oc:Value}{an od:Option Addr}
  {osl:Array (Option Value)}{N ps:List Str}{sp:Sp}(lk:K.lookup f=some ⟨oc,od,.func (W.fnOf name qual params body scope dV kV doc pm an cdv ct),osl⟩) (hcd:W.codeIn K cdv qual=true) (S:gC N ps scope)
  (len:∀vs H Q E,sp vs H Q E->vs.length=ps.length)
  (hbody:∀ (A:Around) (outer:List Env) (s:Shared) (H:Hp) (vs:List V) (Q:VK) (E:XK),eS k (A.deeper (envOfC qual scope s.heap.objs.size f cdv))->sp vs H Q E ->
   ∃t,BA (EC CX P w K mg base N qual scope f cdv A outer s H E) body t/\t { nx:=fun _ H'=>Q .non H',rt:=Q } (start N vs) H) :
  pG P w K mg base CX (k+1) f (W.fnOf name qual params body scope dV kV doc pm an cdv ct) ps sp:=by
 refine⟨len,fun A outer s H args us vs Q E hr e0 hb r hsp=>?_⟩
 have hl:=len _ _ _ _ hsp
 have KX:K.In s.heap:=e0.mod.kin.keeps fun b o e=>(e0.bs b o e).1
 have lim:s.heap.NoLimit:=e0.mod.nolimit.keeps fun b o e=>(e0.bs b o e).1
 have hkind:∀y∈ps.zip us,scope.names.lookup y.1=some .local \/ (scope.names.lookup y.1=some .cell/\((cellsFrom (s.heap.objs.size+1) scope.names []).lookup y.1).isSome=true):=fun ⟨n,v⟩ hy=>by
  rcases S.par n (List.of_mem_zip hy).1 with q|q
  ·exact .inl q
  ·exact .inr ⟨q,W.cellsFrom_some _ _ _ (.inl q)⟩
 refine codeAny_call_function hr.depth (KX _ _ lk) rfl S.co S.gen rfl (W.codeRec_of KX hcd) (hb _ _ _ _ ?_)
 refine wpAny_newFunctionEnv_cells S.kind hkind fun env he s1 x=>?_
 subst he
 refine⟨lim.keeps x.toInCall.keep,codeAny_func ?_⟩
 obtain⟨t,ht,hq⟩:=hbody A outer s H vs Q E (hr.deeper _) hsp
 have I:Inv (EC CX P w K mg base N qual scope f cdv A outer s H E) [] (start N vs) H s1:=DU S hr.hd e0 hl r x
 refine wpAny_mono (ht [] s1 (start N vs) H _ I hq) (fun fl s' hs=>?_) fun e s' hs=>hs
 have fin:∀ {σ':St}{H':Hp}{v:V}{u:Value},Inv (EC CX P w K mg base N qual scope f cdv A outer s H E) [] σ' H' s'->RelV v u->Q v H'->CE outer P w H s Q u s' :=
  fun {σ' H' v u} J rv q=>⟨v,H',J.os,J.bare,J.base,J.hok,rv,q⟩
 cases fl with
 | ret u =>
  obtain⟨v,σ',H',J,rv,q⟩:=hs
  exact fin J rv q
 | next =>
  obtain⟨σ',H',J,q⟩:=hs
  exact fin (v:=V.non) (u:=Value.none) J rfl q
 | brk =>
  obtain⟨_,_,_,q⟩:=hs
  exact False.elim q
 | cont =>
  obtain⟨_,_,_,q⟩:=hs
  exact False.elim q
section
variable {X:Cx}{x:Str}{p pos:Pos}{e:Expr}{es:List Expr}{t:TA}{id T:String}{r:List V->Hp->VK->Prop}
def Pf(r:List V->Hp->VK->Prop)(t:TA):TE:=fun σ H Q=>t σ H fun vs H1=>r vs H1 Q
theorem n6(hc:eW X (.builtin id) r)(hg:Gl X x)(hm:X.mg x=none)(hv:bootBuiltins x=some (.builtin id))(ha:PA X (e::es) t)(hn:x≠"__name__":=by decide)(hdb:(x == ("__debug__":Str))=false:=by decide)
  (he:starEach (e::es) X.env=(false,eval e X.env)::starEach es X.env:=by rfl) (hpl:(backTo pos (starEach es X.env)).any (·.1)=false:=by rfl):PE X (.Call (.Name x p) (e::es) [] pos) (Pf r t):=by
 intro pins s σ H Q I h
 refine wpAny_Call_Name_kw (j6 I hg hm hv ?_ hn hdb)
 exact PyProof.Rows.callWith_builtin1 (cK (ha pos pins s σ H _ I h) fun us s1 ⟨vs,H1,I1,r1,q1⟩=>hc pins s1 σ H1 vs us Q I1 r1 q1) he hpl
theorem oY(hc:eW X (.type T) r)(hg:Gl X x)(hm:X.mg x=none)(hv:bootBuiltins x=some (.type T))(ha:PA X (e::es) t)(hn:x≠"__name__":=by decide)(hdb:(x == ("__debug__":Str))=false:=by decide)
  (he:starEach (e::es) X.env=(false,eval e X.env)::starEach es X.env:=by rfl) (hpl:(backTo pos (starEach es X.env)).any (·.1)=false:=by rfl):PE X (.Call (.Name x p) (e::es) [] pos) (Pf r t):=by
 intro pins s σ H Q I h
 refine wpAny_Call_Name_kw (j6 I hg hm hv ?_ hn hdb)
 exact PyProof.Rows.callWith_type1 (cK (ha pos pins s σ H _ I h) fun us s1 ⟨vs,H1,I1,r1,q1⟩=>hc pins s1 σ H1 vs us Q I1 r1 q1) he hpl
end
end L2
namespace HT
open PySem PyProof.Rows
noncomputable def lexLt:List Int->List Int->Bool
 | [],[]=>false
 | [],_::_=>true
 | _::_,[]=>false
 | x::xs,y::ys=>if x=y then lexLt xs ys else decide (x < y)
theorem cS(x y:Int)(xs ys:List Int):lexLt (x::xs) (y::ys)=if x=y then lexLt xs ys else decide (x < y):=rfl
theorem sJ:lexLt [] []=false:=rfl
theorem qm(y:Int)(ys:List Int):lexLt [] (y::ys)=true:=rfl
theorem qk(x:Int)(xs:List Int):lexLt (x::xs) []=false:=rfl
theorem E1(A:Around)(s:Shared)(a:Int)(t:Tok)(c:Int)(u:Tok):∃e,SeqAt.EqAt A s (.int a t) (.int c u) e/\(e=true↔a=c) :=
 ⟨(a == c),SeqAt.EqAt.int_int a t c u,by simp⟩
section
open PySem.SeqAt
open PySem.AutoSeq1 (wpAny_loadPart')
open PySem.MeetsSeq PySem.MeetsSeq2 PySem.MeetsSeq3
end
section
variable {prog:Program}{w:World}{A:Around}{E:Value->Shared->Prop}{s:Shared}
theorem IW{t b:Addr}{vs ws:List Value}{Q:Value->Shared->Prop}(ht:IsTup s.heap t vs.toArray)(hb:IsTup s.heap b ws.toArray)(hv:vs≠[])
  (h1:ws=[]->Q (.ref t) s) (h2:ws≠[]->Q (.ref s.heap.objs.size) { s with heap:=s.heap.push { cls:=.type "tuple",data:=.seq (vs++ws).toArray } })
  (hsz:vs.length+ws.length<=sizeLine):wpAny (model prog w) A (binaryOp .Add (.ref t) (.ref b)) Q E s:=by
 obtain⟨⟨cls,dd,data,sl⟩,ho,hc,n,hd⟩:=id ht
 obtain⟨⟨cls2,dd2,data2,sl2⟩,ho2,hc2,n2,hd2⟩:=id hb
 simp only at hc hd hc2 hd2
 subst hc hd hc2 hd2
 have e:vs.toArray++ws.toArray=(vs++ws).toArray:=by simp
 by_cases hw:ws=[]
 ·exact concat_meets ⟨_,ho,rfl⟩ ⟨_,ho2,rfl⟩ noFill_tuple_add seq_tuple_add PySem.F.slot_tuple_add PySem.F.entry_tuple_add (PySem.F.args_tuple_add_2 _ _)
   (tuple_addW1 t b vs.toArray ws.toArray n n2 dd dd2 sl sl2 (by simpa using hv) (by simp[hw])) ⟨ho,ho2,h1 hw⟩
 ·refine concat_meets ⟨_,ho,rfl⟩ ⟨_,ho2,rfl⟩ noFill_tuple_add seq_tuple_add PySem.F.slot_tuple_add PySem.F.entry_tuple_add (PySem.F.args_tuple_add_2 _ _)
   (tuple_addW2 t b vs.toArray ws.toArray n n2 dd dd2 sl sl2 (by simpa using hv) (by simpa using hw) (by rw[zH,zH];exact hsz)) ⟨ho,ho2,?_⟩
  rw[e]
  exact h2 hw
noncomputable def ek(n d:Nat):Option Int->Nat
 | none=>d
 | some v=>if v < 0 then (v+(n:Int)).toNat else min v.toNat n
theorem yW(n d:Nat):ek n d none=d:=rfl
theorem CT(n d k:Nat):ek n d (some (k:Int))=min k n:=by
 show (if (k:Int) < 0 then ((k:Int)+(n:Int)).toNat else min (k:Int).toNat n)=min k n
 rw[if_neg (by omega),yH]
theorem NG(n d:Nat)(hd:d<=n)(o:Option Int):ek n d o<=n:=by
 cases o with
 | none=>exact hd
 | some v =>
  show (if v < 0 then (v+(n:Int)).toNat else min v.toNat n)<=n
  by_cases hv:v < 0
  ·rw[if_pos hv];omega
  ·rw[if_neg hv];exact Nat.min_le_right _ _
theorem B8(v:Int)(n d:Nat):(if v < 0 then max (v+(n:Int)) 0 else min v (n:Int))=((ek n d (some v):Nat):Int):=by
 show (if v < 0 then max (v+(n:Int)) 0 else min v (n:Int))=(((if v < 0 then (v+(n:Int)).toNat else min v.toNat n):Nat):Int)
 by_cases hv:v < 0
 ·simp only[if_pos hv];omega
 ·simp only[if_neg hv];omega
theorem Ar(lo hi:Option Int)(n:Nat):Builtin.Slice.sliceAdjust lo hi 1 (n:Int)=(((ek n 0 lo:Nat):Int),((ek n n hi:Nat):Int)):=by
 have h1:¬ ((1:Int) < 0):=by omega
 unfold Builtin.Slice.sliceAdjust
 simp only[h1,if_false]
 refine Prod.ext ?_ ?_
 ·cases lo with
  | none=>rfl
  | some v=>exact B8 v n 0
 ·cases hi with
  | none=>rfl
  | some v=>exact B8 v n n
theorem BD(i j:Nat):Builtin.Slice.slicePlaces (i:Int) (j:Int) 1=j - i:=by
 unfold Builtin.Slice.slicePlaces
 have h1:(1:Int) > 0:=by omega
 simp only[h1,if_true,Int.ediv_one]
 split<;>omega
theorem rz{v:Value}{o:Option Int}{Q:Option Int->Shared->Prop}(p:IsPart v o)(h:Q o s):wpAny (model prog w) A (Builtin.Slice.slicePartIndex v) Q E s:=by
 cases p with
 | none=>exact slicePart_none h
 | int i t=>exact slicePart_int h
theorem jl{sl:Addr}{vl vu:Value}{lo hi:Option Int}{n:Nat}{Q:Int×Int×Nat->Shared->Prop}(hs:s.heap.IsSliceOf sl vl vu .none)(pl:IsPart vl lo)(pu:IsPart vu hi)
  (h:Q (((ek n 0 lo:Nat):Int),1,ek n n hi - ek n 0 lo) s):wpAny (model prog w) A (Builtin.Slice.sliceApplied (.ref sl) (pure (n:Int))) Q E s:=by
 obtain⟨os,hos,hcs,hds⟩:=id hs
 unfold Builtin.Slice.sliceApplied Builtin.Slice.sliceFields
 refine zW (zW (wpAny_field hos hds (x:=vl) rfl (zW (wpAny_field hos hds (x:=vu) rfl (zW (wpAny_field hos hds (x:=.none) rfl (zX ?_)))))))
 refine zW (slicePart_none ?_)
 show wpAny _ _ (if ((1:Int) == 0)=true then _ else _) _ _ s
 rw[if_neg (by decide)]
 refine zW (rz pl (zW (rz pu (zW (zX ?_)))))
 show wpAny _ _ (match Builtin.Slice.sliceAdjust lo hi 1 (n:Int) with|(lo,hi)=>pure (lo,(1:Int),Builtin.Slice.slicePlaces lo hi 1)) _ _ s
 rw[Ar lo hi n]
 show wpAny _ _ (pure (((ek n 0 lo:Nat):Int),(1:Int),Builtin.Slice.slicePlaces ((ek n 0 lo:Nat):Int) ((ek n n hi:Nat):Int) 1)) _ _ s
 rw[BD]
 exact zX h
theorem HJ(xs:Array Value)(i k:Nat):((List.range k).filterMap fun (m:Nat)=>xs[((i:Int)+(m:Int) * 1).toNat]?).toArray=((xs.toList.drop i).take k).toArray:=by
 have e:(fun (m:Nat)=>xs[((i:Int)+(m:Int) * 1).toNat]?)=fun m=>xs[i+m]?:=by
  funext m
  have:((i:Int)+(m:Int) * 1).toNat=i+m:=by omega
  rw[this]
 rw[e]
 have:=pick_run xs i k
 rw[List.filterMap_map] at this
 have e2:((fun x=>xs[x]?) ∘ fun x=>i+x)=fun m=>xs[i+m]?:=rfl
 rw[e2] at this
 rw[this]
theorem nG{t sl:Addr}{items:Array Value}{vl vu:Value}{lo hi:Option Int}{Q:Value->Shared->Prop}(ht:IsTup s.heap t items)(hs:s.heap.IsSliceOf sl vl vu .none)(pl:IsPart vl lo)(pu:IsPart vu hi)
  (hw:¬ (ek items.size 0 lo=0/\ek items.size items.size hi=items.size))
  (h:Q (.ref s.heap.objs.size) { s with heap:=s.heap.push { cls:=.type "tuple",data:=.seq ((items.toList.drop (ek items.size 0 lo)).take (ek items.size items.size hi - ek items.size 0 lo)).toArray } })
  (hsz:items.size<=sizeLine):wpAny (model prog w) A (getItem (.ref t) (.ref sl)) Q E s:=by
 have htake:sizeOk (.seq ((items.toList.drop (ek items.size 0 lo)).take (ek items.size items.size hi - ek items.size 0 lo)).toArray):=by
  show ((items.toList.drop (ek items.size 0 lo)).take (ek items.size items.size hi - ek items.size 0 lo)).toArray.size<=sizeLine
  rw[zH,List.length_take,List.length_drop,Array.length_toList]
  omega
 have hj:ek items.size items.size hi<=items.size:=NG _ _ (Nat.le_refl _) hi
 obtain⟨os,hos,hcs,hds⟩:=id hs
 have hTs:s.TypeIs (.ref sl) "slice":=⟨os,hos,hcs⟩
 unfold getItem
 try with_reducible refine wpAny_holding ?_
 first|refine zW (zX ?_)|skip
 refine zW (wpAny_sequenceKey ht.typeIs (by decide) ?_)
 refine zW (wpAny_callSpecial?_slot (name:=Str.ofString "__getitem__") ht.typeIs PyProof.Rows.slot_tuple_getitem
  (wpAny_call_entry PyProof.Rows.slot_tuple_getitem ht.typeIs entry_tuple_getitem ?_ (args_tuple_getitem _ _)))
 show wpAny _ _ (Builtin.Tuple.tupleItemsOf (.ref t) >>= _) _ _ s
 refine zW (tupleItemsOf_ ht ?_)
 refine zW (wpAny_typeOf hTs ?_)
 rw[if_pos (by decide)]
 refine zW (jl hs pl pu ?_)
 have hno:¬ ((((ek items.size 0 lo:Nat):Int) == 0&&(1:Int) == 1&&(ek items.size items.size hi - ek items.size 0 lo) == items.size)=true):=by
  intro q
  rw[zF,zF] at q
  have q1:((ek items.size 0 lo:Nat):Int)=0:=eq_of_beq q.1.1
  have q2:ek items.size items.size hi - ek items.size 0 lo=items.size:=eq_of_beq q.2
  exact hw ⟨by omega,by omega⟩
 show wpAny _ _ (if (((ek items.size 0 lo:Nat):Int) == 0&&(1:Int) == 1&&(ek items.size items.size hi - ek items.size 0 lo) == items.size)=true then _ else _) _ _ s
 rw[if_neg hno,HJ]
 first
  | exact zW (m:=Builtin.Tuple.tupleExact _) (wpAny_newObj_type (zX ⟨_,rfl,zX h⟩) htake)
  | exact zW (m:=Builtin.Tuple.tupleExact _) (wpAny_newObj_type (zW (zX (zX ⟨_,rfl,zX h⟩))) htake)
  | exact zW (zW (m:=Builtin.Tuple.tupleExact _) (wpAny_newObj_type (zX (zX ⟨_,rfl,zX h⟩)) htake))
  | exact zW (zW (m:=Builtin.Tuple.tupleExact _) (wpAny_newObj_type (zX ⟨_,rfl,zX h⟩) htake))
end
end HT
namespace L2
open PySem PySem.Spec PyProof.Rows
noncomputable abbrev TO:=St->Hp->(Option Int->Hp->Prop)->Prop
noncomputable def PO(X:Cx)(e:Option Expr)(t:TO):Prop :=
 ∀ (pins:List (Addr×Obj)) (s:Shared) (σ:St) (H:Hp) (Q:Option Int->Hp->Prop),Inv X pins σ H s->t σ H Q ->
  wpAny (model X.prog X.w) X.A (evalPart e X.env) (fun u s'=>∃o H',Inv X pins σ H' s'/\IsPart u o/\Q o H') X.xe s
def JG:TO:=fun _ H Q=>Q none H
def N3(t:TE):TO:=fun σ H Q=>t σ H fun x H1=>∃i,x=.int i/\Q (some i) H1
theorem intsAre_of{ns:List Int}:∀ {us:List Value},aM (ns.map V.int) us->IntsAre us ns:=by
 induction ns with
 | nil=>intro us r;rw[List.map_nil] at r;cases r;exact .nil
 | cons n ns ih =>
  intro us r
  rw[zI] at r
  cases r with
  | cons r1 r2 =>
   obtain⟨t,e⟩:=r1
   subst e
   exact .cons n t (ih r2)
section
variable {X:Cx}{e:Expr}{te:TE}{lo hi:Option Expr}{tl th:TO}{pos p2:Pos}
theorem Kx:PO X none JG:=by
 intro pins s σ H Q I h
 rw[evalPart_none]
 exact zX ⟨none,H,I,.none,h⟩
theorem Iy(h:PE X e te):PO X (some e) (N3 te):=by
 intro pins s σ H Q I hw
 rw[evalPart_some]
 refine cK (h pins s σ H _ I hw) fun u s1 ⟨x,H1,I1,r1,q1⟩=>?_
 obtain⟨i,rfl,q⟩:=q1
 obtain⟨t,rfl⟩:=r1
 exact⟨some i,H1,I1,.int i t,q⟩
noncomputable def Lc(X:Cx)(r:V->Option Int->Option Int->Hp->VK->Prop):Prop :=
 ∀ (pins:List (Addr×Obj)) (s:Shared) (σ:St) (H:Hp) (x:V) (v vl vu:Value) (lo hi:Option Int) (sl:Addr) (Q:VK),Inv X pins σ H s->RelV x v->s.heap.IsSliceOf sl vl vu .none->IsPart vl lo->IsPart vu hi->r x lo hi H Q ->
  ∃T id,typeLookup (.type T) "__getitem__"=pure (some (.builtin id))/\s.TypeIs v T/\wpAny (model X.prog X.w) X.A (getItem v (.ref sl)) (EP X pins σ Q) X.xe s
theorem Lc.or{r r':V->Option Int->Option Int->Hp->VK->Prop}(h:Lc X r)(h':Lc X r'):Lc X (fun x lo hi H Q=>r x lo hi H Q\/r' x lo hi H Q):=by
 intro pins s σ H x v vl vu lo hi sl Q I rx hs pl pu q
 rcases q with q|q
 ·exact h pins s σ H x v vl vu lo hi sl Q I rx hs pl pu q
 ·exact h' pins s σ H x v vl vu lo hi sl Q I rx hs pl pu q
def QR(r:V->Option Int->Option Int->Hp->VK->Prop)(te:TE)(tl th:TO):TE:=fun σ H Q=>te σ H fun x H1=>tl σ H1 fun l H2=>th σ H2 fun u H3=>r x l u H3 Q
theorem Fx{r:V->Option Int->Option Int->Hp->VK->Prop}(hr:Lc X r)(he:PE X e te)(hl:PO X lo tl)(hu:PO X hi th):PE X (.Subscript e (.Slice lo hi none p2) pos) (QR r te tl th):=by
 intro pins s σ H Q I h
 refine Subscript_ (cK (he pins s σ H _ I h) fun v s1 ⟨x,H1,I1,r1,q1⟩=>?_)
 refine wpAny_Slice (cK (hl pins s1 σ H1 _ I1 q1) fun vl s2 ⟨l,H2,I2,pl,q2⟩=>cK (hu pins s2 σ H2 _ I2 q2) fun vu s3 ⟨u,H3,I3,pu,q3⟩=>?_)
 rw[evalPart_none]
 refine zX ?_
 have I4:Inv X pins σ H3 { s3 with heap:=s3.heap.push { cls:=.type "slice",data:=.fields #[vl,vu,.none] } }:=I3.kept (t':=s3.toks) fun b ob q=>zV _ q
 obtain⟨T,id,hT,ht,hg⟩:=hr pins { s3 with heap:=s3.heap.push { cls:=.type "slice",data:=.fields #[vl,vu,.none] } } σ H3 x v vl vu l u s3.heap.objs.size Q I4 r1 (Heap.IsSliceOf.new ..) pl pu q3
 show wpAny (model X.prog X.w) X.A (subscriptTail e (.Slice lo hi none p2) v (.ref s3.heap.objs.size)) (EP X pins σ Q) X.xe { s3 with heap:=s3.heap.push { cls:=.type "slice",data:=.fields #[vl,vu,.none] } }
 exact tail_any (ops:=[.ref s3.heap.objs.size,v]) ht hT hg (by with_unfolding_all rfl)
noncomputable def IE(xs:List V)(lo hi:Option Int):List V:=(xs.drop (HT.ek xs.length 0 lo)).take (HT.ek xs.length xs.length hi - HT.ek xs.length 0 lo)
theorem yY(xs:List V)(lo hi:Option Int):(IE xs lo hi).length<=xs.length:=by
 unfold IE
 rw[List.length_take,List.length_drop]
 omega
noncomputable def P5(K:W.Frag):V->Option Int->Option Int->Hp->VK->Prop:=fun x lo hi H Q=>∃a xs,x=.ref a/\jA K H a xs /\
 ¬ (HT.ek xs.length 0 lo=0/\HT.ek xs.length xs.length hi=xs.length)/\∀p,H p=none->Q (.ref p) (upd H p (.tup (IE xs lo hi)))
theorem MX:Lc X (P5 X.K):=by
 intro pins s σ H x v vl vu lo hi sl Q I rx hs pl pu h
 obtain⟨a,xs,rfl,hx,hw,q⟩:=h
 cases rx
 obtain⟨its,r,ht,hz⟩:=I.tuple hx
 have hlen:its.toArray.size=xs.length:=by rw[zH];exact r.length.symm
 refine⟨"tuple",_,PyProof.Rows.slot_tuple_getitem.lookup,ht.typeIs,?_⟩
 refine HT.nG ht hs pl pu (by rw[hlen];exact hw) ?_ (by rw[hlen];exact hz)
 rw[hlen]
 refine⟨.ref s.heap.objs.size,_,I.laid (t':=s.toks) (o:=.tup (IE xs lo hi)) (fun b ob q=>zV _ q) (Nat.le_refl _) ?_,rfl,q _ (I.hok.fresh (Nat.le_refl _))⟩
 exact⟨yE (yY xs lo hi) hz,_,(r.drop (HT.ek xs.length 0 lo)).take (HT.ek xs.length xs.length hi - HT.ek xs.length 0 lo),rJ.new _ _⟩
def OS(K:W.Frag):R2:=fun x y H Q=>∃a b xs ys,x=.ref a/\y=.ref b/\jA K H a xs/\jA K H b ys/\xs≠[]/\xs.length+ys.length<=sizeLine /\
 (ys=[]->Q (.ref a) H)/\(ys≠[]->∀p,H p=none->Q (.ref p) (upd H p (.tup (xs++ys))))
theorem aM.nil_iff{xs:List V}{us:List Value}(r:aM xs us):us=[]↔xs=[]:=by
 cases r with
 | nil=>simp
 | cons _ _=>simp
theorem Kn:ja X (binaryOp .Add) (OS X.K):=by
 intro pins s σ H x y v u Q I rx ry h
 obtain⟨a,b,xs,ys,rfl,rfl,ha,hb,hx,hz,q1,q2⟩:=h
 cases rx
 cases ry
 obtain⟨its,r1,p1,_⟩:=I.tuple ha
 obtain⟨its2,r2,p2,_⟩:=I.tuple hb
 refine HT.IW p1 p2 (fun z=>hx (r1.nil_iff.mp z)) (fun z=>⟨.ref a,H,I,rfl,q1 (r2.nil_iff.mp z)⟩) (fun z=>?_) (by rw[<- r1.length,<- r2.length];exact hz)
 refine⟨.ref s.heap.objs.size,_,I.laid (t':=s.toks) (o:=.tup (xs++ys)) (fun b ob q=>zV _ q) (Nat.le_refl _) ?_,rfl,q2 (fun w=>z (r2.nil_iff.mpr w)) _ (I.hok.fresh (Nat.le_refl _))⟩
 exact⟨by rw[zN];exact hz,_,r1.append r2,rJ.new _ _⟩
end
noncomputable def Ik(n:Nat)(i:Int):Option Nat:=if 0<=i then (if i < n then some i.toNat else none) else if -(n:Int)<=i then some (i+n).toNat else none
noncomputable def vg{α:Type}(xs:List α)(i:Int):Option α:=(Ik xs.length i).bind fun j=>xs[j]?
theorem Cm{n:Nat}{i:Int}{j:Nat}(h:Ik n i=some j):seqIndex? i n=some j/\j < n/\-(n:Int)<=i/\i < n:=by
 unfold Ik at h
 by_cases h0:0<=i
 ·rw[if_pos h0] at h
  by_cases h1:i < n
  ·rw[if_pos h1] at h
   have e:i.toNat=j:=Option.some.inj h
   exact⟨by rw[seqIndex_of h0 h1,e],by omega,by omega,h1⟩
  ·rw[if_neg h1] at h;cases h
 ·rw[if_neg h0] at h
  by_cases h1:-(n:Int)<=i
  ·rw[if_pos h1] at h
   have e:(i+n).toNat=j:=Option.some.inj h
   exact⟨by rw[seqIndex_neg (by omega) h1,e],by omega,h1,by omega⟩
  ·rw[if_neg h1] at h;cases h
theorem wU{α:Type}{xs:List α}{i:Int}{v:α}(h:vg xs i=some v):∃j,seqIndex? i xs.length=some j/\xs[j]?=some v/\j < xs.length/\-(xs.length:Int)<=i/\i < xs.length:=by
 unfold vg at h
 cases e:Ik xs.length i with
 | none=>rw[e] at h;cases h
 | some j =>
  rw[e] at h
  obtain⟨h1,h2,h3,h4⟩:=Cm e
  exact⟨j,h1,h,h2,h3,h4⟩
theorem vL{α:Type}{xs:List α}{j:Nat}{v:α}(h:xs[j]?=some v):vg xs (j:Int)=some v:=by
 have hj:j < xs.length:=(zU.mp h).1
 have e:Ik xs.length (j:Int)=some j:=by
  unfold Ik
  rw[if_pos (by omega),if_pos (by omega)];simp
 unfold vg;rw[e];exact h
def pW(b:Expr):Prop:=∀o i,subscripted b false o i=operate [o,i] (getItem o i)
noncomputable def JP(X:Cx)(r:R2):Prop :=
 ∀ (value slice:Expr) (pins:List (Addr×Obj)) (s:Shared) (σ:St) (H:Hp) (x y:V) (v u:Value) (Q:VK),Inv X pins σ H s->RelV x v->RelV y u->r x y H Q ->
  subscripted slice false v u=operate [v,u] (getItem v u)->wpAny (model X.prog X.w) X.A (subscriptTail value slice v u) (EP X pins σ Q) X.xe s
noncomputable def QK(X:Cx)(id:String)(r:V->List V->Hp->VK->Prop):Prop :=
 ∀ (pins:List (Addr×Obj)) (s:Shared) (σ:St) (H:Hp) (x:V) (xs:List V) (v:Value) (us:List Value) (Q:VK),Inv X pins σ H s->RelV x v->aM xs us->r x xs H Q ->
  wpAny (model X.prog X.w) X.A (call (.builtin id) (v::us)) (EP X pins σ Q) X.xe s
section
variable {X:Cx}{a b:Expr}{ta tb:TE}{pos:Pos}
theorem JP.or{r r':R2}(h:JP X r)(h':JP X r'):JP X (fun x y H Q=>r x y H Q\/r' x y H Q):=by
 intro value slice pins s σ H x y v u Q I rx ry q hs
 rcases q with q|q
 ·exact h value slice pins s σ H x y v u Q I rx ry q hs
 ·exact h' value slice pins s σ H x y v u Q I rx ry q hs
theorem K2{r:R2}(hr:JP X r)(ha:PE X a ta)(hb:PE X b tb)(hs:pW b):PE X (.Subscript a b pos) (N5 r ta tb):=by
 intro pins s σ H Q I h
 exact Subscript_ (MK ha hb I h fun v u s2 x y H2 I2 rx ry q=>hr a b pins s2 σ H2 x y v u Q I2 rx ry q (hs _ _))
def N0(K:W.Frag):R2:=fun x y H Q=>∃p xs i v,x=.ref p/\y=.int i/\i8 K H p xs/\vg xs i=some v/\Q v H
def Ob(K:W.Frag):R2:=fun x y H Q=>∃p xs i v,x=.ref p/\y=.int i/\jA K H p xs/\vg xs i=some v/\Q v H
def OA:R2:=fun x y H Q=>∃z i c,x=.str z/\y=.int i/\z.length<=sizeLine/\vg z.cps.toList i=some c/\Q (.str ⟨#[c]⟩) H
theorem Ct:JP X (N0 X.K):=by
 intro value slice pins s σ H x y v u Q I rx ry h hs
 obtain⟨p,xs,i,z,rfl,rfl,hq,he,q⟩:=h
 cases rx
 obtain⟨t,rfl⟩:=ry
 obtain⟨its,r,pl,hz⟩:=I.list hq
 obtain⟨j,h1,h2,h3,h4,h5⟩:=wU he
 obtain⟨w,ew,rw'⟩:=r.get h2
 have hl:=r.length
 have hn:=qX
 have fin:EP X pins σ Q w s:=⟨z,H,I,rw',q⟩
 by_cases h0:0<=i
 ·have hj:i.toNat=j:=by
   rw[seqIndex_of h0 h5] at h1
   exact Option.some.inj h1
  exact item_listR pl.isList h0 (by omega) (by rw[hj];simpa using ew) fin hs
 ·have hj:(i+(its.toArray.size:Int)).toNat=j:=by
   rw[seqIndex_neg (by omega) h4] at h1
   rw[zH,<- hl]
   exact Option.some.inj h1
  exact subscriptTail_builtinR (x:=w) pl.isList.typeIs slot_list_getitem.lookup
   (wpAny_getItem_list_neg (Q:=fun r s'=>r=w/\EP X pins σ Q r s') pl.isList (by omega) (by rw[zH]<;>omega) (by omega) (by rw[hj];simpa using ew) ⟨rfl,fin⟩) hs
theorem rM:JP X (Ob X.K):=by
 intro value slice pins s σ H x y v u Q I rx ry h hs
 obtain⟨p,xs,i,z,rfl,rfl,hq,he,q⟩:=h
 cases rx
 obtain⟨t,rfl⟩:=ry
 obtain⟨its,r,pl,hz⟩:=I.tuple hq
 obtain⟨j,h1,h2,h3,h4,h5⟩:=wU he
 obtain⟨w,ew,rw'⟩:=r.get h2
 have hl:=r.length
 have hn:=qX
 have fin:EP X pins σ Q w s:=⟨z,H,I,rw',q⟩
 exact subscriptTail_builtinR (x:=w) pl.typeIs slot_tuple_getitem.lookup
  (getItem_tuple (j:=j) (Q:=fun r s'=>r=w/\EP X pins σ Q r s') pl (by omega) (by omega) (by rw[zH,<- hl];exact h1) (by simpa using ew) ⟨rfl,fin⟩) hs
theorem Nt:JP X OA:=by
 intro value slice pins s σ H x y v u Q I rx ry h hs
 obtain⟨z,i,c,rfl,rfl,hz,he,q⟩:=h
 obtain⟨t,rfl⟩:=rx
 obtain⟨t',rfl⟩:=ry
 obtain⟨j,h1,h2,h3,h4,h5⟩:=wU he
 have hl:z.cps.toList.length=z.length:=by simp[Str.length]
 rw[hl] at h1 h4 h5
 have hn:=qX
 exact tail_any (typeIs_str s z t) slot_str_getitem.lookup (getItem_str (c:=c) (by
  have e1:decide (i < -(2 ^ 63:Int))=false:=yA (by omega)
  have e2:decide (i >= 2 ^ 63)=false:=yA (by omega)
  rw[e1,e2,Bool.or_false]) (by rw[h1];simpa using h2) ⟨.str ⟨#[c]⟩,H,I.tok _,⟨_,rfl⟩,q⟩) hs
def QJ(K:W.Frag):R2:=fun x y H Q=>N0 K x y H Q\/Ob K x y H Q\/OA x y H Q
theorem MU:JP X (QJ X.K):=Ct.or (rM.or Nt)
theorem Ai(its:List Value)(n j:Nat)(u:Value):Obj.mapSeq (·.setIfInBounds j u) { cls:=.type "list",data:=.seq its.toArray n }={ cls:=.type "list",data:=.seq (its.set j u).toArray n }:=by
 simp[Obj.mapSeq]
theorem Inv.lst{pins:List (Addr×Obj)}{σ:St}{H:Hp}{s:Shared}{p:Addr}{xs:List V}(I:Inv X pins σ H s)(h:H p=some (.lst xs)) :
  ∃ (its:List Value) (n:Nat),aM xs its/\s.heap.get? p=some { cls:=.type "list",data:=.seq its.toArray n }/\xs.length<=sizeLine:=by
 obtain⟨z,its,n,r,e⟩:=I.hok p _ h
 exact⟨its,n,r,e,z⟩
theorem Inv.lstUpd{pins:List (Addr×Obj)}{σ:St}{H:Hp}{s:Shared}{p:Addr}{xs ys:List V}{its its':List Value}{n n':Nat}{f:Obj->Obj}(I:Inv X pins σ H s)(h:H p=some (.lst xs))
  (ho:s.heap.get? p=some { cls:=.type "list",data:=.seq its.toArray n }) (hf:f { cls:=.type "list",data:=.seq its.toArray n }={ cls:=.type "list",data:=.seq its'.toArray n' }) (r:aM ys its') (hz:ys.length<=sizeLine) (t:Nat) :
  Inv X pins σ (upd H p (.lst ys)) { s with heap:=s.heap.update p f,toks:=t }:=by
 have e:(s.heap.update p f).get? p=some { cls:=.type "list",data:=.seq its'.toArray n' }:=by
  rw[Heap.get?_update_self f ho (by rw[hf]<;>rfl),hf]
 refine I.write (x:=p) (e:=p) (by rw[h];trivial) (.inl rfl) (fun b u hb q=>(Heap.get?_update_other _ _ (Ne.symm hb)).trans q) ⟨_,e⟩ ?_
 exact⟨hz,its',n',r,e⟩
noncomputable def NP:V->V->V->Hp->(Hp->Prop)->Prop:=fun o i v H Q=>∃p xs k j,o=.ref p/\i=.int k/\H p=some (.lst xs)/\Ik xs.length k=some j/\Q (upd H p (.lst (xs.set j v)))
theorem set_list:Pa X NP:=by
 intro pins s σ H o i v ov iv u Q I ro ri rv h
 obtain⟨p,xs,k,j,rfl,rfl,hp,hj,q⟩:=h
 cases ro
 obtain⟨t,rfl⟩:=ri
 obtain⟨its,n,r,ho,hz⟩:=I.lst hp
 obtain⟨h1,h2,h3,h4⟩:=Cm hj
 have hl:=r.length
 have hn:=qX
 have I':Inv X pins σ (upd H p (.lst (xs.set j v))) { s with heap:=s.heap.update p (Obj.mapSeq (·.setIfInBounds j u)) } :=
  I.lstUpd hp ho (Ai its n j u) (r.set rv j) (by rw[yD];exact hz) s.toks
 by_cases h0:0<=k
 ·have hk:k.toNat=j:=by
   rw[seqIndex_of h0 h4] at h1
   exact Option.some.inj h1
  exact W.ki_setAt ho h0 (by omega) (by rw[zH,<- hl];exact h4) (by rw[hk];exact⟨_,I',q⟩)
 ·have hk:(k+(its.toArray.size:Int)).toNat=j:=by
   rw[seqIndex_neg (by omega) h3] at h1
   rw[zH,<- hl]
   exact Option.some.inj h1
  exact W.ki_setBack ho (by omega) (by rw[zH,<- hl];exact h3) (by omega) (by rw[hk];exact⟨_,I',q⟩)
theorem u6:eW X (.builtin "len") (fun xs H Q=>∃p ys,xs=[.ref p]/\(i8 X.K H p ys\/jA X.K H p ys)/\Q (.int ys.length) H):=by
 intro pins s σ H xs us Q I r h
 obtain⟨p,ys,rfl,hq,q⟩:=h
 obtain⟨u,rfl,rx⟩:=vals1 r
 cases rx
 have hn:=qX
 rcases hq with hq|hq
 ·obtain⟨its,r',pl,hz⟩:=I.list hq
  have hlen:=r'.length
  exact Calls.call_len_list pl.isList (by simp only[zH]<;>omega) ⟨.int ys.length,H,I.tok _,⟨s.toks+1,by rw[zH,hlen]⟩,q⟩
 ·obtain⟨its,r',pl,hz⟩:=I.tuple hq
  have hlen:=r'.length
  exact len_tuple pl (by simp only[zH]<;>omega) ⟨.int ys.length,H,I.tok _,⟨s.toks+1,by rw[zH,hlen]⟩,q⟩
theorem wI:eW X (.type "list") (fun xs H Q=>∃p ys,xs=[.ref p]/\(i8 X.K H p ys\/jA X.K H p ys)/\∀l,H l=none->Q (.ref l) (upd H l (.lst ys))):=by
 intro pins s σ H xs us Q I r h
 obtain⟨p,ys,rfl,hq,q⟩:=h
 obtain⟨u,rfl,rx⟩:=vals1 r
 cases rx
 have fin:∀ (its:List Value),aM ys its->ys.length<=sizeLine->∀ (h':Heap) (c':Nat),(∀b o',s.heap.get? b=some o'->h'.get? b=some o') ->
   h'.get? s.heap.objs.size=some { cls:=.type "list",dict:=none,data:=.seq its.toArray c',slots:=#[] }->EP X pins σ Q (.ref s.heap.objs.size) { s with heap:=h' }:=fun its r' hz h' c' kp e =>
  ⟨.ref s.heap.objs.size,_,I.laid (t':=s.toks) kp (Nat.le_refl _) (show fY X.prog X.w _ h' _ (.lst ys) from ⟨hz,its,c',r',e⟩),rfl,q _ (I.hok.fresh (Nat.le_refl _))⟩
 rcases hq with hq|hq
 ·obtain⟨its,r',pl,hz⟩:=I.list hq
  have hlen:=r'.length
  obtain⟨o,ho,hc,n,hd⟩:=pl.isList
  exact call_list_seq p (.inl rfl) ho hc hd (fun h' c' kp e=>fin its r' hz h' c' kp e) (by simp only[zH]<;>omega)
 ·obtain⟨its,r',pl,hz⟩:=I.tuple hq
  have hlen:=r'.length
  obtain⟨o,ho,hc,n,hd⟩:=pl
  exact call_list_seq p (.inr rfl) ho hc hd (fun h' c' kp e=>fin its r' hz h' c' kp e) (by simp only[zH]<;>omega)
theorem tj:eW X (.type "tuple") (fun xs H Q=>∃p ys,xs=[.ref p]/\((i8 X.K H p ys/\∀l,H l=none->Q (.ref l) (upd H l (.tup ys)))\/(jA X.K H p ys/\Q (.ref p) H))):=by
 intro pins s σ H xs us Q I r h
 obtain⟨p,ys,rfl,h⟩:=h
 obtain⟨u,rfl,rx⟩:=vals1 r
 cases rx
 rcases h with ⟨hq,q⟩|⟨hq,q⟩
 ·obtain⟨its,r',pl,hz⟩:=I.list hq
  have hlen:=r'.length
  refine call_tuple_list pl.isList (fun h' kp=>?_) (by simp only[zH]<;>omega)
  have I1:Inv X pins σ H { s with heap:=h' }:=I.kept (t':=s.toks) kp
  have I2:Inv X pins σ (upd H h'.objs.size (.tup ys)) { s with heap:=h'.push { cls:=.type "tuple",data:=.seq its.toArray } } :=
   I1.laid (t':=s.toks) (fun b o e=>zV _ e) (Nat.le_refl _) (show fY X.prog X.w _ _ _ (.tup ys) from ⟨hz,its,r',rJ.new _ _⟩)
  exact⟨.ref h'.objs.size,_,I2,rfl,q _ (I1.hok.fresh (Nat.le_refl _))⟩
 ·obtain⟨its,r',pl,hz⟩:=I.tuple hq
  exact call_tuple_same pl ⟨.ref p,H,I,rfl,q⟩
def QA(K:W.Frag)(T:String)(x:V)(H:Hp):Prop:=match x with
 | .str _=>T="str"
 | .int _=>T="int"
 | .ref p=>(T="list"/\∃xs,i8 K H p xs)\/(T="tuple"/\∃xs,jA K H p xs) \/
   (T="dict"/\((∃kvs,H p=some (.dK kvs))\/∃kvs,H p=some (.dT kvs)))\/(T="set"/\∃S n,H p=some (.set S n))
 | _=>False
theorem MI{pins:List (Addr×Obj)}{σ:St}{H:Hp}{s:Shared}{T:String}{x:V}{v:Value}(I:Inv X pins σ H s)(r:RelV x v)(ty:QA X.K T x H) :
  s.TypeIs v T/\∀a,v=.ref a->∃ob,s.heap.get? a=some ob/\ob.dict=none:=by
 cases x with
 | str z =>
  obtain⟨t,rfl⟩:=r
  cases (show T="str" from ty)
  exact⟨typeIs_str s z t,fun _ e=>nomatch e⟩
 | int i =>
  obtain⟨t,rfl⟩:=r
  cases (show T="int" from ty)
  exact⟨typeIs_int s i t,fun _ e=>nomatch e⟩
 | ref p =>
  cases r
  rcases ty with ⟨rfl,xs,hq⟩|⟨rfl,xs,hq⟩|⟨rfl,hk⟩|⟨rfl,S,n,hk⟩
  ·obtain⟨its,_,pl,_⟩:=I.list hq
   refine⟨pl.isList.typeIs,fun a e=>?_⟩
   cases e
   obtain⟨o,n,e,c,hd,_⟩:=pl
   exact⟨o,e,hd⟩
  ·rcases hq with hq|⟨o,its,n,hk,hc,hd,_⟩
   ·obtain⟨_,_,_,⟨o,e1,e2,_⟩,o2,e3,e4⟩:=hq.ok I.hok
    exact⟨⟨o,e1,e2⟩,fun a e=>by cases e;exact⟨o2,e3,e4⟩⟩
   ·exact⟨⟨o,I.kIn p o hk,hc⟩,fun a e=>by cases e;exact⟨o,I.kIn _ o hk,hd⟩⟩
  ·have z:∃o,s.heap.get? p=some o/\o.ExactDict:=by
    rcases hk with ⟨kvs,hk⟩|⟨kvs,hk⟩
    ·obtain⟨_,_,_,_,o,_,_,e,ex,_⟩:=I.hok p _ hk
     exact⟨o,e,ex⟩
    ·obtain⟨_,_,_,_,o,_,_,e,ex,_⟩:=I.hok p _ hk
     exact⟨o,e,ex⟩
   obtain⟨o,e,ex⟩:=z
   refine⟨⟨o,e,ex.1⟩,fun a e2=>?_⟩
   cases e2
   exact⟨o,e,ex.2.1⟩
  ·obtain⟨o,_,_,_,e,ex,_⟩:=I.hok p _ hk
   refine⟨⟨o,e,ex.1⟩,fun a e2=>?_⟩
   cases e2
   exact⟨o,e,ex.2.1⟩
 | _=>exact False.elim ty
def Q5(K:W.Frag)(T:String)(r:V->List V->Hp->VK->Prop)(to:TE)(t:TA):TE:=fun σ H Q=>to σ H fun x H1=>QA K T x H1/\t σ H1 fun xs H2=>r x xs H2 Q
variable {o e:Expr}{es:List Expr}{to:TE}{t:TA}{name:Str}{apos cpos:Pos}{T id:String}{r:V->List V->Hp->VK->Prop}
theorem xC(pa:PlainAttrs T)(slot:Slot T name id)(hty:typeOf (.builtin id)=pure (.type "method_descriptor"))(hm:QK X id r)(ho:PE X o to)(ha:PA X (e::es) t)
  (hbase:attributeBase o name X.env (eval o X.env)=eval o X.env:=by rfl)
  (hfew:((backTo cpos (starEach (e::es) X.env)).all (fun x=>!x.1)&&(backToKw cpos (keywordEach [] X.env)).all (fun x=>x.1.isSome)
   &&decide ((e::es).length+([]:List Keyword).length+(if ([]:List Keyword).isEmpty then 0 else 1) < 30))=true:=by rfl)
  (hline:(apos.endLine == cpos.line)=true:=by rfl) (hs:starEach (e::es) X.env=(false,eval e X.env)::starEach es X.env:=by rfl) (hplain:(backTo cpos (starEach es X.env)).any (·.1)=false:=by rfl) :
  PE X (.Call (.Attribute o name apos) (e::es) [] cpos) (Q5 X.K T r to t):=by
 intro pins s σ H Q I h
 refine wpAny_Call_method_late hbase hfew hline rfl (cK (ho pins s σ H _ I h) fun v s1 ⟨x,H1,I1,r1,ty,q1⟩=>?_)
 obtain⟨h1,h2⟩:=MI I1 r1 ty
 refine⟨T,id,pa,slot,hty,h1,h2,?_⟩
 have hA:=ha cpos pins s1 σ H1 _ I1 q1
 rw[hs] at hA ⊢
 refine Calls.callWith_builtin (by show (false||(backTo cpos (starEach es X.env)).any (·.1))=false;rw[hplain]<;>rfl) (Calls.evalArgs_plain ?_)
 exact cK hA fun us s2 ⟨vs,H2,I2,r2,q2⟩=>hm pins s2 σ H2 x vs v us Q I2 r1 r2 q2
/- xs.append(e),list.index on a module's tuple .. are QK facts of 06m -/
end
noncomputable def O3(X:Cx)(id:String)(r:V->List V->Hp->VK->Prop):Prop :=
 ∀ (pins:List (Addr×Obj)) (s:Shared) (σ:St) (H:Hp) (x:V) (xs:List V) (v:Value) (us:List Value) (Q:VK),Inv X pins σ H s->RelV x v->aM xs us->r x xs H Q ->
  wpAny (model X.prog X.w) X.A (call (.builtin id) (v::us)) (EP X pins σ Q) X.xe s
theorem aM.one:∀ {x:V}{us:List Value},aM [x] us->∃u,us=[u]/\RelV x u
 | _,_,.cons r .nil=>⟨_,rfl,r⟩
theorem aM.two:∀ {x y:V}{us:List Value},aM [x,y] us->∃u v,us=[u,v]/\RelV x u/\RelV y v
 | _,_,_,.cons r (.cons q .nil)=>⟨_,_,rfl,r,q⟩
theorem aM.eraseIdx:∀ {xs:List V}{us:List Value}(i:Nat),aM xs us->aM (xs.eraseIdx i) (us.eraseIdx i)
 | _,_,_,.nil=>.nil
 | _,_,0,.cons _ t=>t
 | _,_,i+1,.cons r t=>.cons r (aM.eraseIdx i t)
theorem aM.reverse{xs:List V}{us:List Value}(h:aM xs us):aM xs.reverse us.reverse:=by
 induction h with
 | nil=>exact .nil
 | cons r t ih=>rw[List.reverse_cons,List.reverse_cons];exact aM.append ih (.cons r .nil)
theorem aM.rep{xs:List V}{us:List Value}(h:aM xs us):∀k:Nat,aM (List.replicate k xs).flatten (List.replicate k us).flatten
 | 0=>.nil
 | k+1=>by
  rw[List.replicate_succ,List.replicate_succ,List.flatten_cons,List.flatten_cons]
  exact aM.append h (aM.rep h k)
theorem foldl_rep(its:List Value):∀ (k:Nat) (acc:List Value),
  List.foldl (fun x1 x2=>x1++x2) acc.toArray (List.replicate k its.toArray)=(acc++(List.replicate k its).flatten).toArray
 | 0,acc=>by simp
 | k+1,acc=>by
  have e:acc.toArray++its.toArray=(acc++its).toArray:=by simp
  have e2:(acc++its)++(List.replicate k its).flatten=acc++(List.replicate (k+1) its).flatten:=by
   rw[List.replicate_succ,List.flatten_cons,List.append_assoc]
  rw[<- e2,<- foldl_rep its k (acc++its),<- e,List.replicate_succ,yK]
section
variable {X:Cx}{pins:List (Addr×Obj)}{σ:St}{H:Hp}{s:Shared}{l b:Addr}{xs ys zs:List V}
theorem Inv.lset{its its':List Value}{n:Nat}{f:Array Value->Array Value}{t':Nat}(I:Inv X pins σ H s)(hH:H l=some (.lst xs))
  (e:s.heap.get? l=some { cls:=.type "list",data:=.seq its.toArray n }) (hf:f its.toArray=its'.toArray) (hv:aM ys its') (hz:ys.length<=sizeLine) :
  Inv X pins σ (upd H l (.lst ys)) { s with heap:=s.heap.update l (Obj.mapSeq f),toks:=t' }:=by
 have q:=PySem.IsL.update e f
 rw[hf] at q
 refine I.write (x:=l) (e:=l) (by rw[hH];exact trivial) (.inl rfl) (fun b' u hb hu=>(Heap.get?_update_other s.heap (Obj.mapSeq f) (Ne.symm hb)).trans hu) ⟨_,q⟩ ?_
 exact⟨hz,its',_,hv,q⟩
theorem Inv.lnew{its:List Value}{t':Nat}(I:Inv X pins σ H s)(hv:aM ys its)(hz:ys.length<=sizeLine) :
  Inv X pins σ (upd H s.heap.objs.size (.lst ys)) { s with heap:=s.heap.push { cls:=.type "list",data:=.seq its.toArray },toks:=t' } :=
 I.laid (fun _ _ q=>zV _ q) (Nat.le_refl _) ⟨hz,its,0,hv,zY _ rfl⟩
theorem Inv.fresh(I:Inv X pins σ H s):H s.heap.objs.size=none:=I.hok.fresh (Nat.le_refl _)
theorem Inv.lstM(I:Inv X pins σ H s)(hH:H l=some (.lst xs)):xs.length<=sizeLine/\∃ (its:List Value) (n:Nat),aM xs its/\xs.length=its.length/\s.heap.get? l=some { cls:=.type "list",data:=.seq its.toArray n }:=by
 obtain⟨z,its,n,r,e⟩:=I.hok l _ hH
 exact⟨z,its,n,r,r.length,e⟩
theorem xG{n:Nat}(h:n<=sizeLine):Builtin.List.listTooLong n=false:=by
 unfold Builtin.List.listTooLong
 exact yA (by omega)
end
section
variable {X:Cx}
noncomputable def ID:V->List V->Hp->VK->Prop:=fun x vs H Q=>∃l xs y,x=.ref l/\vs=[y]/\H l=some (.lst xs)/\xs.length < sizeLine/\Q .non (upd H l (.lst (xs++[y])))
theorem uv:O3 X "list.append" ID:=by
 intro pins s σ H x vs v us Q I rx rv h
 obtain⟨l,xs,y,rfl,rfl,hH,hz,q⟩:=h
 cases rx
 obtain⟨u,rfl,ru⟩:=rv.one
 obtain⟨z,its,n,r,hl,e⟩:=I.lstM hH
 refine call_meets F.slot_list_append ⟨_,e,rfl⟩ F.entry_list_append (F.args_list_append_2 _ _) (PySem.list_append l its.toArray n u (by rw[zH];omega)) ⟨e,?_⟩
 refine⟨.non,_,I.lset (its':=its++[u]) hH e (by simp) (r.append (.cons ru .nil)) ?_,rfl,q⟩
 rw[zN,List.length_singleton]
 omega
noncomputable def IC:V->List V->Hp->VK->Prop:=fun x vs H Q=>∃l b xs zs,x=.ref l/\vs=[.ref b]/\H l=some (.lst xs)/\H b=some (.lst zs)/\xs.length+zs.length<=sizeLine/\Q .non (upd H l (.lst (xs++zs)))
theorem ED:O3 X "list.extend" IC:=by
 intro pins s σ H x vs v us Q I rx rv h
 obtain⟨l,b,xs,zs,rfl,rfl,hH,hB,hz,q⟩:=h
 cases rx
 obtain⟨u,rfl,ru⟩:=rv.one
 cases ru
 obtain⟨z,its,n,r,hl,e⟩:=I.lstM hH
 obtain⟨z2,its2,n2,r2,hl2,e2⟩:=I.lstM hB
 have hsz:its.toArray.size+its2.toArray.size<=sizeLine:=by rw[zH,zH];omega
 have hlong:¬ (!its.toArray.isEmpty&&Builtin.List.listTooLong (its.toArray.size+its2.toArray.size))=true:=by
  rw[xG hsz,Bool.and_false]
  exact Bool.false_ne_true
 refine call_meets F.slot_list_extend ⟨_,e,rfl⟩ F.entry_list_extend (F.args_list_extend_2 _ _)
  (AutoSeq1.list_extend_list_list_0 l its.toArray n b its2.toArray n2 hlong (by rw[zH];omega) (by omega)) ⟨e,e2,?_⟩
 refine⟨.non,_,I.lset (its':=its++its2) hH e (by simp) (r.append r2) ?_,rfl,q⟩
 rw[zN]
 omega
def P2:R2:=fun x y H Q=>∃l k xs,x=.ref l/\y=.int k/\H l=some (.lst xs)/\-(2 ^ 63)<=k/\k < 2 ^ 63/\xs.length * k.toNat<=sizeLine /\
 ∀p,H p=none->Q (.ref p) (upd H p (.lst (List.replicate k.toNat xs).flatten))
theorem len_rep{α:Type}(xs:List α)(k:Nat):(List.replicate k xs).flatten.length=k * xs.length:=by
 induction k with
 | zero=>simp
 | succ k ih=>rw[List.replicate_succ,List.flatten_cons,zN,ih,Nat.succ_mul,Nat.add_comm]
theorem L5:ja X (binaryOp .Mult) P2:=by
 intro pins s σ H x y v u Q I rx ry h
 obtain⟨l,k,xs,rfl,rfl,hH,h1,h2,hz,q⟩:=h
 cases rx
 obtain⟨t,rfl⟩:=ry
 obtain⟨z,its,n,r,hl,e⟩:=I.lstM hH
 have hlen:its.toArray.size * k.toNat<=sizeLine:=by rw[zH,<- hl];exact hz
 have hcap:¬ its.toArray.size * k.toNat > (2 ^ 63 - 1) / 8:=by
  have:(sizeLine:Nat)<=(2 ^ 63 - 1) / 8:=by decide
  omega
 have hfit:¬ (!Builtin.List.listFitsIndex k)=true:=by
  rw[fitsIndex_both h1 h2]
  exact Bool.false_ne_true
 have hlong:¬ Builtin.List.listTooLong (its.toArray.size * k.toNat)=true:=by
  rw[xG hlen]
  exact Bool.false_ne_true
 have hnew:List.foldl (fun x1 x2=>x1++x2) #[] (List.replicate (if its.toArray.isEmpty=true then 0 else k.toNat) its.toArray)=(List.replicate k.toNat its).flatten.toArray:=by
  have f0:∀m:Nat,List.foldl (fun x1 x2=>x1++x2) #[] (List.replicate m its.toArray)=(List.replicate m its).flatten.toArray:=fun m=>by
   have:=foldl_rep its m []
   rw[List.nil_append] at this
   exact this
  rw[f0]
  cases its with
  | nil=>simp
  | cons a r'=>rw[if_neg (by simp)]
 refine wpAny_binaryOp_repeat_ref (T:="list") (U:="int") (by decide) ⟨_,e,rfl⟩ (fun s'=>typeIs_int s' k t) noFill_list_mul F.fills_int_mul F.slot_int_rmul repeat_list F.slot_int_index.lookup
  (call_meets F.slot_int_rmul (typeIs_int s k t) F.entry_int_rmul (F.args_int_rmul_2 _ _) (int___rmul___int_list k t l its.toArray n)
   ⟨e,rfl,⟨_,e,rfl⟩,call_meets F.slot_list_mul ⟨_,e,rfl⟩ F.entry_list_mul (F.args_list_mul_2 _ _) (AutoListH.list___mul___list_int_3 l its.toArray n k t hfit hcap hlong) ⟨e,?_⟩⟩)
 rw[hnew]
 exact⟨.ref _,_,I.lnew (t':=s.toks) (r.rep k.toNat) (by rw[len_rep,Nat.mul_comm];exact hz),rfl,q _ I.fresh⟩
end
section
variable {prog:Program}{w:World}{A:Around}{E:Value->Shared->Prop}{s:Shared}
end
section
variable {X:Cx}
end
end L2
namespace Att
open PySem PySem.W PySem.Calls PyProof.Rows
theorem ints_of_wellAll{P:Params}{h:Heap}:∀ (ns:List Int) (vs:List Value),WellAll P h vs (ns.map WData.int)->IntsAre vs ns:=by
 intro ns
 induction ns with
 | nil =>
  intro vs w
  rw[List.map_nil] at w
  cases w
  exact .nil
 | cons n ns ih =>
  intro vs w
  rw[zI] at w
  cases w with
  | cons a b =>
   cases a
   exact .cons _ _ (ih _ b)
theorem script_of{l:OpenLaw}{n:Nat}(hn:l.most=some n){P:Params}{h:Heap}{args:List WData}{vals:List Value}
  (hpre:l.row.toRowW.claim.pre args=true) (hwl:WellAll P h vals args) :
  ∃a vs ns,vals=[Value.ref a]/\args=[WData.list (ns.map WData.int)]/\h.get? a=some { cls:=.type "list",data:=.seq vs.toArray }/\IntsAre vs ns/\ns.length<=n:=by
 have hsh:WShape.hasAll [] args [.list .int]=true:=(pre_splitW hpre).1
 have hc:l.pre.holds [] { args:=args }=true:=(pre_splitW hpre).2
 obtain⟨d,r,rfl,h1,h2⟩:=hasAllW_cons hsh
 obtain rfl:=hasAllW_nil h2
 obtain⟨xs,rfl,h3⟩:=hasW_list h1
 obtain⟨ns,rfl⟩:=items_int h3
 have hlen:ns.length<=n:=by
  unfold OpenLaw.pre at hc
  have h4:(WTm.not (.lt (.lit (.int (n:Int))) (.len (.arg 0)))).holds [] { args:=[.list (ns.map .int)] }=true:=by
   have h4:=(holds_andW hc).1
   rw[hn] at h4
   exact h4
  have h5:=condW_of h4 (w_not (w_lt w_lit (w_len_list (w_arg rfl))))
  rw[zD] at h5
  refine Nat.le_of_not_lt fun q=>?_
  have q':(n:Int) < ((ns.length:Nat):Int):=by omega
  first
   | (rw[yB q'] at h5;exact absurd h5 (by decide))
   | (simp at h5;omega)
 cases hwl with
 | cons w1 w2 =>
  cases w2
  cases w1 with
  | list ho hall=>exact⟨_,_,ns,rfl,rfl,ho,ints_of_wellAll ns _ hall,hlen⟩
theorem post_true(l:OpenLaw)(args:List WData):l.row.toRowW.claim.post args (.bool true) args=true :=
 postW_of (r:=l.row.toRowW) (X:=(true == true))
  (show WShape.has [] (.bool true) .bool=true by first|rfl|decide|simp[WShape.has,WShape.arms,WShape.armsAll])
  (show (WTm.eq .res (.lit (.bool true))).value [] { args:=args,res:=some (.bool true),after:=args }=some (.bool (true == true)) from w_eq_bool (w_res rfl) w_lit) rfl
theorem attach_call{l:OpenLaw}{n:Nat}{q:Program}{loose:List Str}{XP:(Str->Option Value)->Heap->Prop}{YP:World->Heap->Prop}{d:DefRec}
  (hn:l.most=some n) (hdf:d.params.defaults=[])
  (call:∀ (w:World) (s₀ s₁:Shared) (mg mb:Str->Option Value) (fa:Addr) (o:Obj) (pm cd doc:Value) (a:Addr) (vs:List Value) (ns:List Int),
   Ground q loose [] XP w s₀ mg mb s₁.heap->YP w s₁.heap ->
   s₁.heap.get? fa=some o->o.data=.func (docDef d.name d.params d.body d.scope pm cd doc)->s₁.heap.CodeRec cd d.name->mg d.name=some (.ref fa) ->
   s₁.heap.get? a=some { cls:=.type "list",data:=.seq vs.toArray }->IntsAre vs ns->ns.length<=n->s₁.gens=#[] ->
   codeAny (model l.prog w) callerA (.call (.ref fa) ⟨[.ref a],[]⟩) (fun r s'=>r=.ok (.ret (.bool true))/\OldK s₁.heap s'.heap/\s'.os=s₁.os/\AllBare s'.gens) s₁) :
  WalkO q loose XP YP l.row.toRowW d [] (fun f vs=>PySem.call f vs):=by
 intro w s₀ s₁ mg mb G Y fa o pm cd doc dV kV ho hd hcd hD hmg hg args vals as hpre hlay hrd hwl hlo
 obtain rfl:dV=.none:=Dflts.none hD hdf
 obtain rfl:kV=.none:=Dflts.noKw hD
 obtain⟨a,vs,ns,rfl,rfl,hobj,hints,hlen⟩:=script_of hn hpre hwl
 refine enter_call (codeAny_mono (call w s₀ s₁ mg mb fa o pm cd doc a vs ns G Y ho (fd_plain hd) hcd hmg hobj hints hlen hg) fun r s' hq=>?_)
 obtain⟨rfl,h2,h3,h4⟩:=hq
 exact⟨.inl ⟨.bool true,.bool true,[],rfl,fun _=>rfl,.bool true,post_true l _,fun _=>⟨List.Pairwise.nil,fun _ hm=>(nomatch hm)⟩⟩,h2,h3,h4⟩
section
variable {prog:Program}{w:World}{A:Around}{E:Value->Shared->Prop}{s:Shared}{K:Frag}
end
end Att
namespace L2
open PySem PySem.Spec PyProof.Rows
theorem uM:∀ {vs:List Value}{ns:List Int},IntsAre vs ns->aM (ns.map V.int) vs
 | _,_,.nil=>.nil
 | _,_,.cons n t h=>.cons ⟨t,rfl⟩ (uM h)
noncomputable abbrev Mm:ER:=fun _ _ _ _ _ _=>False
noncomputable abbrev E0:XK:=fun _ _ _=>False
theorem K6{X:Cx}:AZ Mm X E0:=fun _ _ _ _ _ _ _ h=>h.elim
structure KG(K:W.Frag)(x qual:Str)(st:Stmt)(f:Addr)(fd:FuncData):Prop where
 ex:∃ (oc:Value) (od:Option Addr) (kV doc pm:Value) (an:Option Addr) (cdv ct:Value) (osl:Array (Option Value)),
  fd=W.fnOf x qual (iG st) (cL st) (aS st) .none kV doc pm an cdv ct/\K.lookup f=some ⟨oc,od,.func fd,osl⟩/\W.codeIn K cdv qual=true
 kp:W.keepIn K (.ref f)=true
section
variable {P:Program}{w:World}{K:W.Frag}{mg:Str->Option Value}{base:Heap}
theorem KG.binds{x qual:Str}{st:Stmt}{f:Addr}{fd:FuncData}{ps:List Str}(F:KG K x qual st f fd)
  (h:∀ (kV doc pm:Value) (an:Option Addr) (cdv ct:Value) (us:List Value),us.length=ps.length->bindArgs (W.fnOf x qual (iG st) (cL st) (aS st) .none kV doc pm an cdv ct) ⟨us,[]⟩=pure (ps.zip us)):Binds K fd ps []:=by
 obtain⟨oc,od,kV,doc,pm,an,cdv,ct,osl,rfl,lk,hcd⟩:=F.ex
 exact .all (h kV doc pm an cdv ct)
theorem wC{x qual:Str}{st:Stmt}{f:Addr}{oc:Value}{od an:Option Addr}{osl:Array (Option Value)}{kV doc pm cdv ct:Value}(l:K.lookup f=some ⟨oc,od,.func (W.fnOf x qual (iG st) (cL st) (aS st) .none kV doc pm an cdv ct),osl⟩)
  (c:W.codeIn K cdv qual=true) (k:W.keepIn K (.ref f)=true):KG K x qual st f (W.fnOf x qual (iG st) (cL st) (aS st) .none kV doc pm an cdv ct):=⟨⟨oc,od,kV,doc,pm,an,cdv,ct,osl,rfl,l,c⟩,k⟩
end
section
variable {X:Cx}
end
theorem yd{A B:Prop}(h:B):if false=true then A else B:=by
 rw[if_neg Bool.false_ne_true]
 exact h
theorem zq{A B:Prop}(h:A):if true=true then A else B:=by
 rw[if_pos rfl]
 exact h
def bo(H H':Hp):Prop:=∀b o,H b=some o->H' b=some o
theorem bo.refl(H:Hp):bo H H:=fun _ _ h=>h
theorem bo.trans{H H1 H2:Hp}(a:bo H H1)(b:bo H1 H2):bo H H2:=fun c o h=>b c o (a c o h)
theorem bo.free{H H':Hp}(e:bo H H'){l:Addr}(h:H' l=Option.none):H l=Option.none:=by
 cases q:H l with
 | none=>rfl
 | some o =>
  rw[e l o q] at h
  cases h
theorem bo.seq{K:W.Frag}{H H':Hp}{a:Addr}{xs:List V}(e:bo H H')(h:i8 K H a xs):i8 K H' a xs:=by
 rcases h with (h|⟨o,h⟩)|h
 ·exact .inl (.inl (e _ _ h))
 ·exact .inl (.inr ⟨o,e _ _ h⟩)
 ·exact .inr h
theorem cy:∀ (names:List (Str×NameKind)) (n:Nat) (acc:List (Str×Addr)),cellsFrom n names acc=cellsFrom n names []++acc
 | [],_,_=>rfl
 | (name,kind)::r,n,acc=>by
  unfold cellsFrom
  split
  ·rw[cy r (n+1) ((name,n)::acc),cy r (n+1) [(name,n)]]
   simp
  ·exact cy r n acc
theorem kA{α:Type}{x:Str}{c:α}:∀ {l m:List (Str×α)},(l++m).lookup x=some c->l.lookup x=some c\/(l.lookup x=none/\m.lookup x=some c)
 | [],_,h=>.inr ⟨rfl,h⟩
 | (k,v)::r,m,h=>by
  have ih:=@kA α x c r m
  rw[List.cons_append,yC] at h
  rw[yC]
  cases e:x == k with
  | true=>rw[e] at h;exact .inl h
  | false=>rw[e] at h;exact ih h
theorem kF{α:Type}{x:Str}{c:α}:∀ {l m:List (Str×α)},l.lookup x=some c->(l++m).lookup x=some c
 | [],_,h=>by cases h
 | (k,v)::r,m,h=>by
  have ih:=@kF α x c r m
  rw[yC] at h
  rw[List.cons_append,yC]
  cases e:x == k with
  | true=>rw[e] at h;exact h
  | false=>rw[e] at h;exact ih h
theorem ju{α:Type}{x:Str}:∀ {l m:List (Str×α)},l.lookup x=none->(l++m).lookup x=m.lookup x
 | [],_,_=>rfl
 | (k,v)::r,m,h=>by
  have ih:=@ju α x r m
  rw[yC] at h
  rw[List.cons_append,yC]
  cases e:x == k with
  | true=>rw[e] at h;cases h
  | false=>rw[e] at h;exact ih h
theorem gX:∀ (names:List (Str×NameKind)) (n:Nat) (x:Str) (c:Addr),(x,c)∈cellsFrom n names []->(x,NameKind.cell)∈names
 | [],_,_,_,h=>by cases h
 | (name,kind)::r,n,x,c,h=>by
  unfold cellsFrom at h
  split at h
  ·rename_i hk
   rw[cy] at h
   rcases List.mem_append.mp h with h|h
   ·exact zC _ (gX r _ x c h)
   ·have:(x,c)=(name,n):=by simpa using h
    cases this
    have:kind=.cell:=by simpa using hk
    subst this
    exact zE
  ·exact zC _ (gX r n x c h)
noncomputable def e8(env:Env):List (Str×NameKind)->List (Str×Addr)->List (Str×Addr)
 | [],acc=>acc
 | (n,k)::r,acc=>if k == .free then e8 env r ((n,(env.cells.lookup n).getD 0)::acc) else e8 env r acc
theorem mH(env:Env):∀ (names:List (Str×NameKind)) (acc:List (Str×Addr)),(∀x∈names,x.2=.free->∃c,env.cells.lookup x.1=some c) ->
  (forIn names acc (fun (p:Str×NameKind) (cs:List (Str×Addr))=>(if p.2 == .free then (do let a <- cellOf env p.1;pure (.yield ((p.1,a)::cs))) else pure (.yield cs):Sem (ForInStep (List (Str×Addr))))))=pure (e8 env names acc)
 | [],acc,_=>rfl
 | (n,k)::r,acc,h=>by
  rw[List.forIn_cons]
  have hr:=fun x hx=>h x (zC _ hx)
  unfold e8
  by_cases hk:k=.free
  ·obtain⟨c,hc⟩:=h (n,k) zE hk
   subst hk
   have e1:cellOf env n=pure c:=by
    have hc':env.cells.lookup n=some c:=hc
    unfold cellOf;rw[hc']
   have hc':env.cells.lookup n=some c:=hc
   simp only[beq_self_eq_true,if_true,e1,pure_bind,hc',Option.getD_some]
   exact mH env r _ hr
  ·have hb:(k == NameKind.free)=false:=by simpa using hk
   simp only[hb,Bool.false_eq_true,if_false,pure_bind]
   exact mH env r _ hr
theorem mR{env:Env}{scope:Scope}(h:∀x∈scope.names,x.2=.free->∃c,env.cells.lookup x.1=some c):closureFor scope env=pure (e8 env scope.names []):=by
 have:=mH env scope.names [] h
 unfold closureFor
 exact (bind_pure _).trans this
theorem lU{env:Env}:∀ {names:List (Str×NameKind)}{acc:List (Str×Addr)},(∀x∈names,x.2=.free->∃c,env.cells.lookup x.1=some c)->(∀x c,(x,c)∈acc->env.cells.lookup x=some c) ->
  ∀x c,(x,c)∈e8 env names acc->env.cells.lookup x=some c
 | [],acc,_,ha,x,c,hm=>ha x c hm
 | (n,k)::r,acc,h,ha,x,c,hm=>by
  unfold e8 at hm
  have hr:=fun x hx=>h x (zC _ hx)
  split at hm
  ·rename_i hk
   have hk':k=.free:=by simpa using hk
   obtain⟨c',hc⟩:=h (n,k) zE hk'
   have hc:env.cells.lookup n=some c':=hc
   refine lU hr (fun y d hy=>?_) x c hm
   rcases zR.mp hy with e|hy
   ·cases e;rw[hc];rfl
   ·exact ha y d hy
  ·exact lU hr ha x c hm
theorem ij{env:Env}:∀ {names:List (Str×NameKind)}{acc:List (Str×Addr)}{x:Str},(names.lookup x=some .free\/∃c,acc.lookup x=some c)->∃c,(e8 env names acc).lookup x=some c
 | [],acc,x,h=>by
  rcases h with h|h
  ·cases h
  ·exact h
 | (n,k)::r,acc,x,h=>by
  unfold e8
  split
  ·rename_i hk
   refine ij ?_
   rcases h with h|⟨c,h⟩
   ·rw[yC] at h
    cases e:x == n with
    | true=>exact .inr ⟨_,by rw[yC,e]⟩
    | false=>rw[e] at h;exact .inl h
   ·refine .inr ?_
    rw[yC]
    cases e:x == n with
    | true=>exact⟨_,rfl⟩
    | false=>exact⟨c,h⟩
  ·rename_i hk
   refine ij ?_
   rcases h with h|h
   ·rw[yC] at h
    cases e:x == n with
    | true =>
     rw[e] at h
     cases h
     exact absurd rfl hk
    | false=>rw[e] at h;exact .inl h
   ·exact .inr h
theorem m8{env:Env}:∀ {names:List (Str×NameKind)}{x:Str}{k:NameKind},names.lookup x=some k ->
  (names.map fun (n,k)=>if (k == NameKind.free&&env.scope.kind == .function&&env.kindOf n == some .cell) then (n,NameKind.cell) else (n,k)).lookup x=some (if (k == NameKind.free&&env.scope.kind == .function&&env.kindOf x == some .cell) then NameKind.cell else k)
 | [],_,_,h=>by cases h
 | (n,k)::r,x,k',h=>by
  have ih:=@m8 env r x k'
  rw[zI]
  dsimp only
  cases hx:x == n with
  | true =>
   have e:x=n:=by simpa using hx
   subst e
   rw[yC,hx] at h
   cases h
   split<;>simp[yC, *]
  | false =>
   rw[yC,hx] at h
   have ih:=ih h
   split
   ·rw[yC,hx];exact ih
   ·rw[yC,hx];exact ih
theorem pF{env:Env}:∀ {names:List (Str×NameKind)}{x:Str},names.lookup x=none ->
  (names.map fun (n,k)=>if (k == NameKind.free&&env.scope.kind == .function&&env.kindOf n == some .cell) then (n,NameKind.cell) else (n,k)).lookup x=none
 | [],_,h=>rfl
 | (n,k)::r,x,h=>by
  have ih:=@pF env r x
  rw[zI]
  dsimp only
  cases hx:x == n with
  | true=>rw[yC,hx] at h;cases h
  | false =>
   rw[yC,hx] at h
   split
   ·rw[yC,hx];exact ih h
   ·rw[yC,hx];exact ih h
noncomputable def fX(X:Cx)(scope:Scope)(C:Addr):Env :=
 { scope:=relabel scope X.env,locals:=C,globals:=X.env.globals,cells:=cellsFrom (C+1) scope.names (e8 X.env scope.names []),qual:=X.env.qual,func:=none,code:=X.env.code,frame:=X.env.frame,builtins:=X.env.builtins }
noncomputable def bj(X:Cx)(scope:Scope)(N:List Str)(fp:List Addr)(s:Shared)(H:Hp):Cx :=
 { X with N:=N,s₀:=s,H₀:=H,env:=fX X scope s.heap.objs.size,outer:=X.stack,ex:=fp,fn:=fun x=>decide (scope.names.lookup x=some .cell),pn:=[],xe:=fun _ _=>False }
theorem Bh{M:Model}{A:Around}{E:Value->Shared->Prop}{s:Shared}{scope:Scope}{globals:Addr}{cl:List (Str×Addr)}{qual:Str}{env:Env}{Q:Env->Shared->Prop}
  (hQ:∀h',h'.Ns s.heap.objs.size (fun _=>none)->(∀b o,s.heap.get? b=some o->h'.get? b=some o)->CellsOk h' (s.heap.objs.size+1) (cellsFrom (s.heap.objs.size+1) scope.names []) ->
   Q { scope:=scope,locals:=s.heap.objs.size,globals:=globals,cells:=cellsFrom (s.heap.objs.size+1) scope.names cl,qual:=qual,func:=none,code:=env.code,frame:=env.frame,builtins:=env.builtins } { s with heap:=h' }) :
  wpAny M A (newFunctionEnv scope globals cl [] qual none .none (some env)) Q E s:=by
 simp only[newFunctionEnv,Option.isSome_some,if_true]
 refine zW (wpAny_alloc ?_)
 refine zW (wpAny_layCells _ (fun name kind cells=>by cases hkc:kind == NameKind.cell<;>simp[hkc]) _ _ _ _ ?_)
 have ok:=cellsFrom_ok scope.names (s.heap.push { cls:=.type "dict",data:=.dict #[] }) (s.heap.objs.size+1) [] ⟨fun _ _ hm=>(nomatch hm),List.Pairwise.nil⟩ (by rw[Heap.size_push];exact Nat.le_refl _)
 rw[Heap.size_push] at ok
 rw[show ({ s with heap:=s.heap.push { cls:=.type "dict",data:=.dict #[] } }:Shared).heap.objs.size=s.heap.objs.size+1 from Heap.size_push ..]
 rw[List.forIn_nil]
 refine zW (zX (zX ?_))
 exact hQ _ ((Heap.Ns.new s.heap (.type "dict")).keeps (pushCells_keeps _ _)) (fun b o e=>pushCells_keeps _ _ b o (zV _ e)) ok
section
variable {X:Cx}{pins:List (Addr×Obj)}{σ σ':St}{H:Hp}{s:Shared}{fp:List Addr}{scope:Scope}{N:List Str}{h4:Heap}
theorem lH(ok:X.Ok)(hfree:∀x∈scope.names,x.2=.free->X.env.kindOf x.1=some .cell\/X.env.kindOf x.1=some .free):∀x∈scope.names,x.2=.free->∃c,X.env.cells.lookup x.1=some c :=
 fun x hx hk=>ok.has x.1 (hfree x hx hk)
theorem ox{C:Addr}{x:Str}{k:NameKind}(h:scope.names.lookup x=some k):(fX X scope C).kindOf x=some k\/(k=.free/\(fX X scope C).kindOf x=some .cell):=by
 have q:=m8 (env:=X.env) h
 have q':(fX X scope C).kindOf x=some (if (k == NameKind.free&&X.env.scope.kind == .function&&X.env.kindOf x == some .cell) then NameKind.cell else k):=q
 rw[q']
 split
 ·rename_i hc
  have:k=.free:=by
   simp only[zF,beq_iff_eq] at hc
   exact hc.1.1
  exact .inr ⟨this,rfl⟩
 ·exact .inl rfl
theorem mi{C:Addr}{x:Str}{k:NameKind}(h:(fX X scope C).kindOf x=some k):scope.names.lookup x=some k\/(k=.cell/\scope.names.lookup x=some .free):=by
 cases e:scope.names.lookup x with
 | none =>
  have q:(fX X scope C).kindOf x=none:=pF (env:=X.env) e
  rw[q] at h;cases h
 | some k' =>
  rcases ox (X:=X) (C:=C) e with q|⟨q,q'⟩
  ·rw[q] at h;cases h;exact .inl rfl
  ·rw[q'] at h;cases h;subst q;exact .inr ⟨rfl,rfl⟩
theorem Gc(I:Inv X pins σ H s)(hf:∀b∈fp,cW X pins H b)(hfl:∀b∈fp,b < s.heap.objs.size)(hk:scope.kind=.function)
  (hfree:∀x∈scope.names,x.2=.free->X.env.kindOf x.1=some .cell\/X.env.kindOf x.1=some .free)
  (hns:h4.Ns s.heap.objs.size (fun _=>none)) (hkeep:∀b o,s.heap.get? b=some o->h4.get? b=some o) (hco:CellsOk h4 (s.heap.objs.size+1) (cellsFrom (s.heap.objs.size+1) scope.names []))
  (hdup:∀ {x:Str},(x,NameKind.cell)∈scope.names->(x,NameKind.free)∈scope.names->False) (hcap:∀ (i:Nat) (x:Str) (v:V),N[i]?=some x->σ'[i]?=some (some v)->scope.names.lookup x=some .free/\∃j:Nat,X.N[j]?=some x/\σ[j]?=some (some v)) (hlen:σ'.length=N.length) (t':Nat) :
  Inv (bj X scope N fp s H) [] σ' H { s with heap:=h4,toks:=t' }:=by
 have hcl:=lH I.ok hfree
 have clx:∀x c,(e8 X.env scope.names []).lookup x=some c->X.env.cells.lookup x=some c:=fun x c e=>lU hcl (fun _ _ z=>by cases z) x c (mem_of_lookup e)
 have look:∀x c,(fX X scope s.heap.objs.size).cells.lookup x=some c->(x,c)∈cellsFrom (s.heap.objs.size+1) scope.names []\/X.env.cells.lookup x=some c:=fun x c e=>by
  have e:(cellsFrom (s.heap.objs.size+1) scope.names (e8 X.env scope.names [])).lookup x=some c:=e
  rw[cy] at e
  rcases kA e with q|⟨_,q⟩
  ·exact .inl (mem_of_lookup q)
  ·exact .inr (clx x c q)
 have old:∀x c,X.env.cells.lookup x=some c->c < s.heap.objs.size:=fun x c e=>let ⟨_,q⟩:=I.cell x c e;q.lt
 have new:∀x c,(x,c)∈cellsFrom (s.heap.objs.size+1) scope.names []->s.heap.objs.size < c:=fun x c e=>(hco.empty x c e).2
 refine⟨⟨I.ok.mod,?_,I.ok.glob,I.ok.blt,Nat.le_refl _,?_,?_,?_,I.ok.hd,I.ok.frames,.inl rfl,?_,I.bs,yE I.ok.bsz I.sz,?_,?_,I.stack,I.stkFree⟩,rfl,I.bare,Un.kept hkeep,⟨_,hns,?_⟩,?_,I.hok.fresh (Nat.le_refl _),?_,
  fun p hp=>absurd (show p∈([]:List (Addr×Obj)) from hp) (by simp),I.hok.kept hkeep,hlen⟩
 ·show (relabel scope X.env).kind=_
  exact hk
 ·intro x y c e1 e2
  rcases look x c e1 with a|a<;>rcases look y c e2 with b|b
  ·exact name_of_addr hco.apart a b
  ·exact absurd (Nat.lt_trans (new x c a) (old y c b)) (Nat.lt_irrefl _)
  ·exact absurd (Nat.lt_trans (new y c b) (old x c a)) (Nat.lt_irrefl _)
  ·exact I.ok.inj x y c a b
 ·intro x hx
  show ∃c,(cellsFrom (s.heap.objs.size+1) scope.names (e8 X.env scope.names [])).lookup x=some c
  refine Option.isSome_iff_exists.mp (W.cellsFrom_some _ _ _ ?_)
  rcases hx with hx|hx
  ·rcases mi hx with q|⟨_,q⟩
   ·exact .inl q
   ·exact .inr (Option.isSome_iff_exists.mpr (ij (.inl q)))
  ·rcases mi hx with q|⟨q,_⟩
   ·exact .inr (Option.isSome_iff_exists.mpr (ij (.inl q)))
   ·cases q
 ·intro x c hfn e
  have hfn:scope.names.lookup x=some .cell:=of_decide_eq_true hfn
  have e:(cellsFrom (s.heap.objs.size+1) scope.names (e8 X.env scope.names [])).lookup x=some c:=e
  obtain⟨c',hc'⟩:=qB (n:=s.heap.objs.size+1) hfn
  rw[cy,kF hc'] at e
  cases e
  exact Nat.le_of_lt (new x c (mem_of_lookup hc'))
 ·intro b hb
  refine⟨Nat.ne_of_lt (hfl b hb),fun x c e z=>?_⟩
  rcases look x c e with a|a
  ·exact absurd (Nat.lt_trans (new x c a) (by rw[z];exact hfl b hb)) (Nat.lt_irrefl _)
  ·exact (hf b hb).2.2.2.2.1 x c a z
 ·intro b o e hb
  obtain⟨f0,f1,f2,f3,f4,f5⟩:=hf b hb
  rcases f3 with z|z
  ·exact I.ok.noex b o e z
  ·exact absurd (zP (zZ (I.ok.bs b o e).1) z) (Nat.lt_irrefl _)
 ·intro b hb hz
  obtain⟨f0,f1,f2,f3,f4,f5⟩:=hf b hb
  rcases zR.mp (I.stkSub b hz) with z|z
  ·exact f1 z
  ·exact f2 z
 ·intro i x v e1 e2 e3
  obtain⟨hfr,j,hj,hv⟩:=hcap i x v e1 e2
  have hm:(x,NameKind.free)∈scope.names:=mem_of_lookup hfr
  obtain⟨m,hn,hl⟩:=I.loc
  have kx:=hfree _ hm rfl
  obtain⟨u,ru,lk⟩:=hl j x v hj hv (kx.elim (fun k=>.inr (.inl k)) fun k=>.inr (.inr k))
  refine⟨u,ru,.inr ⟨?_,?_⟩⟩
  ·rcases ox (X:=X) (C:=s.heap.objs.size) hfr with q|⟨_,q⟩
   ·exact .inr q
   ·exact .inl q
  ·rcases lk with ⟨k,_⟩|⟨_,c,ec,ic⟩
   ·have k:X.env.kindOf x=some .local:=k
    rcases kx with k'|k'<;>· rw[k] at k';cases k'
   ·obtain⟨c',hc'⟩:=ij (env:=X.env) (acc:=[]) (.inl hfr)
    have e':=clx x c' hc'
    rw[ec] at e'
    cases e'
    refine⟨c,?_,ic.keeps hkeep⟩
    show (cellsFrom (s.heap.objs.size+1) scope.names (e8 X.env scope.names [])).lookup x=some c
    rw[cy]
    cases eo:(cellsFrom (s.heap.objs.size+1) scope.names []).lookup x with
    | none=>rw[ju eo];exact hc'
    | some d =>
     have hcm:=gX _ _ _ _ (mem_of_lookup eo)
     exact (hdup hcm hm).elim
 ·intro x c e
  rcases look x c e with a|a
  ·exact⟨_,(hco.empty x c a).1⟩
  ·obtain⟨v,q⟩:=I.cell x c a
   exact⟨v,q.keeps hkeep⟩
 ·intro x c e
  rcases look x c e with a|a
  ·exact I.hok.fresh (Nat.le_of_lt (new x c a))
  ·exact I.freeC x c a
end
noncomputable abbrev yp(ifs:List Expr)(env:Env):Sem Bool:=forIn ifs true fun c r=>if r=true then do let ok <- isTrue c env (eval c env);pure (ForInStep.yield ok) else pure (ForInStep.yield r)
noncomputable def NI(X:Cx)(ifs:List Expr)(t:TT):Prop :=
 ∀ (pins:List (Addr×Obj)) (s:Shared) (σ:St) (H:Hp) (Q:Bool->Hp->Prop),Inv X pins σ H s->t σ H Q->wpAny (model X.prog X.w) X.A (yp ifs X.env) (TP X pins σ Q) X.xe s
theorem Iq{X:Cx}:NI X [] (fun _ H Q=>Q true H):=fun _ _ _ H _ I h=>wpAny_tests_nil ⟨H,I,h⟩
theorem Jh{X:Cx}{c:Expr}{t:TT}(h:PT X c t):NI X [c] t:=fun pins s σ H Q I q=>wpAny_tests_one (h pins s σ H Q I q)
theorem xh{prog:Program}{w:World}{A:Around}{R:Result->Shared->Prop}{s:Shared}{elt target iter:Expr}{ifs:List Expr}{scope:Scope}{pos:Pos}{it acc:Value}{env:Env}(I:Nat->Shared->Prop)
  (turn:∀n s,I n s->wpAny (model prog w) A (pyNext it) (fun r s₁=>match r with
   | none=>R (.ok .next) s₁
   | some v=>wpAny (model prog w) A (letOwnedTupleGo target it v) (fun _ s₁'=>wpAny (model prog w) A (assign target env v) (fun _ s₂ =>
     wpAny (model prog w) A (yp ifs env) (fun ok s₃ =>
      if ok=true then wpAny (model prog w) A (eval elt env) (fun x s₄ =>
       wpAny (model prog w) A (call (.builtin "list.append") [acc,x]) (fun _ s₅=>∃m,m < n/\I m s₅) (fun _ _=>False) s₄) (fun _ _=>False) s₃
      else ∃m,m < n/\I m s₃) (fun _ _=>False) s₂) (fun _ _=>False) s₁') (fun _ _=>False) s₁) (fun _ _=>False) s)
  (n:Nat) (h:I n s) :
  codeAny (model prog w) A (.compLoop (.ListComp elt [⟨target,iter,ifs,0⟩] scope pos) 0 it acc env) R s:=by
 refine codeAny_loop rfl I (fun n s hI=>?_) n h
 show wpAny _ A ((compTurn (.ListComp elt [⟨target,iter,ifs,0⟩] scope pos) 0 it acc env).onRaise (fun x=>do noteFrame x env;theTreesLotGoes x)) _ _ s
 refine wpAny_noted ?_
 rw[compTurn_list]
 refine zW (wpAny_standAt (zW (wpAny_mono (turn n s hI) (fun r s₁ h₁=>?_) fun _ _ h'=>h'.elim)))
 cases r with
 | none=>exact zX h₁
 | some v =>
  refine zW (wpAny_mono h₁ (fun _ s₁' h₁'=>?_) fun _ _ h'=>h'.elim)
  refine zW (wpAny_mono h₁' (fun _ s₂ h₂=>zW (wpAny_mono h₂ (fun ok s₃ h₃=>?_) fun _ _ h'=>h'.elim)) fun _ _ h'=>h'.elim)
  cases ok with
  | false=>exact zX ⟨rfl,h₃⟩
  | true =>
   exact zW (zW (wpAny_mono h₃ (fun x s₄ h₄=>zW (wpAny_mono h₄ (fun _ s₅ h₅=>zX (zX ⟨rfl,h₅⟩)) fun _ _ h'=>h'.elim)) fun _ _ h'=>h'.elim))
noncomputable def C2(X:Cx)(pins:List (Addr×Obj))(σ:St)(Q:VK)(acc:Value)(C:Addr)(r:Result)(s5:Shared):Prop :=
 ∃ (D:Addr) (H5:Hp) (m:Str->Option Value),acc=.ref D/\r=.ok .next/\Inv X pins σ H5 s5/\s5.heap.Ns C m/\cW X pins H5 C/\Q (.ref D) H5
noncomputable def HW(J:It)(g:TG)(tt:TT)(te:TE)(D:Addr)(σ0:St)(H0:Hp)(Q:VK):Prop :=
 ∃W:Nat->Nat->St->Hp->Prop,(∃m,W 0 m σ0 H0)/\∀i m σ H,W i m σ H ->
  (J.stop i H/\Q (.ref D) H)\/(J.go i H/\∀x H',J.yld i H x H'->g x σ H' fun σ2 H2=>tt σ2 H2 fun b H3 =>
   if b=true then te σ2 H3 fun v H4=>∃ys,H4 D=some (.lst ys)/\ys.length < sizeLine/\∃m',m' < m/\W (i+1) m' σ2 (upd H4 D (.lst (ys++[v])))
   else ∃m',m' < m/\W (i+1) m' σ2 H3)
section
variable {X:Cx}{pins:List (Addr×Obj)}{σ σ':St}{H:Hp}{s:Shared}{scope:Scope}{N:List Str}
 {tg iter elt:Expr}{ifs:List Expr}{pos:Pos}{g:TG}{tt:TT}{te:TE}
theorem u4{J:It}{fp:List Addr}{it:Addr}{tn:Nat->Heap->Prop}{Q:VK}(hc:X.calm=true)(I:Inv X pins σ H s)(T:Turn X.prog X.w X.K tg J fp it tn)(st:tn 0 s.heap)(hf:∀b∈fp,cW X pins H b)(hk:scope.kind=.function)
  (hfree:∀x∈scope.names,x.2=.free->X.env.kindOf x.1=some .cell\/X.env.kindOf x.1=some .free) (hdup:∀ {x:Str},(x,NameKind.cell)∈scope.names->(x,NameKind.free)∈scope.names->False)
  (hcap:∀ (i:Nat) (x:Str) (v:V),N[i]?=some x->σ'[i]?=some (some v)->scope.names.lookup x=some .free/\∃j:Nat,X.N[j]?=some x/\σ[j]?=some (some v)) (hlen:σ'.length=N.length)
  (hY:∀fp s H,PG (bj X scope N fp s H) tg g/\NI (bj X scope N fp s H) ifs tt/\PE (bj X scope N fp s H) elt te)
  (hrd:∀D,H D=none->HW J g tt te D σ' (upd H D (.lst [])) Q) {E:Value->Shared->Prop} :
  wpAny (model X.prog X.w) X.A (newList []) (fun acc s₃=>wpAny (model X.prog X.w) X.A (newFunctionEnv scope X.env.globals (e8 X.env scope.names []) [] X.env.qual none .none (some X.env)) (fun cenv s₄ =>
   codeAny (model X.prog X.w) X.A (.compStart (.ListComp elt [⟨tg,iter,ifs,0⟩] scope pos) 0 (.ref it) acc { cenv with scope:=relabel scope X.env }) (C2 X pins σ Q acc cenv.locals) s₄) E s₃) E s:=by
 refine wpAny_newObj_type ?_
 have hfl:∀b∈fp,b < s.heap.objs.size:=fun b hb=>let ⟨o,e,_⟩:=T.obj _ _ st b hb;zZ e
 have I3:=I.lnew (ys:=[]) (its:=[]) (t':=s.toks) .nil (Nat.zero_le _)
 have hD:H s.heap.objs.size=none:=I.fresh
 obtain⟨W,⟨m0,w0⟩,turn⟩:=hrd _ hD
 generalize e3:({ s with heap:=s.heap.push { cls:=.type "list",data:=.seq ([]:List Value).toArray },toks:=s.toks }:Shared)=s3 at I3
 have e3h:s3.heap=s.heap.push { cls:=.type "list",data:=.seq ([]:List Value).toArray }:=by rw[<- e3]
 generalize hH3:upd H s.heap.objs.size (.lst [])=H3 at I3 w0 turn
 have hlt:s.heap.objs.size < s3.heap.objs.size:=by rw[e3h,Heap.size_push];exact Nat.lt_succ_self _
 have hk3:∀b o,s.heap.get? b=some o->s3.heap.get? b=some o:=fun b o e=>by rw[e3h];exact zV _ e
 generalize s.heap.objs.size=D at *
 have f3:∀b∈fp,cW X pins H3 b:=fun b hb=>by
  obtain⟨f0,f⟩:=hf b hb
  refine⟨?_,f⟩
  rw[<- hH3,aL (Nat.ne_of_lt (hfl b hb))]
  exact f0
 have st3:tn 0 s3.heap:=T.keep _ _ _ st fun b _ o e=>hk3 b o e
 refine Bh fun h4 hns hkp hco=>?_
 dsimp only
 have I4:=Gc (N:=N) (σ':=σ') (fp:=fp) I3 f3 (fun b hb=>Nat.lt_trans (hfl b hb) hlt) hk hfree hns hkp hco hdup hcap hlen s3.toks
 have fC:∀H',H' s3.heap.objs.size=none->cW X pins H' s3.heap.objs.size:=fun H' hn=>I3.fpOk (Nat.le_refl _) hn
 obtain⟨hg,htt,hte⟩:=hY fp s3 H3
 have efp:∀b∈fp,∀H':Hp,H' b=none->cW (bj X scope N fp s3 H3) [] H' b:=fun b hb H' hn=>by
  refine⟨hn,(I4.ok.exf b hb).1,I4.ok.exfs b hb,.inl hb,(I4.ok.exf b hb).2,fun p hp=>?_⟩
  cases hp
 have loop:codeAny (model X.prog X.w) X.A (.compLoop (.ListComp elt [⟨tg,iter,ifs,0⟩] scope pos) 0 (.ref it) (.ref D) (fX X scope s3.heap.objs.size)) (C2 X pins σ Q (.ref D) s3.heap.objs.size) { s3 with heap:=h4 }:=by
  refine xh (fun n s'=>∃i σ' H',Inv (bj X scope N fp s3 H3) [] σ' H' s'/\tn i s'.heap/\(∀b∈fp,H' b=none)/\W i n σ' H') ?_ m0
   ⟨0,σ',H3,I4,T.keep _ _ _ st3 fun b _ o e=>hkp b o e,fun b hb=>(f3 b hb).1,w0⟩
  rintro n s5 ⟨i,σ5,H5,I5,st5,fr5,w5⟩
  rcases turn i n σ5 H5 w5 with ⟨stop,q⟩|⟨go,step⟩
  ·refine cK (T.done (bj X scope N fp s3 H3) rfl rfl rfl hc i [] s5 σ5 H5 _ I5 (fun b hb=>efp b hb H5 (fr5 b hb)) st5 stop) fun r s6 ⟨hr,I6⟩=>?_
   subst hr
   obtain⟨m,hn6,_⟩:=I6.loc
   refine⟨D,H5,m,rfl,rfl,I3.call' I6.os I6.base I6.hok I6.bare (fun b hb=>?_),hn6,fC H5 I6.free,q⟩
   obtain⟨f0,f1,f2,f4,f5,f6⟩:=f3 b hb
   exact⟨f4,f1,f5,f6⟩
  ·refine cK (T.item (bj X scope N fp s3 H3) rfl rfl rfl hc i [] s5 σ5 H5 _ I5 (fun b hb=>efp b hb H5 (fr5 b hb)) st5 go) fun r s6 ⟨u,hr,h6⟩=>?_
   subst hr
   refine cK h6 fun _ s7 ⟨x,H7,I7,r7,y7,st7,fr7⟩=>?_
   have I7':=I7.pinned (fun b hb=>efp b hb H7 (fr7 b hb)) (T.obj _ _ st7)
   have again:∀ {pl:List (Addr×Obj)}{σ9:St}{H9:Hp}{s9:Shared}{n':Nat},Inv (bj X scope N fp s3 H3) ([]++oe fp s7.heap) σ9 H9 s9->W (i+1) n' σ9 H9->∃i σ' H',Inv (bj X scope N fp s3 H3) [] σ' H' s9/\tn i s9.heap/\(∀b∈fp,H' b=none)/\W i n' σ' H':=fun {pl σ9 H9 s9 n'} I9 w9=>by
    refine⟨i+1,σ9,H9,I9.unpinned,T.keep _ _ _ st7 fun b hb o e=>(I9.pin (b,o) (yF _ (yF _ (ej hb e)))).1,fun b hb=>?_,w9⟩
    obtain⟨o,e,d⟩:=T.obj _ _ st7 b hb
    exact (I9.pin (b,o) (yF _ (yF _ (ej hb e)))).2.1
   refine cK (hg _ s7 σ5 H7 x u _ I7' r7 (step x H7 y7)) fun _ s8 ⟨σ8,H8,I8,q8⟩=>?_
   refine cK (htt _ s8 σ8 H8 _ I8 q8) fun ok s9 ⟨H9,I9,q9⟩=>?_
   cases ok with
   | false =>
    rw[if_neg (by decide)] at q9
    rw[if_neg (by decide)]
    obtain⟨m',hm,w9⟩:=q9
    exact⟨m',hm,again (pl:=[]) I9 w9⟩
   | true =>
    rw[if_pos rfl] at q9
    rw[if_pos rfl]
    refine cK (hte _ s9 σ8 H9 _ I9 q9) fun y s10 ⟨v,H10,I10,r10,ys,hD10,hz,m',hm,w10⟩=>?_
    refine cK (uv (X:=bj X scope N fp s3 H3) _ s10 σ8 H10 (.ref D) [v] (.ref D) [y] (fun _ H'=>W (i+1) m' σ8 H') I10 rfl (.cons r10 .nil) ⟨D,ys,v,rfl,rfl,hD10,hz,w10⟩) fun _ s11 ⟨_,H11,I11,_,w11⟩=>?_
    exact⟨m',hm,again (pl:=[]) I11 w11⟩
 exact codeAny_compStart_list loop (T.self _ 0 _ _ _ (T.keep _ _ _ st3 fun b _ o e=>hkp b o e) loop)
end
def Fh(wi:TI)(g:TG)(tt:TT)(te:TE)(caps:St->St):TE:=fun σ H Q=>wi σ H fun J H1=>∀D,H1 D=none->HW J g tt te D (caps σ) (upd H1 D (.lst [])) Q
structure jR(X:Cx)(scope:Scope)(N:List Str)(caps:St->St):Prop where
 kind:scope.kind=.function
 free:∀x∈scope.names,x.2=.free->X.env.kindOf x.1=some .cell\/X.env.kindOf x.1=some .free
 dup:∀ {x:Str},(x,NameKind.cell)∈scope.names->(x,NameKind.free)∈scope.names->False
 loc:∀x∈scope.names,x.2=.local -> scope.names.lookup x.1=some .local
 cap:∀ (σ:St) (i:Nat) (x:Str) (v:V),N[i]?=some x->(caps σ)[i]?=some (some v)->scope.names.lookup x=some .free/\∃j:Nat,X.N[j]?=some x/\σ[j]?=some (some v)
 len:∀σ:St,(caps σ).length=N.length
section
variable {X:Cx}{scope:Scope}{N:List Str}{caps:St->St}{tg iter elt:Expr}{ifs:List Expr}{pos:Pos}{wi:TI}{g:TG}{tt:TT}{te:TE}
theorem JV(hc:X.calm=true)(S:jR X scope N caps)(hi:PI X tg iter wi)
  (hY:∀fp s H,PG (bj X scope N fp s H) tg g/\NI (bj X scope N fp s H) ifs tt/\PE (bj X scope N fp s H) elt te)
  (hs:∀x,foldedSetIterable iter X.env x=pure x:=by intro _;rfl):PE X (.ListComp elt [⟨tg,iter,ifs,0⟩] scope pos) (Fh wi g tt te caps):=by
 intro pins s σ H Q I h
 rw[eval_ListComp]
 refine wpAny_comprehension_free (use:=none) rfl hs (mR (lH I.ok S.free)) S.kind S.loc (cK (hi pins s σ H _ I h) fun v s1 h1=>cK h1 fun itv s2 h2=>?_)
 obtain⟨it,fp,tn,J,H2,e,I2,T,st2,f2,rd⟩:=h2
 subst e
 refine cK (u4 (iter:=iter) (pos:=pos) (E:=X.xe) hc I2 T st2 f2 S.kind S.free S.dup (S.cap σ) (S.len σ) hY rd) fun acc s3 h3=>cK h3 fun cenv s4 h4=>?_
 refine codeAny_mono h4 fun r s5 h5=>?_
 obtain⟨D,H5,m,rfl,rfl,I5,hn,fC,q⟩:=h5
 refine⟨m,hn,fun h' sb=>?_⟩
 obtain⟨f0,f1,f2',f3,f4,f5⟩:=fC
 exact⟨.ref D,H5,I5.turned (t':=s5.toks) (fun b o hb e=>(sb.2 b hb).trans e) f0 f1 f3 f4 f5,rfl,q⟩
theorem Jv{i:Nat}{y:Str}{py spos:Pos}(hc:X.calm=true)(S:jR X scope N caps)(hi:PI X tg iter wi)
  (hY:∀fp s H,PG (bj X scope N fp s H) tg g/\NI (bj X scope N fp s H) ifs tt/\PE (bj X scope N fp s H) elt te)
  (hN:X.N.Nodup) (hiy:X.N[i]?=some y) (hy:X.env.scope.names.lookup y=some .local)
  (hsw:swapsWith (.ListComp elt [⟨tg,iter,ifs,0⟩] scope pos) (some (.Name y py)) spos.line X.env=pure true)
  (hs:∀x,foldedSetIterable iter X.env x=pure x:=by intro _;rfl):PS X (.Assign [.Name y py] (.ListComp elt [⟨tg,iter,ifs,0⟩] scope pos) spos) (Gp (Fh wi g tt te caps) (ya i)):=by
 intro pins s σ H D I h
 rw[exec_Assign_Name_used _ _ _ _ hsw]
 refine zW (wpAny_standAt (zW ?_))
 show wpAny _ X.A (do let _ <- comprehension (.ListComp elt [⟨tg,iter,ifs,0⟩] scope pos) scope X.env _ (newList []) false (eval iter X.env) (some (assign (.Name y py) X.env))) _ _ s
 refine zW (wpAny_mono (wpAny_comprehension_free (use:=some (assign (.Name y py) X.env)) (Q:=fun _ s'=>SP X pins D .next s') rfl hs (mR (lH I.ok S.free)) S.kind S.loc
  (cK (hi pins s σ H _ I h) fun v s1 h1=>cK h1 fun itv s2 h2=>?_)) (fun _ s' hq=>zX (zX hq)) fun _ _ e=>e)
 obtain⟨it,fp,tn,J,H2,e,I2,T,st2,f2,rd⟩:=h2
 subst e
 refine cK (u4 (iter:=iter) (pos:=pos) (E:=X.xe) hc I2 T st2 f2 S.kind S.free S.dup (S.cap σ) (S.len σ) hY rd) fun acc s3 h3=>cK h3 fun cenv s4 h4=>?_
 refine codeAny_mono h4 fun r s5 h5=>?_
 obtain⟨D',H5,m,rfl,rfl,I5,hn,fC,q⟩:=h5
 show wpAny _ X.A (assign (.Name y py) X.env (.ref D')) _ _ _
 refine wpAny_assign_Name (uW (v:=.ref D') I5 hN hiy (.inl hy) rfl (fun s6 I6 ⟨a,sa,ha⟩=>?_) (.inr hy))
 obtain⟨f0,f1,f2',f3,f4,f5⟩:=fC
 have hne:cenv.locals≠a:=by
  rcases ha with z|z
  ·rw[z];exact f1
  ·exact fun w=>f4 y a z w.symm
 refine⟨m,hn.sameBut sa hne,fun h' sb=>?_⟩
 exact⟨_,H5,I6.turned (t':=s6.toks) (fun b o hb e=>(sb.2 b hb).trans e) f0 f1 f3 f4 f5,q⟩
end
noncomputable abbrev Qi(X:Cx)(qual:Str)(scope:Scope)(f c L:Addr):Env:=W.envX qual scope L f (.ref c) (e8 X.env scope.names [])
noncomputable def iD(X:Cx)(A:Around)(qual:Str)(scope:Scope)(N:List Str)(f c:Addr)(s:Shared)(H:Hp):Cx where
 prog:=X.prog
 w:=X.w
 K:=X.K
 mg:=X.mg
 base:=X.base
 A:=A.deeper (Qi X qual scope f c s.heap.objs.size)
 N:=N
 s₀:=s
 H₀:=H
 env:=Qi X qual scope f c s.heap.objs.size
 outer:=X.stack
 stack:=Qi X qual scope f c s.heap.objs.size::X.stack
 ex:=[]
 fn:=fun _=>false
 calm:=true
 pn:=[]
 xe:=fun _ _=>False
section
variable {X:Cx}{pins:List (Addr×Obj)}{σ:St}{H:Hp}{s:Shared}{scope:Scope}{N:List Str}{h1:Heap}{A:Around}{caps:St->St}{p qual:Str}{f c:Addr}{u:Value}{v:V}
theorem Jw(I:Inv X pins σ H s)(hd:A.handled=none)(hA:A.frames=some X.stack)(S:jR X scope N caps)(hnc:∀x∈scope.names,x.2≠.cell)(hN0:N[0]?=some p)(hp:scope.names.lookup p=some .local)(hNd:N.Nodup)(r:RelV v u)
  (hns:h1.Ns s.heap.objs.size (fun x=>[(p,u)].reverse.lookup x)) (hkeep:∀b o,s.heap.get? b=some o->h1.get? b=some o) (t':Nat) :
  Inv (iD X A qual scope N f c s H) [] ((caps σ).set 0 (some v)) H { s with heap:=h1,toks:=t' }:=by
 have hcl:=lH I.ok S.free
 have clx:∀x c,(e8 X.env scope.names []).lookup x=some c->X.env.cells.lookup x=some c:=fun x c e=>lU hcl (fun _ _ z=>by cases z) x c (mem_of_lookup e)
 have noA:∀b:Addr,b∉(iD X A qual scope N f c s H).ex:=fun b z=>absurd (show b∈([]:List Addr) from z) (by simp)
 refine⟨⟨I.ok.mod,S.kind,rfl,rfl,Nat.le_refl _,fun x y d e1 e2=>I.ok.inj x y d (clx x d e1) (clx y d e2),fun x hx=>?_,fun x d z=>?_,fun _=>hd,Around.frames_deeper hA,.inr ⟨rfl,rfl⟩,fun b z=>absurd z (noA b),I.bs,yE I.ok.bsz I.sz,fun b _ _=>noA b,fun b z=>absurd z (noA b),I.stack,I.stkFree⟩,
  rfl,I.bare,Un.kept hkeep,⟨_,hns,fun i x w e1 e2 e3=>?_⟩,fun x d e=>?_,I.hok.fresh (Nat.le_refl _),fun x d e=>I.freeC x d (clx x d e),fun q hq=>absurd (show q∈([]:List (Addr×Obj)) from hq) (by simp),I.hok.kept hkeep,?_⟩
 ·rcases hx with hx|hx
  ·exact absurd rfl (hnc _ (mem_of_lookup (show scope.names.lookup x=some .cell from hx)))
  ·exact ij (.inl hx)
 ·cases z
 ·cases i with
  | zero =>
   have e1:N[0]?=some x:=e1
   rw[hN0] at e1
   cases e1
   have hl:0 < (caps σ).length:=by rw[S.len];exact (zU.mp hN0).1
   rw[List.getElem?_set_self hl] at e2
   cases e2
   exact⟨u,r,.inl ⟨hp,by simp⟩⟩
  | succ i =>
   have e2':(caps σ)[i+1]?=some (some w):=by
    rw[List.getElem?_set_ne (by omega)] at e2;exact e2
   obtain⟨hfr,j,hj,hv⟩:=S.cap σ (i+1) x w e1 e2'
   have hm:(x,NameKind.free)∈scope.names:=mem_of_lookup hfr
   obtain⟨m,hn,hl⟩:=I.loc
   have kx:=S.free _ hm rfl
   obtain⟨u',ru,lk⟩:=hl j x w hj hv (kx.elim (fun k=>.inr (.inl k)) fun k=>.inr (.inr k))
   refine⟨u',ru,.inr ⟨.inr hfr,?_⟩⟩
   rcases lk with ⟨k,_⟩|⟨_,c',ec,ic⟩
   ·have k:X.env.kindOf x=some .local:=k
    rcases kx with k'|k'<;>· rw[k] at k';cases k'
   ·obtain⟨c'',hc'⟩:=ij (env:=X.env) (acc:=[]) (.inl hfr)
    have e':=clx x c'' hc'
    rw[ec] at e'
    cases e'
    exact⟨c',hc',ic.keeps hkeep⟩
 ·obtain⟨w,q⟩:=I.cell x d (clx x d e)
  exact⟨w,q.keeps hkeep⟩
 ·rw[yD];exact S.len σ
theorem xK{k:Nat}{params:Arguments}{body:Expr}{pm ctv:Value}{name:Str}{te:TE}{Q:VK}(I:Inv X pins σ H s)(hr:eS (k+1) A)(hA:A.frames=some X.stack)(S:jR X scope N caps)(hnc:∀x∈scope.names,x.2≠.cell)
  (hN0:N[0]?=some p) (hp:scope.names.lookup p=some .local) (hNd:N.Nodup) (hco:scope.isCoroutine=false) (hgen:scope.isGenerator=false)
  (hf:s.heap.get? f=some (W.kla_obj name qual params body scope (e8 X.env scope.names []) pm c ctv)) (hcod:H c=some (.cod qual)) (hb:bindArgs (W.kla_fn name qual params body scope (e8 X.env scope.names []) pm (.ref c) ctv) ⟨[u],[]⟩=pure [(p,u)])
  (r:RelV v u) (hY:PE (iD X A qual scope N f c s H) body te) (q:te ((caps σ).set 0 (some v)) H Q) :
  wpAny (model X.prog X.w) A (call (.ref f) [u]) (EP X pins σ Q) (fun _ _=>False) s:=by
 have hcd:s.heap.CodeRec (.ref c) qual:=I.hok c _ hcod
 refine wpAny_call (W.kla_callFunE hr.depth hf rfl hco hgen rfl hcd ?_)
 rw[hb]
 refine zX (wpAny_newFunctionEnv hnc (fun y hy=>?_) (fun h1 hns hsb=>⟨?_,?_⟩) S.kind)
 ·rw[yL.mp hy];exact hp
 ·exact I.nolimit.fresh _ hsb
 ·have hk1:∀b o,s.heap.get? b=some o->h1.get? b=some o:=fun b o e=>hsb.extBut b o (Nat.ne_of_lt (zZ e)) (zV _ e)
  have I1:=Jw (qual:=qual) (f:=f) (c:=c) I hr.hd hA S hnc hN0 hp hNd r hns hk1 (s.toks+[(p,u)].length)
  refine W.kla_codeExpr (wpAny_mono (hY [] _ _ H Q I1 q) (fun w s' ⟨v',H',I',r',q'⟩=>?_) fun e s' h=>False.elim h)
  exact⟨v',H',I.call' I'.os I'.base I'.hok I'.bare (fun b z=>absurd (show b∈([]:List Addr) from z) (by simp)),r',q'⟩
end
theorem BK{pos pos':Pos}{c v:Value}(l:List Value)(h:TriplesOk l)(e:codeAmong pos' (l++[rawInt pos.line,rawInt pos.col,c])=some v):codeAmong pos' l=some v\/v=c:=by
 fun_induction TriplesOk l with
 | case1 =>
  simp only[List.nil_append,codeAmong,rawInt] at e
  split at e
  ·cases e;exact .inr rfl
  ·cases e
 | case2 a t b u x rest ih =>
  simp only[List.cons_append,codeAmong] at e ⊢
  split at e
  ·rename_i hc;rw[if_pos hc];exact .inl e
  ·rename_i hc;rw[if_neg hc];exact ih h e
 | case3 l h1 h2=>exact h.elim
section
variable {X:Cx}{pins:List (Addr×Obj)}{σ:St}{H:Hp}{s:Shared}{scope:Scope}{N:List Str}{caps:St->St}{qual:Str}{c P:Addr}
theorem y2{params:Arguments}{body:Expr}{lpos:Pos}{Q:Value->Shared->Prop}(I:Inv X pins σ H s)(S:jR X scope N caps)(hq:X.env.qual++"<lambda>"=qual)(hcode:X.env.code=.ref c)(C:W.CodeHd X.base c P)(hT:H P=some (.tab qual))(hB:Pc X.mg X.base)
  (hdef:defaultsOf params X.env=([],[]))
  (h:∀ (f c':Addr) (pm ctv:Value) (s':Shared) (H':Hp),Inv X pins σ H' s'->s'.heap.get? f=some (W.kla_obj "<lambda>" qual params body scope (e8 X.env scope.names []) pm c' ctv)->H' f=none->H' c'=some (.cod qual)->bo H H'->cW X pins H' f->(∀b,H' b≠none->H b≠none\/H' b=some (.cod qual))->Q (.ref f) s') :
  wpAny (model X.prog X.w) X.A (eval (.Lambda params body scope lpos) X.env) Q X.xe s:=by
 have hcl:=mR (lH I.ok S.free)
 have hCs:=C.keeps I.bk
 have hg:s.heap.Ns mainGlobals X.mg:=by
  obtain⟨o,es,ep,e,r⟩:=I.ok.mod.glob
  exact⟨o,es,ep,I.bk _ _ e,r⟩
 have hPn:X.base.get? P=none:=by
  cases e:X.base.get? P with
  | none=>rfl
  | some o=>rw[(I.bs P o e).2] at hT;cases hT
 obtain⟨ps,hP,ht,hco⟩:=I.hok P _ hT
 have hb:s.heap.BuiltinsAt X.mg P:=by
  obtain⟨bm,o,b1,b2,b3,b4,b5⟩:=hB
  exact⟨bm,o,b1,b2,b3,(fun z=>by rw[z,hPn] at b4;cases b4),I.bk _ _ b4,b5⟩
 refine W.kla_eval hdef ?_
 rw[hq]
 cases hf:codeAmong lpos ps.toList with
 | some cv =>
  obtain⟨c',rfl,hc'⟩:=hco lpos cv hf
  refine W.kla_makeFunctionHit hcl I.ok.glob hg hcode hCs hP ht hf hb fun ctv h' tk kp hz=>?_
  have kp2:∀b o,s.heap.get? b=some o->(h'.push (W.kla_obj "<lambda>" qual params body scope (e8 X.env scope.names []) ((X.mg "__name__").getD .none) c' ctv)).get? b=some o:=fun b o e=>zV _ (kp b o e)
  have hn:H h'.objs.size=none:=I.hok.fresh hz
  exact h _ c' _ ctv _ H (I.kept (t':=tk) kp2) (zY _ rfl) hn hc' (.refl _) (I.fpOk hz hn) fun b z=>.inl z
 | none =>
  have hgP:mainGlobals≠P:=fun z=>by
   obtain⟨o,es,ep,e,r⟩:=I.ok.mod.glob
   rw[z,hPn] at e;cases e
  refine W.kla_makeFunction hcl I.ok.glob hg hcode hCs hP ht hf hgP hb fun c' ctv h' tk hx hc1 hc2 hcr hP'=>?_
  have hn:H c'=none:=I.hok.fresh hc1
  have hz:s.heap.objs.size<=h'.objs.size:=Nat.le_of_lt (Nat.lt_of_le_of_lt hc1 hc2)
  have nP:∀ {b:Addr}{u:HO},H b=some u->(∀q,u≠.tab q)->b≠P:=fun {b u} e hne z=>by subst z;rw[hT] at e;cases e;exact hne _ rfl
  have kp:∀b o,b≠P->s.heap.get? b=some o->(h'.push (W.kla_obj "<lambda>" qual params body scope (e8 X.env scope.names []) ((X.mg "__name__").getD .none) c' ctv)).get? b=some o:=fun b o hb e=>zV _ (hx b o hb e)
  have hPc:P≠c':=fun z=>by rw[<- z,hT] at hn;cases hn
  have up:∀b u,H b=some u->upd H c' (.cod qual) b=some u:=fun b u e=>by rw[aL (aU e hn)];exact e
  have un:Un X.fs [] H (upd H c' (.cod qual)) s.heap (h'.push (W.kla_obj "<lambda>" qual params body scope (e8 X.env scope.names []) ((X.mg "__name__").getD .none) c' ctv)):=by
   refine⟨fun b o e n _ _=>kp b o (fun z=>by rw[z,hT] at n;cases n) e,fun b o e n _ _=>⟨o.slots,kp b o (fun z=>by rw[z,hT] at n;cases n) e⟩,fun b o e n _=>?_,fun b o e _=>?_,fun b xs e=>up b _ e,fun b o u e=>up b _ e,⟨fun b u e _=>up b u e,fun b q ps' e z=>?_⟩⟩
   ·rw[aL (Nat.ne_of_lt (zP (zZ e) hc1))];exact n
   ·by_cases hb:b=P
    ·subst hb;exact⟨_,zV _ hP'⟩
    ·exact⟨o,kp b o hb e⟩
   ·by_cases hb:b=P
    ·subst hb
     rw[hP] at z
     cases z
     exact⟨_,zV _ hP'⟩
    ·exact⟨#[],by rw[Array.append_empty];exact kp b _ hb z⟩
  have hok:p9 X.prog X.w (upd H c' (.cod qual)) (h'.push (W.kla_obj "<lambda>" qual params body scope (e8 X.env scope.names []) ((X.mg "__name__").getD .none) c' ctv)):=by
   intro b u e
   by_cases hbc:b=c'
   ·subst hbc
    rw[aO] at e
    cases e
    obtain⟨c0,oc,vs,t,e0,e1,r⟩:=hcr
    exact⟨c0,oc,vs,t,e0,zV _ e1,r⟩
   ·rw[aL hbc] at e
    by_cases hb:b=P
    ·subst hb
     rw[hT] at e
     cases e
     refine⟨_,zV _ hP',?_,fun pos v hv=>?_⟩
     ·have:=TriplesOk_snoc lpos.line lpos.col (.ref c') ps.toList ht
      simpa using this
     ·have hv':codeAmong pos (ps.toList++[rawInt lpos.line,rawInt lpos.col,.ref c'])=some v:=by simpa using hv
      rcases BK ps.toList ht hv' with z|z
      ·obtain⟨c0,z1,z2⟩:=hco pos v z
       exact⟨c0,z1,up _ _ z2⟩
      ·exact⟨c',z,aO⟩
    ·exact (I.hok b u e).stay (fun d o hd eo=>kp d o (by
      rcases hd with rfl|hd
      ·exact hb
      ·exact nP hd fun q z=>by cases z) eo) (fun d hd=>up d _ hd) fun d o hd _=>up d _ hd
  have I':=I.un (t':=tk) un hok
  have hnf:upd H c' (.cod qual) h'.objs.size=none:=by
   rw[aL (Nat.ne_of_gt hc2)];exact I.hok.fresh hz
  refine h _ c' _ ctv _ _ I' (zY _ rfl) hnf aO up (I.fpOk hz hnf) fun b z=>?_
  by_cases hbc:b=c'
  ·subst hbc;exact .inr aO
  ·rw[aL hbc] at z;exact .inl z
end
end L2
namespace Dl
open PySem L2 PySem.Spec PyProof.Rows
noncomputable abbrev D:=PyData
mutual
noncomputable def Rep(K:W.Frag)(H:Hp):D->V->Prop
 | .none,v=>v=.non
 | .bool b,v=>v=.bl b
 | .int i,v=>v=.int i
 | .str x,v=>v=.str x
 | .tuple ds,v=>∃a vs,v=.ref a/\jA K H a vs/\aw K H ds vs
 | .list ds,v=>∃a vs,v=.ref a/\i8 K H a vs/\aw K H ds vs
 | .dict _,_=>False
noncomputable def aw(K:W.Frag)(H:Hp):List D->List V->Prop
 | [],vs=>vs=[]
 | d::ds,vs=>∃v r,vs=v::r/\Rep K H d v/\aw K H ds r
end
theorem aI{K:W.Frag}{H H':Hp}{a:Addr}{xs:List V}(e:bo H H')(h:jA K H a xs):jA K H' a xs:=by
 rcases h with (h|⟨o,h⟩)|h
 ·exact .inl (.inl (e _ _ h))
 ·exact .inl (.inr ⟨o,e _ _ h⟩)
 ·exact .inr h
mutual
theorem Rep.mono{K:W.Frag}{H H':Hp}(e:bo H H'):∀ {d:D}{v:V},Rep K H d v->Rep K H' d v
 | .none,_,h=>h
 | .bool _,_,h=>h
 | .int _,_,h=>h
 | .str _,_,h=>h
 | .tuple ds,_,h=>by
  simp only[Rep] at h ⊢
  obtain⟨a,vs,rfl,q,r⟩:=h
  exact⟨a,vs,rfl,aI e q,aw.mono e r⟩
 | .list ds,_,h=>by
  simp only[Rep] at h ⊢
  obtain⟨a,vs,rfl,q,r⟩:=h
  exact⟨a,vs,rfl,e.seq q,aw.mono e r⟩
 | .dict _,_,h=>h
theorem aw.mono{K:W.Frag}{H H':Hp}(e:bo H H'):∀ {ds:List D}{vs:List V},aw K H ds vs->aw K H' ds vs
 | [],_,h=>h
 | d::ds,_,h=>by
  simp only[aw] at h ⊢
  obtain⟨v,r,rfl,a,b⟩:=h
  exact⟨v,r,rfl,Rep.mono e a,aw.mono e b⟩
end
section
variable {K:W.Frag}{H:Hp}
theorem aw.nil:aw K H [] []:=by simp[aw]
theorem aw.cons{d:D}{v:V}{ds:List D}{vs:List V}(a:Rep K H d v)(b:aw K H ds vs):aw K H (d::ds) (v::vs):=by
 simp only[aw];exact⟨v,vs,rfl,a,b⟩
theorem aw.cons_inv{d:D}{ds:List D}{vs:List V}(h:aw K H (d::ds) vs):∃v r,vs=v::r/\Rep K H d v/\aw K H ds r:=by simpa only[aw] using h
theorem aw.nil_inv{vs:List V}(h:aw K H [] vs):vs=[]:=by simpa only[aw] using h
theorem aw.length:∀ {ds:List D}{vs:List V},aw K H ds vs->vs.length=ds.length
 | [],_,h=>by rw[h.nil_inv];rfl
 | d::ds,_,h=>by obtain⟨v,r,rfl,_,b⟩:=h.cons_inv;simp[aw.length b]
theorem aw.get:∀ {ds:List D}{vs:List V}{i:Nat}{v:V},aw K H ds vs->vs[i]?=some v->∃d,ds[i]?=some d/\Rep K H d v
 | [],_,i,v,h,e=>by rw[h.nil_inv] at e;simp at e
 | d::ds,_,i,v,h,e=>by
  obtain⟨v',r,rfl,a,b⟩:=h.cons_inv
  cases i with
  | zero=>simp at e;subst e;exact⟨d,rfl,a⟩
  | succ i=>simp at e;obtain⟨d',h1,h2⟩:=aw.get b e;exact⟨d',by simpa using h1,h2⟩
theorem aw.getD:∀ {ds:List D}{vs:List V}{i:Nat}{d:D},aw K H ds vs->ds[i]?=some d->∃v,vs[i]?=some v/\Rep K H d v
 | [],_,i,d,h,e=>by simp at e
 | d::ds,_,i,d',h,e=>by
  obtain⟨v',r,rfl,a,b⟩:=h.cons_inv
  cases i with
  | zero=>simp at e;subst e;exact⟨v',rfl,a⟩
  | succ i=>simp at e;obtain⟨v,h1,h2⟩:=aw.getD b e;exact⟨v,by simpa using h1,h2⟩
theorem aw.append:∀ {ds es:List D}{vs us:List V},aw K H ds vs->aw K H es us->aw K H (ds++es) (vs++us)
 | [],_,_,_,h,g=>by rw[h.nil_inv];exact g
 | d::ds,_,_,_,h,g=>by obtain⟨v,r,rfl,a,b⟩:=h.cons_inv;exact aw.cons a (aw.append b g)
theorem aw.take:∀ {ds:List D}{vs:List V}(n:Nat),aw K H ds vs->aw K H (ds.take n) (vs.take n)
 | [],_,n,h=>by rw[h.nil_inv];simp[aw]
 | d::ds,_,0,h=>by simp[aw]
 | d::ds,_,n+1,h=>by obtain⟨v,r,rfl,a,b⟩:=h.cons_inv;exact aw.cons a (aw.take n b)
theorem aw.drop:∀ {ds:List D}{vs:List V}(n:Nat),aw K H ds vs->aw K H (ds.drop n) (vs.drop n)
 | [],_,n,h=>by rw[h.nil_inv];simp[aw]
 | d::ds,_,0,h=>h
 | d::ds,_,n+1,h=>by obtain⟨v,r,rfl,a,b⟩:=h.cons_inv;exact aw.drop n b
theorem aw.reverse:∀ {ds:List D}{vs:List V},aw K H ds vs->aw K H ds.reverse vs.reverse
 | [],_,h=>by rw[h.nil_inv];simp[aw]
 | d::ds,_,h=>by
  obtain⟨v,r,rfl,a,b⟩:=h.cons_inv
  rw[List.reverse_cons,List.reverse_cons]
  exact aw.append (aw.reverse b) (aw.cons a aw.nil)
end
structure cC(HF H HF' H':Hp):Prop where
 hh:bo H H'
 ff:bo HF HF'
 fh:bo HF' H'
 nw:∀a o,HF' a=some o->HF a=some o\/H a=none
theorem cC.refl{HF H:Hp}(s:bo HF H):cC HF H HF H:=⟨.refl _,.refl _,s,fun _ _ e=>.inl e⟩
theorem cC.trans{HF H HF1 H1 HF2 H2:Hp}(a:cC HF H HF1 H1)(b:cC HF1 H1 HF2 H2):cC HF H HF2 H2 :=
 ⟨a.hh.trans b.hh,a.ff.trans b.ff,b.fh,fun x o e=>(b.nw x o e).elim (fun z=>a.nw x o z) fun z=>.inr (a.hh.free z)⟩
theorem eH{H:Hp}{p:Addr}{o:HO}(h:H p=none):bo H (upd H p o):=fun b u e=>by rw[aL (aU e h)];exact e
theorem cC.new{HF H:Hp}{p:Addr}{o:HO}(s:bo HF H)(h:H p=none):cC HF H (upd HF p o) (upd H p o):=by
 have hf:HF p=none:=s.free h
 refine⟨eH h,eH hf,fun b u e=>?_,fun b u e=>?_⟩
 ·by_cases hb:b=p
  ·subst hb;rw[aO] at e ⊢;exact e
  ·rw[aL hb] at e ⊢;exact s b u e
 ·by_cases hb:b=p
  ·subst hb;exact .inr h
  ·rw[aL hb] at e;exact .inl e
theorem cC.own{HF H:Hp}{p:Addr}{o:HO}(s:bo HF H)(h:H p=none):cC HF H HF (upd H p o) :=
 ⟨eH h,.refl _,fun b u e=>by rw[aL (aU (s b u e) h)];exact s b u e,fun _ _ e=>.inl e⟩
theorem cC.freeze{HF H HF1 H1:Hp}{p:Addr}{o:HO}(g:cC HF H HF1 H1)(h:H p=none)(h1:H1 p=some o)(hf:HF1 p=none):cC HF H (upd HF1 p o) H1 :=
 ⟨g.hh,g.ff.trans (eH hf),fun b u e=>by
  by_cases hb:b=p
  ·subst hb;rw[aO] at e;rw[h1,<- e]
  ·rw[aL hb] at e;exact g.fh b u e,fun b u e=>by
  by_cases hb:b=p
  ·subst hb;exact .inr h
  ·rw[aL hb] at e;exact g.nw b u e⟩
def kP:List Str:=["ways_of","turned_order","fairest"]
def gZ(K:W.Frag)(HF:Hp):Prop:=∀ (f:Addr) (oc:Value) (od:Option Addr) (fd:FuncData) (sl:Array (Option Value)) (c P:Addr),K.lookup f=some ⟨oc,od,.func fd,sl⟩->fd.qualname∈kP->fd.code=.ref c->W.codeHdIn K c P=true->HF P=some (.tab (fd.qualname++".<locals>."++"<lambda>"))
theorem gZ.mono{K:W.Frag}{HF HF':Hp}(h:gZ K HF)(e:bo HF HF'):gZ K HF':=fun f oc od fd sl c P a b d q=>e _ _ (h f oc od fd sl c P a b d q)
noncomputable abbrev Env:=List (Option D)
structure dm(K:W.Frag)(HF:Hp)(ρ:Env)(σ:L2.St):Prop where
 get:∀ (i:Nat) (d:D),ρ[i]?=some (some d)->∃v,σ[i]?=some (some v)/\Rep K HF d v
 len:ρ.length<=σ.length
 tb:gZ K HF
theorem dm.mono{K:W.Frag}{HF HF':Hp}{ρ:Env}{σ:L2.St}(h:dm K HF ρ σ)(e:bo HF HF'):dm K HF' ρ σ:=⟨fun i d q=>let ⟨v,a,b⟩:=h.get i d q;⟨v,a,b.mono e⟩,h.len,h.tb.mono e⟩
def tD(K:W.Frag)(f:Env->Option D):TE:=fun σ H Q=>∃HF ρ d,bo HF H/\dm K HF ρ σ/\f ρ=some d/\∀v H' HF',cC HF H HF' H'->Rep K HF' d v->Q v H'
def DE(X:Cx)(e:Expr)(f:Env->Option D):Prop:=PE X e (tD X.K f)
def tF(K:W.Frag)(f:Env->Option (List D)):TE:=fun σ H Q=>∃HF ρ ds,bo HF H/\dm K HF ρ σ/\f ρ=some ds /\
 ∀a vs H' HF',cC HF H HF' H'->H a=none->HF' a=none->H' a=some (.lst vs)->aw K HF' ds vs->Q (.ref a) H'
def DF(X:Cx)(e:Expr)(f:Env->Option (List D)):Prop:=PE X e (tF X.K f)
def Lo(K:W.Frag)(f:Env->Option Bool):TT:=fun σ H Q=>∃HF ρ b,bo HF H/\dm K HF ρ σ/\f ρ=some b/\∀H' HF',cC HF H HF' H'->Q b H'
def DT(X:Cx)(e:Expr)(f:Env->Option Bool):Prop:=PT X e (Lo X.K f)
def Qv(K:W.Frag)(f:Env->Option (List D)):TA:=fun σ H Q=>∃HF ρ ds,bo HF H/\dm K HF ρ σ/\f ρ=some ds/\∀vs H' HF',cC HF H HF' H'->aw K HF' ds vs->Q vs H'
def DA(X:Cx)(es:List Expr)(f:Env->Option (List D)):Prop:=PA X es (Qv X.K f)
section
variable {X:Cx}
theorem bu{e:Expr}{t t':TE}(h:PE X e t)(i:∀σ H Q,t' σ H Q->t σ H Q):PE X e t':=fun pins s σ H Q I q=>h pins s σ H Q I (i σ H Q q)
theorem wH{e:Expr}{t t':TT}(h:PT X e t)(i:∀σ H Q,t' σ H Q->t σ H Q):PT X e t':=fun pins s σ H Q I q=>h pins s σ H Q I (i σ H Q q)
theorem FX{e:List Expr}{t t':TA}(h:PA X e t)(i:∀σ H Q,t' σ H Q->t σ H Q):PA X e t':=fun pos pins s σ H Q I q=>h pos pins s σ H Q I (i σ H Q q)
theorem bs{α β:Type}{x:Option α}{f:α->Option β}{b:β}(h:x.bind f=some b):∃a,x=some a/\f a=some b:=by
 cases x with
 | none=>cases h
 | some a=>exact⟨a,rfl,h⟩
theorem DF.de{e:Expr}{f:Env->Option (List D)}(h:DF X e f):DE X e (fun ρ=>(f ρ).map PyData.list):=bu h fun σ H Q ⟨HF,ρ,d,sm,eo,hf,q⟩=>by
 have hf:(f ρ).map PyData.list=some d:=hf
 cases e1:f ρ with
 | none=>rw[e1] at hf;cases hf
 | some ds =>
  rw[e1] at hf
  obtain rfl:PyData.list ds=d:=Option.some.inj hf
  refine⟨HF,ρ,ds,sm,eo,e1,fun a vs H' HF' g ha hf' h' r=>q _ _ (upd HF' a (.lst vs)) (g.freeze ha h' hf') ?_⟩
  simp only[Rep]
  exact⟨a,vs,rfl,.inl (.inl aO),r.mono (eH hf')⟩
noncomputable def ab(i:Nat):Env->Option D:=fun ρ=>(ρ[i]?).getD none
theorem MB(i:Nat){x:Str}{pos:Pos}(hN:X.N[i]?=some x)(hv:Lf X.env.scope x)(hd:(x == ("__debug__":Str))=false:=by decide)(hcd:(x == ("__classdict__":Str))=false:=by decide):DE X (.Name x pos) (ab i) :=
 bu (qw hN hv hd hcd) fun σ H Q ⟨HF,ρ,d,sm,eo,hf,q⟩=>by
  have hf:(ρ[i]?).getD none=some d:=hf
  cases e:ρ[i]? with
  | none=>rw[e] at hf;cases hf
  | some o =>
   rw[e] at hf
   have hf:o=some d:=hf
   subst hf
   obtain⟨v,a,b⟩:=eo.get i d e
   exact⟨v,a,q v H HF (.refl sm) b⟩
noncomputable def fC(d:D):Env->Option D:=fun _=>some d
theorem LX{i j pos}:DE X (.Constant (.int i) j pos) (fC (.int i)):=bu Nd fun σ H Q ⟨HF,ρ,d,sm,eo,hf,q⟩=>by cases hf;exact q _ H HF (.refl sm) (by simp[Rep])
theorem OF{b j pos}:DE X (.Constant (.bool b) j pos) (fC (.bool b)):=bu Of fun σ H Q ⟨HF,ρ,d,sm,eo,hf,q⟩=>by cases hf;exact q _ H HF (.refl sm) (by simp[Rep])
theorem Np{j pos}:DE X (.Constant .none j pos) (fC .none):=bu Mz fun σ H Q ⟨HF,ρ,d,sm,eo,hf,q⟩=>by cases hf;exact q _ H HF (.refl sm) (by simp[Rep])
theorem Nr{x j pos}:DE X (.Constant (.str x) j pos) (fC (.str x)):=bu MR fun σ H Q ⟨HF,ρ,d,sm,eo,hf,q⟩=>by cases hf;exact q _ H HF (.refl sm) (by simp[Rep])
theorem Jj{x:Str}{i:Int}{t:Tok}{pos:Pos}(hg:Gl X x)(hm:X.mg x=some (.int i t))(hd:(x == ("__debug__":Str))=false:=by decide):DE X (.Name x pos) (fC (.int i)) :=
 bu (vG (v:=.int i) hg hm ⟨t,rfl⟩ hd) fun σ H Q ⟨HF,ρ,d,sm,eo,hf,q⟩=>by cases hf;exact q _ H HF (.refl sm) (by simp[Rep])
def gx(K:W.Frag)(r:R2)(g:D->D->Option D):Prop:=∀HF H x y v1 v2 d Q,bo HF H->Rep K HF x v1->Rep K HF y v2->g x y=some d->(∀v H' HF',cC HF H HF' H'->Rep K HF' d v->Q v H')->r v1 v2 H Q
noncomputable def f2(g:D->D->Option D)(f1 f2:Env->Option D):Env->Option D:=fun ρ=>(f1 ρ).bind fun x=>(f2 ρ).bind fun y=>g x y
variable {a b c:Expr}{fa fb fc:Env->Option D}{pos:Pos}
theorem Kd{r:R2}{g:D->D->Option D}(hr:gx X.K r g):∀σ H Q,tD X.K (f2 g fa fb) σ H Q->N5 r (tD X.K fa) (tD X.K fb) σ H Q:=fun σ H Q ⟨HF,ρ,d,sm,eo,hf,q⟩=>by
 obtain⟨x,hx,hf⟩:=bs hf
 obtain⟨y,hy,hg⟩:=bs hf
 exact⟨HF,ρ,x,sm,eo,hx,fun v1 H1 HF1 g1 r1=>⟨HF1,ρ,y,g1.fh,eo.mono g1.ff,hy,fun v2 H2 HF2 g2 r2=>hr HF2 H2 x y v1 v2 d Q g2.fh (r1.mono g2.ff) r2 hg fun v H' HF' g3 r3=>q v H' HF' ((g1.trans g2).trans g3) r3⟩⟩
theorem zp{op:Operator}{r:R2}{g:D->D->Option D}(ho:ja X (binaryOp op) r)(hr:gx X.K r g)(ha:DE X a fa)(hb:DE X b fb):DE X (.BinOp a op b pos) (f2 g fa fb):=bu (GT ho ha hb) (Kd hr)
theorem kg{op:CmpOp}{r:R2}{g:D->D->Option D}(ho:ja X (compareOp op) r)(hr:gx X.K r g)(ha:DE X a fa)(hb:DE X b fb)(hm:behindInMarks op b=false):DE X (.Compare a [op] [b] pos) (f2 g fa fb):=bu (JR ho ha hb hm) (Kd hr)
noncomputable def xl(C:Int->Int->Prop)[∀i j,Decidable (C i j)](g:Int->Int->D):D->D->Option D
 | .int i,.int j=>if C i j then some (g i j) else none
 | _,_=>none
theorem EV{K:W.Frag}{C:Int->Int->Prop}[∀i j,Decidable (C i j)]{gi:Int->Int->Int}:gx K (rI C fun i j=>.int (gi i j)) (xl C fun i j=>.int (gi i j)):=by
 intro HF H x y v1 v2 d Q sm r1 r2 hg q
 cases x<;>cases y<;>simp only[xl] at hg<;>try cases hg
 rename_i i j
 simp only[Rep] at r1 r2
 by_cases hc:C i j
 ·rw[if_pos hc] at hg
  cases hg
  exact⟨i,j,r1,r2,hc,q _ H HF (.refl sm) (by simp[Rep])⟩
 ·rw[if_neg hc] at hg;cases hg
theorem F2{K:W.Frag}{gi:Int->Int->Int}:gx K (Im fun i j=>.int (gi i j)) (xl (fun _ _=>True) fun i j=>.int (gi i j)):=by
 intro HF H x y v1 v2 d Q sm r1 r2 hg q
 cases x<;>cases y<;>simp only[xl] at hg<;>try cases hg
 rename_i i j
 simp only[Rep] at r1 r2
 exact⟨i,j,r1,r2,q _ H HF (.refl sm) (by simp[Rep])⟩
theorem iX{K:W.Frag}{gi:Int->Int->Bool}:gx K (Im fun i j=>.bl (gi i j)) (xl (fun _ _=>True) fun i j=>.bool (gi i j)):=by
 intro HF H x y v1 v2 d Q sm r1 r2 hg q
 cases x<;>cases y<;>simp only[xl] at hg<;>try cases hg
 rename_i i j
 simp only[Rep] at r1 r2
 exact⟨i,j,r1,r2,q _ H HF (.refl sm) (by simp[Rep])⟩
noncomputable instance (i j:Int):Decidable (vj i j):=by unfold vj;infer_instance
noncomputable instance (i j:Int):Decidable (IB i j):=by unfold IB;infer_instance
end
section
variable {X:Cx}{a b c:Expr}{fa fb fc:Env->Option D}{pos:Pos}{rest:List Expr}
noncomputable def l5(fa fb:Env->Option D):Env->Option D:=fun ρ=>(fa ρ).bind fun|.bool true=>fb ρ|.bool false=>some (.bool false)|_=>none
noncomputable def PQ(fa fb:Env->Option D):Env->Option D:=fun ρ=>(fa ρ).bind fun|.bool true=>some (.bool true)|.bool false=>fb ρ|_=>none
noncomputable def NQ:D->Option D|.bool b=>some (.bool (!b))|_=>none
noncomputable def MA(fa:Env->Option D):Env->Option D:=fun ρ=>(fa ρ).bind NQ
theorem Lm{op}(h:DE X a fa):DE X (.BoolOp op [a] pos) fa:=LZ h
theorem Mw(ha:DE X a fa)(hb:DE X (.BoolOp .And (b::rest) pos) fb):DE X (.BoolOp .And (a::b::rest) pos) (l5 fa fb):=bu (Mn ha hb) fun σ H Q ⟨HF,ρ,d,sm,eo,hf,q⟩=>by
 obtain⟨x,hx,hf⟩:=bs hf
 refine⟨HF,ρ,x,sm,eo,hx,fun v1 H1 HF1 g1 r1=>?_⟩
 cases x<;>try cases hf
 rename_i k
 simp only[Rep] at r1
 refine⟨k,r1,?_⟩
 cases k with
 | true=>exact zq ⟨HF1,ρ,d,g1.fh,eo.mono g1.ff,hf,fun v H' HF' g r=>q v H' HF' (g1.trans g) r⟩
 | false=>cases hf;exact yd (q _ H1 HF1 g1 (by simp[Rep]))
theorem Ov(ha:DE X a fa)(hb:DE X (.BoolOp .Or (b::rest) pos) fb):DE X (.BoolOp .Or (a::b::rest) pos) (PQ fa fb):=bu (Fz ha hb) fun σ H Q ⟨HF,ρ,d,sm,eo,hf,q⟩=>by
 obtain⟨x,hx,hf⟩:=bs hf
 refine⟨HF,ρ,x,sm,eo,hx,fun v1 H1 HF1 g1 r1=>?_⟩
 cases x<;>try cases hf
 rename_i k
 simp only[Rep] at r1
 refine⟨k,r1,?_⟩
 cases k with
 | false=>exact yd ⟨HF1,ρ,d,g1.fh,eo.mono g1.ff,hf,fun v H' HF' g r=>q v H' HF' (g1.trans g) r⟩
 | true=>cases hf;exact zq (q _ H1 HF1 g1 (by simp[Rep]))
theorem Lp(ha:DE X a fa):DE X (.UnaryOp .Not a pos) (MA fa):=bu (Ma ha) fun σ H Q ⟨HF,ρ,d,sm,eo,hf,q⟩=>by
 obtain⟨x,hx,hf⟩:=bs hf
 refine⟨HF,ρ,x,sm,eo,hx,fun v1 H1 HF1 g1 r1=>?_⟩
 cases x<;>try cases hf
 rename_i k
 simp only[Rep] at r1
 exact⟨k,r1,q _ H1 HF1 g1 (by simp[Rep])⟩
noncomputable def gB:D->Option Bool|.bool b=>some b|_=>none
noncomputable def fB(f:Env->Option D):Env->Option Bool:=fun ρ=>(f ρ).bind gB
theorem BC{f:Env->Option D}:∀σ H (Q:Bool->Hp->Prop),Lo X.K (fB f) σ H Q->tD X.K f σ H fun x H1=>∃c,x=.bl c/\Q c H1:=fun σ H Q ⟨HF,ρ,k,sm,eo,hf,q⟩=>by
 obtain⟨x,hx,hf⟩:=bs hf
 refine⟨HF,ρ,x,sm,eo,hx,fun v1 H1 HF1 g1 r1=>?_⟩
 cases x<;>try cases hf
 simp only[Rep] at r1
 exact⟨_,r1,q H1 HF1 g1⟩
theorem Ll{f:Env->Option D}(h:DE X a f)(he:∀whole,isTrue a X.env whole=(do let v <- whole;standAt a.pos;holding [v] (truthy v)):=by intro _;rfl):DT X a (fB f):=wH (Lq h he) BC
theorem jF{op:CmpOp}{r:R2}{g:D->D->Option D}(ho:ja X (compareOp op) r)(hr:gx X.K r g)(ha:DE X a fa)(hb:DE X b fb)(hm:behindInMarks op b=false):DT X (.Compare a [op] [b] pos) (fB (f2 g fa fb)) :=
 wH (J8 ho ha hb hm) fun σ H Q h=>Kd hr σ H _ (BC σ H Q h)
noncomputable def cX(fa fb:Env->Option Bool):Env->Option Bool:=fun ρ=>(fa ρ).bind fun|true=>fb ρ|false=>some false
noncomputable def Bg(fa fb:Env->Option Bool):Env->Option Bool:=fun ρ=>(fa ρ).bind fun|true=>some true|false=>fb ρ
noncomputable def bM(fa:Env->Option Bool):Env->Option Bool:=fun ρ=>(fa ρ).map (!·)
variable {ta tb:Env->Option Bool}
def DW(X:Cx)(e:Expr)(f:Env->Option Bool):Prop:=PW X e (Lo X.K f)
theorem Hu{e:Expr}{t t':TT}(h:PW X e t)(i:∀σ H Q,t' σ H Q->t σ H Q):PW X e t':=fun wh pins s σ H Q I q=>h wh pins s σ H Q I (i σ H Q q)
theorem DW.dt(h:DW X a ta):DT X a ta:=PW.pt h
theorem JJ(ha:DT X a ta):DW X (.BoolOp .And [a] pos) ta:=Ko ha
theorem M7(ha:DT X a ta):DW X (.BoolOp .Or [a] pos) ta:=LC ha
theorem Md(ha:DT X a ta)(hb:DW X (.BoolOp .And (b::rest) pos) tb):DW X (.BoolOp .And (a::b::rest) pos) (cX ta tb):=Hu (Nu ha hb) fun σ H Q ⟨HF,ρ,d,sm,eo,hf,q⟩=>by
 obtain⟨x,hx,hf⟩:=bs hf
 refine⟨HF,ρ,x,sm,eo,hx,fun H1 HF1 g1=>?_⟩
 cases x with
 | true=>exact zq ⟨HF1,ρ,d,g1.fh,eo.mono g1.ff,hf,fun H' HF' g=>q H' HF' (g1.trans g)⟩
 | false=>cases hf;exact yd (q H1 HF1 g1)
theorem Om(ha:DT X a ta)(hb:DW X (.BoolOp .Or (b::rest) pos) tb):DW X (.BoolOp .Or (a::b::rest) pos) (Bg ta tb):=Hu (Ot ha hb) fun σ H Q ⟨HF,ρ,d,sm,eo,hf,q⟩=>by
 obtain⟨x,hx,hf⟩:=bs hf
 refine⟨HF,ρ,x,sm,eo,hx,fun H1 HF1 g1=>?_⟩
 cases x with
 | false=>exact yd ⟨HF1,ρ,d,g1.fh,eo.mono g1.ff,hf,fun H' HF' g=>q H' HF' (g1.trans g)⟩
 | true=>cases hf;exact zq (q H1 HF1 g1)
theorem LV(ha:DT X a ta):DT X (.UnaryOp .Not a pos) (bM ta):=wH (Ng ha) fun σ H Q ⟨HF,ρ,d,sm,eo,hf,q⟩=>by
 have hf:(ta ρ).map (!·)=some d:=hf
 cases e:ta ρ with
 | none=>rw[e] at hf;cases hf
 | some k=>rw[e] at hf;cases hf;exact⟨HF,ρ,k,sm,eo,e,fun H1 HF1 g1=>q H1 HF1 g1⟩
noncomputable def QM(tc:Env->Option Bool)(fa fb:Env->Option D):Env->Option D:=fun ρ=>(tc ρ).bind fun|true=>fa ρ|false=>fb ρ
theorem Oe{c:Expr}(hc:DT X c ta)(ha:DE X a fa)(hb:DE X b fb):DE X (.IfExp c a b pos) (QM ta fa fb):=bu (Fs hc ha hb) fun σ H Q ⟨HF,ρ,d,sm,eo,hf,q⟩=>by
 obtain⟨x,hx,hf⟩:=bs hf
 refine⟨HF,ρ,x,sm,eo,hx,fun H1 HF1 g1=>?_⟩
 cases x with
 | true=>exact zq ⟨HF1,ρ,d,g1.fh,eo.mono g1.ff,hf,fun v H' HF' g r=>q v H' HF' (g1.trans g) r⟩
 | false=>exact yd ⟨HF1,ρ,d,g1.fh,eo.mono g1.ff,hf,fun v H' HF' g r=>q v H' HF' (g1.trans g) r⟩
noncomputable def k4(g g':D->D->Option D)(fa fb fc:Env->Option D):Env->Option D:=fun ρ=>(fa ρ).bind fun x=>(fb ρ).bind fun y=>(g x y).bind fun|.bool true=>(fc ρ).bind fun z=>g' y z|.bool false=>some (.bool false)|_=>none
theorem C5{r r':R2}{g g':D->D->Option D}(hr:gx X.K r g)(hr':gx X.K r' g'):∀σ H Q,tD X.K (k4 g g' fa fb fc) σ H Q->BL r r' (tD X.K fa) (tD X.K fb) (tD X.K fc) σ H Q:=fun σ H Q ⟨HF,ρ,d,sm,eo,hf,q⟩=>by
 obtain⟨x,hx,hf⟩:=bs hf
 obtain⟨y,hy,hf⟩:=bs hf
 obtain⟨z,hz,hf⟩:=bs hf
 refine⟨HF,ρ,x,sm,eo,hx,fun v1 H1 HF1 g1 r1=>⟨HF1,ρ,y,g1.fh,eo.mono g1.ff,hy,fun v2 H2 HF2 g2 r2=>hr HF2 H2 x y v1 v2 z _ g2.fh (r1.mono g2.ff) r2 hz fun v3 H3 HF3 g3 r3=>?_⟩⟩
 cases z<;>try cases hf
 rename_i k
 simp only[Rep] at r3
 refine⟨k,r3,?_⟩
 have G:=(g1.trans g2).trans g3
 cases k with
 | false=>cases hf;exact yd (q _ H3 HF3 G (by simp[Rep]))
 | true =>
  obtain⟨w,hw,hg⟩:=bs hf
  exact zq ⟨HF3,ρ,w,G.fh,eo.mono G.ff,hw,fun v4 H4 HF4 g4 r4=>hr' HF4 H4 y w v2 v4 d Q g4.fh (r2.mono (g3.ff.trans g4.ff)) r4 hg fun v H' HF' g5 r5=>q v H' HF' ((G.trans g4).trans g5) r5⟩
theorem Fg{op op':CmpOp}{r r':R2}{g g':D->D->Option D}(ho:ja X (compareOp op) r)(hr:gx X.K r g)(ho':ja X (compareOp op') r')(hr':gx X.K r' g')(ha:DE X a fa)(hb:DE X b fb)(hc:DE X c fc)
  (hm:lastMarks [op,op'] [b,c]=false:=by with_unfolding_all rfl):DE X (.Compare a [op,op'] [b,c] pos) (k4 g g' fa fb fc):=bu (Gx ho ho' ha hb hc hm) (C5 hr hr')
theorem GC{op op':CmpOp}{r r':R2}{g g':D->D->Option D}(ho:ja X (compareOp op) r)(hr:gx X.K r g)(ho':ja X (compareOp op') r')(hr':gx X.K r' g')(ha:DE X a fa)(hb:DE X b fb)(hc:DE X c fc)
  (hm:lastMarks [op,op'] [b,c]=false:=by with_unfolding_all rfl):DT X (.Compare a [op,op'] [b,c] pos) (fB (k4 g g' fa fb fc)) :=
 wH (GJ ho ho' ha hb hc hm) fun σ H Q h=>C5 hr hr' σ H _ (BC σ H Q h)
noncomputable def ae:Env->Option (List D):=fun _=>some []
noncomputable def aa(f:Env->Option D)(g:Env->Option (List D)):Env->Option (List D):=fun ρ=>(f ρ).bind fun x=>(g ρ).map (x::·)
theorem E2:DA X [] ae:=FX iY fun σ H Q ⟨HF,ρ,d,sm,eo,hf,q⟩=>by cases hf;exact q [] H HF (.refl sm) aw.nil
theorem BV{e:Expr}{es:List Expr}{f:Env->Option D}{g:Env->Option (List D)}(he:DE X e f)(hs:DA X es g)(hst:starEach (e::es) X.env=(false,eval e X.env)::starEach es X.env:=by rfl):DA X (e::es) (aa f g) :=
 FX (dE he hs hst) fun σ H Q ⟨HF,ρ,d,sm,eo,hf,q⟩=>by
  obtain⟨x,hx,hf⟩:=bs hf
  have hf:(g ρ).map (x::·)=some d:=hf
  cases e1:g ρ with
  | none=>rw[e1] at hf;cases hf
  | some xs =>
   rw[e1] at hf;cases hf
   exact⟨HF,ρ,x,sm,eo,hx,fun v1 H1 HF1 g1 r1=>⟨HF1,ρ,xs,g1.fh,eo.mono g1.ff,e1,fun vs H2 HF2 g2 r2=>q (v1::vs) H2 HF2 (g1.trans g2) (aw.cons (r1.mono g2.ff) r2)⟩⟩
variable {es:List Expr}{fs:Env->Option (List D)}
noncomputable def small(ds:List D):Option (List D):=if ds.length<=sizeLine then some ds else none
theorem fx{ds es:List D}(h:small ds=some es):es=ds/\ds.length<=sizeLine:=by
 unfold small at h
 split at h
 ·cases h;exact⟨rfl,‹_›⟩
 ·cases h
noncomputable def aP(g:Env->Option (List D)):Env->Option D:=fun ρ=>(g ρ).bind fun ds=>(small ds).map PyData.tuple
noncomputable def kl(g:Env->Option (List D)):Env->Option (List D):=fun ρ=>(g ρ).bind small
theorem LM{x1}(h:DA X es fs):DE X (.Tuple es x1 pos) (aP fs):=bu (MT h) fun σ H Q ⟨HF,ρ,d,sm,eo,hf,q⟩=>by
 obtain⟨ds,hx,hf⟩:=bs hf
 have hf:(small ds).map PyData.tuple=some d:=hf
 cases e:small ds with
 | none=>rw[e] at hf;cases hf
 | some es' =>
  rw[e] at hf;cases hf
  obtain⟨rfl,hz⟩:=fx e
  refine⟨HF,ρ,_,sm,eo,hx,fun vs H1 HF1 g1 r1=>⟨by rw[r1.length];exact hz,fun p hp=>q _ _ (upd HF1 p (.tup vs)) (g1.trans (.new g1.fh hp)) ?_⟩⟩
  simp only[Rep]
  exact⟨p,vs,rfl,.inl (.inl aO),r1.mono (eH (g1.fh.free hp))⟩
theorem L6(h:DA X es fs):DF X (.List es pos) (kl fs):=bu (FS h) fun σ H Q ⟨HF,ρ,d,sm,eo,hf,q⟩=>by
 obtain⟨ds,hx,hf⟩:=bs hf
 obtain⟨rfl,hz⟩:=fx hf
 exact⟨HF,ρ,_,sm,eo,hx,fun vs H1 HF1 g1 r1=>⟨by rw[r1.length];exact hz,fun p hp=>q p vs _ HF1 (g1.trans (.own g1.fh hp)) (g1.hh.free hp) (g1.fh.free hp) aO r1⟩⟩
noncomputable def ak:D->D->Option D
 | .tuple ds,.int i=>vg ds i
 | .list ds,.int i=>vg ds i
 | _,_=>none
theorem yf{K:W.Frag}{HF:Hp}{ds:List D}{vs:List V}{i:Int}{d:D}(r:aw K HF ds vs)(h:vg ds i=some d):∃v,vg vs i=some v/\Rep K HF d v:=by
 unfold vg at h ⊢
 rw[r.length]
 obtain⟨j,hj,h⟩:=bs h
 obtain⟨v,a,b⟩:=r.getD h
 exact⟨v,by rw[hj];exact a,b⟩
theorem NF{K:W.Frag}:gx K (QJ K) ak:=by
 intro HF H x y v1 v2 d Q sm r1 r2 hg q
 cases x<;>cases y<;>simp only[ak] at hg<;>try cases hg
 ·simp only[Rep] at r1 r2
  obtain⟨a,vs,rfl,hs,r⟩:=r1
  obtain⟨v,hv,rv⟩:=yf r hg
  exact .inl ⟨a,vs,_,v,rfl,r2,sm.seq hs,hv,q v H HF (.refl sm) rv⟩
 ·simp only[Rep] at r1 r2
  obtain⟨a,vs,rfl,hs,r⟩:=r1
  obtain⟨v,hv,rv⟩:=yf r hg
  exact .inr (.inl ⟨a,vs,_,v,rfl,r2,aI sm hs,hv,q v H HF (.refl sm) rv⟩)
theorem OR(ha:DE X a fa)(hb:DE X b fb)(hs:pW b:=by intro _ _;rfl):DE X (.Subscript a b pos) (f2 ak fa fb):=bu (K2 MU ha hb hs) (Kd NF)
mutual
theorem gQ{pins:List (Addr×Obj)}{σ:L2.St}{H HF:Hp}{s:Shared}(I:Inv X pins σ H s)(sm:bo HF H):∀ {d:D}{v:V}{u:Value},Rep X.K HF d v->RelV v u->∃as,Reads s.heap u d as
 | .none,_,_,h,r=>by simp only[Rep] at h;subst h;cases r;exact⟨_,.none⟩
 | .bool b,_,_,h,r=>by simp only[Rep] at h;subst h;cases r;exact⟨_,.bool b⟩
 | .int i,_,_,h,r=>by simp only[Rep] at h;subst h;obtain⟨t,rfl⟩:=r;exact⟨_,.int i t⟩
 | .str i,_,_,h,r=>by simp only[Rep] at h;subst h;obtain⟨t,rfl⟩:=r;exact⟨_,.str i t⟩
 | .tuple ds,_,_,h,r=>by
  simp only[Rep] at h
  obtain⟨a,vs,rfl,hs,rr⟩:=h
  cases r
  obtain⟨its,rv,⟨o,ho,hc,n,hd⟩,_⟩:=I.tuple (aI sm hs)
  obtain⟨as,q⟩:=oz I sm rr rv
  exact⟨as,.tuple ho hc hd (by simpa using q)⟩
 | .list ds,_,_,h,r=>by
  simp only[Rep] at h
  obtain⟨a,vs,rfl,hs,rr⟩:=h
  cases r
  obtain⟨its,rv,pl,_⟩:=I.list (sm.seq hs)
  obtain⟨o,ho,hc,n,hd⟩:=pl.isList
  obtain⟨as,q⟩:=oz I sm rr rv
  exact⟨_,.list ho hc hd (by simpa using q)⟩
 | .dict _,_,_,h,r=>by simp only[Rep] at h
theorem oz{pins:List (Addr×Obj)}{σ:L2.St}{H HF:Hp}{s:Shared}(I:Inv X pins σ H s)(sm:bo HF H):∀ {ds:List D}{vs:List V}{us:List Value},aw X.K HF ds vs->aM vs us->∃as,ReadsAll s.heap us ds as
 | [],_,_,h,r=>by rw[h.nil_inv] at r;cases r;exact⟨_,.nil⟩
 | d::ds,_,_,h,r=>by
  obtain⟨v,vr,rfl,a,b⟩:=h.cons_inv
  cases r with
  | cons r rr =>
   obtain⟨as,q⟩:=gQ I sm a r
   obtain⟨bs,p⟩:=oz I sm b rr
   exact⟨_,.cons q p⟩
end
def NW(K:W.Frag)(g:D->D->Option Bool):R2:=fun v1 v2 H Q=>∃HF x y k,bo HF H/\Rep K HF x v1/\Rep K HF y v2/\g x y=some k/\Q (.bl k) H
theorem lE{K:W.Frag}{g:D->D->Option Bool}:gx K (NW K g) (fun x y=>(g x y).map PyData.bool):=by
 intro HF H x y v1 v2 d Q sm r1 r2 hg q
 have hg:(g x y).map PyData.bool=some d:=hg
 cases e:g x y with
 | none=>rw[e] at hg;cases hg
 | some k=>rw[e] at hg;cases hg;exact⟨HF,x,y,k,sm,r1,r2,e,q _ H HF (.refl sm) (by simp[Rep])⟩
noncomputable def MM(x y:D):Option Bool:=if SeqAt.shaped x=true/\SeqAt.shaped y=true then some (PyData.eqv x y) else none
noncomputable def LG(x y:D):Option Bool:=if SeqAt.shaped x=true/\SeqAt.shaped y=true then some (!PyData.eqv x y) else none
theorem Ff(hu:X.A.units+64 < cLine):ja X (compareOp .Eq) (NW X.K MM):=by
 intro pins s σ H v1 v2 u1 u2 Q I rx ry h
 obtain⟨HF,x,y,k,sm,r1,r2,hg,q⟩:=h
 unfold MM at hg
 split at hg<;>cases hg
 rename_i hh
 obtain⟨as,ra⟩:=gQ I sm r1 rx
 obtain⟨bs,rb⟩:=gQ I sm r2 ry
 exact eq_dataH ra rb hh.1 hh.2 hu ⟨.bl _,H,I,rfl,q⟩
theorem Fd(hu:X.A.units+64 < cLine):ja X (compareOp .NotEq) (NW X.K LG):=by
 intro pins s σ H v1 v2 u1 u2 Q I rx ry h
 obtain⟨HF,x,y,k,sm,r1,r2,hg,q⟩:=h
 unfold LG at hg
 split at hg<;>cases hg
 rename_i hh
 obtain⟨as,ra⟩:=gQ I sm r1 rx
 obtain⟨bs,rb⟩:=gQ I sm r2 ry
 exact ne_dataH ra rb hh.1 hh.2 hu ⟨.bl _,H,I,rfl,q⟩
noncomputable def items:D->Option (List D)|.tuple ds=>some ds|.list ds=>some ds|_=>none
noncomputable def Pi(x y:D):Option Bool:=match y with
 | .tuple ds=>if SeqAt.shaped x=true/\SeqAt.shaped y=true then some (ds.any fun z=>PyData.eqv z x) else none
 | .list ds=>if SeqAt.shaped x=true/\SeqAt.shaped y=true then some (ds.any fun z=>PyData.eqv z x) else none
 | _=>none
theorem Gu(hu:X.A.units+66 < cLine):ja X (compareOp .In) (NW X.K Pi):=by
 intro pins s σ H v1 v2 u1 u2 Q I rx ry h
 obtain⟨HF,x,y,k,sm,r1,r2,hg,q⟩:=h
 obtain⟨as,ra⟩:=gQ I sm r1 rx
 obtain⟨bs,rb⟩:=gQ I sm r2 ry
 cases y<;>simp only[Pi] at hg<;>try cases hg
 all_goals
  split at hg<;>cases hg
  rename_i ds hh
  have c1:=SeqAt.canLay_of_shaped hh.1
  have c2:=SeqAt.canLay_of_shaped hh.2
  have d1:=SeqAt.depth_of_shaped hh.1
  simp only[PyData.canLay0] at c2
  have m:=Nat.min_le_right (PyData.depthAll ds) x.depth
  first
   | exact SeqAt.in_list_reads rb ra c2 c1 (by omega) ⟨.bl _,H,I,rfl,q⟩
   | exact SeqAt.in_tuple_reads rb ra c2 c1 (by omega) ⟨.bl _,H,I,rfl,q⟩
end
noncomputable def MH(K:W.Frag)(n:Nat)(m:List D->Option D):Sp:=fun vs H Q _=>∃HF ds d,bo HF H/\gZ K HF/\aw K HF ds vs/\ds.length=n/\m ds=some d/\∀v H' HF',cC HF H HF' H'->Rep K HF' d v->Q v H'
structure dk(P:Program)(w:World)(K:W.Frag)(mg:Str->Option Value)(base:Heap)(k:Nat)(x:Str)(n:Nat)(m:List D->Option D):Prop where
 ex:∃ (f:Addr) (fd:FuncData) (ps:List Str),pG P w K mg base Mm k f fd ps (MH K n m)/\mg x=some (.ref f)/\W.keepIn K (.ref f)=true/\Binds K fd ps []
theorem dk.mono{P:Program}{w:World}{K:W.Frag}{mg:Str->Option Value}{base:Heap}{k j:Nat}{x:Str}{n:Nat}{m:List D->Option D}(F:dk P w K mg base k x n m)(h:k<=j):dk P w K mg base j x n m:=by
 obtain⟨f,fd,ps,a,b,c,d⟩:=F.ex
 exact⟨f,fd,ps,a.mono h,b,c,d⟩
section
variable {X:Cx}{a b c e:Expr}{es:List Expr}{fa fb fc:Env->Option D}{fs:Env->Option (List D)}{pos p:Pos}{x:Str}
noncomputable def ah(n:Nat)(m:List D->Option D)(fs:Env->Option (List D)):Env->Option D:=fun ρ=>(fs ρ).bind fun ds=>if ds.length=n then m ds else none
theorem Kc{k n:Nat}{m:List D->Option D}(F:dk X.prog X.w X.K X.mg X.base k x n m)(hr:eS k X.A)(hg:Gl X x)(ha:DA X (e::es) fs)(hdb:(x == ("__debug__":Str))=false:=by decide)
  (he:starEach (e::es) X.env=(false,eval e X.env)::starEach es X.env:=by rfl) (hpl:(backTo pos (starEach es X.env)).any (·.1)=false:=by rfl):DE X (.Call (.Name x p) (e::es) [] pos) (ah n m fs):=by
 obtain⟨f,fd,ps,ok,hm,hk,hb⟩:=F.ex
 refine bu (Io (E:=E0) ok hr hg hm hk hb .nil K6 ha hdb he hpl) fun σ H Q ⟨HF,ρ,d,sm,eo,hf,q⟩=>?_
 obtain⟨ds,hx,hf⟩:=bs hf
 split at hf
 ·rename_i hl
  exact⟨HF,ρ,ds,sm,eo,hx,fun vs H1 HF1 g1 r1=>⟨HF1,ds,d,g1.fh,eo.tb.mono g1.ff,by rw[List.append_nil];exact r1,hl,hf,fun v H' HF' g r=>q v H' HF' (g1.trans g) r⟩⟩
 ·cases hf
def FT(K:W.Frag)(r:List V->Hp->VK->Prop)(g:List D->Option D):Prop:=∀HF H ds vs d Q,bo HF H->aw K HF ds vs->g ds=some d->(∀v H' HF',cC HF H HF' H'->Rep K HF' d v->Q v H')->r vs H Q
noncomputable def br(g:List D->Option D)(fs:Env->Option (List D)):Env->Option D:=fun ρ=>(fs ρ).bind g
theorem Ol{r:List V->Hp->VK->Prop}{g:List D->Option D}(hs:FT X.K r g):∀σ H Q,tD X.K (br g fs) σ H Q->Pf r (Qv X.K fs) σ H Q:=fun σ H Q ⟨HF,ρ,d,sm,eo,hf,q⟩=>by
 obtain⟨ds,hx,hf⟩:=bs hf
 exact⟨HF,ρ,ds,sm,eo,hx,fun vs H1 HF1 g1 r1=>hs HF1 H1 ds vs d Q g1.fh r1 hf fun v H' HF' g2 r2=>q v H' HF' (g1.trans g2) r2⟩
def Dc(K:W.Frag)(r:List V->Hp->VK->Prop)(g:List D->Option (List D)):Prop:=∀HF H ds vs es Q,bo HF H->aw K HF ds vs->g ds=some es ->
 (∀a us H' HF',cC HF H HF' H'->H a=none->HF' a=none->H' a=some (.lst us)->aw K HF' es us->Q (.ref a) H')->r vs H Q
noncomputable def mJ(g:List D->Option (List D))(fs:Env->Option (List D)):Env->Option (List D):=fun ρ=>(fs ρ).bind g
theorem KW{r:List V->Hp->VK->Prop}{g:List D->Option (List D)}(hs:Dc X.K r g):∀σ H Q,tF X.K (mJ g fs) σ H Q->Pf r (Qv X.K fs) σ H Q:=fun σ H Q ⟨HF,ρ,d,sm,eo,hf,q⟩=>by
 obtain⟨ds,hx,hf⟩:=bs hf
 exact⟨HF,ρ,ds,sm,eo,hx,fun vs H1 HF1 g1 r1=>hs HF1 H1 ds vs d Q g1.fh r1 hf fun a us H' HF' g2 ha hf' h' r2=>q a us H' HF' (g1.trans g2) (g1.hh.free ha) hf' h' r2⟩
structure pA(X:Cx)(x:Str)(v:Value):Prop where
 gl:Gl X x
 mg:X.mg x=none
 bt:bootBuiltins x=some v
theorem ji{id:String}{r:List V->Hp->VK->Prop}{g:List D->Option D}(hc:eW X (.builtin id) r)(hs:FT X.K r g)(B:pA X x (.builtin id))(ha:DA X (e::es) fs)(hn:x≠"__name__":=by decide)(hdb:(x == ("__debug__":Str))=false:=by decide)
  (he:starEach (e::es) X.env=(false,eval e X.env)::starEach es X.env:=by rfl) (hpl:(backTo pos (starEach es X.env)).any (·.1)=false:=by rfl):DE X (.Call (.Name x p) (e::es) [] pos) (br g fs) :=
 bu (n6 hc B.gl B.mg B.bt ha hn hdb he hpl) (Ol hs)
theorem FU{id:String}{r:List V->Hp->VK->Prop}{g:List D->Option (List D)}(hc:eW X (.builtin id) r)(hs:Dc X.K r g)(B:pA X x (.builtin id))(ha:DA X (e::es) fs)(hn:x≠"__name__":=by decide)(hdb:(x == ("__debug__":Str))=false:=by decide)
  (he:starEach (e::es) X.env=(false,eval e X.env)::starEach es X.env:=by rfl) (hpl:(backTo pos (starEach es X.env)).any (·.1)=false:=by rfl):DF X (.Call (.Name x p) (e::es) [] pos) (mJ g fs) :=
 bu (n6 hc B.gl B.mg B.bt ha hn hdb he hpl) (KW hs)
theorem Dw{T:String}{r:List V->Hp->VK->Prop}{g:List D->Option D}(hc:eW X (.type T) r)(hs:FT X.K r g)(B:pA X x (.type T))(ha:DA X (e::es) fs)(hn:x≠"__name__":=by decide)(hdb:(x == ("__debug__":Str))=false:=by decide)
  (he:starEach (e::es) X.env=(false,eval e X.env)::starEach es X.env:=by rfl) (hpl:(backTo pos (starEach es X.env)).any (·.1)=false:=by rfl):DE X (.Call (.Name x p) (e::es) [] pos) (br g fs) :=
 bu (oY hc B.gl B.mg B.bt ha hn hdb he hpl) (Ol hs)
theorem Et{T:String}{r:List V->Hp->VK->Prop}{g:List D->Option (List D)}(hc:eW X (.type T) r)(hs:Dc X.K r g)(B:pA X x (.type T))(ha:DA X (e::es) fs)(hn:x≠"__name__":=by decide)(hdb:(x == ("__debug__":Str))=false:=by decide)
  (he:starEach (e::es) X.env=(false,eval e X.env)::starEach es X.env:=by rfl) (hpl:(backTo pos (starEach es X.env)).any (·.1)=false:=by rfl):DF X (.Call (.Name x p) (e::es) [] pos) (mJ g fs) :=
 bu (oY hc B.gl B.mg B.bt ha hn hdb he hpl) (KW hs)
noncomputable def iF:D->Option (List D)|.tuple ds=>some ds|.list ds=>some ds|_=>none
noncomputable def oneOf:List D->Option D|[d]=>some d|_=>none
theorem hZ{ds:List D}{d:D}(h:oneOf ds=some d):ds=[d]:=by
 cases ds with
 | nil=>cases h
 | cons x r=>cases r with
  | nil=>cases h;rfl
  | cons _ _=>cases h
theorem mE{d:D}{ds:List D}(h:iF d=some ds):d=.tuple ds\/d=.list ds:=by
 cases d<;>cases h
 ·exact .inr rfl
 ·exact .inl rfl
noncomputable def dN:List D->Option (List D):=fun ds=>(oneOf ds).bind iF
theorem ix{ds es:List D}(h:dN ds=some es):ds=[.tuple es]\/ds=[.list es]:=by
 obtain⟨d,h1,h2⟩:=bs h
 rw[hZ h1]
 rcases mE h2 with rfl|rfl
 ·exact .inl rfl
 ·exact .inr rfl
noncomputable def bR:List D->Option D:=fun ds=>(dN ds).map fun es=>.int es.length
theorem ag{α β:Type}{x:Option α}{f:α->β}{b:β}(h:x.map f=some b):∃a,x=some a/\f a=b:=by
 cases x with
 | none=>cases h
 | some a=>exact⟨a,rfl,Option.some.inj h⟩
theorem J7{K:W.Frag}:FT K (fun xs H Q=>∃p ys,xs=[.ref p]/\(i8 K H p ys\/jA K H p ys)/\Q (.int ys.length) H) bR:=by
 intro HF H ds vs d Q sm r hg q
 obtain⟨es,h1,rfl⟩:=ag hg
 rcases ix h1 with rfl|rfl
 all_goals
  obtain⟨v,r',rfl,a,b⟩:=r.cons_inv
  rw[b.nil_inv]
  simp only[Rep] at a
  obtain⟨p,us,rfl,h,rr⟩:=a
 ·exact⟨p,us,rfl,.inr (aI sm h),q _ H HF (.refl sm) (by simp[Rep,rr.length])⟩
 ·exact⟨p,us,rfl,.inl (sm.seq h),q _ H HF (.refl sm) (by simp[Rep,rr.length])⟩
theorem MN(B:pA X "len" (.builtin "len"))(ha:DA X [e] fs)(he:starEach [e] X.env=(false,eval e X.env)::starEach [] X.env:=by rfl):DE X (.Call (.Name "len" p) [e] [] pos) (br bR fs) :=
 ji u6 J7 B ha (by decide) (by decide) he rfl
theorem HE{K:W.Frag}:Dc K (fun xs H Q=>∃p ys,xs=[.ref p]/\(i8 K H p ys\/jA K H p ys)/\∀l,H l=none->Q (.ref l) (upd H l (.lst ys))) dN:=by
 intro HF H ds vs d Q sm r hg q
 rcases ix hg with rfl|rfl
 all_goals
  obtain⟨v,r',rfl,a,b⟩:=r.cons_inv
  rw[b.nil_inv]
  simp only[Rep] at a
  obtain⟨p,us,rfl,h,rr⟩:=a
 ·exact⟨p,us,rfl,.inr (aI sm h),fun l hl=>q l us _ HF (.own sm hl) hl (sm.free hl) aO rr⟩
 ·exact⟨p,us,rfl,.inl (sm.seq h),fun l hl=>q l us _ HF (.own sm hl) hl (sm.free hl) aO rr⟩
theorem Kz(B:pA X "list" (.type "list"))(ha:DA X [e] fs)(he:starEach [e] X.env=(false,eval e X.env)::starEach [] X.env:=by rfl):DF X (.Call (.Name "list" p) [e] [] pos) (mJ dN fs) :=
 Et wI HE B ha (by decide) (by decide) he rfl
theorem e9{K:W.Frag}{HF:Hp}{l:Addr}{ds:List D}{vs:List V}(h:HF l=none)(r:aw K HF ds vs):Rep K (upd HF l (.tup vs)) (.tuple ds) (.ref l):=by
 simp only[Rep];exact⟨l,vs,rfl,.inl (.inl aO),r.mono (eH h)⟩
theorem Es{K:W.Frag}:FT K (fun xs H Q=>∃p ys,xs=[.ref p]/\((i8 K H p ys/\∀l,H l=none->Q (.ref l) (upd H l (.tup ys)))\/(jA K H p ys/\Q (.ref p) H))) (fun ds=>(dN ds).map PyData.tuple):=by
 intro HF H ds vs d Q sm r hg q
 obtain⟨es,h1,rfl⟩:=ag hg
 rcases ix h1 with rfl|rfl
 all_goals
  obtain⟨v,r',rfl,a,b⟩:=r.cons_inv
  rw[b.nil_inv]
  have a':=a
  simp only[Rep] at a
  obtain⟨p,us,rfl,h,rr⟩:=a
 ·exact⟨p,us,rfl,.inr ⟨aI sm h,q _ H HF (.refl sm) a'⟩⟩
 ·exact⟨p,us,rfl,.inl ⟨sm.seq h,fun l hl=>q _ _ _ (.new sm hl) (e9 (sm.free hl) rr)⟩⟩
theorem Gy(B:pA X "tuple" (.type "tuple"))(ha:DA X [e] fs)(he:starEach [e] X.env=(false,eval e X.env)::starEach [] X.env:=by rfl):DE X (.Call (.Name "tuple" p) [e] [] pos) (br (fun ds=>(dN ds).map PyData.tuple) fs) :=
 Dw tj Es B ha (by decide) (by decide) he rfl
noncomputable def iP:D->String|.none=>"NoneType" | .bool _=>"bool" | .int _=>"int" | .str _=>"str" | .tuple _=>"tuple" | .list _=>"list" | .dict _=>"dict"
noncomputable def we(a b:String):Option Bool:=if ((Value.type a) == (Value.type b))=true then some true else if W.kitMeta b=true then (fastBuiltinMro a).map (·.contains (Value.type b)) else none
theorem Iu:∀a∈["NoneType","bool","int","str","tuple","list"],we a "int"=some (a == "int"||a == "bool"):=by decide +kernel
theorem FG:∀a∈["NoneType","bool","int","str","tuple","list"],we a "bool"=some (a == "bool"):=by decide +kernel
theorem kit_tuple:∀a∈["NoneType","bool","int","str","tuple","list"],we a "tuple"=some (a == "tuple"):=by decide +kernel
theorem Ig{pins:List (Addr×Obj)}{σ:L2.St}{H HF:Hp}{s:Shared}{A:Around}{E:Value->Shared->Prop}{Q:Value->Shared->Prop}{d:D}{v:V}{u:Value}{T:String}{k:Bool}(I:Inv X pins σ H s)(sm:bo HF H)(r:Rep X.K HF d v)(rv:RelV v u)
  (e:we (iP d) T=some k) (h:∀tk,Q (.bool k) { s with toks:=tk }):wpAny (model X.prog X.w) A (call (.builtin "isinstance") [u,.type T]) Q E s:=by
 have e':W.kitOne X.K (.type (iP d)) (.type T)=some k:=e
 cases d<;>simp only[Rep] at r
 ·subst r;cases rv;exact W.kia_one W.kitx_none I.kIn True.intro e' (fun z=>nomatch z) h
 ·subst r;cases rv;exact W.kia_one W.kitx_bool I.kIn True.intro e' (fun z=>nomatch z) h
 ·subst r;obtain⟨t,rfl⟩:=rv;exact W.kia_one W.kitx_int I.kIn True.intro e' (fun z=>nomatch z) h
 ·subst r;obtain⟨t,rfl⟩:=rv;exact W.kia_one W.kitx_str I.kIn True.intro e' (fun z=>nomatch z) h
 ·obtain⟨a,vs,rfl,hs,rr⟩:=r
  cases rv
  obtain⟨its,rv,pl,_⟩:=I.list (sm.seq hs)
  obtain⟨o,ho,hc,n,hd⟩:=pl.isList
  exact W.kia_one W.kitx_list I.kIn ⟨o,ho,hc⟩ e' (fun z=>nomatch z) h
 ·obtain⟨a,vs,rfl,hs,rr⟩:=r
  cases rv
  obtain⟨its,rv,⟨o,ho,hc,n,hd⟩,_⟩:=I.tuple (aI sm hs)
  exact W.kia_one W.kitx_tuple I.kIn ⟨o,ho,hc⟩ e' (fun z=>nomatch z) h
noncomputable def Lh(T:String)(f:Env->Option D):Env->Option D:=fun ρ=>(f ρ).bind fun d=>(we (iP d) T).map PyData.bool
theorem N7{T:String}{xT:Str}{pT:Pos}{f:Env->Option D}(B:pA X "isinstance" (.builtin "isinstance"))(C:pA X xT (.type T))(h:DE X e f)(hn:xT≠"__name__":=by decide)(hd:(xT == ("__debug__":Str))=false:=by decide)
  (he:starEach [e,.Name xT pT] X.env=(false,eval e X.env)::starEach [.Name xT pT] X.env:=by rfl):DE X (.Call (.Name "isinstance" p) [e,.Name xT pT] [] pos) (Lh T f):=by
 have hc:eW X (.builtin "isinstance") (fun xs H Q=>∃HF d v k,xs=[v,.ty T]/\bo HF H/\Rep X.K HF d v/\we (iP d) T=some k/\Q (.bl k) H):=by
  intro pins s σ H xs us Q I r h
  obtain⟨HF,d,v,k,rfl,sm,rp,hk,q⟩:=h
  cases r with
  | cons ra rr =>
   cases rr with
   | cons rb rn =>
    cases rn
    cases rb
    exact Ig I sm rp ra hk fun tk=>⟨.bl k,H,I.tok _,rfl,q⟩
 refine bu (n6 hc B.gl B.mg B.bt (dE h (dE (JI (v:=.ty T) C.gl C.mg C.bt rfl hn hd) iY) he) (by decide) (by decide) he rfl) fun σ H Q ⟨HF,ρ,d,sm,eo,hf,q⟩=>?_
 obtain⟨x,hx,hf⟩:=bs hf
 obtain⟨k,hk,rfl⟩:=ag hf
 exact⟨HF,ρ,x,sm,eo,hx,fun v1 H1 HF1 g1 r1=>⟨HF1,x,v1,k,rfl,g1.fh,r1,hk,q _ H1 HF1 g1 (by simp[Rep])⟩⟩
noncomputable def Iv:D->D->Option D
 | .tuple xs,.tuple ys=>(small (xs++ys)).map PyData.tuple
 | _,_=>none
def Cf(K:W.Frag):R2:=fun x y H Q=>∃a b xs ys,x=.ref a/\y=.ref b/\jA K H a xs/\jA K H b ys/\xs.length+ys.length<=sizeLine /\
 (xs=[]->Q (.ref b) H)/\(ys=[]->Q (.ref a) H)/\(∀p,H p=none->Q (.ref p) (upd H p (.tup (xs++ys))))
theorem Ey:ja X (binaryOp .Add) (Cf X.K):=by
 intro pins s σ H x y v u Q I rx ry h
 obtain⟨a,b,xs,ys,rfl,rfl,ha,hb,hz,q0,q1,q2⟩:=h
 by_cases hx:xs=[]
 ·cases rx
  cases ry
  obtain⟨its,r1,p1,_⟩:=I.tuple ha
  obtain⟨its2,r2,p2,_⟩:=I.tuple hb
  obtain⟨⟨cls,dd,data,sl⟩,ho,hc,n,hd⟩:=id p1
  obtain⟨⟨cls2,dd2,data2,sl2⟩,ho2,hc2,n2,hd2⟩:=id p2
  simp only at hc hd hc2 hd2
  subst hc hd hc2 hd2
  have e:its=[]:=(L2.aM.nil_iff r1).mpr hx
  exact concat_meets ⟨_,ho,rfl⟩ ⟨_,ho2,rfl⟩ noFill_tuple_add seq_tuple_add PySem.F.slot_tuple_add PySem.F.entry_tuple_add (PySem.F.args_tuple_add_2 _ _)
   (tuple_addW0 a b its.toArray its2.toArray n n2 dd dd2 sl sl2 (by simp[e])) ⟨ho,ho2,⟨.ref b,H,I,rfl,q0 hx⟩⟩
 ·exact Kn pins s σ H _ _ v u Q I rx ry ⟨a,b,xs,ys,rfl,rfl,ha,hb,hx,hz,q1,fun _ p hp=>q2 p hp⟩
theorem J0{K:W.Frag}:gx K (Cf K) Iv:=by
 intro HF H x y v1 v2 d Q sm r1 r2 hg q
 cases x<;>cases y<;>simp only[Iv] at hg<;>try cases hg
 rename_i xs ys
 obtain⟨es,h1,rfl⟩:=ag hg
 obtain⟨rfl,hz⟩:=fx h1
 have r1':=r1
 have r2':=r2
 simp only[Rep] at r1 r2
 obtain⟨a,vs,rfl,ha,ra⟩:=r1
 obtain⟨b,us,rfl,hb,rb⟩:=r2
 refine⟨a,b,vs,us,rfl,rfl,aI sm ha,aI sm hb,by rw[ra.length,rb.length,<- zN];exact hz,fun e=>?_,fun e=>?_,fun p hp=>q _ _ _ (.new sm hp) (e9 (sm.free hp) (ra.append rb))⟩
 ·have:xs=[]:=by have:=ra.length;rw[e] at this;exact List.length_eq_zero_iff.mp this.symm
  subst this
  exact q _ H HF (.refl sm) r2'
 ·have:ys=[]:=by have:=rb.length;rw[e] at this;exact List.length_eq_zero_iff.mp this.symm
  subst this
  rw[List.append_nil] at q
  exact q _ H HF (.refl sm) r1'
end
structure uL(K:W.Frag)(J:It)(HF:Hp)(ds:List D):Prop where
 go:∀i d H₁ HF₁,ds[i]?=some d->bo HF HF₁->bo HF₁ H₁->J.go i H₁/\∀x H₂,J.yld i H₁ x H₂->∃HF₂,cC HF₁ H₁ HF₂ H₂/\Rep K HF₂ d x
 stop:∀H₁ HF₁,bo HF HF₁->bo HF₁ H₁->J.stop ds.length H₁
def QH(K:W.Frag)(f:Env->Option (List D)):TI:=fun σ H R=>∃HF ρ ds,bo HF H/\dm K HF ρ σ/\f ρ=some ds/\∀J H' HF',cC HF H HF' H'->uL K J HF' ds->R J H'
def DI(X:Cx)(tg iter:Expr)(f:Env->Option (List D)):Prop:=PI X tg iter (QH X.K f)
theorem Em{K:W.Frag}{HF:Hp}{a:Addr}{ds:List D}{vs:List V}(h:i8 K HF a vs)(r:aw K HF ds vs):uL K (Py K a) HF ds where
 go:=fun i d H₁ HF₁ e s1 s2=>by
  obtain⟨v,hv,rv⟩:=r.getD e
  have q:=s2.seq (s1.seq h)
  refine⟨⟨vs,v,q,hv⟩,fun x H₂ ⟨e2,hy⟩=>⟨HF₁,by rw[e2];exact .refl s2,?_⟩⟩
  have:=hy vs q
  rw[hv] at this
  cases this
  exact rv.mono s1
 stop:=fun H₁ HF₁ s1 s2=>⟨vs,s2.seq (s1.seq h),by rw[r.length];exact Nat.le_refl _⟩
theorem Gb{K:W.Frag}{HF:Hp}{a:Addr}{ds:List D}{vs:List V}(h:jA K HF a vs)(r:aw K HF ds vs):uL K (Pv K a) HF ds where
 go:=fun i d H₁ HF₁ e s1 s2=>by
  obtain⟨v,hv,rv⟩:=r.getD e
  have q:=aI s2 (aI s1 h)
  refine⟨⟨vs,v,q,hv⟩,fun x H₂ ⟨e2,hy⟩=>⟨HF₁,by rw[e2];exact .refl s2,?_⟩⟩
  have:=hy vs q
  rw[hv] at this
  cases this
  exact rv.mono s1
 stop:=fun H₁ HF₁ s1 s2=>⟨vs,aI s2 (aI s1 h),by rw[r.length];exact Nat.le_refl _⟩
theorem AI{K:W.Frag}{HF:Hp}{lo:Int}{n:Nat}:uL K (Pr lo n) HF ((List.range n).map fun i=>PyData.int (lo+(i:Nat))) where
 go:=fun i d H₁ HF₁ e s1 s2=>by
  rw[zO] at e
  obtain⟨j,hj,rfl⟩:=ag e
  obtain⟨hi,hj'⟩:=zU.mp hj
  have hi':i < n:=by simpa using hi
  have:j=i:=by rw[<- hj'];simp
  subst this
  exact⟨hi',fun x H₂ ⟨e2,hx⟩=>⟨HF₁,by rw[e2];exact .refl s2,by simp[Rep,hx]⟩⟩
 stop:=fun H₁ HF₁ s1 s2=>by
  show n<=_
  simp
section
variable {X:Cx}{tg l e:Expr}{f:Env->Option D}{fs:Env->Option (List D)}{pos p:Pos}
theorem vo{t t':TI}(h:PI X tg l t)(i:∀σ H R,t' σ H R->t σ H R):PI X tg l t':=fun pins s σ H R I q=>h pins s σ H R I (i σ H R q)
theorem Mi{tl:TE}(hl:PE X l tl):PI X tg l (fun σ H R=>tl σ H fun x H1=>∃a,x=.ref a/\((∃xs,i8 X.K H1 a xs/\R (Py X.K a) H1)\/∃xs,jA X.K H1 a xs/\R (Pv X.K a) H1)):=by
 intro pins s σ H R I h
 refine cK (hl pins s σ H _ I h) fun v s1 ⟨x,H1,I1,r1,q1⟩=>?_
 obtain⟨a,e,q⟩:=q1
 subst e
 cases r1
 rcases q with ⟨xs,hq,q⟩|⟨xs,hq,q⟩
 ·obtain⟨its,rv,pl,hz⟩:=I1.list hq
  refine wpAny_pyIter_list pl.isList ⟨s1.heap.objs.size,[s1.heap.objs.size],_,_,H1,rfl,I1.kept (t':=s1.toks) fun b o e=>zV _ e,D3 a _,⟨_,zY _ rfl,rfl,rfl⟩,fun b hb=>?_,q⟩
  cases yL.mp hb
  exact I1.fpOk (Nat.le_refl _) I1.fresh
 ·obtain⟨its,rv,pl,hz⟩:=I1.tuple hq
  refine wpAny_pyIter_tuple (show s1.heap.IsTuple a its.toArray from pl) ⟨s1.heap.objs.size,[s1.heap.objs.size],_,_,H1,rfl,I1.kept (t':=s1.toks) fun b o e=>zV _ e,AV a _,⟨_,zY _ rfl,rfl,rfl⟩,fun b hb=>?_,q⟩
  cases yL.mp hb
  exact I1.fpOk (Nat.le_refl _) I1.fresh
noncomputable def aV(f:Env->Option D):Env->Option (List D):=fun ρ=>(f ρ).bind iF
theorem Hy(h:DE X l f):DI X tg l (aV f):=vo (Mi h) fun σ H R ⟨HF,ρ,ds,sm,eo,hf,q⟩=>by
 obtain⟨x,hx,hf⟩:=bs hf
 refine⟨HF,ρ,x,sm,eo,hx,fun v1 H1 HF1 g1 r1=>?_⟩
 rcases mE hf with rfl|rfl
 ·simp only[Rep] at r1
  obtain⟨a,vs,rfl,hs,rr⟩:=r1
  exact⟨a,rfl,.inr ⟨vs,aI g1.fh hs,q _ H1 HF1 g1 (Gb hs rr)⟩⟩
 ·simp only[Rep] at r1
  obtain⟨a,vs,rfl,hs,rr⟩:=r1
  exact⟨a,rfl,.inl ⟨vs,g1.fh.seq hs,q _ H1 HF1 g1 (Em hs rr)⟩⟩
noncomputable def zx(i:Int):Bool:=decide (-(2 ^ 62)<=i)&&decide (i < 2 ^ 62)
noncomputable def kR:List D->Option (List D)
 | [.int j]=>if zx j then some ((List.range j.toNat).map fun i=>PyData.int ((i:Nat):Int)) else none
 | _=>none
theorem yx{ds es:List D}(h:kR ds=some es):∃j,ds=[.int j]/\zx j=true/\es=(List.range j.toNat).map fun i=>PyData.int ((i:Nat):Int):=by
 unfold kR at h
 split at h
 ·split at h
  ·cases h;exact⟨_,rfl,‹_›,rfl⟩
  ·cases h
 ·cases h
noncomputable def bC(fs:Env->Option (List D)):Env->Option (List D):=fun ρ=>(fs ρ).bind kR
theorem Gz(B:pA X "range" (.type "range"))(h:DA X [e] fs)(hs:starEach [e] X.env=[(false,eval e X.env)]:=by rfl):DI X tg (.Call (.Name "range" p) [e] [] pos) (bC fs) :=
 vo (D7 B.gl B.mg h hs) fun σ H R ⟨HF,ρ,ds,sm,eo,hf,q⟩=>by
  obtain⟨x,hx,hf⟩:=bs hf
  obtain⟨j,rfl,hj,rfl⟩:=yx hf
  refine⟨HF,ρ,_,sm,eo,hx,fun vs H1 HF1 g1 r1=>?_⟩
  obtain⟨v,r,rfl,a,b⟩:=r1.cons_inv
  rw[b.nil_inv]
  simp only[Rep] at a
  subst a
  unfold zx at hj
  rw[zF] at hj
  refine⟨j,rfl,of_decide_eq_true hj.1,of_decide_eq_true hj.2,q _ H1 HF1 g1 ?_⟩
  have:=AI (K:=X.K) (HF:=HF1) (lo:=0) (n:=j.toNat)
  simpa using this
def Pq(K:W.Frag)(f:Env->D->Option Env):TG:=fun v σ H Q=>∃HF ρ d ρ',bo HF H/\dm K HF ρ σ/\Rep K HF d v/\f ρ d=some ρ'/\∀σ',dm K HF ρ' σ'->dm K HF ρ σ'->Q σ' H
def DG(X:Cx)(tg:Expr)(f:Env->D->Option Env):Prop:=PG X tg (Pq X.K f)
theorem oV{t t':TG}(h:PG X tg t)(i:∀v σ H Q,t' v σ H Q->t v σ H Q):PG X tg t':=fun pins s σ H v u Q I r q=>h pins s σ H v u Q I r (i v σ H Q q)
noncomputable def isFree(ρ:Env)(i:Nat):Bool:=((ρ[i]?).getD none).isNone
theorem kf{K:W.Frag}{HF:Hp}{ρ:Env}{σ:L2.St}{i:Nat}{d:D}{v:V}(eo:dm K HF ρ σ)(r:Rep K HF d v):dm K HF (ρ.set i (some d)) (σ.set i (some v)):=by
 refine⟨fun j e h=>?_,by rw[yD,yD];exact eo.len,eo.tb⟩
 rw[List.getElem?_set] at h ⊢
 by_cases hij:i=j
 ·rw[if_pos hij] at h ⊢
  by_cases hl:i < ρ.length
  ·rw[if_pos hl] at h
   cases h
   rw[if_pos (zP hl eo.len)]
   exact⟨v,rfl,r⟩
  ·rw[if_neg hl] at h;cases h
 ·rw[if_neg hij] at h ⊢
  exact eo.get j e h
theorem lW{K:W.Frag}{HF:Hp}{ρ:Env}{σ:L2.St}{i:Nat}{v:V}(eo:dm K HF ρ σ)(hf:isFree ρ i=true):dm K HF ρ (σ.set i (some v)):=by
 refine⟨fun j e h=>?_,by rw[yD];exact eo.len,eo.tb⟩
 have hij:i≠j:=by
  intro z;subst z
  unfold isFree at hf;rw[h] at hf;cases hf
 rw[List.getElem?_set,if_neg hij]
 exact eo.get j e h
noncomputable def fG(i:Nat):Env->D->Option Env:=fun ρ d=>if isFree ρ i=true then some (ρ.set i (some d)) else none
theorem IG(i:Nat){x:Str}(hN:X.N.Nodup)(hi:X.N[i]?=some x)(hx:Loc X.env.scope x)(hf:X.fn x=true\/X.env.scope.names.lookup x=some .local:=by first|exact .inl rfl|exact .inr rfl|assumption):DG X (.Name x pos) (fG i) :=
 oV (dD hN hi hx hf) fun v σ H Q ⟨HF,ρ,d,ρ',sm,eo,r,hf,q⟩=>by
  unfold fG at hf
  split at hf
  ·cases hf;exact q _ (kf eo r) (lW eo ‹_›)
  ·cases hf
noncomputable def ir(i j:Nat):Env->D->Option Env:=fun ρ d=>match d with
 | .tuple [x,y]=>if isFree ρ i=true/\isFree ρ j=true then some ((ρ.set i (some x)).set j (some y)) else none
 | _=>none
theorem ML(i j:Nat){x y:Str}{px py:Pos}{k:Nat}(hc:X.calm=true)(hN:X.N.Nodup)(hi:X.N[i]?=some x)(hx:Loc X.env.scope x)(hj:X.N[j]?=some y)(hy:Loc X.env.scope y)
  (hf:X.fn x=true\/X.env.scope.names.lookup x=some .local:=by first|exact .inl rfl|exact .inr rfl|assumption) (hf':X.fn y=true\/X.env.scope.names.lookup y=some .local:=by first|exact .inl rfl|exact .inr rfl|assumption) :
  DG X (.Tuple [.Name x px,.Name y py] k pos) (ir i j) :=
 oV (qu hc (cY (dD hN hi hx hf) (cY (dD hN hj hy hf') nv))) fun v σ H Q ⟨HF,ρ,d,ρ',sm,eo,r,hf,q⟩=>by
  unfold ir at hf
  split at hf
  ·rename_i x' y'
   split at hf
   ·rename_i hh
    cases hf
    simp only[Rep] at r
    obtain⟨a,vs,rfl,hs,rr⟩:=r
    obtain⟨v1,r1,rfl,a1,b1⟩:=rr.cons_inv
    obtain⟨v2,r2,rfl,a2,b2⟩:=b1.cons_inv
    rw[b2.nil_inv] at hs
    exact⟨a,_,rfl,aI sm hs,rfl,v1,_,rfl,v2,_,rfl,rfl,q _ (kf (kf eo a1) a2) (lW (lW eo hh.1) hh.2)⟩
   ·cases hf
  ·cases hf
noncomputable def dg(tgt:Env->D->Option Env)(tt:Env->Option Bool)(te:Env->Option D)(ρ:Env):List D->Option (List D)
 | []=>some []
 | d::ds=>(tgt ρ d).bind fun ρ'=>(tt ρ').bind fun b=>if b=true then (te ρ').bind fun x=>(dg tgt tt te ρ ds).map (x::·) else dg tgt tt te ρ ds
def OX(X:Cx)(ifs:List Expr)(f:Env->Option Bool):Prop:=NI X ifs (Lo X.K f)
theorem J2:OX X [] (fun _=>some true):=fun pins s σ H Q I ⟨HF,ρ,b,sm,eo,hf,q⟩=>Iq pins s σ H Q I (by cases hf;exact q H HF (.refl sm))
theorem IY{c:Expr}{t:Env->Option Bool}(h:DT X c t):OX X [c] t:=Jh h
noncomputable def lh(t:Nat)(cs:List Nat)(σ:L2.St):L2.St:=List.replicate t none++cs.map fun j=>(σ[j]?).getD none
noncomputable def fS(t:Nat)(cs:List Nat)(ρ:Env):Env:=List.replicate t none++cs.map fun j=>(ρ[j]?).getD none
theorem Cv{K:W.Frag}{HF:Hp}{ρ:Env}{σ:L2.St}{t:Nat}{cs:List Nat}(eo:dm K HF ρ σ):dm K HF (fS t cs ρ) (lh t cs σ):=by
 refine⟨fun i d h=>?_,by simp[fS,lh],eo.tb⟩
 unfold fS at h
 unfold lh
 by_cases hi:i < t
 ·rw[List.getElem?_append_left (by simpa using hi),List.getElem?_replicate,if_pos hi] at h
  cases h
 ·rw[List.getElem?_append_right (by simpa using hi),zO,List.length_replicate] at h
  rw[List.getElem?_append_right (by simpa using hi),zO,List.length_replicate]
  obtain⟨j,hj,h⟩:=ag h
  rw[hj]
  cases e:ρ[j]? with
  | none=>rw[e] at h;cases h
  | some o =>
   rw[e] at h
   have h:o=some d:=h
   subst h
   obtain⟨v,a,b⟩:=eo.get j d e
   exact⟨v,by show some ((σ[j]?).getD none)=_;rw[a];rfl,b⟩
noncomputable def au(t:Nat)(cs:List Nat)(fi:Env->Option (List D))(tgt:Env->D->Option Env)(tt:Env->Option Bool)(te:Env->Option D):Env->Option (List D):=fun ρ=>(fi ρ).bind fun ds=>(dg tgt tt te (fS t cs ρ) ds).bind small
variable {elt iter:Expr}{ifs:List Expr}{scope:Scope}{N:List Str}{t:Nat}{cs:List Nat}{fi:Env->Option (List D)}{tgt:Env->D->Option Env}{tt:Env->Option Bool}{te:Env->Option D}
theorem GE:∀σ H Q,tF X.K (au t cs fi tgt tt te) σ H Q->Fh (QH X.K fi) (Pq X.K tgt) (Lo X.K tt) (tD X.K te) (lh t cs) σ H Q:=fun σ H Q ⟨HF,ρ,out,sm,eo,hf,q⟩=>by
 obtain⟨ds,hx,hf⟩:=bs hf
 obtain⟨out',ho,hf⟩:=bs hf
 obtain⟨rfl,hz⟩:=fx hf
 refine⟨HF,ρ,ds,sm,eo,hx,fun J H1 HF1 g1 it Dn hD=>?_⟩
 have eo1:=Cv (t:=t) (cs:=cs) (eo.mono g1.ff)
 have hFD:HF1 Dn=none:=g1.fh.free hD
 refine⟨fun i m σ' H'=>m+i=ds.length/\∃HF' xs ys rest,cC HF1 H1 HF' H'/\HF' Dn=none/\H' Dn=some (.lst ys)/\aw X.K HF' xs ys/\dm X.K HF' (fS t cs ρ) σ'/\dg tgt tt te (fS t cs ρ) (ds.drop i)=some rest/\xs++rest=out,
  ⟨ds.length,rfl,HF1,[],[],out,.own g1.fh hD,hFD,aO,aw.nil,eo1,ho,rfl⟩,?_⟩
 rintro i m σ' H' ⟨hm,HF',xs,ys,rest,G,hFD',hHD,rr,eo',hc,hout⟩
 by_cases hi:i < ds.length
 ·refine .inr ?_
  have hd:ds.drop i=ds[i]::ds.drop (i+1):=List.drop_eq_getElem_cons hi
  have he:ds[i]?=some ds[i]:=zU.mpr ⟨hi,rfl⟩
  generalize ds[i]=d at hd he
  rw[hd] at hc
  unfold dg at hc
  obtain⟨ρ',h1,hc⟩:=bs hc
  obtain⟨b,h2,hc⟩:=bs hc
  obtain⟨go,yld⟩:=it.go i d H' HF' he G.ff G.fh
  refine⟨go,fun x H2 y=>?_⟩
  obtain⟨HF2,G2,rx⟩:=yld x H2 y
  refine⟨HF2,_,d,ρ',G2.fh,eo'.mono G2.ff,rx,h1,fun σ2 eo2 eo2'=>?_⟩
  refine⟨HF2,ρ',b,G2.fh,eo2,h2,fun H3 HF3 G3=>?_⟩
  have nof:∀HF4 H4,cC HF' H' HF4 H4->HF4 Dn=none:=fun HF4 H4 G4=>by
   cases e4:HF4 Dn with
   | none=>rfl
   | some o =>
    rcases G4.nw Dn o e4 with z|z
    ·rw[hFD'] at z;cases z
    ·rw[hHD] at z;cases z
  cases b with
  | false =>
   refine yd ⟨m - 1,by omega,by omega,HF3,xs,ys,rest,(G.trans G2).trans G3,nof _ _ (G2.trans G3),(G2.trans G3).hh _ _ hHD,rr.mono (G2.trans G3).ff,eo2'.mono G3.ff,by simpa using hc,hout⟩
  | true =>
   rw[if_pos rfl] at hc
   obtain⟨z,h3,hc⟩:=bs hc
   obtain⟨rest',h4,rfl⟩:=ag hc
   refine zq ⟨HF3,ρ',z,G3.fh,eo2.mono G3.ff,h3,fun v H4 HF4 G4 rv=>?_⟩
   have GG:=(G2.trans G3).trans G4
   have n4:=nof _ _ GG
   have h4D:=GG.hh _ _ hHD
   have hlen:ys.length < sizeLine:=by
    have e1:=rr.length
    have e2:out.length=xs.length+(rest'.length+1):=by rw[<- hout];simp
    omega
   refine⟨ys,h4D,hlen,m - 1,by omega,by omega,HF4,xs++[z],ys++[v],rest',?_,n4,aO,(rr.mono GG.ff).append (aw.cons rv aw.nil),eo2'.mono (G3.ff.trans G4.ff),h4,by simp[<- hout]⟩
   have G5:=G.trans GG
   refine⟨fun b o e=>?_,G5.ff,fun b o e=>?_,G5.nw⟩
   ·rw[aL (aU e hD)];exact G5.hh b o e
   ·rw[aL (aU e n4)];exact G5.fh b o e
 ·have hi':i=ds.length:=by omega
  subst hi'
  rw[List.drop_length] at hc
  cases hc
  rw[List.append_nil] at hout
  subst hout
  exact .inl ⟨it.stop H' HF' G.ff G.fh,q Dn ys H' HF' (g1.trans G) (g1.hh.free hD) hFD' hHD rr⟩
theorem Iw(hc:X.calm=true)(S:jR X scope N (lh t cs))(hi:DI X tg iter fi)
  (hY:∀fp s H,DG (bj X scope N fp s H) tg tgt/\OX (bj X scope N fp s H) ifs tt/\DE (bj X scope N fp s H) elt te)
  (hs:∀x,foldedSetIterable iter X.env x=pure x:=by intro _;rfl):DF X (.ListComp elt [⟨tg,iter,ifs,0⟩] scope pos) (au t cs fi tgt tt te):=bu (JV (g:=Pq X.K tgt) (tt:=Lo X.K tt) (te:=tD X.K te) hc S hi hY hs) GE
end
inductive Slot where
 | non|val (d:D)|own (ds:List D)
noncomputable abbrev aj:=List Slot
noncomputable def Slot.all:Slot->Option D|.non=>none|.val d=>some d|.own ds=>some (.list ds)
noncomputable def Slot.frz:Slot->Option D|.val d=>some d|_=>none
noncomputable def Slot.thaw:Slot->Slot|.own ds=>.val (.list ds)|s=>s
noncomputable def bO(ρ:aj):Env:=ρ.map Slot.all
noncomputable def cJ(ρ:aj):Env:=ρ.map Slot.frz
noncomputable def hand(fz:List Nat):Nat->aj->aj
 | _,[]=>[]
 | k,s::r=>(if fz.contains k=true then s.thaw else s)::hand fz (k+1) r
theorem jb(fz:List Nat):∀ (ρ:aj) (k i:Nat),(hand fz k ρ)[i]?=(ρ[i]?).map fun s=>if fz.contains (k+i)=true then s.thaw else s
 | [],k,i=>by simp[hand]
 | s::r,k,0=>by simp[hand]
 | s::r,k,i+1=>by
  simp only[hand,List.getElem?_cons_succ]
  rw[jb fz r (k+1) i,Nat.add_assoc,Nat.add_comm 1 i]
theorem yb(fz:List Nat):∀ (ρ:aj) (k:Nat),(hand fz k ρ).length=ρ.length
 | [],k=>rfl
 | s::r,k=>by simp[hand,yb fz r (k+1)]
structure kM(K:W.Frag)(HF₀ H₀ HF H:Hp)(ρ:aj)(σ:L2.St):Prop where
 gr:cC HF₀ H₀ HF H
 val:∀ (i:Nat) (d:D),ρ[i]?=some (.val d)->∃v,σ[i]?=some (some v)/\Rep K HF d v
 own:∀ (i:Nat) (ds:List D),ρ[i]?=some (.own ds)->∃a vs,σ[i]?=some (some (.ref a))/\H a=some (.lst vs)/\HF a=none/\H₀ a=none/\aw K HF ds vs
 inj:∀ (i j:Nat) (ds es:List D) (a:Addr),ρ[i]?=some (.own ds)->ρ[j]?=some (.own es)->σ[i]?=some (some (.ref a))->σ[j]?=some (some (.ref a))->i=j
 len:ρ.length<=σ.length
 tb:gZ K HF
section
variable {K:W.Frag}{HF₀ H₀ HF H HF' H':Hp}{ρ:aj}{σ:L2.St}
theorem kM.all(S:kM K HF₀ H₀ HF H ρ σ):dm K H (bO ρ) σ:=by
 refine⟨fun i d h=>?_,by simpa [bO] using S.len,S.tb.mono S.gr.fh⟩
 unfold bO at h
 rw[zO] at h
 obtain⟨s,hs,h⟩:=ag h
 cases s with
 | non=>cases h
 | val e=>cases h;obtain⟨v,a,b⟩:=S.val i _ hs;exact⟨v,a,b.mono S.gr.fh⟩
 | own ds =>
  cases h
  obtain⟨a,vs,e1,e2,e3,_,e4⟩:=S.own i ds hs
  exact⟨.ref a,e1,by simp only[Rep];exact⟨a,vs,rfl,i8.of e2,e4.mono S.gr.fh⟩⟩
theorem kM.frz(S:kM K HF₀ H₀ HF H ρ σ):dm K HF (cJ ρ) σ:=by
 refine⟨fun i d h=>?_,by simpa [cJ] using S.len,S.tb⟩
 unfold cJ at h
 rw[zO] at h
 obtain⟨s,hs,h⟩:=ag h
 cases s with
 | non=>cases h
 | val e=>cases h;exact S.val i _ hs
 | own ds=>cases h
theorem kM.grow(S:kM K HF₀ H₀ HF H ρ σ)(g:cC HF H HF' H'):kM K HF₀ H₀ HF' H' ρ σ where
 gr:=S.gr.trans g
 val:=fun i d h=>let ⟨v,a,b⟩:=S.val i d h;⟨v,a,b.mono g.ff⟩
 own:=fun i ds h=>by
  obtain⟨a,vs,e1,e2,e3,e5,e4⟩:=S.own i ds h
  refine⟨a,vs,e1,g.hh _ _ e2,?_,e5,e4.mono g.ff⟩
  cases e:HF' a with
  | none=>rfl
  | some o =>
   rcases g.nw a o e with z|z
   ·rw[e3] at z;cases z
   ·rw[e2] at z;cases z
 inj:=S.inj
 len:=S.len
 tb:=S.tb.mono g.ff
theorem kM.step(S:kM K HF₀ H₀ HF H ρ σ)(g:bo H H'):kM K HF₀ H₀ HF H' ρ σ:=S.grow ⟨g,.refl _,S.gr.fh.trans g,fun _ _ e=>.inl e⟩
theorem kM.hand(S:kM K HF₀ H₀ HF H ρ σ)(fz:List Nat):∃HF1,bo HF HF1/\kM K HF₀ H₀ HF1 H (hand fz 0 ρ) σ:=by
 let P:Addr->Prop:=fun a=>∃i ds,fz.contains i=true/\ρ[i]?=some (.own ds)/\σ[i]?=some (some (.ref a))
 have cl:=Classical.propDecidable
 let HF1:Hp:=fun a=>if P a then H a else HF a
 have hP:∀a,P a->HF a=none/\H₀ a=none:=fun a ⟨i,ds,_,h1,h2⟩=>by
  obtain⟨a',vs,e1,e2,e3,e5,e4⟩:=S.own i ds h1
  rw[h2] at e1
  cases e1
  exact⟨e3,e5⟩
 have s1:bo HF HF1:=fun b o e=>by
  show (if P b then H b else HF b)=some o
  by_cases h:P b
  ·rw[(hP b h).1] at e;cases e
  ·rw[if_neg h];exact e
 have s2:bo HF1 H:=fun b o e=>by
  have e:(if P b then H b else HF b)=some o:=e
  by_cases h:P b
  ·rw[if_pos h] at e;exact e
  ·rw[if_neg h] at e;exact S.gr.fh b o e
 refine⟨HF1,s1,⟨S.gr.hh,S.gr.ff.trans s1,s2,fun b o e=>?_⟩,fun i d h=>?_,fun i ds h=>?_,fun i j ds es a h1 h2=>?_,by rw[yb];exact S.len,S.tb.mono s1⟩
 ·have e:(if P b then H b else HF b)=some o:=e
  by_cases h:P b
  ·exact .inr (hP b h).2
  ·rw[if_neg h] at e;exact S.gr.nw b o e
 ·rw[jb] at h
  obtain⟨s,hs,h⟩:=ag h
  rw[Nat.zero_add] at h
  cases s with
  | non=>split at h<;>cases h
  | val e =>
   have:Slot.val e=Slot.val d:=by split at h<;>exact h
   cases this
   obtain⟨v,a,b⟩:=S.val i _ hs
   exact⟨v,a,b.mono s1⟩
  | own ds =>
   split at h
   ·rename_i hc
    cases h
    obtain⟨a,vs,e1,e2,e3,e5,e4⟩:=S.own i ds hs
    refine⟨.ref a,e1,?_⟩
    simp only[Rep]
    refine⟨a,vs,rfl,.inl (.inl ?_),e4.mono s1⟩
    show (if P a then H a else HF a)=_
    rw[if_pos ⟨i,ds,hc,hs,e1⟩]
    exact e2
   ·cases h
 ·rw[jb] at h
  obtain⟨s,hs,h⟩:=ag h
  rw[Nat.zero_add] at h
  cases s with
  | non=>split at h<;>cases h
  | val e=>split at h<;>cases h
  | own es =>
   split at h
   ·cases h
   ·rename_i hc
    cases h
    obtain⟨a,vs,e1,e2,e3,e5,e4⟩:=S.own i ds hs
    refine⟨a,vs,e1,e2,?_,e5,e4.mono s1⟩
    show (if P a then H a else HF a)=none
    rw[if_neg ?_]
    ·exact e3
    ·rintro⟨j,es,hj,h1,h2⟩
     have:=S.inj i j ds es a hs h1 e1 h2
     subst this
     exact hc hj
 ·rw[jb] at h1 h2
  obtain⟨s,hs,h1⟩:=ag h1
  obtain⟨s',hs',h2⟩:=ag h2
  rw[Nat.zero_add] at h1 h2
  cases s with
  | non=>split at h1<;>cases h1
  | val e=>split at h1<;>cases h1
  | own xs =>
   cases s' with
   | non=>split at h2<;>cases h2
   | val e=>split at h2<;>cases h2
   | own ys=>exact S.inj i j _ _ a hs hs'
theorem kM.setV(S:kM K HF₀ H₀ HF H ρ σ){i:Nat}{d:D}{v:V}(r:Rep K HF d v):kM K HF₀ H₀ HF H (ρ.set i (.val d)) (σ.set i (some v)):=by
 have ne:∀ {j:Nat}{s:Slot},(ρ.set i (.val d))[j]?=some s->(∀e,s≠.val e)->i≠j/\ρ[j]?=some s:=fun {j s} h hn=>by
  rw[List.getElem?_set] at h
  by_cases hij:i=j
  ·rw[if_pos hij] at h
   split at h
   ·cases h;exact absurd rfl (hn _)
   ·cases h
  ·rw[if_neg hij] at h;exact⟨hij,h⟩
 refine⟨S.gr,fun j e h=>?_,fun j ds h=>?_,fun j k ds es a h1 h2 h3 h4=>?_,by rw[yD,yD];exact S.len,S.tb⟩
 ·rw[List.getElem?_set] at h ⊢
  by_cases hij:i=j
  ·rw[if_pos hij] at h ⊢
   split at h
   ·rename_i hl
    cases h
    rw[if_pos (zP hl S.len)]
    exact⟨v,rfl,r⟩
   ·cases h
  ·rw[if_neg hij] at h ⊢
   exact S.val j e h
 ·obtain⟨hij,h⟩:=ne h fun e z=>by cases z
  rw[List.getElem?_set,if_neg hij]
  exact S.own j ds h
 ·obtain⟨n1,h1⟩:=ne h1 fun e z=>by cases z
  obtain⟨n2,h2⟩:=ne h2 fun e z=>by cases z
  rw[List.getElem?_set,if_neg n1] at h3
  rw[List.getElem?_set,if_neg n2] at h4
  exact S.inj j k ds es a h1 h2 h3 h4
theorem kM.setO(S:kM K HF₀ H₀ HF H ρ σ){i:Nat}{ds:List D}{a:Addr}{vs:List V}(hs:bo H H')(h1:H' a=some (.lst vs))(h2:HF a=none)(h3:H₀ a=none)(r:aw K HF ds vs)
  (fr:∀j es,i≠j->ρ[j]?=some (.own es)->σ[j]?≠some (some (.ref a))):kM K HF₀ H₀ HF H' (ρ.set i (.own ds)) (σ.set i (some (.ref a))):=by
 have S:=S.step hs
 refine⟨S.gr,fun j e h=>?_,fun j es h=>?_,fun j k xs ys b e1 e2 e3 e4=>?_,by rw[yD,yD];exact S.len,S.tb⟩
 ·rw[List.getElem?_set] at h ⊢
  by_cases hij:i=j
  ·rw[if_pos hij] at h
   split at h<;>cases h
  ·rw[if_neg hij] at h ⊢
   exact S.val j e h
 ·rw[List.getElem?_set] at h ⊢
  by_cases hij:i=j
  ·rw[if_pos hij] at h ⊢
   split at h
   ·rename_i hl
    cases h
    rw[if_pos (zP hl S.len)]
    exact⟨a,vs,rfl,h1,h2,h3,r⟩
   ·cases h
  ·rw[if_neg hij] at h ⊢
   exact S.own j es h
 ·rw[List.getElem?_set] at e1 e2 e3 e4
  by_cases hij:i=j
  ·by_cases hik:i=k
   ·exact hij.symm.trans hik
   ·rw[if_pos hij] at e1 e3
    rw[if_neg hik] at e2 e4
    split at e3
    ·cases e3;exact absurd e4 (fr k ys hik e2)
    ·cases e3
  ·by_cases hik:i=k
   ·rw[if_neg hij] at e1 e3
    rw[if_pos hik] at e2 e4
    split at e4
    ·cases e4;exact absurd e3 (fr j xs hij e1)
    ·cases e4
   ·rw[if_neg hij] at e1 e3
    rw[if_neg hik] at e2 e4
    exact S.inj j k xs ys b e1 e2 e3 e4
end
inductive Out where
 | nx (ρ:aj)|rt (d:D)
noncomputable def B4(K:W.Frag)(HF₀ H₀ HF:Hp)(E:Ends):Out->Prop
 | .nx ρ'=>∀σ' H' HF',kM K HF₀ H₀ HF' H' ρ' σ'->bo HF HF'->E.nx σ' H'
 | .rt d=>∀v H' HF',cC HF₀ H₀ HF' H'->Rep K HF' d v->E.rt v H'
def tS(K:W.Frag)(HF₀ H₀:Hp)(g:aj->Option Out):TS:=fun E σ H=>∃HF ρ o,kM K HF₀ H₀ HF H ρ σ/\g ρ=some o/\B4 K HF₀ H₀ HF E o
def DS(X:Cx)(HF₀ H₀:Hp)(st:Stmt)(g:aj->Option Out):Prop:=PS X st (tS X.K HF₀ H₀ g)
def EO(X:Cx)(HF₀ H₀:Hp)(st:List Stmt)(g:aj->Option Out):Prop:=BA X st (tS X.K HF₀ H₀ g)
section
variable {X:Cx}{HF₀ H₀:Hp}{st:Stmt}{rest:List Stmt}{g g1 g2:aj->Option Out}{e:Expr}{pos:Pos}
theorem eP{t t':TS}(h:PS X st t)(i:∀E σ H,t' E σ H->t E σ H):PS X st t':=fun pins s σ H E I q=>h pins s σ H E I (i E σ H q)
theorem Ci{t t':TS}(h:BA X rest t)(i:∀E σ H,t' E σ H->t E σ H):BA X rest t':=fun pins s σ H E I q=>h pins s σ H E I (i E σ H q)
noncomputable def gq:aj->Option Out:=fun ρ=>some (.nx ρ)
noncomputable def av(g1 g2:aj->Option Out):aj->Option Out:=fun ρ=>(g1 ρ).bind fun|.nx ρ'=>g2 ρ'|.rt d=>some (.rt d)
theorem B4.mono{K:W.Frag}{HF HF':Hp}{E:Ends}{o:Out}(s:bo HF HF')(h:B4 K HF₀ H₀ HF E o):B4 K HF₀ H₀ HF' E o:=by
 cases o with
 | nx ρ'=>exact fun σ' H' HF2 S s2=>h σ' H' HF2 S (s.trans s2)
 | rt d=>exact h
theorem IR:EO X HF₀ H₀ [] gq:=Ci JD fun E σ H ⟨HF,ρ,o,S,hg,q⟩=>by cases hg;exact q σ H HF S (.refl _)
theorem FF(h1:DS X HF₀ H₀ st g1)(h2:EO X HF₀ H₀ rest g2):EO X HF₀ H₀ (st::rest) (av g1 g2):=Ci (FB h1 h2) fun E σ H ⟨HF,ρ,o,S,hg,q⟩=>by
 obtain⟨o1,h,hg⟩:=bs hg
 refine⟨HF,ρ,o1,S,h,?_⟩
 cases o1 with
 | nx ρ'=>exact fun σ' H' HF' S' s=>⟨HF',ρ',o,S',hg,q.mono s⟩
 | rt d=>cases hg;exact q
theorem I0(h1:DS X HF₀ H₀ st g1):EO X HF₀ H₀ [st] g1:=KE h1
theorem IQ:DS X HF₀ H₀ (.Pass pos) gq:=eP Jz fun E σ H ⟨HF,ρ,o,S,hg,q⟩=>by cases hg;exact q σ H HF S (.refl _)
theorem Ln{x j pos pos'}:DS X HF₀ H₀ (.Expr (.Constant (.str x) j pos) pos') gq:=eP Mr fun E σ H ⟨HF,ρ,o,S,hg,q⟩=>by cases hg;exact q σ H HF S (.refl _)
noncomputable def gy(t:Env->Option Bool)(g1 g2:aj->Option Out):aj->Option Out:=fun ρ=>(t (bO ρ)).bind fun b=>if b=true then g1 ρ else g2 ρ
theorem OY{c:Expr}{a b:List Stmt}{t:Env->Option Bool}(hc:DT X c t)(ha:EO X HF₀ H₀ a g1)(hb:EO X HF₀ H₀ b g2):DS X HF₀ H₀ (.If c a b pos) (gy t g1 g2):=eP (OE hc ha hb) fun E σ H ⟨HF,ρ,o,S,hg,q⟩=>by
 obtain⟨b,h,hg⟩:=bs hg
 refine⟨H,bO ρ,b,.refl _,S.all,h,fun H' HF' G=>?_⟩
 cases b with
 | true=>exact zq ⟨HF,ρ,o,S.step G.hh,hg,q⟩
 | false=>exact yd ⟨HF,ρ,o,S.step G.hh,hg,q⟩
theorem xZ:∀ (ρ:aj) (k n:Nat),k+ρ.length<=n->cJ (hand (List.range n) k ρ)=bO ρ
 | [],k,n,h=>rfl
 | s::r,k,n,h=>by
  have hk:(List.range n).contains k=true:=by simp at h ⊢;omega
  have ih:=xZ r (k+1) n (by simp at h;omega)
  unfold cJ bO at ih ⊢
  rw[hand,if_pos hk,zI,zI,ih]
  cases s<;>rfl
noncomputable def aJ(f:Env->Option D):aj->Option Out:=fun ρ=>(f (bO ρ)).map Out.rt
theorem Nb{f:Env->Option D}(h:DE X e f):DS X HF₀ H₀ (.Return (some e) pos) (aJ f):=eP (Mj h) fun E σ H ⟨HF,ρ,o,S,hg,q⟩=>by
 obtain⟨d,h,rfl⟩:=ag hg
 obtain⟨HF1,s1,S1⟩:=S.hand (List.range ρ.length)
 refine⟨HF1,bO ρ,d,S1.gr.fh,?_,h,fun v H' HF' G r=>q v H' HF' (S1.gr.trans G) r⟩
 have:=S1.frz
 rw[xZ ρ 0 ρ.length (by omega)] at this
 exact this
noncomputable def qY:D->Bool|.none=>true|.bool _=>true|.int _=>true|.str _=>true|_=>false
theorem xx{K:W.Frag}{HF HF':Hp}{d:D}{v:V}(h:qY d=true)(r:Rep K HF d v):Rep K HF' d v:=by
 cases d<;>cases h<;>(simp only[Rep] at r ⊢;exact r)
mutual
noncomputable def l9:D->Bool
 | .tuple ds=>vD ds
 | .list _=>false
 | .dict _=>false
 | _=>true
noncomputable def vD:List D->Bool
 | []=>true
 | d::ds=>l9 d&&vD ds
end
mutual
theorem xS{K:W.Frag}{H1 H2:Hp}(ht:∀a xs,jA K H1 a xs->jA K H2 a xs):∀ {d:D}{v:V},l9 d=true->Rep K H1 d v->Rep K H2 d v
 | .none,_,_,r=>by simp only[Rep] at r ⊢;exact r
 | .bool _,_,_,r=>by simp only[Rep] at r ⊢;exact r
 | .int _,_,_,r=>by simp only[Rep] at r ⊢;exact r
 | .str _,_,_,r=>by simp only[Rep] at r ⊢;exact r
 | .tuple ds,v,h,r=>by
  simp only[l9] at h
  simp only[Rep] at r ⊢
  obtain⟨a,vs,e,q,rr⟩:=r
  exact⟨a,vs,e,ht _ _ q,uF ht h rr⟩
 | .list _,_,h,_=>by simp[l9] at h
 | .dict _,_,h,_=>by simp[l9] at h
theorem uF{K:W.Frag}{H1 H2:Hp}(ht:∀a xs,jA K H1 a xs->jA K H2 a xs):∀ {ds:List D}{vs:List V},vD ds=true->aw K H1 ds vs->aw K H2 ds vs
 | [],_,_,r=>by simp only[aw] at r ⊢;exact r
 | d::ds,vs,h,r=>by
  simp only[vD,zF] at h
  simp only[aw] at r ⊢
  obtain⟨v,r',e,a,b⟩:=r
  exact⟨v,r',e,xS ht h.1 a,uF ht h.2 b⟩
end
theorem kM.back{K:W.Frag}{HF₀ H₀ HF H HF1 HF' H':Hp}{ρ ρ1:aj}{σ:L2.St}(S:kM K HF₀ H₀ HF H ρ σ)(S1:kM K HF₀ H₀ HF1 H ρ1 σ)(s1:bo HF HF1)(G:cC HF1 H HF' H'):∃HF2,bo HF HF2/\kM K HF₀ H₀ HF2 H' ρ σ/\∀d v,l9 d=true->Rep K HF' d v->Rep K HF2 d v:=by
 have cl:=Classical.propDecidable
 let O:Addr->Prop:=fun a=>∃ (i:Nat) (ds:List D),ρ[i]?=some (Slot.own ds)/\σ[i]?=some (some (V.ref a))
 let HF2:Hp:=fun a=>if O a then none else HF' a
 have hO:∀a,O a->HF a=none/\∃vs,H a=some (.lst vs):=fun a ⟨i,ds,h1,h2⟩=>by
  obtain⟨a',vs,e1,e2,e3,_,_⟩:=S.own i ds h1
  rw[h2] at e1
  cases e1
  exact⟨e3,vs,e2⟩
 have h2:∀a,¬ O a->HF2 a=HF' a:=fun a n=>if_neg n
 have h3:∀a,O a->HF2 a=none:=fun a n=>if_pos n
 have sa:bo HF HF2:=fun b o e=>by
  have nb:¬ O b:=fun z=>by rw[(hO b z).1] at e;cases e
  rw[h2 b nb]
  exact G.ff b o (s1 b o e)
 have sb:∀b o,HF2 b=some o->HF' b=some o:=fun b o e=>by
  by_cases z:O b
  ·rw[h3 b z] at e;cases e
  ·rwa [h2 b z] at e
 have g2:=S1.gr.trans G
 refine⟨HF2,sa,⟨⟨g2.hh,S.gr.ff.trans sa,fun b o e=>G.fh b o (sb b o e),fun b o e=>g2.nw b o (sb b o e)⟩,fun i d h=>?_,fun i ds h=>?_,S.inj,S.len,S.tb.mono sa⟩,fun d v hn r=>xS (fun a xs q=>?_) hn r⟩
 ·obtain⟨v,e1,r⟩:=S.val i d h
  exact⟨v,e1,r.mono sa⟩
 ·obtain⟨a,vs,e1,e2,e3,e5,e4⟩:=S.own i ds h
  exact⟨a,vs,e1,G.hh _ _ e2,h3 a ⟨i,ds,h,e1⟩,e5,e4.mono sa⟩
 ·have nt:∀o,HF' a=some o->(∀vs,o≠.lst vs)->HF2 a=some o:=fun o e hne=>by
   by_cases z:O a
   ·obtain⟨_,vs,e2⟩:=hO a z
    have:=G.hh _ _ e2
    rw[G.fh a o e] at this
    cases this
    exact absurd rfl (hne vs)
   ·rw[h2 a z];exact e
  rcases q with (q|⟨o,q⟩)|q
  ·exact .inl (.inl (nt _ q fun vs z=>by cases z))
  ·exact .inl (.inr ⟨o,nt _ q fun vs z=>by cases z⟩)
  ·exact .inr q
noncomputable def aD(i:Nat)(fz:List Nat)(f:Env->Option D):aj->Option Out:=fun ρ=>(f (bO ρ)).bind fun d=>if qY d=true then some (.nx (ρ.set i (.val d))) else (f (cJ (hand fz 0 ρ))).map fun d'=>.nx ((if l9 d'=true then ρ else hand fz 0 ρ).set i (.val d'))
theorem OD{i:Nat}{fz:List Nat}{f:Env->Option D}:∀E σ H,tS X.K HF₀ H₀ (aD i fz f) E σ H->Gp (tD X.K f) (ya i) E σ H:=fun E σ H ⟨HF,ρ,o,S,hg,q⟩=>by
 obtain⟨d,h,hg⟩:=bs hg
 split at hg
 ·rename_i hs
  cases hg
  exact⟨H,bO ρ,d,.refl _,S.all,h,fun v H' HF' G r=>q _ H' HF ((S.step G.hh).setV (xx hs r)) (.refl _)⟩
 ·obtain⟨d',h',rfl⟩:=ag hg
  obtain⟨HF1,s1,S1⟩:=S.hand fz
  refine⟨HF1,_,d',S1.gr.fh,S1.frz,h',fun v H' HF' G r=>?_⟩
  by_cases hn:l9 d'=true
  ·rw[if_pos hn] at q
   obtain⟨HF2,s2,S2,hb⟩:=S.back S1 s1 G
   exact q _ H' HF2 (S2.setV (hb d' v hn r)) s2
  ·rw[if_neg hn] at q
   exact q _ H' HF' ((S1.grow G).setV r) (s1.trans G.ff)
theorem NA(i:Nat)(fz:List Nat){x:Str}{f:Env->Option D}{pos':Pos}(hN:X.N.Nodup)(hi:X.N[i]?=some x)(hx:Loc X.env.scope x)(he:DE X e f)(hs:swapsWith e (some (.Name x pos')) pos.line X.env=pure false:=by rfl)
  (hf:X.fn x=true\/X.env.scope.names.lookup x=some .local:=by first|exact .inl rfl|exact .inr rfl|assumption):DS X HF₀ H₀ (.Assign [.Name x pos'] e pos) (aD i fz f):=eP (HB hN hi hx he hs hf) OD
noncomputable def bh(i:Nat)(fz:List Nat)(f:Env->Option (List D)):aj->Option Out:=fun ρ=>(f (cJ (hand fz 0 ρ))).map fun ds=>.nx ((hand fz 0 ρ).set i (.own ds))
theorem Hm{i:Nat}{fz:List Nat}{f:Env->Option (List D)}:∀E σ H,tS X.K HF₀ H₀ (bh i fz f) E σ H->Gp (tF X.K f) (ya i) E σ H:=fun E σ H ⟨HF,ρ,o,S,hg,q⟩=>by
 obtain⟨ds,h,rfl⟩:=ag hg
 obtain⟨HF1,s1,S1⟩:=S.hand fz
 refine⟨HF1,_,ds,S1.gr.fh,S1.frz,h,fun a vs H' HF' G ha hf h' r=>q _ H' HF' ?_ (s1.trans G.ff)⟩
 have S2:=S1.grow G
 refine S2.setO (.refl _) h' hf (S1.gr.hh.free ha) r fun j es _ hj z=>?_
 obtain⟨b,us,e1,e2,_⟩:=S1.own j es hj
 rw[e1] at z
 cases z
 rw[ha] at e2;cases e2
theorem w4(i:Nat)(fz:List Nat){x:Str}{f:Env->Option (List D)}{pos':Pos}(hN:X.N.Nodup)(hi:X.N[i]?=some x)(hx:Loc X.env.scope x)(he:DF X e f)(hs:swapsWith e (some (.Name x pos')) pos.line X.env=pure false:=by rfl)
  (hf:X.fn x=true\/X.env.scope.names.lookup x=some .local:=by first|exact .inl rfl|exact .inr rfl|assumption):DS X HF₀ H₀ (.Assign [.Name x pos'] e pos) (bh i fz f):=eP (HB hN hi hx he hs hf) Hm
theorem JN(i:Nat)(fz:List Nat){y:Str}{py spos:Pos}{tg iter elt:Expr}{ifs:List Expr}{scope:Scope}{N:List Str}{t:Nat}{cs:List Nat}{fi:Env->Option (List D)}{tgt:Env->D->Option Env}{tt:Env->Option Bool}{te:Env->Option D}
  (hc:X.calm=true) (S:jR X scope N (lh t cs)) (hi:DI X tg iter fi)
  (hY:∀fp s H,DG (bj X scope N fp s H) tg tgt/\OX (bj X scope N fp s H) ifs tt/\DE (bj X scope N fp s H) elt te)
  (hN:X.N.Nodup) (hiy:X.N[i]?=some y) (hy:X.env.scope.names.lookup y=some .local)
  (hsw:swapsWith (.ListComp elt [⟨tg,iter,ifs,0⟩] scope pos) (some (.Name y py)) spos.line X.env=pure true)
  (hs:∀x,foldedSetIterable iter X.env x=pure x:=by intro _;rfl):DS X HF₀ H₀ (.Assign [.Name y py] (.ListComp elt [⟨tg,iter,ifs,0⟩] scope pos) spos) (bh i fz (au t cs fi tgt tt te)) :=
 eP (Jv (g:=Pq X.K tgt) (tt:=Lo X.K tt) (te:=tD X.K te) hc S hi hY hN hiy hy hsw hs) fun E σ H q=>by
  have:=Hm E σ H q
  exact GE σ H _ this
def QT(K:W.Frag)(HF₀ H₀:Hp)(f:aj->D->Option aj):TG:=fun v σ H Q=>∃HF ρ d ρ',kM K HF₀ H₀ HF H ρ σ/\Rep K HF d v/\f ρ d=some ρ'/\∀σ',kM K HF₀ H₀ HF H ρ' σ'->Q σ' H
def OO(X:Cx)(HF₀ H₀:Hp)(tg:Expr)(f:aj->D->Option aj):Prop:=PG X tg (QT X.K HF₀ H₀ f)
noncomputable def vI(i:Nat):aj->D->Option aj:=fun ρ d=>some (ρ.set i (.val d))
theorem Fq(i:Nat){x:Str}(hN:X.N.Nodup)(hi:X.N[i]?=some x)(hx:Loc X.env.scope x)(hf:X.fn x=true\/X.env.scope.names.lookup x=some .local:=by first|exact .inl rfl|exact .inr rfl|assumption):OO X HF₀ H₀ (.Name x pos) (vI i) :=
 oV (dD hN hi hx hf) fun v σ H Q ⟨HF,ρ,d,ρ',S,r,hf,q⟩=>by cases hf;exact q _ (S.setV r)
noncomputable def ie(i j:Nat):aj->D->Option aj:=fun ρ d=>match d with
 | .tuple [x,y]=>some ((ρ.set i (.val x)).set j (.val y))
 | _=>none
theorem IF(i j:Nat){x y:Str}{px py:Pos}{k:Nat}(hc:X.calm=true)(hN:X.N.Nodup)(hi:X.N[i]?=some x)(hx:Loc X.env.scope x)(hj:X.N[j]?=some y)(hy:Loc X.env.scope y)
  (hf:X.fn x=true\/X.env.scope.names.lookup x=some .local:=by first|exact .inl rfl|exact .inr rfl|assumption) (hf':X.fn y=true\/X.env.scope.names.lookup y=some .local:=by first|exact .inl rfl|exact .inr rfl|assumption) :
  OO X HF₀ H₀ (.Tuple [.Name x px,.Name y py] k pos) (ie i j) :=
 oV (qu hc (cY (dD hN hi hx hf) (cY (dD hN hj hy hf') nv))) fun v σ H Q ⟨HF,ρ,d,ρ',S,r,hf,q⟩=>by
  unfold ie at hf
  split at hf
  ·cases hf
   simp only[Rep] at r
   obtain⟨a,vs,rfl,hs,rr⟩:=r
   obtain⟨v1,r1,rfl,a1,b1⟩:=rr.cons_inv
   obtain⟨v2,r2,rfl,a2,b2⟩:=b1.cons_inv
   rw[b2.nil_inv] at hs
   exact⟨a,_,rfl,aI S.gr.fh hs,rfl,v1,_,rfl,v2,_,rfl,rfl,q _ ((S.setV a1).setV a2)⟩
  ·cases hf
noncomputable def eF(tgt:aj->D->Option aj)(gb:aj->Option Out):List D->aj->Option Out
 | [],ρ=>some (.nx ρ)
 | d::ds,ρ=>(tgt ρ d).bind fun ρ1=>(gb ρ1).bind fun|.nx ρ2=>eF tgt gb ds ρ2|.rt v=>some (.rt v)
noncomputable def eD(fz:List Nat)(fi:Env->Option (List D))(tgt:aj->D->Option aj)(gb:aj->Option Out):aj->Option Out:=fun ρ=>(fi (cJ (hand fz 0 ρ))).bind fun ds=>eF tgt gb ds (hand fz 0 ρ)
theorem LY(fz:List Nat){tg iter:Expr}{body:List Stmt}{fi:Env->Option (List D)}{tgt:aj->D->Option aj}{gb:aj->Option Out}(hp:PassesOwn (model X.prog X.w) X.A X.env X.xe)(hc:X.calm=true)(hi:DI X tg iter fi)(hg:OO X HF₀ H₀ tg tgt)(hb:EO X HF₀ H₀ body gb)
  (hs:∀x,foldedSetIterable iter X.env x=pure x:=by intro _;rfl):DS X HF₀ H₀ (.For tg iter body [] pos) (eD fz fi tgt gb):=eP (LD hp hc hi hg hb hs) fun E σ H ⟨HF,ρ,o,S,hg,q⟩=>by
 obtain⟨ds,h,hg⟩:=bs hg
 obtain⟨HF1,s1,S1⟩:=S.hand fz
 refine⟨HF1,_,ds,S1.gr.fh,S1.frz,h,fun J H2 HF2 G it=>?_⟩
 refine⟨fun i m σ' H'=>m+i=ds.length/\∃HF' ρ',kM X.K HF₀ H₀ HF' H' ρ' σ'/\bo HF2 HF'/\eF tgt gb (ds.drop i) ρ'=some o,⟨ds.length,rfl,HF2,_,S1.grow G,.refl _,hg⟩,?_⟩
 rintro i m σ' H' ⟨hm,HF',ρ',S',s',hf⟩
 by_cases hi:i < ds.length
 ·refine .inr ?_
  have hd:ds.drop i=ds[i]::ds.drop (i+1):=List.drop_eq_getElem_cons hi
  have he:ds[i]?=some ds[i]:=zU.mpr ⟨hi,rfl⟩
  generalize ds[i]=d at hd he
  rw[hd] at hf
  unfold eF at hf
  obtain⟨ρ1,h1,hf⟩:=bs hf
  obtain⟨o1,h2,hf⟩:=bs hf
  obtain⟨go,yld⟩:=it.go i d H' HF' he s' S'.gr.fh
  refine⟨go,fun σ2 H3=>∃HF3 ρ3,kM X.K HF₀ H₀ HF3 H3 ρ3 σ2/\bo HF2 HF3/\eF tgt gb (ds.drop (i+1)) ρ3=some o,fun σ2 H3 ⟨HF3,ρ3,a1,a2,a3⟩=>⟨m - 1,by omega,by omega,HF3,ρ3,a1,a2,a3⟩,fun x H3 y=>?_⟩
  obtain⟨HF3,G3,rx⟩:=yld x H3 y
  refine⟨HF3,ρ',d,ρ1,S'.grow G3,rx,h1,fun σ2 S2=>⟨HF3,ρ1,o1,S2,h2,?_⟩⟩
  cases o1 with
  | nx ρ2=>exact fun σ4 H4 HF4 S4 s4=>⟨HF4,ρ2,S4,(s'.trans G3.ff).trans s4,hf⟩
  | rt d=>cases hf;exact q
 ·have hi':i=ds.length:=by omega
  subst hi'
  rw[List.drop_length] at hf
  cases hf
  exact .inl ⟨it.stop H' HF' s' S'.gr.fh,q σ' H' HF' S' ((s1.trans G.ff).trans s')⟩
end
def PJ(X:Cx)(sc:Scope):Prop:=∀x k,sc.names.lookup x=some k->X.env.kindOf x=some k\/(k=.free/\X.env.kindOf x=some .cell)
structure Bk(X:Cx)(N:List Str)(sc:Scope)(k:Nat):Prop where
 n:X.N=N
 nd:N.Nodup
 tb:PJ X sc
 calm:X.calm=true
 fn:∀x,sc.names.lookup x=some .cell->X.fn x=true
 room:eS k X.A
 xe:X.xe=fun _ _=>False
 kd:X.env.scope.kind=.function
def dv:List Str:=["len","isinstance","int","bool","tuple","list","range","all","any","set","sorted","enumerate","zip","sum","min","max","reversed"]
def Bn(X:Cx):Prop:=∀x∈dv,X.mg x=none
noncomputable def zy(sc:Scope)(x:Str):Bool:=decide (sc.names.lookup x=some .globalImplicit)
noncomputable def DK(N:List Str)(sc:Scope)(i:Nat)(x:Str):Bool:=decide (N[i]?=some x)&&(decide (sc.names.lookup x=some .local)||decide (sc.names.lookup x=some .cell)||decide (sc.names.lookup x=some .free))&&!(x == ("__debug__":Str))&&!(x == ("__classdict__":Str))
noncomputable def qq(N:List Str)(sc:Scope)(i:Nat)(x:Str):Bool:=decide (N[i]?=some x)&&(decide (sc.names.lookup x=some .local)||decide (sc.names.lookup x=some .cell))
section
variable {X:Cx}{N:List Str}{sc:Scope}{k:Nat}
theorem Bk.gl(C:Bk X N sc k){x:Str}(h:zy sc x=true):Gl X x:=by
 rcases C.tb x _ (of_decide_eq_true h) with q|⟨q,_⟩
 ·exact q
 ·cases q
theorem Bk.vis(C:Bk X N sc k){i:Nat}{x:Str}(h:DK N sc i x=true):X.N[i]?=some x/\Lf X.env.scope x/\(x == ("__debug__":Str))=false/\(x == ("__classdict__":Str))=false:=by
 unfold DK at h
 simp only[zF,Bool.or_eq_true,zJ,Bool.not_eq_true'] at h
 obtain⟨⟨⟨h1,h2⟩,h3⟩,h4⟩:=h
 refine⟨by rw[C.n];exact h1,?_,h3,h4⟩
 rcases h2 with (h2|h2)|h2
 ·rcases C.tb x _ h2 with q|⟨q,_⟩
  ·exact .inl q
  ·cases q
 ·rcases C.tb x _ h2 with q|⟨q,_⟩
  ·exact .inr (.inl q)
  ·cases q
 ·rcases C.tb x _ h2 with q|⟨_,q⟩
  ·exact .inr (.inr q)
  ·exact .inr (.inl q)
theorem Bk.loc(C:Bk X N sc k){i:Nat}{x:Str}(h:qq N sc i x=true):X.N.Nodup/\X.N[i]?=some x/\Loc X.env.scope x/\(X.fn x=true\/X.env.scope.names.lookup x=some .local):=by
 unfold qq at h
 simp only[zF,Bool.or_eq_true,zJ] at h
 obtain⟨h1,h2⟩:=h
 refine⟨by rw[C.n];exact C.nd,by rw[C.n];exact h1,?_⟩
 rcases h2 with h2|h2
 ·rcases C.tb x _ h2 with q|⟨q,_⟩
  ·exact⟨.inl q,.inr q⟩
  ·cases q
 ·rcases C.tb x _ h2 with q|⟨q,_⟩
  ·exact⟨.inr q,.inl (C.fn x h2)⟩
  ·cases q
theorem Bk.blt(C:Bk X N sc k)(B:Bn X){x:Str}{v:Value}(h:zy sc x=true)(hm:x∈dv)(hv:bootBuiltins x=some v):pA X x v:=⟨C.gl h,B x hm,hv⟩
theorem Bk.v(C:Bk X N sc k)(i:Nat){x:Str}{pos:Pos}(h:DK N sc i x=true):DE X (.Name x pos) (ab i):=let ⟨a,b,c,d⟩:=C.vis h;MB i a b c d
theorem Bk.pass(C:Bk X N sc k):PassesOwn (model X.prog X.w) X.A X.env X.xe:=by rw[C.xe];exact PassesOwn.never
noncomputable def jO(sc scope:Scope)(N N':List Str)(t:Nat)(cs:List Nat):Bool :=
 decide (scope.kind=.function)&&scope.names.all (fun p=>(!decide (p.2=NameKind.free)||decide (sc.names.lookup p.1=some .cell)||decide (sc.names.lookup p.1=some .free))&&(!decide (p.2=NameKind.local)||decide (scope.names.lookup p.1=some .local)))
  &&scope.names.all (fun p=>!decide (p.2=NameKind.cell)||!scope.names.any fun q=>decide (q.1=p.1)&&decide (q.2=NameKind.free))
  &&decide (N'.length=t+cs.length)&&decide (N'.drop t=cs.filterMap fun j=>N[j]?)&&cs.all (fun j=>decide (j < N.length))&&(N'.drop t).all (fun x=>decide (scope.names.lookup x=some .free))&&decide N'.Nodup
theorem filterMap_get{α:Type}(N:List α):∀ (cs:List Nat),(∀j∈cs,j < N.length)->∀ (i:Nat),(cs.filterMap fun j=>N[j]?)[i]?=(cs[i]?).bind fun j=>N[j]?
 | [],_,i=>by simp
 | c::cs,h,i=>by
  have hc:=h c zE
  rw[List.filterMap_cons,zK hc]
  cases i with
  | zero=>simp[hc]
  | succ i =>
   simp only[List.getElem?_cons_succ]
   exact filterMap_get N cs (fun j hj=>h j (zC _ hj)) i
theorem Bk.comp(C:Bk X N sc k){scope:Scope}{N':List Str}{t:Nat}{cs:List Nat}(h:jO sc scope N N' t cs=true):jR X scope N' (lh t cs)/\∀fp s H,Bk (bj X scope N' fp s H) N' scope k:=by
 unfold jO at h
 simp only[zF,zJ,List.all_eq_true,Bool.or_eq_true,Bool.not_eq_true',decide_eq_false_iff_not] at h
 obtain⟨⟨⟨⟨⟨⟨⟨h1,h2⟩,h3⟩,h4⟩,h5⟩,h6⟩,h7⟩,h8⟩:=h
 refine⟨⟨h1,fun x hx hk=>?_,fun {x} a b=>?_,fun x hx hk=>?_,fun σ i x v e1 e2=>?_,fun σ=>?_⟩,fun fp s H=>⟨rfl,h8,fun x k hx=>ox hx,C.calm,fun x hx=>yB hx,C.room,rfl,h1⟩⟩
 ·rcases (h2 x hx).1 with (q|q)|q
  ·exact absurd hk q
  ·rcases C.tb _ _ q with z|⟨z,_⟩
   ·exact .inl z
   ·cases z
  ·rcases C.tb _ _ q with z|⟨_,z⟩
   ·exact .inr z
   ·exact .inl z
 ·rcases h3 _ a with q|q
  ·exact q rfl
  ·have:(scope.names.any fun q=>decide (q.1=x)&&decide (q.2=NameKind.free))=true:=List.any_eq_true.mpr ⟨_,b,by simp⟩
   rw[this] at q
   cases q
 ·rcases (h2 x hx).2 with q|q
  ·exact absurd hk q
  ·exact q
 ·unfold lh at e2
  by_cases hi:i < t
  ·rw[List.getElem?_append_left (by simpa using hi),List.getElem?_replicate,if_pos hi] at e2
   cases e2
  ·rw[List.getElem?_append_right (by simpa using hi),zO,List.length_replicate] at e2
   obtain⟨j,hj,e2⟩:=ag e2
   have e3:(N'.drop t)[i - t]?=some x:=by rw[List.getElem?_drop];rw[show t+(i - t)=i by omega];exact e1
   refine⟨h7 x (List.mem_of_getElem? e3),j,?_,?_⟩
   ·rw[h5,filterMap_get N cs h6,hj] at e3
    rw[C.n];exact e3
   ·cases e:σ[j]? with
    | none=>rw[e] at e2;cases e2
    | some o=>rw[e] at e2;have e2:o=some v:=e2;rw[e2]
 ·unfold lh
  rw[zN,List.length_replicate,zD,h4]
noncomputable def bc(g:aj->Option Out)(n:Nat)(args:List D):Option D:=(g (args.map Slot.val++List.replicate (n - args.length) .non)).map fun|.rt d=>d|.nx _=>.none
theorem KL{P:Program}{w:World}{K:W.Frag}{mg:Str->Option Value}{base:Heap}{x qual:Str}{st:Stmt}{f:Addr}{fd:FuncData}{ps:List Str}{g:aj->Option Out}(F:KG K x qual st f fd)(S:gC N ps (aS st))
  (body:∀X:Cx,X.prog=P->X.w=w->X.K=K->X.mg=mg->X.base=base->Bk X N (aS st) k->X.env.code=fd.code->X.env.qual=qual++".<locals>."->∀HF₀ H₀,EO X HF₀ H₀ (cL st) g):pG P w K mg base Mm (k+1) f fd ps (MH K ps.length (bc g N.length)):=by
 obtain⟨oc,od,kV,doc,pm,an,cdv,ct,osl,rfl,lk,hcd⟩:=F.ex
 refine N9 lk hcd S (fun vs H Q E ⟨HF,ds,d,h1,_,h2,h3,_⟩=>by rw[h2.length,h3]) fun A outer s H vs Q E hr ⟨HF,ds,d,sm,tb,rr,hl,hd,q⟩=>?_
 refine⟨_,(body (EC Mm P w K mg base N qual (aS st) f cdv A outer s H E).nox rfl rfl rfl rfl rfl ⟨rfl,S.nd,fun y kd hy=>.inl hy,rfl,fun _ _=>rfl,hr,rfl,S.kind⟩ rfl rfl HF H).nox,?_⟩
 unfold bc at hd
 obtain⟨o,ho,hd⟩:=ag hd
 have hpl:ps.length<=N.length:=by have:=congrArg List.length S.pre;rw[List.length_take] at this;omega
 refine⟨HF,_,o,⟨.refl sm,fun i e h=>?_,fun i es h=>?_,fun i j es fs a h=>?_,?_,tb⟩,ho,?_⟩
 ·have hi:i < ds.length:=by
   by_cases hi:i < ds.length
   ·exact hi
   ·rw[List.getElem?_append_right (by simpa using hi),List.getElem?_replicate] at h
    split at h<;>cases h
  rw[List.getElem?_append_left (by simpa using hi),zO] at h
  obtain⟨d',hd',h⟩:=ag h
  cases h
  obtain⟨v,hv,rv⟩:=rr.getD hd'
  refine⟨v,?_,rv⟩
  unfold L2.start
  rw[List.getElem?_append_left (by simpa [rr.length] using hi),zO,hv]
  rfl
 ·exfalso
  by_cases hi:i < ds.length
  ·rw[List.getElem?_append_left (by simpa using hi),zO] at h
   obtain⟨d',hd',h⟩:=ag h
   cases h
  ·rw[List.getElem?_append_right (by simpa using hi),List.getElem?_replicate] at h
   split at h<;>cases h
 ·exfalso
  by_cases hi:i < ds.length
  ·rw[List.getElem?_append_left (by simpa using hi),zO] at h
   obtain⟨d',hd',h⟩:=ag h
   cases h
  ·rw[List.getElem?_append_right (by simpa using hi),List.getElem?_replicate] at h
   split at h<;>cases h
 ·unfold L2.start
  rw[zN,zN,zD,zD,List.length_replicate,List.length_replicate,rr.length]
  exact Nat.le_refl _
 ·cases o with
  | rt d'=>cases hd;exact fun v H' HF' G r=>q v H' HF' G r
  | nx ρ'=>cases hd;exact fun σ' H' HF' S' _=>q .non H' HF' S'.gr (by simp[Rep])
theorem QB{P:Program}{w:World}{K:W.Frag}{mg:Str->Option Value}{base:Heap}{x qual:Str}{st:Stmt}{f:Addr}{fd:FuncData}{ps:List Str}{g:aj->Option Out}(F:KG K x qual st f fd)(S:gC N ps (aS st))(hb:Binds K fd ps [])(hm:mg x=some (.ref f))
  (body:∀X:Cx,X.prog=P->X.w=w->X.K=K->X.mg=mg->X.base=base->Bk X N (aS st) k->X.env.code=fd.code->X.env.qual=qual++".<locals>."->∀HF₀ H₀,EO X HF₀ H₀ (cL st) g):dk P w K mg base (k+1) x ps.length (bc g N.length):=⟨f,fd,ps,KL F S body,hm,F.kp,hb⟩
end
section
variable {X:Cx}{HF₀ H₀:Hp}{e e2:Expr}{pos apos cpos px:Pos}{x:Str}
noncomputable def ma(fz:List Nat)(f:Env->Option D)(ρ:aj):Option (D×aj):=(f (bO ρ)).bind fun d=>if qY d=true then some (d,ρ) else (f (cJ (hand fz 0 ρ))).map fun d'=>(d',hand fz 0 ρ)
theorem oH{K:W.Frag}{HF H:Hp}{ρ ρ':aj}{σ:L2.St}{fz:List Nat}{f:Env->Option D}{d:D}(S:kM K HF₀ H₀ HF H ρ σ)(h:ma fz f ρ=some (d,ρ')){Q:VK}
  (q:∀v H' HF',bo HF HF'->kM K HF₀ H₀ HF' H' ρ' σ->bo H H'->Rep K HF' d v->Q v H'):tD K f σ H Q:=by
 obtain⟨d1,h1,h⟩:=bs h
 split at h
 ·rename_i hs
  cases h
  exact⟨H,bO ρ,d,.refl _,S.all,h1,fun v H' HF' G r=>q v H' HF (.refl _) (S.step G.hh) G.hh (xx hs r)⟩
 ·obtain⟨d2,h2,h⟩:=ag h
  cases h
  obtain⟨HF1,s1,S1⟩:=S.hand fz
  exact⟨HF1,_,d,S1.gr.fh,S1.frz,h2,fun v H' HF' G r=>q v H' HF' (s1.trans G.ff) (S1.grow G) G.hh r⟩
noncomputable def o3(i:Nat)(m:List D->Option (List D))(ρ:aj):Option Out:=match ρ[i]? with
 | some (.own ds)=>(m ds).map fun es=>.nx (ρ.set i (.own es))
 | _=>none
theorem lX{i:Nat}{m:List D->Option (List D)}{ρ:aj}{o:Out}(h:o3 i m ρ=some o):∃ds es,ρ[i]?=some (.own ds)/\m ds=some es/\o=.nx (ρ.set i (.own es)):=by
 unfold o3 at h
 split at h
 ·rename_i ds hd
  obtain⟨es,h1,h2⟩:=ag h
  exact⟨ds,es,hd,h1,h2.symm⟩
 ·cases h
theorem kM.mut{K:W.Frag}{HF H:Hp}{ρ:aj}{σ:L2.St}(S:kM K HF₀ H₀ HF H ρ σ){i:Nat}{ds es:List D}{a:Addr}{vs us:List V}(h:ρ[i]?=some (.own ds))(ha:σ[i]?=some (some (.ref a)))(hH:H a=some (.lst vs))(r:aw K HF es us) :
  kM K HF₀ H₀ HF (upd H a (.lst us)) (ρ.set i (.own es)) σ:=by
 obtain⟨a',vs',e1,e2,e3,e5,e4⟩:=S.own i ds h
 rw[ha] at e1;cases e1
 have hl:i < ρ.length:=(zU.mp h).1
 have gr:cC HF₀ H₀ HF (upd H a (.lst us)):=⟨fun b o e=>by rw[aL (aU e e5)];exact S.gr.hh b o e,S.gr.ff,fun b o e=>by rw[aL (aU e e3)];exact S.gr.fh b o e,S.gr.nw⟩
 refine⟨gr,fun j d hj=>?_,fun j xs hj=>?_,fun j k xs ys b f1 f2 f3 f4=>?_,by rw[yD];exact S.len,S.tb⟩
 ·rw[List.getElem?_set] at hj
  by_cases hij:i=j
  ·rw[if_pos hij] at hj
   split at hj<;>cases hj
  ·rw[if_neg hij] at hj;exact S.val j d hj
 ·rw[List.getElem?_set] at hj
  by_cases hij:i=j
  ·subst hij
   rw[if_pos rfl,if_pos hl] at hj
   cases hj
   exact⟨a,us,ha,aO,e3,e5,r⟩
  ·rw[if_neg hij] at hj
   obtain⟨b,ws,f1,f2,f3,f5,f4⟩:=S.own j xs hj
   refine⟨b,ws,f1,?_,f3,f5,f4⟩
   rw[aL]
   ·exact f2
   ·rintro rfl
    exact hij (S.inj i j ds xs b h hj ha f1)
 ·have old:∀ {j:Nat}{xs:List D},(ρ.set i (.own es))[j]?=some (.own xs)->∃ys,ρ[j]?=some (.own ys):=fun {j xs} hj=>by
   rw[List.getElem?_set] at hj
   by_cases hij:i=j
   ·subst hij;exact⟨ds,h⟩
   ·rw[if_neg hij] at hj;exact⟨xs,hj⟩
  obtain⟨xs',g1⟩:=old f1
  obtain⟨ys',g2⟩:=old f2
  exact S.inj j k xs' ys' b g1 g2 f3 f4
noncomputable def mD(i:Nat)(fz:List Nat)(f:Env->Option D):aj->Option Out:=fun ρ=>(ma fz f ρ).bind fun p=>o3 i (fun ds=>if ds.length < sizeLine then some (ds++[p.1]) else none) p.2
theorem Er(i:Nat)(fz:List Nat){f:Env->Option D}(hN:X.N[i]?=some x)(hv:Lf X.env.scope x)(h:DE X e f)(hd:(x == ("__debug__":Str))=false:=by decide)(hcd:(x == ("__classdict__":Str))=false:=by decide)
  (hfew:((backTo cpos (starEach [e] X.env)).all (fun x=>!x.1)&&(backToKw cpos (keywordEach [] X.env)).all (fun x=>x.1.isSome)&&decide ([e].length+([]:List Keyword).length+(if ([]:List Keyword).isEmpty then 0 else 1) < 30))=true:=by rfl)
  (hline:(apos.endLine == cpos.line)=true:=by rfl) (hs:starEach [e] X.env=(false,eval e X.env)::starEach [] X.env:=by rfl) :
  DS X HF₀ H₀ (.Expr (.Call (.Attribute (.Name x px) "append" apos) [e] [] cpos) pos) (mD i fz f) :=
 eP (qg (xC PySem.F.plainAttrs_list PySem.F.slot_list_append PySem.F.type_list_append uv (qw hN hv hd hcd) (dE h iY hs) rfl hfew hline hs rfl)) fun E σ H ⟨HF,ρ,o,S,hg,q⟩=>by
  obtain⟨⟨d,ρ'⟩,h1,hg⟩:=bs hg
  obtain⟨ds,es,h2,h3,rfl⟩:=lX hg
  have hown:∃ds',ρ[i]?=some (.own ds'):=by
   obtain⟨d1,_,h1⟩:=bs h1
   split at h1
   ·cases h1;exact⟨ds,h2⟩
   ·obtain⟨d2,_,h1⟩:=ag h1
    cases h1
    rw[jb] at h2
    obtain⟨s,hs,h2⟩:=ag h2
    cases s with
    | non=>split at h2<;>cases h2
    | val _=>split at h2<;>cases h2
    | own xs=>exact⟨xs,hs⟩
  obtain⟨ds',hown⟩:=hown
  obtain⟨a,vs,e1,e2,e3,e5,e4⟩:=S.own i ds' hown
  refine⟨.ref a,e1,.inl ⟨rfl,vs,i8.of e2⟩,oH S h1 fun v H' HF' s1 S' sh r=>?_⟩
  obtain⟨a',vs',f1,f2,f3,f5,f4⟩:=S'.own i ds h2
  rw[e1] at f1;cases f1
  split at h3
  ·rename_i hz
   cases h3
   exact⟨a,vs',v,rfl,rfl,f2,by rw[f4.length];exact hz,q σ _ HF' (S'.mut h2 e1 f2 (f4.append (aw.cons r aw.nil))) s1⟩
  ·cases h3
end
noncomputable def wF(K:W.Frag)(o:Obj):Option (Addr×Str):=match o.data with
 | .func fd=>if kP.contains fd.qualname=true then (match fd.code with
   | .ref c=>(match K.lookup c with
    | some ⟨_,_,.fields vs,_⟩=>(match (vs[11]?:Option Value) with
     | some (.ref P)=>if W.codeHdIn K c P=true then some (P,fd.qualname++".<locals>."++"<lambda>") else none
     | _=>none)
    | _=>none)
   | _=>none) else none
 | _=>none
noncomputable def i4(K:W.Frag):List (Addr×Str):=K.filterMap fun p=>wF K p.2
noncomputable def nQ(K:W.Frag)(ts:List Addr):Bool:=(i4 K).all fun p=>ts.contains p.1&&(K.lookup p.1).isNone&&decide ((i4 K).lookup p.1=some p.2)
theorem zh{K:W.Frag}{o:Obj}{P:Addr}{q:Str}(h:wF K o=some (P,q)):∃c,W.codeHdIn K c P=true:=by
 unfold wF at h
 split at h
 ·split at h
  ·split at h
   ·split at h
    ·split at h
     ·split at h
      ·cases h;exact⟨_,‹_›⟩
      ·cases h
     ·cases h
    ·cases h
   ·cases h
  ·cases h
 ·cases h
theorem xV{K:W.Frag}{P:Addr}{q:Str}(h:(P,q)∈i4 K):∃c,W.codeHdIn K c P=true:=by
 obtain⟨p,_,e⟩:=List.mem_filterMap.mp h
 exact zh e
theorem Bt{K:W.Frag}{f c P:Addr}{oc:Value}{od:Option Addr}{fd:FuncData}{sl:Array (Option Value)}(a:K.lookup f=some ⟨oc,od,.func fd,sl⟩)(b:fd.qualname∈kP)(d:fd.code=.ref c)(e:W.codeHdIn K c P=true) :
  (P,fd.qualname++".<locals>."++"<lambda>")∈i4 K:=by
 refine List.mem_filterMap.mpr ⟨(f,_),W.mem_of_lookupK a,?_⟩
 have e':=e
 unfold W.codeHdIn at e'
 unfold wF
 simp only[d,List.contains_iff_mem,b,if_true]
 split at e'
 ·rename_i vs sl' hl
  simp only[hl]
  simp only[zF] at e'
  have e1:=e'.1.1.1.1.1
  split at e1
  ·rename_i P' hv
   have:P'=P:=by simpa using e1
   subst this
   simp only[hv,e,if_true]
  ·cases e1
 ·cases e'
theorem FH{α:Type}{b:Addr}{q:α}:∀ {l:List (Addr×α)},l.lookup b=some q->(b,q)∈l
 | [],e=>by cases e
 | (c,x)::r,e=>by
  rw[yC] at e
  cases h:b == c with
  | true=>rw[h] at e;cases e;rw[eq_of_beq h];exact zE
  | false=>rw[h] at e;exact zC _ (FH e)
noncomputable def fQ(K:W.Frag)(h0:Hp):Hp:=fun b=>match (i4 K).lookup b with|some q=>some (.tab q)|none=>h0 b
theorem DP{K:W.Frag}{ts:List Addr}{h0:Hp}(h:nQ K ts=true):gZ K (fQ K h0):=fun f oc od fd sl c P a b d e=>by
 have hm:=Bt a b d e
 have:=List.all_eq_true.mp h _ hm
 simp only[zF,zJ] at this
 unfold fQ
 rw[this.2]
theorem D9{P:Program}{w:World}{K:W.Frag}{mg mb:Str->Option Value}{CX:ER}{k:Nat}{fa a:Addr}{fd:FuncData}{x:Str}{sp:Sp}{s₁:Shared}{vs:List Value}{ns:List Int}{ts:List Addr}
  (KX:K.In s₁.heap) (hns:s₁.heap.Ns mainGlobals mg) (hb:s₁.heap.Ns builtinsNs mb) (hbb:∀x:Str,x≠"__name__"->mb x=bootBuiltins x) (hlim:s₁.heap.NoLimit) (hbm:Pc mg s₁.heap) (hg:s₁.gens=#[])
  (ht:nQ K ts=true) (hts:∀P∈ts,s₁.heap.get? P=some (W.tabObj #[]))
  (ha:s₁.heap.get? a=some { cls:=.type "list",data:=.seq vs.toArray }) (hi:IntsAre vs ns) (hl:ns.length<=sizeLine) (hr:eS k callerA)
  (F:∀base:Heap,K.In base->base.Ns mainGlobals mg->pG P w K mg base CX k fa fd [x] sp) (hbind:∀ (s:Shared) (u:Value),BindsTo s fd ⟨[u],[]⟩ [(x,u)])
  (hsp:∀H:Hp,gZ K H->i8 K H a (ns.map V.int)->sp [.ref a] H (fun v _=>v=.bl true) fun _ _ _=>False)
  (hCX:∀H e s',CX [] H s₁ (fun _ _ _=>False) e s'->False) :
  codeAny (model P w) callerA (.call (.ref fa) ⟨[.ref a],[]⟩) (fun r s'=>r=.ok (.ret (.bool true))/\OldK s₁.heap s'.heap/\s'.os=s₁.os/\AllBare s'.gens) s₁:=by
 have rv:=uM hi
 have lenV:=hi.length
 have tabAt:∀b q,(i4 K).lookup b=some q->s₁.heap.get? b=some (W.tabObj #[])/\K.lookup b=none/\∃c,W.CodeHd s₁.heap c b:=fun b q e=>by
  have hm:=FH e
  have:=List.all_eq_true.mp ht _ hm
  simp only[zF,zJ,List.contains_iff_mem,Option.isNone_iff_eq_none] at this
  obtain⟨c,hc⟩:=xV hm
  exact⟨hts b this.1.1,this.1.2,c,W.codeHd_of_K KX hc⟩
 have aT:(i4 K).lookup a=none:=by
  cases e:(i4 K).lookup a with
  | none=>rfl
  | some q=>have:=(tabAt a q e).1;rw[ha] at this;cases this
 have core:∀h0:Hp,i8 K (fQ K h0) a (ns.map V.int)->p9 P w (fQ K h0) s₁.heap->(∀b,h0 b≠none->b=a)->(h0 a≠none->K.lookup a=none)->(∀b,h0 b=none\/∃o xs,h0 b=some (.frz o (.lst xs))) ->
   codeAny (model P w) callerA (.call (.ref fa) ⟨[.ref a],[]⟩) (fun r s'=>r=.ok (.ret (.bool true))/\OldK s₁.heap s'.heap/\s'.os=s₁.os/\AllBare s'.gens) s₁:=by
  intro h0 hS hok hA hK hO
  have look:∀b u,fQ K h0 b=some u->(∃q,(i4 K).lookup b=some q/\u=.tab q)\/(b=a/\h0 b=some u):=fun b u e=>by
   unfold fQ at e
   split at e
   ·rename_i q hq;cases e;exact .inl ⟨q,hq,rfl⟩
   ·exact .inr ⟨hA b (by rw[e];simp),e⟩
  have nu:∀ {b:Addr}{o:Obj},s₁.heap.get? b=some o->fQ K h0 b=none->(vq s₁.heap (fQ K h0)).get? b=some o:=fun e n=>GU e n
  have noA:∀ {b:Addr}{o:Obj},s₁.heap.get? b=some o->(∀vs n,o.data≠.seq vs n)->(∀vs,o.data≠.fields vs)->fQ K h0 b=none:=fun {b o} e d d2=>by
   cases q:fQ K h0 b with
   | none=>rfl
   | some u =>
    rcases look b u q with ⟨q',z,_⟩|⟨z,_⟩
    ·rw[(tabAt b q' z).1] at e;cases e;exact absurd rfl (d2 _)
    ·subst z;rw[ha] at e;cases e;exact absurd rfl (d _ _)
  have nsK:∀ {b:Addr}{m:Str->Option Value},s₁.heap.Ns b m->(vq s₁.heap (fQ K h0)).Ns b m:=fun {b m} ⟨o,es,ep,e,d,r⟩=>⟨o,es,ep,nu e (noA e (fun _ _ z=>by rw[d] at z;cases z) fun _ z=>by rw[d] at z;cases z),d,r⟩
  have hKb:K.In (vq s₁.heap (fQ K h0)):=fun b o e=>nu (KX b o e) (by
   cases q:fQ K h0 b with
   | none=>rfl
   | some u =>
    rcases look b u q with ⟨q',z,_⟩|⟨z,z2⟩
    ·rw[(tabAt b q' z).2.1] at e;cases e
    ·subst z;rw[hK (by rw[z2];simp)] at e;cases e)
  have hM:Mod K mg (vq s₁.heap (fQ K h0)):=⟨hKb,nsK hns,⟨mb,nsK hb,hbb⟩,let ⟨mc,h1,h2⟩:=hlim;⟨mc,nsK h1,h2⟩,
   let ⟨bm,o,b1,b2,b3,b4,b5,b6,b7⟩:=hbm;⟨bm,o,b1,b2,b3,nu b4 (noA b4 (fun _ _ z=>by rw[b7] at z;cases z) fun _ z=>by rw[b7] at z;cases z),b5,b6,b7⟩⟩
  have e0:JS P w K mg (vq s₁.heap (fQ K h0)) callerA [] s₁ (fQ K h0):=⟨rfl,hM,fun b o e=>IP e,Nat.le_of_eq (Eo _ _),trivial,fun b hb=>absurd (show b∈([]:List Addr) from hb) (by simp),hok,.of_eq hg⟩
  refine codeAny_mono ((F _ hKb (nsK hns)).run callerA [] s₁ (fQ K h0) ⟨[.ref a],[]⟩ [.ref a] [.ref a] _ _ hr e0 (hbind s₁ (.ref a)) (.cons rfl .nil) (hsp _ (DP ht) hS)) fun r s' h=>?_
  cases r with
  | error e=>exact (hCX _ e s' h).elim
  | ok fl =>
   cases fl with
   | next=>exact False.elim h
   | brk=>exact False.elim h
   | cont=>exact False.elim h
   | ret u =>
    obtain⟨v,H',os,bare,un,hok',r',q⟩:=h
    have q':v=.bl true:=q
    subst q'
    obtain rfl:u=Value.bool true:=r'
    have key:∀b o,s₁.heap.get? b=some o->s'.heap.get? b=some o\/(isCodeTable s₁.heap b/\o=W.tabObj #[]/\∃ps,s'.heap.get? b=some (W.tabObj ps)):=fun b o e=>by
     cases q:fQ K h0 b with
     | none=>exact .inl (un.keep b o e q (by intro z;exact absurd (show b∈([]:List Addr) from z) (by simp)) (by simp))
     | some u =>
      rcases look b u q with ⟨q',z,rfl⟩|⟨z,z2⟩
      ·obtain⟨t1,_,c,t3⟩:=tabAt b q' z
       obtain⟨more,m1⟩:=un.tbls.gr b q' #[] q t1
       rw[e] at t1
       cases t1
       exact .inr ⟨(t3.tab e).isCodeTable,rfl,_,m1⟩
      ·rcases hO b with z3|⟨ob,xs,z3⟩
       ·rw[z2] at z3;cases z3
       ·rw[z2] at z3
        cases z3
        have z4:=un.frzs b ob _ q
        obtain⟨e1,_⟩:=hok b _ q
        obtain⟨e2,_⟩:=hok' b _ z4
        rw[e] at e1;cases e1
        exact .inl e2
    refine⟨rfl,⟨fun b o e=>?_,fun b o e=>?_⟩,os,bare⟩
    ·rcases key b o e with z|⟨t,rfl,ps,z⟩
     ·exact .inl z
     ·exact .inr (.inl ⟨t,rfl,#[],ps,rfl,by rw[Array.empty_append];exact z⟩)
    ·rcases key b o e with z|⟨_,_,ps,z⟩
     ·exact⟨o,z⟩
     ·exact⟨_,z⟩
 have hoT:∀ (h0:Hp) b q,(i4 K).lookup b=some q->fY P w (fQ K h0) s₁.heap b (.tab q):=fun h0 b q e=>⟨#[],(tabAt b q e).1,trivial,fun pos v z=>by cases z⟩
 cases hk:K.lookup a with
 | some o =>
  have e:=KX a o hk
  rw[ha] at e
  cases e
  refine core (fun _=>none) (.inr ⟨_,vs.toArray,_,hk,rfl,rfl,rfl,by rw[zH,lenV];exact hl,by simpa using rv⟩) (fun b u z=>?_) (fun b z=>absurd rfl z) (fun z=>absurd rfl z) fun _=>.inl rfl
  unfold fQ at z
  split at z
  ·rename_i q hq;cases z;exact hoT _ b q hq
  ·cases z
 | none =>
  refine core (fun b=>if b=a then some (.frz { cls:=.type "list",data:=.seq vs.toArray } (.lst (ns.map V.int))) else none) (.inl (.inr ⟨{ cls:=.type "list",data:=.seq vs.toArray },?_⟩)) (fun b u z=>?_) (fun b z=>?_) (fun _=>hk) fun b=>?_
  ·unfold fQ;rw[aT];exact if_pos rfl
  ·unfold fQ at z
   split at z
   ·rename_i q hq;cases z;exact hoT _ b q hq
   ·by_cases hb:b=a
    ·replace z:=(if_pos hb).symm.trans z
     cases z
     subst hb
     exact⟨ha,by rw[zD];exact hl,vs,_,rv,ha⟩
    ·replace z:=(if_neg hb).symm.trans z;cases z
  ·by_cases hb:b=a
   ·exact hb
   ·exact absurd (if_neg hb) z
  ·by_cases hb:b=a
   ·exact .inr ⟨_,_,if_pos hb⟩
   ·exact .inl (if_neg hb)
theorem G6{l:W.OpenLaw}{n k:Nat}{q:Program}{loose:List Str}{XP:(Str->Option Value)->Heap->Prop}{YP:World->Heap->Prop}{d:DefRec}{K:Params->W.Frag}{CX:World->ER}{sp:World->Sp}{x:Str}{ts:List Addr}
  (hn:l.most=some n) (hn2:n<=sizeLine) (hdf:d.params.defaults=[]) (hr:eS k callerA)
  (hY:∀ (w:World) (h:Heap),YP w h->(K w.params).In h/\∀P∈ts,h.get? P=some (W.tabObj #[])) (ht:∀w:World,nQ (K w.params) ts=true)
  (F:∀ (w:World) (mg:Str->Option Value) (fa:Addr) (h:Heap),(K w.params).In h->h.Ns mainGlobals mg->mg d.name=some (.ref fa) ->
   ∃fd:FuncData,(∀ (s:Shared) (u:Value),BindsTo s fd ⟨[u],[]⟩ [(x,u)]) /\
    ∀base:Heap,(K w.params).In base->base.Ns mainGlobals mg->pG l.prog w (K w.params) mg base (CX w) k fa fd [x] (sp w))
  (hsp:∀ (w:World) (H:Hp) (a:Addr) (ns:List Int),ns.length<=n->gZ (K w.params) H->i8 (K w.params) H a (ns.map V.int)->sp w [.ref a] H (fun v _=>v=.bl true) fun _ _ _=>False)
  (hCX:∀ (w:World) (H:Hp) (s:Shared) (e:Value) (s':Shared),CX w [] H s (fun _ _ _=>False) e s'->False) :
  W.WalkO q loose XP YP l.row.toRowW d [] (fun f vs=>PySem.call f vs):=by
 refine Att.attach_call hn hdf fun w s₀ s₁ mg mb fa o pm cd doc a vs ns G Y ho hd hcd hmg hobj hints hlen hg=>?_
 obtain⟨KX,hts⟩:=hY w _ Y
 obtain⟨fd,hb,hF⟩:=F w mg fa _ KX G.T.g hmg
 have hbm:Pc mg s₁.heap:=by
  obtain⟨bm,ob,b1,b2,b3,b4,b5,b6⟩:=G.T.bmain
  refine⟨bm,ob,b1,b2,fun z=>?_,b3,b4,b5,b6⟩
  obtain⟨o',es,ep,e1,e2,_⟩:=G.T.g
  rw[<- z,b3] at e1
  cases e1
  rw[b6] at e2;cases e2
 exact D9 KX G.T.g G.T.b G.T.builtins G.T.nolimit hbm hg (ht w) hts hobj hints (yE hlen hn2) hr hF hb (fun H hT hS=>hsp w H a ns hlen hT hS) fun H e s'=>hCX w H s₁ e s'
end Dl
namespace SP
open PySem PySem.W PyProof.Rows
noncomputable def run{α:Type}(lt:Nat->Nat->Bool):KasT α->α
 | .ret a=>a
 | .ask i j k=>run lt (k (lt i j))
theorem je{α β:Type}(lt:Nat->Nat->Bool)(f:α->KasT β):∀t:KasT α,run lt (t.bind f)=run lt (f (run lt t))
 | .ret a=>rfl
 | .ask i j k=>by
  show run lt ((k (lt i j)).bind f)=run lt (f (run lt (k (lt i j))))
  exact je lt f (k (lt i j))
noncomputable def NJ(n:Nat){α:Type}:KasT α->Prop
 | .ret _=>True
 | .ask i j k=>i < n/\j < n/\∀b,NJ n (k b)
theorem wp_run{α:Type}{n:Nat}{cmp:Nat->Nat->(Bool->Shared->Prop)->Shared->Prop}{lt:Nat->Nat->Bool}{s:Shared}(hc:∀i j C,i < n->j < n->C (lt i j) s->cmp i j C s):∀ (t:KasT α) {Q:α->Shared->Prop},NJ n t->Q (run lt t) s->t.kasWp cmp Q s
 | .ret a,Q,_,h=>h
 | .ask i j k,Q,b,h=>hc i j _ b.1 b.2.1 (wp_run hc (k (lt i j)) (b.2.2 _) h)
noncomputable def qJ(n:Nat){α:Type}(R:α->Prop):KasT α->Prop
 | .ret a=>R a
 | .ask i j k=>i < n/\j < n/\∀b,qJ n R (k b)
theorem oT{α β:Type}{n:Nat}{R:α->Prop}{f:α->KasT β}:∀ {t:KasT α},qJ n R t->(∀a,R a->NJ n (f a))->NJ n (t.bind f)
 | .ret a,b,h=>h a b
 | .ask i j k,b,h=>⟨b.1,b.2.1,fun c=>oT (b.2.2 c) h⟩
theorem kj{α β:Type}{n:Nat}{R:α->Prop}{S:β->Prop}{f:α->KasT β}:∀ {t:KasT α},qJ n R t->(∀a,R a->qJ n S (f a))->qJ n S (t.bind f)
 | .ret a,b,h=>h a b
 | .ask i j k,b,h=>⟨b.1,b.2.1,fun c=>kj (b.2.2 c) h⟩
def Bd(n:Nat)(p:Array Nat):Prop:=∀a,p.getD a 0 < n
theorem Bd.perm{n:Nat}{p q:Array Nat}(h:Bd n p)(e:q.Perm p):Bd n q:=by
 intro a
 rw[Array.getD_eq_getD_getElem?]
 cases ha:q[a]? with
 | none=>have:=h p.size;rw[Array.getD_eq_getD_getElem?] at this;simpa using this
 | some x =>
  have hx:x∈q:=Array.mem_of_getElem? ha
  have hx':x∈p:=e.mem_iff.mp hx
  obtain⟨i,hi,rfl⟩:=Array.mem_iff_getElem.mp hx'
  have:=h i
  rw[Array.getD_eq_getD_getElem?] at this
  simpa [hi] using this
theorem F5{n:Nat}{p:Array Nat}(h:Bd n p):∀f m,qJ n (fun _=>True) (kas_asc p f m)
 | 0,m=>trivial
 | f+1,m=>⟨h _,h _,fun c=>by
  dsimp only
  split
  ·trivial
  ·exact F5 h f (m+1)⟩
theorem yy{n:Nat}{p:Array Nat}(h:Bd n p)(i j:Nat):Bd n (kas_rev p i j):=h.perm (mirror_perm _ _ _ _)
theorem vA{n:Nat}:∀ (f:Nat) {p:Array Nat}(h:Bd n p) (m q:Nat),qJ n (fun r=>Bd n r.1) (kas_desc f p m q)
 | 0,p,h,m,q=>h
 | f+1,p,h,m,q=>⟨h _,h _,fun c=>by
  dsimp only
  split
  ·split
   ·exact vA f (yy h _ _) (m+1) 0
   ·exact vA f h (m+1) 0
  ·exact⟨h _,h _,fun d=>by
    dsimp only
    split
    ·exact h
    ·exact vA f h (m+1) (q+1)⟩⟩
theorem Ce{n:Nat}{p:Array Nat}(h:Bd n p)(m nrem:Nat):qJ n (fun r=>Bd n r.2) (kas_tail3 m nrem p):=kj (F5 (yy h 0 m) _ _) fun _ _=>yy h 0 m
theorem qt{n:Nat}{p:Array Nat}(h:Bd n p)(m nrem:Nat):qJ n (fun r=>Bd n r.2) (kas_descPart m nrem p):=kj (vA _ h _ _) fun r hr=>by
 split
 ·exact Ce (yy hr _ _) _ _
 ·exact Ce hr _ _
theorem KC{n:Nat}{p:Array Nat}(h:Bd n p)(nrem:Nat):qJ n (fun r=>Bd n r.2) (kas_count nrem p):=kj (F5 h _ _) fun m _=>by
 split
 ·exact h
 ·split
  ·exact⟨h _,h _,fun c=>by
    dsimp only
    split
    ·exact h
    ·exact qt (yy h _ _) _ _⟩
  ·exact qt h _ _
theorem wL{n:Nat}{p:Array Nat}(h:Bd n p)(k:Nat):∀f l r,qJ n (fun _=>True) (kas_place p k f l r)
 | 0,l,r=>trivial
 | f+1,l,r=>by
  unfold kas_place
  split
  ·trivial
  ·exact⟨h _,h _,fun c=>by
    dsimp only
    split
    ·exact wL h k f _ _
    ·exact wL h k f _ _⟩
theorem K0{n:Nat}:∀ (f:Nat) {p:Array Nat}(h:Bd n p) (k:Nat),NJ n (kas_bin f p k)
 | 0,p,h,k=>trivial
 | f+1,p,h,k=>oT (wL h k _ _ _) fun l _=>K0 f (h.perm (bubble_perm _ _ _)) (k+1)
theorem GO{n:Nat}(h1:1<=n):NJ n (kas_sort n):=by
 have h:Bd n (List.toArray (List.range n)):=fun a=>by
  rw[Array.getD_eq_getD_getElem?]
  by_cases ha:a < n
  ·simp[ha]
  ·simp[ha];omega
 refine oT (KC h n) fun r hr=>?_
 split
 ·exact K0 _ hr _
 ·trivial
section
variable (z:Nat->Int)
noncomputable def Z(p:Array Nat)(a:Nat):Int:=z (p.getD a 0)
noncomputable def ft:Nat->Nat->Bool:=fun i j=>decide (z i < z j)
theorem nc{p q:Array Nat}{a b:Nat}(h:p[a]?=q[b]?):Z z p a=Z z q b:=by
 unfold Z
 rw[Array.getD_eq_getD_getElem?,Array.getD_eq_getD_getElem?,h]
theorem FW{p:Array Nat}{i j:Nat}(hj:j<=p.size)(k:Nat):Z z (kas_rev p i j) k=if i<=k/\k < j then Z z p (i+j - 1 - k) else Z z p k:=by
 have e:=getElem?_mirror_all (xs:=p) (i:=i) hj k
 unfold kas_rev
 by_cases h1:i<=k/\k < j
 ·rw[if_pos h1] at e ⊢;exact nc z e
 ·rw[if_neg h1] at e ⊢;exact nc z e
theorem F3{p:Array Nat}{src d:Nat}(hs:src < p.size)(hd:d<=src)(k:Nat):Z z (bubble p src d) k=if k=src - d then Z z p src else if src - d < k/\k<=src then Z z p (k - 1) else Z z p k:=by
 have e:=getElem?_bubble hs d hd k
 by_cases h1:k=src - d
 ·rw[if_pos h1] at e ⊢;exact nc z e
 ·rw[if_neg h1] at e ⊢
  by_cases h2:src - d < k/\k<=src
  ·rw[if_pos h2] at e ⊢;exact nc z e
  ·rw[if_neg h2] at e ⊢;exact nc z e
def Up(p:Array Nat)(n:Nat):Prop:=∀a b,a<=b->b < n->Z z p a<=Z z p b
def Dn(p:Array Nat)(n:Nat):Prop:=∀a b,a<=b->b < n->Z z p b<=Z z p a
variable {z}
theorem Kg{p:Array Nat}{n:Nat}(h:Up z p n)(hn:1<=n)(h1:Z z p (n - 1)<=Z z p n):Up z p (n+1):=by
 intro a b hab hb
 by_cases hbn:b < n
 ·exact h a b hab hbn
 ·have e:b=n:=by omega
  subst e
  by_cases ha:a=b
  ·subst ha;exact Int.le_refl _
  ·exact Int.le_trans (h a (b - 1) (by omega) (by omega)) h1
theorem P1{p:Array Nat}:∀ (f n:Nat),1<=n->Up z p n->n<=run (ft z) (kas_asc p f n)/\run (ft z) (kas_asc p f n)<=n+f/\Up z p (run (ft z) (kas_asc p f n))/\(run (ft z) (kas_asc p f n) < n+f->Z z p (run (ft z) (kas_asc p f n)) < Z z p (run (ft z) (kas_asc p f n) - 1))
 | 0,n,hn,h=>⟨Nat.le_refl _,Nat.le_refl _,h,fun q=>absurd q (Nat.lt_irrefl _)⟩
 | f+1,n,hn,h=>by
  unfold kas_asc
  show n<=run (ft z) (if ft z (p.getD n 0) (p.getD (n - 1) 0)=true then .ret n else kas_asc p f (n+1))/\run (ft z) (if ft z (p.getD n 0) (p.getD (n - 1) 0)=true then .ret n else kas_asc p f (n+1))<=n+(f+1)/\Up z p (run (ft z) (if ft z (p.getD n 0) (p.getD (n - 1) 0)=true then .ret n else kas_asc p f (n+1)))/\(run (ft z) (if ft z (p.getD n 0) (p.getD (n - 1) 0)=true then .ret n else kas_asc p f (n+1)) < n+(f+1)->Z z p (run (ft z) (if ft z (p.getD n 0) (p.getD (n - 1) 0)=true then .ret n else kas_asc p f (n+1))) < Z z p (run (ft z) (if ft z (p.getD n 0) (p.getD (n - 1) 0)=true then .ret n else kas_asc p f (n+1)) - 1))
  by_cases hc:ft z (p.getD n 0) (p.getD (n - 1) 0)=true
  ·rw[if_pos hc]
   exact⟨Nat.le_refl _,Nat.le_add_right _ _,h,fun _=>of_decide_eq_true hc⟩
  ·rw[if_neg hc]
   have h1:Z z p (n - 1)<=Z z p n:=by
    have:¬ (Z z p n < Z z p (n - 1)):=fun q=>hc (yB q)
    omega
   obtain⟨a,b,c,d⟩:=P1 f (n+1) (by omega) (Kg h hn h1)
   exact⟨by omega,by omega,c,fun q=>d (by omega)⟩
theorem Az{p:Array Nat}{i j:Nat}(hj:j<=p.size)(h:∀a b,i<=a->a < j->i<=b->b < j->Z z p a=Z z p b)(k:Nat):Z z (kas_rev p i j) k=Z z p k:=by
 rw[FW z hj]
 split
 ·rename_i hk
  exact h _ _ (by omega) (by omega) hk.1 hk.2
 ·rfl
theorem Ib{p q:Array Nat}{n:Nat}(e:∀k,Z z q k=Z z p k)(h:Dn z p n):Dn z q n:=fun a b hab hb=>by rw[e,e];exact h a b hab hb
theorem Nw{p:Array Nat}{n:Nat}(hn:n<=p.size)(h:Dn z p n):Up z (kas_rev p 0 n) n:=by
 intro a b hab hb
 rw[FW z hn,FW z hn,if_pos ⟨Nat.zero_le _,by omega⟩,if_pos ⟨Nat.zero_le _,hb⟩]
 exact h _ _ (by omega) (by omega)
theorem m9(p:Array Nat)(i j:Nat):(kas_rev p i j).size=p.size:=mirror_size _ _ _ _
theorem nL(p:Array Nat)(i j:Nat):(kas_rev p i j).Perm p:=mirror_perm _ _ _ _
structure LS(z:Nat->Int)(p₀ p:Array Nat)(n q nrem:Nat):Prop where
 perm:p.Perm p₀
 size:p.size=p₀.size
 le:n<=nrem
 qn:q+1<=n
 dn:Dn z p n
 eq:∀a b,n - (q+1)<=a->a < n->n - (q+1)<=b->b < n->Z z p a=Z z p b
theorem J4{p₀:Array Nat}{nrem:Nat}(hz:nrem<=p₀.size):∀ (f:Nat) (p:Array Nat) (n q:Nat),n+f<=nrem->LS z p₀ p n q nrem ->
  let r:=run (ft z) (kas_desc f p n q);LS z p₀ r.1 r.2.1 r.2.2 nrem
 | 0,p,n,q,hn,h=>h
 | f+1,p,n,q,hn,h=>by
  intro r
  have hr:r=run (ft z) (if ft z (p.getD n 0) (p.getD (n - 1) 0)=true then (if q > 0 then kas_desc f (kas_rev p (n - (q+1)) n) (n+1) 0 else kas_desc f p (n+1) 0)
   else .ask (p.getD (n - 1) 0) (p.getD n 0) fun d=>if d=true then .ret (p,n,q) else kas_desc f p (n+1) (q+1)):=rfl
  have hq:=h.qn
  by_cases hc:ft z (p.getD n 0) (p.getD (n - 1) 0)=true
  ·rw[if_pos hc] at hr
   have hlt:Z z p n < Z z p (n - 1):=of_decide_eq_true hc
   have step:∀p':Array Nat,p'.Perm p₀->p'.size=p₀.size->(∀k,Z z p' k=Z z p k)->LS z p₀ p' (n+1) 0 nrem:=fun p' a1 a2 a3=>by
    refine⟨a1,a2,by omega,by omega,fun a b hab hb=>?_,fun a b h1 h2 h3 h4=>by rw[show a=b by omega]⟩
    rw[a3,a3]
    by_cases hbn:b < n
    ·exact h.dn a b hab hbn
    ·have e:b=n:=by omega
     subst e
     by_cases ha:a=b
     ·subst ha;exact Int.le_refl _
     ·exact Int.le_trans (Int.le_of_lt hlt) (h.dn a (b - 1) (by omega) (by omega))
   by_cases hq0:q > 0
   ·rw[if_pos hq0] at hr
    rw[hr]
    exact J4 hz f _ (n+1) 0 (by omega) (step _ ((nL _ _ _).trans h.perm) (by rw[m9,h.size]) (Az (by rw[h.size];omega) h.eq))
   ·rw[if_neg hq0] at hr
    rw[hr]
    exact J4 hz f p (n+1) 0 (by omega) (step p h.perm h.size fun _=>rfl)
  ·rw[if_neg hc] at hr
   have hge:Z z p (n - 1)<=Z z p n:=by
    have:¬ (Z z p n < Z z p (n - 1)):=fun q=>hc (yB q)
    omega
   have hr':r=run (ft z) (if ft z (p.getD (n - 1) 0) (p.getD n 0)=true then .ret (p,n,q) else kas_desc f p (n+1) (q+1)):=hr
   by_cases hd:ft z (p.getD (n - 1) 0) (p.getD n 0)=true
   ·rw[if_pos hd] at hr'
    rw[hr']
    exact h
   ·rw[if_neg hd] at hr'
    rw[hr']
    have heq:Z z p n=Z z p (n - 1):=by
     have:¬ (Z z p (n - 1) < Z z p n):=fun q=>hd (yB q)
     omega
    refine J4 hz f p (n+1) (q+1) (by omega) ⟨h.perm,h.size,by omega,by omega,fun a b hab hb=>?_,fun a b h1 h2 h3 h4=>?_⟩
    ·by_cases hbn:b < n
     ·exact h.dn a b hab hbn
     ·have e:b=n:=by omega
      subst e
      by_cases ha:a=b
      ·subst ha;exact Int.le_refl _
      ·rw[heq];exact h.dn a (b - 1) (by omega) (by omega)
    ·have key:∀c,n+1 - (q+1+1)<=c->c < n+1->Z z p c=Z z p (n - 1):=fun c c1 c2=>by
      by_cases hcn:c < n
      ·exact h.eq c (n - 1) (by omega) hcn (by omega) (by omega)
      ·have e:c=n:=by omega
       subst e;exact heq
     rw[key a h1 h2,key b h3 h4]
structure Pm(z:Nat->Int)(p₀:Array Nat)(nrem:Nat)(r:Nat×Array Nat):Prop where
 perm:r.2.Perm p₀
 size:r.2.size=p₀.size
 ge:1<=r.1
 le:r.1<=nrem
 up:Up z r.2 r.1
theorem tail3{p₀ p:Array Nat}{n nrem:Nat}(hz:nrem<=p₀.size)(h1:1<=n)(hn:n<=nrem)(hp:p.Perm p₀)(hs:p.size=p₀.size)(hd:Dn z p n):Pm z p₀ nrem (run (ft z) (kas_tail3 n nrem p)):=by
 unfold kas_tail3
 rw[je]
 obtain⟨a,b,c,_⟩:=P1 (nrem - n) n h1 (Nw (by omega) hd)
 exact⟨(nL _ _ _).trans hp,by show (kas_rev p 0 n).size=_;rw[m9,hs],by show 1<=run _ (kas_asc _ _ _);omega,by show run _ (kas_asc _ _ _)<=nrem;omega,c⟩
theorem descPart{p₀ p:Array Nat}{n nrem:Nat}(hz:nrem<=p₀.size)(h1:1<=n)(hn:n < nrem)(hp:p.Perm p₀)(hs:p.size=p₀.size)(hd:Dn z p n)(hlt:Z z p n<=Z z p (n - 1)):Pm z p₀ nrem (run (ft z) (kas_descPart n nrem p)):=by
 unfold kas_descPart
 rw[je]
 have D:=J4 (z:=z) hz (nrem - (n+1)) p (n+1) 0 (by omega) ⟨hp,hs,by omega,by omega,fun a b hab hb=>by
  by_cases hbn:b < n
  ·exact hd a b hab hbn
  ·have e:b=n:=by omega
   subst e
   by_cases ha:a=b
   ·subst ha;exact Int.le_refl _
   ·exact Int.le_trans hlt (hd a (b - 1) (by omega) (by omega)),fun a b h1 h2 h3 h4=>by rw[show a=b by omega]⟩
 dsimp only at D
 generalize run (ft z) (kas_desc (nrem - (n+1)) p (n+1) 0)=r at D
 have hq:=D.qn
 split
 ·exact tail3 hz (by omega) D.le ((nL _ _ _).trans D.perm) (by rw[m9,D.size]) (Ib (Az (by have:=D.size;have:=D.le;omega) D.eq) D.dn)
 ·exact tail3 hz (by omega) D.le D.perm D.size D.dn
theorem count{p:Array Nat}{nrem:Nat}(hz:nrem<=p.size)(h1:1<=nrem):Pm z p nrem (run (ft z) (kas_count nrem p)):=by
 unfold kas_count
 rw[je]
 obtain⟨a,b,c,d⟩:=P1 (z:=z) (p:=p) (nrem - 1) 1 (Nat.le_refl _) (fun x y hxy hy=>by rw[show x=y by omega];exact Int.le_refl _)
 generalize run (ft z) (kas_asc p (nrem - 1) 1)=n at a b c d
 split
 ·exact⟨Array.Perm.refl _,rfl,a,by show n<=nrem;omega,c⟩
 ·rename_i hne
  have hlt:n < nrem:=by
   have:n≠nrem:=fun e=>hne (by simp[e])
   omega
  have hd:=d (by omega)
  split
  ·rename_i hn1
   show Pm z p nrem (run (ft z) (if ft z (p.getD 0 0) (p.getD (n - 1) 0)=true then .ret (n,p) else kas_descPart n nrem (kas_rev p 0 n)))
   by_cases hc:ft z (p.getD 0 0) (p.getD (n - 1) 0)=true
   ·rw[if_pos hc]
    exact⟨Array.Perm.refl _,rfl,a,by show n<=nrem;omega,c⟩
   ·rw[if_neg hc]
    have hge:Z z p (n - 1)<=Z z p 0:=by
     have:¬ (Z z p 0 < Z z p (n - 1)):=fun q=>hc (yB q)
     omega
    have all:∀x,x < n->Z z p x=Z z p 0:=fun x hx=>by
     have e1:=c 0 x (Nat.zero_le _) hx
     have e2:=c x (n - 1) (by omega) (by omega)
     omega
    have same:=Az (z:=z) (p:=p) (i:=0) (j:=n) (by omega) fun x y _ hx _ hy=>by rw[all x hx,all y hy]
    refine descPart hz (by omega) hlt (nL _ _ _) (by rw[m9]) (fun x y hxy hy=>?_) ?_
    ·rw[same,same,all x (by omega),all y hy];exact Int.le_refl _
    ·rw[same,same];omega
  ·exact descPart hz (by omega) hlt (Array.Perm.refl _) rfl (fun x y hxy hy=>by rw[show x=y by omega];exact Int.le_refl _) (by omega)
theorem place{p:Array Nat}{k:Nat}(hu:Up z p k):∀ (f l r:Nat),r - l<=f->l<=r->r<=k->(∀a,a < l->Z z p a<=Z z p k)->(∀a,r<=a->a < k->Z z p k<=Z z p a) ->
  let m:=run (ft z) (kas_place p k f l r);m<=k/\(∀a,a < m->Z z p a<=Z z p k)/\(∀a,m<=a->a < k->Z z p k<=Z z p a)
 | 0,l,r,hf,hl,hr,h1,h2=>by
  intro m
  have e:l=r:=by omega
  subst e
  exact⟨hr,h1,h2⟩
 | f+1,l,r,hf,hl,hr,h1,h2=>by
  intro m
  have hm:m=run (ft z) (if l >= r then .ret l else .ask (p.getD k 0) (p.getD ((l+r) / 2) 0) fun c=>if c=true then kas_place p k f l ((l+r) / 2) else kas_place p k f ((l+r) / 2+1) r):=rfl
  by_cases hlr:l >= r
  ·rw[if_pos hlr] at hm
   rw[hm]
   have e:l=r:=by omega
   subst e
   exact⟨hr,h1,h2⟩
  ·rw[if_neg hlr] at hm
   have hm':m=run (ft z) (if ft z (p.getD k 0) (p.getD ((l+r) / 2) 0)=true then kas_place p k f l ((l+r) / 2) else kas_place p k f ((l+r) / 2+1) r):=hm
   by_cases hc:ft z (p.getD k 0) (p.getD ((l+r) / 2) 0)=true
   ·rw[if_pos hc] at hm'
    rw[hm']
    have hlt:Z z p k < Z z p ((l+r) / 2):=of_decide_eq_true hc
    exact place hu f l ((l+r) / 2) (by omega) (by omega) (by omega) h1 fun a ha hak=>Int.le_trans (Int.le_of_lt hlt) (hu _ a ha hak)
   ·rw[if_neg hc] at hm'
    rw[hm']
    have hge:Z z p ((l+r) / 2)<=Z z p k:=by
     have:¬ (Z z p k < Z z p ((l+r) / 2)):=fun q=>hc (yB q)
     omega
    exact place hu f ((l+r) / 2+1) r (by omega) (by omega) hr (fun a ha=>Int.le_trans (hu a ((l+r) / 2) (by omega) (by omega)) hge) h2
theorem bin{p₀:Array Nat}:∀ (f:Nat) (p:Array Nat) (k:Nat),p.Perm p₀->p.size=p₀.size->k+f<=p₀.size->Up z p k ->
  (run (ft z) (kas_bin f p k)).Perm p₀/\(run (ft z) (kas_bin f p k)).size=p₀.size/\Up z (run (ft z) (kas_bin f p k)) (k+f)
 | 0,p,k,hp,hs,hk,hu=>⟨hp,hs,hu⟩
 | f+1,p,k,hp,hs,hk,hu=>by
  unfold kas_bin
  rw[je]
  have P:=place hu k 0 k (by omega) (by omega) (Nat.le_refl _) (fun a ha=>absurd ha (Nat.not_lt_zero _)) fun a ha hak=>absurd ha (by omega)
  dsimp only at P
  generalize run (ft z) (kas_place p k k 0 k)=l at P
  obtain⟨p1,p2,p3⟩:=P
  have zb:=F3 z (p:=p) (src:=k) (d:=k - l) (by omega) (by omega)
  have e:k - (k - l)=l:=by omega
  rw[e] at zb
  obtain⟨q1,q2,q3⟩:=bin f (bubble p k (k - l)) (k+1) ((bubble_perm _ _ _).trans hp) (by rw[bubble_size,hs]) (by omega) fun a b hab hb=>by
   rw[zb,zb]
   by_cases ha1:a=l
   ·rw[if_pos ha1]
    by_cases hb1:b=l
    ·rw[if_pos hb1];exact Int.le_refl _
    ·rw[if_neg hb1]
     rw[if_pos (by omega)]
     exact p3 _ (by omega) (by omega)
   ·rw[if_neg ha1]
    by_cases hb1:b=l
    ·rw[if_pos hb1,if_neg (by omega)]
     exact p2 a (by omega)
    ·rw[if_neg hb1]
     by_cases ha2:l < a/\a<=k
     ·rw[if_pos ha2,if_pos (by omega)]
      exact hu _ _ (by omega) (by omega)
     ·rw[if_neg ha2]
      by_cases hb2:l < b/\b<=k
      ·rw[if_pos hb2]
       exact hu _ _ (by omega) (by omega)
      ·rw[if_neg hb2]
       exact hu _ _ hab (by omega)
  exact⟨q1,q2,by rw[show k+(f+1)=k+1+f by omega];exact q3⟩
theorem iA{n:Nat}(h1:1<=n):(run (ft z) (kas_sort n)).toList.Perm (List.range n)/\((run (ft z) (kas_sort n)).toList.map z).Pairwise (·<=·):=by
 have hsz:(List.toArray (List.range n)).size=n:=by simp
 have C:=count (z:=z) (p:=List.toArray (List.range n)) (nrem:=n) (by omega) h1
 have fin:∀p:Array Nat,p.Perm (List.toArray (List.range n))->p.size=n->Up z p n->p.toList.Perm (List.range n)/\(p.toList.map z).Pairwise (·<=·):=fun p a b c=>by
  refine⟨by have:=a.toList;simpa using this,?_⟩
  rw[List.pairwise_iff_getElem]
  intro i j hi hj hij
  have hi':i < n:=by simpa [b] using hi
  have hj':j < n:=by simpa [b] using hj
  have:=c i j (Nat.le_of_lt hij) hj'
  unfold Z at this
  have e1:p.getD i 0=p[i]:=by simp[Array.getD,b,hi']
  have e2:p.getD j 0=p[j]:=by simp[Array.getD,b,hj']
  rw[e1,e2] at this
  simpa using this
 unfold kas_sort
 rw[je]
 generalize run (ft z) (kas_count n (List.toArray (List.range n)))=r at C
 obtain⟨k,p⟩:=r
 have hs:=C.size
 rw[hsz] at hs
 split
 ·rename_i hlt
  have hge:=C.ge
  have e:max k 1=k:=by have:1<=k:=hge;omega
  rw[e]
  obtain⟨q1,q2,q3⟩:=bin (z:=z) (n - k) p k C.perm C.size (by rw[hsz];have:k < n:=hlt;omega) C.up
  refine fin _ q1 (by rw[q2,hsz]) ?_
  rw[show k+(n - k)=n by have:k < n:=hlt;omega] at q3
  exact q3
 ·rename_i hnlt
  have hle:=C.le
  have e:k=n:=by have h3:k<=n:=hle;have h4:¬ k < n:=hnlt;omega
  subst e
  exact fin p C.perm hs C.up
end
end SP
namespace Srt
open PySem PySem.W PySem.Calls PyProof.Rows
noncomputable def outV(z:Nat->Int)(vs:List Value):List Value:=if vs.length < 2 then vs else (SP.run (SP.ft z) (kas_sort vs.length)).toList.map fun i=>vs.getD i Value.none
theorem outV_len(z:Nat->Int)(vs:List Value):(outV z vs).length=vs.length:=by
 unfold outV
 split
 ·rfl
 ·rename_i h
  have:=(SP.iA (z:=z) (n:=vs.length) (by omega)).1.length_eq
  simpa using this
section
variable {prog:Program}{w:World}{A:Around}{E:Value->Shared->Prop}{s:Shared}
theorem list_sortG{a:Addr}{vs:List Value}{n:Nat}{P:PySem.Fin->Shared->Prop}(ho:s.heap.get? a=some (seqObj "list" vs.toArray n))(h64:vs.length < 64)(z:Nat->Int)(κ:SortKind)
  (hk:2<=vs.length->∀h':Heap,(∀b o,b≠a->s.heap.get? b=some o->h'.get? b=some o)->∀Q':SortKind->Shared->Prop,Q' κ { s with heap:=h' }->wpAny (model prog w) A (keyKind' vs.toArray) Q' (fun _ _=>False) { s with heap:=h' })
  (hlt:2<=vs.length->∀h':Heap,(∀b o,b≠a->s.heap.get? b=some o->h'.get? b=some o)->∀i j C,i < vs.length->j < vs.length->C (SP.ft z i j) { s with heap:=h' }->kas_ask prog w A κ vs i j C { s with heap:=h' })
  (h:∀ (h':Heap) (c:Nat),(∀b o,b≠a->s.heap.get? b=some o->h'.get? b=some o)->h'.get? a=some (seqObj "list" (outV z vs).toArray c)->P (.done (.ret .none)) { s with heap:=h' }) :
  wpAny (model prog w) A (Builtin.«list.sort» ⟨[.ref a],[]⟩) P E s:=by
 rw[list_sort_plain]
 have ha:a < s.heap.objs.size:=zZ ho
 have hsl:vs.length<=sizeLine:=by rw[sizeLine_eq];omega
 refine zW (listItems_at ho rfl (zW (listUpdate_at ho rfl ?_ (by simpa using hsl) (Nat.zero_le _))))
 obtain⟨e1,ho1⟩:∃e,(s.heap.update a (Obj.mapSeq fun _=>(#[]:Array Value))).get? a=some (seqObj "list" #[] e):=⟨_,get?_update_seq ho fun _=>#[]⟩
 have kp1:∀b o,b≠a->s.heap.get? b=some o->(s.heap.update a (Obj.mapSeq fun _=>(#[]:Array Value))).get? b=some o:=fun b o hb e=>(Heap.get?_update_other _ _ (Ne.symm hb)).trans e
 refine zW (seqEpoch_at ho1 rfl (zW (wpAny_newTuple ?_ (by simpa using hsl))))
 refine zW (wpAny_newList (wpAny_holding ?_) (Nat.zero_le _))
 have ho3:(((s.heap.update a (Obj.mapSeq fun _=>(#[]:Array Value))).push (seqObj "tuple" vs.toArray 0)).push (seqObj "list" #[] 0)).get? a=some (seqObj "list" #[] e1):=zV _ (zV _ ho1)
 have kp3:∀b o,b≠a->s.heap.get? b=some o->(((s.heap.update a (Obj.mapSeq fun _=>(#[]:Array Value))).push (seqObj "tuple" vs.toArray 0)).push (seqObj "list" #[] 0)).get? b=some o:=fun b o hb e=>zV _ (zV _ (kp1 b o hb e))
 show wpAny _ A _ P E { s with heap:=((s.heap.update a (Obj.mapSeq fun _=>(#[]:Array Value))).push (seqObj "tuple" vs.toArray 0)).push (seqObj "list" #[] 0) }
 generalize ((s.heap.update a (Obj.mapSeq fun _=>(#[]:Array Value))).push (seqObj "tuple" vs.toArray 0)).push (seqObj "list" #[] 0)=h3 at ho3 kp3
 clear ho1 kp1
 dsimp only
 have fin:∀st':SortSt,(arrOf st').map (·.2)=(outV z vs).toArray->failedOf st'=none ->
   wpAny (model prog w) A (do
    let sorted:=(arrOf st').map (·.2)
    let touched:=(<- seqEpoch a) != e1
    Builtin.List.listUpdate (.ref a) fun _=>sorted
    if let some e:=failedOf st' then rule "list.sort.comparison-raised";throw e
    if touched then rule "list.sort.modified";raiseError "ValueError" "list modified during sort"
    ret .none) P E { s with heap:=h3 }:=fun st' h1 h2=>by
  dsimp only
  rw[h1,h2]
  refine zW (seqEpoch_at ho3 rfl ?_)
  refine zW (listUpdate_at ho3 rfl ?_ (Nat.zero_le _) (by show (outV z vs).toArray.size<=_;rw[zH,outV_len];omega))
  obtain⟨c,hc⟩:∃c,(h3.update a (Obj.mapSeq fun _=>(outV z vs).toArray)).get? a=some (seqObj "list" (outV z vs).toArray c):=⟨_,get?_update_seq ho3 fun _=>(outV z vs).toArray⟩
  have q:=h _ c (fun b o hb e=>(Heap.get?_update_other _ _ (Ne.symm hb)).trans (kp3 b o hb e)) hc
  simp only[bne_self_eq_false,Bool.false_eq_true,if_false]
  exact zX q
 by_cases h2:vs.toArray.size < 2
 ·rw[if_pos h2,if_pos h2]
  refine zW (zX ?_)
  rw[StateT.run_pure]
  refine zW (zX (fin _ ?_ rfl))
  have h2':vs.length < 2:=by simpa using h2
  unfold outV
  rw[if_pos h2']
  show ((vs.toArray.zip vs.toArray).map (·.2))=vs.toArray
  apply Array.toList_inj.mp
  simp only[Array.toList_map,Array.toList_zip]
  exact List.map_snd_zip (Nat.le_refl _)
 ·rw[if_neg h2,if_neg h2]
  have h2':2<=vs.length:=by
   have:¬ vs.length < 2:=by simpa using h2
   omega
  refine zW (wpAny_mono (hk h2' h3 kp3 (fun κ' s'=>κ'=κ/\s'={ s with heap:=h3 }) ⟨rfl,rfl⟩) (fun κ' s' hs=>?_) fun _ _ x=>x.elim)
  obtain⟨rfl,rfl⟩:=hs
  refine zW (wpAny_mono (kat_run (Q:=fun st' s'=>s'={ s with heap:=h3 }/\(arrOf st').map (·.2)=(outV z vs).toArray/\failedOf st'=none) (G:=fun p s'=>s'={ s with heap:=h3 }/\p=SP.run (SP.ft z) (kas_sort vs.length))
   rfl h2' h64 (fun p st' s' a1 a2 a3 a4=>⟨a4.1,?_,a3⟩) (SP.wp_run (hlt h2' h3 kp3) (kas_sort vs.length) (SP.GO (by omega)) ⟨rfl,rfl⟩)) ?_ fun _ _ e=>e)
  ·rw[kat_snds rfl a2,a4.2]
   unfold outV
   rw[if_neg (by omega)]
  ·rintro⟨⟨⟩,st'⟩ s' ⟨hs,h4,h5⟩
   subst hs
   exact fin st' h4 h5
def Coll(h:Heap)(l:Addr)(vs:List Value):Prop:=∃ (o:Obj) (T:String) (n:Nat),(T="list"\/T="tuple")/\h.get? l=some o/\o.cls=.type T/\o.data=.seq vs.toArray n
theorem collectC{l:Addr}{vs:List Value}{Q:List Value->Shared->Prop}(hl:Coll s.heap l vs)
  (h:Q vs { s with heap:=(s.heap.push (seqObj "list" #[] 0)).update s.heap.objs.size (Obj.mapSeq (·++vs.toArray)) }) (hsz:vs.length<=sizeLine):wpAny (model prog w) A (collect (.ref l)) Q E s:=by
 obtain⟨o,T,n,hT,ho,hc,hd⟩:=hl
 unfold collect
 refine zW (wpAny_runValue (codeAny_builtin entry_proto_collect' ?_))
 show wpAny _ _ (do again (.builtin "list.__iadd__" ⟨[<- newList [],.ref l],[]⟩)) _ _ s
 refine zW (wpAny_newList (zX ⟨Code.quiet_builtin _ (by decide +kernel),codeAny_builtin entry_list_iadd' ?_⟩))
 show wpAny _ _ (Builtin.List.listExtendWith (.ref s.heap.objs.size) (.ref l) (.ref s.heap.objs.size)) _ _ { s with heap:=s.heap.push (seqObj "list" #[] 0) }
 unfold Builtin.List.listExtendWith
 have ho':(s.heap.push (seqObj "list" #[] 0)).get? l=some o:=zV _ ho
 refine zW (wpAny_typeOf (T:=T) ⟨o,ho',hc⟩ ?_)
 rw[if_pos (by rcases hT with rfl|rfl<;>simp)]
 refine zW (listItems_at ho' hd (zW (listItems_at (xs:=#[]) (n:=0) (zY _ rfl) rfl ?_)))
 rw[if_neg (by simp)]
 refine zW (listUpdate_at (xs:=#[]) (n:=0) (zY _ rfl) rfl ?_ (Nat.zero_le _) (by show (#[]++vs.toArray).size<=sizeLine+1;simp only[Array.size_append,zH,List.length_nil];omega))
 refine zX ?_
 refine zW (wpAny_load (get?_update_seq (zY _ rfl) _) ?_)
 show wpAny _ _ (pure ((#[]:Array Value)++vs.toArray).toList) Q E _
 rw[show ((#[]:Array Value)++vs.toArray).toList=vs by simp]
 exact zX h
theorem sortedG{l:Addr}{vs:List Value}{Q:Value->Shared->Prop}(hl:Coll s.heap l vs)(h64:vs.length < 64)(z:Nat->Int)(κ:SortKind)
  (hk:2<=vs.length->∀h':Heap,(∀b o,s.heap.get? b=some o->h'.get? b=some o)->∀Q':SortKind->Shared->Prop,Q' κ { s with heap:=h' }->wpAny (model prog w) A.in1.in1 (keyKind' vs.toArray) Q' (fun _ _=>False) { s with heap:=h' })
  (hlt:2<=vs.length->∀h':Heap,(∀b o,s.heap.get? b=some o->h'.get? b=some o)->∀i j C,i < vs.length->j < vs.length->C (SP.ft z i j) { s with heap:=h' }->kas_ask prog w A.in1.in1 κ vs i j C { s with heap:=h' })
  (h:∀ (h':Heap) (D:Addr) (c:Nat),(∀b o,s.heap.get? b=some o->h'.get? b=some o)->s.heap.objs.size<=D->h'.get? D=some (seqObj "list" (outV z vs).toArray c)->Q (.ref D) { s with heap:=h' }) :
  wpAny (model prog w) A (call (.builtin "sorted") [.ref l]) Q E s:=by
 have hsl:vs.length<=sizeLine:=by rw[sizeLine_eq];omega
 refine Calls.call_function_entry kind_sorted plain_sorted entry_sorted (args_sorted1 _) ?_
 unfold Builtin.«sorted»
 refine zW (m:=checkCount "sorted" 1 1 _) (zX (zW (collectC hl ?_ hsl)))
 refine zW (wpAny_newList ?_ (by simpa using hsl))
 have hsz:((s.heap.push (seqObj "list" #[] 0)).update s.heap.objs.size (Obj.mapSeq (·++vs.toArray))).objs.size=s.heap.objs.size+1:=by rw[Heap.size_update,size_push']
 have kp:∀b o,s.heap.get? b=some o->(((s.heap.push (seqObj "list" #[] 0)).update s.heap.objs.size (Obj.mapSeq (·++vs.toArray))).push (seqObj "list" vs.toArray 0)).get? b=some o:=fun b o e =>
  zV _ ((Heap.get?_update_other _ _ (Nat.ne_of_gt (zZ e))).trans (zV _ e))
 have hoD:(((s.heap.push (seqObj "list" #[] 0)).update s.heap.objs.size (Obj.mapSeq (·++vs.toArray))).push (seqObj "list" vs.toArray 0)).get? (s.heap.objs.size+1)=some (seqObj "list" vs.toArray 0):=by
  rw[<- hsz];exact zY _ rfl
 show wpAny _ _ _ _ _ { s with heap:=((s.heap.push (seqObj "list" #[] 0)).update s.heap.objs.size (Obj.mapSeq (·++vs.toArray))).push (seqObj "list" vs.toArray 0) }
 rw[hsz]
 generalize ((s.heap.push (seqObj "list" #[] 0)).update s.heap.objs.size (Obj.mapSeq (·++vs.toArray))).push (seqObj "list" vs.toArray 0)=h1 at kp hoD
 have kk:∀h':Heap,(∀b o,b≠s.heap.objs.size+1->h1.get? b=some o->h'.get? b=some o)->∀b o,s.heap.get? b=some o->h'.get? b=some o:=fun h' q b o e=>q b o (Nat.ne_of_lt (Nat.lt_succ_of_lt (zZ e))) (kp b o e)
 refine zW (wpAny_holding (wpAny_call_entry slot_list_sort ⟨_,hoD,rfl⟩ entry_list_sort (list_sortG hoD h64 z κ (fun a h' q=>hk a h' (kk h' q)) (fun a h' q=>hlt a h' (kk h' q)) fun h' c q e=>⟨_,rfl,?_⟩) (args_list_sort _)))
 exact zX ⟨_,rfl,h h' _ c (kk h' q) (by omega) e⟩
end
end Srt
namespace Dl
open PySem L2 PySem.Spec PyProof.Rows
section
variable {X:Cx}{HF₀ H₀:Hp}{e e2:Expr}{es:List Expr}{pos apos cpos px p:Pos}{x:Str}{fs:Env->Option (List D)}
noncomputable def xu(i:Nat)(fz:List Nat)(f:Env->Option (List D)):aj->Option Out:=fun ρ=>(f (cJ (hand fz 0 ρ))).bind fun us=>o3 i (fun ds=>if ds.length+us.length<=sizeLine then some (ds++us) else none) (hand fz 0 ρ)
theorem EH(i:Nat)(fz:List Nat){f:Env->Option (List D)}(hN:X.N[i]?=some x)(hv:Lf X.env.scope x)(h:DF X e f)(hd:(x == ("__debug__":Str))=false:=by decide)(hcd:(x == ("__classdict__":Str))=false:=by decide)
  (hfew:((backTo cpos (starEach [e] X.env)).all (fun x=>!x.1)&&(backToKw cpos (keywordEach [] X.env)).all (fun x=>x.1.isSome)&&decide ([e].length+([]:List Keyword).length+(if ([]:List Keyword).isEmpty then 0 else 1) < 30))=true:=by rfl)
  (hline:(apos.endLine == cpos.line)=true:=by rfl) (hs:starEach [e] X.env=(false,eval e X.env)::starEach [] X.env:=by rfl) :
  DS X HF₀ H₀ (.Expr (.Call (.Attribute (.Name x px) "extend" apos) [e] [] cpos) pos) (xu i fz f) :=
 eP (qg (xC PySem.F.plainAttrs_list PySem.F.slot_list_extend PySem.F.type_list_extend ED (qw hN hv hd hcd) (dE h iY hs) rfl hfew hline hs rfl)) fun E σ H ⟨HF,ρ,o,S,hg,q⟩=>by
  obtain⟨us,h1,hg⟩:=bs hg
  obtain⟨ds,es,h2,h3,rfl⟩:=lX hg
  obtain⟨HF1,s1,S1⟩:=S.hand fz
  obtain⟨a,vs,e1,e2,e3,e5,e4⟩:=S1.own i ds h2
  refine⟨.ref a,e1,.inl ⟨rfl,vs,i8.of e2⟩,HF1,_,us,S1.gr.fh,S1.frz,h1,fun b ws H' HF' G hb hf h' r=>?_⟩
  have S2:=S1.grow G
  obtain⟨a',vs',f1,f2,f3,f5,f4⟩:=S2.own i ds h2
  rw[e1] at f1;cases f1
  split at h3
  ·rename_i hz
   cases h3
   exact⟨a,b,vs',ws,rfl,rfl,f2,h',by rw[f4.length,r.length];exact hz,q σ _ HF' (S2.mut h2 e1 f2 (f4.append r)) (s1.trans G.ff)⟩
  ·cases h3
noncomputable def CH(ds:List D)(k:Int)(d:D):List D:=let j:=if k < 0 then (k+(ds.length:Int)).toNat else min k.toNat ds.length;ds.take j++d::ds.drop j
noncomputable def Ki:V->List V->Hp->VK->Prop:=fun x vs H Q=>∃l xs k y,x=.ref l/\vs=[.int k,y]/\H l=some (.lst xs)/\xs.length < sizeLine/\-(2 ^ 62)<=k/\k < 2 ^ 62 /\
 Q .non (upd H l (.lst (xs.take (if k < 0 then (k+(xs.length:Int)).toNat else min k.toNat xs.length)++y::xs.drop (if k < 0 then (k+(xs.length:Int)).toNat else min k.toNat xs.length))))
theorem D8:O3 X "list.insert" Ki:=by
 intro pins s σ H x vs v us Q I rx rv h
 obtain⟨l,xs,k,y,rfl,rfl,hH,hz,k1,k2,q⟩:=h
 cases rx
 obtain⟨u1,u2,rfl,⟨t,rfl⟩,ru⟩:=L2.aM.two rv
 obtain⟨z,its,n,r,hl,e⟩:=I.lstM hH
 have hfit:¬(!Builtin.List.listFitsIndex k)=true:=by
  have:Builtin.List.listFitsIndex k=true:=by
   unfold Builtin.List.listFitsIndex
   simp only[zF,zJ]
   omega
  rw[this];simp
 refine call_meets F.slot_list_insert ⟨_,e,rfl⟩ F.entry_list_insert (F.args_list_insert_3 _ _ _) (AutoListH.list_insert_list_int_val_1 l its.toArray n k t u2 hfit (by rw[zH];omega)) ⟨e,?_⟩
 have hlen:its.length=xs.length:=hl.symm
 refine⟨.non,_,I.lset (its':=its.take (if k < 0 then (k+(xs.length:Int)).toNat else min k.toNat xs.length)++u2::its.drop (if k < 0 then (k+(xs.length:Int)).toNat else min k.toNat xs.length)) hH e ?_ ((r.take _).append (.cons ru (r.drop _))) ?_,rfl,q⟩
 ·dsimp only
  rw[zH,hlen]
  apply Array.toList_inj.mp
  simp
  exact List.take_of_length_le (by rw[List.length_drop,hlen];exact Nat.le_refl _)
 ·rw[zN,zL,List.length_take,List.length_drop]
  omega
noncomputable def E7(i:Nat)(fz:List Nat)(fk f:Env->Option D):aj->Option Out:=fun ρ=>(fk (bO ρ)).bind fun kd=>match kd with
 | .int k=>(ma fz f ρ).bind fun p=>o3 i (fun ds=>if zx k=true/\ds.length < sizeLine then some (CH ds k p.1) else none) p.2
 | _=>none
theorem Eu(i:Nat)(fz:List Nat){fk f:Env->Option D}(hN:X.N[i]?=some x)(hv:Lf X.env.scope x)(hk:DE X e fk)(h:DE X e2 f)(hd:(x == ("__debug__":Str))=false:=by decide)(hcd:(x == ("__classdict__":Str))=false:=by decide)
  (hfew:((backTo cpos (starEach [e,e2] X.env)).all (fun x=>!x.1)&&(backToKw cpos (keywordEach [] X.env)).all (fun x=>x.1.isSome)&&decide ([e,e2].length+([]:List Keyword).length+(if ([]:List Keyword).isEmpty then 0 else 1) < 30))=true:=by rfl)
  (hline:(apos.endLine == cpos.line)=true:=by rfl) (hs:starEach [e,e2] X.env=(false,eval e X.env)::starEach [e2] X.env:=by rfl) (hs2:starEach [e2] X.env=(false,eval e2 X.env)::starEach [] X.env:=by rfl) :
  DS X HF₀ H₀ (.Expr (.Call (.Attribute (.Name x px) "insert" apos) [e,e2] [] cpos) pos) (E7 i fz fk f) :=
 eP (qg (xC PySem.F.plainAttrs_list PySem.F.slot_list_insert PySem.F.type_list_insert D8 (qw hN hv hd hcd) (dE hk (dE h iY hs2) hs) rfl hfew hline hs (by rw[hs2];rfl))) fun E σ H ⟨HF,ρ,o,S,hg,q⟩=>by
  obtain⟨kd,hkd,hg⟩:=bs hg
  cases kd<;>try cases hg
  rename_i k
  obtain⟨⟨d,ρ'⟩,h1,hg⟩:=bs hg
  obtain⟨ds,es,h2,h3,rfl⟩:=lX hg
  have hown:∃ds',ρ[i]?=some (.own ds'):=by
   obtain⟨d1,_,h1⟩:=bs h1
   split at h1
   ·cases h1;exact⟨ds,h2⟩
   ·obtain⟨d2,_,h1⟩:=ag h1
    cases h1
    rw[jb] at h2
    obtain⟨s,hs,h2⟩:=ag h2
    cases s with
    | non=>split at h2<;>cases h2
    | val _=>split at h2<;>cases h2
    | own xs=>exact⟨xs,hs⟩
  obtain⟨ds',hown⟩:=hown
  obtain⟨a,vs,e1,e2,e3,e5,e4⟩:=S.own i ds' hown
  refine⟨.ref a,e1,.inl ⟨rfl,vs,i8.of e2⟩,H,bO ρ,_,.refl _,S.all,hkd,fun vk Hk HFk Gk rk=>?_⟩
  simp only[Rep] at rk
  subst rk
  refine oH (S.step Gk.hh) h1 fun v H' HF' s1 S' sh r=>?_
  obtain⟨a',vs',f1,f2,f3,f5,f4⟩:=S'.own i ds h2
  rw[e1] at f1;cases f1
  split at h3
  ·rename_i hz
   cases h3
   have ok:=hz.1
   unfold zx at ok
   rw[zF] at ok
   refine⟨a,vs',k,v,rfl,rfl,f2,by rw[f4.length];exact hz.2,of_decide_eq_true ok.1,of_decide_eq_true ok.2,q σ _ HF' (S'.mut h2 e1 f2 ?_) s1⟩
   unfold CH
   rw[f4.length]
   exact (f4.take _).append (aw.cons r (f4.drop _))
  ·cases h3
noncomputable def uP:D->D->Option (List D)
 | .list xs,.list ys=>small (xs++ys)
 | _,_=>none
def FA(K:W.Frag):R2:=fun x y H Q=>∃a b xs ys,x=.ref a/\y=.ref b/\i8 K H a xs/\i8 K H b ys/\xs.length+ys.length<=sizeLine/\∀p,H p=none->Q (.ref p) (upd H p (.lst (xs++ys)))
theorem xw:ja X (binaryOp .Add) (FA X.K):=by
 intro pins s σ H x y v u Q I rx ry h
 obtain⟨a,b,xs,ys,rfl,rfl,ha,hb,hz,q⟩:=h
 cases rx
 cases ry
 obtain⟨its,r1,p1,_⟩:=I.list ha
 obtain⟨its2,r2,p2,_⟩:=I.list hb
 obtain⟨⟨cls,dd,data,sl⟩,ho,hc,n,hd⟩:=id p1.isList
 obtain⟨⟨cls2,dd2,data2,sl2⟩,ho2,hc2,n2,hd2⟩:=id p2.isList
 simp only at hc hd hc2 hd2
 subst hc hd hc2 hd2
 refine concat_meets ⟨_,ho,rfl⟩ ⟨_,ho2,rfl⟩ noFill_list_add seq_list_add PySem.F.slot_list_add PySem.F.entry_list_add (PySem.F.args_list_add_2 _ _) (list_addW a b its.toArray its2.toArray n n2 dd dd2 sl sl2 (by rw[zH,zH,<- r1.length,<- r2.length];exact hz)) ⟨ho,ho2,?_⟩
 have e:its.toArray++its2.toArray=(its++its2).toArray:=by simp
 rw[e]
 exact⟨.ref s.heap.objs.size,_,I.lnew (t':=s.toks) (r1.append r2) (by rw[zN];exact hz),rfl,q _ I.fresh⟩
noncomputable def QG(g:D->D->Option (List D))(f1 f2:Env->Option D):Env->Option (List D):=fun ρ=>(f1 ρ).bind fun x=>(f2 ρ).bind fun y=>g x y
theorem LW{a b:Expr}{fa fb:Env->Option D}(ha:DE X a fa)(hb:DE X b fb):DF X (.BinOp a .Add b pos) (QG uP fa fb):=bu (GT xw ha hb) fun σ H Q ⟨HF,ρ,d,sm,eo,hf,q⟩=>by
 obtain⟨x,hx,hf⟩:=bs hf
 obtain⟨y,hy,hg⟩:=bs hf
 refine⟨HF,ρ,x,sm,eo,hx,fun v1 H1 HF1 g1 r1=>⟨HF1,ρ,y,g1.fh,eo.mono g1.ff,hy,fun v2 H2 HF2 g2 r2=>?_⟩⟩
 have r1:=r1.mono g2.ff
 cases x<;>cases y<;>simp only[uP] at hg<;>try cases hg
 rename_i xs ys
 obtain⟨rfl,hz⟩:=fx hg
 simp only[Rep] at r1 r2
 obtain⟨a,vs,rfl,ha,ra⟩:=r1
 obtain⟨b,us,rfl,hb,rb⟩:=r2
 have G:=g1.trans g2
 exact⟨a,b,vs,us,rfl,rfl,g2.fh.seq ha,g2.fh.seq hb,by rw[ra.length,rb.length,<- zN];exact hz,fun p hp=>q p _ _ HF2 (G.trans (.own G.fh hp)) (G.hh.free hp) (G.fh.free hp) aO (ra.append rb)⟩
noncomputable def boolsOf:List D->Option (List Bool)
 | []=>some []
 | .bool b::r=>(boolsOf r).map (b::·)
 | _::_=>none
theorem jQ:∀ {ds:List D}{bs:List Bool},boolsOf ds=some bs->ds=bs.map PyData.bool
 | [],bs,h=>by cases h;rfl
 | d::r,bs,h=>by
  cases d<;>simp only[boolsOf] at h<;>try cases h
  obtain⟨bs',h1,rfl⟩:=ag h
  rw[jQ h1]
  rfl
theorem mC{K:W.Frag}{H:Hp}:∀ {bs:List Bool}{vs:List V},aw K H (bs.map PyData.bool) vs->vs=bs.map V.bl
 | [],vs,h=>h.nil_inv
 | b::bs,vs,h=>by
  obtain⟨v,r,rfl,a,c⟩:=h.cons_inv
  simp only[Rep] at a
  rw[a,mC c]
  rfl
theorem mU:∀ {bs:List Bool}{us:List Value},aM (bs.map V.bl) us->us=bs.map Value.bool
 | [],us,h=>by cases h;rfl
 | b::bs,us,h=>by
  cases h with
  | cons r rr=>cases r;rw[mU rr];rfl
theorem range_all(bs:List Bool):(List.range bs.length).all (fun i=>bs.getD i false)=bs.all id:=by
 induction bs with
 | nil=>rfl
 | cons b bs ih=>rw[zL,List.range_succ_eq_map,List.all_cons,List.all_map,List.all_cons];simpa [Function.comp_def] using congrArg (b&&·) ih
theorem range_any(bs:List Bool):(List.range bs.length).any (fun i=>bs.getD i false)=bs.any id:=by
 induction bs with
 | nil=>rfl
 | cons b bs ih=>rw[zL,List.range_succ_eq_map,List.any_cons,List.any_map,List.any_cons];simpa [Function.comp_def] using congrArg (b||·) ih
theorem Bx(hc:X.calm=true):eW X (.builtin "all") (fun xs H Q=>∃ (a:Addr) (bs:List Bool),xs=[.ref a]/\i8 X.K H a (bs.map V.bl)/\Q (.bl (bs.all id)) H):=by
 intro pins s σ H xs us Q I r h
 obtain⟨a,bs,rfl,hq,q⟩:=h
 obtain⟨u,rfl,rx⟩:=vals1 r
 cases rx
 obtain⟨its,rv,pl,hz⟩:=I.list hq
 have hv:=mU rv
 subst hv
 have hh:X.A.in1.handled=none:=I.ok.hd hc
 refine call_all_walk (wpAny_pyIter_list pl.isList ?_)
 obtain⟨o,ho,hcl,n,hd⟩:=pl.isList
 have hne:a≠s.heap.objs.size:=Nat.ne_of_lt (zZ ho)
 refine⟨_,_,_,_,_,_,fun i=>bs.getD i false,rfl,Walks.list hh s.heap.objs.size a hne (bs.map Value.bool).toArray,⟨⟨_,zY _ rfl,rfl,rfl⟩,pl.isList.push _⟩,fun i v s' Q' E' hP hQ=>?_,fun h' tk kp=>?_⟩
 ·have e:v=Value.bool (bs.getD i false):=by
   have hP:(bs.map Value.bool).toArray[i]?=some v:=hP
   rw[List.getElem?_toArray,zO] at hP
   obtain⟨b,hb,rfl⟩:=ag hP
   rw[zG,hb]
   rfl
  subst e
  exact wpAny_truthy_bool hQ
 ·refine⟨.bl (bs.all id),H,?_,?_,q⟩
  ·exact I.kept (t':=tk) fun b o' e=>kp b o' (by simp;exact Nat.ne_of_lt (zZ e)) (zV _ e)
  ·show Value.bool _=Value.bool _
   have:=range_all bs
   simp only[zH,zD]
   rw[this]
noncomputable def l7:List D->Option D:=fun ds=>(oneOf ds).bind fun d=>match d with
 | .list es=>(boolsOf es).map fun bs=>.bool (bs.all id)
 | _=>none
theorem Nl(hc:X.calm=true)(B:pA X "all" (.builtin "all"))(ha:DA X [e] fs)(he:starEach [e] X.env=(false,eval e X.env)::starEach [] X.env:=by rfl):DE X (.Call (.Name "all" p) [e] [] pos) (br l7 fs) :=
 ji (Bx hc) (by
  intro HF H ds vs d Q sm r hg q
  obtain⟨x,hx,hg⟩:=bs hg
  rw[hZ hx] at r
  cases x<;>try cases hg
  obtain⟨bs,hb,rfl⟩:=ag hg
  obtain⟨v,r',rfl,a,b⟩:=r.cons_inv
  rw[b.nil_inv]
  simp only[Rep] at a
  obtain⟨p,us,rfl,h,rr⟩:=a
  rw[jQ hb] at rr
  have:=mC rr
  subst this
  exact⟨p,bs,rfl,sm.seq h,q _ H HF (.refl sm) (by simp[Rep])⟩) B ha (by decide) (by decide) he rfl
end
noncomputable abbrev lexLt:=HT.lexLt
theorem g9:∀a:List Int,lexLt a a=false
 | []=>rfl
 | x::a=>by show HT.lexLt (x::a) (x::a)=false;rw[HT.cS,if_pos rfl];exact g9 a
theorem fu:∀ {a b c:List Int},lexLt a b=true->lexLt b c=true->lexLt a c=true
 | [],[],_,h,_=>by cases h
 | [],_::_,[],_,h=>by cases h
 | [],_::_,_::_,_,_=>rfl
 | _::_,[],_,h,_=>by cases h
 | _::_,_::_,[],_,h=>by cases h
 | x::a,y::b,z::c,h1,h2=>by
  have h1:HT.lexLt (x::a) (y::b)=true:=h1
  have h2:HT.lexLt (y::b) (z::c)=true:=h2
  show HT.lexLt (x::a) (z::c)=true
  rw[HT.cS] at h1 h2 ⊢
  by_cases e1:x=y
  ·rw[if_pos e1] at h1
   by_cases e2:y=z
   ·rw[if_pos e2] at h2
    rw[if_pos (e1.trans e2)]
    exact fu h1 h2
   ·rw[if_neg e2] at h2
    rw[if_neg (by omega)]
    have:=of_decide_eq_true h2
    exact yB (by omega)
  ·rw[if_neg e1] at h1
   have q1:=of_decide_eq_true h1
   by_cases e2:y=z
   ·rw[if_neg (by omega)]
    exact yB (by omega)
   ·rw[if_neg e2] at h2
    have q2:=of_decide_eq_true h2
    rw[if_neg (by omega)]
    exact yB (by omega)
theorem lO:∀ {a b:List Int},lexLt a b=false->lexLt b a=false->a=b
 | [],[],_,_=>rfl
 | [],_::_,h,_=>by cases h
 | _::_,[],_,h=>by cases h
 | x::a,y::b,h1,h2=>by
  have h1:HT.lexLt (x::a) (y::b)=false:=h1
  have h2:HT.lexLt (y::b) (x::a)=false:=h2
  rw[HT.cS] at h1 h2
  by_cases e:x=y
  ·rw[if_pos e] at h1
   rw[if_pos e.symm] at h2
   rw[e,lO h1 h2]
  ·rw[if_neg e] at h1
   rw[if_neg (fun z=>e z.symm)] at h2
   have:=of_decide_eq_false h1
   have:=of_decide_eq_false h2
   omega
noncomputable def lexLe(a b:List Int):Bool:=!lexLt b a
theorem y1(a b c:List Int)(h1:lexLe a b=true)(h2:lexLe b c=true):lexLe a c=true:=by
 unfold lexLe at *
 rw[Bool.not_eq_true'] at *
 cases e:lexLt c a with
 | false=>rfl
 | true =>
  cases e1:lexLt a b with
  | true=>rw[fu e e1] at h2;cases h2
  | false =>
   have:=lO e1 h1
   subst this
   rw[e] at h2;cases h2
theorem yk(a b:List Int):(lexLe a b||lexLe b a)=true:=by
 unfold lexLe
 cases e1:lexLt b a with
 | false=>rfl
 | true =>
  cases e2:lexLt a b with
  | false=>rfl
  | true=>have:=fu e1 e2;rw[g9] at this;cases this
theorem A7{a b:List Int}(h1:lexLe a b=true)(h2:lexLe b a=true):a=b:=by
 unfold lexLe at *
 rw[Bool.not_eq_true'] at *
 exact lO h2 h1
theorem uH{α:Type}{le:α->α->Bool}(anti:∀a b,le a b=true->le b a=true->a=b):∀ {l m:List α},l.Perm m->l.Pairwise (fun a b=>le a b=true)->m.Pairwise (fun a b=>le a b=true)->l=m
 | [],m,p,_,_=>p.nil_eq
 | a::l,[],p,_,_=>by have:=p.length_eq;simp at this
 | a::l,b::m,p,h1,h2=>by
  obtain⟨h1a,h1b⟩:=List.pairwise_cons.mp h1
  obtain⟨h2a,h2b⟩:=List.pairwise_cons.mp h2
  have e:a=b:=by
   have ha:a∈b::m:=p.mem_iff.mp zE
   have hb:b∈a::l:=p.mem_iff.mpr zE
   rcases zR.mp ha with e|ha
   ·exact e
   ·rcases zR.mp hb with e|hb
    ·exact e.symm
    ·exact anti a b (h1a b hb) (h2a a ha)
  subst e
  rw[uH anti (List.perm_cons a |>.mp p) h1b h2b]
noncomputable def rQ(l:List (List Int)):List (List Int):=l.mergeSort lexLe
theorem Ht(l:List (List Int)):(rQ l).Perm l:=List.mergeSort_perm l lexLe
theorem M9(l:List (List Int)):(rQ l).Pairwise (fun a b=>lexLe a b=true):=List.pairwise_mergeSort y1 yk l
theorem AK{l m:List (List Int)}(p:l.Perm m)(h:l.Pairwise (fun a b=>lexLe a b=true)):l=rQ m:=uH (fun _ _=>A7) (p.trans (Ht m).symm) h (M9 m)
noncomputable def rk(l:List (List Int))(a:List Int):Int:=((l.countP fun b=>lexLt b a:Nat):Int)
theorem Co{l:List (List Int)}{a b:List Int}(ha:a∈l):lexLt a b=decide (rk l a < rk l b):=by
 unfold rk
 have mono:∀ {a b:List Int},lexLt a b=true->(l.countP fun c=>lexLt c a)<=l.countP fun c=>lexLt c b:=fun {a b} h=>List.countP_mono_left fun c _ hc=>fu hc h
 have strict:∀ {a b:List Int}(ha:a∈l),lexLt a b=true->(l.countP fun c=>lexLt c a) < l.countP fun c=>lexLt c b:=fun {a b} ha h=>by
  have key:∀m:List (List Int),a∈m->(m.countP fun c=>lexLt c a) < m.countP fun c=>lexLt c b:=fun m hm=>by
   induction m with
   | nil=>cases hm
   | cons x m ih =>
    rw[List.countP_cons,List.countP_cons]
    have mo:(m.countP fun c=>lexLt c a)<=m.countP fun c=>lexLt c b:=List.countP_mono_left fun c _ hc=>fu hc h
    rcases zR.mp hm with e|hm
    ·subst e
     rw[g9,h]
     simp only[Bool.false_eq_true,if_false,if_true]
     omega
    ·have:=ih hm
     by_cases hx:lexLt x a=true
     ·rw[hx,fu hx h];simp only[if_true];omega
     ·have hx':lexLt x a=false:=by simpa using hx
      rw[hx']
      simp only[Bool.false_eq_true,if_false]
      split<;>omega
  exact key l ha
 cases e:lexLt a b with
 | true=>exact (yB (by have:=strict ha e;omega)).symm
 | false =>
  refine (yA ?_).symm
  cases e2:lexLt b a with
  | true=>have:=mono e2;omega
  | false=>rw[lO e e2];omega
section
variable {prog:Program}{w:World}{A:Around}{E:Value->Shared->Prop}{s:Shared}
theorem qL{Q:Bool->Shared->Prop}:∀ {us ws:List Value}{ns ms:List Int}(i:Nat),IntsAre us ns->IntsAre ws ms->Q (lexLt ns ms) s->W.KatLex prog w A true (decide (ns.length < ms.length)) Q (us.zip ws) i s
 | [],[],_,_,i,.nil,.nil,h=>h
 | [],_::_,_,_,i,.nil,.cons _ _ _,h=>by
  show Q (decide (0 < _+1)) s
  rw[yB (Nat.succ_pos _)]
  exact h
 | _::_,[],_,_,i,.cons _ _ _,.nil,h=>by
  show Q (decide (_+1 < 0)) s
  rw[yA (Nat.not_lt_zero _)]
  exact h
 | _::us,_::ws,_,_,i,.cons n t r1,.cons m u r2,h=>by
  have h:Q (HT.lexLt (n::_) (m::_)) s:=h
  rw[HT.cS] at h
  refine W.kat_cons (SeqAt.EqAt.int_int n t m u prog w _ _ ?_)
  cases e:(n == m) with
  | true =>
   have e':n=m:=eq_of_beq e
   rw[if_pos e'] at h
   refine W.kat_yes ?_
   have:=qL (i+1) r1 r2 h
   simp only[zL,Nat.add_lt_add_iff_right]
   exact this
  | false =>
   have e':¬ n=m:=fun q=>by rw[q] at e;simp at e
   rw[if_neg e'] at h
   refine W.kat_no ?_
   by_cases hi:(true&&i == 0)=true
   ·rw[hi]
    exact oneLt_int h
   ·have hi':(true&&i == 0)=false:=by simpa using hi
    rw[hi']
    refine W.kat_one _ _ (lt_int ?_)
    exact h
end
noncomputable def af(ns:List Int):D:=.tuple (ns.map PyData.int)
noncomputable def intsOf:List D->Option (List Int)
 | []=>some []
 | .int n::r=>(intsOf r).map (n::·)
 | _::_=>none
theorem eB:∀ {ds:List D}{ns:List Int},intsOf ds=some ns->ds=ns.map PyData.int
 | [],ns,h=>by cases h;rfl
 | d::r,ns,h=>by
  cases d<;>simp only[intsOf] at h<;>try cases h
  obtain⟨ns',h1,rfl⟩:=ag h
  rw[eB h1]
  rfl
theorem cN:∀ns:List Int,intsOf (ns.map PyData.int)=some ns
 | []=>rfl
 | n::ns=>by simp[intsOf,cN ns]
noncomputable def BS:D->Option (List Int)|.tuple ds=>(intsOf ds).bind fun ns=>if ns=[] then none else some ns|_=>none
theorem A5{d:D}{ns:List Int}(h:BS d=some ns):d=af ns/\ns≠[]:=by
 cases d<;>try cases h
 obtain⟨ms,h1,h2⟩:=bs h
 split at h2
 ·cases h2
 ·rename_i hn
  cases h2
  rw[eB h1]
  exact⟨rfl,hn⟩
theorem Ej{ns:List Int}(h:ns≠[]):BS (af ns)=some ns:=by
 unfold af BS
 simp only[cN,zA]
 rw[if_neg h]
noncomputable def rowsOf:List D->Option (List (List Int))
 | []=>some []
 | d::r=>(BS d).bind fun ns=>(rowsOf r).map (ns::·)
theorem lj:∀ {ds:List D}{nss:List (List Int)},rowsOf ds=some nss->ds=nss.map af/\∀ns∈nss,ns≠[]
 | [],nss,h=>by cases h;exact⟨rfl,fun _ z=>by cases z⟩
 | d::r,nss,h=>by
  obtain⟨ns,h1,h⟩:=bs h
  obtain⟨rest,h2,rfl⟩:=ag h
  obtain⟨e,hn⟩:=A5 h1
  obtain⟨e2,hn2⟩:=lj h2
  refine⟨by rw[e,e2];rfl,fun m hm=>?_⟩
  rcases zR.mp hm with q|q
  ·subst q;exact hn
  ·exact hn2 m q
theorem jW:∀ {nss:List (List Int)},(∀ns∈nss,ns≠[])->rowsOf (nss.map af)=some nss
 | [],_=>rfl
 | ns::r,h=>by
  simp only[zI,rowsOf,Ej (h ns zE),zA,jW fun m hm=>h m (zC _ hm),zB]
structure zl(h:Heap)(v:Value)(ns:List Int):Prop where
 ex:∃ (a:Addr) (o:Obj) (its:Array Value) (n:Nat),v=.ref a/\h.get? a=some o/\o.cls=.type "tuple"/\o.data=.seq its n/\IntsAre its.toList ns
theorem zl.keep{h h':Heap}{v:Value}{ns:List Int}(r:zl h v ns)(k:∀b o,h.get? b=some o->h'.get? b=some o):zl h' v ns:=let ⟨a,o,its,n,e,e1,e2,e3,e4⟩:=r.ex;⟨a,o,its,n,e,k _ _ e1,e2,e3,e4⟩
section
variable {prog:Program}{w:World}{A:Around}{E:Value->Shared->Prop}{s:Shared}
theorem qD{h:Heap}:∀ {vs:List Value}{nss:List (List Int)},Paired (zl h) vs nss->(∀ns∈nss,ns≠[])->∃fs:List Value,W.KatTups h vs fs/\fs.length=vs.length/\∀f∈fs,∃n t,f=Value.int n t
 | _,_,.nil,_=>⟨[],trivial,rfl,fun _ z=>by cases z⟩
 | _,_,.cons (a:=v) (b:=ns) r p,hn=>by
  obtain⟨fs,h1,h2,h3⟩:=qD p fun m hm=>hn m (zC _ hm)
  obtain⟨a,o,its,n,rfl,e1,e2,e3,e4⟩:=r.ex
  cases hits:its.toList with
  | nil =>
   rw[hits] at e4
   cases e4
   exact absurd rfl (hn [] zE)
  | cons f rest =>
   rw[hits] at e4
   cases e4 with
   | cons m t e5 =>
    have h0:its[0]?=some (.int m t):=by
     have:its.toList[0]?=some (Value.int m t):=by rw[hits];rfl
     simpa using this
    exact⟨.int m t::fs,W.KatTups.cons e1 e2 e3 h0 h1,by simp[h2],fun g hg=>by
     rcases zR.mp hg with q|q
     ·exact⟨m,t,q⟩
     ·exact h3 g q⟩
theorem g0{α β:Type}{R:α->β->Prop}{d:α}{d':β}:∀ {l:List α}{m:List β}{i:Nat},Paired R l m->i < l.length->R (l.getD i d) (m.getD i d')
 | _,_,i,.nil,h=>by simp at h
 | _,_,0,.cons r _,_=>r
 | _,_,i+1,.cons _ p,h=>by simpa using g0 (i:=i) (d:=d) (d':=d') p (by simpa using h)
theorem xI{l:Addr}{vs:List Value}{nss:List (List Int)}{Q:Value->Shared->Prop}(hl:Srt.Coll s.heap l vs)(hp:Paired (zl s.heap) vs nss)(hn:∀ns∈nss,ns≠[])(h64:vs.length < 64)
  (h:∀ (h':Heap) (D:Addr) (c:Nat),(∀b o,s.heap.get? b=some o->h'.get? b=some o)->s.heap.objs.size<=D->h'.get? D=some (seqObj "list" (Srt.outV (fun i=>rk nss (nss.getD i [])) vs).toArray c)->Q (.ref D) { s with heap:=h' }) :
  wpAny (model prog w) A (call (.builtin "sorted") [.ref l]) Q E s:=by
 refine Srt.sortedG hl h64 (fun i=>rk nss (nss.getD i [])) (tuples' true) (fun h2 h' kp Q' q=>?_) (fun h2 h' kp i j C hi hj q=>?_) h
 ·have hp':Paired (zl h') vs nss:=Paired.mapP hp fun _ _ r=>r.keep kp
  obtain⟨fs,t,hlen,hf⟩:=qD hp' hn
  refine W.kat_kind (s:={ s with heap:=h' }) (T:=.type "int") t (by omega) (fun v hv=>?_) (by decide) q
  obtain⟨n,t,rfl⟩:=hf v hv
  exact W.Looks.of_pure rfl
 ·have ri:=(g0 (d:=Value.none) (d':=[]) hp hi).keep kp
  have rj:=(g0 (d:=Value.none) (d':=[]) hp hj).keep kp
  have hlen:=hp.length
  obtain⟨a,o,its,n,ea,e1,e2,e3,e4⟩:=ri.ex
  obtain⟨b,o',its',n',eb,f1,f2,f3,f4⟩:=rj.ex
  unfold W.kas_ask
  rw[ea,eb]
  have hmem:nss.getD i []∈nss:=by
   rw[zG,zK (by omega)]
   exact List.getElem_mem _
  have q':C (lexLt (nss.getD i []) (nss.getD j [])) { s with heap:=h' }:=by
   rw[Co hmem]
   exact q
  refine W.kat_lt (s:={ s with heap:=h' }) e1 e3 f1 f3 ?_
  have:=qL (prog:=prog) (w:=w) (A:=A.in1.in1) (s:={ s with heap:=h' }) 0 e4 f4 q'
  have l1:its.size=(nss.getD i []).length:=by have:=IntsAre.length e4;simpa using this
  have l2:its'.size=(nss.getD j []).length:=by have:=IntsAre.length f4;simpa using this
  rw[l1,l2]
  exact this
end
noncomputable def qj{α:Type}(z:Nat->Int)(l:List α)(d:α):List α:=if l.length < 2 then l else (SP.run (SP.ft z) (W.kas_sort l.length)).toList.map fun i=>l.getD i d
theorem lg{α:Type}(l:List α)(d:α):(List.range l.length).map (fun i=>l.getD i d)=l:=by
 apply List.ext_getElem
 ·simp
 ·intro i h1 h2
  simp[h2]
theorem hC{α:Type}(z:Nat->Int)(l:List α)(d:α):(qj z l d).Perm l:=by
 unfold qj
 split
 ·exact List.Perm.refl _
 ·rename_i h
  have:=((SP.iA (z:=z) (n:=l.length) (by omega)).1).map fun i=>l.getD i d
  rw[lg] at this
  exact this
theorem JL(nss:List (List Int)):qj (fun i=>rk nss (nss.getD i [])) nss []=rQ nss:=by
 refine AK (hC _ _ _) ?_
 unfold qj
 split
 ·rename_i h
  match nss,h with
  | [],_=>exact List.Pairwise.nil
  | [a],_=>exact List.pairwise_singleton _ _
 ·rename_i h
  obtain⟨hp,hs⟩:=SP.iA (z:=fun i=>rk nss (nss.getD i [])) (n:=nss.length) (by omega)
  rw[List.pairwise_map] at hs ⊢
  refine hs.imp_of_mem fun {i j} hi hj hij=>?_
  have hj':j < nss.length:=by have:=hp.mem_iff.mp hj;simpa using this
  unfold lexLe
  rw[Co (l:=nss) (a:=nss.getD j []) (by rw[zG,zK hj'];exact List.getElem_mem _)]
  simp only[Bool.not_eq_true',decide_eq_false_iff_not]
  omega
section
variable {X:Cx}
theorem rq{K:W.Frag}{HF:Hp}{ds:List D}{vs:List V}(z:Nat->Int)(r:aw K HF ds vs):aw K HF (qj z ds .none) (qj z vs .non):=by
 unfold qj
 rw[r.length]
 split
 ·exact r
 ·rename_i h
  obtain⟨hp,_⟩:=SP.iA (z:=z) (n:=ds.length) (by omega)
  have key:∀l:List Nat,(∀i∈l,i < ds.length)->aw K HF (l.map fun i=>ds.getD i .none) (l.map fun i=>vs.getD i .non):=fun l=>by
   induction l with
   | nil=>exact fun _=>aw.nil
   | cons i l ih =>
    intro hl
    have hi:=hl i zE
    obtain⟨v,e1,e2⟩:=r.getD (zK hi)
    refine aw.cons ?_ (ih fun j hj=>hl j (zC _ hj))
    dsimp only
    rw[zG,zG,e1,zK hi]
    exact e2
  exact key _ fun i hi=>by have:=hp.mem_iff.mp hi;simpa using this
theorem rS{vs:List V}{us:List Value}(z:Nat->Int)(r:aM vs us):aM (qj z vs .non) (Srt.outV z us):=by
 unfold qj Srt.outV
 rw[r.length]
 split
 ·exact r
 ·rename_i h
  obtain⟨hp,_⟩:=SP.iA (z:=z) (n:=us.length) (by omega)
  have key:∀l:List Nat,(∀i∈l,i < vs.length)->aM (l.map fun i=>vs.getD i .non) (l.map fun i=>us.getD i Value.none):=fun l=>by
   induction l with
   | nil=>exact fun _=>.nil
   | cons i l ih =>
    intro hl
    have hi:=hl i zE
    obtain⟨v,e1,e2⟩:=r.get (zK hi)
    refine .cons ?_ (ih fun j hj=>hl j (zC _ hj))
    dsimp only
    rw[zG,zG,e1,zK hi]
    exact e2
  exact key _ fun i hi=>by have:=hp.mem_iff.mp hi;rw[r.length];simpa using this
theorem Ka(z:Nat->Int)(nss:List (List Int)):qj z (nss.map af) .none=(qj z nss []).map af:=by
 unfold qj
 rw[zD]
 split
 ·rfl
 ·rename_i h
  rw[zM]
  obtain⟨hp,_⟩:=SP.iA (z:=z) (n:=nss.length) (by omega)
  refine yJ fun i hi=>?_
  have hi':i < nss.length:=by have:=hp.mem_iff.mp hi;simpa using this
  simp[hi']
theorem m6{pins:List (Addr×Obj)}{σ:L2.St}{H HF:Hp}{s:Shared}(I:Inv X pins σ H s)(sm:bo HF H):∀ {nss:List (List Int)}{vs:List V}{us:List Value},aw X.K HF (nss.map af) vs->aM vs us->Paired (zl s.heap) us nss
 | [],_,_,h,r=>by rw[h.nil_inv] at r;cases r;exact .nil
 | ns::nss,_,_,h,r=>by
  obtain⟨v,vr,rfl,a,b⟩:=h.cons_inv
  cases r with
  | cons r rr =>
   refine .cons ?_ (m6 I sm b rr)
   unfold af at a
   simp only[Rep] at a
   obtain⟨p,ws,rfl,hs,rw'⟩:=a
   cases r
   obtain⟨its,rv,⟨o,ho,hc,n,hd⟩,_⟩:=I.tuple (aI sm hs)
   have:ws=ns.map V.int:=by
    have key:∀ {ns:List Int}{ws:List V},aw X.K HF (ns.map PyData.int) ws->ws=ns.map V.int:=fun {ns}=>by
     induction ns with
     | nil=>exact fun h=>h.nil_inv
     | cons n ns ih =>
      intro ws h
      obtain⟨v,r,rfl,a,b⟩:=h.cons_inv
      simp only[Rep] at a
      rw[a,ih b]
      rfl
    exact key rw'
   subst this
   exact⟨p,o,its.toArray,n,rfl,ho,hc,hd,intsAre_of rv⟩
theorem oN:eW X (.builtin "sorted") (fun xs H Q=>∃ (HF:Hp) (a:Addr) (vs:List V) (nss:List (List Int)),xs=[.ref a]/\bo HF H/\(i8 X.K HF a vs\/jA X.K HF a vs)/\aw X.K HF (nss.map af) vs/\(∀ns∈nss,ns≠[])/\nss.length < 64 /\
  ∀ (Dn:Addr) (us:List V),H Dn=none->aw X.K HF ((rQ nss).map af) us->Q (.ref Dn) (upd H Dn (.lst us))):=by
 intro pins s σ H xs us Q I r h
 obtain⟨HF,a,vs,nss,rfl,sm,hq,rr,hn,h64,q⟩:=h
 obtain⟨u,rfl,rx⟩:=vals1 r
 cases rx
 obtain⟨its,rv,pl,hz⟩:∃its:List Value,aM vs its/\Srt.Coll s.heap a its/\vs.length<=sizeLine:=by
  rcases hq with hq|hq
  ·obtain⟨its,rv,pl,hz⟩:=I.list (sm.seq hq)
   obtain⟨o,ho,hc,n,hd⟩:=pl.isList
   exact⟨its,rv,⟨o,"list",n,.inl rfl,ho,hc,hd⟩,hz⟩
  ·obtain⟨its,rv,pl,hz⟩:=I.tuple (aI sm hq)
   obtain⟨o,ho,hc,n,hd⟩:=(show s.heap.IsTuple a its.toArray from pl)
   exact⟨its,rv,⟨o,"tuple",n,.inr rfl,ho,hc,hd⟩,hz⟩
 have hl1:=rr.length
 rw[zD] at hl1
 refine xI pl (m6 I sm rr rv) hn (by have:=rv.length;omega) fun h' Dn c kp hD e=>?_
 have hv:=rS (fun i=>rk nss (nss.getD i [])) rv
 have hr:=rq (fun i=>rk nss (nss.getD i [])) rr
 rw[Ka,JL] at hr
 refine⟨.ref Dn,_,I.laid (t':=s.toks) (o:=.lst (qj (fun i=>rk nss (nss.getD i [])) vs .non)) kp hD ⟨?_,_,c,hv,e⟩,rfl,q Dn _ (I.hok.fresh hD) hr⟩
 rw[(hC _ _ _).length_eq]
 exact hz
noncomputable def dC:List D->Option (List D):=fun ds=>(oneOf ds).bind fun d=>match d with
 | .list es=>(rowsOf es).bind fun nss=>if nss.length < 64 then some ((rQ nss).map af) else none
 | .tuple es=>(rowsOf es).bind fun nss=>if nss.length < 64 then some ((rQ nss).map af) else none
 | _=>none
variable {e:Expr}{fs:Env->Option (List D)}{p pos:Pos}
theorem DN(B:pA X "sorted" (.builtin "sorted"))(ha:DA X [e] fs)(he:starEach [e] X.env=(false,eval e X.env)::starEach [] X.env:=by rfl):DF X (.Call (.Name "sorted" p) [e] [] pos) (mJ dC fs) :=
 FU oN (by
  intro HF H ds vs d Q sm r hg q
  obtain⟨x,hx,hg⟩:=bs hg
  rw[hZ hx] at r
  have key:∀ (b:Bool) (es:List D),aw X.K HF [if b then .tuple es else .list es] vs->((rowsOf es).bind fun nss=>if nss.length < 64 then some ((rQ nss).map af) else none)=some d->(∃ (HF:Hp) (a:Addr) (us:List V) (nss:List (List Int)),vs=[.ref a]/\bo HF H/\(i8 X.K HF a us\/jA X.K HF a us)/\aw X.K HF (nss.map af) us/\(∀ns∈nss,ns≠[])/\nss.length < 64/\∀ (Dn:Addr) (ws:List V),H Dn=none->aw X.K HF ((rQ nss).map af) ws->Q (.ref Dn) (upd H Dn (.lst ws))):=fun b es r hg=>by
   obtain⟨nss,hb,hg⟩:=bs hg
   split at hg
   ·rename_i h64
    cases hg
    obtain⟨v,r',rfl,a,e0⟩:=r.cons_inv
    rw[e0.nil_inv]
    obtain⟨e1,e2⟩:=lj hb
    obtain⟨p,us,rfl,h,rr⟩:∃p us,v=.ref p/\(i8 X.K HF p us\/jA X.K HF p us)/\aw X.K HF es us:=by
     cases b
     ·simp only[Bool.false_eq_true,if_false,Rep] at a
      obtain⟨p,us,rfl,h,rr⟩:=a
      exact⟨p,us,rfl,.inl h,rr⟩
     ·simp only[if_true,Rep] at a
      obtain⟨p,us,rfl,h,rr⟩:=a
      exact⟨p,us,rfl,.inr h,rr⟩
    rw[e1] at rr
    exact⟨HF,p,us,nss,rfl,sm,h,rr,e2,h64,fun Dn ws hD hr=>q Dn ws _ HF (.own sm hD) hD (sm.free hD) aO hr⟩
   ·cases hg
  cases x<;>try cases hg
  ·exact key false _ r hg
  ·exact key true _ r hg) B ha (by decide) (by decide) he rfl
end
end Dl
namespace En
open PySem PyProof.Rows
open AutoSeq1 (wpAny_loadPart')
section
variable {prog:Program}{w:World}{A:Around}{E:Value->Shared->Prop}{s:Shared}
theorem nextT_item{j t:Addr}{k:Nat}{its:Array Value}{v:Value}{Q:Value->Shared->Prop}(hj:s.heap.IsTupleIter j t k)(ht:s.heap.IsTuple t its)(hv:its[k]?=some v)
  (hQ:∀g,g.IsTupleIter j t (k+1)->Heap.SameBut j s.heap g->Q v { s with heap:=g }):wpAny (model prog w) A (Builtin.SmallTypes.nextOf (.ref j)) Q E s:=by
 obtain⟨oj,gj,cj,dj⟩:=id hj
 obtain⟨ot,gt,_,nt,dt⟩:=ht
 unfold Builtin.SmallTypes.nextOf
 refine zW (wpAny_callSpecial?_slot (name:=Str.ofString "__next__") hj.typeIs F.slot_tuple_iterator_next (wpAny_call_entry F.slot_tuple_iterator_next hj.typeIs F.entry_tuple_iterator_next ?_ (F.args_tuple_iterator_next_1 _)))
 refine zW (m:=field (.ref j) 0) (wpAny_field gj dj (x:=.ref t) rfl ?_)
 show wpAny _ _ (if (Value.ref t == Value.none)=true then _ else _) _ _ s
 rw[if_neg (show ¬ ((Value.ref t == Value.none)=true) by exact Bool.false_ne_true)]
 refine zW (m:=field (.ref j) 1) (wpAny_field gj dj (x:=.int k 0) rfl ?_)
 refine zW (m:=seqItems? (.ref t)) (wpAny_seqItems gt dt ?_)
 simp only[yH,hv]
 refine zW (wpAny_setField gj dj (by simp) (zX ⟨v,rfl,zX (hQ _ ⟨_,Heap.get?_update_self _ gj (Obj.isFreed_of_fields (Obj.data_mapFields dj _)),(Obj.cls_mapFields ..).trans cj,?_⟩ (Heap.SameBut.update ..))⟩))
 rw[Obj.data_mapFields dj];simp[rawInt]
theorem nextT_end{j t:Addr}{k:Nat}{its:Array Value}{Q:Value->Shared->Prop}(hh:A.handled=none)(hj:s.heap.IsTupleIter j t k)(ht:s.heap.IsTuple t its)(hv:its[k]?=none)
  (hE:∀g x,Heap.ExtBut j s.heap g->(∃o,g.get? x=some o/\o.cls=.type "StopIteration")->E (.ref x) { s with heap:=g }):wpAny (model prog w) A (Builtin.SmallTypes.nextOf (.ref j)) Q E s:=by
 obtain⟨oj,gj,cj,dj⟩:=id hj
 obtain⟨ot,gt,_,nt,dt⟩:=ht
 unfold Builtin.SmallTypes.nextOf
 refine zW (wpAny_callSpecial?_slot (name:=Str.ofString "__next__") hj.typeIs F.slot_tuple_iterator_next (wpAny_call_entry F.slot_tuple_iterator_next hj.typeIs F.entry_tuple_iterator_next ?_ (F.args_tuple_iterator_next_1 _)))
 refine zW (m:=field (.ref j) 0) (wpAny_field gj dj (x:=.ref t) rfl ?_)
 show wpAny _ _ (if (Value.ref t == Value.none)=true then _ else _) _ _ s
 rw[if_neg (show ¬ ((Value.ref t == Value.none)=true) by exact Bool.false_ne_true)]
 refine zW (m:=field (.ref j) 1) (wpAny_field gj dj (x:=.int k 0) rfl ?_)
 refine zW (m:=seqItems? (.ref t)) (wpAny_seqItems gt dt ?_)
 simp only[yH,hv]
 refine zW (wpAny_rule (zW (wpAny_setField gj dj (by simp) (zW (m:=newExc (.type "StopIteration") []) ?_))))
 simp only[newExc,newTuple]
 refine zW (wpAny_newObj_type (zW (m:=firstArgMember _ _) (wpAny_of_eq (a:=Value.none) (by first|rfl|(simp only[firstArgMember];rfl)) ?_)) (by size_fits))
 refine wpAny_newObj_type ?_ (by size_fits);simp only[raiseNew]
 refine zW (wpAny_handled ?_)
 first|rw[show A.in1.handled=none from hh]|rw[hh]
 exact zW (zX (wpAny_throw (hE _ _ (((Heap.SameBut.update ..).extBut.push _).push _) ⟨_,zY _ rfl,rfl⟩)))
theorem meets_enumT(t:Addr)(its:Array Value)(n:Nat)(dd:Option Addr)(sl:Array (Option Value)) :
  Meets (Builtin.«enumerate.__new__» ⟨[.type "enumerate",.ref t],[]⟩) (fun _ R s=>s.heap.get? t=some { cls:=.type "tuple",dict:=dd,data:=.seq its n,slots:=sl } /\
   R (.ok (.ret (.ref (s.heap.push { cls:=.type "tuple_iterator",data:=.fields #[.ref t,.int 0 0] }).objs.size)))
    { s with heap:=(s.heap.push { cls:=.type "tuple_iterator",data:=.fields #[.ref t,.int 0 0] }).push { cls:=.type "enumerate",data:=.fields #[.none,.bool false,.ref s.heap.objs.size,rawInt 0,.none,.none] } }) :=
 .of_wp fun prog w A R s h=>by
  obtain⟨hp,g,d,tk,os⟩:=s
  obtain⟨hl,h⟩:=h
  have hsub:=sub_enumerate
  have hL:Heap.IsTuple (Shared.heap ⟨hp,g,d,tk,os⟩) t its:=⟨_,hl,rfl,n,rfl⟩
  wp_walk using wpAny_loadPart' hl
  refine wpAny_stack_any fun st=>zX ?_
  split
  ·rename_i c _ _ _ _ _
   cases (c == Value.type "enumerate")
   ·wp_walk using wpAny_loadPart' hl,wpAny_pyIter_tuple hL
    exact⟨_,rfl,h⟩
   ·wp_walk using wpAny_loadPart' hl,wpAny_pyIter_tuple hL
    exact⟨_,rfl,h⟩
  ·wp_walk using wpAny_loadPart' hl,wpAny_pyIter_tuple hL
   exact⟨_,rfl,h⟩
theorem call_enumT{t:Addr}{its:Array Value}{Q:Value->Shared->Prop}(ht:s.heap.IsTuple t its)
  (h:∀h',IsEnum h' (s.heap.objs.size+1) s.heap.objs.size 0 .none->h'.IsTupleIter s.heap.objs.size t 0->h'.objs.size=s.heap.objs.size+2->(∀b o,s.heap.get? b=some o->h'.get? b=some o)->Q (.ref (s.heap.objs.size+1)) { s with heap:=h' }) :
  wpAny (model prog w) A (call (.type "enumerate") [.ref t]) Q E s:=by
 obtain⟨⟨c,dct,dt,sl⟩,hl,hc,n,hd⟩:=ht
 simp only at hc hd
 subst hc hd
 refine callType_new F.called_enumerate (by decide) (F.typeCall_enumerate_1 _) (F.newCall_enumerate_1 _) (fun obj=>F.args_object_init_2 obj _) F.entry_enumerate_new (meets_enumT t its n dct sl) ⟨hl,?_⟩
 have hz:(s.heap.push { cls:=.type "tuple_iterator",data:=.fields #[.ref t,.int 0 0] }).objs.size=s.heap.objs.size+1:=by rw[Heap.size_push]
 have he:=zY (s.heap.push { cls:=.type "tuple_iterator",data:=.fields #[.ref t,.int 0 0] }) (o:={ cls:=.type "enumerate",data:=.fields #[.none,.bool false,.ref s.heap.objs.size,rawInt 0,.none,.none] }) rfl
 show _/\_
 rw[hz] at he ⊢
 refine⟨⟨_,he,rfl⟩,h _ he ⟨_,zV _ (zY _ rfl),rfl,rfl⟩ ?_ fun b o x=>zV _ (zV _ x)⟩
 show (Heap.push _ _).objs.size=_
 rw[Heap.size_push,hz]
end
end En
namespace Dl
open PySem L2 PySem.Spec PyProof.Rows
section
variable {X:Cx}{pins:List (Addr×Obj)}{σ:L2.St}{H:Hp}{s:Shared}{h':Heap}{t':Nat}{ch:List Addr}
theorem zk(I:Inv X pins σ H s)(hch:∀b∈ch,cW X pins H b)(k:∀b o,b∉ch->s.heap.get? b=some o->h'.get? b=some o){T:Addr}{vals:List Value}{xs:List V}(hT:s.heap.objs.size<=T)(ht:rJ h' T vals.toArray)
  (rv:aM xs vals) (hz:xs.length<=sizeLine):Inv X pins σ (upd H T (.tup xs)) { s with heap:=h',toks:=t' }:=by
 have nT:H T=none:=I.hok.fresh hT
 have ne:∀b o,s.heap.get? b=some o->b≠T:=fun b o e=>Nat.ne_of_lt (zP (zZ e) hT)
 have ne2:∀b o,H b=some o->b≠T:=fun b o e=>aU e nT
 have nch:∀b o,H b=some o->b∉ch:=fun b o e z=>by rw[(hch b z).1] at e;cases e
 refine I.step (g':=s.gens) (d':=s.drawn) (ch:=ch) (fun b hb=>?_) (fun b o _ _ hc e _=>k b o hc e) (fun b o _ _ hc e _=>⟨o.slots,k b o hc e⟩) (fun b o _ e n=>by rw[aL (ne b o e)];exact n)
  (fun b o hc e=>⟨o,k b o hc e⟩) (fun b ys e=>by rw[aL (ne2 b _ e)];exact e) (fun b o u e=>by rw[aL (ne2 b _ e)];exact e) (.kept (fun b u ⟨q,z⟩ e=>k b u (nch b _ z) e) fun b u e _=>by rw[aL (ne2 b _ e)];exact e) (fun m hm=>?_) (fun b u e=>?_) I.bare
 ·obtain⟨f0,f1,f2,f3,f4,f5⟩:=hch b hb
  exact⟨f3,f1,f4,f5⟩
 ·obtain⟨o,es,ep,ho,r⟩:=hm
  exact⟨o,es,ep,k _ o (fun z=>(hch _ z).2.1 rfl) ho,r⟩
 ·by_cases hb:b=T
  ·subst hb
   rw[aO] at e
   cases e
   exact⟨hz,vals,rv,ht⟩
  ·rw[aL hb] at e
   refine (I.hok b u e).stay (fun c v hc q=>k c v ?_ q) (fun _ q=>?_) fun c v q _=>?_
   ·rcases hc with z|z
    ·rw[z];exact nch b u e
    ·exact nch c _ z
   all_goals first
    | (rw[aL (ne2 _ _ q)];exact q)
    | exact q
theorem OP(I:Inv X pins σ H s){a b:Addr}{o:Obj}(hf:cW X pins H b)(h:X.K.lookup a=some o):a≠b:=by
 rintro rfl
 have hb:=I.ok.mod.kin a o h
 rcases hf.2.2.2.1 with z|z
 ·exact I.ok.noex a o hb z
 ·exact absurd (zP (zZ (I.ok.bs a o hb).1) z) (Nat.lt_irrefl _)
theorem Mc(I:Inv X pins σ H s){a b:Addr}{xs:List V}(hf:cW X pins H b)(h:i8 X.K H a xs):a≠b:=by
 rcases h with (h|⟨o,h⟩)|⟨o,its,n,h,_⟩
 ·exact aU h hf.1
 ·exact aU h hf.1
 ·exact OP I hf h
theorem MZ(I:Inv X pins σ H s){a b:Addr}{xs:List V}(hf:cW X pins H b)(h:jA X.K H a xs):a≠b:=by
 rcases h with (h|⟨o,h⟩)|⟨o,its,n,h,_⟩
 ·exact aU h hf.1
 ·exact aU h hf.1
 ·exact OP I hf h
end
noncomputable def PD(sq:Hp->List V->Prop):It:=⟨fun i H=>∃xs x,sq H xs/\xs[i]?=some x,fun i H v H'=>∃T y,v=.ref T/\H T=none/\H'=upd H T (.tup [.int (i:Nat),y])/\∀xs,sq H xs->xs[i]?=some y,fun i H=>∃xs,sq H xs/\xs.length<=i⟩
noncomputable def bL(k:Nat):List D->List D
 | []=>[]
 | d::ds=>.tuple [.int (k:Nat),d]::bL (k+1) ds
theorem ur:∀ {ds:List D}{k i:Nat}{d:D},(bL k ds)[i]?=some d->∃x,ds[i]?=some x/\d=.tuple [.int ((k+i:Nat):Int),x]
 | [],k,i,d,h=>by simp[bL] at h
 | x::ds,k,0,d,h=>by simp[bL] at h;exact⟨x,rfl,h.symm⟩
 | x::ds,k,i+1,d,h=>by
  simp only[bL,List.getElem?_cons_succ] at h
  obtain⟨y,h1,h2⟩:=ur h
  refine⟨y,by simpa using h1,?_⟩
  rw[h2,show k+1+i=k+(i+1) by omega]
theorem lM:∀ (ds:List D) (k:Nat),(bL k ds).length=ds.length
 | [],k=>rfl
 | x::ds,k=>by simp[bL,lM ds (k+1)]
theorem DM{K:W.Frag}{HF:Hp}{sq:Hp->List V->Prop}{ds:List D}{vs:List V}(h:sq HF vs)(mo:∀H H',bo H H'->sq H vs->sq H' vs)(r:aw K HF ds vs):uL K (PD sq) HF (bL 0 ds) where
 go:=fun i d H₁ HF₁ e s1 s2=>by
  obtain⟨x,hx,rfl⟩:=ur e
  rw[Nat.zero_add]
  obtain⟨v,hv,rv⟩:=r.getD hx
  have q:=mo _ _ s2 (mo _ _ s1 h)
  refine⟨⟨vs,v,q,hv⟩,fun y H₂ ⟨T,z,e1,hT,e2,hy⟩=>?_⟩
  have:=hy vs q
  rw[hv] at this
  cases this
  subst e1 e2
  exact⟨_,.new s2 hT,e9 (s2.free hT) (aw.cons (by simp[Rep]) (aw.cons (rv.mono s1) aw.nil))⟩
 stop:=fun H₁ HF₁ s1 s2=>⟨vs,mo _ _ s2 (mo _ _ s1 h),by rw[lM,r.length];exact Nat.le_refl _⟩
noncomputable def Qk(sq1 sq2:Hp->List V->Prop):It:=⟨fun i H=>∃xs ys x y,sq1 H xs/\sq2 H ys/\xs[i]?=some x/\ys[i]?=some y,
 fun i H v H'=>∃T x y,v=.ref T/\H T=none/\H'=upd H T (.tup [x,y])/\(∀xs,sq1 H xs->xs[i]?=some x)/\∀ys,sq2 H ys->ys[i]?=some y,
 fun i H=>∃xs ys,sq1 H xs/\sq2 H ys/\(xs.length<=i\/ys.length<=i)⟩
section
variable {X:Cx}{pins:List (Addr×Obj)}{σ:L2.St}{H:Hp}{s:Shared}{h':Heap}{t':Nat}{ch:List Addr}
theorem DD(I:Inv X pins σ H s)(hch:∀b∈ch,cW X pins H b)(k:∀b o,b∉ch->s.heap.get? b=some o->h'.get? b=some o):Inv X pins σ H { s with heap:=h',toks:=t' }:=by
 have nch:∀b o,H b=some o->b∉ch:=fun b o e z=>by rw[(hch b z).1] at e;cases e
 refine I.step (g':=s.gens) (d':=s.drawn) (ch:=ch) (fun b hb=>?_) (fun b o _ _ hc e _=>k b o hc e) (fun b o _ _ hc e _=>⟨o.slots,k b o hc e⟩) (fun b o _ e n=>n)
  (fun b o hc e=>⟨o,k b o hc e⟩) (fun b ys e=>e) (fun b o u e=>e) (.kept (fun b u ⟨q,z⟩ e=>k b u (nch b _ z) e) fun b u e _=>e) (fun m hm=>?_) (fun b u e=>?_) I.bare
 ·obtain⟨f0,f1,f2,f3,f4,f5⟩:=hch b hb
  exact⟨f3,f1,f4,f5⟩
 ·obtain⟨o,es,ep,ho,r⟩:=hm
  exact⟨o,es,ep,k _ o (fun z=>(hch _ z).2.1 rfl) ho,r⟩
 ·refine (I.hok b u e).stay (fun c v hc q=>k c v ?_ q) (fun _ q=>q) fun c v q _=>q
  rcases hc with z|z
  ·rw[z];exact nch b u e
  ·exact nch c _ z
end
structure Q6(z TI TO i1 i2:Addr):Prop where
 a1:TI≠z
 a2:TO≠z
 a3:i1≠z
 a4:i2≠z
 a5:TI≠TO
 a6:TI≠i1
 a7:TI≠i2
 a8:TO≠i1
 a9:TO≠i2
 a0:i1≠i2
section
variable {X:Cx}{l l':Expr}{fs:Env->Option (List D)}{elts:List Expr}{k:Nat}{pos p tp:Pos}
noncomputable def kh:List D->List D->List D
 | x::xs,y::ys=>.tuple [x,y]::kh xs ys
 | _,_=>[]
theorem rL:∀ {xs ys:List D}{i:Nat}{d:D},(kh xs ys)[i]?=some d->∃x y,xs[i]?=some x/\ys[i]?=some y/\d=.tuple [x,y]
 | [],_,i,d,h=>by simp[kh] at h
 | _::_,[],i,d,h=>by simp[kh] at h
 | x::xs,y::ys,0,d,h=>by simp[kh] at h;exact⟨x,y,rfl,rfl,h.symm⟩
 | x::xs,y::ys,i+1,d,h=>by
  simp only[kh,List.getElem?_cons_succ] at h
  obtain⟨a,b,h1,h2,h3⟩:=rL h
  exact⟨a,b,by simpa using h1,by simpa using h2,h3⟩
theorem nh:∀ (xs ys:List D),(kh xs ys).length=min xs.length ys.length
 | [],_=>by simp[kh]
 | _::_,[]=>by simp[kh]
 | x::xs,y::ys=>by simp[kh,nh xs ys]
theorem E8{K:W.Frag}{HF:Hp}{sq1 sq2:Hp->List V->Prop}{xs ys:List D}{vs us:List V}(h1:sq1 HF vs)(mo1:∀H H',bo H H'->sq1 H vs->sq1 H' vs)(h2:sq2 HF us)(mo2:∀H H',bo H H'->sq2 H us->sq2 H' us)(r1:aw K HF xs vs)(r2:aw K HF ys us) :
  uL K (Qk sq1 sq2) HF (kh xs ys) where
 go:=fun i d H₁ HF₁ e s1 s2=>by
  obtain⟨x,y,hx,hy,rfl⟩:=rL e
  obtain⟨v,hv,rv⟩:=r1.getD hx
  obtain⟨u,hu,ru⟩:=r2.getD hy
  have q1:=mo1 _ _ s2 (mo1 _ _ s1 h1)
  have q2:=mo2 _ _ s2 (mo2 _ _ s1 h2)
  refine⟨⟨vs,us,v,u,q1,q2,hv,hu⟩,fun w H₂ ⟨T,a,b,e1,hT,e2,ha,hb⟩=>?_⟩
  have ea:=ha vs q1
  have eb:=hb us q2
  rw[hv] at ea
  rw[hu] at eb
  cases ea
  cases eb
  subst e1 e2
  exact⟨_,.new s2 hT,e9 (s2.free hT) (aw.cons (rv.mono s1) (aw.cons (ru.mono s1) aw.nil))⟩
 stop:=fun H₁ HF₁ s1 s2=>⟨vs,us,mo1 _ _ s2 (mo1 _ _ s1 h1),mo2 _ _ s2 (mo2 _ _ s1 h2),by rw[nh,r1.length,r2.length];omega⟩
end
noncomputable def cut{α:Type}(xs:List α)(lo hi:Option Int):List α:=(xs.drop (HT.ek xs.length 0 lo)).take (HT.ek xs.length xs.length hi - HT.ek xs.length 0 lo)
theorem Kh{α:Type}(xs:List α)(lo hi:Option Int):(cut xs lo hi).length<=xs.length:=by
 unfold cut;rw[List.length_take,List.length_drop];omega
theorem rR{K:W.Frag}{H:Hp}{ds:List D}{vs:List V}(r:aw K H ds vs)(lo hi:Option Int):aw K H (cut ds lo hi) (cut vs lo hi):=by
 unfold cut;rw[r.length];exact (r.drop _).take _
section
variable {X:Cx}
theorem EM{prog:Program}{w:World}{A:Around}{E:Value->Shared->Prop}{s:Shared}{t sl:Addr}{its:Array Value}{vl vu:Value}{lo hi:Option Int}{Q:Value->Shared->Prop}(ht:IsTup s.heap t its)(hs:s.heap.IsSliceOf sl vl vu .none)(pl:IsPart vl lo)(pu:IsPart vu hi)
  (hw:HT.ek its.size 0 lo=0/\HT.ek its.size its.size hi=its.size) (h:Q (.ref t) s):wpAny (model prog w) A (getItem (.ref t) (.ref sl)) Q E s:=by
 obtain⟨os,hos,hcs,hds⟩:=id hs
 have hTs:s.TypeIs (.ref sl) "slice":=⟨os,hos,hcs⟩
 unfold getItem
 try with_reducible refine wpAny_holding ?_
 first|refine zW (zX ?_)|skip
 refine zW (wpAny_sequenceKey ht.typeIs (by decide) (zW (wpAny_callSpecial?_slot (name:=Str.ofString "__getitem__") ht.typeIs PyProof.Rows.slot_tuple_getitem (wpAny_call_entry PyProof.Rows.slot_tuple_getitem ht.typeIs entry_tuple_getitem ?_ (args_tuple_getitem _ _)))))
 refine zW (m:=Builtin.Tuple.tupleItemsOf (.ref t)) (tupleItemsOf_ ht (zW (wpAny_typeOf hTs ?_)))
 rw[if_pos (by decide)]
 refine zW (HT.jl hs pl pu ?_)
 show wpAny _ _ (if (((HT.ek its.size 0 lo:Nat):Int) == 0&&(1:Int) == 1&&(HT.ek its.size its.size hi - HT.ek its.size 0 lo) == its.size)=true then _ else _) _ _ s
 rw[hw.1,hw.2,if_pos (by simp)]
 unfold Builtin.Tuple.tupleIsExact
 refine zW (zW (wpAny_typeOf ht.typeIs (zX ?_)))
 rw[if_pos (by decide)]
 first
  | exact zW (wpAny_rule (zX ⟨_,rfl,zX h⟩))
  | exact zW (wpAny_rule (zW (zX (zX ⟨_,rfl,zX h⟩))))
noncomputable def PN(K:W.Frag):V->Option Int->Option Int->Hp->VK->Prop:=fun x lo hi H Q=>∃a xs,x=.ref a/\jA K H a xs/\(cut xs lo hi=xs->Q (.ref a) H)/\∀p,H p=none->Q (.ref p) (upd H p (.tup (cut xs lo hi)))
theorem Nc:Lc X (PN X.K):=by
 intro pins s σ H x v vl vu lo hi sl Q I rx hs pl pu h
 obtain⟨a,xs,rfl,hx,q1,q2⟩:=h
 by_cases hw:HT.ek xs.length 0 lo=0/\HT.ek xs.length xs.length hi=xs.length
 ·cases rx
  obtain⟨its,r,ht,hz⟩:=I.tuple hx
  have hlen:its.toArray.size=xs.length:=by rw[zH];exact r.length.symm
  refine⟨"tuple",_,PyProof.Rows.slot_tuple_getitem.lookup,ht.typeIs,EM ht hs pl pu (by rw[hlen];exact hw) ⟨.ref a,H,I,rfl,q1 ?_⟩⟩
  unfold cut
  rw[hw.1,hw.2,List.drop_zero,Nat.sub_zero,List.take_length]
 ·exact MX pins s σ H (.ref a) v vl vu lo hi sl Q I rx hs pl pu ⟨a,xs,rfl,hx,hw,q2⟩
noncomputable def Qd(K:W.Frag):V->Option Int->Option Int->Hp->VK->Prop:=fun x lo hi H Q=>∃a xs,x=.ref a/\i8 K H a xs/\∀p,H p=none->Q (.ref p) (upd H p (.lst (cut xs lo hi)))
theorem Bp(lo hi:Option Int)(n:Nat):sliceBounds lo hi none n=(((HT.ek n 0 lo:Nat):Int),((HT.ek n n hi:Nat):Int),1):=by
 have h1:(1:Int) > 0:=by omega
 refine Prod.ext ?_ (Prod.ext ?_ rfl)
 ·cases lo with
  | none=>simp[sliceBounds,HT.ek]
  | some x =>
   by_cases h:x < 0
   ·simp only[sliceBounds,HT.ek,Option.getD_none,h1,if_true,if_pos h];omega
   ·simp only[sliceBounds,HT.ek,Option.getD_none,h1,if_true,if_neg h];omega
 ·cases hi with
  | none=>simp[sliceBounds,HT.ek]
  | some x =>
   by_cases h:x < 0
   ·simp only[sliceBounds,HT.ek,Option.getD_none,h1,if_true,if_pos h];omega
   ·simp only[sliceBounds,HT.ek,Option.getD_none,h1,if_true,if_neg h];omega
theorem KF:Lc X (Qd X.K):=by
 intro pins s σ H x v vl vu lo hi sl Q I rx hs pl pu h
 obtain⟨a,xs,rfl,hx,q⟩:=h
 cases rx
 obtain⟨its,r,p,hz⟩:=I.list hx
 have hlen:=r.length
 refine⟨"list",_,slot_list_getitem.lookup,p.isList.typeIs,wpAny_getItem_list_slice p.isList hs pl pu .none (by simp) ?_ (by rw[zH];omega)⟩
 rw[W.kmk_pick_nat its.toArray (Bp lo hi its.toArray.size)]
 have e:((its.toArray.toList.drop (HT.ek its.toArray.size 0 lo)).take (HT.ek its.toArray.size its.toArray.size hi - HT.ek its.toArray.size 0 lo))=cut its lo hi:=by unfold cut;simp
 rw[e]
 have rc:aM (cut xs lo hi) (cut its lo hi):=by unfold cut;rw[hlen];exact (r.drop _).take _
 exact⟨.ref s.heap.objs.size,_,I.lnew (t':=s.toks) rc (yE (Kh xs lo hi) hz),rfl,q _ I.fresh⟩
def QU(K:W.Frag)(f:Env->Option (Option Int)):TO:=fun σ H Q=>∃HF ρ o,bo HF H/\dm K HF ρ σ/\f ρ=some o/\∀H' HF',cC HF H HF' H'->Q o H'
def DO(X:Cx)(e:Option Expr)(f:Env->Option (Option Int)):Prop:=PO X e (QU X.K f)
noncomputable def gO:Env->Option (Option Int):=fun _=>some none
noncomputable def gI:D->Option Int|.int i=>some i|_=>none
noncomputable def qH(f:Env->Option D):Env->Option (Option Int):=fun ρ=>(f ρ).bind fun d=>(gI d).map some
theorem Kl:DO X none gO:=fun pins s σ H Q I ⟨HF,ρ,o,sm,eo,hf,q⟩=>Kx pins s σ H Q I (by cases hf;exact q H HF (.refl sm))
theorem Jl{e:Expr}{f:Env->Option D}(h:DE X e f):DO X (some e) (qH f):=fun pins s σ H Q I ⟨HF,ρ,o,sm,eo,hf,q⟩=>Iy h pins s σ H Q I (by
 obtain⟨d,hd,hf⟩:=bs hf
 obtain⟨i,hi,rfl⟩:=ag hf
 cases d<;>try cases hi
 exact⟨HF,ρ,_,sm,eo,hd,fun v H1 HF1 g1 r1=>⟨_,by simpa only[Rep] using r1,q H1 HF1 g1⟩⟩)
variable {a:Expr}{lo hi:Option Expr}{fa:Env->Option D}{fl fh:Env->Option (Option Int)}{pos p2:Pos}
noncomputable def gT{β:Type}(g:D->Option Int->Option Int->Option β)(fa:Env->Option D)(fl fh:Env->Option (Option Int)):Env->Option β:=fun ρ=>(fa ρ).bind fun x=>(fl ρ).bind fun l=>(fh ρ).bind fun h=>g x l h
end
section
variable {X:Cx}{a:Expr}{fa:Env->Option D}{pos p2 p3 p4:Pos}{j:Nat}
noncomputable def f1(g:D->Option D)(f:Env->Option D):Env->Option D:=fun ρ=>(f ρ).bind g
end
end Dl
namespace HT
open PySem PyProof.Rows
section
open PySem.SeqAt
open PySem.AutoSeq1 (wpAny_loadPart')
open PySem.MeetsSeq PySem.MeetsSeq2 PySem.MeetsSeq3
theorem F9(A:Around)(s:Shared)(a:Int)(t:Tok)(c:Int)(u:Tok)(prog:Program)(w:World)(E:Value->Shared->Prop)(Q:Value->Shared->Prop)(h:Q (.bool (decide (c<=a))) s) :
  wpAny (model prog w) A (richCompare .GtE (.int a t) (.int c u)) Q E s :=
 (PyProof.Rows.ge_int h:wpAny (model prog w) A (compareOp .GtE (.int a t) (.int c u)) Q E s)
theorem sx(l b:Addr)(items items2:Array Value)(n n2:Nat)(dd dd2:Option Addr)(sl sl2:Array (Option Value))(ns ms:List Int)(hi:IntsAre items.toList ns)(hj:IntsAre items2.toList ms) :
  Meets (Builtin.«tuple.__ge__» ⟨[.ref l,.ref b],[]⟩)
   (fun _ R s=>s.heap.get? l=some { cls:=.type "tuple",dict:=dd,data:=.seq items n,slots:=sl }/\s.heap.get? b=some { cls:=.type "tuple",dict:=dd2,data:=.seq items2 n2,slots:=sl2 } /\
    R (.ok (.ret (.bool (!lexLt ns ms)))) s) :=
 .of_wp fun prog w A R s h=>by
  obtain⟨hp,g,d,tk,os⟩:=s;obtain⟨hl,hb,h⟩:=h
  have f2:=AutoSeq1.sub_tuple_tuple
  have z1:items.size=ns.length:=by rw[<- hi.length];simp
  have z2:items2.size=ms.length:=by rw[<- hj.length];simp
  wp_walk using wpAny_loadPart' hl,wpAny_loadPart' hb,wpAny_forIn_list _ (fun rest b s'=>b.1=none/\s'=⟨hp,g,d,tk,os⟩/\∃ (vs ws:List Value) (ns' ms':List Int),rest=vs.zip ws /\
   IntsAre vs ns'/\IntsAre ws ms'/\ns'.length+items2.size=ms'.length+items.size/\R (.ok (.ret (.bool (!lexLt ns' ms')))) ⟨hp,g,d,tk,os⟩) _
  case turn =>
   rintro⟨y,x⟩ rest b s' ⟨hb',rfl,vs,ws,ns',ms',hz,hvi,hwi,hlen,hR⟩
   cases hvi with
   | nil=>rw[List.zip_nil_left] at hz;cases hz
   | cons a t hvi' =>
    cases hwi with
    | nil=>rw[List.zip_nil_right] at hz;cases hz
    | cons c u hwi' =>
     rw[List.zip_cons_cons] at hz
     injection hz with hyx hrest
     injection hyx with hy hx
     subst hy hx
     rw[cS] at hR
     simp only[zL] at hlen
     obtain⟨e,he,hiff⟩:=E1 A.in1 ⟨hp,g,d,tk,os⟩ a t c u
     refine zW (he prog w _ _ ?_)
     cases e with
     | true =>
      rw[if_pos (hiff.mp rfl)] at hR
      wp_walk
      exact⟨rfl,rfl,_,_,_,_,hrest,hvi',hwi',by omega,hR⟩
     | false =>
      rw[if_neg (fun q=>absurd (hiff.mpr q) Bool.false_ne_true)] at hR
      have hri:=F9 A.in1 ⟨hp,g,d,tk,os⟩ a t c u prog w
      have e1:(!decide (a < c))=decide (c<=a):=by
       rw[<- decide_not]
       exact decide_eq_decide.mpr (by omega)
      rw[e1] at hR
      wp_walk using hri
      exact⟨_,rfl,hR⟩
  case fin =>
   rintro⟨b1,b2⟩ s' ⟨hb',rfl,vs,ws,ns',ms',hz,hvi,hwi,hlen,hR⟩
   simp only at hb'
   subst hb'
   have hv:lexLt ns' ms'=decide (items.size < items2.size):=by
    cases hvi with
    | nil =>
     cases hwi with
     | nil =>
      simp only[List.length_nil] at hlen
      rw[sJ]
      exact (yA (by omega)).symm
     | cons c u hw =>
      simp only[List.length_nil,zL] at hlen
      rw[qm]
      exact (yB (by omega)).symm
    | cons a t hv =>
     cases hwi with
     | nil =>
      simp only[List.length_nil,zL] at hlen
      rw[qk]
      exact (yA (by omega)).symm
     | cons c u hw =>
      rw[List.zip_cons_cons] at hz
      cases hz
   have hv2:(!lexLt ns' ms')=decide (items.size >= items2.size):=by
    rw[hv,<- decide_not]
    exact decide_eq_decide.mpr (by omega)
   rw[hv2] at hR
   wp_walk
   exact⟨_,rfl,hR⟩
  case h =>
   exact⟨rfl,rfl,items.toList,items2.toList,ns,ms,rfl,hi,hj,by omega,h⟩
end
end HT
namespace Dl
open PySem L2 PySem.Spec PyProof.Rows
section
variable {X:Cx}
noncomputable def mY:D->Option (List Int)|.tuple ds=>intsOf ds|_=>none
theorem ke{x:D}{ns:List Int}(h:mY x=some ns):x=.tuple (ns.map PyData.int):=by
 cases x<;>try cases h
 rename_i xs
 have h:intsOf xs=some ns:=h
 rw[eB h]
noncomputable def O7:D->D->Option Bool:=fun x y=>(mY x).bind fun ns=>(mY y).map fun ms=>!lexLt ns ms
theorem FK(hu:X.A.units < cLine):ja X (compareOp .GtE) (NW X.K O7):=by
 intro pins s σ H v1 v2 u1 u2 Q I rx ry h
 obtain⟨HF,x,y,k,sm,r1,r2,hg,q⟩:=h
 obtain⟨ns,h1,hg⟩:=bs hg
 obtain⟨ms,h2,rfl⟩:=ag hg
 rw[ke h1] at r1
 rw[ke h2] at r2
 have key:∀ {ns:List Int}{v:V}{u:Value},Rep X.K HF (.tuple (ns.map PyData.int)) v->RelV v u->∃a its,u=.ref a/\IsTup s.heap a its/\IntsAre its.toList ns:=fun {ns v u} r rv=>by
  have p:zl s.heap u ns:=by
   cases m6 (X:=X) (us:=[u]) (vs:=[v]) (nss:=[ns]) I sm (aw.cons r aw.nil) (.cons rv .nil) with
   | cons p _=>exact p
  obtain⟨a,o,its,n,rfl,e1,e2,e3,e4⟩:=p.ex
  exact⟨a,its,rfl,⟨o,e1,e2,n,e3⟩,e4⟩
 obtain⟨a,its,rfl,⟨⟨cls,dd,data,sl⟩,ho,hc,n,hd⟩,i1⟩:=key r1 rx
 obtain⟨b,its2,rfl,⟨⟨cls2,dd2,data2,sl2⟩,ho2,hc2,n2,hd2⟩,i2⟩:=key r2 ry
 simp only at hc hd hc2 hd2
 subst hc hd hc2 hd2
 exact richCompare_meets_room (op:=.GtE) ⟨_,ho,rfl⟩ ⟨_,ho2,rfl⟩ PySem.F.slot_tuple_ge PySem.F.entry_tuple_ge (PySem.F.args_tuple_ge_2 _ _) (HT.sx a b its its2 n n2 dd dd2 sl sl2 ns ms i1 i2)
  ⟨ho,ho2,show Value.bool (!lexLt ns ms)≠Value.notImplemented/\EP X pins σ Q (.bool (!lexLt ns ms)) s from ⟨(fun x=>nomatch x),⟨.bl _,H,I,rfl,q⟩⟩⟩ hu
end
end Dl
namespace En
open PySem PyProof.Rows
open AutoSeq1 (wpAny_loadPart')
theorem noFill_tup:fillsNumberSlot (.type "tuple") "mul"=pure false:=PySem.fillsNumberSlot_seq (id:="tuple.__mul__") (r:=some (.builtin "tuple.__rmul__")) F.slot_tuple_mul.lookup (by decide +kernel) F.slot_tuple_rmul.lookup (by decide +kernel)
theorem repeat_tup:seqRepeat? (.type "tuple")=pure (some (.builtin "tuple.__mul__")):=by
 unfold seqRepeat?
 rw[PySem.seqSlot_of (T:="tuple") (name:="__mul__") (id:="tuple.__mul__") F.slot_tuple_mul.lookup (by decide +kernel),PySem.seqSlot_of (T:="tuple") (name:="__rmul__") (id:="tuple.__rmul__") F.slot_tuple_rmul.lookup (by decide +kernel)];rfl
theorem rmul_tup(a:Int)(t:Tok)(l:Addr)(its:Array Value)(n:Nat)(dd:Option Addr)(sl:Array (Option Value)) :
  Meets (Builtin.«int.__rmul__» ⟨[.int a t,.ref l],[]⟩) (fun _ R s=>s.heap.get? l=some { cls:=.type "tuple",dict:=dd,data:=.seq its n,slots:=sl }/\R (.ok (.ret Value.notImplemented)) s) :=
 .of_wp fun prog w A R s h=>by
  obtain⟨hp,g,d,tk,os⟩:=s;obtain⟨hl,h⟩:=h
  wp_walk
  exact⟨_,rfl,h⟩
theorem mulT_same(l:Addr)(its:Array Value)(n:Nat)(dd:Option Addr)(sl:Array (Option Value))(k:Int)(t:Tok)(h1:¬ (decide (k < -(2 ^ 63))||decide (k >= 2 ^ 63))=true)(h2:(its.isEmpty||k == 1)=true) :
  Meets (Builtin.«tuple.__mul__» ⟨[.ref l,.int k t],[]⟩) (fun _ R s=>s.heap.get? l=some { cls:=.type "tuple",dict:=dd,data:=.seq its n,slots:=sl }/\R (.ok (.ret (.ref l))) s) :=
 .of_wp fun prog w A R s h=>by
  obtain⟨hp,g,d,tk,os⟩:=s;obtain⟨hl,h⟩:=h
  have f1:=AutoSeq1.idx_int
  wp_walk using wpAny_loadPart' hl
  rw[if_neg h1]
  wp_walk using wpAny_loadPart' hl
  exact⟨_,rfl,h⟩
theorem mulT_none(l:Addr)(its:Array Value)(n:Nat)(dd:Option Addr)(sl:Array (Option Value))(k:Int)(t:Tok)(h1:¬ (decide (k < -(2 ^ 63))||decide (k >= 2 ^ 63))=true)(h2:¬ (its.isEmpty||k == 1)=true)(h3:(decide (k<=0)||its.isEmpty)=true) :
  Meets (Builtin.«tuple.__mul__» ⟨[.ref l,.int k t],[]⟩) (fun _ R s=>s.heap.get? l=some { cls:=.type "tuple",dict:=dd,data:=.seq its n,slots:=sl }/\R (.ok (.ret (.ref s.heap.objs.size))) { s with heap:=s.heap.push { cls:=.type "tuple",data:=.seq #[] } }) :=
 .of_wp fun prog w A R s h=>by
  obtain⟨hp,g,d,tk,os⟩:=s;obtain⟨hl,h⟩:=h
  have f1:=AutoSeq1.idx_int
  wp_walk using wpAny_loadPart' hl
  rw[if_neg h1]
  wp_walk using wpAny_loadPart' hl
  exact⟨_,rfl,h⟩
theorem mulT_many(l:Addr)(its:Array Value)(n:Nat)(dd:Option Addr)(sl:Array (Option Value))(k:Int)(t:Tok)(h1:¬ (decide (k < -(2 ^ 63))||decide (k >= 2 ^ 63))=true)(h2:¬ (its.isEmpty||k == 1)=true)(h3:¬ (decide (k<=0)||its.isEmpty)=true)
  (h4:¬ ((its.size:Nat):Int) * k > (2 ^ 63 - 1) / 8) (h5:¬ Builtin.Tuple.tupleTooMany (((its.size:Nat):Int) * k)=true) (hz:((List.replicate k.toNat its).foldl (·++·) #[]).size<=sizeLine) :
  Meets (Builtin.«tuple.__mul__» ⟨[.ref l,.int k t],[]⟩) (fun _ R s=>s.heap.get? l=some { cls:=.type "tuple",dict:=dd,data:=.seq its n,slots:=sl }/\R (.ok (.ret (.ref s.heap.objs.size))) { s with heap:=s.heap.push { cls:=.type "tuple",data:=.seq ((List.replicate k.toNat its).foldl (·++·) #[]) } }) :=
 .of_wp fun prog w A R s h=>by
  obtain⟨hp,g,d,tk,os⟩:=s;obtain⟨hl,h⟩:=h
  have f1:=AutoSeq1.idx_int
  wp_walk using wpAny_loadPart' hl
  rw[if_neg h1]
  wp_walk using wpAny_loadPart' hl
  rw[if_neg h4]
  wp_walk using wpAny_loadPart' hl
  exact⟨_,rfl,h⟩
end En
namespace Dl
open PySem L2 PySem.Spec PyProof.Rows
section
variable {X:Cx}
def K8(K:W.Frag):R2:=fun x y H Q=>∃a k xs,x=.ref a/\y=.int k/\jA K H a xs/\-(2 ^ 62)<=k/\k < 2 ^ 62/\xs.length * k.toNat<=sizeLine/\((List.replicate k.toNat xs).flatten=xs->Q (.ref a) H) /\
 ∀p,H p=none->Q (.ref p) (upd H p (.tup (List.replicate k.toNat xs).flatten))
theorem J9:ja X (binaryOp .Mult) (K8 X.K):=by
 intro pins s σ H x y v u Q I rx ry h
 obtain⟨a,k,xs,rfl,rfl,hq,k1,k2,hz,q1,q2⟩:=h
 cases rx
 obtain⟨t,rfl⟩:=ry
 obtain⟨its,r,pl,hzx⟩:=I.tuple hq
 have hl:=r.length
 obtain⟨⟨cls,dd,data,sl⟩,ho,hc,n,hd⟩:=id pl
 simp only at hc hd
 subst hc hd
 have b1:¬ (decide (k < -(2 ^ 63))||decide (k >= 2 ^ 63))=true:=by
  simp only[Bool.or_eq_true,zJ]
  omega
 refine wpAny_binaryOp_repeat_ref (T:="tuple") (U:="int") (by decide) ⟨_,ho,rfl⟩ (fun s'=>typeIs_int s' k t) En.noFill_tup F.fills_int_mul F.slot_int_rmul En.repeat_tup F.slot_int_index.lookup
  (call_meets F.slot_int_rmul (typeIs_int s k t) F.entry_int_rmul (F.args_int_rmul_2 _ _) (En.rmul_tup k t a its.toArray n dd sl) ⟨ho,rfl,⟨_,ho,rfl⟩,?_⟩)
 have hfl:∀m:Nat,List.foldl (fun x1 x2=>x1++x2) #[] (List.replicate m its.toArray)=(List.replicate m its).flatten.toArray:=fun m=>by
  have:=foldl_rep its m []
  rw[List.nil_append] at this
  exact this
 by_cases h2:(its.toArray.isEmpty||k == 1)=true
 ·refine call_meets F.slot_tuple_mul ⟨_,ho,rfl⟩ F.entry_tuple_mul (F.args_tuple_mul_2 _ _) (En.mulT_same a its.toArray n dd sl k t b1 h2) ⟨ho,⟨.ref a,H,I,rfl,q1 ?_⟩⟩
  rw[Bool.or_eq_true] at h2
  rcases h2 with h2|h2
  ·have:xs=[]:=by
    have e:its=[]:=by simpa using h2
    rw[e] at hl
    exact List.length_eq_zero_iff.mp hl
   rw[this]
   simp
  ·have:k=1:=eq_of_beq h2
   subst this
   simp
 ·by_cases h3:(decide (k<=0)||its.toArray.isEmpty)=true
  ·refine call_meets F.slot_tuple_mul ⟨_,ho,rfl⟩ F.entry_tuple_mul (F.args_tuple_mul_2 _ _) (En.mulT_none a its.toArray n dd sl k t b1 h2 h3) ⟨ho,?_⟩
   have hk0:k.toNat=0:=by
    simp only[Bool.or_eq_true,zJ] at h3 h2
    rcases h3 with h3|h3
    ·omega
    ·exact absurd (.inl h3) h2
   have q3:=q2 s.heap.objs.size I.fresh
   rw[hk0] at q3
   exact⟨.ref s.heap.objs.size,_,I.laid (t':=s.toks) (o:=.tup []) (fun b ob q=>zV _ q) (Nat.le_refl _) ⟨Nat.zero_le _,[],.nil,rJ.new _ _⟩,rfl,q3⟩
  ·have hm:its.length * k.toNat<=sizeLine:=by rw[<- hl];exact hz
   have hkn:(k.toNat:Int)=k:=by
    simp only[Bool.or_eq_true,zJ,not_or] at h3
    omega
   have hmi:((its.toArray.size:Nat):Int) * k=((its.length * k.toNat:Nat):Int):=by rw[zH,Int.natCast_mul,hkn]
   have hv:=L2.aM.rep r k.toNat
   have hlen2:(List.replicate k.toNat xs).flatten.length<=sizeLine:=by rw[len_rep,Nat.mul_comm];exact hz
   have hs8:(sizeLine:Nat)<=(2 ^ 63 - 1) / 8:=by decide
   have h4:¬ ((its.toArray.size:Nat):Int) * k > (2 ^ 63 - 1) / 8:=by rw[hmi];omega
   have h5:¬ Builtin.Tuple.tupleTooMany (((its.toArray.size:Nat):Int) * k)=true:=by
    unfold Builtin.Tuple.tupleTooMany
    rw[hmi]
    simp only[zJ]
    omega
   refine call_meets F.slot_tuple_mul ⟨_,ho,rfl⟩ F.entry_tuple_mul (F.args_tuple_mul_2 _ _) (En.mulT_many a its.toArray n dd sl k t b1 h2 h3 h4 h5 (by rw[hfl,zH,<- hv.length];exact hlen2)) ⟨ho,?_⟩
   rw[hfl]
   exact⟨.ref s.heap.objs.size,_,I.laid (t':=s.toks) (o:=.tup (List.replicate k.toNat xs).flatten) (fun b ob q=>zV _ q) (Nat.le_refl _) ⟨hlen2,_,hv,rJ.new _ _⟩,rfl,q2 _ I.fresh⟩
noncomputable def EW:D->D->Option D
 | .tuple ds,.int k=>if zx k=true/\ds.length * k.toNat<=sizeLine then some (.tuple (List.replicate k.toNat ds).flatten) else none
 | _,_=>none
theorem nj{K:W.Frag}{HF:Hp}{ds:List D}{vs:List V}(r:aw K HF ds vs):∀k:Nat,aw K HF (List.replicate k ds).flatten (List.replicate k vs).flatten
 | 0=>aw.nil
 | k+1=>by rw[List.replicate_succ,List.replicate_succ,List.flatten_cons,List.flatten_cons];exact r.append (nj r k)
theorem Gi{K:W.Frag}:gx K (K8 K) EW:=by
 intro HF H x y v1 v2 d Q sm r1 r2 hg q
 cases x<;>cases y<;>simp only[EW] at hg<;>try cases hg
 split at hg
 ·rename_i xs k hh
  cases hg
  simp only[Rep] at r1 r2
  obtain⟨a,vs,rfl,ha,ra⟩:=r1
  have ok:=hh.1
  unfold zx at ok
  rw[zF] at ok
  refine⟨a,k,vs,rfl,r2,aI sm ha,of_decide_eq_true ok.1,of_decide_eq_true ok.2,by rw[ra.length];exact hh.2,fun e=>q _ H HF (.refl sm) ?_,fun p hp=>q _ _ _ (.new sm hp) (e9 (sm.free hp) (nj ra _))⟩
  simp only[Rep]
  refine⟨a,vs,rfl,ha,?_⟩
  have:=nj ra k.toNat
  rw[e] at this
  exact this
 ·cases hg
end
end Dl
namespace En
open PySem PyProof.Rows
section
variable {prog:Program}{w:World}{A:Around}{E:Value->Shared->Prop}{s:Shared}
theorem call_setT{l:Addr}{its:Array Value}{ns:List Int}{Q:Value->Shared->Prop}(hh:A.handled=none)(hl:s.heap.IsTuple l its)(hi:IntsAre its.toList ns)(hb:its.size+1 < scanBound)
  (h:∀ (h':Heap) (tk:Nat),h'.SetOf (intKind prog w) s.heap.objs.size (fun k'=>(firstMet (fun i=>ns.getD i 0) its.size).any (· == k')) (firstMet (fun i=>ns.getD i 0) its.size).length->(∀b o,b < s.heap.objs.size->s.heap.get? b=some o->h'.get? b=some o)->Q (.ref s.heap.objs.size) { s with heap:=h',toks:=tk }) :
  wpAny (model prog w) A (call (.type "set") [.ref l]) Q E s:=by
 obtain⟨c,tl,hmro⟩:=F.called_set.mro
 have hmade:=F.called_set.made
 have hsub:=F.called_set.sub
 refine wpAny_call (codeAny_of_tree ?_);show wpAny _ _ (callAny (.type "set") _) _ _ _
 refine zX ⟨Code.quiet_builtin _ (by decide +kernel),codeAny_builtin F.entry_type_call ?_⟩
 rw[Around.under_plain (weight_type_call_type "set" [.ref l] []) rfl]
 have h1:=F.called_set.notType
 have h2:=F.called_set.canCreate
 have hct:=F.typeCall_set_1 (.ref l)
 repeat (any_goals (first|assumption|wp_step))
 refine codeAny_mono (code_set_new_1 (.ref l) (E:=E) (Q₁:=fun obj s1=>∃led:Bool,obj=.ref s.heap.objs.size/\s1={ s with heap:=s.heap.push { cls:=.type "set",dict:=none,data:=.set #[] 0 (.fresh 0 0 led) } }) fun led=>⟨led,rfl,rfl⟩) fun r s1 hr=>?_
 cases r with
 | error e=>exact hr
 | ok fl =>
  cases fl with
  | ret obj =>
   obtain⟨led,rfl,rfl⟩:=hr
   have hS:(s.heap.push { cls:=.type "set",dict:=none,data:=.set #[] 0 (.fresh 0 0 led) }).get? s.heap.objs.size=some { cls:=.type "set",dict:=none,data:=.set #[] 0 (.fresh 0 0 led) }:=by exact zY _ rfl
   have hT:Shared.TypeIs { s with heap:=s.heap.push { cls:=.type "set",dict:=none,data:=.set #[] 0 (.fresh 0 0 led) } } (.ref s.heap.objs.size) "set":=⟨_,hS,rfl⟩
   have hli:=F.called_set.init.lookup
   have hbi:=F.called_set.init.bind (.ref s.heap.objs.size)
   repeat (any_goals (first|assumption|wp_step))
   refine codeAny_mono (codeAny_call_builtin (R:=wants (fun r s2=>r=.none/\∃h' tk,s2={ s with heap:=h',toks:=tk }/\h'.SetOf (intKind prog w) s.heap.objs.size (fun k'=>(firstMet (fun i=>ns.getD i 0) its.size).any (· == k')) (firstMet (fun i=>ns.getD i 0) its.size).length /\
     (∀b o,b < s.heap.objs.size->s.heap.get? b=some o->h'.get? b=some o)) E) F.called_set.init.plain F.entry_set_init (check_set_init_1 hT ?_)) fun r2 s2 hr2=>?_
   ·obtain⟨ol,hol,hcl,nl,hdl⟩:=hl
    obtain⟨ocls,odict,odata,oslots⟩:=ol
    simp only at hcl hdl
    subst hcl hdl
    have hol':(s.heap.push { cls:=.type "set",dict:=none,data:=.set #[] 0 (.fresh 0 0 led) }).get? l=some { cls:=.type "tuple",dict:=odict,data:=.seq its nl,slots:=oslots }:=zV _ hol
    have hsls:=F.sub_tuple_set
    have hslf:=F.sub_tuple_frozenset
    have hne:(Value.type "tuple" == Value.type "dict")=false:=by decide
    have hl1:(s.heap.push { cls:=.type "set",dict:=none,data:=.set #[] 0 (.fresh 0 0 led) }).IsTuple l its:=⟨_,hol',rfl,nl,rfl⟩
    unfold Builtin.«set.__init__» noKeywords Builtin.Frozenset.updateFrom
    generalize hPI:pyIter=PI
    wp_walk
    subst hPI
    refine wpAny_pyIter_tuple hl1 (zW (wpAny_runValue ?_))
    have hlS:l < s.heap.objs.size:=zZ hol
    have hh3:A.in1.in1.in1.handled=none:=by simp[hh]
    have hneI:l≠(s.heap.push { cls:=.type "set",dict:=none,data:=.set #[] 0 (.fresh 0 0 led) }).objs.size:=by rw[Heap.size_push];exact Nat.ne_of_lt (Nat.lt_succ_of_lt hlS)
    have hSf:s.heap.objs.size∉[(s.heap.push { cls:=.type "set",dict:=none,data:=.set #[] 0 (.fresh 0 0 led) }).objs.size,l]:=by
     rw[Heap.size_push];simp only[zR,yG,or_false,not_or]
     exact⟨Nat.ne_of_lt (Nat.lt_succ_self _),Nat.ne_of_gt hlS⟩
    have hval:∀ (i:Nat) (v:Value),its[i]?=some v->∃t,v=.int ((fun i=>ns.getD i 0) i) t:=fun i v hv=>IntsAre.int_at hi i v (by rw[Array.getElem?_toList];exact hv)
    refine codeAny_set_update_loopS ((Walks.tuple hh3 _ l hneI its).toS) s.heap.objs.size hSf (fun i=>ns.getD i 0) hval hb (its.size - 0) 0 _ (by omega) (Nat.zero_le _) ⟨⟨_,zY _ rfl,rfl,rfl⟩,?ht⟩ ?hS0 ?hR
    case ht=>exact⟨_,zV _ hol',rfl,nl,rfl⟩
    case hS0 =>
     have hget:((s.heap.push { cls:=.type "set",dict:=none,data:=.set #[] 0 (.fresh 0 0 led) }).push { cls:=.type "tuple_iterator",data:=.fields #[.ref l,.int 0 0] }).get? s.heap.objs.size=some { cls:=.type "set",dict:=none,data:=.set #[] 0 (.fresh 0 0 led) }:=by exact zV _ hS
     exact SetOf_congr ((setObjOf_fresh (knd:=intKind prog w) led).setOf hget (by unfold scanBound;omega)) (fun _=>rfl) rfl
    case hR =>
     intro s' hm hS'
     obtain⟨h',g',d',tk',os'⟩:=s'
     have eg:g'=s.gens:=hm.gens
     have ed:d'=s.drawn:=hm.drawn
     have eo:os'=s.os:=hm.os
     subst eg ed eo
     show wpAny _ _ _ _ _ _
     refine zX ?_
     show wpAny _ _ (ret Value.none) _ _ _
     refine zX ⟨rfl,h',tk',rfl,hS',fun b o hb' e=>?_⟩
     refine hm.heap b o ?_ (zV _ (zV _ e))
     simp only[zR,yG,or_false,not_or]
     exact⟨Nat.ne_of_lt hb',by rw[Heap.size_push];exact Nat.ne_of_lt (Nat.lt_succ_of_lt hb')⟩
   ·cases r2 with
    | error e=>exact hr2
    | ok fl2 =>
     cases fl2 with
     | ret r =>
      obtain⟨rfl,h',tk,rfl,hS',hk'⟩:=hr2
      repeat (any_goals (first|assumption|wp_step))
      exact h _ _ hS' hk'
     | _=>exact hr2.elim
  | _=>exact hr.elim
end
end En
namespace Dl
open PySem L2 PySem.Spec PyProof.Rows
noncomputable def many(ns:List Int):Nat:=(firstMet (fun i=>ns.getD i 0) ns.length).length
section
variable {X:Cx}{e:Expr}{f:Env->Option D}{pos p p' pos':Pos}
theorem DC(hc:X.calm=true):eW X (.type "set") (fun xs H Q=>∃ (a:Addr) (ns:List Int),xs=[.ref a]/\jA X.K H a (ns.map V.int)/\ns.length+1 < scanBound/\∀q S,H q=none->Q (.ref q) (upd H q (.set S (many ns)))):=by
 intro pins s σ H xs us Q I r h
 obtain⟨a,ns,rfl,hq,hb,q⟩:=h
 obtain⟨u,rfl,rx⟩:=vals1 r
 cases rx
 obtain⟨its,rv,pl,hz⟩:=I.tuple hq
 have hi:IntsAre its.toArray.toList ns:=intsAre_of rv
 have hlen:its.toArray.size=ns.length:=by have:=rv.length;simpa using this.symm
 refine En.call_setT (I.ok.hd hc) (show s.heap.IsTuple a its.toArray from pl) hi (by rw[hlen];exact hb) fun h' tk hS hk=>?_
 rw[hlen] at hS
 exact⟨.ref s.heap.objs.size,_,I.laid (t':=tk) (fun b o e=>hk b o (zZ e) e) (Nat.le_refl _) (show fY X.prog X.w _ h' _ (.set _ (many ns)) from hS),rfl,q _ _ I.fresh⟩
theorem EL:eW X (.builtin "len") (fun xs H Q=>∃ (a:Addr) (S:Int->Bool) (n:Nat),xs=[.ref a]/\H a=some (.set S n)/\Q (.int n) H):=by
 intro pins s σ H xs us Q I r h
 obtain⟨a,S,n,rfl,hq,q⟩:=h
 obtain⟨u,rfl,rx⟩:=vals1 r
 cases rx
 obtain⟨o,es,ep,t,ho,hex,hd,hel,hmem,hlt,hf,hn⟩:=(show s.heap.SetOf (intKind X.prog X.w) a S n from I.hok a _ hq)
 have hfit:((es.size:Nat):Int) < 2 ^ 63:=by unfold scanBound at hlt;omega
 refine call_len_set ho hex hd hf hfit ⟨.int n,H,I.tok _,⟨s.toks+1,by rw[hn]⟩,q⟩
noncomputable def lK:D->Option D:=fun d=>(mY d).bind fun ns=>if ns.length+1 < scanBound then some (.int (many ns)) else none
theorem Dx(hc:X.calm=true)(B:pA X "len" (.builtin "len"))(C:pA X "set" (.type "set"))(h:DE X e f)(he:starEach [e] X.env=(false,eval e X.env)::starEach [] X.env:=by rfl) :
  DE X (.Call (.Name "len" p) [.Call (.Name "set" p') [e] [] pos'] [] pos) (f1 lK f) :=
 bu (n6 EL B.gl B.mg B.bt (dE (oY (DC hc) C.gl C.mg C.bt (dE h iY he) (by decide) (by decide) he rfl) iY) (by decide) (by decide) rfl rfl) fun σ H Q ⟨HF,ρ,d,sm,eo,hf,q⟩=>by
  obtain⟨x,hx,hf⟩:=bs hf
  obtain⟨ns,h1,hf⟩:=bs hf
  split at hf
  ·rename_i hb
   cases hf
   refine⟨HF,ρ,x,sm,eo,hx,fun v1 H1 HF1 g1 r1=>?_⟩
   rw[ke h1] at r1
   simp only[Rep] at r1
   obtain⟨a,vs,rfl,hs,rr⟩:=r1
   have key:∀ {ns:List Int}{ws:List V},aw X.K HF1 (ns.map PyData.int) ws->ws=ns.map V.int:=fun {ns}=>by
    induction ns with
    | nil=>exact fun h=>h.nil_inv
    | cons n ns ih =>
     intro ws h
     obtain⟨v,r,rfl,a,b⟩:=h.cons_inv
     simp only[Rep] at a
     rw[a,ih b]
     rfl
   have:=key rr
   subst this
   refine⟨a,ns,rfl,aI g1.fh hs,hb,fun b S hb'=>⟨b,S,_,rfl,aO,q _ _ HF1 (g1.trans (.own g1.fh hb')) (by simp[Rep])⟩⟩
  ·cases hf
end
theorem lG(val:Nat->Int):∀i,(firstMet val i).length=i↔((List.range i).map val).Nodup
 | 0=>by simp[firstMet]
 | i+1=>by
  have hle:=firstMet_length_le val i
  rw[firstMet_succ,step_length,List.range_succ,List.map_append,List.nodup_append]
  have ha:=firstMet_any val i (val i)
  have ih:=lG val i
  constructor
  ·intro h
   by_cases hin:(firstMet val i).any (· == val i)=true
   ·rw[if_pos hin] at h;omega
   ·rw[if_neg hin] at h
    refine⟨ih.mp (by omega),by simp,fun a hm b hb z=>?_⟩
    have hb':b=val i:=by simpa using hb
    subst z hb'
    rw[ha] at hin
    exact hin (List.any_eq_true.mpr ⟨_,hm,by simp⟩)
  ·rintro⟨h1,_,h3⟩
   rw[if_neg ?_]
   ·rw[ih.mpr h1]
   ·rw[ha]
    intro hin
    obtain⟨x,hx,he⟩:=List.any_eq_true.mp hin
    have he':x=val i:=by simpa using he
    exact h3 x hx (val i) (by simp) he'
theorem AR(ns:List Int):many ns=ns.length↔ns.Nodup:=by
 unfold many
 rw[lG]
 have:(List.range ns.length).map (fun i=>ns.getD i 0)=ns:=lg ns 0
 rw[this]
section
variable {X:Cx}{N:List Str}{sc:Scope}{k:Nat}{a b c e e2:Expr}{es:List Expr}{fa fb fc f:Env->Option D}{fs:Env->Option (List D)}{pos p p' pos' p2 p3 p4 px apos cpos tp:Pos}{x y:Str}{HF₀ H₀:Hp}
theorem rX{K:W.Frag}{r r':R2}{g g':D->D->Option D}(h:gx K r g)(h':gx K r' g'):gx K (fun x y H Q=>r x y H Q\/r' x y H Q) (fun x y=>(g x y).or (g' x y)):=by
 intro HF H x y v1 v2 d Q sm r1 r2 hg q
 cases e:g x y with
 | some d' =>
  have hg:(g x y).or (g' x y)=some d:=hg
  rw[e] at hg
  cases hg
  exact .inl (h HF H x y v1 v2 d Q sm r1 r2 e q)
 | none =>
  have hg:(g x y).or (g' x y)=some d:=hg
  rw[e] at hg
  exact .inr (h' HF H x y v1 v2 d Q sm r1 r2 hg q)
theorem Do{K:W.Frag}:gx K (FA K) (fun x y=>(uP x y).map PyData.list):=by
 intro HF H x y v1 v2 d Q sm r1 r2 hg q
 obtain⟨zs,hg',rfl⟩:=ag hg
 clear hg
 cases x<;>cases y<;>simp only[uP] at hg'<;>try cases hg'
 obtain⟨rfl,hz⟩:=fx hg'
 simp only[Rep] at r1 r2
 obtain⟨a,vs,rfl,ha,ra⟩:=r1
 obtain⟨b,us,rfl,hb,rb⟩:=r2
 refine⟨a,b,vs,us,rfl,rfl,sm.seq ha,sm.seq hb,by rw[ra.length,rb.length,<- zN];exact hz,fun p hp=>q _ _ _ (.new sm hp) ?_⟩
 simp only[Rep]
 exact⟨p,_,rfl,.inl (.inl aO),(ra.append rb).mono (eH (sm.free hp))⟩
noncomputable def aG:D->D->Option D:=fun x y=>((xl (fun _ _=>True) fun i j=>.int (i+j)) x y).or ((Iv x y).or ((uP x y).map PyData.list))
theorem Bk.add(C:Bk X N sc k)(ha:DE X a fa)(hb:DE X b fb):DE X (.BinOp a .Add b pos) (f2 aG fa fb):=zp (Nq.or (Ey.or xw)) (rX F2 (rX J0 Do)) ha hb
noncomputable def eU:D->D->Option D:=xl (fun _ _=>True) fun i j=>.int (i - j)
theorem Bk.sub(C:Bk X N sc k)(ha:DE X a fa)(hb:DE X b fb):DE X (.BinOp a .Sub b pos) (f2 eU fa fb):=zp LK F2 ha hb
noncomputable def ip:D->D->Option D:=fun x y=>((xl vj fun i j=>.int (i * j)) x y).or (EW x y)
theorem Bk.mul(C:Bk X N sc k)(ha:DE X a fa)(hb:DE X b fb):DE X (.BinOp a .Mult b pos) (f2 ip fa fb):=zp (Ny.or J9) (rX EV Gi) ha hb
noncomputable def n8:D->D->Option D:=xl IB fun i j=>.int (i / j)
theorem Bk.div(C:Bk X N sc k)(ha:DE X a fa)(hb:DE X b fb):DE X (.BinOp a .FloorDiv b pos) (f2 n8 fa fb):=zp JX EV ha hb
noncomputable def l8:D->D->Option D:=xl (fun _ j=>0 < j) fun i j=>.int (i % j)
theorem Bk.mod(C:Bk X N sc k)(ha:DE X a fa)(hb:DE X b fb):DE X (.BinOp a .Mod b pos) (f2 l8 fa fb):=zp L9 EV ha hb
noncomputable def uQ:D->D->Option D:=xl (fun _ _=>True) fun i j=>.bool (decide (i < j))
noncomputable def Da:D->D->Option D:=xl (fun _ _=>True) fun i j=>.bool (decide (i<=j))
noncomputable def Fk:D->D->Option D:=xl (fun _ _=>True) fun i j=>.bool (decide (j < i))
noncomputable def Qh:D->D->Option D:=fun x y=>((xl (fun _ _=>True) fun i j=>.bool (decide (j<=i))) x y).or ((O7 x y).map PyData.bool)
noncomputable def b9:D->D->Option D:=fun x y=>(MM x y).map PyData.bool
noncomputable def fT:D->D->Option D:=fun x y=>(LG x y).map PyData.bool
noncomputable def Bs:D->D->Option D:=fun x y=>(Pi x y).map PyData.bool
theorem Bk.u64(C:Bk X N sc k):X.A.units+64 < cLine:=C.room.units
theorem Bk.u66(C:Bk X N sc k):X.A.units+66 < cLine:=by have:=C.room.un;omega
theorem Bk.lt(C:Bk X N sc k)(ha:DE X a fa)(hb:DE X b fb):DE X (.Compare a [.Lt] [b] pos) (f2 uQ fa fb):=kg He iX ha hb (dM _)
theorem Bk.le(C:Bk X N sc k)(ha:DE X a fa)(hb:DE X b fb):DE X (.Compare a [.LtE] [b] pos) (f2 Da fa fb):=kg FO iX ha hb (dM _)
theorem Bk.gt(C:Bk X N sc k)(ha:DE X a fa)(hb:DE X b fb):DE X (.Compare a [.Gt] [b] pos) (f2 Fk fa fb):=kg KS iX ha hb (dM _)
theorem Bk.ge(C:Bk X N sc k)(ha:DE X a fa)(hb:DE X b fb):DE X (.Compare a [.GtE] [b] pos) (f2 Qh fa fb):=kg (K7.or (FK C.room.units0)) (rX iX lE) ha hb (dM _)
theorem Bk.eq(C:Bk X N sc k)(ha:DE X a fa)(hb:DE X b fb):DE X (.Compare a [.Eq] [b] pos) (f2 b9 fa fb):=kg (Ff C.u64) lE ha hb (dM _)
theorem Bk.ne(C:Bk X N sc k)(ha:DE X a fa)(hb:DE X b fb):DE X (.Compare a [.NotEq] [b] pos) (f2 fT fa fb):=kg (Fd C.u64) lE ha hb (dM _)
theorem Bk.isin(C:Bk X N sc k)(ha:DE X a fa)(hb:DE X b fb)(hm:behindInMarks .In b=false:=by rfl):DE X (.Compare a [.In] [b] pos) (f2 Bs fa fb):=kg (Gu C.u66) lE ha hb hm
theorem Bk.tlt(C:Bk X N sc k)(ha:DE X a fa)(hb:DE X b fb):DT X (.Compare a [.Lt] [b] pos) (fB (f2 uQ fa fb)):=jF He iX ha hb (dM _)
theorem Bk.tle(C:Bk X N sc k)(ha:DE X a fa)(hb:DE X b fb):DT X (.Compare a [.LtE] [b] pos) (fB (f2 Da fa fb)):=jF FO iX ha hb (dM _)
theorem Bk.tgt(C:Bk X N sc k)(ha:DE X a fa)(hb:DE X b fb):DT X (.Compare a [.Gt] [b] pos) (fB (f2 Fk fa fb)):=jF KS iX ha hb (dM _)
theorem Bk.tge(C:Bk X N sc k)(ha:DE X a fa)(hb:DE X b fb):DT X (.Compare a [.GtE] [b] pos) (fB (f2 Qh fa fb)):=jF (K7.or (FK C.room.units0)) (rX iX lE) ha hb (dM _)
theorem Bk.teq(C:Bk X N sc k)(ha:DE X a fa)(hb:DE X b fb):DT X (.Compare a [.Eq] [b] pos) (fB (f2 b9 fa fb)):=jF (Ff C.u64) lE ha hb (dM _)
theorem Bk.tne(C:Bk X N sc k)(ha:DE X a fa)(hb:DE X b fb):DT X (.Compare a [.NotEq] [b] pos) (fB (f2 fT fa fb)):=jF (Fd C.u64) lE ha hb (dM _)
theorem Bk.tin(C:Bk X N sc k)(ha:DE X a fa)(hb:DE X b fb)(hm:behindInMarks .In b=false:=by rfl):DT X (.Compare a [.In] [b] pos) (fB (f2 Bs fa fb)):=jF (Gu C.u66) lE ha hb hm
noncomputable def dz:D->Option Int->Option Int->Option D|.tuple ds,lo,hi=>some (.tuple (cut ds lo hi))|.list ds,lo,hi=>some (.list (cut ds lo hi))|_,_,_=>none
theorem Bk.cut(C:Bk X N sc k){lo hi:Option Expr}{fl fh:Env->Option (Option Int)}(ha:DE X a fa)(hl:DO X lo fl)(hh:DO X hi fh):DE X (.Subscript a (.Slice lo hi none p2) pos) (gT dz fa fl fh):=bu (Fx (Nc.or KF) ha hl hh) fun σ H Q ⟨HF,ρ,d,sm,eo,hf,q⟩=>by
 obtain⟨x,hx,hf⟩:=bs hf
 obtain⟨l,hl,hf⟩:=bs hf
 obtain⟨u,hu,hf⟩:=bs hf
 refine⟨HF,ρ,x,sm,eo,hx,fun v1 H1 HF1 g1 r1=>⟨HF1,ρ,l,g1.fh,eo.mono g1.ff,hl,fun H2 HF2 g2=>⟨HF2,ρ,u,g2.fh,eo.mono (g1.ff.trans g2.ff),hu,fun H3 HF3 g3=>?_⟩⟩⟩
 have G:=(g1.trans g2).trans g3
 have r3:=r1.mono (g2.ff.trans g3.ff)
 cases x<;>try cases hf
 ·simp only[Rep] at r3
  obtain⟨b,vs,rfl,hs,rr⟩:=r3
  refine .inr ⟨b,vs,rfl,G.fh.seq hs,fun p hp=>q _ _ _ (G.trans (.new G.fh hp)) ?_⟩
  simp only[Rep]
  exact⟨p,_,rfl,.inl (.inl aO),(rR rr l u).mono (eH (G.fh.free hp))⟩
 ·simp only[Rep] at r3
  obtain⟨b,vs,rfl,hs,rr⟩:=r3
  refine .inl ⟨b,vs,rfl,aI G.fh hs,fun e=>q _ H3 HF3 G ?_,fun p hp=>q _ _ _ (G.trans (.new G.fh hp)) (e9 (G.fh.free hp) (rR rr l u))⟩
  simp only[Rep]
  refine⟨b,vs,rfl,hs,?_⟩
  have:=rR rr l u
  rw[e] at this
  exact this
noncomputable def OJ:D->Option D|.int i=>some (.int (-i))|_=>none
theorem Bk.neg(C:Bk X N sc k)(ha:DE X a fa):DE X (.UnaryOp .USub a pos) (f1 OJ fa):=bu (Oj Ls ha) fun σ H Q ⟨HF,ρ,d,sm,eo,hf,q⟩=>by
 obtain⟨x,hx,hf⟩:=bs hf
 refine⟨HF,ρ,x,sm,eo,hx,fun v1 H1 HF1 g1 r1=>?_⟩
 cases x<;>try cases hf
 exact⟨_,by simpa only[Rep] using r1,q _ H1 HF1 g1 (by simp[Rep])⟩
theorem E5:bootBuiltins "len"=some (.builtin "len"):=by decide +kernel
theorem sE:bootBuiltins "isinstance"=some (.builtin "isinstance"):=by decide +kernel
theorem Hc:bootBuiltins "tuple"=some (.type "tuple"):=by decide +kernel
theorem Jt:bootBuiltins "list"=some (.type "list"):=by decide +kernel
theorem xr:bootBuiltins "range"=some (.type "range"):=by decide +kernel
theorem M1:bootBuiltins "all"=some (.builtin "all"):=by decide +kernel
theorem Nj:bootBuiltins "set"=some (.type "set"):=by decide +kernel
theorem oR:bootBuiltins "sorted"=some (.builtin "sorted"):=by decide +kernel
theorem xa:bootBuiltins "enumerate"=some (.type "enumerate"):=by decide +kernel
theorem Me:bootBuiltins "zip"=some (.type "zip"):=by decide +kernel
end
noncomputable abbrev cD(f:Env->Option (List D)):Env->Option D:=fun ρ=>(f ρ).map PyData.list
noncomputable abbrev aZ:List D->Option D:=fun ds=>(dN ds).map PyData.tuple
section
variable {X:Cx}{N:List Str}{sc:Scope}{k:Nat}
theorem Bk.locl(C:Bk X N sc k){x:Str}(h:decide (sc.names.lookup x=some .local)=true):X.env.scope.names.lookup x=some .local:=by
 rcases C.tb x _ (of_decide_eq_true h) with q|⟨q,_⟩
 ·exact q
 ·cases q
noncomputable def isStar:Expr->Bool|.Starred ..=>true|_=>false
theorem bJ{e:Expr}{es:List Expr}{env:PySem.Env}(h:isStar e=false):starEach (e::es) env=(false,eval e env)::starEach es env:=by
 cases e<;>first|rfl|cases h
theorem LQ{e:Expr}{es:List Expr}{f:Env->Option D}{g:Env->Option (List D)}(he:DE X e f)(hs:DA X es g)(h:isStar e=false:=by rfl):DA X (e::es) (aa f g):=BV he hs (bJ h)
theorem sj{elt:Expr}{gens:List Comprehension}{scope:Scope}{pos py:Pos}{x:Str}{line:Nat}{env:PySem.Env}:swapsWith (.ListComp elt gens scope pos) (some (.Name x py)) line env=pure (env.blockKind == .function&&env.kindOf x == some .local && py.line == pos.line
     &&!(scope.names.any fun (n,k)=>n == x&&(k == .local || k == .cell))):=rfl
theorem KY{env:PySem.Env}(h:env.scope.kind=.function):env.blockKind=.function:=by unfold PySem.Env.blockKind;rw[h];rfl
theorem Bk.swap(C:Bk X N sc k){elt:Expr}{gens:List Comprehension}{scope:Scope}{pos py:Pos}{x:Str}{line:Nat}(h:decide (sc.names.lookup x=some .local)=true)(h2:(py.line == pos.line&&!(scope.names.any fun (n,k)=>n == x&&(k == .local || k == .cell)))=true) :
  swapsWith (.ListComp elt gens scope pos) (some (.Name x py)) line X.env=pure true:=by
 rw[sj,KY C.kd,show X.env.kindOf x=some .local from C.locl h]
 rw[Bool.and_assoc,h2]
 rfl
theorem Bk.noswap(C:Bk X N sc k){elt:Expr}{gens:List Comprehension}{scope:Scope}{pos py:Pos}{x:Str}{line:Nat}(h:decide (sc.names.lookup x=some .cell)=true) :
  swapsWith (.ListComp elt gens scope pos) (some (.Name x py)) line X.env=pure false:=by
 have q:X.env.kindOf x=some .cell:=by
  rcases C.tb x _ (of_decide_eq_true h) with q|⟨q,_⟩
  ·exact q
  ·cases q
 rw[sj,q,KY C.kd]
 rfl
end
section
variable {K:W.Frag}
structure aF(K:W.Frag)(x:Str)(st:Stmt)(ps:List Str):Prop where
 ex:∃ (f:Addr) (fd:FuncData),W.nsIn K mainGlobals x=some (some (.ref f))/\KG K x x st f fd/\Binds K fd ps []
structure bA(K:W.Frag)(mg:Str->Option Value)(x:Str)(st:Stmt)(ps:List Str):Prop where
 ex:∃ (f:Addr) (fd:FuncData),mg x=some (.ref f)/\KG K x x st f fd/\Binds K fd ps []
theorem aF.mg{h:Heap}{mg:Str->Option Value}{x:Str}{st:Stmt}{ps:List Str}(D:aF K x st ps)(X:K.In h)(G:h.Ns mainGlobals mg):bA K mg x st ps:=by
 obtain⟨f,fd,a,b,c⟩:=D.ex
 exact⟨f,fd,W.mg_of X G a,b,c⟩
def gc(st:Stmt)(ps:List Str):Prop:=∀ (x qual:Str) (kV doc pm:Value) (an:Option Addr) (cdv ct:Value) (us:List Value),us.length=ps.length->bindArgs (W.fnOf x qual (iG st) (cL st) (aS st) .none kV doc pm an cdv ct) ⟨us,[]⟩=pure (ps.zip us)
theorem Oy{x:Str}{st:Stmt}{ps:List Str}{f:Addr}{oc:Value}{od an:Option Addr}{osl:Array (Option Value)}{kV doc pm cdv ct:Value}(hb:gc st ps)(a:W.nsIn K mainGlobals x=some (some (.ref f)))(l:K.lookup f=some ⟨oc,od,.func (W.fnOf x x (iG st) (cL st) (aS st) .none kV doc pm an cdv ct),osl⟩)
  (c:W.codeIn K cdv x=true) (k:W.keepIn K (.ref f)=true):aF K x st ps:=⟨f,_,a,wC (st:=st) l c k,(wC (st:=st) l c k).binds fun kV doc pm an cdv ct us h=>hb _ _ kV doc pm an cdv ct us h⟩
structure o8(K:W.Frag)(x:Str)(st:Stmt)(ps:List Str):Prop where
 ex:∃ (f:Addr) (fd:FuncData) (c P:Addr),W.nsIn K mainGlobals x=some (some (.ref f))/\KG K x x st f fd/\Binds K fd ps []/\fd.code=.ref c/\W.codeHdIn K c P=true
structure GH(K:W.Frag)(mg:Str->Option Value)(x:Str)(st:Stmt)(ps:List Str):Prop where
 ex:∃ (f:Addr) (fd:FuncData) (c P:Addr),mg x=some (.ref f)/\KG K x x st f fd/\Binds K fd ps []/\fd.code=.ref c/\W.codeHdIn K c P=true
theorem o8.mg{h:Heap}{mg:Str->Option Value}{x:Str}{st:Stmt}{ps:List Str}(D:o8 K x st ps)(X:K.In h)(G:h.Ns mainGlobals mg):GH K mg x st ps:=by
 obtain⟨f,fd,c,P,a,b⟩:=D.ex
 exact⟨f,fd,c,P,W.mg_of X G a,b⟩
noncomputable def HU(K:W.Frag)(c:Addr):Addr:=match K.lookup c with
 | some ⟨_,_,.fields vs,_⟩=>(match (vs[11]?:Option Value) with|some (.ref P)=>P|_=>0)
 | _=>0
theorem OZ{x:Str}{st:Stmt}{ps:List Str}{f c:Addr}{oc:Value}{od an:Option Addr}{osl:Array (Option Value)}{kV doc pm ct:Value}(hb:gc st ps)(a:W.nsIn K mainGlobals x=some (some (.ref f)))(l:K.lookup f=some ⟨oc,od,.func (W.fnOf x x (iG st) (cL st) (aS st) .none kV doc pm an (.ref c) ct),osl⟩)
  (cd:W.codeIn K (.ref c) x=true) (k:W.keepIn K (.ref f)=true) (hh:W.codeHdIn K c (HU K c)=true):o8 K x st ps:=⟨f,_,c,HU K c,a,wC (st:=st) l cd k,(wC (st:=st) l cd k).binds fun kV doc pm an cdv ct us h=>hb _ _ kV doc pm an cdv ct us h,rfl,hh⟩
theorem La{x:Str}{i:Int}{t:Tok}(h:W.nsIn K mainGlobals x=some (some (.int i t))):∃t,W.nsIn K mainGlobals x=some (some (.int i t)):=⟨t,h⟩
theorem MD{K:W.Frag}(h0:W.nsIn K mainGlobals "len"=some none)(h1:W.nsIn K mainGlobals "isinstance"=some none)(h2:W.nsIn K mainGlobals "int"=some none)(h3:W.nsIn K mainGlobals "bool"=some none)(h4:W.nsIn K mainGlobals "tuple"=some none)(h5:W.nsIn K mainGlobals "list"=some none)(h6:W.nsIn K mainGlobals "range"=some none)(h7:W.nsIn K mainGlobals "all"=some none)(h8:W.nsIn K mainGlobals "any"=some none)(h9:W.nsIn K mainGlobals "set"=some none)(h10:W.nsIn K mainGlobals "sorted"=some none)(h11:W.nsIn K mainGlobals "enumerate"=some none)(h12:W.nsIn K mainGlobals "zip"=some none)(h13:W.nsIn K mainGlobals "sum"=some none)(h14:W.nsIn K mainGlobals "min"=some none)(h15:W.nsIn K mainGlobals "max"=some none)(h16:W.nsIn K mainGlobals "reversed"=some none):∀x∈dv,W.nsIn K mainGlobals x=some none:=by
 intro x hx
 simp only[dv,zR,yG,or_false] at hx
 rcases hx with rfl|rfl|rfl|rfl|rfl|rfl|rfl|rfl|rfl|rfl|rfl|rfl|rfl|rfl|rfl|rfl|rfl<;>assumption
theorem AO{K:W.Frag}{H:Hp}{a:Addr}{ns:List Int}{m:List D->Option D}(hS:i8 K H a (ns.map V.int))(hT:gZ K H)(h:m [.list (ns.map PyData.int)]=some (.bool true)){X:_}:MH K 1 m [.ref a] H (fun v _=>v=.bl true) X:=by
 refine⟨H,[.list (ns.map PyData.int)],.bool true,.refl _,hT,aw.cons ?_ aw.nil,rfl,h,fun v H' HF' G r=>by simpa only[Rep] using r⟩
 simp only[Rep]
 refine⟨a,_,rfl,hS,?_⟩
 clear h hS hT
 induction ns with
 | nil=>exact aw.nil
 | cons n ns ih=>exact aw.cons (by simp[Rep]) ih
end
theorem Px{X:Cx}{e:Expr}{es:List Expr}{f:Env->Option D}{g:Env->Option (List D)}(h:isStar e=false)(he:DE X e f)(hs:DA X es g):DA X (e::es) (aa f g):=LQ he hs h
section
variable {X:Cx}{N:List Str}{sc:Scope}{k:Nat}{HF₀ H₀:Hp}{e c:Expr}{es:List Expr}{fs:Env->Option (List D)}{pos p:Pos}
noncomputable def NK:aj->Option Out:=fun _=>none
theorem Oz{st:Stmt}:DS X HF₀ H₀ st NK:=fun pins s σ H E I ⟨HF,ρ,o,S,hg,q⟩=>by cases hg
noncomputable def dq(f:Env->Option D):aj->Option Out:=fun ρ=>(f (bO ρ)).map fun _=>.nx ρ
theorem IA{f:Env->Option D}(hs:swapsWith e none pos.line X.env=pure false)(h:DE X e f):DS X HF₀ H₀ (.Expr e pos) (dq f):=eP (qg h hs) fun E σ H ⟨HF,ρ,o,S,hg,q⟩=>by
 obtain⟨d,h,rfl⟩:=ag hg
 exact⟨H,bO ρ,d,.refl _,S.all,h,fun v H' HF' G r=>q σ H' HF (S.step G.hh) (.refl _)⟩
noncomputable def Ku(t:Env->Option Bool)(gb:aj->Option Out):Nat->aj->Option Out
 | 0,_=>none
 | n+1,ρ=>(t (bO ρ)).bind fun b=>if b=true then (gb ρ).bind fun|.nx ρ'=>Ku t gb n ρ'|.rt d=>some (.rt d) else some (.nx ρ)
theorem HC(n:Nat){body:List Stmt}{t:Env->Option Bool}{gb:aj->Option Out}(hp:PassesOwn (model X.prog X.w) X.A X.env X.xe)(hc:DT X c t)(hb:EO X HF₀ H₀ body gb):DS X HF₀ H₀ (.While c body [] pos) (Ku t gb n) :=
 eP (HH hp hc hb) fun E σ H ⟨HF,ρ,o,S,hg,q⟩=>by
  refine⟨fun m σ' H'=>∃HF' ρ',kM X.K HF₀ H₀ HF' H' ρ' σ'/\bo HF HF'/\Ku t gb m ρ'=some o,⟨n,HF,ρ,S,.refl _,hg⟩,?_⟩
  rintro m σ' H' ⟨HF',ρ',S',s',hf⟩
  cases m with
  | zero=>cases hf
  | succ m =>
   unfold Ku at hf
   obtain⟨b,hb,hf⟩:=bs hf
   refine⟨H',bO ρ',b,.refl _,S'.all,hb,fun H1 HF1 G=>?_⟩
   cases b with
   | false =>
    rw[if_neg Bool.false_ne_true] at hf ⊢
    cases hf
    exact q σ' H1 HF' (S'.step G.hh) s'
   | true =>
    rw[if_pos rfl] at hf ⊢
    obtain⟨o1,h2,hf⟩:=bs hf
    refine⟨fun σ2 H3=>∃HF3 ρ3,kM X.K HF₀ H₀ HF3 H3 ρ3 σ2/\bo HF HF3/\Ku t gb m ρ3=some o,fun σ2 H3 ⟨HF3,ρ3,a1,a2,a3⟩=>⟨m,Nat.lt_succ_self _,HF3,ρ3,a1,a2,a3⟩,HF',ρ',o1,S'.step G.hh,h2,?_⟩
    cases o1 with
    | nx ρ2=>exact fun σ4 H4 HF4 S4 s4=>⟨HF4,ρ2,S4,s'.trans s4,hf⟩
    | rt d=>cases hf;exact q
noncomputable def zj:List D->Option D
 | [.int a,.int b]=>some (.int (min a b))
 | [.int a,.int b,.int c]=>some (.int (min (min a b) c))
 | _=>none
theorem Ha(hc:X.calm=true):eW X (.builtin "min") (fun xs H Q=>(∃a b:Int,xs=[.int a,.int b]/\Q (.int (min a b)) H)\/(∃a b c:Int,xs=[.int a,.int b,.int c]/\Q (.int (min (min a b) c)) H)):=by
 intro pins s σ H xs us Q I r h
 have hh:X.A.handled=none:=I.ok.hd hc
 rcases h with ⟨a,b,rfl,q⟩|⟨a,b,c,rfl,q⟩
 ·cases r with
  | cons r1 r =>
   cases r with
   | cons r2 r =>
    cases r
    obtain⟨t,rfl⟩:=r1
    obtain⟨u,rfl⟩:=r2
    refine min_two_ints hh fun h' tk kp=>⟨.int (min a b),H,I.kept (t':=tk) kp,?_,q⟩
    by_cases h:b < a
    ·rw[if_pos h,show min a b=b by omega];exact⟨_,rfl⟩
    ·rw[if_neg h,show min a b=a by omega];exact⟨_,rfl⟩
 ·cases r with
  | cons r1 r =>
   cases r with
   | cons r2 r =>
    cases r with
    | cons r3 r =>
     cases r
     obtain⟨t,rfl⟩:=r1
     obtain⟨u,rfl⟩:=r2
     obtain⟨x,rfl⟩:=r3
     refine min_three_ints hh fun h' tk kp=>⟨.int (min (min a b) c),H,I.kept (t':=tk) kp,?_,q⟩
     by_cases h:b < a
     ·rw[if_pos h]
      by_cases h2:c < b
      ·rw[if_pos h2,show min (min a b) c=c by omega];exact⟨_,rfl⟩
      ·rw[if_neg h2,show min (min a b) c=b by omega];exact⟨_,rfl⟩
     ·rw[if_neg h]
      by_cases h2:c < a
      ·rw[if_pos h2,show min (min a b) c=c by omega];exact⟨_,rfl⟩
      ·rw[if_neg h2,show min (min a b) c=a by omega];exact⟨_,rfl⟩
theorem xU{K:W.Frag}{H:Hp}{d:D}{v:V}(r:Rep K H d v):∀ {ds:List D}{vs:List V}(j:Nat),aw K H ds vs->aw K H (ds.set j d) (vs.set j v)
 | [],vs,j,h=>by rw[h.nil_inv];exact aw.nil
 | x::ds,vs,j,h=>by
  obtain⟨u,us,rfl,a,b⟩:=h.cons_inv
  cases j with
  | zero=>exact aw.cons r b
  | succ j=>exact aw.cons a (xU r j b)
noncomputable def A3(i:Nat)(fz:List Nat)(fk f:Env->Option D):aj->Option Out:=fun ρ=>(ma fz f ρ).bind fun p=>(fk (bO p.2)).bind fun kd=>match kd with
 | .int k=>o3 i (fun ds=>(Ik ds.length k).map fun j=>ds.set j p.1) p.2
 | _=>none
theorem FN(i:Nat)(fz:List Nat){x:Str}{e2:Expr}{px spos:Pos}{fk f:Env->Option D}(hN:X.N[i]?=some x)(hv:Lf X.env.scope x)(hk:DE X e fk)(h:DE X e2 f)(hd:(x == ("__debug__":Str))=false:=by decide)(hcd:(x == ("__classdict__":Str))=false:=by decide)
  (ha:∀v,assign (.Subscript (.Name x px) e spos) X.env v=(do
   let ov <- holding [v] (eval (.Name x px) X.env)
   let iv <- holding [v,ov] (eval e X.env)
   standAt spos
   holding [v,ov,iv] (setItem ov iv v)
   release [v,ov,iv] []):=by intro _;rfl)
  (hs:swapsWithSole [.Subscript (.Name x px) e spos] e2 pos.line X.env=pure false:=by rfl) (hw:swappedStores [.Subscript (.Name x px) e spos] e2 X.env=pure none:=by rfl)
  (h1:(assignEach [.Subscript (.Name x px) e spos] X.env).map (·.2)=[assign (.Subscript (.Name x px) e spos) X.env]:=by rfl):DS X HF₀ H₀ (.Assign [.Subscript (.Name x px) e spos] e2 pos) (A3 i fz fk f) :=
 eP (Nn h (MY (qw hN hv hd hcd) hk set_list ha) hs hw h1) fun E σ H ⟨HF,ρ,o,S,hg,q⟩=>by
  obtain⟨⟨d,ρ'⟩,h1,hg⟩:=bs hg
  obtain⟨kd,h2,hg⟩:=bs hg
  cases kd<;>try cases hg
  rename_i k
  obtain⟨ds,es,h3,h4,rfl⟩:=lX hg
  obtain⟨j,hj,rfl⟩:=ag h4
  refine oH S h1 fun v H1 HF1 s1 S1 s2 r=>?_
  obtain⟨a,vs,e1,e2,e3,e5,e4⟩:=S1.own i ds h3
  refine⟨.ref a,e1,H1,bO ρ',.int k,.refl _,S1.all,h2,fun kv H2 HF2 G rk=>?_⟩
  simp only[Rep] at rk
  have S2:=S1.step G.hh
  obtain⟨a',vs',f1,f2,f3,f5,f4⟩:=S2.own i ds h3
  rw[e1] at f1;cases f1
  exact⟨a,vs',k,j,rfl,rk,f2,by rw[f4.length];exact hj,q σ _ HF1 (S2.mut h3 e1 f2 (xU r j f4)) s1⟩
end
section
variable {X:Cx}{N:List Str}{sc:Scope}{k:Nat}{HF₀ H₀:Hp}{a b e c:Expr}{es:List Expr}{fa fb:Env->Option D}{fs:Env->Option (List D)}{pos p:Pos}
noncomputable def NR:D->Bool|.none=>true|_=>false
theorem pV{K:W.Frag}{HF:Hp}{d:D}{v:V}(r:Rep K HF d v):decide (v=.non)=NR d:=by
 cases d<;>simp only[Rep] at r<;>first
  | (subst r;rfl)
  | (obtain⟨a,vs,rfl,_⟩:=r;rfl)
  | exact r.elim
noncomputable def tX:D->D->Option D:=fun x y=>if NR y=true then some (.bool (NR x)) else none
noncomputable def pq:D->D->Option D:=fun x y=>if NR y=true then some (.bool (!NR x)) else none
theorem Cn{K:W.Frag}:gx K (fun x y H Q=>y=.non/\Q (.bl (decide (x=.non))) H) tX:=by
 intro HF H x y v1 v2 d Q sm r1 r2 hg q
 unfold tX at hg
 split at hg
 ·rename_i h
  cases hg
  have h2:=pV r2
  rw[h,zJ] at h2
  refine⟨h2,?_⟩
  rw[pV r1]
  exact q _ H HF (.refl sm) (by simp[Rep])
 ·cases hg
theorem zg{K:W.Frag}:gx K (fun x y H Q=>y=.non/\Q (.bl (!decide (x=.non))) H) pq:=by
 intro HF H x y v1 v2 d Q sm r1 r2 hg q
 unfold pq at hg
 split at hg
 ·rename_i h
  cases hg
  have h2:=pV r2
  rw[h,zJ] at h2
  refine⟨h2,?_⟩
  rw[pV r1]
  exact q _ H HF (.refl sm) (by simp[Rep])
 ·cases hg
theorem Bk.is0(C:Bk X N sc k)(ha:DE X a fa)(hb:DE X b fb):DE X (.Compare a [.Is] [b] pos) (f2 tX fa fb):=kg Ia Cn ha hb (dM _)
theorem Bk.not0(C:Bk X N sc k)(ha:DE X a fa)(hb:DE X b fb):DE X (.Compare a [.IsNot] [b] pos) (f2 pq fa fb):=kg CD zg ha hb (dM _)
theorem Bk.tis0(C:Bk X N sc k)(ha:DE X a fa)(hb:DE X b fb):DT X (.Compare a [.Is] [b] pos) (fB (f2 tX fa fb)):=jF Ia Cn ha hb (dM _)
theorem Bk.tnot0(C:Bk X N sc k)(ha:DE X a fa)(hb:DE X b fb):DT X (.Compare a [.IsNot] [b] pos) (fB (f2 pq fa fb)):=jF CD zg ha hb (dM _)
theorem LL(hc:X.calm=true)(B:pA X "min" (.builtin "min"))(he:starEach (e::es) X.env=(false,eval e X.env)::starEach es X.env)(hpl:(backTo pos (starEach es X.env)).any (·.1)=false)(ha:DA X (e::es) fs):DE X (.Call (.Name "min" p) (e::es) [] pos) (br zj fs) :=
 ji (Ha hc) (by
  intro HF H ds vs d Q sm r hg q
  unfold zj at hg
  split at hg
  ·cases hg
   obtain⟨v1,r1,rfl,a1,b1⟩:=r.cons_inv
   obtain⟨v2,r2,rfl,a2,b2⟩:=b1.cons_inv
   rw[b2.nil_inv]
   simp only[Rep] at a1 a2
   exact .inl ⟨_,_,by rw[a1,a2],q _ H HF (.refl sm) (by simp[Rep])⟩
  ·cases hg
   obtain⟨v1,r1,rfl,a1,b1⟩:=r.cons_inv
   obtain⟨v2,r2,rfl,a2,b2⟩:=b1.cons_inv
   obtain⟨v3,r3,rfl,a3,b3⟩:=b2.cons_inv
   rw[b3.nil_inv]
   simp only[Rep] at a1 a2 a3
   exact .inr ⟨_,_,_,by rw[a1,a2,a3],q _ H HF (.refl sm) (by simp[Rep])⟩
  ·cases hg) B ha (by decide) (by decide) he hpl
end
section
variable {X:Cx}{a b e c:Expr}{es:List Expr}{fa fb:Env->Option D}{fl fs:Env->Option (List D)}{pos p:Pos}
noncomputable def O2(ds:List D):D->Option (List D)
 | .int k=>if zx k=true/\ds.length * k.toNat<=sizeLine then some (List.replicate k.toNat ds).flatten else none
 | _=>none
noncomputable def KI(fl:Env->Option (List D))(fb:Env->Option D):Env->Option (List D):=fun ρ=>(fl ρ).bind fun ds=>(fb ρ).bind (O2 ds)
theorem Mh(ha:DF X a fl)(hb:DE X b fb):DF X (.BinOp a .Mult b pos) (KI fl fb):=bu (GT L5 ha hb) fun σ H Q ⟨HF,ρ,d,sm,eo,hf,q⟩=>by
 obtain⟨ds,hx,hf⟩:=bs hf
 obtain⟨y,hy,hg⟩:=bs hf
 refine⟨HF,ρ,ds,sm,eo,hx,fun l vs H1 HF1 g1 h0 hn h1 r1=>⟨HF1,ρ,y,g1.fh,eo.mono g1.ff,hy,fun v2 H2 HF2 g2 r2=>?_⟩⟩
 cases y<;>try cases hg
 rename_i k
 have hg:(if zx k=true/\ds.length * k.toNat<=sizeLine then some (List.replicate k.toNat ds).flatten else none)=some d:=hg
 split at hg
 ·rename_i hz
  cases hg
  simp only[Rep] at r2
  have r1:=r1.mono g2.ff
  have G:=g1.trans g2
  have ok:=hz.1
  simp only[zx,zF,zJ] at ok
  exact⟨l,k,vs,rfl,r2,g2.hh _ _ h1,by omega,by omega,by rw[r1.length];exact hz.2,fun p hp=>q p _ _ HF2 (G.trans (.own G.fh hp)) (G.hh.free hp) (G.fh.free hp) aO (nj r1 _)⟩
 ·cases hg
theorem Bc(hc:X.calm=true):eW X (.builtin "any") (fun xs H Q=>∃ (a:Addr) (bs:List Bool),xs=[.ref a]/\i8 X.K H a (bs.map V.bl)/\Q (.bl (bs.any id)) H):=by
 intro pins s σ H xs us Q I r h
 obtain⟨a,bs,rfl,hq,q⟩:=h
 obtain⟨u,rfl,rx⟩:=vals1 r
 cases rx
 obtain⟨its,rv,pl,hz⟩:=I.list hq
 have hv:=mU rv
 subst hv
 have hh:X.A.in1.handled=none:=I.ok.hd hc
 refine call_any_walk (wpAny_pyIter_list pl.isList ?_)
 obtain⟨o,ho,hcl,n,hd⟩:=pl.isList
 have hne:a≠s.heap.objs.size:=Nat.ne_of_lt (zZ ho)
 refine⟨_,_,_,_,_,_,fun i=>bs.getD i false,rfl,Walks.list hh s.heap.objs.size a hne (bs.map Value.bool).toArray,⟨⟨_,zY _ rfl,rfl,rfl⟩,pl.isList.push _⟩,fun i v s' Q' E' hP hQ=>?_,fun h' tk kp=>?_⟩
 ·have e:v=Value.bool (bs.getD i false):=by
   have hP:(bs.map Value.bool).toArray[i]?=some v:=hP
   rw[List.getElem?_toArray,zO] at hP
   obtain⟨b,hb,rfl⟩:=ag hP
   rw[zG,hb]
   rfl
  subst e
  exact wpAny_truthy_bool hQ
 ·refine⟨.bl (bs.any id),H,?_,?_,q⟩
  ·exact I.kept (t':=tk) fun b o' e=>kp b o' (by simp;exact Nat.ne_of_lt (zZ e)) (zV _ e)
  ·show Value.bool _=Value.bool _
   have:=range_any bs
   simp only[zH,zD]
   rw[this]
end
section
variable {X:Cx}{e:Expr}{fs:Env->Option (List D)}{pos p:Pos}
theorem Lr(hc:X.calm=true)(B:pA X "any" (.builtin "any"))(he:starEach [e] X.env=(false,eval e X.env)::starEach [] X.env)(ha:DA X [e] fs):DE X (.Call (.Name "any" p) [e] [] pos) (br (fun ds=>(oneOf ds).bind fun d=>match d with
 | .list es=>(boolsOf es).map fun bs=>.bool (bs.any id)
 | _=>none) fs) :=
 ji (Bc hc) (by
  intro HF H ds vs d Q sm r hg q
  obtain⟨x,hx,hg⟩:=bs hg
  rw[hZ hx] at r
  cases x<;>try cases hg
  obtain⟨bs,hb,rfl⟩:=ag hg
  obtain⟨v,r',rfl,a,b⟩:=r.cons_inv
  rw[b.nil_inv]
  simp only[Rep] at a
  obtain⟨p,us,rfl,h,rr⟩:=a
  rw[jQ hb] at rr
  have:=mC rr
  subst this
  exact⟨p,bs,rfl,sm.seq h,q _ H HF (.refl sm) (by simp[Rep])⟩) B ha (by decide) (by decide) he rfl
theorem pD(ns:List Int):∀j:Nat,preSum (fun i=>ns.getD i 0) j=(ns.take j).sum
 | 0=>by simp[preSum]
 | j+1=>by
  rw[preSum,pD ns j,List.take_add_one,List.sum_append]
  congr 1
  rw[zG]
  cases ns[j]?<;>simp
theorem uw(val:Nat->Int)(B:Int)(h:∀i,-B<=val i/\val i<=B):∀j:Nat,-(B * j)<=preSum val j/\preSum val j<=B * j
 | 0=>by simp[preSum]
 | j+1=>by
  have ih:=uw val B h j
  have:=h j
  rw[preSum]
  have e:B * ((j+1:Nat):Int)=B * (j:Int)+B:=by rw[Int.natCast_add,Int.mul_add];simp
  rw[e]
  omega
noncomputable def LF(ns:List Int):Bool:=decide (ns.length<=1000)&&ns.all fun n=>decide (-1000000<=n)&&decide (n<=1000000)
theorem LO{ns:List Int}(h:LF ns=true):ns.length<=1000/\∀i,-1000000<=ns.getD i 0/\ns.getD i 0<=1000000:=by
 unfold LF at h
 rw[zF,zJ,List.all_eq_true] at h
 refine⟨h.1,fun i=>?_⟩
 rw[zG]
 cases e:ns[i]? with
 | none=>simp
 | some n =>
  have:=h.2 n (List.mem_of_getElem? e)
  simpa using this
theorem p8{ns:List Int}{its:List Value}(r:aM (ns.map V.int) its){i:Nat}{v:Value}(h:its.toArray[i]?=some v):∃t,v=.int (ns.getD i 0) t:=by
 rw[List.getElem?_toArray] at h
 induction ns generalizing its i with
 | nil=>cases r;simp at h
 | cons n ns ih =>
  cases r with
  | cons r1 rr =>
   cases i with
   | zero =>
    simp only[List.getElem?_cons_zero,yM] at h
    subst h
    obtain⟨t,rfl⟩:=r1
    exact⟨t,rfl⟩
   | succ i =>
    simp only[List.getElem?_cons_succ] at h
    exact ih rr h
theorem Av(hc:X.calm=true):eW X (.builtin "sum") (fun xs H Q=>∃ (a:Addr) (ns:List Int),xs=[.ref a]/\(i8 X.K H a (ns.map V.int)\/jA X.K H a (ns.map V.int))/\LF ns=true/\Q (.int ns.sum) H):=by
 intro pins s σ H xs us Q I r h
 obtain⟨a,ns,rfl,hq,hok,q⟩:=h
 obtain⟨u,rfl,rx⟩:=vals1 r
 cases rx
 have hh:X.A.in1.handled=none:=I.ok.hd hc
 obtain⟨hlen,hbd⟩:=LO hok
 have hin:∀n:Nat,n<=1000->∀j,j < n->InLong ((fun i=>ns.getD i 0) j)/\InLong (preSum (fun i=>ns.getD i 0) (j+1)):=fun n hn j hj=>by
  have h1:=hbd j
  have h2:=uw (fun i=>ns.getD i 0) 1000000 hbd (j+1)
  refine⟨⟨?_,?_⟩,?_,?_⟩
  ·show -(2 ^ 63)<=ns.getD j 0
   omega
  ·show ns.getD j 0 < 2 ^ 63
   omega
  ·omega
  ·omega
 have hsum:preSum (fun i=>ns.getD i 0) ns.length=ns.sum:=by rw[pD,List.take_length]
 rcases hq with hq|hq
 ·obtain⟨its,rv,pl,hz⟩:=I.list hq
  have hl:its.length=ns.length:=by rw[<- rv.length,zD]
  refine call_sum_walk (wpAny_pyIter_list pl.isList ?_)
  obtain⟨o,ho,hcl,n,hd⟩:=pl.isList
  have hlt:=zZ ho
  have hne:a≠s.heap.objs.size:=Nat.ne_of_lt hlt
  refine⟨_,_,_,_,_,_,fun i=>ns.getD i 0,rfl,Walks.list hh s.heap.objs.size a hne its.toArray,⟨⟨_,zY _ rfl,rfl,rfl⟩,pl.isList.push _⟩,fun b hb=>?_,fun i v hP=>p8 rv hP,by rw[zH,hl];exact hin _ hlen,fun h' tk t' kp=>?_⟩
  ·show b < (s.heap.push _).objs.size
   rw[Heap.size_push]
   simp only[zR,yG,or_false] at hb
   rcases hb with rfl|rfl
   ·exact Nat.lt_succ_self _
   ·exact Nat.lt_succ_of_lt hlt
  ·refine⟨.int ns.sum,H,I.kept (t':=tk) fun b o' e=>kp b o' (by simp;exact Nat.ne_of_lt (zZ e)) (zV _ e),⟨t',?_⟩,q⟩
   rw[zH,hl,hsum]
 ·obtain⟨its,rv,pl,hz⟩:=I.tuple hq
  have pl:s.heap.IsTuple a its.toArray:=pl
  have hl:its.length=ns.length:=by rw[<- rv.length,zD]
  refine call_sum_walk (wpAny_pyIter_tuple pl ?_)
  obtain⟨o,ho,hcl,n,hd⟩:=id pl
  have hlt:=zZ ho
  have hne:a≠s.heap.objs.size:=Nat.ne_of_lt hlt
  refine⟨_,_,_,_,_,_,fun i=>ns.getD i 0,rfl,Walks.tuple hh s.heap.objs.size a hne its.toArray,⟨⟨_,zY _ rfl,rfl,rfl⟩,pl.push _⟩,fun b hb=>?_,fun i v hP=>p8 rv hP,by rw[zH,hl];exact hin _ hlen,fun h' tk t' kp=>?_⟩
  ·show b < (s.heap.push _).objs.size
   rw[Heap.size_push]
   simp only[zR,yG,or_false] at hb
   rcases hb with rfl|rfl
   ·exact Nat.lt_succ_self _
   ·exact Nat.lt_succ_of_lt hlt
  ·refine⟨.int ns.sum,H,I.kept (t':=tk) fun b o' e=>kp b o' (by simp;exact Nat.ne_of_lt (zZ e)) (zV _ e),⟨t',?_⟩,q⟩
   rw[zH,hl,hsum]
end
section
variable {X:Cx}{e:Expr}{fs:Env->Option (List D)}{pos p:Pos}
noncomputable def EF:List D->Option D:=fun ds=>(dN ds).bind fun es=>(intsOf es).bind fun ns=>if LF ns=true then some (.int ns.sum) else none
theorem lQ{K:W.Frag}{H:Hp}:∀ {ns:List Int}{vs:List V},aw K H (ns.map PyData.int) vs->vs=ns.map V.int
 | [],vs,h=>h.nil_inv
 | b::bs,vs,h=>by
  obtain⟨v,r,rfl,a,c⟩:=h.cons_inv
  simp only[Rep] at a
  rw[a,lQ c]
  rfl
theorem Mt(hc:X.calm=true)(B:pA X "sum" (.builtin "sum"))(he:starEach [e] X.env=(false,eval e X.env)::starEach [] X.env)(ha:DA X [e] fs):DE X (.Call (.Name "sum" p) [e] [] pos) (br EF fs) :=
 ji (Av hc) (by
  intro HF H ds vs d Q sm r hg q
  obtain⟨es,h1,hg⟩:=bs hg
  obtain⟨ns,h2,hg⟩:=bs hg
  have hg:(if LF ns=true then some (PyData.int ns.sum) else none)=some d:=hg
  split at hg
  ·rename_i hok
   cases hg
   have e2:=eB h2
   subst e2
   rcases ix h1 with rfl|rfl
   all_goals
    obtain⟨v,r',rfl,a,b⟩:=r.cons_inv
    rw[b.nil_inv]
    simp only[Rep] at a
    obtain⟨p,us,rfl,h,rr⟩:=a
    have:=lQ rr
    subst this
   ·exact⟨p,ns,rfl,.inr (aI sm h),hok,q _ H HF (.refl sm) (by simp[Rep])⟩
   ·exact⟨p,ns,rfl,.inl (sm.seq h),hok,q _ H HF (.refl sm) (by simp[Rep])⟩
  ·cases hg) B ha (by decide) (by decide) he rfl
end
section
variable {X:Cx}
noncomputable def NH(i:Int):Value->Bool|.int a _=>a == i|_=>false
theorem DL:O3 X "list.index" (fun x vs H Q=>∃ (l:Addr) (ns:List Int) (i:Int) (j:Nat),x=.ref l/\vs=[.int i]/\i8 X.K H l (ns.map V.int)/\ns[j]?=some i/\(∀m,m < j->ns[m]?≠some i)/\Q (.int j) H):=by
 intro pins s σ H x vs v us Q I rx rv h
 obtain⟨l,ns,i,j,rfl,rfl,hq,hj,hno,q⟩:=h
 cases rx
 obtain⟨u,rfl,ru⟩:=rv.one
 obtain⟨t,rfl⟩:=ru
 obtain⟨its,r,pl,hz⟩:=I.list hq
 obtain⟨⟨cls,dd,data,sl⟩,ho,hc,n,hd⟩:=id pl.isList
 simp only at hc hd
 subst hc hd
 have hl:its.length=ns.length:=by rw[<- r.length,zD]
 have hj1:j < ns.length:=(zU.mp hj).1
 have hz':ns.length<=sizeLine:=by rw[zD] at hz;exact hz
 have hs63:(sizeLine:Nat) < 2 ^ 62:=by decide
 have at_:∀m (hm:m < its.toArray.size),∃t',its.toArray[m]=.int (ns.getD m 0) t':=fun m hm=>p8 r (Array.getElem?_eq_getElem hm)
 refine call_meets F.slot_list_index ⟨_,ho,rfl⟩ F.entry_list_index (F.args_list_index_2 _ _) (PySem.SeqAt.list_indexAt l its.toArray n dd sl (.int i t) (NH i) j (by rw[zH,hl];exact hj1) (by omega) ?_ ?_) ⟨ho,?_,?_⟩
 ·obtain⟨t',e⟩:=at_ j (by rw[zH,hl];exact hj1)
  rw[e,NH,zG,hj]
  simp
 ·intro m hm hmj
  obtain⟨t',e⟩:=at_ m hm
  have hm':m < ns.length:=by omega
  have:=hno m hmj
  rw[e,NH,zG]
  rw[zK hm'] at this ⊢
  simp only[Option.getD_some,beq_eq_false_iff_ne]
  exact fun h=>this (by rw[h])
 ·intro y hy
  obtain⟨m,hm,rfl⟩:=Array.getElem_of_mem hy
  obtain⟨t',e⟩:=at_ m hm
  rw[e]
  exact PySem.SeqAt.EqAt.int_int _ _ _ _
 ·exact⟨.int j,H,I.tok _,⟨_,rfl⟩,q⟩
noncomputable def xA(i:Int):List Int->Option Nat
 | []=>none
 | n::ns=>if n=i then some 0 else (xA i ns).map (·+1)
theorem oS{i:Int}:∀ {ns:List Int}{j:Nat},xA i ns=some j->ns[j]?=some i/\∀m,m < j->ns[m]?≠some i
 | [],j,h=>by cases h
 | n::ns,j,h=>by
  unfold xA at h
  split at h
  ·cases h
   rename_i e
   exact⟨by rw[e];rfl,fun m hm=>absurd hm (Nat.not_lt_zero _)⟩
  ·rename_i e
   obtain⟨k,hk,rfl⟩:=ag h
   obtain⟨a,b⟩:=oS hk
   refine⟨by simpa using a,fun m hm=>?_⟩
   cases m with
   | zero=>simpa using e
   | succ m=>simpa using b m (by omega)
noncomputable def Qj:D->D->Option D
 | .list es,.int i=>(intsOf es).bind fun ns=>(xA i ns).map fun j=>.int ((j:Nat):Int)
 | _,_=>none
theorem HY{o e:Expr}{apos cpos:Pos}{fo fe:Env->Option D}(hbase:attributeBase o "index" X.env (eval o X.env)=eval o X.env)
  (hfew:((backTo cpos (starEach [e] X.env)).all (fun x=>!x.1)&&(backToKw cpos (keywordEach [] X.env)).all (fun x=>x.1.isSome)&&decide ([e].length+([]:List Keyword).length+(if ([]:List Keyword).isEmpty then 0 else 1) < 30))=true)
  (hline:(apos.endLine == cpos.line)=true) (hs:starEach [e] X.env=(false,eval e X.env)::starEach [] X.env) (ho:DE X o fo) (he:DE X e fe):DE X (.Call (.Attribute o "index" apos) [e] [] cpos) (f2 Qj fo fe) :=
 bu (xC PySem.F.plainAttrs_list PySem.F.slot_list_index PySem.F.type_list_index DL ho (dE he iY hs) hbase hfew hline hs rfl) fun σ H Q ⟨HF,ρ,d,sm,eo,hf,q⟩=>by
  obtain⟨x,hx,hf⟩:=bs hf
  obtain⟨y,hy,hg⟩:=bs hf
  refine⟨HF,ρ,x,sm,eo,hx,fun v1 H1 HF1 g1 r1=>?_⟩
  cases x<;>try cases hg
  cases y<;>try cases hg
  rename_i es i
  obtain⟨ns,h1,hg⟩:=bs hg
  obtain⟨j,h2,rfl⟩:=ag hg
  have e1:=eB h1
  subst e1
  simp only[Rep] at r1
  obtain⟨l,us,rfl,hq,rr⟩:=r1
  have:=lQ rr
  subst this
  refine⟨.inl ⟨rfl,_,g1.fh.seq hq⟩,HF1,ρ,.int i,g1.fh,eo.mono g1.ff,hy,fun v2 H2 HF2 g2 r2=>?_⟩
  simp only[Rep] at r2
  obtain⟨a,b⟩:=oS h2
  exact⟨l,ns,i,j,rfl,by rw[r2],g2.fh.seq (g2.ff.seq hq),a,b,q _ H2 HF2 (g1.trans g2) (by simp[Rep])⟩
end
end Dl
namespace Tx
open PySem PySem.SeqAt PyProof.Rows
open PySem.AutoSeq1 (wpAny_loadPart')
open PySem.MeetsSeq PySem.MeetsSeq2 PySem.MeetsSeq3
theorem wpR{M:Model}{A:Around}{E:Value->Shared->Prop}{s:Shared}{β:Type}(f:Nat->β->Sem (ForInStep β))(I:List Nat->β->Shared->Prop)(Q:β->Shared->Prop)
  (turn:∀x rest b s,I (x::rest) b s->wpAny M A (f x b) (fun r s'=>match r with|.yield b'=>I rest b' s'|.done b'=>Q b' s') E s)
  (fin:∀b s,I [] b s->Q b s) (n:Nat) (b:β) (h:I (List.range' 0 n 1) b s):wpAny M A (forIn [:n] b f) Q E s:=by
 have e:forIn [:n] b f=forIn (List.range' 0 n 1) b f:=by
  rw[Std.Legacy.Range.forIn_eq_forIn_range']
  simp[Std.Legacy.Range.size]
 rw[e]
 exact wpAny_forIn_list f I Q turn fin _ b h
theorem tuple_indexAt(l:Addr)(items:Array Value)(n:Nat)(dd:Option Addr)(sl:Array (Option Value))(x:Value)(e:Value->Bool)(j:Nat)(hj:j < items.size)(h1:e items[j]=true)(h2:∀m (hm:m < items.size),m < j->e items[m]=false) :
  Meets (Builtin.«tuple.index» ⟨[.ref l,x],[]⟩)
   (fun A R s=>s.heap.get? l=some { cls:=.type "tuple",dict:=dd,data:=.seq items n,slots:=sl }/\(∀y,y∈items->EqAt A.in1 s y x (e y))/\R (.ok (.ret (.int (j:Nat) s.toks))) { s with toks:=s.toks+1 }) :=
 .of_wp fun prog w A R s h=>by
  obtain⟨hp,g,d,tk,os⟩:=s;obtain⟨hl,he,h⟩:=h
  wp_walk using wpAny_loadPart' hl,wpR _ (fun rest b s'=>s'=⟨hp,g,d,tk,os⟩/\b.1=none/\∃i,i<=j/\rest=List.range' i (items.size - i) 1) _
  case turn =>
   rintro i rest b s' ⟨rfl,hb,i',hi,e1⟩
   have hlt:i' < items.size:=by omega
   rw[show items.size - i'=(items.size - (i'+1))+1 by omega,List.range'_succ] at e1
   injection e1 with e2 e3
   subst e2
   subst e3
   simp only[Array.getElem?_eq_getElem hlt]
   refine zW (he _ (Array.getElem_mem hlt) prog w _ _ ?_)
   by_cases hij:i=j
   ·subst hij
    rw[h1]
    wp_walk
    exact⟨_,rfl,h⟩
   ·rw[h2 i hlt (by omega)]
    wp_walk
    exact⟨rfl,rfl,i+1,by omega,rfl⟩
  case fin =>
   rintro b s' ⟨rfl,hb,i,hi,e1⟩
   have:=congrArg List.length e1
   simp at this
   omega
  case h =>
   exact⟨rfl,rfl,0,Nat.zero_le _,by simp⟩
end Tx
namespace Dl
open PySem L2 PySem.Spec PyProof.Rows
section
variable {X:Cx}
theorem Df:O3 X "tuple.index" (fun x vs H Q=>∃ (l:Addr) (ns:List Int) (i:Int) (j:Nat),x=.ref l/\vs=[.int i]/\jA X.K H l (ns.map V.int)/\ns[j]?=some i/\(∀m,m < j->ns[m]?≠some i)/\Q (.int j) H):=by
 intro pins s σ H x vs v us Q I rx rv h
 obtain⟨l,ns,i,j,rfl,rfl,hq,hj,hno,q⟩:=h
 cases rx
 obtain⟨u,rfl,ru⟩:=rv.one
 obtain⟨t,rfl⟩:=ru
 obtain⟨its,r,pl,hz⟩:=I.tuple hq
 obtain⟨⟨cls,dd,data,sl⟩,ho,hc,n,hd⟩:=id pl
 simp only at hc hd
 subst hc hd
 have hl:its.length=ns.length:=by rw[<- r.length,zD]
 have hj1:j < ns.length:=(zU.mp hj).1
 have at_:∀m (hm:m < its.toArray.size),∃t',its.toArray[m]=.int (ns.getD m 0) t':=fun m hm=>p8 r (Array.getElem?_eq_getElem hm)
 refine call_meets F.slot_tuple_index ⟨_,ho,rfl⟩ F.entry_tuple_index (F.args_tuple_index_2 _ _) (Tx.tuple_indexAt l its.toArray n dd sl (.int i t) (NH i) j (by rw[zH,hl];exact hj1) ?_ ?_) ⟨ho,?_,?_⟩
 ·obtain⟨t',e⟩:=at_ j (by rw[zH,hl];exact hj1)
  rw[e,NH,zG,hj]
  simp
 ·intro m hm hmj
  obtain⟨t',e⟩:=at_ m hm
  have hm':m < ns.length:=by
   rw[zH] at hm
   omega
  have:=hno m hmj
  rw[e,NH,zG]
  rw[zK hm'] at this ⊢
  simp only[Option.getD_some,beq_eq_false_iff_ne]
  exact fun h=>this (by rw[h])
 ·intro y hy
  obtain⟨m,hm,rfl⟩:=Array.getElem_of_mem hy
  obtain⟨t',e⟩:=at_ m hm
  rw[e]
  exact PySem.SeqAt.EqAt.int_int _ _ _ _
 ·exact⟨.int j,H,I.tok _,⟨_,rfl⟩,q⟩
theorem Fz{e:Expr}{t u:TE}(h:PE X e t)(g:PE X e u):PE X e (fun σ H Q=>t σ H Q\/u σ H Q):=fun pins s σ H Q I q=>q.elim (h pins s σ H Q I) (g pins s σ H Q I)
noncomputable def il:D->D->Option D
 | .list es,.int i=>(intsOf es).bind fun ns=>(xA i ns).map fun j=>.int ((j:Nat):Int)
 | .tuple es,.int i=>(intsOf es).bind fun ns=>(xA i ns).map fun j=>.int ((j:Nat):Int)
 | _,_=>none
theorem Eb{o e:Expr}{apos cpos:Pos}{fo fe:Env->Option D}(hbase:attributeBase o "index" X.env (eval o X.env)=eval o X.env)
  (hfew:((backTo cpos (starEach [e] X.env)).all (fun x=>!x.1)&&(backToKw cpos (keywordEach [] X.env)).all (fun x=>x.1.isSome)&&decide ([e].length+([]:List Keyword).length+(if ([]:List Keyword).isEmpty then 0 else 1) < 30))=true)
  (hline:(apos.endLine == cpos.line)=true) (hs:starEach [e] X.env=(false,eval e X.env)::starEach [] X.env) (ho:DE X o fo) (he:DE X e fe):DE X (.Call (.Attribute o "index" apos) [e] [] cpos) (f2 il fo fe) :=
 bu (Fz (HY hbase hfew hline hs ho he) (xC PySem.F.plainAttrs_tuple PySem.F.slot_tuple_index PySem.F.type_tuple_index Df ho (dE he iY hs) hbase hfew hline hs rfl)) fun σ H Q ⟨HF,ρ,d,sm,eo,hf,q⟩=>by
  obtain⟨x,hx,hf⟩:=bs hf
  obtain⟨y,hy,hg⟩:=bs hf
  cases x<;>try cases hg
  ·cases y<;>try cases hg
   rename_i es i
   exact .inl ⟨HF,ρ,d,sm,eo,by simp only[f2,hx,hy,zA];exact hg,q⟩
  ·cases y<;>try cases hg
   rename_i es i
   obtain⟨ns,h1,hg⟩:=bs hg
   obtain⟨j,h2,rfl⟩:=ag hg
   have e1:=eB h1
   subst e1
   refine .inr ⟨HF,ρ,_,sm,eo,hx,fun v1 H1 HF1 g1 r1=>?_⟩
   simp only[Rep] at r1
   obtain⟨l,us,rfl,hq,rr⟩:=r1
   have:=lQ rr
   subst this
   refine⟨?_,HF1,ρ,.int i,g1.fh,eo.mono g1.ff,hy,fun v2 H2 HF2 g2 r2=>?_⟩
   ·first|exact .inr (.inl ⟨rfl,_,aI g1.fh hq⟩)|exact .inl ⟨rfl,_,aI g1.fh hq⟩|exact .inr ⟨rfl,_,aI g1.fh hq⟩
   ·simp only[Rep] at r2
    obtain⟨a,b⟩:=oS h2
    exact⟨l,ns,i,j,rfl,by rw[r2],aI g2.fh (aI g2.ff hq),a,b,q _ H2 HF2 (g1.trans g2) (by simp[Rep])⟩
end
end Dl
namespace Zp
open PySem PyProof.Rows
def IsI(b:Bool)(h:Heap)(it l:Addr)(k:Nat):Prop:=match b with|true=>h.IsTupleIter it l k|false=>h.IsListIter it l k
def IsS(b:Bool)(h:Heap)(l:Addr)(xs:Array Value):Prop:=match b with|true=>h.IsTuple l xs|false=>h.IsList l xs
theorem IsI.obj{b:Bool}{h:Heap}{it l:Addr}{k:Nat}(x:IsI b h it l k):∃o,h.get? it=some o/\∀v,o.data≠.cell v:=by
 cases b
 ·obtain⟨o,e,_,d⟩:=(show h.IsListIter it l k from x);exact⟨o,e,fun v q=>by rw[d] at q;cases q⟩
 ·obtain⟨o,e,_,d⟩:=(show h.IsTupleIter it l k from x);exact⟨o,e,fun v q=>by rw[d] at q;cases q⟩
theorem IsI.at{b:Bool}{h h':Heap}{it l:Addr}{k:Nat}(x:IsI b h it l k)(e:∀o,h.get? it=some o->h'.get? it=some o):IsI b h' it l k:=by
 cases b
 ·exact Heap.IsListIter.at x e
 ·exact Heap.IsTupleIter.at x e
theorem IsI.extBut{b:Bool}{h h':Heap}{a it l:Addr}{k:Nat}(x:IsI b h it l k)(e:Heap.ExtBut a h h')(n:it≠a):IsI b h' it l k:=x.at fun o q=>e it o n q
theorem IsS.at{b:Bool}{h h':Heap}{l:Addr}{xs:Array Value}(x:IsS b h l xs)(e:∀o,h.get? l=some o->h'.get? l=some o):IsS b h' l xs:=by
 cases b
 ·obtain⟨o,q,r⟩:=(show h.IsList l xs from x);exact⟨o,e o q,r⟩
 ·obtain⟨o,q,r⟩:=(show h.IsTuple l xs from x);exact⟨o,e o q,r⟩
theorem IsS.extBut{b:Bool}{h h':Heap}{a l:Addr}{xs:Array Value}(x:IsS b h l xs)(e:Heap.ExtBut a h h')(n:l≠a):IsS b h' l xs:=x.at fun o q=>e l o n q
section
variable {prog:Program}{w:World}{A:Around}{E:Value->Shared->Prop}{s:Shared}
theorem nxt{b:Bool}{j t:Addr}{k:Nat}{its:Array Value}{v:Value}{Q:Value->Shared->Prop}(hj:IsI b s.heap j t k)(ht:IsS b s.heap t its)(hv:its[k]?=some v)
  (hQ:∀g,IsI b g j t (k+1)->Heap.SameBut j s.heap g->Q v { s with heap:=g }):wpAny (model prog w) A (Builtin.SmallTypes.nextOf (.ref j)) Q E s:=by
 cases b
 ·exact wpAny_nextOf_list_item hj ht hv hQ
 ·exact En.nextT_item hj ht hv hQ
theorem nxtE{b:Bool}{j t:Addr}{k:Nat}{its:Array Value}{Q:Value->Shared->Prop}(hh:A.handled=none)(hj:IsI b s.heap j t k)(ht:IsS b s.heap t its)(hv:its[k]?=none)
  (hE:∀g x,Heap.ExtBut j s.heap g->(∃o,g.get? x=some o/\o.cls=.type "StopIteration")->E (.ref x) { s with heap:=g }):wpAny (model prog w) A (Builtin.SmallTypes.nextOf (.ref j)) Q E s:=by
 cases b
 ·exact wpAny_nextOf_list_end hh hj ht hv hE
 ·exact En.nextT_end hh hj ht hv hE
structure ZS(b₁ b₂:Bool)(h₀ h:Heap)(z TI TO i j l m:Addr)(xs ys:Array Value)(f:Value)(p q:Nat)(a b:Value):Prop where
 zo:IsZip h z TI TO f
 ti:IsPair h TI (.ref i) (.ref j)
 to:IsPair h TO a b
 wi:IsI b₁ h i l p
 wj:IsI b₂ h j m q
 sl:IsS b₁ h l xs
 sm:IsS b₂ h m ys
 kp:∀c o,c≠z->c≠TO->c≠i->c≠j->h₀.get? c=some o->h.get? c=some o
 sz:h.objs.size=h₀.objs.size
section
variable {b₁ b₂:Bool}{h₀ h g:Heap}{z TI TO i j l m:Addr}{xs ys:Array Value}{f f':Value}{p q:Nat}{a b x y:Value}
theorem ZS.fl(Z:ZS b₁ b₂ h₀ h z TI TO i j l m xs ys f p q a b)(D:ZipApart z TI TO i j l m)(e:IsZip g z TI TO f')(t:Heap.SameBut z h g):ZS b₁ b₂ h₀ g z TI TO i j l m xs ys f' p q a b :=
 ⟨e,t.extBut _ _ D.TIz Z.ti,t.extBut _ _ D.TOz Z.to,Z.wi.extBut t.extBut D.i1z,Z.wj.extBut t.extBut D.i2z,Z.sl.extBut t.extBut D.l1z,Z.sm.extBut t.extBut D.l2z,fun c o n1 n2 n3 n4 r=>t.extBut _ _ n1 (Z.kp c o n1 n2 n3 n4 r),t.1.trans Z.sz⟩
theorem ZS.fst(Z:ZS b₁ b₂ h₀ h z TI TO i j l m xs ys f p q a b)(D:ZipApart z TI TO i j l m)(e:IsI b₁ g i l (p+1))(t:Heap.SameBut i h g):ZS b₁ b₂ h₀ g z TI TO i j l m xs ys f (p+1) q a b :=
 ⟨t.extBut _ _ D.i1z.symm Z.zo,t.extBut _ _ D.TIi1 Z.ti,t.extBut _ _ D.TOi1 Z.to,e,Z.wj.extBut t.extBut D.i12.symm,Z.sl.extBut t.extBut D.l1i1,Z.sm.extBut t.extBut D.l2i1,fun c o n1 n2 n3 n4 r=>t.extBut _ _ n3 (Z.kp c o n1 n2 n3 n4 r),t.1.trans Z.sz⟩
theorem ZS.snd(Z:ZS b₁ b₂ h₀ h z TI TO i j l m xs ys f p q a b)(D:ZipApart z TI TO i j l m)(e:IsI b₂ g j m (q+1))(t:Heap.SameBut j h g):ZS b₁ b₂ h₀ g z TI TO i j l m xs ys f p (q+1) a b :=
 ⟨t.extBut _ _ D.i2z.symm Z.zo,t.extBut _ _ D.TIi2 Z.ti,t.extBut _ _ D.TOi2 Z.to,Z.wi.extBut t.extBut D.i12,e,Z.sl.extBut t.extBut D.l1i2,Z.sm.extBut t.extBut D.l2i2,fun c o n1 n2 n3 n4 r=>t.extBut _ _ n4 (Z.kp c o n1 n2 n3 n4 r),t.1.trans Z.sz⟩
theorem ZS.put(Z:ZS b₁ b₂ h₀ h z TI TO i j l m xs ys f p q a b)(D:ZipApart z TI TO i j l m)(e:IsPair g TO x y)(t:Heap.SameBut TO h g):ZS b₁ b₂ h₀ g z TI TO i j l m xs ys f p q x y :=
 ⟨t.extBut _ _ D.TOz.symm Z.zo,t.extBut _ _ D.TITO Z.ti,e,Z.wi.extBut t.extBut D.TOi1.symm,Z.wj.extBut t.extBut D.TOi2.symm,Z.sl.extBut t.extBut D.l1TO,Z.sm.extBut t.extBut D.l2TO,fun c o n1 n2 n3 n4 r=>t.extBut _ _ n2 (Z.kp c o n1 n2 n3 n4 r),t.1.trans Z.sz⟩
end
variable {b₁ b₂:Bool}{z TI TO i j l m:Addr}{xs ys:Array Value}{p q:Nat}{a b:Value}
theorem zipN{Q:Value->Shared->Prop}(hn:A.handled=none)(D:ZipApart z TI TO i j l m)(Z:ZS b₁ b₂ s.heap s.heap z TI TO i j l m xs ys .none p q a b)
  (item:∀x y g g',xs[p]?=some x->ys[q]?=some y->ZS b₁ b₂ s.heap g z TI TO i j l m xs ys .ellipsis (p+1) (q+1) x y->IsZip g' z TI TO (rawInt g.objs.size) ->
   Heap.SameBut z (g.push { cls:=.type "tuple",data:=.seq #[x,y] }) g'->Q (.ref g.objs.size) { s with heap:=g' })
  (over:(xs[p]?=none\/ys[q]?=none)->∀g e,(∀c o,c≠z->c≠TO->c≠i->c≠j->s.heap.get? c=some o->g.get? c=some o)->(∃o,g.get? e=some o/\o.cls=.type "StopIteration")->E (.ref e) { s with heap:=g }) :
  wpAny (model prog w) A (Builtin.«zip.__next__» ⟨[.ref z],[]⟩) (fun r s'=>∃v,r=.done (.ret v)/\Q v s') E s:=by
 have stop:∀ {g1 g2:Heap}{e:Addr}{c:Addr}{p' q':Nat}{a' b':Value},ZS b₁ b₂ s.heap g1 z TI TO i j l m xs ys .ellipsis p' q' a' b'->(c=i\/c=j)->(xs[p]?=none\/ys[q]?=none)->Heap.ExtBut c g1 g2 ->
   (∃o,g2.get? e=some o/\o.cls=.type "StopIteration")->wpAny (model prog w) A (setField (.ref z) 0 Value.none) (fun _ t=>E (.ref e) t) E { s with heap:=g2 }:=by
  intro g1 g2 e c p' q' a' b' Y hc hv k ⟨o,ho,ht⟩
  have cz:z≠c:=hc.elim (fun e=>e ▸ D.i1z.symm) fun e=>e ▸ D.i2z.symm
  have Yz:IsZip g2 z TI TO .ellipsis:=k _ _ cz Y.zo
  refine wpAny_setField_rec Yz (by simp) fun g3 _ t=>over hv g3 e (fun d u n1 n2 n3 n4 r=>t.extBut _ _ n1 (k _ _ ?_ (Y.kp d u n1 n2 n3 n4 r))) ⟨o,t.extBut _ _ ?_ ho,ht⟩
  ·exact hc.elim (fun e=>e ▸ n3) fun e=>e ▸ n4
  ·rintro rfl;rw[Yz] at ho;cases ho;simp at ht
 show wpAny _ _ (field (.ref z) 2 >>= _) _ _ _
 refine zW (wpAny_field Z.zo rfl (x:=.bool false) rfl (zW (wpAny_field Z.zo rfl (x:=.ref TI) rfl (zW (wpAny_seqItems Z.ti rfl (zW (m:=Builtin.SmallTypes.ownedTupleIsFree _) ?_))))))
 refine zW (wpAny_field Z.zo rfl (x:=.none) rfl (zX ?_))
 rw[if_pos rfl]
 refine zW (wpAny_rule (zW (wpAny_field Z.zo rfl (x:=.ref TO) rfl (zW (wpAny_setField_rec Z.zo (by simp) fun g1 e1 t1=>?_)))))
 have Z1:=Z.fl D (f':=.ellipsis) e1 t1
 refine zW ?_
 simp only[List.zipIdx_cons,List.zipIdx_nil,List.forIn_cons,List.forIn_nil]
 refine zW (zW (wpAny_onRaise (zW (m:=Builtin.SmallTypes.nextOf _) ?_)))
 cases hx:xs[p]? with
 | none=>exact nxtE hn Z1.wi Z1.sl hx fun g2 e k o=>stop Z1 (.inl rfl) (.inl hx) k o
 | some x =>
 refine nxt Z1.wi Z1.sl hx fun g2 e2 t2=>zX ?_
 have Z2:=Z1.fst D e2 t2
 refine zW (wpAny_seqItems Z2.to rfl (zW (wpAny_updateSeq_pair Z2.to fun g3 e3 t3=>zW (wpAny_letGo (zX ?_)))))
 have Z3:=Z2.put D (x:=x) (y:=b) e3 t3
 refine zW (zW (wpAny_onRaise (zW (m:=Builtin.SmallTypes.nextOf _) ?_)))
 cases hy:ys[q]? with
 | none=>exact nxtE hn Z3.wj Z3.sm hy fun g4 e k o=>stop Z3 (.inr rfl) (.inr hy) k o
 | some y =>
 refine nxt Z3.wj Z3.sm hy fun g4 e4 t4=>zX ?_
 have Z4:=Z3.snd D e4 t4
 refine zW (wpAny_seqItems Z4.to rfl (zW (wpAny_updateSeq_pair Z4.to fun g5 e5 t5=>zW (wpAny_letGo (zX (zX ?_))))))
 have Z5:=Z4.put D (x:=x) (y:=y) e5 t5
 refine zW (wpAny_seqItems Z5.to rfl (zW (wpAny_newTuple (zW (m:=Builtin.SmallTypes.ownedTupleHandOut _ _) ?_))))
 refine zW (wpAny_setField_rec (zV _ Z5.zo) (by simp) fun g6 e6 t6=>wpAny_setField_rec e6 (by simp) fun g7 e7 t7=>zX ⟨_,rfl,?_⟩)
 exact item x y g5 g7 hx hy Z5 e7 (t6.trans t7)
theorem nextZ{x y:Value}{Q:Option Value->Shared->Prop}(hn:A.handled=none)(D:ZipApart z TI TO i j l m)
  (qz:IsZip s.heap z TI TO .none) (qI:IsPair s.heap TI (.ref i) (.ref j)) (qO:IsPair s.heap TO a b)
  (p1:IsI b₁ s.heap i l p) (p2:IsI b₂ s.heap j m q) (r1:IsS b₁ s.heap l xs) (r2:IsS b₂ s.heap m ys) (ex:xs[p]?=some x) (ey:ys[q]?=some y)
  (kQ:∀g,IsZip g z TI TO (rawInt s.heap.objs.size)->IsPair g TO x y->IsI b₁ g i l (p+1)->IsI b₂ g j m (q+1)->IsPair g s.heap.objs.size x y->g.objs.size=s.heap.objs.size+1 ->
   (∀c o,c≠z->c≠TO->c≠i->c≠j->s.heap.get? c=some o->g.get? c=some o)->Q (some (.ref s.heap.objs.size)) { s with heap:=g }) :
  wpAny (model prog w) A (pyNext (.ref z)) Q E s:=by
 have ty:s.TypeIs (.ref z) "zip":=⟨_,qz,rfl⟩
 have Z:ZS b₁ b₂ s.heap s.heap z TI TO i j l m xs ys .none p q a b:=⟨qz,qI,qO,p1,p2,r1,r2,fun _ _ _ _ _ _ e=>e,rfl⟩
 refine zW (wpAny_attempt (wpAny_callSpecial?_slot (name:=Str.ofString "__next__") ty F.slot_zip_next (wpAny_call_entry F.slot_zip_next ty F.entry_zip_next (zipN hn D Z ?_ ?_) (F.args_zip_next_1 _))))
 ·intro x' y' g g' hx hy Y ez t
  rw[ex] at hx;rw[ey] at hy;cases hx;cases hy
  rw[Y.sz] at ez ⊢
  have lt:=zZ Y.zo
  have up:∀c o,c≠z->g.get? c=some o->g'.get? c=some o:=fun c o n e=>t.extBut _ _ n (zV _ e)
  refine zX (kQ g' ez (up _ _ D.TOz Y.to) (Y.wi.at fun o e=>up _ _ D.i1z e) (Y.wj.at fun o e=>up _ _ D.i2z e) ?_ (by rw[t.1,Heap.size_push,Y.sz]) fun c o n1 n2 n3 n4 e=>up c o n1 (Y.kp c o n1 n2 n3 n4 e))
  rw[<- Y.sz]
  exact t.extBut _ _ (Nat.ne_of_gt lt) (zY _ rfl)
 ·intro no
  rw[ex,ey] at no
  rcases no with no|no<;>cases no
theorem nextZE{Q:Option Value->Shared->Prop}(hn:A.handled=none)(D:ZipApart z TI TO i j l m)
  (qz:IsZip s.heap z TI TO .none) (qI:IsPair s.heap TI (.ref i) (.ref j)) (qO:IsPair s.heap TO a b)
  (p1:IsI b₁ s.heap i l p) (p2:IsI b₂ s.heap j m q) (r1:IsS b₁ s.heap l xs) (r2:IsS b₂ s.heap m ys) (ends:xs[p]?=none\/ys[q]?=none)
  (kQ:∀g,(∀c o,c≠z->c≠TO->c≠i->c≠j->s.heap.get? c=some o->g.get? c=some o)->Q none { s with heap:=g }):wpAny (model prog w) A (pyNext (.ref z)) Q E s:=by
 have ty:s.TypeIs (.ref z) "zip":=⟨_,qz,rfl⟩
 have Z:ZS b₁ b₂ s.heap s.heap z TI TO i j l m xs ys .none p q a b:=⟨qz,qI,qO,p1,p2,r1,r2,fun _ _ _ _ _ _ e=>e,rfl⟩
 refine zW (wpAny_attempt (wpAny_callSpecial?_slot (name:=Str.ofString "__next__") ty F.slot_zip_next (wpAny_call_entry F.slot_zip_next ty F.entry_zip_next (zipN hn D Z ?_ ?_) (F.args_zip_next_1 _))))
 ·intro x y g g' hx hy
  rw[hx,hy] at ends
  rcases ends with no|no<;>cases no
 ·rintro _ g e kp ⟨o,ho,ht⟩
  exact zW (wpAny_isInstance (T:="StopIteration") (b:=true) ⟨o,ho,ht⟩ isSubtype_stop (zX (kQ _ kp)))
end
noncomputable abbrev itO(b:Bool)(l:Addr):Obj:={ cls:=.type (if b then "tuple_iterator" else "list_iterator"),data:=.fields #[.ref l,.int 0 0] }
noncomputable abbrev z1(b:Bool)(h:Heap)(l:Addr):Heap:=h.push (itO b l)
noncomputable abbrev z2(b c:Bool)(h:Heap)(l m:Addr):Heap:=(z1 b h l).push (itO c m)
noncomputable abbrev z3(b c:Bool)(h:Heap)(l m:Addr):Heap:=(z2 b c h l m).push { cls:=.type "tuple",data:=.seq #[.ref h.objs.size,.ref (z1 b h l).objs.size] }
noncomputable abbrev z4(b c:Bool)(h:Heap)(l m:Addr):Heap:=(z3 b c h l m).push { cls:=.type "tuple",data:=.seq #[.none,.none] }
noncomputable abbrev z5(b c:Bool)(h:Heap)(l m:Addr):Heap:=(z4 b c h l m).push { cls:=.type "zip",data:=.fields #[.none,.bool false,.bool false,.ref (z2 b c h l m).objs.size,.ref (z3 b c h l m).objs.size] }
theorem IsS.push{b:Bool}{h:Heap}{l:Addr}{xs:Array Value}(x:IsS b h l xs)(o:Obj):IsS b (h.push o) l xs:=x.at fun o' e=>zV _ e
theorem new_zip(b c:Bool)(l m:Addr)(xs ys:Array Value):Meets (Builtin.«zip.__new__» ⟨[.type "zip",.ref l,.ref m],[]⟩) (fun _ R s=>IsS b s.heap l xs/\IsS c s.heap m ys/\R (.ok (.ret (.ref (z4 b c s.heap l m).objs.size))) { s with heap:=z5 b c s.heap l m }) :=
 .of_wp fun prog w A R s h=>by
  obtain⟨hp,g,d,tk,os⟩:=s;obtain⟨q1,q2,h⟩:=h
  have hsub:=sub_zip
  cases b<;>cases c
  ·have L1:Heap.IsList (Shared.heap ⟨hp,g,d,tk,os⟩) l xs:=q1
   have L2:Heap.IsList (Shared.heap ⟨hp.push { cls:=.type "list_iterator",data:=.fields #[.ref l,.int 0 0] },g,d,tk,os⟩) m ys:=IsS.push (b:=false) q2 _
   wp_walk using wpAny_pyIter_list L1,wpAny_pyIter_list L2
   exact⟨_,rfl,h⟩
  ·have L1:Heap.IsList (Shared.heap ⟨hp,g,d,tk,os⟩) l xs:=q1
   have L2:Heap.IsTuple (Shared.heap ⟨hp.push { cls:=.type "list_iterator",data:=.fields #[.ref l,.int 0 0] },g,d,tk,os⟩) m ys:=IsS.push (b:=true) q2 _
   wp_walk using wpAny_pyIter_list L1,wpAny_pyIter_tuple L2
   exact⟨_,rfl,h⟩
  ·have L1:Heap.IsTuple (Shared.heap ⟨hp,g,d,tk,os⟩) l xs:=q1
   have L2:Heap.IsList (Shared.heap ⟨hp.push { cls:=.type "tuple_iterator",data:=.fields #[.ref l,.int 0 0] },g,d,tk,os⟩) m ys:=IsS.push (b:=false) q2 _
   wp_walk using wpAny_pyIter_tuple L1,wpAny_pyIter_list L2
   exact⟨_,rfl,h⟩
  ·have L1:Heap.IsTuple (Shared.heap ⟨hp,g,d,tk,os⟩) l xs:=q1
   have L2:Heap.IsTuple (Shared.heap ⟨hp.push { cls:=.type "tuple_iterator",data:=.fields #[.ref l,.int 0 0] },g,d,tk,os⟩) m ys:=IsS.push (b:=true) q2 _
   wp_walk using wpAny_pyIter_tuple L1,wpAny_pyIter_tuple L2
   exact⟨_,rfl,h⟩
section
variable {prog:Program}{w:World}{A:Around}{E:Value->Shared->Prop}{s:Shared}
theorem isI_new{b:Bool}{h:Heap}{it l:Addr}(e:h.get? it=some (itO b l)):IsI b h it l 0:=by
 cases b
 ·exact⟨_,e,rfl,rfl⟩
 ·exact⟨_,e,rfl,rfl⟩
theorem call_zip{b c:Bool}{l m:Addr}{xs ys:Array Value}{Q:Value->Shared->Prop}(q1:IsS b s.heap l xs)(q2:IsS c s.heap m ys)
  (h:∀g,IsZip g (s.heap.objs.size+4) (s.heap.objs.size+2) (s.heap.objs.size+3) .none->IsPair g (s.heap.objs.size+2) (.ref s.heap.objs.size) (.ref (s.heap.objs.size+1))->IsPair g (s.heap.objs.size+3) .none .none ->
   IsI b g s.heap.objs.size l 0->IsI c g (s.heap.objs.size+1) m 0->(∀a o,s.heap.get? a=some o->g.get? a=some o)->Q (.ref (s.heap.objs.size+4)) { s with heap:=g }) :
  wpAny (model prog w) A (call (.type "zip") [.ref l,.ref m]) Q E s:=by
 refine callType_new F.called_zip (by decide) (F.typeCall_zip_2 _ _) (F.newCall_zip_2 _ _) (fun obj=>F.args_object_init_3 obj _ _) F.entry_zip_new (new_zip b c l m xs ys) ⟨q1,q2,?_⟩
 have n1:(z1 b s.heap l).objs.size=s.heap.objs.size+1:=Heap.size_push ..
 have n2:(z2 b c s.heap l m).objs.size=s.heap.objs.size+2:=by rw[Heap.size_push,n1]
 have n3:(z3 b c s.heap l m).objs.size=s.heap.objs.size+3:=by rw[Heap.size_push,n2]
 have n4:(z4 b c s.heap l m).objs.size=s.heap.objs.size+4:=by rw[Heap.size_push,n3]
 have g5:(z5 b c s.heap l m).get? (z4 b c s.heap l m).objs.size=some _:=zY _ rfl
 have g4:(z5 b c s.heap l m).get? (z3 b c s.heap l m).objs.size=some _:=zV _ (zY _ rfl)
 have g3:(z5 b c s.heap l m).get? (z2 b c s.heap l m).objs.size=some _:=zV _ (zV _ (zY _ rfl))
 have g2:(z5 b c s.heap l m).get? (z1 b s.heap l).objs.size=some (itO c m):=zV _ (zV _ (zV _ (zY _ rfl)))
 have g1:(z5 b c s.heap l m).get? s.heap.objs.size=some (itO b l):=zV _ (zV _ (zV _ (zV _ (zY _ rfl))))
 show _/\_
 rw[n2,n3,n4] at g5
 rw[n1,n2] at g3
 rw[n3] at g4
 rw[n1] at g2
 rw[n4]
 exact⟨⟨_,g5,rfl⟩,h _ g5 g3 g4 (isI_new g1) (isI_new g2) fun a o x=>zV _ (zV _ (zV _ (zV _ (zV _ x))))⟩
end
end Zp
namespace Dl
open PySem L2 PySem.Spec PyProof.Rows Zp
def uk(K:W.Frag)(b:Bool)(a:Addr)(H:Hp)(xs:List V):Prop:=match b with|true=>jA K H a xs|false=>i8 K H a xs
section
variable {X:Cx}{pins:List (Addr×Obj)}{σ:L2.St}{H:Hp}{s:Shared}{b:Bool}{a:Addr}{xs ys:List V}
theorem uk.src(I:Inv X pins σ H s)(h:uk X.K b a H xs):∃its:List Value,aM xs its/\IsS b s.heap a its.toArray/\xs.length<=sizeLine:=by
 cases b
 ·obtain⟨its,rv,pl,hz⟩:=I.list (show i8 X.K H a xs from h);exact⟨its,rv,pl.isList,hz⟩
 ·obtain⟨its,rv,pl,hz⟩:=I.tuple (show jA X.K H a xs from h);exact⟨its,rv,pl,hz⟩
theorem uk.ne(I:Inv X pins σ H s){c:Addr}(hf:cW X pins H c)(h:uk X.K b a H xs):a≠c:=by
 cases b
 ·exact Mc I hf h
 ·exact MZ I hf h
theorem uk.inj(I:Inv X pins σ H s)(h:uk X.K b a H xs)(h':uk X.K b a H ys):xs=ys:=by
 cases b
 ·exact I.list_inj h h'
 ·exact I.tuple_inj h h'
theorem uk.mono{K:W.Frag}{H H':Hp}(e:bo H H')(h:uk K b a H xs):uk K b a H' xs:=by
 cases b
 ·exact e.seq h
 ·exact aI e h
end
theorem Ds{P:Program}{w:World}{K:W.Frag}{elts:List Expr}{k:Nat}{pos:Pos}(b c:Bool)(l1 l2 z TI TO i1 i2:Addr)(Z:Q6 z TI TO i1 i2) :
  Turn P w K (.Tuple elts k pos) (Qk (uk K b l1) (uk K c l2)) [z,TI,TO,i1,i2] z (fun i h=>IsZip h z TI TO .none/\IsPair h TI (.ref i1) (.ref i2)/\(∃a b,IsPair h TO a b)/\IsI b h i1 l1 i/\IsI c h i2 l2 i) where
 mem:=by simp
 obj:=fun i h st d hd=>by
  obtain⟨hz,hTI,⟨a,b',hTO⟩,p1,p2⟩:=st
  simp only[zR,yG,or_false] at hd
  rcases hd with rfl|rfl|rfl|rfl|rfl
  ·exact⟨_,hz,fun v q=>by have q:Data.fields _=Data.cell v:=q;cases q⟩
  ·exact⟨_,hTI,fun v q=>by have q:Data.seq _ _=Data.cell v:=q;cases q⟩
  ·exact⟨_,hTO,fun v q=>by have q:Data.seq _ _=Data.cell v:=q;cases q⟩
  ·exact p1.obj
  ·exact p2.obj
 keep:=fun i h h' st kk=>by
  obtain⟨hz,hTI,⟨a,b',hTO⟩,h1,h2⟩:=st
  exact⟨kk z (by simp) _ hz,kk TI (by simp) _ hTI,⟨a,b',kk TO (by simp) _ hTO⟩,h1.at fun o q=>kk i1 (by simp) o q,h2.at fun o q=>kk i2 (by simp) o q⟩
 item:=by
  intro X hP hw hK hc i pins s σ H E I hf st hg
  subst hP hw hK
  obtain⟨xs,ys,x,y,hq1,hq2,hx,hy⟩:=hg
  obtain⟨its1,rv1,p1,hz1⟩:=hq1.src I
  obtain⟨its2,rv2,p2,hz2⟩:=hq2.src I
  obtain⟨u1,hu1,ru1⟩:=rv1.get hx
  obtain⟨u2,hu2,ru2⟩:=rv2.get hy
  have D:ZipApart z TI TO i1 i2 l1 l2:=⟨Z.a1,Z.a2,Z.a3,Z.a4,Z.a5,Z.a6,Z.a7,Z.a8,Z.a9,Z.a0,hq1.ne I (hf z (by simp)),hq1.ne I (hf TO (by simp)),hq1.ne I (hf i1 (by simp)),hq1.ne I (hf i2 (by simp)),hq2.ne I (hf z (by simp)),hq2.ne I (hf TO (by simp)),hq2.ne I (hf i1 (by simp)),hq2.ne I (hf i2 (by simp))⟩
  obtain⟨hz,hTI,⟨a,b',hTO⟩,h1,h2⟩:=st
  refine nextZ (I.ok.hd hc) D hz hTI hTO h1 h2 p1 p2 (x:=u1) (y:=u2) (by simpa using hu1) (by simpa using hu2) fun g b1 b2 b3 b4 b5 b6 hk=>⟨.ref s.heap.objs.size,rfl,?_⟩
  have lt:∀ {c:Addr}{o:Obj},s.heap.get? c=some o->s.heap.objs.size≠c:=fun e=>Nat.ne_of_gt (zZ e)
  refine wpAny_letOwnedTupleGo_zip (s:={ s with heap:=g }) b1 fun g' hz' hs'=>?_
  have b5':g'.get? s.heap.objs.size=some { cls:=.type "tuple",data:=.seq #[u1,u2] }:=hs'.extBut _ _ (lt hz) b5
  have ht:rJ g' s.heap.objs.size (List.toArray [u1,u2]):=⟨⟨_,b5',rfl,_,rfl⟩,_,b5',rfl⟩
  refine⟨.ref s.heap.objs.size,_,zk (ch:=[z,TI,TO,i1,i2]) (xs:=[x,y]) (t':=s.toks) I hf (fun b o hb q=>?_) (Nat.le_refl _) ht (.cons ru1 (.cons ru2 .nil)) (by show 2<=sizeLine;decide),rfl,
   ⟨s.heap.objs.size,x,y,rfl,I.fresh,rfl,fun zs hzs=>by rw[hzs.inj I hq1];exact hx,fun zs hzs=>by rw[hzs.inj I hq2];exact hy⟩,
   ⟨hz',hs'.extBut _ _ Z.a1 (hk _ _ D.TIz D.TITO D.TIi1 D.TIi2 hTI),⟨_,_,hs'.extBut _ _ Z.a2 b2⟩,b3.extBut hs'.extBut Z.a3,b4.extBut hs'.extBut Z.a4⟩,fun b hb=>?_⟩
  ·simp only[zR,yG,or_false,not_or] at hb
   exact hs'.extBut _ _ hb.1 (hk b o hb.1 hb.2.2.1 hb.2.2.2.1 hb.2.2.2.2 q)
  ·have:s.heap.objs.size≠b:=by
    simp only[zR,yG,or_false] at hb
    obtain⟨o1,g1,_⟩:=h1.obj
    obtain⟨o2,g2,_⟩:=h2.obj
    rcases hb with rfl|rfl|rfl|rfl|rfl
    ·exact lt hz
    ·exact lt hTI
    ·exact lt hTO
    ·exact lt g1
    ·exact lt g2
   rw[aL (Ne.symm this)]
   exact (hf b hb).1
 done:=by
  intro X hP hw hK hc i pins s σ H E I hf st hg
  subst hP hw hK
  obtain⟨xs,ys,hq1,hq2,hx⟩:=hg
  obtain⟨its1,rv1,p1,hz1⟩:=hq1.src I
  obtain⟨its2,rv2,p2,hz2⟩:=hq2.src I
  have D:ZipApart z TI TO i1 i2 l1 l2:=⟨Z.a1,Z.a2,Z.a3,Z.a4,Z.a5,Z.a6,Z.a7,Z.a8,Z.a9,Z.a0,hq1.ne I (hf z (by simp)),hq1.ne I (hf TO (by simp)),hq1.ne I (hf i1 (by simp)),hq1.ne I (hf i2 (by simp)),hq2.ne I (hf z (by simp)),hq2.ne I (hf TO (by simp)),hq2.ne I (hf i1 (by simp)),hq2.ne I (hf i2 (by simp))⟩
  obtain⟨hz,hTI,⟨a,b',hTO⟩,h1,h2⟩:=st
  have e1:=rv1.length
  have e2:=rv2.length
  refine nextZE (I.ok.hd hc) D hz hTI hTO h1 h2 p1 p2 (hx.elim (fun q=>.inl (by simp;omega)) fun q=>.inr (by simp;omega)) fun g hk=>⟨rfl,?_⟩
  refine DD (ch:=[z,TI,TO,i1,i2]) (t':=s.toks) I hf fun b o hb q=>?_
  simp only[zR,yG,or_false,not_or] at hb
  exact hk b o hb.1 hb.2.2.1 hb.2.2.2.1 hb.2.2.2.2 q
 self:=fun _ _ _ _ _ st h=>wpAny_pyIter_zip st.1 h
section
variable {X:Cx}{l l':Expr}{fs:Env->Option (List D)}{elts:List Expr}{k:Nat}{pos p tp:Pos}
theorem IU{tl:TA}(B:pA X "zip" (.type "zip"))(ha:PA X [l,l'] tl)(hs:starEach [l,l'] X.env=(false,eval l X.env)::starEach [l'] X.env)(hs2:(backTo pos (starEach [l'] X.env)).any (·.1)=false) :
  PI X (.Tuple elts k tp) (.Call (.Name "zip" p) [l,l'] [] pos) (fun σ H R=>tl σ H fun vs H1=>∃a b,vs=[.ref a,.ref b]/\∃c d xs ys,uk X.K c a H1 xs/\uk X.K d b H1 ys/\R (Qk (uk X.K c a) (uk X.K d b)) H1):=by
 intro pins s σ H R I h
 refine Call_ (j6 I B.gl B.mg B.bt (PyProof.Rows.callWith_type1 (cK (ha pos pins s σ H _ I h) fun us s1 ⟨vs,H1,I1,r1,q1⟩=>?_) hs hs2))
 obtain⟨a,b,e,c,d,xs,ys,hq1,hq2,q⟩:=q1
 subst e
 obtain⟨u,u',rfl,rx,ry⟩:=vals2 r1
 cases rx
 cases ry
 obtain⟨its,rv,pl,hz⟩:=hq1.src I1
 obtain⟨its',rv',pl',hz'⟩:=hq2.src I1
 refine call_zip pl pl' fun g b1 b2 b3 b4 b5 kp=>wpAny_pyIter_zip (s:={ s1 with heap:=g }) b1 ?_
 refine⟨_,_,_,_,H1,rfl,I1.kept (t':=s1.toks) kp,Ds c d a b (s1.heap.objs.size+4) (s1.heap.objs.size+2) (s1.heap.objs.size+3) s1.heap.objs.size (s1.heap.objs.size+1) ?_,⟨b1,b2,⟨_,_,b3⟩,b4,b5⟩,fun c hc=>?_,q⟩
 ·constructor<;>(intro z;have z:(_:Nat)=_:=z;omega)
 ·have hge:s1.heap.objs.size<=c:=by
   simp only[zR,yG,or_false] at hc
   rcases hc with rfl|rfl|rfl|rfl|rfl
   ·exact Nat.le_add_right _ _
   ·exact Nat.le_add_right _ _
   ·exact Nat.le_add_right _ _
   ·exact Nat.le_refl _
   ·exact Nat.le_add_right _ _
  exact I1.fpOk hge (I1.hok.fresh hge)
noncomputable def Od:List D->Option (List D):=fun ds=>match ds with
 | [x,y]=>(iF x).bind fun xs=>(iF y).map fun ys=>kh xs ys
 | _=>none
theorem Ao{K:W.Frag}{HF:Hp}{d:D}{v:V}{xs:List D}(h:iF d=some xs)(r:Rep K HF d v):∃b a vs,v=.ref a/\uk K b a HF vs/\aw K HF xs vs:=by
 rcases mE h with rfl|rfl
 ·simp only[Rep] at r
  obtain⟨a,vs,rfl,q,rr⟩:=r
  exact⟨true,a,vs,rfl,q,rr⟩
 ·simp only[Rep] at r
  obtain⟨a,vs,rfl,q,rr⟩:=r
  exact⟨false,a,vs,rfl,q,rr⟩
noncomputable def gP(fs:Env->Option (List D)):Env->Option (List D):=fun ρ=>(fs ρ).bind Od
theorem Jg(B:pA X "zip" (.type "zip"))(hs:starEach [l,l'] X.env=(false,eval l X.env)::starEach [l'] X.env)(hs2:(backTo pos (starEach [l'] X.env)).any (·.1)=false)(h:DA X [l,l'] fs) :
  DI X (.Tuple elts k tp) (.Call (.Name "zip" p) [l,l'] [] pos) (gP fs) :=
 vo (IU B h hs hs2) fun σ H R ⟨HF,ρ,ds,sm,eo,hf,q⟩=>by
  obtain⟨x,hx,hf⟩:=bs hf
  refine⟨HF,ρ,_,sm,eo,hx,fun vs H1 HF1 g1 r1=>?_⟩
  unfold Od at hf
  split at hf
  ·obtain⟨xs,h1,hf⟩:=bs hf
   obtain⟨ys,h2,rfl⟩:=ag hf
   obtain⟨v,r',rfl,a,b⟩:=r1.cons_inv
   obtain⟨v',r'',rfl,a',b'⟩:=b.cons_inv
   rw[b'.nil_inv]
   obtain⟨c,ad,us,rfl,hq,rr⟩:=Ao h1 a
   obtain⟨c',ad',us',rfl,hq',rr'⟩:=Ao h2 a'
   exact⟨ad,ad',rfl,c,c',us,us',hq.mono g1.fh,hq'.mono g1.fh,q _ H1 HF1 g1 (E8 hq (fun _ _ s h=>h.mono s) hq' (fun _ _ s h=>h.mono s) rr rr')⟩
  ·cases hf
end
end Dl
namespace Zp
open PySem PyProof.Rows
theorem IsI.ne{b:Bool}{h:Heap}{it l:Addr}{k:Nat}{xs:Array Value}(x:IsI b h it l k)(y:IsS b h l xs):l≠it:=by
 rintro rfl
 cases b
 ·obtain⟨o,e,c,d⟩:=(show h.IsListIter l l k from x)
  obtain⟨o',e',r⟩:=(show h.IsList l xs from y)
  rw[e] at e';cases e'
  simp_all
 ·obtain⟨o,e,c,d⟩:=(show h.IsTupleIter l l k from x)
  obtain⟨o',e',r⟩:=(show h.IsTuple l xs from y)
  rw[e] at e';cases e'
  simp_all
section
variable {prog:Program}{w:World}{A:Around}{E:Value->Shared->Prop}{s:Shared}
theorem drawsI(hn:A.handled=none)(b:Bool)(it l:Addr)(xs:Array Value):Draws prog w A it [it,l] xs.size (fun i x=>xs[i]?=some x) (fun i h=>IsI b h it l i/\IsS b h l xs) where
 live:=fun i h st=>let ⟨o,e,_⟩:=st.1.obj;⟨o,e⟩
 frame:=fun i h h' st k=>⟨st.1.at (k it (by simp)),st.2.at (k l (by simp))⟩
 item:=fun i s Q E hi st hQ=>nxt st.1 st.2 (v:=xs[i]) (by simp[hi]) fun g e t=>hQ _ g s.toks (by simp[hi]) ⟨e,st.2.extBut t.extBut (st.1.ne st.2)⟩ t
 done:=fun s Q E st hE=>nxtE hn st.1 st.2 (by simp) hE
theorem nextE{b₁:Bool}{e it l:Addr}{i:Nat}{items:Array Value}{x old:Value}{Q:Option Value->Shared->Prop}(hn:A.handled=none)
  (qe:IsEnum s.heap e it i old) (qi:IsI b₁ s.heap it l i) (ql:IsS b₁ s.heap l items) (ex:items[i]?=some x) (nei:e≠it)
  (kQ:∀g tk,IsEnumOut g e it ((i:Int)+1) x s.heap.objs.size->IsI b₁ g it l (i+1)->g.get? s.heap.objs.size=some { cls:=.type "tuple",data:=.seq #[.int i tk,x] } ->
   g.objs.size=s.heap.objs.size+1->(∀c o,c≠e->c≠it->s.heap.get? c=some o->g.get? c=some o)->Q (some (.ref s.heap.objs.size)) { s with heap:=g,toks:=tk+1 }) :
  wpAny (model prog w) A (pyNext (.ref e)) Q E s:=by
 have nel:e≠l:=by
  rintro rfl
  cases b₁
  ·obtain⟨o,e1,r⟩:=(show s.heap.IsList e items from ql)
   rw[qe] at e1;cases e1;simp at r
  ·obtain⟨o,e1,r⟩:=(show s.heap.IsTuple e items from ql)
   rw[qe] at e1;cases e1;simp at r
 have D:Draws prog w A.in1 it [it,l] items.size (fun i x=>items[i]?=some x) (fun i h=>IsI b₁ h it l i/\IsS b₁ h l items):=drawsI (A:=A.in1) hn b₁ it l items
 refine wpAny_pyNext_enum_itemD D qe ⟨qi,ql⟩ (Array.getElem?_eq_some_iff.mp ex).1 nei (by simp[nei,nel]) fun y g tk hy a b c d k=>?_
 rw[ex] at hy;cases hy
 exact kQ g tk a b.1 c d k
end
end Zp
namespace Dl
open PySem L2 PySem.Spec PyProof.Rows Zp
theorem qM{P:Program}{w:World}{K:W.Frag}{elts:List Expr}{k:Nat}{pos:Pos}(b:Bool)(a it e:Addr)(hei:e≠it):Turn P w K (.Tuple elts k pos) (PD (uk K b a)) [e,it] e (fun i h=>(∃old,IsEnum h e it i old)/\IsI b h it a i) where
 mem:=by simp
 obj:=fun i h st c hc=>by
  obtain⟨⟨old,he⟩,hi⟩:=st
  rcases zR.mp hc with z|z
  ·subst z;exact⟨_,he,fun v q=>by have q:Data.fields _=Data.cell v:=q;cases q⟩
  ·rw[yL.mp z];exact hi.obj
 keep:=fun i h h' st kk=>⟨let ⟨old,he⟩:=st.1;⟨old,kk e (by simp) _ he⟩,st.2.at fun o q=>kk it (by simp) o q⟩
 item:=by
  intro X hP hw hK hc i pins s σ H E I hf st hg
  subst hP hw hK
  obtain⟨xs,x,hq,hx⟩:=hg
  obtain⟨its,rv,p,hz⟩:=hq.src I
  obtain⟨u,hu,ru⟩:=rv.get hx
  obtain⟨⟨old,he⟩,hi⟩:=st
  refine nextE (I.ok.hd hc) he hi p (x:=u) (by simpa using hu) hei fun g tk b1 b2 b3 b4 hk=>⟨.ref s.heap.objs.size,rfl,?_⟩
  have lt:∀ {c:Addr}{o:Obj},s.heap.get? c=some o->s.heap.objs.size≠c:=fun e=>Nat.ne_of_gt (zZ e)
  have hte:s.heap.objs.size≠e:=lt he
  refine wpAny_letOwnedTupleGo_enum (s:={ s with heap:=g,toks:=tk+1 }) b1 fun g' he' hs'=>?_
  have b3':g'.get? s.heap.objs.size=some { cls:=.type "tuple",data:=.seq #[.int i tk,u] }:=hs'.extBut _ _ hte b3
  have ht:rJ g' s.heap.objs.size (List.toArray [Value.int (i:Nat) tk,u]):=⟨⟨_,b3',rfl,_,rfl⟩,_,b3',rfl⟩
  refine⟨.ref s.heap.objs.size,_,zk (ch:=[e,it]) (xs:=[.int (i:Nat),x]) (t':=tk+1) I hf (fun c o hb q=>?_) (Nat.le_refl _) ht (.cons ⟨_,rfl⟩ (.cons ru .nil)) (by show 2<=sizeLine;decide),rfl,
   ⟨s.heap.objs.size,x,rfl,I.fresh,rfl,fun zs hzs=>by rw[hzs.inj I hq];exact hx⟩,⟨⟨_,he'⟩,b2.extBut hs'.extBut (Ne.symm hei)⟩,fun c hc'=>?_⟩
  ·simp only[zR,yG,or_false,not_or] at hb
   exact hs'.extBut _ _ hb.1 (hk c o hb.1 hb.2 q)
  ·have:s.heap.objs.size≠c:=by
    simp only[zR,yG,or_false] at hc'
    obtain⟨o1,g1,_⟩:=hi.obj
    rcases hc' with rfl|rfl
    ·exact lt he
    ·exact lt g1
   rw[aL (Ne.symm this)]
   exact (hf c hc').1
 done:=by
  intro X hP hw hK hc i pins s σ H E I hf st hg
  subst hP hw hK
  obtain⟨xs,hq,hx⟩:=hg
  obtain⟨its,rv,p,hz⟩:=hq.src I
  have hh:X.A.in1.handled=none:=I.ok.hd hc
  have hl:=rv.length
  obtain⟨⟨old,he⟩,hi⟩:=st
  have hT:s.TypeIs (.ref e) "enumerate":=⟨_,he,rfl⟩
  unfold pyNext
  refine zW (wpAny_attempt (wpAny_callSpecial?_slot (name:=Str.ofString "__next__") hT F.slot_enumerate_next (wpAny_call_entry F.slot_enumerate_next hT F.entry_enumerate_next ?_ (F.args_enumerate_next_1 _))))
  refine zW (m:=field (.ref e) 2) (wpAny_field he rfl (x:=.ref it) rfl ?_)
  refine zW (nxtE hh hi p (by simp;omega) fun h1 x k1 hx1=>?_)
  obtain⟨o,ho,hc1⟩:=hx1
  refine zW (wpAny_isInstance (T:="StopIteration") (b:=true) ⟨o,ho,hc1⟩ isSubtype_stop (zX ⟨rfl,?_⟩))
  obtain⟨f0,f1,f2,f3,f4,f5⟩:=hf it (by simp)
  exact I.turned (t':=s.toks) (fun b o hb q=>k1 b o hb q) f0 f1 f3 f4 f5
 self:=fun _ _ _ _ _ st h=>let ⟨_,he⟩:=st.1;wpAny_pyIter_enum he h
section
variable {X:Cx}{l:Expr}{f:Env->Option D}{fs:Env->Option (List D)}{elts:List Expr}{k:Nat}{pos p tp:Pos}
theorem Km{tl:TA}(B:pA X "enumerate" (.type "enumerate"))(ha:PA X [l] tl)(hs:starEach [l] X.env=[(false,eval l X.env)]):PI X (.Tuple elts k tp) (.Call (.Name "enumerate" p) [l] [] pos) (fun σ H R=>tl σ H fun vs H1=>∃a,vs=[.ref a]/\∃b xs,uk X.K b a H1 xs/\R (PD (uk X.K b a)) H1):=by
 intro pins s σ H R I h
 refine Call_ (j6 I B.gl B.mg B.bt (PyProof.Rows.callWith_type1 (cK (ha pos pins s σ H _ I h) fun us s1 ⟨vs,H1,I1,r1,q1⟩=>?_) hs rfl))
 obtain⟨a,e,b,xs,hq,q⟩:=q1
 subst e
 obtain⟨u,rfl,rx⟩:=vals1 r1
 cases rx
 have fresh:∀b∈[s1.heap.objs.size+1,s1.heap.objs.size],cW X pins H1 b:=fun b hb=>by
  rcases zR.mp hb with z|z
  ·subst z;exact I1.fpOk (Nat.le_succ _) (I1.hok.fresh (Nat.le_succ _))
  ·cases yL.mp z;exact I1.fpOk (Nat.le_refl _) I1.fresh
 obtain⟨its,rv,pl,hz⟩:=hq.src I1
 cases b with
 | false =>
  refine call_enumerate_list pl fun h' he hit hsz kp=>wpAny_pyIter_enum (s:={ s1 with heap:=h' }) he ?_
  exact⟨_,_,_,_,H1,rfl,I1.kept (t':=s1.toks) kp,qM false a s1.heap.objs.size (s1.heap.objs.size+1) (Nat.succ_ne_self _),⟨⟨_,he⟩,hit⟩,fresh,q⟩
 | true =>
  refine En.call_enumT (show s1.heap.IsTuple a its.toArray from pl) fun h' he hit hsz kp=>wpAny_pyIter_enum (s:={ s1 with heap:=h' }) he ?_
  exact⟨_,_,_,_,H1,rfl,I1.kept (t':=s1.toks) kp,qM true a s1.heap.objs.size (s1.heap.objs.size+1) (Nat.succ_ne_self _),⟨⟨_,he⟩,hit⟩,fresh,q⟩
noncomputable def bN(fs:Env->Option (List D)):Env->Option (List D):=fun ρ=>(fs ρ).bind fun ds=>(dN ds).map (bL 0)
theorem Kp(B:pA X "enumerate" (.type "enumerate"))(h:DA X [l] fs)(hs:starEach [l] X.env=[(false,eval l X.env)]):DI X (.Tuple elts k tp) (.Call (.Name "enumerate" p) [l] [] pos) (bN fs) :=
 vo (Km B h hs) fun σ H R ⟨HF,ρ,ds,sm,eo,hf,q⟩=>by
  obtain⟨x,hx,hf⟩:=bs hf
  obtain⟨es,h1,rfl⟩:=ag hf
  obtain⟨d,h0,h1⟩:=bs h1
  rw[hZ h0] at hx
  refine⟨HF,ρ,_,sm,eo,hx,fun vs H1 HF1 g1 r1=>?_⟩
  obtain⟨v,r',rfl,a,b⟩:=r1.cons_inv
  rw[b.nil_inv]
  obtain⟨c,ad,us,rfl,hq,rr⟩:=Ao h1 a
  exact⟨ad,rfl,c,us,hq.mono g1.fh,q _ H1 HF1 g1 (DM hq (fun _ _ s h=>h.mono s) rr)⟩
end
end Dl
namespace Srt
open PySem PySem.W PySem.Calls PyProof.Rows L2
theorem cW.at{X:Cx}{pins:List (Addr×Obj)}{H H':Hp}{b:Addr}(h:cW X pins H b)(e:H' b=none):cW X pins H' b:=⟨e,h.2⟩
section
variable {X:Cx}{pins:List (Addr×Obj)}{σ:L2.St}{H:Hp}{s:Shared}{A:Around}{E:Value->Shared->Prop}
theorem upd_inv{b:Addr}{g:Array Value->Array Value}(I:Inv X pins σ H s)(f:cW X pins H b):Inv X pins σ H { s with heap:=s.heap.update b (Obj.mapSeq g) }:=by
 obtain⟨f0,f1,f2,f3,f4,f5⟩:=f
 exact I.turned (t':=s.toks) (h':=s.heap.update b (Obj.mapSeq g)) (fun c o hc e=>(Heap.get?_update_other _ _ (Ne.symm hc)).trans e) f0 f1 f3 f4 f5
theorem pin_get{fp:List Addr}{h:Heap}{b:Addr}{o:Obj}{H':Hp}{s':Shared}(I:Inv X (pins++oe fp h) σ H' s')(hb:b∈fp)(e:h.get? b=some o):s'.heap.get? b=some o/\H' b=none :=
 let q:=I.pin (b,o) (yF _ (yF _ (ej hb e)));⟨q.1,q.2.1⟩
theorem list_sortK{a:Addr}{f:Value}{vs:List Value}{n:Nat}{P:PySem.Fin->Shared->Prop}(I:Inv X pins σ H s)(ho:s.heap.get? a=some (seqObj "list" vs.toArray n))(fa:cW X pins H a)(h64:vs.length < 64)
  (J:List Value->Hp->Prop) (j0:J [] H)
  (step:∀us v,vs[us.length]?=some v->∀pl s' H',Inv X (pins++pl) σ H' s'->J us H'->wpAny (model X.prog X.w) A (call f [v]) (fun u s''=>∃H'',Inv X (pins++pl) σ H'' s''/\J (us++[u]) H'') (fun _ _=>False) s')
  (fin:∀us H',us.length=vs.length->J us H'->∃ (z:Nat->Int) (κ:SortKind),(2<=vs.length->∀s',Inv X pins σ H' s'->(∀Q':SortKind->Shared->Prop,Q' κ s'->wpAny (model X.prog X.w) A (keyKind' us.toArray) Q' (fun _ _=>False) s') /\
    ∀i j C,i < vs.length->j < vs.length->C (SP.ft z i j) s'->kas_ask X.prog X.w A κ us i j C s') /\
   ∀s' c,Inv X pins σ H' s'->cW X pins H' a->s'.heap.get? a=some (seqObj "list" (outV z vs).toArray c)->P (.done (.ret .none)) s') :
  wpAny (model X.prog X.w) A (ksk_tree a f false) P E s:=by
 have hsl:vs.length<=sizeLine:=by rw[sizeLine_eq];omega
 unfold ksk_tree
 refine zW (listItems_at ho rfl ?_)
 refine zW (listUpdate_at ho rfl ?_ (by simpa using hsl) (Nat.zero_le _))
 obtain⟨e1,ho1⟩:∃e,(s.heap.update a (Obj.mapSeq fun _=>(#[]:Array Value))).get? a=some (seqObj "list" #[] e):=⟨_,get?_update_seq ho fun _=>#[]⟩
 have I1:=upd_inv (g:=fun _=>(#[]:Array Value)) I fa
 refine zW (seqEpoch_at ho1 rfl ?_)
 refine zW (wpAny_newTuple ?_ (by simpa using hsl))
 refine zW (wpAny_newList ?_ (Nat.zero_le _))
 refine wpAny_holding ?_
 have ho3:(((s.heap.update a (Obj.mapSeq fun _=>(#[]:Array Value))).push (seqObj "tuple" vs.toArray 0)).push (seqObj "list" #[] 0)).get? a=some (seqObj "list" #[] e1):=zV _ (zV _ ho1)
 have hk3:(((s.heap.update a (Obj.mapSeq fun _=>(#[]:Array Value))).push (seqObj "tuple" vs.toArray 0)).push (seqObj "list" #[] 0)).get? ((s.heap.update a (Obj.mapSeq fun _=>(#[]:Array Value))).push (seqObj "tuple" vs.toArray 0)).objs.size=some (seqObj "list" #[] 0):=zY _ rfl
 have I3:=(I1.kept (t':=s.toks) (h':=((s.heap.update a (Obj.mapSeq fun _=>(#[]:Array Value))).push (seqObj "tuple" vs.toArray 0)).push (seqObj "list" #[] 0)) fun b o e=>zV _ (zV _ e))
 have I2:=(I1.kept (t':=s.toks) (h':=(s.heap.update a (Obj.mapSeq fun _=>(#[]:Array Value))).push (seqObj "tuple" vs.toArray 0)) fun b o e=>zV _ e)
 have fk:cW X pins H ((s.heap.update a (Obj.mapSeq fun _=>(#[]:Array Value))).push (seqObj "tuple" vs.toArray 0)).objs.size:=I2.fpOk (Nat.le_refl _) (I2.hok.fresh (Nat.le_refl _))
 have hka:((s.heap.update a (Obj.mapSeq fun _=>(#[]:Array Value))).push (seqObj "tuple" vs.toArray 0)).objs.size≠a:=by
  have hlt:=zZ ho1
  rw[Heap.size_push]
  exact Nat.ne_of_gt (Nat.lt_succ_of_lt hlt)
 show wpAny _ A _ P E { s with heap:=((s.heap.update a (Obj.mapSeq fun _=>(#[]:Array Value))).push (seqObj "tuple" vs.toArray 0)).push (seqObj "list" #[] 0) }
 generalize ((s.heap.update a (Obj.mapSeq fun _=>(#[]:Array Value))).push (seqObj "tuple" vs.toArray 0)).objs.size=kS at hk3 fk hka
 generalize e3:({ s with heap:=((s.heap.update a (Obj.mapSeq fun _=>(#[]:Array Value))).push (seqObj "tuple" vs.toArray 0)).push (seqObj "list" #[] 0) }:Shared)=s3 at I3
 have ho3:s3.heap.get? a=some (seqObj "list" #[] e1):=by rw[<- e3];exact ho3
 have hk3:s3.heap.get? kS=some (seqObj "list" #[] 0):=by rw[<- e3];exact hk3
 clear e3 I2 I1 ho1 ho
 unfold ksk_rest
 refine zW (wpAny_rule ?_)
 first
  | rw[List.forIn_toArray]
  | (rw[<- Array.forIn_toList];simp only[List.toList_toArray])
  | rw[<- Array.forIn_toList]
 refine zW (ksk_fold (fun i s'=>∃us H' e,us.length=i/\Inv X pins σ H' s'/\H' a=none/\H' kS=none/\s'.heap.get? a=some (seqObj "list" #[] e1)/\s'.heap.get? kS=some (seqObj "list" us.toArray e)/\J us H') vs 0 s3
  ⟨[],H,0,rfl,I3,fa.1,fk.1,ho3,hk3,j0⟩ ?step ?done)
 case step =>
  rintro j x s' hx ⟨us,H',e,hu,I',ha',hk',hoa,hok,j'⟩
  have hu:us.length=j:=by omega
  have hj:j < vs.length:=(zU.mp hx).1
  have Ip:=I'.pinned (fp:=[a,kS]) (fun b hb=>by
   rcases zR.mp hb with rfl|hb
   ·exact cW.at fa ha'
   ·rw[yL.mp hb];exact cW.at fk hk') (fun b hb=>by
   rcases zR.mp hb with rfl|hb
   ·exact⟨_,hoa,fun v z=>by cases z⟩
   ·rw[yL.mp hb];exact⟨_,hok,fun v z=>by cases z⟩)
  refine zW (wpAny_attempt (wpAny_mono (step us x (by rw[hu];exact hx) _ s' H' Ip j') (fun u s'' he=>?_) fun _ _ hF=>hF.elim))
  obtain⟨H'',I'',j''⟩:=he
  try dsimp only
  obtain⟨ga,na⟩:=pin_get I'' (b:=a) zE hoa
  obtain⟨gk,nk⟩:=pin_get I'' (b:=kS) (zC _ zE) hok
  have I4:=I''.unpinned
  obtain⟨c2,hc2⟩:∃c2,(s''.heap.update kS (Obj.mapSeq (·.push u))).get? kS=some (seqObj "list" (us.toArray.push u) c2):=⟨_,get?_update_seq gk (·.push u)⟩
  refine zW (listUpdate_at gk rfl ?_ (by rw[zH,sizeLine_eq];omega) (yE (Nat.le_of_eq (Array.size_push ..)) (by rw[zH,sizeLine_eq];omega)))
  refine zX ⟨rfl,us++[u],H'',c2,by rw[zN,hu];simp,upd_inv I4 (cW.at fk nk),na,nk,(Heap.get?_update_other _ _ hka).trans ga,?_,j''⟩
  rw[hc2]
  simp
 case done =>
  rintro s' ⟨us,H',e,hu,I',ha',hk',hoa,hok,j'⟩
  have hu:us.length=vs.length:=by omega
  try dsimp only
  refine zW (listItems_at hok rfl ?_)
  obtain⟨z,κ,hz,hP⟩:=fin us H' hu j'
  have last:∀st':SortSt,(arrOf st').map (·.2)=(outV z vs).toArray->failedOf st'=none->wpAny (model X.prog X.w) A (ksk_tail a false e1 (.ref kS) st') P E s':=fun st' h1 h2=>by
   unfold ksk_tail
   try dsimp only
   rw[h1,h2]
   have na1:(s'.heap.update kS (Obj.mapSeq fun _=>(#[]:Array Value))).get? a=some (seqObj "list" #[] e1):=(Heap.get?_update_other _ _ hka).trans hoa
   have I5:=upd_inv (g:=fun _=>(#[]:Array Value)) I' (cW.at fk hk')
   have I6:=upd_inv (s:={ s' with heap:=s'.heap.update kS (Obj.mapSeq fun _=>(#[]:Array Value)) }) (g:=fun _=>(outV z vs).toArray) I5 (cW.at fa ha')
   refine zW (listUpdate_at hok rfl ?_ (by rw[zH,sizeLine_eq];omega) (Nat.zero_le _))
   refine zW (wpAny_letGo ?_)
   refine zW (seqEpoch_at na1 rfl ?_)
   refine zW (listUpdate_at na1 rfl ?_ (Nat.zero_le _) (by
    simp only[Bool.false_eq_true,if_false]
    show (outV z vs).toArray.size<=_;rw[zH,outV_len];omega))
   obtain⟨c,hc⟩:∃c,((s'.heap.update kS (Obj.mapSeq fun _=>(#[]:Array Value))).update a (Obj.mapSeq fun _=>(outV z vs).toArray)).get? a=some (seqObj "list" (outV z vs).toArray c):=⟨_,get?_update_seq na1 fun _=>(outV z vs).toArray⟩
   simp only[bne_self_eq_false,Bool.false_eq_true,if_false]
   exact zX (hP _ c I6 (cW.at fa ha') hc)
  unfold ksk_end
  try dsimp only
  simp only[Bool.false_eq_true,if_false]
  by_cases h2:vs.toArray.size < 2
  ·rw[if_pos h2,if_pos h2]
   refine zW (zX ?_)
   rw[StateT.run_pure]
   refine zW (zX (last _ ?_ rfl))
   have h2':vs.length < 2:=by simpa using h2
   unfold outV
   rw[if_pos h2']
   show ((us.toArray.zip vs.toArray).map (·.2))=vs.toArray
   apply Array.toList_inj.mp
   simp only[Array.toList_map,Array.toList_zip]
   exact List.map_snd_zip (by rw[hu];exact Nat.le_refl _)
  ·rw[if_neg h2,if_neg h2]
   have h2':2<=vs.length:=by
    have:¬ vs.length < 2:=by simpa using h2
    omega
   obtain⟨hk,hlt⟩:=hz h2' s' I'
   refine zW (wpAny_mono (hk (fun κ' s''=>κ'=κ/\s''=s') ⟨rfl,rfl⟩) (fun κ' s'' hs=>?_) fun _ _ x=>x.elim)
   obtain⟨rfl,rfl⟩:=hs
   refine zW (wpAny_mono (kat_run (Q:=fun st' s2=>s2=s''/\(arrOf st').map (·.2)=(outV z vs).toArray/\failedOf st'=none) (G:=fun p s2=>s2=s''/\p=SP.run (SP.ft z) (kas_sort vs.length))
    hu h2' h64 (fun p st' s2 a1 a2 a3 a4=>⟨a4.1,?_,a3⟩) (SP.wp_run hlt (kas_sort vs.length) (SP.GO (by omega)) ⟨rfl,rfl⟩)) ?_ fun _ _ e=>e)
   ·rw[kat_snds hu a2,a4.2]
    unfold outV
    rw[if_neg (by omega)]
   ·rintro⟨⟨⟩,st'⟩ s2 ⟨hs,h4,h5⟩
    subst hs
    exact last st' h4 h5
theorem sortedK{l:Value}{f:Addr}{vs:List Value}{Q:Value->Shared->Prop}(I:Inv X pins σ H s)(h64:vs.length < 64)
  (hcol:∀ {Q':List Value->Shared->Prop},(∀h':Heap,(∀b o,s.heap.get? b=some o->h'.get? b=some o)->Q' vs { s with heap:=h' })->wpAny (model X.prog X.w) A.in1 (collect l) Q' E s)
  (J:List Value->Hp->Prop) (j0:J [] H)
  (step:∀us v,vs[us.length]?=some v->∀pl s' H',Inv X (pins++pl) σ H' s'->J us H'->wpAny (model X.prog X.w) A.in1.in1 (call (.ref f) [v]) (fun u s''=>∃H'',Inv X (pins++pl) σ H'' s''/\J (us++[u]) H'') (fun _ _=>False) s')
  (fin:∀us H',us.length=vs.length->J us H'->∃ (z:Nat->Int) (κ:SortKind),(2<=vs.length->∀s',Inv X pins σ H' s'->(∀Q':SortKind->Shared->Prop,Q' κ s'->wpAny (model X.prog X.w) A.in1.in1 (keyKind' us.toArray) Q' (fun _ _=>False) s') /\
    ∀i j C,i < vs.length->j < vs.length->C (SP.ft z i j) s'->kas_ask X.prog X.w A.in1.in1 κ us i j C s') /\
   ∀s' D c,Inv X pins σ H' s'->cW X pins H' D->s'.heap.get? D=some (seqObj "list" (outV z vs).toArray c)->Q (.ref D) s') :
  wpAny (model X.prog X.w) A (call (.builtin "sorted") [l] [(Str.ofString "key",.ref f)]) Q E s:=by
 have hsl:vs.length<=sizeLine:=by rw[sizeLine_eq];omega
 refine call_function_entry_kw kind_sorted plain_sorted entry_sorted (ksk_s1 _ _) ?_
 unfold Builtin.«sorted»
 refine zW (m:=checkCount "sorted" 1 1 _) (zX (zW (hcol fun h1 kp=>?_)))
 refine zW (wpAny_newList ?_ (by simpa using hsl))
 have I1:=I.kept (t':=s.toks) kp
 have fD:cW X pins H h1.objs.size:=I1.fpOk (Nat.le_refl _) (I1.hok.fresh (Nat.le_refl _))
 have hoD:(h1.push (seqObj "list" vs.toArray 0)).get? h1.objs.size=some (seqObj "list" vs.toArray 0):=zY _ rfl
 have I2:=I1.kept (t':=s.toks) (h':=h1.push (seqObj "list" vs.toArray 0)) fun b o e=>zV _ e
 show wpAny _ _ _ _ _ { s with heap:=h1.push (seqObj "list" vs.toArray 0) }
 refine zW (wpAny_holding (wpAny_call_entry_kw slot_list_sort ⟨_,hoD,rfl⟩ entry_list_sort ?body (ksk_l1 _ _)))
 case body =>
  show wpAny (model X.prog X.w) A.in1.in1 (Builtin.«list.sort» ⟨[.ref h1.objs.size],[(Str.ofString "key",.ref f)]⟩) _ _ _
  rw[ksk_t1]
  refine list_sortK I2 hoD fD h64 J j0 step fun us H' hu j'=>?_
  obtain⟨z,κ,hz,hP⟩:=fin us H' hu j'
  exact⟨z,κ,hz,fun s' c I' f' e=>⟨_,rfl,zX ⟨_,rfl,hP s' _ c I' f' e⟩⟩⟩
end
end Srt
namespace Dl
open PySem L2 PySem.Spec PyProof.Rows
theorem _root_.L2.Inv.track{X:Cx}{pins:List (Addr×Obj)}{σ:L2.St}{H:Hp}{s:Shared}{b:Addr}{o:HO}(I:Inv X pins σ H s)(f:cW X pins H b)(ho:fY X.prog X.w (upd H b o) s.heap b o):Inv X pins σ (upd H b o) s:=by
 obtain⟨f0,f1,f2,f3,f4,f5⟩:=f
 have up:∀c u,H c=some u->upd H b o c=some u:=fun c u e=>by rw[aL (aU e f0)];exact e
 refine⟨I.ok,I.os,I.bare,⟨I.base.keep,I.base.slot,fun c oc e n hx=>?_,I.base.there,fun c xs e=>up c _ (I.base.tups c xs e),fun c oc u e=>up c _ (I.base.frzs c oc u e),⟨fun c u e t=>up c u (I.base.tbls.st c u e t),I.base.tbls.gr⟩⟩,I.loc,I.cell,?_,fun x c e=>?_,fun p hp=>?_,fun c u e=>?_,I.len⟩
 ·have hne:c≠b:=fun z=>by
   rcases f3 with g|g
   ·exact hx (z ▸ g)
   ·exact absurd (zP (zZ e) (z ▸ g)) (Nat.lt_irrefl _)
  rw[aL hne];exact I.base.free c oc e n hx
 ·rw[aL (Ne.symm f1)];exact I.free
 ·rw[aL (f4 x c e)];exact I.freeC x c e
 ·obtain⟨e,n,r⟩:=I.pin p hp
  exact⟨e,by rw[aL (f5 p hp)];exact n,r⟩
 ·by_cases hc:c=b
  ·subst hc;rw[aO] at e;cases e;exact ho
  ·rw[aL hc] at e
   exact (I.hok c u e).stay (fun d w _ q=>q) (fun d q=>up d _ q) fun d w q _=>up d _ q
noncomputable def o9(scope:Scope)(N':List Str)(p:Str):Bool:=scope.names.all (fun q=>!decide (q.2=NameKind.cell))&&decide (N'[0]?=some p)&&decide (scope.names.lookup p=some .local)&&decide (scope.isCoroutine=false)&&decide (scope.isGenerator=false)
section
variable {X:Cx}{N:List Str}{sc:Scope}{k:Nat}
theorem HI{scope:Scope}{N':List Str}{p qual:Str}{A:Around}{f c:Addr}{s:Shared}{H:Hp}(C:Bk X N sc (k+3))(hA:eS (k+1) A)(hk:scope.kind=.function)(hnd:N'.Nodup)(hl:o9 scope N' p=true):Bk (iD X A qual scope N' f c s H) N' scope k where
 n:=rfl
 nd:=hnd
 tb:=fun x kd hx=>.inl hx
 calm:=rfl
 fn:=fun x hx=>by
  unfold o9 at hl
  simp only[zF,List.all_eq_true,Bool.not_eq_true',decide_eq_false_iff_not] at hl
  exact absurd rfl (hl.1.1.1.1 _ (mem_of_lookup hx))
 room:=hA.deeper _
 xe:=rfl
 kd:=hk
structure qp(X:Cx)(qual:Str):Prop where
 ex:∃c P,X.env.code=.ref c/\X.env.qual++"<lambda>"=qual/\W.codeHdIn X.K c P=true/\∀HF,gZ X.K HF->HF P=some (.tab qual)
noncomputable def jg(te:Env->Option D)(ρ:Env):List D->Option (List D)
 | []=>some []
 | d::ds=>(te (ρ.set 0 (some d))).bind fun x=>(jg te ρ ds).map (x::·)
theorem og{te:Env->Option D}{ρ:Env}:∀ {ds ks:List D},jg te ρ ds=some ks->ks.length=ds.length
 | [],ks,h=>by cases h;rfl
 | d'::ds,ks,h=>by
  unfold jg at h
  obtain⟨y,h1,h⟩:=bs h
  obtain⟨ys,h2,rfl⟩:=ag h
  simp[og h2]
theorem qG{te:Env->Option D}{ρ:Env}:∀ {ds ks:List D}{i:Nat}{d:D},jg te ρ ds=some ks->ds[i]?=some d->∃x,te (ρ.set 0 (some d))=some x/\ks[i]?=some x
 | [],ks,i,d,h,e=>by simp at e
 | d'::ds,ks,i,d,h,e=>by
  unfold jg at h
  obtain⟨y,h1,h⟩:=bs h
  obtain⟨ys,h2,rfl⟩:=ag h
  cases i with
  | zero=>simp at e;subst e;exact⟨y,h1,rfl⟩
  | succ i=>obtain⟨x,a,b⟩:=qG h2 (by simpa using e);exact⟨x,a,by simpa using b⟩
noncomputable def oD(cs:List Nat)(fl te:Env->Option D):Env->Option (List D):=fun ρ=>(fl ρ).bind fun l=>match l with
 | .list ds=>(jg te (fS 1 cs ρ) ds).bind fun ks=>(intsOf ks).bind fun zs=>if ds.length < 64 then some (qj (fun i=>zs.getD i 0) ds .none) else none
 | _=>none
theorem xJ{K:W.Frag}{HF:Hp}{ρ:Env}{σ:L2.St}{cs:List Nat}{d:D}{v:V}(eo:dm K HF ρ σ)(r:Rep K HF d v):dm K HF ((fS 1 cs ρ).set 0 (some d)) ((lh 1 cs σ).set 0 (some v)):=kf (Cv eo) r
theorem nO{K:W.Frag}{HF:Hp}:∀ {ks:List D}{zs:List Int}{kvs:List V}{us:List Value},intsOf ks=some zs->aw K HF ks kvs->aM kvs us->IntsAre us zs
 | [],zs,kvs,us,h,r,v=>by
  cases h
  rw[r.nil_inv] at v
  cases v
  exact .nil
 | d::ks,zs,kvs,us,h,r,v=>by
  cases d<;>simp only[intsOf] at h<;>try cases h
  rename_i i
  obtain⟨ys,h2,rfl⟩:=ag h
  obtain⟨w,ws,rfl,a,b⟩:=r.cons_inv
  simp only[Rep] at a
  subst a
  cases v with
  | cons r1 r2 =>
   obtain⟨t,rfl⟩:=r1
   exact .cons i t (nO h2 b r2)
theorem j3:∀ {us:List Value}{zs:List Int}{i:Nat},IntsAre us zs->i < us.length->∃t,us.getD i Value.none=.int (zs.getD i 0) t
 | _,_,i,.nil,h=>by simp at h
 | _,_,0,.cons n t r,h=>⟨t,rfl⟩
 | _,_,i+1,.cons n t r,h=>by
  obtain⟨t',e⟩:=j3 (i:=i) r (by simpa using h)
  exact⟨t',by simpa using e⟩
variable {l body:Expr}{fl te:Env->Option D}{params:Arguments}{scope:Scope}{lpos pos p0 kpos:Pos}{N':List Str}{cs:List Nat}{p qual:Str}
theorem Bk.sortK(C:Bk X N sc (k+3))(B:pA X "sorted" (.builtin "sorted"))(L:qp X qual)(ok:jO sc scope N N' 1 cs=true)(hl:o9 scope N' p=true)
  (hb:∀ (cl:List (Str×Addr)) (pm ctv u:Value) (c:Addr),bindArgs (W.kla_fn "<lambda>" qual params body scope cl pm (.ref c) ctv) ⟨[u],[]⟩=pure [(p,u)]) (hdef:defaultsOf params X.env=([],[])) (h:DE X l fl)
  (hY:∀A f c s H,Bk (iD X A qual scope N' f c s H) N' scope k->DE (iD X A qual scope N' f c s H) body te)
  (hst:starEach [l] X.env=(false,eval l X.env)::starEach [] X.env) (he:backTo pos (starEach [l] X.env)=(false,eval l X.env)::backTo pos (starEach [] X.env)) (hpl:(backTo pos (starEach [l] X.env)).any (·.1)=false) :
  DF X (.Call (.Name "sorted" p0) [l] [⟨some "key",.Lambda params body scope lpos,kpos⟩] pos) (oD cs fl te):=by
 obtain⟨S,_⟩:=C.comp ok
 have hnd:N'.Nodup:=by
  unfold jO at ok
  simp only[zF,zJ] at ok
  exact ok.2
 have hl':=hl
 unfold o9 at hl'
 simp only[zF,List.all_eq_true,Bool.not_eq_true',decide_eq_false_iff_not,zJ] at hl'
 obtain⟨⟨⟨⟨hnc,hN0⟩,hp⟩,hco⟩,hgen⟩:=hl'
 obtain⟨cc,P,hcode,hqual,hhd,fQ⟩:=L.ex
 intro pins s σ H Q I ⟨HF,ρ,out,sm,eo,hf,q⟩
 obtain⟨ld,hld,hf⟩:=bs hf
 cases ld<;>try cases hf
 rename_i ds
 obtain⟨ks,hks,hf⟩:=bs hf
 obtain⟨zs,hzs,hf⟩:=bs hf
 split at hf<;>cases hf
 rename_i h64
 refine wpAny_Call_Name_kw (j6 I B.gl B.mg B.bt ?_ (by decide) (by decide))
 refine PyProof.Rows.callWith_kw (e:=l) (rest:=[]) (kws:=[⟨some "key",.Lambda params body scope lpos,kpos⟩]) ?_ he hpl rfl rfl
 refine cK (BV h E2 hst pos pins s σ H _ I ⟨HF,ρ,[.list ds],sm,eo,by simp[aa,ae,hld],fun vs H1 HF1 g1 r1=>(⟨HF1,g1,r1⟩:∃HF1,cC HF H HF1 H1/\aw X.K HF1 [.list ds] vs)⟩) fun us s1 ⟨vs,H1,I1,rv,HF1,g1,r1⟩=>?_
 obtain⟨v,vr,rfl,a1,b1⟩:=r1.cons_inv
 rw[b1.nil_inv] at rv
 obtain⟨u,rfl,rx⟩:=vals1 rv
 simp only[Rep] at a1
 obtain⟨la,ws,rfl,hq,rr⟩:=a1
 cases rx
 have hT1:H1 P=some (.tab qual):=g1.fh _ _ (fQ HF1 (eo.tb.mono g1.ff))
 show wpAny _ _ (evalAll ((do let v <- eval (.Lambda params body scope lpos) X.env;standAt pos;pure v)::[])) _ _ s1
 refine wpAny_evalAll_cons (zW ?_)
 refine y2 (P:=P) I1 S hqual hcode (W.codeHd_of_K I1.ok.mod.kin hhd) hT1 I1.ok.mod.bmd hdef fun f c' pm ctv s2 H2 I2 hfo hfn hcod s12 fp2 _=>?_
 refine zW (wpAny_standAt (zX (wpAny_evalAll_nil ?_)))
 show wpAny _ _ (call (.builtin "sorted") [.ref la] [(Str.ofString "key",.ref f)]) _ _ s2
 have Ip:=I2.pinned (fp:=[f]) (fun b hb=>by rw[yL.mp hb];exact fp2) (fun b hb=>by rw[yL.mp hb];exact⟨_,hfo,fun v z=>by cases z⟩)
 have g2:cC HF1 H1 HF1 H2:=⟨s12,.refl _,g1.fh.trans s12,fun _ _ e=>.inl e⟩
 obtain⟨its,rvi,pl,hz⟩:=Ip.list (s12.seq (g1.fh.seq hq))
 have hlen:its.length=ds.length:=by rw[<- rvi.length,rr.length]
 have hkl:=og hks
 have hR:eS (k+1) X.A.in1.in1:=C.room.in1.in1
 refine Srt.sortedK (vs:=its) Ip (by omega) (fun {Q'} hQ=>?_) (fun us H'=>∃HF' kvs,cC HF1 H2 HF' H'/\aw X.K HF' (ks.take us.length) kvs/\aM kvs us) ⟨HF1,[],.refl g2.fh,by simpa using aw.nil,.nil⟩ (fun us x hx pl' s3 H3 I3 ⟨HF3,kvs,g3,rk,rvk⟩=>?_) fun us H3 hu ⟨HF3,kvs,g3,rk,rvk⟩=>?_
 ·refine collect_list pl.isList (hQ _ fun b o e=>?_) (by rw[sizeLine_eq];omega)
  exact (Heap.get?_update_other _ _ (Nat.ne_of_gt (zZ e))).trans (zV _ e)
 ·have hi:us.length < its.length:=(zU.mp hx).1
  obtain⟨w,hw⟩:∃w,ws[us.length]?=some w:=⟨_,zK (by rw[rvi.length];exact hi)⟩
  obtain⟨x',hx',rw'⟩:=rvi.get hw
  rw[hx] at hx'
  cases hx'
  obtain⟨d,hd,rd⟩:=rr.get hw
  obtain⟨kd,hkd,hki⟩:=qG hks hd
  have hfo3:s3.heap.get? f=some (W.kla_obj "<lambda>" qual params body scope (e8 X.env scope.names []) pm c' ctv) :=
   (I3.pin (f,_) (yF _ (List.mem_append_left _ (yF _ (ej zE hfo))))).1
  refine wpAny_mono (xK (Q:=fun v H4=>∃HF4,cC HF3 H3 HF4 H4/\Rep X.K HF4 kd v) (te:=tD X.K te) I3 hR I3.ok.frames S hnc hN0 hp hnd hco hgen hfo3 (g3.hh _ _ hcod) (hb _ _ _ _ _) rw' (hY _ _ _ _ _ (HI C hR S.kind hnd hl))
   ⟨HF3,_,kd,g3.fh,xJ (eo.mono (g1.ff.trans g3.ff)) (rd.mono g3.ff),hkd,fun v H4 HF4 g4 r4=>⟨HF4,g4,r4⟩⟩) (fun u s4 ⟨v4,H4,I4,r4,HF4,g4,rp⟩=>⟨H4,I4,HF4,kvs++[v4],g3.trans g4,?_,rvk.append (.cons r4 .nil)⟩) fun _ _ e=>e
  rw[zN,List.length_singleton,List.take_add_one,hki]
  exact (rk.mono g4.ff).append (aw.cons rp aw.nil)
 ·have hk':ks.take us.length=ks:=List.take_of_length_le (by omega)
  rw[hk'] at rk
  have ia:=nO hzs rk rvk
  refine⟨fun i=>zs.getD i 0,oneType',fun h2 s3 I3=>⟨fun Q' q'=>?_,fun i j Cc hi hj q'=>?_⟩,fun s3 Dn c I3 fD e=>?_⟩
  ·rw[PyProof.Rows.ksk_kind (keys:=us.toArray) (kz:=zs) (by simpa using ia) (by simpa [hu] using h2)]
   exact zX q'
  ·obtain⟨t1,e1⟩:=j3 ia (i:=i) (by omega)
   obtain⟨t2,e2⟩:=j3 ia (i:=j) (by omega)
   unfold W.kas_ask
   rw[e1,e2]
   exact W.kat_lt_int q'
  ·have hv:=rS (fun i=>zs.getD i 0) rvi
   have hr:=rq (fun i=>zs.getD i 0) rr
   have hnD:H3 Dn=none:=fD.1
   have I4:=Inv.track (o:=.lst (qj (fun i=>zs.getD i 0) ws .non)) I3 fD ⟨by rw[(hC _ _ _).length_eq];exact hz,_,c,hv,e⟩
   have G:=(g1.trans g2).trans g3
   refine⟨.ref Dn,_,I4.unpinned,rfl,q Dn _ _ HF3 (G.trans (.own G.fh hnD)) (G.hh.free hnD) (G.fh.free hnD) aO (hr.mono g3.ff)⟩
end
end Dl
namespace Srt
open PySem PySem.W PySem.Calls PyProof.Rows L2
section
variable {prog:Program}{w:World}{A:Around}{E:Value->Shared->Prop}{s:Shared}
theorem iadd_rng{R:Result->Shared->Prop}{r S:Addr}{a b c:Int}{t u v:Tok}{n:Nat}(hh:A.handled=none)(hr:IsRange s.heap r a b c t u v)(hsmall:Builtin.Range.small a b c=true)(hn:Builtin.Range.rangeSize a b c=n)(hlen:n<=2 ^ 24)
  (hS:s.heap.get? S=some { cls:=.type "list",data:=.seq #[] })
  (hR:∀h' tk acc' c',(∀b o,b≠S->s.heap.get? b=some o->h'.get? b=some o)->h'.get? S=some { cls:=.type "list",dict:=none,data:=.seq acc' c',slots:=#[] } ->
   ItemsOf (fun i v=>∃t,v=.int (a+i * c) t) acc' n->R (.ok (.ret (.ref S))) { s with heap:=h',toks:=tk }):codeAny (model prog w) A (.builtin "list.__iadd__" ⟨[.ref S,.ref r],[]⟩) R s:=by
 refine codeAny_builtin entry_list_iadd' ?_
 rw[Around.under_plainId (by decide +kernel:plainId "list.__iadd__"=true) _]
 exact wpAny_extend_range (A:=A) hh hr hsmall hn hlen S (.ref S) _ hS hR
theorem collect_rng{r:Addr}{a b c:Int}{t u v:Tok}{n:Nat}{Q:List Value->Shared->Prop}(hh:A.handled=none)(hr:IsRange s.heap r a b c t u v)(hsmall:Builtin.Range.small a b c=true)(hn:Builtin.Range.rangeSize a b c=n)(hlen:n<=2 ^ 24)
  (h:∀h' tk acc,(∀b o,s.heap.get? b=some o->h'.get? b=some o)->ItemsOf (fun i v=>∃t,v=.int (a+i * c) t) acc n->Q acc.toList { s with heap:=h',toks:=tk }):wpAny (model prog w) A (collect (.ref r)) Q E s:=by
 unfold collect
 refine zW (wpAny_runValue (codeAny_builtin entry_proto_collect' ?_))
 rw[Around.under_plainId (by decide +kernel:plainId "proto.collect"=true) _]
 show wpAny _ A.in1 (newList [] >>= fun l=>again (.builtin "list.__iadd__" ⟨[l,.ref r],[]⟩)) _ _ s
 refine zW (wpAny_newObj_type ?_)
 have hS:(s.heap.push { cls:=.type "list",data:=.seq #[] }).get? s.heap.objs.size=some { cls:=.type "list",data:=.seq #[] }:=zY _ rfl
 refine zX ⟨plainId_quiet (by decide +kernel) _,iadd_rng (s:={ s with heap:=s.heap.push { cls:=.type "list",data:=.seq #[] } }) hh (zV _ hr) hsmall hn hlen hS fun h' tk acc' c' hk hS' hacc=>?_⟩
 show wpAny _ A (load s.heap.objs.size >>= _) _ _ _
 refine zW (wpAny_load hS' ?_)
 exact zX (h h' tk acc' (fun b o e=>hk b o (Nat.ne_of_lt (zZ e)) (zV _ e)) hacc)
end
section
variable {X:Cx}{pins:List (Addr×Obj)}{σ:L2.St}{H:Hp}{s:Shared}{A:Around}{E:Value->Shared->Prop}
theorem sortedR{l:Value}{f:Addr}{PV:List Value->Prop}{Q:Value->Shared->Prop}(I:Inv X pins σ H s)
  (hcol:∀ {Q':List Value->Shared->Prop},(∀ (h':Heap) (tk:Nat) (vs:List Value),PV vs->(∀b o,s.heap.get? b=some o->h'.get? b=some o)->Q' vs { s with heap:=h',toks:=tk })->wpAny (model X.prog X.w) A.in1 (collect l) Q' E s)
  (rest:∀vs,PV vs->vs.length < 64/\∃J:List Value->Hp->Prop,J [] H /\
   (∀us v,vs[us.length]?=some v->∀pl s' H',Inv X (pins++pl) σ H' s'->J us H'->wpAny (model X.prog X.w) A.in1.in1 (call (.ref f) [v]) (fun u s''=>∃H'',Inv X (pins++pl) σ H'' s''/\J (us++[u]) H'') (fun _ _=>False) s') /\
   (∀us H',us.length=vs.length->J us H'->∃ (z:Nat->Int) (κ:SortKind),(2<=vs.length->∀s',Inv X pins σ H' s'->(∀Q':SortKind->Shared->Prop,Q' κ s'->wpAny (model X.prog X.w) A.in1.in1 (keyKind' us.toArray) Q' (fun _ _=>False) s') /\
    ∀i j C,i < vs.length->j < vs.length->C (SP.ft z i j) s'->kas_ask X.prog X.w A.in1.in1 κ us i j C s') /\
   ∀s' D c,Inv X pins σ H' s'->cW X pins H' D->s'.heap.get? D=some (seqObj "list" (outV z vs).toArray c)->Q (.ref D) s')) :
  wpAny (model X.prog X.w) A (call (.builtin "sorted") [l] [(Str.ofString "key",.ref f)]) Q E s:=by
 refine call_function_entry_kw kind_sorted plain_sorted entry_sorted (ksk_s1 _ _) ?_
 unfold Builtin.«sorted»
 refine zW (m:=checkCount "sorted" 1 1 _) (zX (zW (hcol fun h1 tk vs hv kp=>?_)))
 obtain⟨h64,J,j0,step,fin⟩:=rest vs hv
 have hsl:vs.length<=sizeLine:=by rw[sizeLine_eq];omega
 refine zW (wpAny_newList ?_ (by simpa using hsl))
 have I1:=I.kept (t':=tk) kp
 have fD:cW X pins H h1.objs.size:=I1.fpOk (Nat.le_refl _) (I1.hok.fresh (Nat.le_refl _))
 have hoD:(h1.push (seqObj "list" vs.toArray 0)).get? h1.objs.size=some (seqObj "list" vs.toArray 0):=zY _ rfl
 have I2:=I1.kept (t':=tk) (h':=h1.push (seqObj "list" vs.toArray 0)) fun b o e=>zV _ e
 show wpAny _ _ _ _ _ { s with heap:=h1.push (seqObj "list" vs.toArray 0),toks:=tk }
 refine zW (wpAny_holding (wpAny_call_entry_kw slot_list_sort ⟨_,hoD,rfl⟩ entry_list_sort ?body (ksk_l1 _ _)))
 case body =>
  show wpAny (model X.prog X.w) A.in1.in1 (Builtin.«list.sort» ⟨[.ref h1.objs.size],[(Str.ofString "key",.ref f)]⟩) _ _ _
  rw[ksk_t1]
  refine list_sortK I2 hoD fD h64 J j0 step fun us H' hu j'=>?_
  obtain⟨z,κ,hz,hP⟩:=fin us H' hu j'
  exact⟨z,κ,hz,fun s' c I' f' e=>⟨_,rfl,zX ⟨_,rfl,hP s' _ c I' f' e⟩⟩⟩
end
end Srt
namespace Dl
open PySem L2 PySem.Spec PyProof.Rows
noncomputable def rN(n:Nat):List D:=(List.range n).map fun i=>PyData.int ((i:Nat):Int)
noncomputable def qx(cs:List Nat)(fs:Env->Option (List D))(te:Env->Option D):Env->Option (List D):=fun ρ=>(fs ρ).bind fun l=>match l with
 | [.int n]=>if 0<=n/\n < 64 then (jg te (fS 1 cs ρ) (rN n.toNat)).bind fun ks=>(rowsOf ks).map fun nss=>qj (fun i=>rk nss (nss.getD i [])) (rN n.toNat) .none else none
 | _=>none
theorem uy:∀ {vs:List Value}{k:Nat},(∀i v,vs[i]?=some v->∃t,v=Value.int ((k+i:Nat):Int) t)->aM ((List.range' k vs.length).map fun i=>V.int ((i:Nat):Int)) vs
 | [],k,_=>.nil
 | v::vs,k,h=>by
  rw[zL,List.range'_succ,zI]
  obtain⟨t,e⟩:=h 0 v rfl
  refine .cons ⟨t,by simpa using e⟩ (uy fun i u hu=>?_)
  obtain⟨t',e'⟩:=h (i+1) u (by simpa using hu)
  exact⟨t',by rw[e'];congr 1;omega⟩
theorem uu{K:W.Frag}{HF:Hp}:∀ (l:List Nat),aw K HF (l.map fun i=>PyData.int ((i:Nat):Int)) (l.map fun i=>V.int ((i:Nat):Int))
 | []=>aw.nil
 | i::l=>aw.cons (by simp[Rep]) (uu l)
section
variable {X:Cx}{N:List Str}{sc:Scope}{k:Nat}
variable {e body:Expr}{fs:Env->Option (List D)}{te:Env->Option D}{params:Arguments}{scope:Scope}{lpos pos p0 kpos rpos p1:Pos}{N':List Str}{cs:List Nat}{p qual:Str}
theorem Bk.sortR(C:Bk X N sc (k+3))(B:pA X "sorted" (.builtin "sorted"))(BR:pA X "range" (.type "range"))(L:qp X qual)(ok:jO sc scope N N' 1 cs=true)(hl:o9 scope N' p=true)
  (hb:∀ (cl:List (Str×Addr)) (pm ctv u:Value) (c:Addr),bindArgs (W.kla_fn "<lambda>" qual params body scope cl pm (.ref c) ctv) ⟨[u],[]⟩=pure [(p,u)]) (hdef:defaultsOf params X.env=([],[])) (h:DA X [e] fs)
  (hY:∀A f c s H,Bk (iD X A qual scope N' f c s H) N' scope k->DE (iD X A qual scope N' f c s H) body te)
  (hsR:starEach [e] X.env=[(false,eval e X.env)])
  (hst:starEach [.Call (.Name "range" p1) [e] [] rpos] X.env=(false,eval (.Call (.Name "range" p1) [e] [] rpos) X.env)::starEach [] X.env) (he:backTo pos (starEach [.Call (.Name "range" p1) [e] [] rpos] X.env)=(false,eval (.Call (.Name "range" p1) [e] [] rpos) X.env)::backTo pos (starEach [] X.env)) (hpl:(backTo pos (starEach [.Call (.Name "range" p1) [e] [] rpos] X.env)).any (·.1)=false) :
  DF X (.Call (.Name "sorted" p0) [.Call (.Name "range" p1) [e] [] rpos] [⟨some "key",.Lambda params body scope lpos,kpos⟩] pos) (qx cs fs te):=by
 obtain⟨S,_⟩:=C.comp ok
 have hnd:N'.Nodup:=by
  unfold jO at ok
  simp only[zF,zJ] at ok
  exact ok.2
 have hl':=hl
 unfold o9 at hl'
 simp only[zF,List.all_eq_true,Bool.not_eq_true',decide_eq_false_iff_not,zJ] at hl'
 obtain⟨⟨⟨⟨hnc,hN0⟩,hp⟩,hco⟩,hgen⟩:=hl'
 obtain⟨cc,P,hcode,hqual,hhd,fQ⟩:=L.ex
 intro pins s σ H Q I ⟨HF,ρ,out,sm,eo,hf,q⟩
 obtain⟨ld,hld,hf⟩:=bs hf
 obtain⟨n,rfl⟩:∃n,ld=[.int n]:=by
  split at hf
  ·exact⟨_,rfl⟩
  ·cases hf
 simp only at hf
 split at hf
 rotate_left
 ·cases hf
 rename_i h64
 obtain⟨ks,hks,hf⟩:=bs hf
 obtain⟨nss,hns,rfl⟩:=ag hf
 obtain⟨hkr,hne⟩:=lj hns
 refine wpAny_Call_Name_kw (j6 I B.gl B.mg B.bt ?_ (by decide) (by decide))
 refine PyProof.Rows.callWith_kw (e:=.Call (.Name "range" p1) [e] [] rpos) (rest:=[]) (kws:=[⟨some "key",.Lambda params body scope lpos,kpos⟩]) ?_ he hpl rfl rfl
 rw[he]
 refine Calls.spliced_cons ?_
 refine Call_ (j6 I BR.gl BR.mg boot_range (PyProof.Rows.callWith_type1 (cK (h rpos pins s σ H _ I ⟨HF,ρ,[.int n],sm,eo,hld,fun vs H1 HF1 g1 r1=>(⟨HF1,g1,r1⟩:∃HF1,cC HF H HF1 H1/\aw X.K HF1 [.int n] vs)⟩) fun us s1 ⟨vs,H1,I1,rv,HF1,g1,r1⟩=>?_) hsR rfl))
 obtain⟨v,vr,rfl,a1,b1⟩:=r1.cons_inv
 rw[b1.nil_inv] at rv
 obtain⟨u,rfl,rx⟩:=vals1 rv
 simp only[Rep] at a1
 subst a1
 obtain⟨t,rfl⟩:=rx
 refine call_range_1 ?_
 refine Calls.spliced_nil ?_
 obtain⟨hn0,hn64⟩:=h64
 have I1':=I1.kept (t':=s1.toks+1+1) (h':=s1.heap.push { cls:=Value.type "range",data:=Data.fields #[Value.int 0 s1.toks,Value.int n t,Value.int 1 (s1.toks+1)] }) fun b o e=>zV _ e
 have hro:(s1.heap.push { cls:=Value.type "range",data:=Data.fields #[Value.int 0 s1.toks,Value.int n t,Value.int 1 (s1.toks+1)] }).get? s1.heap.objs.size=some { cls:=Value.type "range",data:=Data.fields #[Value.int 0 s1.toks,Value.int n t,Value.int 1 (s1.toks+1)] }:=zY _ rfl
 have Ir:=I1'.pinned (fp:=[s1.heap.objs.size]) (fun b hb=>by rw[yL.mp hb];exact I1.fpOk (Nat.le_refl _) I1.fresh) (fun b hb=>by rw[yL.mp hb];exact⟨_,hro,fun v z=>by cases z⟩)
 have hT1:H1 P=some (.tab qual):=g1.fh _ _ (fQ HF1 (eo.tb.mono g1.ff))
 show wpAny _ _ (evalAll ((do let v <- eval (.Lambda params body scope lpos) X.env;standAt pos;pure v)::[])) _ _ _
 refine wpAny_evalAll_cons (zW ?_)
 refine y2 (P:=P) Ir S hqual hcode (W.codeHd_of_K Ir.ok.mod.kin hhd) hT1 Ir.ok.mod.bmd hdef fun f c' pm ctv s2 H2 I2 hfo hfn hcod s12 fp2 _=>?_
 refine zW (wpAny_standAt (zX (wpAny_evalAll_nil ?_)))
 show wpAny _ _ (call (.builtin "sorted") [.ref s1.heap.objs.size] [(Str.ofString "key",.ref f)]) _ _ s2
 have hr2:IsRange s2.heap s1.heap.objs.size 0 n 1 s1.toks t (s1.toks+1):=(Srt.pin_get I2 zE hro).1
 have Ip:=I2.pinned (fp:=[f]) (fun b hb=>by rw[yL.mp hb];exact fp2) (fun b hb=>by rw[yL.mp hb];exact⟨_,hfo,fun v z=>by cases z⟩)
 have g2:cC HF1 H1 HF1 H2:=⟨s12,.refl _,g1.fh.trans s12,fun _ _ e=>.inl e⟩
 have hkl:=og hks
 have hnl:(rN n.toNat).length=n.toNat:=by simp[rN]
 have hR:eS (k+1) X.A.in1.in1:=C.room.in1.in1
 refine Srt.sortedR (PV:=fun vs=>vs.length=n.toNat/\∀i v,vs[i]?=some v->∃t,v=Value.int ((i:Nat):Int) t) Ip (fun {Q'} hQ=>?_) fun its ⟨hil,hiv⟩=>⟨by omega,fun us H'=>∃HF' kvs,cC HF1 H2 HF' H'/\aw X.K HF' (ks.take us.length) kvs/\aM kvs us,⟨HF1,[],.refl g2.fh,by simpa using aw.nil,.nil⟩,fun us x hx pl' s3 H3 I3 ⟨HF3,kvs,g3,rk,rvk⟩=>?_,fun us H3 hu ⟨HF3,kvs,g3,rk,rvk⟩=>?_⟩
 ·refine Srt.collect_rng (n:=n.toNat) C.room.in1.hd hr2 (small_one (by omega) (by omega) (by omega) (by omega)) (by rw[rangeSize_one];split<;>omega) (by omega) fun h' tk acc kp ha=>?_
  refine hQ h' tk acc.toList ⟨by have:=ha.1;simpa using this,fun i v hv=>?_⟩ kp
  obtain⟨t',e'⟩:=ha.2 i v (by simpa using hv)
  exact⟨t',by rw[e'];congr 1;omega⟩
 ·have hi:us.length < n.toNat:=by rw[<- hil];exact (zU.mp hx).1
  obtain⟨tx,rfl⟩:=hiv _ _ hx
  have hd:(rN n.toNat)[us.length]?=some (.int ((us.length:Nat):Int)):=by simp[rN,hi]
  obtain⟨kd,hkd,hki⟩:=qG hks hd
  have hfo3:s3.heap.get? f=some (W.kla_obj "<lambda>" qual params body scope (e8 X.env scope.names []) pm c' ctv) :=
   (I3.pin (f,_) (yF _ (List.mem_append_left _ (yF _ (ej zE hfo))))).1
  refine wpAny_mono (xK (v:=V.int ((us.length:Nat):Int)) (Q:=fun v H4=>∃HF4,cC HF3 H3 HF4 H4/\Rep X.K HF4 kd v) (te:=tD X.K te) I3 hR I3.ok.frames S hnc hN0 hp hnd hco hgen hfo3 (g3.hh _ _ hcod) (hb _ _ _ _ _) ⟨tx,rfl⟩ (hY _ _ _ _ _ (HI C hR S.kind hnd hl))
   ⟨HF3,_,kd,g3.fh,xJ (eo.mono (g1.ff.trans g3.ff)) (by simp[Rep]),hkd,fun v H4 HF4 g4 r4=>⟨HF4,g4,r4⟩⟩) (fun u s4 ⟨v4,H4,I4,r4,HF4,g4,rp⟩=>⟨H4,I4,HF4,kvs++[v4],g3.trans g4,?_,rvk.append (.cons r4 .nil)⟩) fun _ _ e=>e
  rw[zN,List.length_singleton,List.take_add_one,hki]
  exact (rk.mono g4.ff).append (aw.cons rp aw.nil)
 ·have hk':ks.take us.length=ks:=List.take_of_length_le (by omega)
  rw[hk',hkr] at rk
  have hnn:nss.length=n.toNat:=by
   have:=congrArg List.length hkr
   rw[zD] at this
   omega
  refine⟨fun i=>Dl.rk nss (nss.getD i []),tuples' true,fun h2 s3 I3=>⟨fun Q' q'=>?_,fun i j Cc hi hj q'=>?_⟩,fun s3 Dn c I3 fD e=>?_⟩
  ·obtain⟨fs',tt,hlen,hff⟩:=qD (m6 I3 g3.fh rk rvk) hne
   refine W.kat_kind (T:=.type "int") tt (by omega) (fun v hv=>?_) (by decide) q'
   obtain⟨n',t',rfl⟩:=hff v hv
   exact W.Looks.of_pure rfl
  ·have hp3:=m6 I3 g3.fh rk rvk
   have ri:=g0 (d:=Value.none) (d':=[]) hp3 (show i < us.length by omega)
   have rj:=g0 (d:=Value.none) (d':=[]) hp3 (show j < us.length by omega)
   obtain⟨a,o,its1,n1,ea,e1,e2,e3,e4⟩:=ri.ex
   obtain⟨b,o',its',n',eb,f1,f2,f3,f4⟩:=rj.ex
   unfold W.kas_ask
   rw[ea,eb]
   have hmem:nss.getD i []∈nss:=by
    rw[zG,zK (by omega)]
    exact List.getElem_mem _
   have q2:Cc (lexLt (nss.getD i []) (nss.getD j [])) s3:=by
    rw[Co hmem]
    exact q'
   refine W.kat_lt e1 e3 f1 f3 ?_
   have:=qL (prog:=X.prog) (w:=X.w) (A:=X.A.in1.in1) (s:=s3) 0 e4 f4 q2
   have l1:its1.size=(nss.getD i []).length:=by have:=IntsAre.length e4;simpa using this
   have l2:its'.size=(nss.getD j []).length:=by have:=IntsAre.length f4;simpa using this
   rw[l1,l2]
   exact this
  ·have rvi:aM ((List.range n.toNat).map fun i=>V.int ((i:Nat):Int)) its:=by
    have:=uy (vs:=its) (k:=0) fun i v hv=>by
     obtain⟨t',e'⟩:=hiv i v hv
     exact⟨t',by rw[e'];congr 1;omega⟩
    rw[hil,<- yI] at this
    exact this
   have rr:aw X.K HF1 (rN n.toNat) ((List.range n.toNat).map fun i=>V.int ((i:Nat):Int)):=uu _
   have hv:=rS (fun i=>Dl.rk nss (nss.getD i [])) rvi
   have hr:=rq (fun i=>Dl.rk nss (nss.getD i [])) rr
   have hnD:H3 Dn=none:=fD.1
   have I4:=Inv.track (o:=.lst (qj (fun i=>Dl.rk nss (nss.getD i [])) ((List.range n.toNat).map fun i=>V.int ((i:Nat):Int)) .non)) I3 fD ⟨by rw[(hC _ _ _).length_eq,zD,zS,PySem.sizeLine_eq];omega,_,c,hv,e⟩
   have G:=(g1.trans g2).trans g3
   refine⟨.ref Dn,_,I4.unpinned.unpinned,rfl,q Dn _ _ HF3 (G.trans (.own G.fh hnD)) (G.hh.free hnD) (G.fh.free hnD) aO (hr.mono g3.ff)⟩
end
section
variable {X:Cx}{pos:Pos}
noncomputable def Il(i j l:Nat):Env->D->Option Env:=fun ρ d=>match d with
 | .tuple [x,y,z]=>if isFree ρ i=true/\isFree ρ j=true/\isFree ρ l=true then some (((ρ.set i (some x)).set j (some y)).set l (some z)) else none
 | _=>none
theorem HR(i j l:Nat){x y z:Str}{px py pz:Pos}{k:Nat}(hc:X.calm=true)(hN:X.N.Nodup)(hi:X.N[i]?=some x)(hx:Loc X.env.scope x)(hj:X.N[j]?=some y)(hy:Loc X.env.scope y)(hl:X.N[l]?=some z)(hz:Loc X.env.scope z)
  (hf:X.fn x=true\/X.env.scope.names.lookup x=some .local) (hf':X.fn y=true\/X.env.scope.names.lookup y=some .local) (hf'':X.fn z=true\/X.env.scope.names.lookup z=some .local) :
  DG X (.Tuple [.Name x px,.Name y py,.Name z pz] k pos) (Il i j l) :=
 oV (qu hc (cY (dD hN hi hx hf) (cY (dD hN hj hy hf') (cY (dD hN hl hz hf'') nv)))) fun v σ H Q ⟨HF,ρ,d,ρ',sm,eo,r,hf,q⟩=>by
  unfold Il at hf
  split at hf
  ·rename_i x' y' z'
   split at hf
   ·rename_i hh
    cases hf
    simp only[Rep] at r
    obtain⟨a,vs,rfl,hs,rr⟩:=r
    obtain⟨v1,r1,rfl,a1,b1⟩:=rr.cons_inv
    obtain⟨v2,r2,rfl,a2,b2⟩:=b1.cons_inv
    obtain⟨v3,r3,rfl,a3,b3⟩:=b2.cons_inv
    rw[b3.nil_inv] at hs
    exact⟨a,_,rfl,aI sm hs,rfl,v1,_,rfl,v2,_,rfl,v3,_,rfl,rfl,q _ (kf (kf (kf eo a1) a2) a3) (lW (lW (lW eo hh.1) hh.2.1) hh.2.2)⟩
   ·cases hf
  ·cases hf
end
section
variable {X:Cx}{a:Expr}{fa:Env->Option D}{pos p1 p2 p3 p4:Pos}{i j:Nat}
end
section
variable {X:Cx}
noncomputable def uS(i j k l:Nat):aj->D->Option aj:=fun ρ d=>match d with
 | .tuple [x,.tuple [a,b,c]]=>some ((((ρ.set i (.val x)).set j (.val a)).set k (.val b)).set l (.val c))
 | _=>none
variable {HF₀ H₀:Hp}
theorem LR(i j k l:Nat){x y z w:Str}{px py pz pw p2 pos:Pos}{m n:Nat}(hc:X.calm=true)(hN:X.N.Nodup)(hi:X.N[i]?=some x)(hx:Loc X.env.scope x)(hj:X.N[j]?=some y)(hy:Loc X.env.scope y)(hk:X.N[k]?=some z)(hz:Loc X.env.scope z)(hl:X.N[l]?=some w)(hw:Loc X.env.scope w)
  (f1:X.fn x=true\/X.env.scope.names.lookup x=some .local) (f2:X.fn y=true\/X.env.scope.names.lookup y=some .local) (f3:X.fn z=true\/X.env.scope.names.lookup z=some .local) (f4:X.fn w=true\/X.env.scope.names.lookup w=some .local) :
  OO X HF₀ H₀ (.Tuple [.Name x px,.Tuple [.Name y py,.Name z pz,.Name w pw] m p2] n pos) (uS i j k l) :=
 oV (qu hc (cY (dD hN hi hx f1) (cY (qu hc (cY (dD hN hj hy f2) (cY (dD hN hk hz f3) (cY (dD hN hl hw f4) nv)))) nv))) fun v σ H Q ⟨HF,ρ,d,ρ',S,r,hf,q⟩=>by
  unfold uS at hf
  split at hf
  ·cases hf
   simp only[Rep] at r
   obtain⟨a,vs,rfl,hs,rr⟩:=r
   obtain⟨v1,r1,rfl,a1,b1⟩:=rr.cons_inv
   obtain⟨v2,r2,rfl,a2,b2⟩:=b1.cons_inv
   rw[b2.nil_inv] at hs
   simp only[Rep] at a2
   obtain⟨a',vs',rfl,hs',rr'⟩:=a2
   obtain⟨v3,r3,rfl,a3,b3⟩:=rr'.cons_inv
   obtain⟨v4,r4,rfl,a4,b4⟩:=b3.cons_inv
   obtain⟨v5,r5,rfl,a5,b5⟩:=b4.cons_inv
   rw[b5.nil_inv] at hs'
   exact⟨a,_,rfl,aI S.gr.fh hs,rfl,v1,_,rfl,_,_,rfl,⟨a',_,rfl,aI S.gr.fh hs',rfl,v3,_,rfl,v4,_,rfl,v5,_,rfl,rfl,rfl,q _ ((((S.setV a1).setV a3).setV a4).setV a5)⟩⟩
  ·cases hf
end
section
variable {X:Cx}{e:Expr}{es:List Expr}{fs:Env->Option (List D)}{pos p:Pos}
noncomputable def Ea:List D->Option D
 | [.int a,.int b]=>some (.int (max a b))
 | _=>none
theorem F7(hc:X.calm=true):eW X (.builtin "max") (fun xs H Q=>∃a b:Int,xs=[.int a,.int b]/\Q (.int (max a b)) H):=by
 intro pins s σ H xs us Q I r h
 have hh:X.A.handled=none:=I.ok.hd hc
 obtain⟨a,b,rfl,q⟩:=h
 cases r with
 | cons r1 r =>
  cases r with
  | cons r2 r =>
   cases r
   obtain⟨t,rfl⟩:=r1
   obtain⟨u,rfl⟩:=r2
   refine max_two_ints hh fun h' tk kp=>⟨.int (max a b),H,I.kept (t':=tk) kp,?_,q⟩
   by_cases h:b > a
   ·rw[if_pos h,show max a b=b by omega];exact⟨_,rfl⟩
   ·rw[if_neg h,show max a b=a by omega];exact⟨_,rfl⟩
theorem Mv(hc:X.calm=true)(B:pA X "max" (.builtin "max"))(he:starEach (e::es) X.env=(false,eval e X.env)::starEach es X.env)(hpl:(backTo pos (starEach es X.env)).any (·.1)=false)(ha:DA X (e::es) fs):DE X (.Call (.Name "max" p) (e::es) [] pos) (br Ea fs) :=
 ji (F7 hc) (by
  intro HF H ds vs d Q sm r hg q
  unfold Ea at hg
  split at hg
  ·cases hg
   obtain⟨v1,r1,rfl,a1,b1⟩:=r.cons_inv
   obtain⟨v2,r2,rfl,a2,b2⟩:=b1.cons_inv
   rw[b2.nil_inv]
   simp only[Rep] at a1 a2
   exact⟨_,_,by rw[a1,a2],q _ H HF (.refl sm) (by simp[Rep])⟩
  ·cases hg) B ha (by decide) (by decide) he hpl
end
section
variable {X:Cx}{N:List Str}{sc:Scope}{k:Nat}{a b e:Expr}{fa fb:Env->Option D}{pos p:Pos}{HF₀ H₀:Hp}
end
section
variable {X:Cx}{e:Expr}{f:Env->Option D}{pos p p' pos':Pos}
end
section
variable {X:Cx}{a b c e:Expr}{es:List Expr}{fk:Env->Option D}{fs:Env->Option (List D)}{pos p p1 p2 p3:Pos}{x y:Str}
noncomputable def qS(n:Nat)(m m':List D->Option D)(fk:Env->Option D)(fs:Env->Option (List D)):Env->Option D:=fun ρ=>(fk ρ).bind fun kd=>(fs ρ).bind fun ds=>if ds.length=n then (match kd with
 | .int k=>if k=0 then m ds else if k=1 then m' ds else none
 | _=>none) else none
theorem IS{k n:Nat}{m m':List D->Option D}(F:dk X.prog X.w X.K X.mg X.base k x n m)(F':dk X.prog X.w X.K X.mg X.base k y n m')(hr:eS k X.A)(hg:Gl X x)(hg':Gl X y)(hk:DE X b fk)(ha:DA X (e::es) fs)
  (hdb:(x == ("__debug__":Str))=false:=by decide) (hdb':(y == ("__debug__":Str))=false:=by decide) (hs:pW b:=by intro _ _;rfl)
  (he:starEach (e::es) X.env=(false,eval e X.env)::starEach es X.env:=by rfl) (hpl:(backTo pos (starEach es X.env)).any (·.1)=false:=by rfl)
  (ht:eval (.Call (.Subscript (.List [.Name x p,.Name y p1] p2) b p3) (e::es) [] pos) X.env=(do callWith pos (<- eval (.Subscript (.List [.Name x p,.Name y p1] p2) b p3) X.env) [] (backTo pos (starEach (e::es) X.env)) (backToKw pos (keywordEach [] X.env))):=by rfl) :
  DE X (.Call (.Subscript (.List [.Name x p,.Name y p1] p2) b p3) (e::es) [] pos) (qS n m m' fk fs):=by
 obtain⟨f,fd,ps,ok,hm,hkp,hb⟩:=F.ex
 obtain⟨f',fd',ps',ok',hm',hkp',hb'⟩:=F'.ex
 intro pins s σ H Q I ⟨HF,ρ,d,sm,eo,hf,q⟩
 obtain⟨kd,h1,hf⟩:=bs hf
 obtain⟨ds,h2,hf⟩:=bs hf
 split at hf
 ·rename_i hl
  obtain⟨kk,rfl⟩:∃kk,kd=.int kk:=by cases kd<;>first|exact⟨_,rfl⟩|cases hf
  rw[ht]
  have hc:PE X (.Subscript (.List [.Name x p,.Name y p1] p2) b p3) _:=K2 Ct (FS (dE (vG (v:=.ref f) hg hm rfl hdb) (dE (vG (v:=.ref f') hg' hm' rfl hdb') iY))) hk hs
  have run:∀ {s1:Shared}{H1 HF1:Hp}{g:Addr}{gd:FuncData}{gs:List Str}{M:List D->Option D},pG X.prog X.w X.K X.mg X.base Mm k g gd gs (MH X.K n M)->W.keepIn X.K (.ref g)=true->Binds X.K gd gs []->M ds=some d->Inv X pins σ H1 s1->cC HF H HF1 H1 ->
    wpAny (model X.prog X.w) X.A (callWith pos (.ref g) [] (backTo pos (starEach (e::es) X.env)) (backToKw pos (keywordEach [] X.env))) (EP X pins σ Q) X.xe s1:=by
   intro s1 H1 HF1 g gd gs M PP kpg bg hM I1 G1
   refine W.callWith_K (h₀:=X.base) I.ok.mod.kin kpg (cK (ha pos pins s1 σ H1 (fun vs H2=>MH X.K n M (vs++[]) H2 Q E0) I1 ⟨HF1,ρ,ds,G1.fh,eo.mono G1.ff,h2,fun vs H2 HF2 G2 r2=>⟨HF2,ds,d,G2.fh,(eo.mono G1.ff).tb.mono G2.ff,by rw[List.append_nil];exact r2,hl,hM,fun v H' HF' g' r=>q v H' HF' (G1.trans (G2.trans g')) r⟩⟩) fun us s2 ⟨vs,H2,I2,r,q2⟩=>⟨I2.kIn,?_⟩) he hpl
   exact FJ PP hr bg .nil K6 I2 r q2
  refine zW (cK (hc pins s σ H (fun v H1=>∃HF1,cC HF H HF1 H1/\v=(if kk=0 then V.ref f else .ref f')) I ⟨by rw[sizeLine_eq];simp,fun z hz=>?_⟩) fun u s1 ⟨v,H1,I1,rv,HF1,G1,ev⟩=>?_)
  ·have G0:cC HF H HF (upd H z (.lst [.ref f,.ref f'])):=.own sm hz
   refine⟨HF,ρ,.int kk,G0.fh,eo,h1,fun v1 H1 HF1 g1 r1=>?_⟩
   simp only[Rep] at r1
   refine⟨z,[.ref f,.ref f'],kk,(if kk=0 then V.ref f else .ref f'),rfl,r1,.of (g1.hh z _ aO),?_,HF1,G0.trans g1,rfl⟩
   dsimp only at hf
   by_cases h0:kk=0
   ·subst h0;rfl
   ·rw[if_neg h0] at hf ⊢
    by_cases h1:kk=1
    ·subst h1;rfl
    ·rw[if_neg h1] at hf;cases hf
  ·dsimp only at hf
   by_cases h0:kk=0
   ·rw[if_pos h0] at hf ev
    subst ev
    cases rv
    exact run ok hkp hb hf I1 G1
   ·rw[if_neg h0] at hf ev
    subst ev
    cases rv
    by_cases h1:kk=1
    ·rw[if_pos h1] at hf
     exact run ok' hkp' hb' hf I1 G1
    ·rw[if_neg h1] at hf;cases hf
 ·cases hf
end
end Dl
namespace Rf
open PySem L2 Dl PySem.Spec PyProof.Rows
structure Tr where
 e:Expr->Option (Dl.Env->Option D)
 f:Expr->Option (Dl.Env->Option (List D))
 t:Expr->Option (Dl.Env->Option Bool)
structure Sg where
 fn:List (Str×Nat×(List D->Option D))
 int:List (Str×Int)
noncomputable abbrev FE:=Dl.Env->Option D
noncomputable def An(G:Sg)(sc:Scope)(N:List Str)(x:Str):Option FE:=match N.idxOf? x with
 | some i=>if DK N sc i x=true then some (ab i) else none
 | none=>if (zy sc x&&!(x == ("__debug__":Str)))=true then (G.int.lookup x).map fun n=>fC (.int n) else none
noncomputable def B1:Const->Option FE
 | .int i=>some (fC (.int i))
 | .bool b=>some (fC (.bool b))
 | .none=>some (fC .none)
 | .str x=>some (fC (.str x))
 | _=>none
noncomputable def OW(T:Tr)(op:UnaryOp)(a:Expr):Option FE:=match op with
 | .Not=>(T.e a).map MA
 | .USub=>(T.e a).map (f1 OJ)
 | _=>none
noncomputable def PF:Operator->Option (D->D->Option D)
 | .Add=>some aG
 | .Sub=>some Dl.eU
 | .Mult=>some ip
 | .FloorDiv=>some n8
 | .Mod=>some l8
 | _=>none
noncomputable def K9:Expr->Bool
 | .List ..=>true
 | .ListComp ..=>true
 | _=>false
noncomputable def Cr:Expr->Bool
 | .List ..=>true
 | .ListComp ..=>true
 | .BinOp a .Mult _ _=>K9 a
 | .BinOp a .Add b _=>Cr a||Cr b
 | .Call (.Name x _) _ _ _=>x == ("sorted":Str)||x == ("list":Str)
 | _=>false
noncomputable def G7(T:Tr)(whole a:Expr)(op:Operator)(b:Expr):Option FE :=
 if Cr whole=true then (T.f whole).map cD else (PF op).bind fun g=>(T.e a).bind fun x=>(T.e b).map fun y=>f2 g x y
noncomputable def vV(T:Tr)(op:BoolOp):List Expr->Option FE
 | []=>none
 | [a]=>T.e a
 | a::b::r=>(T.e a).bind fun x=>(vV T op (b::r)).map fun y=>match op with|.And=>l5 x y|.Or=>PQ x y
noncomputable def NV:CmpOp->Option (D->D->Option D)
 | .Lt=>some uQ
 | .LtE=>some Da
 | .Gt=>some Fk
 | .GtE=>some Qh
 | .Eq=>some b9
 | .NotEq=>some fT
 | .In=>some Bs
 | .NotIn=>none
 | .Is=>some tX
 | .IsNot=>some pq
noncomputable def PR:CmpOp->Option (D->D->Option D)
 | .Lt=>some uQ
 | .LtE=>some Da
 | _=>none
noncomputable def CU(T:Tr)(a:Expr)(ops:List CmpOp)(cs:List Expr):Option FE:=match ops,cs with
 | [op],[b]=>if behindInMarks op b=false then (NV op).bind fun g=>(T.e a).bind fun x=>(T.e b).map fun y=>f2 g x y else none
 | [op,op'],[b,c]=>if lastMarks [op,op'] [b,c]=false then (PR op).bind fun g=>(PR op').bind fun g'=>(T.e a).bind fun x=>(T.e b).bind fun y=>(T.e c).map fun z=>k4 g g' x y z else none
 | _,_=>none
noncomputable def uo(T:Tr):List Expr->Option (Dl.Env->Option (List D))
 | []=>some ae
 | e::es=>if isStar e=false then (T.e e).bind fun x=>(uo T es).map fun r=>aa x r else none
noncomputable def Qn(T:Tr):Option Expr->Option (Dl.Env->Option (Option Int))
 | none=>some gO
 | some e=>(T.e e).map qH
noncomputable def CK:Expr->Bool
 | .Slice ..=>true
 | .Tuple ..=>true
 | .Starred ..=>true
 | _=>false
noncomputable def Fi(T:Tr)(a b:Expr):Option FE:=match b with
 | .Slice lo hi none _=>(T.e a).bind fun x=>(Qn T lo).bind fun l=>(Qn T hi).map fun h=>gT dz x l h
 | _=>if CK b=false then (T.e a).bind fun x=>(T.e b).map fun y=>f2 ak x y else none
noncomputable def G8:List D->Option D:=fun ds=>(oneOf ds).bind fun d=>match d with
 | .list es=>(boolsOf es).map fun bs=>.bool (bs.any id)
 | _=>none
noncomputable def oq:Expr->Option Expr
 | .Call (.Name x _) [e] [] _=>if x="set" then some e else none
 | _=>none
noncomputable def MS(x:Str):Option String:=if x="int" then some "int" else if x="bool" then some "bool" else if x="tuple" then some "tuple" else if x="list" then some "list" else none
noncomputable def BJ(T:Tr)(x:Str)(args:List Expr):Option FE :=
 if x="max" then (if args.isEmpty=true then none else (uo T args).map fun fs=>br Ea fs)
 else none
noncomputable def Aw(G:Sg)(sc:Scope)(T:Tr)(whole:Expr)(x:Str)(args:List Expr):Option FE :=
 if (zy sc x&&args.all fun e=>!isStar e)=true then
  match G.fn.lookup x with
  | some (n,m)=>if (args.isEmpty||x == ("__debug__":Str))=true then none else (uo T args).map fun fs=>ah n m fs
  | none =>
   if x="len" then (match args with
    | [e]=>(match oq e with
     | some e'=>if (zy sc "set"&&!isStar e')=true then (T.e e').map fun y=>f1 lK y else none
     | none=>(uo T args).map fun fs=>br bR fs)
    | _=>none)
   else if x="isinstance" then (match args with
    | [e,.Name y _]=>if zy sc y=true then (MS y).bind fun ty=>(T.e e).map fun z=>Lh ty z else none
    | _=>none)
   else if x="tuple" then (if args.length=1 then (uo T args).map fun fs=>br aZ fs else none)
   else if x="all" then (if args.length=1 then (uo T args).map fun fs=>br l7 fs else none)
   else if x="any" then (if args.length=1 then (uo T args).map fun fs=>br G8 fs else none)
   else if x="sum" then (if args.length=1 then (uo T args).map fun fs=>br EF fs else none)
   else if x="min" then (if args.isEmpty=true then none else (uo T args).map fun fs=>br zj fs)
   else if (x == ("list":Str)||x == ("sorted":Str))=true then (T.f whole).map cD
   else BJ T x args
 else none
noncomputable def Cy:Expr->Bool
 | .Call ..=>true
 | _=>false
noncomputable def Bq(T:Tr)(o:Expr)(m:Str)(apos:Pos)(args:List Expr)(cpos:Pos):Option FE :=
 if (m == ("index":Str)&&apos.endLine == cpos.line&&!Cy o)=true then (match args with
  | [e]=>if isStar e=false then (T.e o).bind fun x=>(T.e e).map fun y=>f2 il x y else none
  | _=>none)
 else none
noncomputable def Au(G:Sg)(sc:Scope)(T:Tr)(x y:Str)(b:Expr)(args:List Expr):Option FE :=
 if ((zy sc x&&zy sc y)&&((args.all fun e=>!isStar e)&&(!args.isEmpty&&(!CK b&&(!(x == ("__debug__":Str))&&!(y == ("__debug__":Str)))))))=true then
  (G.fn.lookup x).bind fun p=>(G.fn.lookup y).bind fun q=>if p.1=q.1 then (T.e b).bind fun fk=>(uo T args).map fun fs=>qS p.1 p.2 q.2 fk fs else none
 else none
noncomputable def GX(G:Sg)(sc:Scope)(N:List Str)(T:Tr)(whole:Expr):Option FE:=match whole with
 | .Name x _=>An G sc N x
 | .Constant c _ _=>B1 c
 | .UnaryOp op a _=>OW T op a
 | .BinOp a op b _=>G7 T whole a op b
 | .BoolOp op es _=>vV T op es
 | .Compare a ops cs _=>CU T a ops cs
 | .IfExp c a b _=>(T.t c).bind fun z=>(T.e a).bind fun x=>(T.e b).map fun y=>QM z x y
 | .Tuple es _ _=>(uo T es).map aP
 | .Subscript a b _=>Fi T a b
 | .List ..=>(T.f whole).map cD
 | .ListComp ..=>(T.f whole).map cD
 | .Call (.Name x _) args [] _=>Aw G sc T whole x args
 | .Call (.Name _ _) _ (_::_) _=>(T.f whole).map cD
 | .Call (.Attribute o m apos) args [] cpos=>Bq T o m apos args cpos
 | .Call (.Subscript (.List [.Name x _,.Name y _] _) b _) args [] _=>Au G sc T x y b args
 | _=>none
noncomputable def Pt(T:Tr)(op:BoolOp):List Expr->Option (Dl.Env->Option Bool)
 | []=>none
 | [a]=>T.t a
 | a::b::r=>(T.t a).bind fun x=>(Pt T op (b::r)).map fun y=>match op with|.And=>cX x y|.Or=>Bg x y
noncomputable def GM:Expr->Bool
 | .Name ..=>true
 | .Call ..=>true
 | .Subscript ..=>true
 | _=>false
noncomputable def stepT(T:Tr)(whole:Expr):Option (Dl.Env->Option Bool):=match whole with
 | .Compare a ops cs _=>(CU T a ops cs).map fB
 | .UnaryOp .Not a _=>(T.t a).map bM
 | .BoolOp op es _=>Pt T op es
 | _=>if GM whole=true then (T.e whole).map fB else none
noncomputable def vE:Expr->Bool
 | .Tuple ..=>true
 | _=>false
noncomputable def Pb(sc:Scope)(T:Tr)(tg iter:Expr):Option (Dl.Env->Option (List D)):=match iter with
 | .Call (.Name x _) args [] _ =>
  if x="range" then (match args with|[e]=>if (zy sc "range"&&!isStar e)=true then (uo T args).map bC else none|_=>none)
  else if x="enumerate" then (match args with|[e]=>if (zy sc "enumerate"&&!isStar e&&vE tg)=true then (uo T args).map bN else none|_=>none)
  else if x="zip" then (match args with|[e,e']=>if (zy sc "zip"&&!isStar e&&!isStar e'&&vE tg)=true then (uo T args).map gP else none|_=>none)
  else (T.e iter).map aV
 | .Set ..=>none
 | _=>(T.e iter).map aV
noncomputable def Qf:Expr->Option (List Str)
 | .Name x _=>some [x]
 | .Tuple [.Name x _,.Name y _] _ _=>some [x,y]
 | _=>none
noncomputable def Qm:Expr->Option (List Str)
 | .Tuple [.Name x _,.Name y _,.Name z _] _ _=>some [x,y,z]
 | tg=>Qf tg
noncomputable def gw(N:List Str)(scope:Scope):List Nat:=(List.range N.length).filter fun j=>match N[j]? with|some x=>decide (scope.names.lookup x=some .free)|none=>false
noncomputable def Ni:Expr->Bool
 | .Set ..=>false
 | _=>true
noncomputable def Li(B:Tr)(ifs:List Expr):Option (Dl.Env->Option Bool):=match ifs with
 | []=>some fun _=>some true
 | [c]=>B.t c
 | _=>none
noncomputable def vX(sc:Scope)(N:List Str)(T:Tr)(blk:Scope->List Str->Tr)(elt:Expr)(gens:List Comprehension)(scope:Scope):Option (Dl.Env->Option (List D)):=match gens with
 | [⟨tg,iter,ifs,as⟩] =>
  if as=0 then (Qm tg).bind fun xs =>
   if (jO sc scope N (xs++(gw N scope).filterMap fun j=>N[j]?) xs.length (gw N scope)&&(List.range xs.length).all fun i=>qq (xs++(gw N scope).filterMap fun j=>N[j]?) scope i (xs.getD i ""))=true then
    (Pb sc T tg iter).bind fun fi=>(Li (blk scope (xs++(gw N scope).filterMap fun j=>N[j]?)) ifs).bind fun tt =>
     ((blk scope (xs++(gw N scope).filterMap fun j=>N[j]?)).e elt).map fun te=>au xs.length (gw N scope) fi (match xs with|[_]=>fG 0|[_,_]=>ir 0 1|_=>Il 0 1 2) tt te
   else none
  else none
 | _=>none
noncomputable def Cu:Arguments->Option Str
 | ⟨[],[⟨x,none,_⟩],none,[],[],none,[]⟩=>if x="number" then some x else if x="plan" then some x else none
 | _=>none
noncomputable def wq(lam:Option Str)(sc:Scope)(N:List Str)(T:Tr)(lmb:Scope->List Str->Tr)(l:Expr)(params:Arguments)(body:Expr)(scope:Scope):Option (Dl.Env->Option (List D)) :=
 if (lam.isSome&&zy sc "sorted"&&!isStar l)=true then
  (Cu params).bind fun p =>
   if (jO sc scope N (p::(gw N scope).filterMap fun j=>N[j]?) 1 (gw N scope)&&o9 scope (p::(gw N scope).filterMap fun j=>N[j]?) p)=true then
    (T.e l).bind fun fl=>((lmb scope (p::(gw N scope).filterMap fun j=>N[j]?)).e body).map fun te=>oD (gw N scope) fl te
   else none
 else none
noncomputable def xg(lam:Option Str)(sc:Scope)(N:List Str)(T:Tr)(lmb:Scope->List Str->Tr)(l:Expr)(params:Arguments)(body:Expr)(scope:Scope):Option (Dl.Env->Option (List D)):=match l with
 | .Call (.Name r _) [e] [] _ =>
  if (lam.isSome&&zy sc "sorted"&&r == ("range":Str)&&zy sc "range"&&!isStar e)=true then
   (Cu params).bind fun p =>
    if (jO sc scope N (p::(gw N scope).filterMap fun j=>N[j]?) 1 (gw N scope)&&o9 scope (p::(gw N scope).filterMap fun j=>N[j]?) p)=true then
     (uo T [e]).bind fun fs=>((lmb scope (p::(gw N scope).filterMap fun j=>N[j]?)).e body).map fun te=>qx (gw N scope) fs te
    else none
  else none
 | _=>none
noncomputable def CY(lam:Option Str)(sc:Scope)(N:List Str)(T:Tr)(blk lmb:Scope->List Str->Tr)(whole:Expr):Option (Dl.Env->Option (List D)):=match whole with
 | .List es _=>(uo T es).map kl
 | .ListComp elt gens scope _=>vX sc N T blk elt gens scope
 | .BinOp a .Mult b _=>if K9 a=true then (T.f a).bind fun x=>(T.e b).map fun y=>KI x y else none
 | .BinOp a .Add b _=>(T.e a).bind fun x=>(T.e b).map fun y=>QG uP x y
 | .Call (.Name x _) [l] [⟨some ky,.Lambda params body scope _,_⟩] _=>if (x == ("sorted":Str)&&ky == ("key":Str))=true then (match wq lam sc N T lmb l params body scope with|some f=>some f|none=>xg lam sc N T lmb l params body scope) else none
 | .Call (.Name x _) [e] [] _ =>
  if (zy sc x&&!isStar e)=true then
   if x="list" then (uo T [e]).map fun fs=>mJ dN fs
   else if x="sorted" then (uo T [e]).map fun fs=>mJ dC fs
   else none
  else none
 | _=>none
noncomputable def tr(G:Sg):Nat->Option Str->Scope->List Str->Tr
 | 0,_,_,_=>⟨fun _=>none,fun _=>none,fun _=>none⟩
 | n+1,lam,sc,N=>⟨GX G sc N (tr G n lam sc N),CY lam sc N (tr G n lam sc N) (tr G n none) (tr G n none),stepT (tr G n lam sc N)⟩
structure NM(G:Sg)(X:Cx)(j:Nat):Prop where
 fn:∀x n m,G.fn.lookup x=some (n,m)->dk X.prog X.w X.K X.mg X.base j x n m
 int:∀x i,G.int.lookup x=some i->∃t,X.mg x=some (.int i t)
 bn:Bn X
structure rP(X:Cx)(tg iter:Expr)(ifs:List Expr)(elt:Expr)(scope:Scope)(f:Dl.Env->Option (List D)):Prop where
 ex:∃ (N':List Str) (t:Nat) (cs:List Nat) (fi:Dl.Env->Option (List D)) (tgt:Dl.Env->D->Option Dl.Env) (tt:Dl.Env->Option Bool) (te:FE),f=au t cs fi tgt tt te/\jR X scope N' (lh t cs)/\DI X tg iter fi/\(∀x,foldedSetIterable iter X.env x=pure x) /\
  ∀fp s H,DG (bj X scope N' fp s H) tg tgt/\OX (bj X scope N' fp s H) ifs tt/\DE (bj X scope N' fp s H) elt te
structure d9(X:Cx)(T:Tr):Prop where
 c:∀elt gens scope p f,T.f (.ListComp elt gens scope p)=some f->∃tg iter ifs,gens=[⟨tg,iter,ifs,0⟩]/\rP X tg iter ifs elt scope f
 e:∀e f,T.e e=some f->DE X e f
 f:∀e f,T.f e=some f->DF X e f
 t:∀e f,T.t e=some f->DT X e f
section
variable {G:Sg}{X:Cx}{N:List Str}{sc:Scope}{k j:Nat}{T:Tr}{pos p:Pos}
theorem D6(C:Bk X N sc k)(g:NM G X j){x:Str}{f:FE}(h:An G sc N x=some f):DE X (.Name x pos) f:=by
 unfold An at h
 split at h
 ·split at h
  ·cases h;exact C.v _ ‹_›
  ·cases h
 ·split at h
  ·rename_i hg
   obtain⟨n,hn,rfl⟩:=ag h
   obtain⟨t,ht⟩:=g.int x n hn
   simp only[zF,Bool.not_eq_true'] at hg
   exact Jj (C.gl hg.1) ht hg.2
  ·cases h
theorem Am{c:Const}{i:Nat}{f:FE}(h:B1 c=some f):DE X (.Constant c i pos) f:=by
 cases c<;>cases h<;>first|exact LX|exact OF|exact Np|exact Nr
theorem IV(C:Bk X N sc k)(O:d9 X T){op:UnaryOp}{a:Expr}{f:FE}(h:OW T op a=some f):DE X (.UnaryOp op a pos) f:=by
 cases op<;>try cases h
 ·obtain⟨x,hx,rfl⟩:=ag h;exact Lp (O.e _ _ hx)
 ·obtain⟨x,hx,rfl⟩:=ag h;exact C.neg (O.e _ _ hx)
theorem GD(C:Bk X N sc k)(O:d9 X T){op:Operator}{a b:Expr}{f:FE}(h:G7 T (.BinOp a op b pos) a op b=some f):DE X (.BinOp a op b pos) f:=by
 unfold G7 at h
 split at h
 ·obtain⟨x,hx,rfl⟩:=ag h;exact DF.de (O.f _ _ hx)
 ·obtain⟨g,hg,h⟩:=bs h
  obtain⟨x,hx,h⟩:=bs h
  obtain⟨y,hy,rfl⟩:=ag h
  cases op<;>cases hg
  ·exact C.add (O.e _ _ hx) (O.e _ _ hy)
  ·exact C.sub (O.e _ _ hx) (O.e _ _ hy)
  ·exact C.mul (O.e _ _ hx) (O.e _ _ hy)
  ·exact C.mod (O.e _ _ hx) (O.e _ _ hy)
  ·exact C.div (O.e _ _ hx) (O.e _ _ hy)
theorem uj(O:d9 X T){op:BoolOp}:∀ {es:List Expr}{f:FE},vV T op es=some f->DE X (.BoolOp op es pos) f
 | [],f,h=>by cases h
 | [a],f,h=>Lm (O.e _ _ h)
 | a::b::r,f,h=>by
  unfold vV at h
  obtain⟨x,hx,h⟩:=bs h
  obtain⟨y,hy,rfl⟩:=ag h
  have ih:=uj O hy
  cases op with
  | And=>exact Mw (O.e _ _ hx) ih
  | Or=>exact Ov (O.e _ _ hx) ih
theorem Nm(C:Bk X N sc k){op:CmpOp}{a b:Expr}{g:D->D->Option D}{x y:FE}(hg:NV op=some g)(hm:behindInMarks op b=false)(ha:DE X a x)(hb:DE X b y):DE X (.Compare a [op] [b] pos) (f2 g x y)/\DT X (.Compare a [op] [b] pos) (fB (f2 g x y)):=by
 cases op<;>cases hg
 ·exact⟨C.eq ha hb,C.teq ha hb⟩
 ·exact⟨C.ne ha hb,C.tne ha hb⟩
 ·exact⟨C.lt ha hb,C.tlt ha hb⟩
 ·exact⟨C.le ha hb,C.tle ha hb⟩
 ·exact⟨C.gt ha hb,C.tgt ha hb⟩
 ·exact⟨C.ge ha hb,C.tge ha hb⟩
 ·exact⟨C.is0 ha hb,C.tis0 ha hb⟩
 ·exact⟨C.not0 ha hb,C.tnot0 ha hb⟩
 ·exact⟨C.isin ha hb hm,C.tin ha hb hm⟩
theorem KO{op:CmpOp}{g:D->D->Option D}(h:PR op=some g):∃r,ja X (compareOp op) r/\gx X.K r g:=by
 cases op<;>cases h
 ·exact⟨_,He,iX⟩
 ·exact⟨_,FO,iX⟩
theorem za(C:Bk X N sc k)(O:d9 X T){a:Expr}{ops:List CmpOp}{cs:List Expr}{f:FE}(h:CU T a ops cs=some f):DE X (.Compare a ops cs pos) f/\DT X (.Compare a ops cs pos) (fB f):=by
 unfold CU at h
 split at h
 ·split at h
  ·rename_i hm
   obtain⟨g,hg,h⟩:=bs h
   obtain⟨x,hx,h⟩:=bs h
   obtain⟨y,hy,rfl⟩:=ag h
   exact Nm C hg hm (O.e _ _ hx) (O.e _ _ hy)
  ·cases h
 ·split at h
  ·rename_i hm
   obtain⟨g,hg,h⟩:=bs h
   obtain⟨g',hg',h⟩:=bs h
   obtain⟨x,hx,h⟩:=bs h
   obtain⟨y,hy,h⟩:=bs h
   obtain⟨z,hz,rfl⟩:=ag h
   obtain⟨r,r1,r2⟩:=KO (X:=X) hg
   obtain⟨r',r1',r2'⟩:=KO (X:=X) hg'
   exact⟨Fg r1 r2 r1' r2' (O.e _ _ hx) (O.e _ _ hy) (O.e _ _ hz) hm,GC r1 r2 r1' r2' (O.e _ _ hx) (O.e _ _ hy) (O.e _ _ hz) hm⟩
  ·cases h
 ·cases h
theorem dc(O:d9 X T):∀ {es:List Expr}{fs:Dl.Env->Option (List D)},uo T es=some fs->DA X es fs
 | [],fs,h=>by cases h;exact E2
 | e::es,fs,h=>by
  unfold uo at h
  split at h
  ·rename_i hs
   obtain⟨x,hx,h⟩:=bs h
   obtain⟨r,hr,rfl⟩:=ag h
   exact Px hs (O.e _ _ hx) (dc O hr)
  ·cases h
theorem HM(O:d9 X T){o:Option Expr}{f:Dl.Env->Option (Option Int)}(h:Qn T o=some f):DO X o f:=by
 cases o with
 | none=>cases h;exact Kl
 | some e=>obtain⟨x,hx,rfl⟩:=ag h;exact Jl (O.e _ _ hx)
theorem rD{b:Expr}(h:CK b=false):pW b:=by
 cases b<;>first|(intro _ _;rfl)|cases h
theorem GQ(C:Bk X N sc k)(O:d9 X T){a b:Expr}{f:FE}(h:Fi T a b=some f):DE X (.Subscript a b pos) f:=by
 unfold Fi at h
 split at h
 ·obtain⟨x,hx,h⟩:=bs h
  obtain⟨l,hl,h⟩:=bs h
  obtain⟨u,hu,rfl⟩:=ag h
  exact C.cut (O.e _ _ hx) (HM O hl) (HM O hu)
 ·split at h
  ·rename_i hc
   obtain⟨x,hx,h⟩:=bs h
   obtain⟨y,hy,rfl⟩:=ag h
   exact OR (O.e _ _ hx) (O.e _ _ hy) (rD hc)
  ·cases h
theorem dw{env:PySem.Env}:∀ {es:List Expr},(es.all fun e=>!isStar e)=true->(backTo pos (starEach es env)).any (·.1)=false
 | [],_=>rfl
 | e::es,h=>by
  rw[List.all_cons,zF,Bool.not_eq_true'] at h
  rw[bJ h.1]
  show (false||(backTo pos (starEach es env)).any (·.1))=false
  rw[dw h.2]
  rfl
theorem E9{e e':Expr}(h:oq e=some e'):∃p q,e=.Call (.Name "set" p) [e'] [] q:=by
 unfold oq at h
 split at h
 ·split at h
  ·rename_i hx;cases h;subst hx;exact⟨_,_,rfl⟩
  ·cases h
 ·cases h
theorem Kj{y:Str}{ty:String}(h:MS y=some ty):y∈dv/\bootBuiltins y=some (.type ty)/\y≠"__name__"/\(y == ("__debug__":Str))=false:=by
 unfold MS at h
 split at h
 ·rename_i e;cases h;subst e;exact⟨by decide +kernel,by decide +kernel,by decide,by decide⟩
 ·split at h
  ·rename_i e;cases h;subst e;exact⟨by decide +kernel,by decide +kernel,by decide,by decide⟩
  ·split at h
   ·rename_i e;cases h;subst e;exact⟨by decide +kernel,by decide +kernel,by decide,by decide⟩
   ·split at h
    ·rename_i e;cases h;subst e;exact⟨by decide +kernel,by decide +kernel,by decide,by decide⟩
    ·cases h
theorem Lk:bootBuiltins "any"=some (.builtin "any"):=by decide +kernel
theorem MO:bootBuiltins "sum"=some (.builtin "sum"):=by decide +kernel
theorem Nh:bootBuiltins "max"=some (.builtin "max"):=by decide +kernel
theorem M5:bootBuiltins "min"=some (.builtin "min"):=by decide +kernel
theorem ym{α:Type}{l:List α}(h:l.length=1):∃a,l=[a]:=by
 match l,h with
 | [a],_=>exact⟨a,rfl⟩
theorem Ex(C:Bk X N sc k)(g:NM G X j)(O:d9 X T){x:Str}{args:List Expr}{f:FE}(hg:zy sc x=true)(hs:args.all (fun e=>!isStar e)=true)(h:BJ T x args=some f):DE X (.Call (.Name x p) args [] pos) f:=by
 have st1:∀ {e:Expr}{es:List Expr},args=e::es->starEach (e::es) X.env=(false,eval e X.env)::starEach es X.env:=fun {e es} q=>by
  subst q
  rw[List.all_cons,zF,Bool.not_eq_true'] at hs
  exact bJ hs.1
 have st2:∀ {e:Expr}{es:List Expr},args=e::es->(backTo pos (starEach es X.env)).any (·.1)=false:=fun {e es} q=>by
  subst q
  rw[List.all_cons,zF] at hs
  exact dw hs.2
 unfold BJ at h
 split at h
 ·rename_i hx
  subst hx
  split at h
  ·cases h
  ·rename_i hl
   obtain⟨fs,hfs,rfl⟩:=ag h
   cases args with
   | nil=>exact absurd rfl hl
   | cons e es=>exact Mv C.calm (C.blt g.bn hg (by decide +kernel) Nh) (st1 rfl) (st2 rfl) (dc O hfs)
 ·cases h
theorem DR(C:Bk X N sc k)(g:NM G X j)(hjk:j<=k)(O:d9 X T){x:Str}{args:List Expr}{f:FE}(h:Aw G sc T (.Call (.Name x p) args [] pos) x args=some f):DE X (.Call (.Name x p) args [] pos) f:=by
 unfold Aw at h
 split at h
 ·rename_i hg
  rw[zF] at hg
  obtain⟨hg,hs⟩:=hg
  have st1:∀ {e:Expr}{es:List Expr},args=e::es->starEach (e::es) X.env=(false,eval e X.env)::starEach es X.env:=fun {e es} q=>by
   subst q
   rw[List.all_cons,zF,Bool.not_eq_true'] at hs
   exact bJ hs.1
  have st2:∀ {e:Expr}{es:List Expr},args=e::es->(backTo pos (starEach es X.env)).any (·.1)=false:=fun {e es} q=>by
   subst q
   rw[List.all_cons,zF] at hs
   exact dw hs.2
  split at h
  ·rename_i n m hfn
   split at h
   ·cases h
   ·rename_i hne
    obtain⟨fs,hfs,rfl⟩:=ag h
    cases args with
    | nil=>exact absurd (by simp) hne
    | cons e es =>
     have hd:(x == ("__debug__":Str))=false:=by simpa using hne
     exact Kc (g.fn x n m hfn) (C.room.mono hjk) (C.gl hg) (dc O hfs) hd (st1 rfl) (st2 rfl)
  ·split at h
   ·rename_i hx
    subst hx
    split at h
    ·rename_i e
     split at h
     ·rename_i e' he'
      split at h
      ·rename_i hg2
       rw[zF,Bool.not_eq_true'] at hg2
       obtain⟨y,hy,rfl⟩:=ag h
       obtain⟨p1,p2,rfl⟩:=E9 he'
       exact Dx C.calm (C.blt g.bn hg (by decide +kernel) E5) (C.blt g.bn hg2.1 (by decide +kernel) Nj) (O.e _ _ hy) (bJ hg2.2)
      ·cases h
     ·obtain⟨fs,hfs,rfl⟩:=ag h
      exact MN (C.blt g.bn hg (by decide +kernel) E5) (dc O hfs) (st1 rfl)
    ·cases h
   ·split at h
    ·rename_i hx
     subst hx
     split at h
     ·rename_i e y py
      split at h
      ·rename_i hgy
       obtain⟨ty,hty,h⟩:=bs h
       obtain⟨z,hz,rfl⟩:=ag h
       obtain⟨t1,t2,t3,t4⟩:=Kj hty
       exact N7 (C.blt g.bn hg (by decide +kernel) sE) (C.blt g.bn hgy t1 t2) (O.e _ _ hz) t3 t4 (st1 rfl)
      ·cases h
     ·cases h
    ·split at h
     ·rename_i hx
      subst hx
      split at h
      ·rename_i hl
       obtain⟨fs,hfs,rfl⟩:=ag h
       obtain⟨e,rfl⟩:=ym hl
       exact Gy (C.blt g.bn hg (by decide +kernel) Hc) (dc O hfs) (st1 rfl)
      ·cases h
     ·split at h
      ·rename_i hx
       subst hx
       split at h
       ·rename_i hl
        obtain⟨fs,hfs,rfl⟩:=ag h
        obtain⟨e,rfl⟩:=ym hl
        exact Nl C.calm (C.blt g.bn hg (by decide +kernel) M1) (dc O hfs) (st1 rfl)
       ·cases h
      ·split at h
       ·rename_i hx
        subst hx
        split at h
        ·rename_i hl
         obtain⟨fs,hfs,rfl⟩:=ag h
         obtain⟨e,rfl⟩:=ym hl
         exact Lr C.calm (C.blt g.bn hg (by decide +kernel) Lk) (st1 rfl) (dc O hfs)
        ·cases h
       ·split at h
        ·rename_i hx
         subst hx
         split at h
         ·rename_i hl
          obtain⟨fs,hfs,rfl⟩:=ag h
          obtain⟨e,rfl⟩:=ym hl
          exact Mt C.calm (C.blt g.bn hg (by decide +kernel) MO) (st1 rfl) (dc O hfs)
         ·cases h
        ·split at h
         ·rename_i hx
          subst hx
          split at h
          ·cases h
          ·rename_i hl
           obtain⟨fs,hfs,rfl⟩:=ag h
           cases args with
           | nil=>exact absurd rfl hl
           | cons e es=>exact LL C.calm (C.blt g.bn hg (by decide +kernel) M5) (st1 rfl) (st2 rfl) (dc O hfs)
         ·split at h
          ·obtain⟨y,hy,rfl⟩:=ag h
           exact DF.de (O.f _ _ hy)
          ·exact Ex C g O hg hs h
 ·cases h
end
section
variable {G:Sg}{X:Cx}{N:List Str}{sc:Scope}{k j:Nat}{T:Tr}{pos p:Pos}
theorem Qt{env:PySem.Env}{e:Expr}{cpos:Pos}(h:isStar e=false):((backTo cpos (starEach [e] env)).all (fun x=>!x.1)&&(backToKw cpos (keywordEach [] env)).all (fun x=>x.1.isSome)&&decide ([e].length+([]:List Keyword).length+(if ([]:List Keyword).isEmpty then 0 else 1) < 30))=true:=by
 rw[bJ h];rfl
theorem nu{o:Expr}{a:Str}{env:PySem.Env}{w:Sem Value}(h:Cy o=false):attributeBase o a env w=w:=by
 cases o<;>first|rfl|cases h
theorem Ek(C:Bk X N sc k)(O:d9 X T){o:Expr}{m:Str}{apos cpos:Pos}{args:List Expr}{f:FE}(h:Bq T o m apos args cpos=some f):DE X (.Call (.Attribute o m apos) args [] cpos) f:=by
 unfold Bq at h
 split at h
 ·rename_i hm
  rw[zF,zF,Bool.not_eq_true'] at hm
  obtain⟨⟨hm1,hm⟩,hcl⟩:=hm
  have e1:m="index":=eq_of_beq hm1
  subst e1
  split at h
  ·rename_i e
   split at h
   ·rename_i hs
    obtain⟨x,hx,h⟩:=bs h
    obtain⟨y,hy,rfl⟩:=ag h
    exact Eb (nu hcl) (Qt hs) hm (bJ hs) (O.e _ _ hx) (O.e _ _ hy)
   ·cases h
  ·cases h
 ·cases h
theorem EN(C:Bk X N sc k)(g:NM G X j)(hjk:j<=k)(O:d9 X T){x y:Str}{b:Expr}{args:List Expr}{f:FE}{p0 p1 p2 p3:Pos}(h:Au G sc T x y b args=some f):DE X (.Call (.Subscript (.List [.Name x p0,.Name y p1] p2) b p3) args [] pos) f:=by
 unfold Au at h
 split at h
 ·rename_i hg
  simp only[zF,Bool.not_eq_true'] at hg
  obtain⟨⟨hx,hy⟩,hs,he,hb,dx,dy⟩:=hg
  obtain⟨⟨n,m⟩,h1,h⟩:=bs h
  obtain⟨⟨n',m'⟩,h2,h⟩:=bs h
  split at h
  ·rename_i hn
   obtain rfl:n=n':=hn
   obtain⟨fk,h3,h⟩:=bs h
   obtain⟨fs,h4,rfl⟩:=ag h
   cases args with
   | nil=>cases he
   | cons e es =>
    rw[List.all_cons,zF,Bool.not_eq_true'] at hs
    exact IS (g.fn x n m h1) (g.fn y n m' h2) (C.room.mono hjk) (C.gl hx) (C.gl hy) (O.e _ _ h3) (dc O h4) dx dy (rD hb) (bJ hs.1) (dw hs.2)
  ·cases h
 ·cases h
theorem FY(C:Bk X N sc k)(g:NM G X j)(hjk:j<=k)(O:d9 X T){e:Expr}{f:FE}(h:GX G sc N T e=some f):DE X e f:=by
 unfold GX at h
 split at h
 ·exact D6 C g h
 ·exact Am h
 ·exact IV C O h
 ·exact GD C O h
 ·exact uj O h
 ·exact (za C O h).1
 ·obtain⟨z,hz,h⟩:=bs h
  obtain⟨x,hx,h⟩:=bs h
  obtain⟨y,hy,rfl⟩:=ag h
  exact Oe (O.t _ _ hz) (O.e _ _ hx) (O.e _ _ hy)
 ·obtain⟨x,hx,rfl⟩:=ag h;exact LM (dc O hx)
 ·exact GQ C O h
 ·obtain⟨x,hx,rfl⟩:=ag h;exact DF.de (O.f _ _ hx)
 ·obtain⟨x,hx,rfl⟩:=ag h;exact DF.de (O.f _ _ hx)
 ·exact DR C g hjk O h
 ·obtain⟨x,hx,rfl⟩:=ag h;exact DF.de (O.f _ _ hx)
 ·exact Ek C O h
 ·exact EN C g hjk O h
 ·cases h
theorem Ho(O:d9 X T){op:BoolOp}:∀ {es:List Expr}{f:Dl.Env->Option Bool},Pt T op es=some f->DW X (.BoolOp op es pos) f
 | [],f,h=>by cases h
 | [a],f,h=>by
  cases op with
  | And=>exact JJ (O.t _ _ h)
  | Or=>exact M7 (O.t _ _ h)
 | a::b::r,f,h=>by
  unfold Pt at h
  obtain⟨x,hx,h⟩:=bs h
  obtain⟨y,hy,rfl⟩:=ag h
  have ih:=Ho O hy
  cases op with
  | And=>exact Md (O.t _ _ hx) ih
  | Or=>exact Om (O.t _ _ hx) ih
theorem Ie(C:Bk X N sc k)(O:d9 X T){e:Expr}{f:Dl.Env->Option Bool}(h:stepT T e=some f):DT X e f:=by
 unfold stepT at h
 split at h
 ·obtain⟨x,hx,rfl⟩:=ag h;exact (za C O hx).2
 ·obtain⟨x,hx,rfl⟩:=ag h;exact LV (O.t _ _ hx)
 ·exact DW.dt (Ho O h)
 ·split at h
  ·rename_i hp
   obtain⟨x,hx,rfl⟩:=ag h
   refine Ll (O.e _ _ hx) ?_
   revert hp
   cases e<;>first|(intro hp;cases hp;done)|(intro hp _;rfl)
  ·cases h
theorem LU{e:Expr}{env:PySem.Env}(h:Ni e=true):∀x,foldedSetIterable e env x=pure x:=by
 cases e<;>first|(intro _;rfl)|cases h
theorem FD(C:Bk X N sc k)(B:Bn X)(O:d9 X T){tg iter:Expr}{fi:Dl.Env->Option (List D)}(h:Pb sc T tg iter=some fi):DI X tg iter fi/\∀x,foldedSetIterable iter X.env x=pure x:=by
 unfold Pb at h
 split at h
 ·refine⟨?_,fun _=>rfl⟩
  split at h
  ·rename_i hx
   subst hx
   split at h
   ·split at h
    ·rename_i hg
     rw[zF,Bool.not_eq_true'] at hg
     obtain⟨x,hx,rfl⟩:=ag h
     exact Gz (C.blt B hg.1 (by decide +kernel) xr) (dc O hx) (bJ hg.2)
    ·cases h
   ·cases h
  ·split at h
   ·rename_i hx
    subst hx
    split at h
    ·split at h
     ·rename_i hg
      simp only[zF,Bool.not_eq_true'] at hg
      obtain⟨x,hx,rfl⟩:=ag h
      cases tg<;>first|exact Kp (C.blt B hg.1.1 (by decide +kernel) xa) (dc O hx) (bJ hg.1.2)|exact absurd hg.2 (by simp[vE])
     ·cases h
    ·cases h
   ·split at h
    ·rename_i hx
     subst hx
     split at h
     ·split at h
      ·rename_i e e' hg
       simp only[zF,Bool.not_eq_true'] at hg
       obtain⟨x,hx,rfl⟩:=ag h
       cases tg<;>first|exact Jg (C.blt B hg.1.1.1 (by decide +kernel) Me) (bJ hg.1.1.2) (dw (by simp[hg.1.2])) (dc O hx)|exact absurd hg.2 (by simp[vE])
      ·cases h
     ·cases h
    ·obtain⟨x,hx,rfl⟩:=ag h
     exact Hy (O.e _ _ hx)
 ·cases h
 ·rename_i h1 h2
  obtain⟨x,hx,rfl⟩:=ag h
  refine⟨Hy (O.e _ _ hx),LU ?_⟩
  cases iter<;>first|rfl|exact absurd rfl (h2 _ _ _)
theorem Lx{tg:Expr}{xs:List Str}(h:Qf tg=some xs):(∃x px,tg=.Name x px/\xs=[x])\/∃x px y py m pt,tg=.Tuple [.Name x px,.Name y py] m pt/\xs=[x,y]:=by
 unfold Qf at h
 split at h
 ·cases h;exact .inl ⟨_,_,rfl,rfl⟩
 ·cases h;exact .inr ⟨_,_,_,_,_,_,rfl,rfl⟩
 ·cases h
theorem Mq{tg:Expr}{xs:List Str}(h:Qm tg=some xs):((∃x px,tg=.Name x px/\xs=[x])\/∃x px y py m pt,tg=.Tuple [.Name x px,.Name y py] m pt/\xs=[x,y])\/∃x px y py z pz m pt,tg=.Tuple [.Name x px,.Name y py,.Name z pz] m pt/\xs=[x,y,z]:=by
 unfold Qm at h
 split at h
 ·cases h;exact .inr ⟨_,_,_,_,_,_,_,_,rfl,rfl⟩
 ·exact .inl (Lx h)
theorem u3(C:Bk X N sc k)(B:Bn X)(O:d9 X T){blk:Scope->List Str->Tr}(OB:∀scope N' fp s H,Bk (bj X scope N' fp s H) N' scope k->d9 (bj X scope N' fp s H) (blk scope N')){tg iter elt:Expr}{ifs:List Expr}{as:Int}{scope:Scope}{f:Dl.Env->Option (List D)}
  (h:vX sc N T blk elt [⟨tg,iter,ifs,as⟩] scope=some f):as=0/\rP X tg iter ifs elt scope f:=by
 unfold vX at h
 dsimp only at h
 split at h
 ·rename_i has
  refine⟨has,?_⟩
  obtain⟨xs,hxs,h⟩:=bs h
  split at h
  ·rename_i hok
   rw[zF] at hok
   obtain⟨fi,hfi,h⟩:=bs h
   obtain⟨tt,htt,h⟩:=bs h
   obtain⟨te,hte,rfl⟩:=ag h
   obtain⟨S,CB⟩:=C.comp hok.1
   obtain⟨hd,hfold⟩:=FD C B O hfi
   refine⟨_,_,_,_,_,_,_,rfl,S,hd,hfold,fun fp s H=>?_⟩
   have C1:=CB fp s H
   have O1:=OB scope _ fp s H C1
   refine⟨?_,?_,O1.e _ _ hte⟩
   ·rcases Mq hxs with (⟨x,px,rfl,rfl⟩|⟨x,px,y,py,m,pt,rfl,rfl⟩)|⟨x,px,y,py,z,pz,m,pt,rfl,rfl⟩
    ·have z:=C1.loc (i:=0) (x:=x) (List.all_eq_true.mp hok.2 0 (by simp))
     exact IG 0 z.1 z.2.1 z.2.2.1 z.2.2.2
    ·have z:=C1.loc (i:=0) (x:=x) (List.all_eq_true.mp hok.2 0 (by simp))
     have w:=C1.loc (i:=1) (x:=y) (List.all_eq_true.mp hok.2 1 (by simp))
     exact ML 0 1 C1.calm z.1 z.2.1 z.2.2.1 w.2.1 w.2.2.1 z.2.2.2 w.2.2.2
    ·have z0:=C1.loc (i:=0) (x:=x) (List.all_eq_true.mp hok.2 0 (by simp))
     have w:=C1.loc (i:=1) (x:=y) (List.all_eq_true.mp hok.2 1 (by simp))
     have u:=C1.loc (i:=2) (x:=z) (List.all_eq_true.mp hok.2 2 (by simp))
     exact HR 0 1 2 C1.calm z0.1 z0.2.1 z0.2.2.1 w.2.1 w.2.2.1 u.2.1 u.2.2.1 z0.2.2.2 w.2.2.2 u.2.2.2
   ·unfold Li at htt
    split at htt
    ·cases htt;exact J2
    ·exact IY (O1.t _ _ htt)
    ·cases htt
  ·cases h
 ·cases h
theorem rP.df{tg iter elt:Expr}{ifs:List Expr}{scope:Scope}{f:Dl.Env->Option (List D)}(hc:X.calm=true)(h:rP X tg iter ifs elt scope f):DF X (.ListComp elt [⟨tg,iter,ifs,0⟩] scope pos) f:=by
 obtain⟨N',t,cs,fi,tgt,tt,te,rfl,S,hd,hfold,hY⟩:=h.ex
 exact Iw hc S hd hY hfold
theorem xO{a:Arguments}{x:Str}(h:Cu a=some x):∃px,a=⟨[],[⟨x,none,px⟩],none,[],[],none,[]⟩/\(x="number"\/x="plan"):=by
 unfold Cu at h
 split at h
 ·split at h
  ·cases h;exact⟨_,rfl,.inl ‹_›⟩
  ·split at h
   ·cases h;exact⟨_,rfl,.inr ‹_›⟩
   ·cases h
 ·cases h
theorem bind1{x q:Str}{px:Pos}{body:Expr}{scope:Scope}{cl:List (Str×Addr)}{pm ctv u:Value}{c:Addr}(h:x="number"\/x="plan") :
  bindArgs (W.kla_fn "<lambda>" q ⟨[],[⟨x,none,px⟩],none,[],[],none,[]⟩ body scope cl pm (.ref c) ctv) ⟨[u],[]⟩=pure [(x,u)]:=by
 rcases h with rfl|rfl<;>rfl
theorem AE{lam:Option Str}(C:Bk X N sc k)(B:Bn X)(hlam:∀q,lam=some q->qp X q/\j+3<=k)(O:d9 X T){lmb:Scope->List Str->Tr}
  (OL:∀scope N' qual A f c s H,Bk (iD X A qual scope N' f c s H) N' scope (k - 3)->j<=k - 3->d9 (iD X A qual scope N' f c s H) (lmb scope N')) {l body:Expr}{params:Arguments}{scope:Scope}{p0 lpos kpos:Pos}{f:Dl.Env->Option (List D)}
  (h:wq lam sc N T lmb l params body scope=some f):DF X (.Call (.Name "sorted" p0) [l] [⟨some "key",.Lambda params body scope lpos,kpos⟩] pos) f:=by
 unfold wq at h
 split at h
 ·rename_i hg
  simp only[zF,Bool.not_eq_true'] at hg
  obtain⟨⟨hl,hg⟩,hs⟩:=hg
  obtain⟨q,rfl⟩:=Option.isSome_iff_exists.mp hl
  obtain⟨L,hk⟩:=hlam q rfl
  obtain⟨x,hx,h2⟩:=bs h
  clear h
  obtain⟨px,rfl,hpx⟩:=xO hx
  split at h2
  ·rename_i hok
   rw[zF] at hok
   obtain⟨fl,hfl,h⟩:=bs h2
   obtain⟨te,hte,rfl⟩:=ag h
   obtain⟨k',rfl⟩:∃k',k=k'+3:=⟨k - 3,by omega⟩
   exact Bk.sortK (p:=x) C (C.blt B hg (by decide +kernel) oR) L hok.1 hok.2 (fun _ _ _ _ _=>bind1 hpx) rfl (O.e _ _ hfl) (fun A f c s H C'=>(OL scope _ q A f c s H C' (by omega)).e _ _ hte) (bJ hs) (by rw[bJ hs];rfl) (dw (by simp[hs]))
  ·cases h2
 ·cases h
theorem Al{lam:Option Str}(C:Bk X N sc k)(B:Bn X)(hlam:∀q,lam=some q->qp X q/\j+3<=k)(O:d9 X T){lmb:Scope->List Str->Tr}
  (OL:∀scope N' qual A f c s H,Bk (iD X A qual scope N' f c s H) N' scope (k - 3)->j<=k - 3->d9 (iD X A qual scope N' f c s H) (lmb scope N')) {l body:Expr}{params:Arguments}{scope:Scope}{p0 lpos kpos:Pos}{f:Dl.Env->Option (List D)}
  (h:xg lam sc N T lmb l params body scope=some f):DF X (.Call (.Name "sorted" p0) [l] [⟨some "key",.Lambda params body scope lpos,kpos⟩] pos) f:=by
 unfold xg at h
 split at h
 ·split at h
  ·rename_i hg
   simp only[zF,Bool.not_eq_true'] at hg
   obtain⟨⟨⟨⟨hl,hg⟩,hr⟩,hgr⟩,hs⟩:=hg
   have er:=eq_of_beq hr
   subst er
   obtain⟨q,rfl⟩:=Option.isSome_iff_exists.mp hl
   obtain⟨L,hk⟩:=hlam q rfl
   obtain⟨x,hx,h2⟩:=bs h
   clear h
   obtain⟨px,rfl,hpx⟩:=xO hx
   split at h2
   ·rename_i hok
    rw[zF] at hok
    obtain⟨fl,hfl,h⟩:=bs h2
    obtain⟨te,hte,rfl⟩:=ag h
    obtain⟨k',rfl⟩:∃k',k=k'+3:=⟨k - 3,by omega⟩
    exact Bk.sortR (p:=x) C (C.blt B hg (by decide +kernel) oR) (C.blt B hgr (by decide +kernel) xr) L hok.1 hok.2 (fun _ _ _ _ _=>bind1 hpx) rfl (dc O hfl) (fun A f c s H C'=>(OL scope _ q A f c s H C' (by omega)).e _ _ hte) (bJ hs) (bJ rfl) (by rw[bJ rfl];rfl) (dw (by rfl))
   ·cases h2
  ·cases h
 ·cases h
theorem HG{lam:Option Str}(C:Bk X N sc k)(B:Bn X)(hlam:∀q,lam=some q->qp X q/\j+3<=k)(O:d9 X T){blk lmb:Scope->List Str->Tr}
  (OB:∀scope N' fp s H,Bk (bj X scope N' fp s H) N' scope k->d9 (bj X scope N' fp s H) (blk scope N'))
  (OL:∀scope N' qual A f c s H,Bk (iD X A qual scope N' f c s H) N' scope (k - 3)->j<=k - 3->d9 (iD X A qual scope N' f c s H) (lmb scope N')) {e:Expr}{f:Dl.Env->Option (List D)}(h:CY lam sc N T blk lmb e=some f):DF X e f:=by
 unfold CY at h
 split at h
 ·obtain⟨x,hx,rfl⟩:=ag h;exact L6 (dc O hx)
 ·rename_i elt gens scope ps
  match gens,h with
  | [⟨tg,iter,ifs,as⟩],h =>
   obtain⟨rfl,q⟩:=u3 C B O OB h
   exact q.df C.calm
 ·split at h
  ·obtain⟨x,hx,h⟩:=bs h
   obtain⟨y,hy,rfl⟩:=ag h
   exact Mh (O.f _ _ hx) (O.e _ _ hy)
  ·cases h
 ·obtain⟨x,hx,h⟩:=bs h
  obtain⟨y,hy,rfl⟩:=ag h
  exact LW (O.e _ _ hx) (O.e _ _ hy)
 ·split at h
  ·rename_i hk
   rw[zF] at hk
   have e1:=eq_of_beq hk.1
   have e2:=eq_of_beq hk.2
   subst e1 e2
   split at h
   ·cases h;exact AE C B hlam O OL ‹_›
   ·exact Al C B hlam O OL h
  ·cases h
 ·split at h
  ·rename_i hg
   rw[zF,Bool.not_eq_true'] at hg
   split at h
   ·rename_i hx
    subst hx
    obtain⟨x,hx,rfl⟩:=ag h
    exact Kz (C.blt B hg.1 (by decide +kernel) Jt) (dc O hx) (bJ hg.2)
   ·split at h
    ·rename_i hx
     subst hx
     obtain⟨x,hx,rfl⟩:=ag h
     exact DN (C.blt B hg.1 (by decide +kernel) oR) (dc O hx) (bJ hg.2)
    ·cases h
  ·cases h
 ·cases h
theorem Kw{lam:Option Str}(C:Bk X N sc k)(B:Bn X)(O:d9 X T){blk lmb:Scope->List Str->Tr}(OB:∀scope N' fp s H,Bk (bj X scope N' fp s H) N' scope k->d9 (bj X scope N' fp s H) (blk scope N'))
  {elt:Expr}{gens:List Comprehension}{scope:Scope}{p:Pos}{f:Dl.Env->Option (List D)}(h:CY lam sc N T blk lmb (.ListComp elt gens scope p)=some f):∃tg iter ifs,gens=[⟨tg,iter,ifs,0⟩]/\rP X tg iter ifs elt scope f:=by
 have h:vX sc N T blk elt gens scope=some f:=h
 match gens,h with
 | [⟨tg,iter,ifs,as⟩],h =>
  obtain⟨rfl,q⟩:=u3 C B O OB h
  exact⟨tg,iter,ifs,rfl,q⟩
theorem KZ(n:Nat):∀ {lam:Option Str}{X:Cx}{N:List Str}{sc:Scope}{k:Nat},Bk X N sc k->NM G X j->j<=k->(∀q,lam=some q->qp X q/\j+3<=k)->d9 X (tr G n lam sc N):=by
 induction n with
 | zero=>intro lam X N sc k C g hjk hlam;exact⟨fun _ _ _ _ _ h=>(by cases h),fun _ _ h=>(by cases h),fun _ _ h=>(by cases h),fun _ _ h=>(by cases h)⟩
 | succ n ih =>
  intro lam X N sc k C g hjk hlam
  have O:=ih C g hjk hlam
  exact⟨fun elt gens scope p f h=>Kw (lam:=lam) (lmb:=tr G n none) (p:=p) C g.bn O (fun scope N' fp s H C'=>ih C' ⟨g.fn,g.int,g.bn⟩ hjk fun q z=>by cases z) h,fun e f h=>FY C g hjk O h,
   fun e f h=>HG C g.bn hlam O (fun scope N' fp s H C'=>ih C' ⟨g.fn,g.int,g.bn⟩ hjk fun q z=>by cases z) (fun scope N' qual A f c s H C' hk=>ih C' ⟨g.fn,g.int,g.bn⟩ hk fun q z=>by cases z) h,
   fun e f h=>Ie C O h⟩
end
noncomputable def qK:Nat->Expr->List Str
 | 0,_=>[]
 | n+1,e=>match e with
  | .Name x _=>[x]
  | .UnaryOp _ a _=>qK n a
  | .BinOp a _ b _=>qK n a++qK n b
  | .BoolOp _ es _=>es.flatMap (qK n)
  | .Compare a _ cs _=>qK n a++cs.flatMap (qK n)
  | .IfExp c a b _=>qK n c++(qK n a++qK n b)
  | .Tuple es _ _=>es.flatMap (qK n)
  | .List es _=>es.flatMap (qK n)
  | .Subscript a b _=>qK n a++qK n b
  | .Slice lo hi st _=>(lo.toList++(hi.toList++st.toList)).flatMap (qK n)
  | .Call f args kws _=>qK n f++(args.flatMap (qK n)++kws.flatMap fun k=>qK n k.value)
  | .Attribute o _ _=>qK n o
  | .ListComp elt gens _ _=>qK n elt++gens.flatMap fun g=>qK n g.iter++g.ifs.flatMap (qK n)
  | .Lambda _ b _ _=>qK n b
  | _=>[]
noncomputable def sO(N:List Str)(e:Expr):List Nat:=let ns:=qK 60 e;(List.range N.length).filter fun j=>match N[j]? with|some x=>ns.contains x|none=>false
noncomputable abbrev GS:=aj->Option Out
noncomputable def turns:Nat:=1000000
noncomputable def Ac:Expr->Bool
 | .ListComp ..=>true
 | .SetComp ..=>true
 | .DictComp ..=>true
 | _=>false
noncomputable def Hn(sc:Scope)(N:List Str)(T:Tr)(x:Str)(px:Pos)(e:Expr):Option GS :=
 (N.idxOf? x).bind fun i=>if qq N sc i x=true then
  (if Cr e=true then (match e with
   | .ListComp _ _ scope lp =>
    if (decide (sc.names.lookup x=some .local)&&(px.line == lp.line&&!(scope.names.any fun (n,k)=>n == x&&(k == .local || k == .cell))))=true then (T.f e).map fun f=>bh i (sO N e) f
    else if decide (sc.names.lookup x=some .cell)=true then (T.f e).map fun f=>bh i (sO N e) f
    else if (px.line == lp.line)=false then (T.f e).map fun f=>bh i (sO N e) f
    else none
   | _=>(T.f e).map fun f=>bh i (sO N e) f)
  else if Ac e=false then (T.e e).map fun f=>aD i (sO N e) f else none) else none
noncomputable def Gq(N:List Str)(sc:Scope)(T:Tr)(e:Expr):Option GS:=match e with
 | .Constant (.str _) _ _=>some gq
 | .Call (.Attribute (.Name x _) m apos) args [] cpos =>
  (N.idxOf? x).bind fun i=>if (DK N sc i x&&apos.endLine == cpos.line&&args.all fun e=>!isStar e)=true then
   (if m="append" then (match args with
    | [a]=>(T.e a).map fun f=>mD i (sO N a) f
    | _=>none)
   else if m="extend" then (match args with
    | [a]=>(T.f a).map fun f=>xu i (sO N a) f
    | _=>none)
   else if m="insert" then (match args with
    | [a,b]=>(T.e a).bind fun fk=>(T.e b).map fun f=>E7 i (sO N b) fk f
    | _=>none)
   else none) else none
 | .Call (.Name _ _) _ _ _=>(T.e e).map dq
 | _=>none
noncomputable def P7(sc:Scope)(N:List Str)(tg:Expr):Option (aj->D->Option aj):=match tg with
 | .Name x _=>(N.idxOf? x).bind fun i=>if qq N sc i x=true then some (vI i) else none
 | .Tuple [.Name x _,.Name y _] _ _=>(N.idxOf? x).bind fun i=>(N.idxOf? y).bind fun j=>if (qq N sc i x&&qq N sc j y)=true then some (ie i j) else none
 | .Tuple [.Name x _,.Tuple [.Name y _,.Name z _,.Name w _] _ _] _ _=>(N.idxOf? x).bind fun i=>(N.idxOf? y).bind fun j=>(N.idxOf? z).bind fun k=>(N.idxOf? w).bind fun l=>if ((qq N sc i x&&qq N sc j y)&&(qq N sc k z&&qq N sc l w))=true then some (uS i j k l) else none
 | _=>none
noncomputable def HQ(sc:Scope)(N:List Str)(T:Tr)(x:Str)(kx e:Expr):Option GS :=
 (N.idxOf? x).bind fun i=>if (DK N sc i x&&!CK kx&&!Ac e)=true then (T.e kx).bind fun fk=>(T.e e).map fun f=>A3 i (sO N e) fk f else none
noncomputable def se(f:Stmt->Option GS):List Stmt->Option GS
 | []=>some gq
 | [s]=>f s
 | s::r=>(f s).bind fun g=>(se f r).map fun h=>av g h
noncomputable def Ij(sc:Scope)(N:List Str)(T:Tr):Nat->Stmt->Option GS
 | 0,_=>none
 | n+1,st=>match st with
  | .Return (some e) _=>(T.e e).map aJ
  | .If c a b _=>(T.t c).bind fun t=>(se (Ij sc N T n) a).bind fun g=>(se (Ij sc N T n) b).map fun h=>gy t g h
  | .Assign [.Name x px] e _=>Hn sc N T x px e
  | .Assign [.Subscript (.Name x _) kx _] e _=>HQ sc N T x kx e
  | .For tg iter body [] _=>(Pb sc T tg iter).bind fun fi=>(P7 sc N tg).bind fun t=>(se (Ij sc N T n) body).map fun g=>eD (sO N iter) fi t g
  | .While c body [] _=>(T.t c).bind fun t=>(se (Ij sc N T n) body).map fun g=>Ku t g turns
  | .Expr e _=>Gq N sc T e
  | .Raise ..=>some NK
  | .Pass _=>some gq
  | _=>none
section
variable {X:Cx}{N:List Str}{sc:Scope}{k:Nat}{T:Tr}{HF₀ H₀:Hp}{pos:Pos}
theorem jZ{f:Stmt->Option GS}(H:∀s g,f s=some g->DS X HF₀ H₀ s g):∀ {l:List Stmt}{g:GS},se f l=some g->EO X HF₀ H₀ l g
 | [],g,h=>by cases h;exact IR
 | [s],g,h=>I0 (H _ _ h)
 | s::t::r,g,h=>by
  unfold se at h
  obtain⟨x,hx,h⟩:=bs h
  obtain⟨y,hy,rfl⟩:=ag h
  exact FF (H _ _ hx) (jZ H hy)
theorem uK{e:Expr}{x:Str}{px:Pos}{line:Nat}{env:PySem.Env}(h:Ac e=false):swapsWith e (some (.Name x px)) line env=pure false:=by
 cases e<;>first|rfl|cases h
theorem HL(C:Bk X N sc k)(O:d9 X T){x:Str}{px:Pos}{e:Expr}{g:GS}(h:Hn sc N T x px e=some g):DS X HF₀ H₀ (.Assign [.Name x px] e pos) g:=by
 unfold Hn at h
 obtain⟨i,hi,h⟩:=bs h
 split at h
 ·rename_i hloc
  obtain⟨z1,z2,z3,z4⟩:=C.loc hloc
  split at h
  ·split at h
   ·rename_i elt gens scope lp hl
    split at h
    ·rename_i hc
     rw[zF] at hc
     obtain⟨f,hf,rfl⟩:=ag h
     obtain⟨tg,iter,ifs,rfl,q⟩:=O.c _ _ _ _ _ hf
     obtain⟨N',t,cs,fi,tgt,tt,te,rfl,S,hd,hfold,hY⟩:=q.ex
     exact JN i _ C.calm S hd hY z1 z2 (C.locl hc.1) (C.swap hc.1 hc.2) hfold
    ·split at h
     ·rename_i hc
      obtain⟨f,hf,rfl⟩:=ag h
      exact w4 i _ z1 z2 z3 (O.f _ _ hf) (C.noswap hc) z4
     ·split at h
      ·rename_i hc
       obtain⟨f,hf,rfl⟩:=ag h
       refine w4 i _ z1 z2 z3 (O.f _ _ hf) ?_ z4
       rw[sj,hc]
       simp
      ·cases h
   ·rename_i hl hn
    obtain⟨f,hf,rfl⟩:=ag h
    refine w4 i _ z1 z2 z3 (O.f _ _ hf) (uK ?_) z4
    cases e<;>first|rfl|exact absurd rfl (hn _ _ _ _)|(rename_i hl _;cases hl;done)
  ·split at h
   ·rename_i hc
    obtain⟨f,hf,rfl⟩:=ag h
    exact NA i _ z1 z2 z3 (O.e _ _ hf) (uK hc) z4
   ·cases h
 ·cases h
theorem Bu{env:PySem.Env}{es:List Expr}{cpos:Pos}(h:(es.all fun e=>!isStar e)=true)(hl:es.length < 20):((backTo cpos (starEach es env)).all (fun x=>!x.1)&&(backToKw cpos (keywordEach [] env)).all (fun x=>x.1.isSome)&&decide (es.length+([]:List Keyword).length+(if ([]:List Keyword).isEmpty then 0 else 1) < 30))=true:=by
 have h1:(backTo cpos (starEach es env)).all (fun x=>!x.1)=true:=by
  have:=dw (pos:=cpos) (env:=env) h
  rw[List.all_eq_not_any_not]
  simpa using this
 rw[h1]
 simp[backToKw,keywordEach]
 omega
theorem Hv(C:Bk X N sc k)(O:d9 X T){e:Expr}{g:GS}(h:Gq N sc T e=some g):DS X HF₀ H₀ (.Expr e pos) g:=by
 unfold Gq at h
 split at h
 ·cases h;exact Ln
 ·rename_i x px m apos args cpos
  replace h:=bs h
  obtain⟨i,hi,h⟩:=h
  split at h
  ·rename_i hv
   simp only[zF] at hv
   obtain⟨⟨hv,hline⟩,hs⟩:=hv
   obtain⟨z1,z2,z3,z4⟩:=C.vis hv
   split at h
   ·rename_i hm
    subst hm
    split at h
    ·obtain⟨f,hf,rfl⟩:=ag h
     exact Er i _ z1 z2 (O.e _ _ hf) z3 z4 (Bu hs (by simp)) hline (bJ (by simpa using hs))
    ·cases h
   ·split at h
    ·rename_i hm
     subst hm
     split at h
     ·obtain⟨f,hf,rfl⟩:=ag h
      exact EH i _ z1 z2 (O.f _ _ hf) z3 z4 (Bu hs (by simp)) hline (bJ (by simpa using hs))
     ·cases h
    ·split at h
     ·rename_i hm
      subst hm
      split at h
      ·obtain⟨fk,hfk,h⟩:=bs h
       obtain⟨f,hf,rfl⟩:=ag h
       have hs':=hs
       simp only[List.all_cons,List.all_nil,Bool.and_true,zF,Bool.not_eq_true'] at hs'
       exact Eu i _ z1 z2 (O.e _ _ hfk) (O.e _ _ hf) z3 z4 (Bu hs (by simp)) hline (bJ hs'.1) (bJ hs'.2)
      ·cases h
     ·cases h
  ·cases h
 ·obtain⟨f,hf,rfl⟩:=ag h
  exact IA rfl (O.e _ _ hf)
 ·cases h
theorem MJ(C:Bk X N sc k){tg:Expr}{t:aj->D->Option aj}(h:P7 sc N tg=some t):OO X HF₀ H₀ tg t:=by
 unfold P7 at h
 split at h
 ·obtain⟨i,hi,h⟩:=bs h
  split at h
  ·rename_i hl
   cases h
   have z:=C.loc hl
   exact Fq i z.1 z.2.1 z.2.2.1 z.2.2.2
  ·cases h
 ·obtain⟨i,hi,h⟩:=bs h
  obtain⟨j,hj,h⟩:=bs h
  split at h
  ·rename_i hl
   rw[zF] at hl
   cases h
   have z:=C.loc hl.1
   have w:=C.loc hl.2
   exact IF i j C.calm z.1 z.2.1 z.2.2.1 w.2.1 w.2.2.1 z.2.2.2 w.2.2.2
  ·cases h
 ·obtain⟨i,hi,h⟩:=bs h
  obtain⟨j,hj,h⟩:=bs h
  obtain⟨m,hm,h⟩:=bs h
  obtain⟨l,hl,h⟩:=bs h
  split at h
  ·rename_i hl
   rw[zF,zF,zF] at hl
   cases h
   have z:=C.loc hl.1.1
   have w:=C.loc hl.1.2
   have y:=C.loc hl.2.1
   have u:=C.loc hl.2.2
   exact LR i j m l C.calm z.1 z.2.1 z.2.2.1 w.2.1 w.2.2.1 y.2.1 y.2.2.1 u.2.1 u.2.2.1 z.2.2.2 w.2.2.2 y.2.2.2 u.2.2.2
  ·cases h
 ·cases h
theorem GA(C:Bk X N sc k)(O:d9 X T){x:Str}{px spos:Pos}{kx e:Expr}{g:GS}(h:HQ sc N T x kx e=some g):DS X HF₀ H₀ (.Assign [.Subscript (.Name x px) kx spos] e pos) g:=by
 unfold HQ at h
 obtain⟨i,hi,h⟩:=bs h
 split at h
 ·rename_i hv
  simp only[zF,Bool.not_eq_true'] at hv
  obtain⟨⟨hv,hc⟩,he⟩:=hv
  obtain⟨z1,z2,z3,z4⟩:=C.vis hv
  obtain⟨fk,hfk,h⟩:=bs h
  obtain⟨f,hf,rfl⟩:=ag h
  refine FN i _ z1 z2 (O.e _ _ hfk) (O.e _ _ hf) z3 z4 (fun v=>?_) ?_ ?_ rfl
  ·cases kx<;>first|rfl|cases hc
  ·cases e<;>first|rfl|cases he
  ·rfl
 ·cases h
theorem Bf(C:Bk X N sc k)(B:Bn X)(O:d9 X T):∀ (n:Nat) {st:Stmt}{g:GS},Ij sc N T n st=some g->DS X HF₀ H₀ st g
 | 0,st,g,h=>by cases h
 | n+1,st,g,h=>by
  have ih:=fun s g h=>Bf C B O n (st:=s) (g:=g) h
  unfold Ij at h
  split at h
  ·obtain⟨f,hf,rfl⟩:=ag h;exact Nb (O.e _ _ hf)
  ·obtain⟨t,ht,h⟩:=bs h
   obtain⟨a,ha,h⟩:=bs h
   obtain⟨b,hb,rfl⟩:=ag h
   exact OY (O.t _ _ ht) (jZ ih ha) (jZ ih hb)
  ·exact HL C O h
  ·exact GA C O h
  ·obtain⟨fi,hfi,h⟩:=bs h
   obtain⟨t,ht,h⟩:=bs h
   obtain⟨b,hb,rfl⟩:=ag h
   obtain⟨hd,hfold⟩:=FD C B O hfi
   exact LY _ C.pass C.calm hd (MJ C ht) (jZ ih hb) hfold
  ·obtain⟨t,ht,h⟩:=bs h
   obtain⟨b,hb,rfl⟩:=ag h
   exact HC _ C.pass (O.t _ _ ht) (jZ ih hb)
  ·exact Hv C O h
  ·cases h;exact Oz
  ·cases h;exact IQ
  ·cases h
end
section
variable {P:Program}{w:World}{K:W.Frag}{mg:Str->Option Value}{base:Heap}{j:Nat}
def mh(P:Program)(w:World)(K:W.Frag)(mg:Str->Option Value)(base:Heap)(j:Nat)(l:List (Str×Nat×(List D->Option D))):Prop:=∀x n m,l.lookup x=some (n,m)->dk P w K mg base j x n m
def k9(mg:Str->Option Value)(l:List (Str×Int)):Prop:=∀x i,l.lookup x=some i->∃t,mg x=some (.int i t)
theorem bE:mh P w K mg base j []:=fun _ _ _ h=>by cases h
theorem N1{x:Str}{n:Nat}{m:List D->Option D}{l:List (Str×Nat×(List D->Option D))}(F:dk P w K mg base j x n m)(h:mh P w K mg base j l):mh P w K mg base j ((x,n,m)::l):=fun y n' m' e=>by
 rw[yC] at e
 cases q:y == x with
 | true=>rw[q] at e;cases e;rw[eq_of_beq q];exact F
 | false=>rw[q] at e;exact h y n' m' e
theorem bG:k9 mg []:=fun _ _ h=>by cases h
theorem ux{x:Str}{i:Int}{l:List (Str×Int)}(F:∃t,mg x=some (.int i t))(h:k9 mg l):k9 mg ((x,i)::l):=fun y i' e=>by
 rw[yC] at e
 cases q:y == x with
 | true=>rw[q] at e;cases e;rw[eq_of_beq q];exact F
 | false=>rw[q] at e;exact h y i' e
theorem Ld{X:Cx}{N:List Str}{st:Stmt}{g:aj->Option Out}{fs:List (Str×Nat×(List D->Option D))}{is:List (Str×Int)}{HF₀ H₀:Hp}(C:Bk X N (aS st) j)(B:Bn X)(hf:mh X.prog X.w X.K X.mg X.base j fs)(hi:k9 X.mg is)
  (t:se (Ij (aS st) N (tr ⟨fs,is⟩ 40 none (aS st) N) 40) (cL st)=some g):EO X HF₀ H₀ (cL st) g :=
 jZ (fun s g h=>Bf C B (KZ (G:=⟨fs,is⟩) 40 C ⟨hf,hi,B⟩ (Nat.le_refl j) fun q z=>by cases z) 40 h) t
theorem QZ{x:Str}{st:Stmt}{ps N:List Str}{g:aj->Option Out}{fs:List (Str×Nat×(List D->Option D))}{is:List (Str×Int)}(D:bA K mg x st ps)(S:gC N ps (aS st))(B:∀x∈dv,mg x=none)(hf:mh P w K mg base j fs)(hi:k9 mg is)
  (t:se (Ij (aS st) N (tr ⟨fs,is⟩ 40 none (aS st) N) 40) (cL st)=some g):dk P w K mg base (j+1) x ps.length (bc g N.length):=by
 obtain⟨f,fd,hm,F,hb⟩:=D.ex
 exact QB F S hb hm fun X hP hw hK hm' hb' C _ _ HF H=>by subst hP;subst hw;subst hK;subst hm';subst hb';exact Ld C B hf hi t
theorem Rb{x q:Str}{st:Stmt}{ps N:List Str}{g:aj->Option Out}{fs:List (Str×Nat×(List D->Option D))}{is:List (Str×Int)}(D:GH K mg x st ps)(S:gC N ps (aS st))(B:∀x∈dv,mg x=none)(hf:mh P w K mg base j fs)(hi:k9 mg is)
  (hq:x∈kP/\x++".<locals>."++"<lambda>"=q) (t:se (Ij (aS st) N (tr ⟨fs,is⟩ 40 (some q) (aS st) N) 40) (cL st)=some g):dk P w K mg base (j+4) x ps.length (bc g N.length):=by
 obtain⟨f,fd,c,P',hm,F,hb,hc,hh⟩:=D.ex
 refine QB (k:=j+3) F S hb hm fun X hP hw hK hm' hb' C h1 h2 HF H=>?_
 subst hP;subst hw;subst hK;subst hm';subst hb'
 have L:qp X q:=by
  refine⟨c,P',by rw[h1,hc],by rw[h2];exact hq.2,hh,fun HF tb=>?_⟩
  obtain⟨oc,od,kV,doc,pm,an,cdv,ct,osl,rfl,lk,_⟩:=F.ex
  have:=tb f oc od _ osl c P' lk hq.1 hc hh
  rw[<- hq.2]
  exact this
 exact jZ (fun s g h=>Bf C B (KZ (G:=⟨fs,is⟩) (j:=j) 40 C ⟨hf,hi,B⟩ (Nat.le_add_right _ _) fun q' z=>by cases z;exact⟨L,Nat.le_refl _⟩) 40 h) t
end
noncomputable abbrev tW(s:Stmt)(N:List Str)(S:Sg)(l:Option Str):Option GS:=se (Ij (aS s) N (tr S 40 l (aS s) N) 40) (cL s)
theorem Qs{N P:List Str}{sc:Scope}(a:sc.kind=.function:=by rfl)(b:sc.isCoroutine=false:=by rfl)(c:sc.isGenerator=false:=by rfl)(d:N.Nodup:=by decide +kernel)(e:N.take P.length=P:=by rfl)(f:∀x∈P,sc.names.lookup x=some .local \/ sc.names.lookup x=some .cell:=by decide +kernel)(g:∀y∈sc.names,y.2≠.free:=by decide +kernel):gC N P sc:=⟨a,b,c,d,e,f,g⟩
section
variable {P:Program}{w:World}{K:W.Frag}{mg:Str->Option Value}{base:Heap}{i j:Nat}
theorem fm{x:Str}{n:Nat}{m:List D->Option D}{l:List (Str×Nat×(List D->Option D))}(F:dk P w K mg base i x n m)(h:mh P w K mg base j l)(e:i<=j:=by decide):mh P w K mg base j ((x,n,m)::l):=N1 (F.mono e) h
theorem eV{x:Str}{st:Stmt}{ps N:List Str}{g:aj->Option Out}{S:Sg}(D:bA K mg x st ps)(B:∀x∈dv,mg x=none)(hf:mh P w K mg base j S.fn)(hi:k9 mg S.int)(t:tW st N S none=some g)(F:gC N ps (aS st):=by exact Rf.Qs):dk P w K mg base (j+1) x ps.length (bc g N.length):=QZ D F B hf hi t
theorem QL{x q:Str}{st:Stmt}{ps N:List Str}{g:aj->Option Out}{S:Sg}(D:GH K mg x st ps)(B:∀x∈dv,mg x=none)(hf:mh P w K mg base j S.fn)(hi:k9 mg S.int)(t:tW st N S (some q)=some g)(F:gC N ps (aS st):=by exact Rf.Qs)(hq:x∈kP/\x++".<locals>."++"<lambda>"=q:=by decide +kernel):dk P w K mg base (j+4) x ps.length (bc g N.length):=Rb D F B hf hi hq t
end
end Rf
namespace Hd
open PySem L2 Dl PySem.Spec PyProof.Rows
section
variable {K:W.Frag}
theorem fIn{x:Str}{st:Stmt}{ps:List Str}{f c:Addr}{pm:Value}(hb:gc st ps)(a:W.nsIn K mainGlobals x=some (some (.ref f)))(l:K.lookup f=some (fo x st pm c))(d:W.codeIn K (.ref c) x=true)(k:W.keepIn K (.ref f)=true):aF K x st ps:=Oy hb a l d k
theorem lIn{x:Str}{st:Stmt}{ps:List Str}{f c:Addr}{pm:Value}(hb:gc st ps)(a:W.nsIn K mainGlobals x=some (some (.ref f)))(l:K.lookup f=some (fo x st pm c))(d:W.codeIn K (.ref c) x=true)(k:W.keepIn K (.ref f)=true)(hh:W.codeHdIn K c (HU K c)=true):o8 K x st ps:=OZ hb a l d k hh
end
section
variable {α:Type}{R:List α->Prop}
theorem ym(h:∀a,R [a])(us:List α)(e:us.length=1):R us:=by
 obtain⟨a,rfl⟩:=List.length_eq_one_iff.mp e;exact h a
theorem lenS{n:Nat}(us:List α)(e:us.length=n+1):∃a r,us=a::r/\r.length=n:=by
 cases us with
 | nil=>cases e
 | cons a r=>exact⟨a,r,rfl,by simpa using e⟩
theorem len2(h:∀a b,R [a,b])(us:List α)(e:us.length=2):R us:=by
 obtain⟨a,r,rfl,e'⟩:=lenS us e;exact ym (R:=fun r=>R (a::r)) (h a) r e'
theorem len3(h:∀a b c,R [a,b,c])(us:List α)(e:us.length=3):R us:=by
 obtain⟨a,r,rfl,e'⟩:=lenS us e;exact len2 (R:=fun r=>R (a::r)) (h a) r e'
theorem len4(h:∀a b c d,R [a,b,c,d])(us:List α)(e:us.length=4):R us:=by
 obtain⟨a,r,rfl,e'⟩:=lenS us e;exact len3 (R:=fun r=>R (a::r)) (h a) r e'
theorem len5(h:∀a b c d f,R [a,b,c,d,f])(us:List α)(e:us.length=5):R us:=by
 obtain⟨a,r,rfl,e'⟩:=lenS us e;exact len4 (R:=fun r=>R (a::r)) (h a) r e'
theorem len6(h:∀a b c d f g,R [a,b,c,d,f,g])(us:List α)(e:us.length=6):R us:=by
 obtain⟨a,r,rfl,e'⟩:=lenS us e;exact len5 (R:=fun r=>R (a::r)) (h a) r e'
end
section
variable {K:W.Frag}
theorem f1(f c:Addr)(pm:Value){x:Str}{st:Stmt}{ps:List Str}(hb:gc st ps:=by exact fun _ _ _ _ _ _ _ _ us hl=>ym (R:=fun us=>bindArgs _ ⟨us,[]⟩=pure (List.zip _ us)) (fun _=>rfl) us hl)(a:W.nsIn K mainGlobals x=some (some (.ref f)):=by kernel_rfl)(l:K.lookup f=some (fo x st pm c):=by kernel_rfl)(d:W.codeIn K (.ref c) x=true:=by kernel_rfl)(k:W.keepIn K (.ref f)=true:=by kernel_rfl):aF K x st ps:=fIn hb a l d k
theorem l1(f c:Addr)(pm:Value){x:Str}{st:Stmt}{ps:List Str}(hb:gc st ps:=by exact fun _ _ _ _ _ _ _ _ us hl=>ym (R:=fun us=>bindArgs _ ⟨us,[]⟩=pure (List.zip _ us)) (fun _=>rfl) us hl)(a:W.nsIn K mainGlobals x=some (some (.ref f)):=by kernel_rfl)(l:K.lookup f=some (fo x st pm c):=by kernel_rfl)(d:W.codeIn K (.ref c) x=true:=by kernel_rfl)(k:W.keepIn K (.ref f)=true:=by kernel_rfl)(hh:W.codeHdIn K c (HU K c)=true:=by kernel_rfl):o8 K x st ps:=lIn hb a l d k hh
theorem f2(f c:Addr)(pm:Value){x:Str}{st:Stmt}{ps:List Str}(hb:gc st ps:=by exact fun _ _ _ _ _ _ _ _ us hl=>len2 (R:=fun us=>bindArgs _ ⟨us,[]⟩=pure (List.zip _ us)) (fun _ _=>rfl) us hl)(a:W.nsIn K mainGlobals x=some (some (.ref f)):=by kernel_rfl)(l:K.lookup f=some (fo x st pm c):=by kernel_rfl)(d:W.codeIn K (.ref c) x=true:=by kernel_rfl)(k:W.keepIn K (.ref f)=true:=by kernel_rfl):aF K x st ps:=fIn hb a l d k
theorem f3(f c:Addr)(pm:Value){x:Str}{st:Stmt}{ps:List Str}(hb:gc st ps:=by exact fun _ _ _ _ _ _ _ _ us hl=>len3 (R:=fun us=>bindArgs _ ⟨us,[]⟩=pure (List.zip _ us)) (fun _ _ _=>rfl) us hl)(a:W.nsIn K mainGlobals x=some (some (.ref f)):=by kernel_rfl)(l:K.lookup f=some (fo x st pm c):=by kernel_rfl)(d:W.codeIn K (.ref c) x=true:=by kernel_rfl)(k:W.keepIn K (.ref f)=true:=by kernel_rfl):aF K x st ps:=fIn hb a l d k
theorem l3(f c:Addr)(pm:Value){x:Str}{st:Stmt}{ps:List Str}(hb:gc st ps:=by exact fun _ _ _ _ _ _ _ _ us hl=>len3 (R:=fun us=>bindArgs _ ⟨us,[]⟩=pure (List.zip _ us)) (fun _ _ _=>rfl) us hl)(a:W.nsIn K mainGlobals x=some (some (.ref f)):=by kernel_rfl)(l:K.lookup f=some (fo x st pm c):=by kernel_rfl)(d:W.codeIn K (.ref c) x=true:=by kernel_rfl)(k:W.keepIn K (.ref f)=true:=by kernel_rfl)(hh:W.codeHdIn K c (HU K c)=true:=by kernel_rfl):o8 K x st ps:=lIn hb a l d k hh
theorem f4(f c:Addr)(pm:Value){x:Str}{st:Stmt}{ps:List Str}(hb:gc st ps:=by exact fun _ _ _ _ _ _ _ _ us hl=>len4 (R:=fun us=>bindArgs _ ⟨us,[]⟩=pure (List.zip _ us)) (fun _ _ _ _=>rfl) us hl)(a:W.nsIn K mainGlobals x=some (some (.ref f)):=by kernel_rfl)(l:K.lookup f=some (fo x st pm c):=by kernel_rfl)(d:W.codeIn K (.ref c) x=true:=by kernel_rfl)(k:W.keepIn K (.ref f)=true:=by kernel_rfl):aF K x st ps:=fIn hb a l d k
theorem f5(f c:Addr)(pm:Value){x:Str}{st:Stmt}{ps:List Str}(hb:gc st ps:=by exact fun _ _ _ _ _ _ _ _ us hl=>len5 (R:=fun us=>bindArgs _ ⟨us,[]⟩=pure (List.zip _ us)) (fun _ _ _ _ _=>rfl) us hl)(a:W.nsIn K mainGlobals x=some (some (.ref f)):=by kernel_rfl)(l:K.lookup f=some (fo x st pm c):=by kernel_rfl)(d:W.codeIn K (.ref c) x=true:=by kernel_rfl)(k:W.keepIn K (.ref f)=true:=by kernel_rfl):aF K x st ps:=fIn hb a l d k
theorem f6(f c:Addr)(pm:Value){x:Str}{st:Stmt}{ps:List Str}(hb:gc st ps:=by exact fun _ _ _ _ _ _ _ _ us hl=>len6 (R:=fun us=>bindArgs _ ⟨us,[]⟩=pure (List.zip _ us)) (fun _ _ _ _ _ _=>rfl) us hl)(a:W.nsIn K mainGlobals x=some (some (.ref f)):=by kernel_rfl)(l:K.lookup f=some (fo x st pm c):=by kernel_rfl)(d:W.codeIn K (.ref c) x=true:=by kernel_rfl)(k:W.keepIn K (.ref f)=true:=by kernel_rfl):aF K x st ps:=fIn hb a l d k
end
end Hd
namespace Pg
open PySem L2 Dl PySem.Spec PyProof.Rows
abbrev AS:List Str:=["thing","least","most"]
noncomputable def mS:aj->Option Out:=(av (gy (Bg (bM (fB (Lh "int" (ab 0)))) (fB (Lh "bool" (ab 0)))) (aJ (fC (.bool false))) gq) (aJ (k4 Da Da (ab 1) (ab 0) (ab 2))))
noncomputable def ba:List D->Option D:=bc mS 3
abbrev yo:List Str:=["thing","many"]
noncomputable def kN:aj->Option Out:=(aJ (ah 3 ba (aa (ab 0) (aa (fC (.int 0)) (aa (f2 Dl.eU (ab 1) (fC (.int 1))) ae)))))
noncomputable def cg:List D->Option D:=bc kN 2
abbrev Ed:List Str:=["thing","least","most"]
noncomputable def oi:aj->Option Out:=(aJ (l5 (Lh "tuple" (ab 0)) (k4 Da Da (ab 1) (br bR (aa (ab 0) ae)) (ab 2))))
noncomputable def bx:List D->Option D:=bc oi 3
abbrev xY:List Str:=["thing","many"]
noncomputable def ll:aj->Option Out:=(av (gy (bM (fB (Lh "tuple" (ab 0)))) (aJ (fC (.bool false))) gq) (av (gy (bM (fB (br l7 (aa (cD (au 1 [1] (aV (ab 0)) (fG 0) (fun _=>some true) (ah 2 cg (aa (ab 0) (aa (ab 1) ae))))) ae)))) (aJ (fC (.bool false))) gq) (aJ (f2 b9 (f1 lK (ab 0)) (br bR (aa (ab 0) ae))))))
noncomputable def fR:List D->Option D:=bc ll 2
abbrev GW:List Str:=["thing","many"]
noncomputable def rY:aj->Option Out:=(aJ (l5 (ah 3 bx (aa (ab 0) (aa (fC (.int 2)) (aa (fC (.int 2)) ae)))) (l5 (ah 3 ba (aa (f2 ak (ab 0) (fC (.int 0))) (aa (fC (.int 0)) (aa (fC (.int 9)) ae)))) (ah 2 fR (aa (f2 ak (ab 0) (fC (.int 1))) (aa (ab 1) ae))))))
noncomputable def f7:List D->Option D:=bc rY 2
abbrev Gr:List Str:=["thing","givers","takers"]
noncomputable def r9:aj->Option Out:=(av (gy (bM (fB (ah 3 bx (aa (ab 0) (aa (fC (.int 3)) (aa (fC (.int 3)) ae)))))) (aJ (fC (.bool false))) gq) (aJ (l5 (ah 2 cg (aa (f2 ak (ab 0) (fC (.int 0))) (aa (ab 1) ae))) (l5 (ah 2 cg (aa (f2 ak (ab 0) (fC (.int 1))) (aa (ab 2) ae))) (ah 3 ba (aa (f2 ak (ab 0) (fC (.int 2))) (aa (fC (.int 1)) (aa (fC (.int 9)) ae))))))))
noncomputable def jy:List D->Option D:=bc r9 3
abbrev yS:List Str:=["givers","takers","ways"]
noncomputable def k8:aj->Option Out:=(av (gy (Bg (bM (fB (ah 3 bx (aa (ab 0) (aa (fC (.int 1)) (aa (fC (.int 4)) ae)))))) (bM (fB (ah 3 bx (aa (ab 1) (aa (fC (.int 1)) (aa (fC (.int 4)) ae))))))) (aJ (fC (.bool false))) gq) (av (gy (bM (fB (br l7 (aa (cD (au 1 [1] (aV (ab 0)) (fG 0) (fun _=>some true) (ah 2 f7 (aa (ab 0) (aa (br bR (aa (ab 1) ae)) ae))))) ae)))) (aJ (fC (.bool false))) gq) (av (gy (bM (fB (br l7 (aa (cD (au 1 [0] (aV (ab 1)) (fG 0) (fun _=>some true) (ah 2 f7 (aa (ab 0) (aa (br bR (aa (ab 1) ae)) ae))))) ae)))) (aJ (fC (.bool false))) gq) (aJ (l5 (Lh "tuple" (ab 2)) (br l7 (aa (cD (au 1 [0,1] (aV (ab 2)) (fG 0) (fun _=>some true) (ah 3 jy (aa (ab 0) (aa (br bR (aa (ab 1) ae)) (aa (br bR (aa (ab 2) ae)) ae)))))) ae)))))))
noncomputable def fZ:List D->Option D:=bc k8 3
abbrev tO:List Str:=["places","pairs","number","place"]
noncomputable def iL:aj->Option Out:=(av (bh 1 [] (kl ae)) (av (eD [0] (bN (aa (ab 0) ae)) (ie 2 3) (xu 1 [2,3] (au 1 [2] (aV (f2 ak (ab 3) (fC (.int 1)))) (fG 0) (fun _=>some true) (aP (aa (ab 1) (aa (ab 0) ae)))))) (aJ (ab 1))))
noncomputable def bQ:List D->Option D:=bc iL 4
abbrev AX:List Str:=["thing","joined","by_givers","by_takers"]
noncomputable def gR:aj->Option Out:=(av (gy (Bg (bM (fB (ah 3 bx (aa (ab 0) (aa (fC (.int 3)) (aa (fC (.int 3)) ae)))))) (bM (fB (ah 3 fZ (aa (f2 ak (ab 0) (fC (.int 0))) (aa (f2 ak (ab 0) (fC (.int 1))) (aa (f2 ak (ab 0) (fC (.int 2))) ae))))))) (aJ (fC (.bool false))) gq) (av (bh 1 [0] (au 1 [] (aV (f2 ak (ab 0) (fC (.int 2)))) (fG 0) (fun _=>some true) (aP (aa (f2 ak (ab 0) (fC (.int 0))) (aa (f2 ak (ab 0) (fC (.int 1))) ae))))) (av (bh 2 [0] (mJ dC (aa (ah 1 bQ (aa (f2 ak (ab 0) (fC (.int 0))) ae)) ae))) (av (bh 3 [0] (mJ dC (aa (cD (au 2 [] (aV (ah 1 bQ (aa (f2 ak (ab 0) (fC (.int 1))) ae))) (ir 0 1) (fun _=>some true) (aP (aa (ab 1) (aa (ab 0) ae))))) ae))) (aJ (l5 (f2 b9 (ab 1) (ab 2)) (f2 b9 (ab 1) (ab 3))))))))
noncomputable def cQ:List D->Option D:=bc gR 4
abbrev sD:List Str:=["world"]
noncomputable def dS:aj->Option Out:=(gy (bM (fB (ah 1 cQ (aa (ab 0) ae)))) NK gq)
noncomputable def aK:List D->Option D:=bc dS 1
abbrev tP:List Str:=["thing","least","most"]
noncomputable def dP:aj->Option Out:=(gy (bM (fB (ah 3 ba (aa (ab 0) (aa (ab 1) (aa (ab 2) ae)))))) NK gq)
noncomputable def bB:List D->Option D:=bc dP 3
abbrev sf:List Str:=["thing","many"]
noncomputable def dA:aj->Option Out:=(dq (ah 3 bB (aa (ab 0) (aa (fC (.int 0)) (aa (f2 Dl.eU (ab 1) (fC (.int 1))) ae)))))
noncomputable def aA:List D->Option D:=bc dA 2
abbrev wA:List Str:=["thing"]
noncomputable def eL:aj->Option Out:=(dq (ah 2 aA (aa (ab 0) (aa (fC (.int 2)) ae))))
noncomputable def dH:List D->Option D:=bc eL 1
abbrev AN:List Str:=["parts","number","part"]
noncomputable def gU:aj->Option Out:=(aJ (f2 aG (f2 aG (gT dz (ab 0) gO (qH (ab 1))) (aP (aa (ab 2) ae))) (gT dz (ab 0) (qH (f2 aG (ab 1) (fC (.int 1)))) gO)))
noncomputable def bU:List D->Option D:=bc gU 3
abbrev DJ:List Str:=["world","side","place","ways","likes","own"]
noncomputable def lJ:aj->Option Out:=(av (aD 3 [0] (f2 ak (ab 0) (fC (.int 2)))) (av (aD 4 [0,1,2] (f2 ak (f2 ak (f2 ak (ab 0) (ab 1)) (ab 2)) (fC (.int 1)))) (av (bh 5 [1,2,3] (au 2 [1,2] (bN (aa (ab 3) ae)) (ir 0 1) (fB (f2 b9 (f2 ak (ab 1) (ab 2)) (ab 3))) (ab 0))) (aJ (cD (oD [1,3,4] (ab 5) (f2 il (ab 3) (f2 ak (f2 ak (ab 2) (ab 0)) (f2 Dl.eU (fC (.int 1)) (ab 1))))))))))
noncomputable def cf:List D->Option D:=bc lJ 6
abbrev xP:List Str:=["world","side","place","offers","chosen","left","number"]
noncomputable def iy:aj->Option Out:=(av (bh 4 [0] (au 1 [] (aV (f2 ak (ab 0) (fC (.int 2)))) (fG 0) (fun _=>some true) (fC (.int 0)))) (av (aD 5 [0,1,2] (f2 ak (f2 ak (f2 ak (ab 0) (ab 1)) (ab 2)) (fC (.int 0)))) (av (eD [0,1,2] (aV (ah 3 cf (aa (ab 0) (aa (ab 1) (aa (ab 2) ae))))) (vI 6) (av (A3 4 [0,3,5,6] (ab 6) (br zj (aa (f2 ak (ab 3) (ab 6)) (aa (f2 ak (f2 ak (f2 ak (ab 0) (fC (.int 2))) (ab 6)) (fC (.int 2))) (aa (ab 5) ae))))) (aD 5 [4,5,6] (f2 Dl.eU (ab 5) (f2 ak (ab 4) (ab 6)))))) (aJ (br aZ (aa (ab 4) ae))))))
noncomputable def bY:List D->Option D:=bc iy 7
abbrev pN:List Str:=["world","side","offers","sums","place","chosen"]
noncomputable def dW:aj->Option Out:=(av (bh 3 [0] (au 1 [] (aV (f2 ak (ab 0) (fC (.int 2)))) (fG 0) (fun _=>some true) (fC (.int 0)))) (av (eD [0,1] (bC (aa (br bR (aa (f2 ak (ab 0) (ab 1)) ae)) ae)) (vI 4) (av (aD 5 [0,1,2,4] (ah 4 bY (aa (ab 0) (aa (ab 1) (aa (ab 4) (aa (ab 2) ae)))))) (bh 3 [3,5] (au 2 [] (gP (aa (ab 3) (aa (ab 5) ae))) (ir 0 1) (fun _=>some true) (f2 aG (ab 0) (ab 1)))))) (aJ (br aZ (aa (ab 3) ae)))))
noncomputable def bq:List D->Option D:=bc dW 6
abbrev FP:List Str:=["world"]
noncomputable def sk:aj->Option Out:=(aJ (br aZ (aa (cD (au 1 [] (aV (f2 ak (ab 0) (fC (.int 2)))) (fG 0) (fun _=>some true) (f2 ak (ab 0) (fC (.int 2))))) ae)))
noncomputable def fW:List D->Option D:=bc sk 1
abbrev Ee:List Str:=["caps","way","cap"]
noncomputable def oC:aj->Option Out:=(aJ (ah 3 bU (aa (ab 0) (aa (ab 1) (aa (ab 2) ae)))))
noncomputable def cE:List D->Option D:=bc oC 3
abbrev EG:List Str:=["world","caps","given","kept","way","many"]
noncomputable def lY:aj->Option Out:=(av (aD 2 [0,1] (ah 3 bq (aa (ab 0) (aa (fC (.int 0)) (aa (ab 1) ae))))) (av (aD 3 [0,2] (ah 3 bq (aa (ab 0) (aa (fC (.int 1)) (aa (ab 2) ae))))) (av (eD [3] (bN (aa (ab 3) ae)) (ie 4 5) (gy (fB (f2 uQ (ab 5) (f2 ak (ab 2) (ab 4)))) (aJ (aP (aa (ab 4) (aa (ab 5) ae)))) gq)) (aJ (fC .none)))))
noncomputable def eu:List D->Option D:=bc lY 6
abbrev J1:List Str:=["world","rows","caps","row"]
noncomputable def pX:aj->Option Out:=(av (bh 1 [] (kl ae)) (av (aD 2 [0] (ah 1 fW (aa (ab 0) ae))) (av (aD 3 [0,2] (ah 2 eu (aa (ab 0) (aa (ab 2) ae)))) (av (Ku (fB (f2 pq (ab 3) (fC .none))) (av (mD 1 [3] (ab 3)) (av (aD 2 [2,3] (ah 3 cE (aa (ab 2) (aa (f2 ak (ab 3) (fC (.int 0))) (aa (f2 ak (ab 3) (fC (.int 1))) ae))))) (aD 3 [0,2] (ah 2 eu (aa (ab 0) (aa (ab 2) ae)))))) Rf.turns) (aJ (ab 1))))))
noncomputable def qh:List D->Option D:=bc pX 4
abbrev EZ:List Str:=["world","rows","caps","way","cap"]
noncomputable def nV:aj->Option Out:=(av (aD 2 [0] (ah 1 fW (aa (ab 0) ae))) (av (eD [1] (aV (ab 1)) (ie 3 4) (aD 2 [2,3,4] (ah 3 cE (aa (ab 2) (aa (ab 3) (aa (ab 4) ae)))))) (aJ (ab 2))))
noncomputable def nC:List D->Option D:=bc nV 5
abbrev tQ:List Str:=["world"]
noncomputable def fE:aj->Option Out:=(av (dq (ah 1 aK (aa (ab 0) ae))) (aJ (ah 3 bq (aa (ab 0) (aa (fC (.int 0)) (aa (ah 2 nC (aa (ab 0) (aa (ah 1 qh (aa (ab 0) ae)) ae))) ae))))))
noncomputable def bb:List D->Option D:=bc fE 1
abbrev yr:List Str:=["_law_script","_law_k"]
noncomputable def iw:aj->Option Out:=(av (gy (fB (f2 b9 (ab 0) (cD (kl ae)))) (aJ (f2 ip (fC (.int 7)) (ab 1))) gq) (aJ (f2 aG (f2 ak (ab 0) (f2 l8 (ab 1) (br bR (aa (ab 0) ae)))) (f2 ip (fC (.int 6553)) (f2 n8 (ab 1) (br bR (aa (ab 0) ae)))))))
noncomputable def eC:List D->Option D:=bc iw 2
abbrev vp:List Str:=["_law_script","_law_k","_law_many","_law_cell_here"]
noncomputable def jI:aj->Option Out:=(av (aD 3 [0,1] (f2 l8 (f2 aG (f2 ip (f2 l8 (ah 2 eC (aa (ab 0) (aa (ab 1) ae))) (fC (.int 2147483563))) (fC (.int 69069))) (f2 ip (fC (.int 104723)) (f2 aG (ab 1) (fC (.int 1))))) (fC (.int 2147483563)))) (av (aD 3 [3] (f2 l8 (f2 aG (f2 ip (ab 3) (ab 3)) (f2 n8 (ab 3) (fC (.int 3)))) (fC (.int 2147483399)))) (aJ (f2 l8 (f2 n8 (f2 l8 (f2 aG (f2 ip (ab 3) (ab 3)) (f2 n8 (ab 3) (fC (.int 7)))) (fC (.int 2147483647))) (fC (.int 11))) (ab 2)))))
noncomputable def ao:List D->Option D:=bc jI 4
abbrev sV:List Str:=["_law_script","_law_at","_law_rows","_law_found","_law_k","_law_row","_law_order","_law_j","_law_one"]
noncomputable def iZ:aj->Option Out:=(av (bh 3 [] (kl ae)) (av (eD [2] (bN (aa (ab 2) ae)) (ie 4 5) (av (bh 6 [] (kl ae)) (av (eD [5] (bN (aa (ab 5) ae)) (ie 7 8) (E7 6 [8] (ah 3 ao (aa (ab 0) (aa (f2 aG (f2 aG (ab 1) (f2 ip (fC (.int 4)) (ab 4))) (ab 7)) (aa (f2 aG (br bR (aa (ab 6) ae)) (fC (.int 1))) ae)))) (ab 8))) (mD 3 [6] (br aZ (aa (ab 6) ae)))))) (aJ (ab 3))))
noncomputable def bX:List D->Option D:=bc iZ 9
abbrev vc:List Str:=["_law_script","_law_at","_law_most","_law_each","_law_takers","_law_many","_law_size","_law_ways","_law_k","_law_mine","_law_yours","_law_givers"]
noncomputable def eJ:aj->Option Out:=(av (gy (cX (fB (f2 Fk (ab 2) (fC (.int 3)))) (fB (f2 b9 (ah 3 ao (aa (ab 0) (aa (f2 aG (ab 1) (fC (.int 64))) (aa (fC (.int 4)) ae)))) (fC (.int 0))))) (av (aD 3 [0,1] (f2 aG (fC (.int 1)) (ah 3 ao (aa (ab 0) (aa (f2 aG (ab 1) (fC (.int 65))) (aa (fC (.int 2)) ae)))))) (av (aD 4 [3] (aP (aa (aP (aa (ab 3) (aa (aP (aa (fC (.int 1)) (aa (fC (.int 0)) ae))) ae))) (aa (aP (aa (ab 3) (aa (aP (aa (fC (.int 0)) (aa (fC (.int 1)) ae))) ae))) ae)))) (aJ (aP (aa (aP (aa (aP (aa (ab 3) (aa (aP (aa (fC (.int 0)) (aa (fC (.int 1)) ae))) ae))) (aa (aP (aa (ab 3) (aa (aP (aa (fC (.int 1)) (aa (fC (.int 0)) ae))) ae))) ae))) (aa (ab 4) (aa (aP (aa (aP (aa (fC (.int 0)) (aa (fC (.int 0)) (aa (fC (.int 2)) ae)))) (aa (aP (aa (fC (.int 0)) (aa (fC (.int 1)) (aa (fC (.int 2)) ae)))) (aa (aP (aa (fC (.int 1)) (aa (fC (.int 0)) (aa (fC (.int 2)) ae)))) (aa (aP (aa (fC (.int 1)) (aa (fC (.int 1)) (aa (fC (.int 2)) ae)))) ae))))) ae))))))) gq) (av (aD 5 [0,1] (f2 aG (fC (.int 1)) (ah 3 ao (aa (ab 0) (aa (ab 1) (aa (fC (.int 3)) ae)))))) (av (aD 6 [0,1] (f2 aG (fC (.int 1)) (ah 3 ao (aa (ab 0) (aa (f2 aG (ab 1) (fC (.int 1))) (aa (fC (.int 3)) ae)))))) (av (bh 7 [] (kl ae)) (av (eD [5,6] (bC (aa (f2 ip (ab 5) (ab 6)) ae)) (vI 8) (gy (cX (fB (f2 uQ (br bR (aa (ab 7) ae)) (ab 2))) (fB (f2 Fk (ah 3 ao (aa (ab 0) (aa (f2 aG (f2 aG (ab 1) (fC (.int 2))) (ab 8)) (aa (fC (.int 4)) ae)))) (fC (.int 0))))) (mD 7 [0,1,6,8] (aP (aa (f2 n8 (ab 8) (ab 6)) (aa (f2 l8 (ab 8) (ab 6)) (aa (f2 aG (fC (.int 1)) (ah 3 ao (aa (ab 0) (aa (f2 aG (f2 aG (ab 1) (fC (.int 12))) (ab 8)) (aa (fC (.int 2)) ae))))) ae))))) gq)) (av (aD 9 [0,1,5,7] (ah 3 bX (aa (ab 0) (aa (f2 aG (ab 1) (fC (.int 24))) (aa (cD (au 1 [7] (bC (aa (ab 5) ae)) (fG 0) (fun _=>some true) (cD (au 1 [0] (aV (ab 1)) (fG 0) (fB (f2 b9 (f2 ak (ab 0) (fC (.int 0))) (ab 1))) (f2 ak (ab 0) (fC (.int 1))))))) ae))))) (av (aD 10 [0,1,6,7] (ah 3 bX (aa (ab 0) (aa (f2 aG (ab 1) (fC (.int 40))) (aa (cD (au 1 [7] (bC (aa (ab 6) ae)) (fG 0) (fun _=>some true) (cD (au 1 [0] (aV (ab 1)) (fG 0) (fB (f2 b9 (f2 ak (ab 0) (fC (.int 1))) (ab 1))) (f2 ak (ab 0) (fC (.int 0))))))) ae))))) (av (aD 11 [0,1,8,9] (br aZ (aa (cD (au 2 [0,1] (bN (aa (ab 9) ae)) (ir 0 1) (fun _=>some true) (aP (aa (ah 3 ao (aa (ab 2) (aa (f2 aG (f2 aG (ab 3) (fC (.int 56))) (ab 0)) (aa (fC (.int 4)) ae)))) (aa (ab 1) ae))))) ae))) (av (aD 4 [0,1,8,10] (br aZ (aa (cD (au 2 [0,1] (bN (aa (ab 10) ae)) (ir 0 1) (fun _=>some true) (aP (aa (ah 3 ao (aa (ab 2) (aa (f2 aG (f2 aG (ab 3) (fC (.int 60))) (ab 0)) (aa (fC (.int 4)) ae)))) (aa (ab 1) ae))))) ae))) (aJ (aP (aa (ab 11) (aa (ab 4) (aa (br aZ (aa (ab 7) ae)) ae))))))))))))))
noncomputable def cP:List D->Option D:=bc eJ 12
abbrev Ew:List Str:=["world","plan","side","place"]
noncomputable def ou:aj->Option Out:=(aJ (br EF (aa (cD (au 2 [2,3] (gP (aa (f2 ak (ab 0) (fC (.int 2))) (aa (ab 1) ae))) (ir 0 1) (fB (f2 b9 (f2 ak (ab 0) (ab 2)) (ab 3))) (ab 1))) ae)))
noncomputable def bz:List D->Option D:=bc ou 4
abbrev pJ:List Str:=["world","plan","side"]
noncomputable def gn:aj->Option Out:=(aJ (br l7 (aa (cD (au 2 [0,1,2] (bN (aa (f2 ak (ab 0) (ab 2)) ae)) (ir 0 1) (fun _=>some true) (f2 Da (ah 4 bz (aa (ab 2) (aa (ab 3) (aa (ab 4) (aa (ab 0) ae))))) (f2 ak (ab 1) (fC (.int 0)))))) ae)))
noncomputable def cU:List D->Option D:=bc gn 3
abbrev EJ:List Str:=["world","thing","ways"]
noncomputable def lV:aj->Option Out:=(av (aD 2 [0] (f2 ak (ab 0) (fC (.int 2)))) (av (gy (bM (fB (ah 3 bx (aa (ab 1) (aa (br bR (aa (ab 2) ae)) (aa (br bR (aa (ab 2) ae)) ae)))))) (aJ (fC (.bool false))) gq) (av (gy (bM (fB (br l7 (aa (cD (au 2 [] (gP (aa (ab 2) (aa (ab 1) ae))) (ir 0 1) (fun _=>some true) (ah 3 ba (aa (ab 1) (aa (fC (.int 0)) (aa (f2 ak (ab 0) (fC (.int 2))) ae)))))) ae)))) (aJ (fC (.bool false))) gq) (aJ (l5 (ah 3 cU (aa (ab 0) (aa (ab 1) (aa (fC (.int 0)) ae)))) (ah 3 cU (aa (ab 0) (aa (ab 1) (aa (fC (.int 1)) ae)))))))))
noncomputable def jz:List D->Option D:=bc lV 3
abbrev wM:List Str:=["world","plan"]
noncomputable def eN:aj->Option Out:=(av (dq (ah 1 aK (aa (ab 0) ae))) (gy (bM (fB (ah 2 jz (aa (ab 0) (aa (ab 1) ae))))) NK gq))
noncomputable def bf:List D->Option D:=bc eN 2
abbrev rK:List Str:=["world","ways"]
noncomputable def eK:aj->Option Out:=(av (aD 1 [0] (f2 ak (ab 0) (fC (.int 2)))) (aJ (cD (qx [1] (aa (br bR (aa (ab 1) ae)) ae) (aP (aa (f2 ak (f2 ak (ab 1) (ab 0)) (fC (.int 1))) (aa (f2 ak (f2 ak (ab 1) (ab 0)) (fC (.int 0))) ae)))))))
noncomputable def bp:List D->Option D:=bc eK 2
abbrev GB:List Str:=["world","ways"]
noncomputable def nW:aj->Option Out:=(av (dq (ah 1 aK (aa (ab 0) ae))) (av (bh 1 [0] (au 1 [0] (aV (ah 1 bp (aa (ab 0) ae))) (fG 0) (fun _=>some true) (f2 ak (f2 ak (ab 1) (fC (.int 2))) (ab 0)))) (aJ (aP (aa (f2 ak (ab 0) (fC (.int 1))) (aa (f2 ak (ab 0) (fC (.int 0))) (aa (br aZ (aa (cD (au 3 [] (aV (ab 1)) (Il 0 1 2) (fun _=>some true) (aP (aa (ab 1) (aa (ab 0) (aa (ab 2) ae)))))) ae)) ae)))))))
noncomputable def k6:List D->Option D:=bc nW 2
abbrev sU:List Str:=["world","plan"]
noncomputable def fN:aj->Option Out:=(av (dq (ah 2 bf (aa (ab 0) (aa (ab 1) ae)))) (aJ (br aZ (aa (cD (au 1 [1] (aV (ah 1 bp (aa (ab 0) ae))) (fG 0) (fun _=>some true) (f2 ak (ab 1) (ab 0)))) ae))))
noncomputable def fI:List D->Option D:=bc fN 2
abbrev Mu:List Str:=["world","plan","giver"]
noncomputable def vT:aj->Option Out:=(av (dq (ah 2 bf (aa (ab 0) (aa (ab 1) ae)))) (av (dq (ah 2 aA (aa (ab 2) (aa (br bR (aa (f2 ak (ab 0) (fC (.int 0))) ae)) ae)))) (aJ (ah 4 bz (aa (ab 0) (aa (ab 1) (aa (fC (.int 0)) (aa (ab 2) ae))))))))
noncomputable def oO:List D->Option D:=bc vT 3
abbrev Jo:List Str:=["world","plan","taker"]
noncomputable def qf:aj->Option Out:=(av (dq (ah 2 bf (aa (ab 0) (aa (ab 1) ae)))) (av (dq (ah 2 aA (aa (ab 2) (aa (br bR (aa (f2 ak (ab 0) (fC (.int 1))) ae)) ae)))) (aJ (ah 4 bz (aa (ab 0) (aa (ab 1) (aa (fC (.int 1)) (aa (ab 2) ae))))))))
noncomputable def lT:List D->Option D:=bc qf 3
abbrev vF:List Str:=["world","plan","side","way","place","own","less_liked"]
noncomputable def gH:aj->Option Out:=(av (aD 4 [0,2,3] (f2 ak (f2 ak (f2 ak (ab 0) (fC (.int 2))) (ab 3)) (ab 2))) (av (gy (fB (f2 uQ (ah 4 bz (aa (ab 0) (aa (ab 1) (aa (ab 2) (aa (ab 4) ae))))) (f2 ak (f2 ak (f2 ak (ab 0) (ab 2)) (ab 4)) (fC (.int 0))))) (aJ (fC (.bool true))) gq) (av (aD 5 [0,2,4] (ah 3 cf (aa (ab 0) (aa (ab 2) (aa (ab 4) ae))))) (av (aD 6 [3,5] (gT dz (ab 5) (qH (f2 aG (f2 il (ab 5) (ab 3)) (fC (.int 1)))) gO)) (aJ (br Rf.G8 (aa (cD (au 1 [1] (aV (ab 6)) (fG 0) (fun _=>some true) (f2 Fk (f2 ak (ab 1) (ab 0)) (fC (.int 0))))) ae)))))))
noncomputable def cR:List D->Option D:=bc gH 7
abbrev A0:List Str:=["world","plan","way"]
noncomputable def jM:aj->Option Out:=(av (gy (fB (f2 b9 (f2 ak (ab 1) (ab 2)) (f2 ak (f2 ak (f2 ak (ab 0) (fC (.int 2))) (ab 2)) (fC (.int 2))))) (aJ (fC (.str "full"))) gq) (av (gy (bM (fB (ah 4 cR (aa (ab 0) (aa (ab 1) (aa (fC (.int 0)) (aa (ab 2) ae))))))) (aJ (fC (.str "giver"))) gq) (av (gy (bM (fB (ah 4 cR (aa (ab 0) (aa (ab 1) (aa (fC (.int 1)) (aa (ab 2) ae))))))) (aJ (fC (.str "taker"))) gq) (aJ (fC .none)))))
noncomputable def fg:List D->Option D:=bc jM 3
abbrev pQ:List Str:=["world","plan","way"]
noncomputable def d6:aj->Option Out:=(av (eD [1] (bC (aa (br bR (aa (ab 1) ae)) ae)) (vI 2) (gy (fB (f2 tX (ah 3 fg (aa (ab 0) (aa (ab 1) (aa (ab 2) ae)))) (fC .none))) (aJ (ab 2)) gq)) (aJ (fC .none)))
noncomputable def dY:List D->Option D:=bc d6 3
abbrev Af:List Str:=["world","plan"]
noncomputable def jV:aj->Option Out:=(aJ (f2 tX (ah 2 dY (aa (ab 0) (aa (ab 1) ae))) (fC .none)))
noncomputable def jH:List D->Option D:=bc jV 2
abbrev Js:List Str:=["world","plan"]
noncomputable def pU:aj->Option Out:=(av (dq (ah 2 bf (aa (ab 0) (aa (ab 1) ae)))) (aJ (ah 2 jH (aa (ab 0) (aa (ab 1) ae)))))
noncomputable def fO:List D->Option D:=bc pU 2
abbrev tZ:List Str:=["world","other"]
noncomputable def fM:aj->Option Out:=(av (aD 1 [0] (ah 1 k6 (aa (ab 0) ae))) (aJ (ah 2 fI (aa (ab 1) (aa (ah 1 bb (aa (ab 1) ae)) ae)))))
noncomputable def dR:List D->Option D:=bc fM 2
abbrev sQ:List Str:=["world","side","place"]
noncomputable def dO:aj->Option Out:=(av (dq (ah 1 dH (aa (ab 1) ae))) (dq (ah 2 aA (aa (ab 2) (aa (br bR (aa (f2 ak (ab 0) (ab 1)) ae)) ae)))))
noncomputable def cB:List D->Option D:=bc dO 3
abbrev Dm:List Str:=["one","other"]
noncomputable def oI:aj->Option Out:=(aJ (br aZ (aa (cD (au 2 [] (gP (aa (ab 0) (aa (ab 1) ae))) (ir 0 1) (fun _=>some true) (br Ea (aa (ab 0) (aa (ab 1) ae))))) ae)))
noncomputable def jr:List D->Option D:=bc oI 2
abbrev vK:List Str:=["world","side","place","numbers"]
noncomputable def ki:aj->Option Out:=(aJ (br aZ (aa (cD (au 1 [3] (aV (ah 3 cf (aa (ab 0) (aa (ab 1) (aa (ab 2) ae))))) (fG 0) (fun _=>some true) (f2 ak (ab 1) (ab 0)))) ae)))
noncomputable def eM:List D->Option D:=bc ki 4
abbrev wD:List Str:=["world","side","place","one","other","chosen"]
noncomputable def gG:aj->Option Out:=(av (aD 5 [0,1,2,3,4] (ah 4 bY (aa (ab 0) (aa (ab 1) (aa (ab 2) (aa (ah 2 jr (aa (ab 3) (aa (ab 4) ae))) ae)))))) (aJ (f2 b9 (ah 4 eM (aa (ab 0) (aa (ab 1) (aa (ab 2) (aa (ab 5) ae))))) (ah 4 eM (aa (ab 0) (aa (ab 1) (aa (ab 2) (aa (ab 3) ae))))))))
noncomputable def dB:List D->Option D:=bc gG 6
abbrev wR:List Str:=["world","one","other"]
noncomputable def eQ:aj->Option Out:=(av (dq (ah 2 bf (aa (ab 0) (aa (ab 1) ae)))) (dq (ah 2 bf (aa (ab 0) (aa (ab 2) ae)))))
noncomputable def gz:List D->Option D:=bc eQ 3
abbrev Aa:List Str:=["world","side","one","other"]
noncomputable def jJ:aj->Option Out:=(av (dq (ah 3 gz (aa (ab 0) (aa (ab 2) (aa (ab 3) ae))))) (av (dq (ah 1 dH (aa (ab 1) ae))) (aJ (br l7 (aa (cD (au 1 [0,1,2,3] (bC (aa (br bR (aa (f2 ak (ab 0) (ab 1)) ae)) ae)) (fG 0) (fun _=>some true) (ah 5 dB (aa (ab 1) (aa (ab 2) (aa (ab 0) (aa (ab 3) (aa (ab 4) ae)))))))) ae)))))
noncomputable def ib:List D->Option D:=bc jJ 4
abbrev Ae:List Str:=["world","side","place","amount","likes"]
noncomputable def eZ:aj->Option Out:=(aJ (ah 3 bU (aa (ab 0) (aa (ab 1) (aa (ah 3 bU (aa (f2 ak (ab 0) (ab 1)) (aa (ab 2) (aa (aP (aa (ab 3) (aa (ab 4) ae))) ae)))) ae)))))
noncomputable def d7:List D->Option D:=bc eZ 5
abbrev tR:List Str:=["world","side","place","amount"]
noncomputable def fH:aj->Option Out:=(av (dq (ah 1 aK (aa (ab 0) ae))) (av (dq (ah 3 cB (aa (ab 0) (aa (ab 1) (aa (ab 2) ae))))) (av (dq (ah 3 bB (aa (ab 3) (aa (fC (.int 0)) (aa (fC (.int 9)) ae))))) (aJ (ah 5 d7 (aa (ab 0) (aa (ab 1) (aa (ab 2) (aa (ab 3) (aa (f2 ak (f2 ak (f2 ak (ab 0) (ab 1)) (ab 2)) (fC (.int 1))) ae))))))))))
noncomputable def da:List D->Option D:=bc fH 4
abbrev uc:List Str:=["world","plan","side"]
noncomputable def fK:aj->Option Out:=(aJ (br aZ (aa (cD (au 1 [0,1,2] (bC (aa (br bR (aa (f2 ak (ab 0) (ab 2)) ae)) ae)) (fG 0) (fun _=>some true) (ah 4 bz (aa (ab 1) (aa (ab 2) (aa (ab 3) (aa (ab 0) ae))))))) ae)))
noncomputable def dU:List D->Option D:=bc fK 3
abbrev HV:List Str:=["world","plan"]
noncomputable def m5:aj->Option Out:=(av (aD 1 [0] (ah 1 bb (aa (ab 0) ae))) (aJ (aP (aa (ah 3 dU (aa (ab 0) (aa (ab 1) (aa (fC (.int 0)) ae)))) (aa (ah 3 dU (aa (ab 0) (aa (ab 1) (aa (fC (.int 1)) ae)))) ae)))))
noncomputable def hV:List D->Option D:=bc m5 2
abbrev v9:List Str:=["world","side","place","likes"]
noncomputable def gD:aj->Option Out:=(aJ (ah 5 d7 (aa (ab 0) (aa (ab 1) (aa (ab 2) (aa (f2 ak (f2 ak (f2 ak (ab 0) (ab 1)) (ab 2)) (fC (.int 0))) (aa (ab 3) ae)))))))
noncomputable def bD:List D->Option D:=bc gD 4
abbrev yR:List Str:=["world","ways"]
noncomputable def iu:aj->Option Out:=(aJ (ah 3 bU (aa (ab 0) (aa (fC (.int 2)) (aa (br aZ (aa (ab 1) ae)) ae)))))
noncomputable def bW:List D->Option D:=bc iu 2
abbrev wY:List Str:=["world","way","limit","old"]
noncomputable def gF:aj->Option Out:=(av (dq (ah 1 aK (aa (ab 0) ae))) (av (dq (ah 2 aA (aa (ab 1) (aa (br bR (aa (f2 ak (ab 0) (fC (.int 2))) ae)) ae)))) (av (dq (ah 3 bB (aa (ab 2) (aa (fC (.int 1)) (aa (fC (.int 9)) ae))))) (av (aD 3 [0,1] (f2 ak (f2 ak (ab 0) (fC (.int 2))) (ab 1))) (aJ (ah 2 bW (aa (ab 0) (aa (ah 3 bU (aa (f2 ak (ab 0) (fC (.int 2))) (aa (ab 1) (aa (aP (aa (f2 ak (ab 3) (fC (.int 0))) (aa (f2 ak (ab 3) (fC (.int 1))) (aa (ab 2) ae)))) ae)))) ae))))))))
noncomputable def cO:List D->Option D:=bc gF 4
abbrev tJ:List Str:=["world","way","gone","changed","side","old"]
noncomputable def fF:aj->Option Out:=(av (dq (ah 1 aK (aa (ab 0) ae))) (av (dq (ah 2 aA (aa (ab 1) (aa (br bR (aa (f2 ak (ab 0) (fC (.int 2))) ae)) ae)))) (av (aD 2 [0,1] (f2 ak (f2 ak (ab 0) (fC (.int 2))) (ab 1))) (av (aD 3 [0,2] (ah 2 bW (aa (ab 0) (aa (cD (au 1 [2] (aV (f2 ak (ab 0) (fC (.int 2)))) (fG 0) (fB (f2 fT (ab 0) (ab 1))) (ab 0))) ae)))) (av (eD [] (aV (aP (aa (fC (.int 0)) (aa (fC (.int 1)) ae)))) (vI 4) (av (aD 5 [0,2,4] (f2 ak (f2 ak (f2 ak (ab 0) (ab 4)) (f2 ak (ab 2) (ab 4))) (fC (.int 1)))) (aD 3 [2,3,4,5] (ah 4 bD (aa (ab 3) (aa (ab 4) (aa (f2 ak (ab 2) (ab 4)) (aa (br aZ (aa (cD (au 1 [2,4] (aV (ab 5)) (fG 0) (fB (f2 fT (ab 0) (f2 ak (ab 1) (f2 Dl.eU (fC (.int 1)) (ab 2))))) (ab 0))) ae)) ae)))))))) (aJ (ab 3)))))))
noncomputable def dQ:List D->Option D:=bc fF 6
abbrev BN:List Str:=["old","number","other"]
noncomputable def ka:aj->Option Out:=(aJ (f2 aG (f2 aG (gT dz (ab 0) gO (qH (ab 1))) (aP (aa (ab 2) ae))) (gT dz (ab 0) (qH (ab 1)) gO)))
noncomputable def gY:List D->Option D:=bc ka 3
abbrev AU:List Str:=["world","giver","taker","limit","at_giver","at_taker","of_giver","of_taker","changed"]
noncomputable def kn:aj->Option Out:=(av (dq (ah 1 aK (aa (ab 0) ae))) (av (dq (ah 3 cB (aa (ab 0) (aa (fC (.int 0)) (aa (ab 1) ae))))) (av (dq (ah 3 cB (aa (ab 0) (aa (fC (.int 1)) (aa (ab 2) ae))))) (av (dq (ah 3 bB (aa (ab 3) (aa (fC (.int 1)) (aa (fC (.int 9)) ae))))) (av (aD 6 [0,1] (f2 ak (f2 ak (f2 ak (ab 0) (fC (.int 0))) (ab 1)) (fC (.int 1)))) (av (aD 7 [0,2] (f2 ak (f2 ak (f2 ak (ab 0) (fC (.int 1))) (ab 2)) (fC (.int 1)))) (av (dq (ah 2 aA (aa (ab 4) (aa (f2 aG (br bR (aa (ab 6) ae)) (fC (.int 1))) ae)))) (av (dq (ah 2 aA (aa (ab 5) (aa (f2 aG (br bR (aa (ab 7) ae)) (fC (.int 1))) ae)))) (av (gy (fB (f2 Bs (ab 2) (ab 6))) NK gq) (av (aD 8 [0,1,2,3] (ah 2 bW (aa (ab 0) (aa (cD (mJ dC (aa (f2 aG (f2 ak (ab 0) (fC (.int 2))) (aP (aa (aP (aa (ab 1) (aa (ab 2) (aa (ab 3) ae)))) ae))) ae))) ae)))) (av (aD 8 [1,2,4,6,8] (ah 4 bD (aa (ab 8) (aa (fC (.int 0)) (aa (ab 1) (aa (ah 3 gY (aa (ab 6) (aa (ab 4) (aa (ab 2) ae)))) ae)))))) (aJ (ah 4 bD (aa (ab 8) (aa (fC (.int 1)) (aa (ab 2) (aa (ah 3 gY (aa (ab 7) (aa (ab 5) (aa (ab 1) ae)))) ae)))))))))))))))))
noncomputable def hJ:List D->Option D:=bc kn 9
abbrev uO:List Str:=["_law_script","_law_world_here","_law_plan","_law_way","_law_giver","_law_taker","_law_limit","_law_less","_law_rest","_law_places","_law_fresh","_law_wide","_law_side","_law_place","_law_row","_law_many","_law_more"]
noncomputable def lN:aj->Option Out:=(av (aD 1 [0] (ah 3 cP (aa (ab 0) (aa (fC (.int 0)) (aa (fC (.int 9)) ae))))) (av (eD [1] (aV (aP (aa (ah 1 bb (aa (ab 1) ae)) (aa (ah 1 dR (aa (ab 1) ae)) ae)))) (vI 2) (av (eD [1] (bN (aa (f2 ak (ab 1) (fC (.int 2))) ae)) (uS 3 4 5 6) (av (aD 7 [1,3] (ah 2 dQ (aa (ab 1) (aa (ab 3) ae)))) (av (aD 8 [2,3] (f2 aG (gT dz (ab 2) gO (qH (ab 3))) (gT dz (ab 2) (qH (f2 aG (ab 3) (fC (.int 1)))) gO))) (av (gy (cX (fB (f2 b9 (f2 ak (ab 2) (ab 3)) (fC (.int 0)))) (bM (fB (ah 2 fO (aa (ab 7) (aa (ab 8) ae)))))) (aJ (fC (.bool false))) gq) (av (gy (cX (fB (f2 b9 (f2 ak (ab 2) (ab 3)) (fC (.int 0)))) (bM (fB (ah 4 ib (aa (ab 7) (aa (fC (.int 0)) (aa (ah 1 bb (aa (ab 7) ae)) (aa (ab 8) ae)))))))) (aJ (fC (.bool false))) gq) (av (aD 9 [1,4,5] (aP (aa (f2 il (f2 ak (f2 ak (f2 ak (ab 1) (fC (.int 0))) (ab 4)) (fC (.int 1))) (ab 5)) (aa (f2 il (f2 ak (f2 ak (f2 ak (ab 1) (fC (.int 1))) (ab 5)) (fC (.int 1))) (ab 4)) ae)))) (av (gy (fB (f2 fT (ah 6 hJ (aa (ab 7) (aa (ab 4) (aa (ab 5) (aa (ab 6) (aa (f2 ak (ab 9) (fC (.int 0))) (aa (f2 ak (ab 9) (fC (.int 1))) ae))))))) (ab 1))) (aJ (fC (.bool false))) gq) (av (aD 10 [0,2,3] (f2 aG (f2 aG (fC (.int 1)) (f2 ak (ab 2) (ab 3))) (ah 3 ao (aa (ab 0) (aa (f2 aG (fC (.int 70)) (ab 3)) (aa (f2 Dl.eU (fC (.int 8)) (f2 ak (ab 2) (ab 3))) ae)))))) (av (aD 11 [1,3,10] (ah 3 cO (aa (ab 1) (aa (ab 3) (aa (ab 10) ae))))) (av (gy (cX (fB (f2 uQ (f2 ak (ab 2) (ab 3)) (ab 6))) (bM (fB (ah 2 fO (aa (ab 11) (aa (ab 2) ae)))))) (aJ (fC (.bool false))) gq) (gy (cX (fB (f2 b9 (f2 ak (ab 2) (ab 3)) (ab 6))) (fB (f2 fT (ah 3 cO (aa (ab 1) (aa (ab 3) (aa (ab 6) ae)))) (ab 1)))) (aJ (fC (.bool false))) gq))))))))))) (eD [] (bC (aa (fC (.int 2)) ae)) (vI 12) (eD [1,12] (bN (aa (f2 ak (ab 1) (ab 12)) ae)) (ie 13 14) (av (aD 15 [1,2,12,13] (qS 3 oO lT (ab 12) (aa (ab 1) (aa (ab 2) (aa (ab 13) ae))))) (av (aD 10 [0,13,14] (f2 aG (f2 ak (ab 14) (fC (.int 0))) (ah 3 ao (aa (ab 0) (aa (f2 aG (fC (.int 80)) (ab 13)) (aa (f2 Dl.eU (fC (.int 10)) (f2 ak (ab 14) (fC (.int 0)))) ae)))))) (av (aD 16 [1,10,12,13] (ah 4 da (aa (ab 1) (aa (ab 12) (aa (ab 13) (aa (ab 10) ae)))))) (av (gy (cX (fB (f2 uQ (ab 15) (f2 ak (ab 14) (fC (.int 0))))) (bM (fB (ah 2 fO (aa (ab 16) (aa (ab 2) ae)))))) (aJ (fC (.bool false))) gq) (gy (cX (fB (f2 uQ (ab 15) (f2 ak (ab 14) (fC (.int 0))))) (fB (f2 fT (ah 1 hV (aa (ab 16) ae)) (ah 1 hV (aa (ab 1) ae))))) (aJ (fC (.bool false))) gq))))))))) (aJ (fC (.bool true)))))
noncomputable def jq:List D->Option D:=bc lN 17
end Pg
namespace K52
open PySem L2 Dl PySem.Spec PyProof.Rows
open Pg
noncomputable abbrev mF:Stmt:=top 8
noncomputable abbrev BP:Rf.Sg:=⟨[],[]⟩
theorem AF:Rf.tW mF AS BP none=some mS:=by kernel_rfl
noncomputable abbrev kY:Stmt:=top 9
noncomputable abbrev yQ:Rf.Sg:=⟨[("is_whole",3,ba)],[]⟩
theorem yT:Rf.tW kY yo yQ none=some kN:=by kernel_rfl
noncomputable abbrev oA:Stmt:=top 10
noncomputable abbrev Dj:Rf.Sg:=⟨[],[]⟩
theorem Dp:Rf.tW oA Ed Dj none=some oi:=by kernel_rfl
noncomputable abbrev kU:Stmt:=top 11
noncomputable abbrev yh:Rf.Sg:=⟨[("is_number",2,cg)],[]⟩
theorem xq:Rf.tW kU xY yh none=some ll:=by kernel_rfl
noncomputable abbrev qA:Stmt:=top 12
noncomputable abbrev GP:Rf.Sg:=⟨[("is_long",3,bx),("is_whole",3,ba),("are_likes",2,fR)],[("MOST",9)]⟩
theorem Hg:Rf.tW qA GW GP none=some rY:=by kernel_rfl
noncomputable abbrev qQ:Stmt:=top 13
noncomputable abbrev Fo:Rf.Sg:=⟨[("is_long",3,bx),("is_number",2,cg),("is_whole",3,ba)],[("MOST",9)]⟩
theorem Hi:Rf.tW qQ Gr Fo none=some r9:=by kernel_rfl
noncomputable abbrev lx:Stmt:=top 14
noncomputable abbrev yc:Rf.Sg:=⟨[("is_long",3,bx),("is_end",2,f7),("is_way",3,jy)],[("MOST_PLACES",4)]⟩
theorem xp:Rf.tW lx yS yc none=some k8:=by kernel_rfl
noncomputable abbrev iK:Stmt:=top 15
noncomputable abbrev ug:Rf.Sg:=⟨[],[]⟩
theorem tG:Rf.tW iK tO ug none=some iL:=by kernel_rfl
noncomputable abbrev mM:Stmt:=top 16
noncomputable abbrev AM:Rf.Sg:=⟨[("liked_pairs",1,bQ),("is_long",3,bx),("are_parts",3,fZ)],[]⟩
theorem BI:Rf.tW mM AX AM none=some gR:=by kernel_rfl
noncomputable abbrev oK:Stmt:=top 17
noncomputable abbrev Dg:Rf.Sg:=⟨[],[]⟩
theorem Ei:Rf.tW oK Ew Dg none=some ou:=by kernel_rfl
noncomputable abbrev gp:Stmt:=top 18
noncomputable abbrev pP:Rf.Sg:=⟨[("through",4,bz)],[]⟩
theorem pK:Rf.tW gp pJ pP none=some gn:=by kernel_rfl
noncomputable abbrev oM:Stmt:=top 19
noncomputable abbrev EB:Rf.Sg:=⟨[("is_long",3,bx),("keeps_amounts",3,cU),("is_whole",3,ba)],[]⟩
theorem Ep:Rf.tW oM EJ EB none=some lV:=by kernel_rfl
noncomputable abbrev iU:Stmt:=top 20
noncomputable abbrev td:Rf.Sg:=⟨[("is_world",1,cQ)],[]⟩
theorem tV:Rf.tW iU sD td none=some dS:=by kernel_rfl
noncomputable abbrev kc:Stmt:=top 21
noncomputable abbrev vy:Rf.Sg:=⟨[("check_world",1,aK),("is_plan",2,jz)],[]⟩
theorem wo:Rf.tW kc wM vy none=some eN:=by kernel_rfl
noncomputable abbrev iW:Stmt:=top 22
noncomputable abbrev uh:Rf.Sg:=⟨[("is_whole",3,ba)],[]⟩
theorem tN:Rf.tW iW tP uh none=some dP:=by kernel_rfl
noncomputable abbrev g8:Stmt:=top 23
noncomputable abbrev rl:Rf.Sg:=⟨[("check_whole",3,bB)],[]⟩
theorem rZ:Rf.tW g8 sf rl none=some dA:=by kernel_rfl
noncomputable abbrev kr:Stmt:=top 24
noncomputable abbrev wG:Rf.Sg:=⟨[("check_number",2,aA)],[]⟩
theorem vO:Rf.tW kr wA wG none=some eL:=by kernel_rfl
noncomputable abbrev iN:Stmt:=top 25
noncomputable abbrev ub:Rf.Sg:=⟨[("check_side",1,dH),("check_number",2,aA)],[]⟩
theorem sM:Rf.tW iN sQ ub none=some dO:=by kernel_rfl
noncomputable abbrev mT:Stmt:=top 26
noncomputable abbrev Ak:Rf.Sg:=⟨[],[]⟩
theorem A4:Rf.tW mT AN Ak none=some gU:=by kernel_rfl
noncomputable abbrev gS:Stmt:=top 27
noncomputable abbrev rC:Rf.Sg:=⟨[],[]⟩
theorem r8:Rf.tW gS rK rC (some "turned_order.<locals>.<lambda>")=some eK:=by kernel_rfl
noncomputable abbrev si:Stmt:=top 28
noncomputable abbrev Gh:Rf.Sg:=⟨[("check_world",1,aK),("turned_order",1,bp)],[]⟩
theorem E6:Rf.tW si GB Gh none=some nW:=by kernel_rfl
noncomputable abbrev iM:Stmt:=top 29
noncomputable abbrev uf:Rf.Sg:=⟨[("check_plan",2,bf),("turned_order",1,bp)],[]⟩
theorem tI:Rf.tW iM sU uf none=some fN:=by kernel_rfl
noncomputable abbrev mz:Stmt:=top 31
noncomputable abbrev A1:Rf.Sg:=⟨[("replaced",3,bU)],[]⟩
theorem Bw:Rf.tW mz Ae A1 none=some eZ:=by kernel_rfl
noncomputable abbrev j9:Stmt:=top 32
noncomputable abbrev ve:Rf.Sg:=⟨[("with_end",5,d7)],[]⟩
theorem wV:Rf.tW j9 v9 ve none=some gD:=by kernel_rfl
noncomputable abbrev kX:Stmt:=top 33
noncomputable abbrev xX:Rf.Sg:=⟨[("replaced",3,bU)],[]⟩
theorem yi:Rf.tW kX yR xX none=some iu:=by kernel_rfl
noncomputable abbrev iV:Stmt:=top 34
noncomputable abbrev tm:Rf.Sg:=⟨[("check_world",1,aK),("check_place",3,cB),("check_whole",3,bB),("with_end",5,d7)],[("MOST",9)]⟩
theorem ui:Rf.tW iV tR tm none=some fH:=by kernel_rfl
noncomputable abbrev jY:Stmt:=top 35
noncomputable abbrev vR:Rf.Sg:=⟨[("check_world",1,aK),("check_number",2,aA),("check_whole",3,bB),("with_ways",2,bW),("replaced",3,bU)],[("MOST",9)]⟩
theorem vM:Rf.tW jY wY vR none=some gF:=by kernel_rfl
noncomputable abbrev i3:Stmt:=top 36
noncomputable abbrev sY:Rf.Sg:=⟨[("check_world",1,aK),("check_number",2,aA),("with_ways",2,bW),("with_likes",4,bD)],[]⟩
theorem tq:Rf.tW i3 tJ sY none=some fF:=by kernel_rfl
noncomputable abbrev mI:Stmt:=top 37
noncomputable abbrev BO:Rf.Sg:=⟨[],[]⟩
theorem Ag:Rf.tW mI BN BO none=some ka:=by kernel_rfl
noncomputable abbrev mO:Stmt:=top 38
noncomputable abbrev Bv:Rf.Sg:=⟨[("check_world",1,aK),("check_place",3,cB),("check_whole",3,bB),("check_number",2,aA),("with_ways",2,bW),("with_likes",4,bD),("inserted",3,gY)],[("MOST",9)]⟩
theorem A9:Rf.tW mO AU Bv none=some kn:=by kernel_rfl
noncomputable abbrev AC:Stmt:=top 40
noncomputable abbrev LH:Rf.Sg:=⟨[("check_plan",2,bf),("check_number",2,aA),("through",4,bz)],[]⟩
theorem Ml:Rf.tW AC Mu LH none=some vT:=by kernel_rfl
noncomputable abbrev vU:Stmt:=top 41
noncomputable abbrev JA:Rf.Sg:=⟨[("check_plan",2,bf),("check_number",2,aA),("through",4,bz)],[]⟩
theorem Jf:Rf.tW vU Jo JA none=some qf:=by kernel_rfl
noncomputable abbrev oX:Stmt:=top 42
noncomputable abbrev Ec:Rf.Sg:=⟨[],[]⟩
theorem DQ:Rf.tW oX DJ Ec (some "ways_of.<locals>.<lambda>")=some lJ:=by kernel_rfl
noncomputable abbrev lz:Stmt:=top 43
noncomputable abbrev yg:Rf.Sg:=⟨[("ways_of",3,cf)],[]⟩
theorem xt:Rf.tW lz xP yg none=some iy:=by kernel_rfl
noncomputable abbrev jN:Stmt:=top 44
noncomputable abbrev vv:Rf.Sg:=⟨[("ways_of",3,cf),("through",4,bz)],[]⟩
theorem wN:Rf.tW jN vF vv none=some gH:=by kernel_rfl
noncomputable abbrev mL:Stmt:=top 45
noncomputable abbrev Ay:Rf.Sg:=⟨[("wants_more",4,cR)],[]⟩
theorem BB:Rf.tW mL A0 Ay none=some jM:=by kernel_rfl
noncomputable abbrev gg:Stmt:=top 46
noncomputable abbrev pL:Rf.Sg:=⟨[("why_kept",3,fg)],[]⟩
theorem pR:Rf.tW gg pQ pL none=some d6:=by kernel_rfl
noncomputable abbrev mw:Stmt:=top 47
noncomputable abbrev Bz:Rf.Sg:=⟨[("first_leaving",2,dY)],[]⟩
theorem Bb:Rf.tW mw Af Bz none=some jV:=by kernel_rfl
noncomputable abbrev vz:Stmt:=top 48
noncomputable abbrev IZ:Rf.Sg:=⟨[("check_plan",2,bf),("is_still",2,jH)],[]⟩
theorem JH:Rf.tW vz Js IZ none=some pU:=by kernel_rfl
noncomputable abbrev gh:Stmt:=top 50
noncomputable abbrev pS:Rf.Sg:=⟨[("chosen_by",4,bY)],[]⟩
theorem pO:Rf.tW gh pN pS none=some dW:=by kernel_rfl
noncomputable abbrev qU:Stmt:=top 51
noncomputable abbrev E3:Rf.Sg:=⟨[],[]⟩
theorem FV:Rf.tW qU FP E3 none=some sk:=by kernel_rfl
noncomputable abbrev ow:Stmt:=top 52
noncomputable abbrev EA:Rf.Sg:=⟨[("replaced",3,bU)],[]⟩
theorem EE:Rf.tW ow Ee EA none=some oC:=by kernel_rfl
noncomputable abbrev oJ:Stmt:=top 53
noncomputable abbrev Ef:Rf.Sg:=⟨[("chosen_by_all",3,bq)],[]⟩
theorem Dz:Rf.tW oJ EG Ef none=some lY:=by kernel_rfl
noncomputable abbrev xi:Stmt:=top 54
noncomputable abbrev J3:Rf.Sg:=⟨[("limits",1,fW),("refused",2,eu),("lowered",3,cE)],[]⟩
theorem Ky:Rf.tW xi J1 J3 none=some pX:=by kernel_rfl
noncomputable abbrev rT:Stmt:=top 55
noncomputable abbrev Hf:Rf.Sg:=⟨[("limits",1,fW),("lowered",3,cE)],[]⟩
theorem Hs:Rf.tW rT EZ Hf none=some nV:=by kernel_rfl
noncomputable abbrev iI:Stmt:=top 56
noncomputable abbrev sv:Rf.Sg:=⟨[("check_world",1,aK),("chosen_by_all",3,bq),("capped",2,nC),("steps",1,qh)],[]⟩
theorem sZ:Rf.tW iI tQ sv none=some fE:=by kernel_rfl
noncomputable abbrev iS:Stmt:=top 57
noncomputable abbrev sC:Rf.Sg:=⟨[("turned",1,k6),("turned_plan",2,fI),("givers_best",1,bb)],[]⟩
theorem sN:Rf.tW iS tZ sC none=some fM:=by kernel_rfl
noncomputable abbrev oE:Stmt:=top 59
noncomputable abbrev DH:Rf.Sg:=⟨[],[]⟩
theorem DV:Rf.tW oE Dm DH none=some oI:=by kernel_rfl
noncomputable abbrev j1:Stmt:=top 60
noncomputable abbrev vY:Rf.Sg:=⟨[("ways_of",3,cf)],[]⟩
theorem va:Rf.tW j1 vK vY none=some ki:=by kernel_rfl
noncomputable abbrev j4:Stmt:=top 61
noncomputable abbrev vS:Rf.Sg:=⟨[("chosen_by",4,bY),("greater",2,jr),("on_ways_of",4,eM)],[]⟩
theorem wQ:Rf.tW j4 wD vS none=some gG:=by kernel_rfl
noncomputable abbrev jE:Stmt:=top 62
noncomputable abbrev vN:Rf.Sg:=⟨[("check_plan",2,bf)],[]⟩
theorem vx:Rf.tW jE wR vN none=some eQ:=by kernel_rfl
noncomputable abbrev mG:Stmt:=top 63
noncomputable abbrev AQ:Rf.Sg:=⟨[("check_both",3,gz),("check_side",1,dH),("would_keep",5,dB)],[]⟩
theorem Aj:Rf.tW mG Aa AQ none=some jJ:=by kernel_rfl
noncomputable abbrev iO:Stmt:=top 65
noncomputable abbrev tw:Rf.Sg:=⟨[("through",4,bz)],[]⟩
theorem sy:Rf.tW iO uc tw none=some fK:=by kernel_rfl
noncomputable abbrev r6:Stmt:=top 66
noncomputable abbrev Gf:Rf.Sg:=⟨[("givers_best",1,bb),("through_all",3,dU)],[]⟩
theorem Fj:Rf.tW r6 HV Gf none=some m5:=by kernel_rfl
noncomputable abbrev k5:Stmt:=top 68
noncomputable abbrev yZ:Rf.Sg:=⟨[],[]⟩
theorem yU:Rf.tW k5 yr yZ none=some iw:=by kernel_rfl
noncomputable abbrev jX:Stmt:=top 69
noncomputable abbrev wa:Rf.Sg:=⟨[("_law_cell",2,eC)],[]⟩
theorem wz:Rf.tW jX vp wa none=some jI:=by kernel_rfl
noncomputable abbrev iJ:Stmt:=top 70
noncomputable abbrev sX:Rf.Sg:=⟨[("_law_drawn",3,ao)],[]⟩
theorem tM:Rf.tW iJ sV sX none=some iZ:=by kernel_rfl
noncomputable abbrev kb:Stmt:=top 71
noncomputable abbrev vd:Rf.Sg:=⟨[("_law_orders",3,bX),("_law_drawn",3,ao)],[]⟩
theorem xj:Rf.tW kb vc vd none=some eJ:=by kernel_rfl
noncomputable abbrev ET:Stmt:=top 72
noncomputable abbrev Og:Rf.Sg:=⟨[("_law_world",3,cP),("givers_best",1,bb),("takers_best",1,dR),("without_way",2,dQ),("with_limit",3,cO),("with_way",6,hJ),("_law_drawn",3,ao),("with_amount",4,da),("rests",2,fO),("all_like",4,ib),("sent",3,oO),("taken",3,lT),("totals",1,hV)],[]⟩
theorem OQ:Rf.tW ET uO Og none=some lN:=by kernel_rfl
structure N4(K:W.Frag):Prop where
 c0:aF K "is_whole" mF ["thing","least","most"]
 c1:aF K "is_number" kY ["thing","many"]
 c2:aF K "is_long" oA ["thing","least","most"]
 c3:aF K "are_likes" kU ["thing","many"]
 c4:aF K "is_end" qA ["thing","many"]
 c5:aF K "is_way" qQ ["thing","givers","takers"]
 c6:aF K "are_parts" lx ["givers","takers","ways"]
 c7:aF K "liked_pairs" iK ["places"]
 c8:aF K "is_world" mM ["thing"]
 c9:aF K "through" oK ["world","plan","side","place"]
 c10:aF K "keeps_amounts" gp ["world","plan","side"]
 c11:aF K "is_plan" oM ["world","thing"]
 c12:aF K "check_world" iU ["world"]
 c13:aF K "check_plan" kc ["world","plan"]
 c14:aF K "check_whole" iW ["thing","least","most"]
 c15:aF K "check_number" g8 ["thing","many"]
 c16:aF K "check_side" kr ["thing"]
 c17:aF K "check_place" iN ["world","side","place"]
 c18:aF K "replaced" mT ["parts","number","part"]
 c19:o8 K "turned_order" gS ["world"]
 c20:aF K "turned" si ["world"]
 c21:aF K "turned_plan" iM ["world","plan"]
 c22:aF K "with_end" mz ["world","side","place","amount","likes"]
 c23:aF K "with_likes" j9 ["world","side","place","likes"]
 c24:aF K "with_ways" kX ["world","ways"]
 c25:aF K "with_amount" iV ["world","side","place","amount"]
 c26:aF K "with_limit" jY ["world","way","limit"]
 c27:aF K "without_way" i3 ["world","way"]
 c28:aF K "inserted" mI ["old","number","other"]
 c29:aF K "with_way" mO ["world","giver","taker","limit","at_giver","at_taker"]
 c30:aF K "sent" AC ["world","plan","giver"]
 c31:aF K "taken" vU ["world","plan","taker"]
 c32:o8 K "ways_of" oX ["world","side","place"]
 c33:aF K "chosen_by" lz ["world","side","place","offers"]
 c34:aF K "wants_more" jN ["world","plan","side","way"]
 c35:aF K "why_kept" mL ["world","plan","way"]
 c36:aF K "first_leaving" gg ["world","plan"]
 c37:aF K "is_still" mw ["world","plan"]
 c38:aF K "rests" vz ["world","plan"]
 c39:aF K "chosen_by_all" gh ["world","side","offers"]
 c40:aF K "limits" qU ["world"]
 c41:aF K "lowered" ow ["caps","way","cap"]
 c42:aF K "refused" oJ ["world","caps"]
 c43:aF K "steps" xi ["world"]
 c44:aF K "capped" rT ["world","rows"]
 c45:aF K "givers_best" iI ["world"]
 c46:aF K "takers_best" iS ["world"]
 c47:aF K "greater" oE ["one","other"]
 c48:aF K "on_ways_of" j1 ["world","side","place","numbers"]
 c49:aF K "would_keep" j4 ["world","side","place","one","other"]
 c50:aF K "check_both" jE ["world","one","other"]
 c51:aF K "all_like" mG ["world","side","one","other"]
 c52:aF K "through_all" iO ["world","plan","side"]
 c53:aF K "totals" r6 ["world"]
 c54:aF K "_law_cell" k5 ["_law_script","_law_k"]
 c55:aF K "_law_drawn" jX ["_law_script","_law_k","_law_many"]
 c56:aF K "_law_orders" iJ ["_law_script","_law_at","_law_rows"]
 c57:aF K "_law_world" kb ["_law_script","_law_at","_law_most"]
 c58:aF K "law" ET ["_law_script"]
 i_MOST_PLACES:∃t,W.nsIn K mainGlobals "MOST_PLACES"=some (some (.int 4 t))
 i_MOST:∃t,W.nsIn K mainGlobals "MOST"=some (some (.int 9 t))
 b:∀x∈dv,W.nsIn K mainGlobals x=some none
structure bF(K:W.Frag)(mg:Str->Option Value):Prop where
 c0:bA K mg "is_whole" mF ["thing","least","most"]
 c1:bA K mg "is_number" kY ["thing","many"]
 c2:bA K mg "is_long" oA ["thing","least","most"]
 c3:bA K mg "are_likes" kU ["thing","many"]
 c4:bA K mg "is_end" qA ["thing","many"]
 c5:bA K mg "is_way" qQ ["thing","givers","takers"]
 c6:bA K mg "are_parts" lx ["givers","takers","ways"]
 c7:bA K mg "liked_pairs" iK ["places"]
 c8:bA K mg "is_world" mM ["thing"]
 c9:bA K mg "through" oK ["world","plan","side","place"]
 c10:bA K mg "keeps_amounts" gp ["world","plan","side"]
 c11:bA K mg "is_plan" oM ["world","thing"]
 c12:bA K mg "check_world" iU ["world"]
 c13:bA K mg "check_plan" kc ["world","plan"]
 c14:bA K mg "check_whole" iW ["thing","least","most"]
 c15:bA K mg "check_number" g8 ["thing","many"]
 c16:bA K mg "check_side" kr ["thing"]
 c17:bA K mg "check_place" iN ["world","side","place"]
 c18:bA K mg "replaced" mT ["parts","number","part"]
 c19:GH K mg "turned_order" gS ["world"]
 c20:bA K mg "turned" si ["world"]
 c21:bA K mg "turned_plan" iM ["world","plan"]
 c22:bA K mg "with_end" mz ["world","side","place","amount","likes"]
 c23:bA K mg "with_likes" j9 ["world","side","place","likes"]
 c24:bA K mg "with_ways" kX ["world","ways"]
 c25:bA K mg "with_amount" iV ["world","side","place","amount"]
 c26:bA K mg "with_limit" jY ["world","way","limit"]
 c27:bA K mg "without_way" i3 ["world","way"]
 c28:bA K mg "inserted" mI ["old","number","other"]
 c29:bA K mg "with_way" mO ["world","giver","taker","limit","at_giver","at_taker"]
 c30:bA K mg "sent" AC ["world","plan","giver"]
 c31:bA K mg "taken" vU ["world","plan","taker"]
 c32:GH K mg "ways_of" oX ["world","side","place"]
 c33:bA K mg "chosen_by" lz ["world","side","place","offers"]
 c34:bA K mg "wants_more" jN ["world","plan","side","way"]
 c35:bA K mg "why_kept" mL ["world","plan","way"]
 c36:bA K mg "first_leaving" gg ["world","plan"]
 c37:bA K mg "is_still" mw ["world","plan"]
 c38:bA K mg "rests" vz ["world","plan"]
 c39:bA K mg "chosen_by_all" gh ["world","side","offers"]
 c40:bA K mg "limits" qU ["world"]
 c41:bA K mg "lowered" ow ["caps","way","cap"]
 c42:bA K mg "refused" oJ ["world","caps"]
 c43:bA K mg "steps" xi ["world"]
 c44:bA K mg "capped" rT ["world","rows"]
 c45:bA K mg "givers_best" iI ["world"]
 c46:bA K mg "takers_best" iS ["world"]
 c47:bA K mg "greater" oE ["one","other"]
 c48:bA K mg "on_ways_of" j1 ["world","side","place","numbers"]
 c49:bA K mg "would_keep" j4 ["world","side","place","one","other"]
 c50:bA K mg "check_both" jE ["world","one","other"]
 c51:bA K mg "all_like" mG ["world","side","one","other"]
 c52:bA K mg "through_all" iO ["world","plan","side"]
 c53:bA K mg "totals" r6 ["world"]
 c54:bA K mg "_law_cell" k5 ["_law_script","_law_k"]
 c55:bA K mg "_law_drawn" jX ["_law_script","_law_k","_law_many"]
 c56:bA K mg "_law_orders" iJ ["_law_script","_law_at","_law_rows"]
 c57:bA K mg "_law_world" kb ["_law_script","_law_at","_law_most"]
 c58:bA K mg "law" ET ["_law_script"]
 i_MOST_PLACES:∃t,mg "MOST_PLACES"=some (.int 4 t)
 i_MOST:∃t,mg "MOST"=some (.int 9 t)
 b:∀x∈dv,mg x=none
theorem N4.defs{K:W.Frag}{h:Heap}{mg:Str->Option Value}(I:N4 K)(X:K.In h)(G:h.Ns mainGlobals mg):bF K mg :=
 ⟨I.c0.mg X G,I.c1.mg X G,I.c2.mg X G,I.c3.mg X G,I.c4.mg X G,I.c5.mg X G,I.c6.mg X G,I.c7.mg X G,I.c8.mg X G,I.c9.mg X G,I.c10.mg X G,I.c11.mg X G,I.c12.mg X G,I.c13.mg X G,I.c14.mg X G,I.c15.mg X G,I.c16.mg X G,I.c17.mg X G,I.c18.mg X G,I.c19.mg X G,I.c20.mg X G,I.c21.mg X G,I.c22.mg X G,I.c23.mg X G,I.c24.mg X G,I.c25.mg X G,I.c26.mg X G,I.c27.mg X G,I.c28.mg X G,I.c29.mg X G,I.c30.mg X G,I.c31.mg X G,I.c32.mg X G,I.c33.mg X G,I.c34.mg X G,I.c35.mg X G,I.c36.mg X G,I.c37.mg X G,I.c38.mg X G,I.c39.mg X G,I.c40.mg X G,I.c41.mg X G,I.c42.mg X G,I.c43.mg X G,I.c44.mg X G,I.c45.mg X G,I.c46.mg X G,I.c47.mg X G,I.c48.mg X G,I.c49.mg X G,I.c50.mg X G,I.c51.mg X G,I.c52.mg X G,I.c53.mg X G,I.c54.mg X G,I.c55.mg X G,I.c56.mg X G,I.c57.mg X G,I.c58.mg X G,(let ⟨t,h⟩:=I.i_MOST_PLACES;⟨t,W.mg_of X G h⟩),(let ⟨t,h⟩:=I.i_MOST;⟨t,W.mg_of X G h⟩),fun x hx=>W.mg_none_of X G (I.b x hx)⟩
section
variable {P:Program}{w:World}{K:W.Frag}{mg:Str->Option Value}{base:Heap}
theorem hU(D:bF K mg):dk P w K mg base 1 "is_whole" 3 ba:=Rf.eV (j:=0) D.c0 D.b Rf.bE Rf.bG AF
theorem pj(D:bF K mg):dk P w K mg base 2 "is_number" 2 cg:=Rf.eV (j:=1) D.c1 D.b (Rf.fm (hU D) Rf.bE) Rf.bG yT
theorem jj(D:bF K mg):dk P w K mg base 1 "is_long" 3 bx:=Rf.eV (j:=0) D.c2 D.b Rf.bE Rf.bG Dp
theorem yj(D:bF K mg):dk P w K mg base 3 "are_likes" 2 fR:=Rf.eV (j:=2) D.c3 D.b (Rf.fm (pj D) Rf.bE) Rf.bG xq
theorem GR(D:bF K mg):dk P w K mg base 4 "is_end" 2 f7:=Rf.eV (j:=3) D.c4 D.b (Rf.fm (jj D) (Rf.fm (hU D) (Rf.fm (yj D) Rf.bE))) (Rf.ux D.i_MOST Rf.bG) Hg
theorem FC(D:bF K mg):dk P w K mg base 3 "is_way" 3 jy:=Rf.eV (j:=2) D.c5 D.b (Rf.fm (jj D) (Rf.fm (pj D) (Rf.fm (hU D) Rf.bE))) (Rf.ux D.i_MOST Rf.bG) Hi
theorem yl(D:bF K mg):dk P w K mg base 5 "are_parts" 3 fZ:=Rf.eV (j:=4) D.c6 D.b (Rf.fm (jj D) (Rf.fm (GR D) (Rf.fm (FC D) Rf.bE))) (Rf.ux D.i_MOST_PLACES Rf.bG) xp
theorem sR(D:bF K mg):dk P w K mg base 1 "liked_pairs" 1 bQ:=Rf.eV (j:=0) D.c7 D.b Rf.bE Rf.bG tG
theorem AA(D:bF K mg):dk P w K mg base 6 "is_world" 1 cQ:=Rf.eV (j:=5) D.c8 D.b (Rf.fm (sR D) (Rf.fm (jj D) (Rf.fm (yl D) Rf.bE))) Rf.bG BI
theorem js(D:bF K mg):dk P w K mg base 1 "through" 4 bz:=Rf.eV (j:=0) D.c9 D.b Rf.bE Rf.bG Ei
theorem pH(D:bF K mg):dk P w K mg base 2 "keeps_amounts" 3 cU:=Rf.eV (j:=1) D.c10 D.b (Rf.fm (js D) Rf.bE) Rf.bG pK
theorem D0(D:bF K mg):dk P w K mg base 3 "is_plan" 2 jz:=Rf.eV (j:=2) D.c11 D.b (Rf.fm (jj D) (Rf.fm (pH D) (Rf.fm (hU D) Rf.bE))) Rf.bG Ep
theorem cw(D:bF K mg):dk P w K mg base 7 "check_world" 1 aK:=Rf.eV (j:=6) D.c12 D.b (Rf.fm (AA D) Rf.bE) Rf.bG tV
theorem eO(D:bF K mg):dk P w K mg base 8 "check_plan" 2 bf:=Rf.eV (j:=7) D.c13 D.b (Rf.fm (cw D) (Rf.fm (D0 D) Rf.bE)) Rf.bG wo
theorem fA(D:bF K mg):dk P w K mg base 2 "check_whole" 3 bB:=Rf.eV (j:=1) D.c14 D.b (Rf.fm (hU D) Rf.bE) Rf.bG tN
theorem b8(D:bF K mg):dk P w K mg base 3 "check_number" 2 aA:=Rf.eV (j:=2) D.c15 D.b (Rf.fm (fA D) Rf.bE) Rf.bG rZ
theorem mZ(D:bF K mg):dk P w K mg base 4 "check_side" 1 dH:=Rf.eV (j:=3) D.c16 D.b (Rf.fm (b8 D) Rf.bE) Rf.bG vO
theorem ml(D:bF K mg):dk P w K mg base 5 "check_place" 3 cB:=Rf.eV (j:=4) D.c17 D.b (Rf.fm (mZ D) (Rf.fm (b8 D) Rf.bE)) Rf.bG sM
theorem jK(D:bF K mg):dk P w K mg base 1 "replaced" 3 bU:=Rf.eV (j:=0) D.c18 D.b Rf.bE Rf.bG A4
theorem k7(D:bF K mg):dk P w K mg base 4 "turned_order" 1 bp:=Rf.QL (j:=0) D.c19 D.b Rf.bE Rf.bG r8
theorem Gw(D:bF K mg):dk P w K mg base 8 "turned" 1 k6:=Rf.eV (j:=7) D.c20 D.b (Rf.fm (cw D) (Rf.fm (k7 D) Rf.bE)) Rf.bG E6
theorem sF(D:bF K mg):dk P w K mg base 9 "turned_plan" 2 fI:=Rf.eV (j:=8) D.c21 D.b (Rf.fm (eO D) (Rf.fm (k7 D) Rf.bE)) Rf.bG tI
theorem qo(D:bF K mg):dk P w K mg base 2 "with_end" 5 d7:=Rf.eV (j:=1) D.c22 D.b (Rf.fm (jK D) Rf.bE) Rf.bG Bw
theorem nH(D:bF K mg):dk P w K mg base 3 "with_likes" 4 bD:=Rf.eV (j:=2) D.c23 D.b (Rf.fm (qo D) Rf.bE) Rf.bG wV
theorem lI(D:bF K mg):dk P w K mg base 2 "with_ways" 2 bW:=Rf.eV (j:=1) D.c24 D.b (Rf.fm (jK D) Rf.bE) Rf.bG yi
theorem tL(D:bF K mg):dk P w K mg base 8 "with_amount" 4 da:=Rf.eV (j:=7) D.c25 D.b (Rf.fm (cw D) (Rf.fm (ml D) (Rf.fm (fA D) (Rf.fm (qo D) Rf.bE)))) (Rf.ux D.i_MOST Rf.bG) ui
theorem w6(D:bF K mg):dk P w K mg base 8 "with_limit" 3 cO:=Rf.eV (j:=7) D.c26 D.b (Rf.fm (cw D) (Rf.fm (b8 D) (Rf.fm (fA D) (Rf.fm (lI D) (Rf.fm (jK D) Rf.bE))))) (Rf.ux D.i_MOST Rf.bG) vM
theorem ue(D:bF K mg):dk P w K mg base 8 "without_way" 2 dQ:=Rf.eV (j:=7) D.c27 D.b (Rf.fm (cw D) (Rf.fm (b8 D) (Rf.fm (lI D) (Rf.fm (nH D) Rf.bE)))) Rf.bG tq
theorem A2(D:bF K mg):dk P w K mg base 1 "inserted" 3 gY:=Rf.eV (j:=0) D.c28 D.b Rf.bE Rf.bG Ag
theorem Ax(D:bF K mg):dk P w K mg base 8 "with_way" 6 hJ:=Rf.eV (j:=7) D.c29 D.b (Rf.fm (cw D) (Rf.fm (ml D) (Rf.fm (fA D) (Rf.fm (b8 D) (Rf.fm (lI D) (Rf.fm (nH D) (Rf.fm (A2 D) Rf.bE))))))) (Rf.ux D.i_MOST Rf.bG) A9
theorem LB(D:bF K mg):dk P w K mg base 9 "sent" 3 oO:=Rf.eV (j:=8) D.c30 D.b (Rf.fm (eO D) (Rf.fm (b8 D) (Rf.fm (js D) Rf.bE))) Rf.bG Ml
theorem IJ(D:bF K mg):dk P w K mg base 9 "taken" 3 lT:=Rf.eV (j:=8) D.c31 D.b (Rf.fm (eO D) (Rf.fm (b8 D) (Rf.fm (js D) Rf.bE))) Rf.bG Jf
theorem oP(D:bF K mg):dk P w K mg base 4 "ways_of" 3 cf:=Rf.QL (j:=0) D.c32 D.b Rf.bE Rf.bG DQ
theorem pe(D:bF K mg):dk P w K mg base 5 "chosen_by" 4 bY:=Rf.eV (j:=4) D.c33 D.b (Rf.fm (oP D) Rf.bE) Rf.bG xt
theorem v8(D:bF K mg):dk P w K mg base 5 "wants_more" 4 cR:=Rf.eV (j:=4) D.c34 D.b (Rf.fm (oP D) (Rf.fm (js D) Rf.bE)) Rf.bG wN
theorem Br(D:bF K mg):dk P w K mg base 6 "why_kept" 3 fg:=Rf.eV (j:=5) D.c35 D.b (Rf.fm (v8 D) Rf.bE) Rf.bG BB
theorem pI(D:bF K mg):dk P w K mg base 7 "first_leaving" 2 dY:=Rf.eV (j:=6) D.c36 D.b (Rf.fm (Br D) Rf.bE) Rf.bG pR
theorem Bl(D:bF K mg):dk P w K mg base 8 "is_still" 2 jH:=Rf.eV (j:=7) D.c37 D.b (Rf.fm (pI D) Rf.bE) Rf.bG Bb
theorem Jr(D:bF K mg):dk P w K mg base 9 "rests" 2 fO:=Rf.eV (j:=8) D.c38 D.b (Rf.fm (eO D) (Rf.fm (Bl D) Rf.bE)) Rf.bG JH
theorem kE(D:bF K mg):dk P w K mg base 6 "chosen_by_all" 3 bq:=Rf.eV (j:=5) D.c39 D.b (Rf.fm (pe D) Rf.bE) Rf.bG pO
theorem yn(D:bF K mg):dk P w K mg base 1 "limits" 1 fW:=Rf.eV (j:=0) D.c40 D.b Rf.bE Rf.bG FV
theorem uZ(D:bF K mg):dk P w K mg base 2 "lowered" 3 cE:=Rf.eV (j:=1) D.c41 D.b (Rf.fm (jK D) Rf.bE) Rf.bG EE
theorem Dh(D:bF K mg):dk P w K mg base 7 "refused" 2 eu:=Rf.eV (j:=6) D.c42 D.b (Rf.fm (kE D) Rf.bE) Rf.bG Dz
theorem Jq(D:bF K mg):dk P w K mg base 8 "steps" 1 qh:=Rf.eV (j:=7) D.c43 D.b (Rf.fm (yn D) (Rf.fm (Dh D) (Rf.fm (uZ D) Rf.bE))) Rf.bG Ky
theorem Fn(D:bF K mg):dk P w K mg base 3 "capped" 2 nC:=Rf.eV (j:=2) D.c44 D.b (Rf.fm (yn D) (Rf.fm (uZ D) Rf.bE)) Rf.bG Hs
theorem iR(D:bF K mg):dk P w K mg base 9 "givers_best" 1 bb:=Rf.eV (j:=8) D.c45 D.b (Rf.fm (cw D) (Rf.fm (kE D) (Rf.fm (Fn D) (Rf.fm (Jq D) Rf.bE)))) Rf.bG sZ
theorem tT(D:bF K mg):dk P w K mg base 10 "takers_best" 1 dR:=Rf.eV (j:=9) D.c46 D.b (Rf.fm (Gw D) (Rf.fm (sF D) (Rf.fm (iR D) Rf.bE))) Rf.bG sN
theorem D5(D:bF K mg):dk P w K mg base 1 "greater" 2 jr:=Rf.eV (j:=0) D.c47 D.b Rf.bE Rf.bG DV
theorem wX(D:bF K mg):dk P w K mg base 5 "on_ways_of" 4 eM:=Rf.eV (j:=4) D.c48 D.b (Rf.fm (oP D) Rf.bE) Rf.bG va
theorem vt(D:bF K mg):dk P w K mg base 6 "would_keep" 5 dB:=Rf.eV (j:=5) D.c49 D.b (Rf.fm (pe D) (Rf.fm (D5 D) (Rf.fm (wX D) Rf.bE))) Rf.bG wQ
theorem vZ(D:bF K mg):dk P w K mg base 9 "check_both" 3 gz:=Rf.eV (j:=8) D.c50 D.b (Rf.fm (eO D) Rf.bE) Rf.bG vx
theorem AB(D:bF K mg):dk P w K mg base 10 "all_like" 4 ib:=Rf.eV (j:=9) D.c51 D.b (Rf.fm (vZ D) (Rf.fm (mZ D) (Rf.fm (vt D) Rf.bE))) Rf.bG Aj
theorem tE(D:bF K mg):dk P w K mg base 2 "through_all" 3 dU:=Rf.eV (j:=1) D.c52 D.b (Rf.fm (js D) Rf.bE) Rf.bG sy
theorem GK(D:bF K mg):dk P w K mg base 10 "totals" 1 hV:=Rf.eV (j:=9) D.c53 D.b (Rf.fm (iR D) (Rf.fm (tE D) Rf.bE)) Rf.bG Fj
theorem yz(D:bF K mg):dk P w K mg base 1 "_law_cell" 2 eC:=Rf.eV (j:=0) D.c54 D.b Rf.bE Rf.bG yU
theorem jU(D:bF K mg):dk P w K mg base 2 "_law_drawn" 3 ao:=Rf.eV (j:=1) D.c55 D.b (Rf.fm (yz D) Rf.bE) Rf.bG wz
theorem sP(D:bF K mg):dk P w K mg base 3 "_law_orders" 3 bX:=Rf.eV (j:=2) D.c56 D.b (Rf.fm (jU D) Rf.bE) Rf.bG tM
theorem wJ(D:bF K mg):dk P w K mg base 4 "_law_world" 3 cP:=Rf.eV (j:=3) D.c57 D.b (Rf.fm (sP D) (Rf.fm (jU D) Rf.bE)) Rf.bG xj
end
theorem L3{P:Program}{w:World}{K:W.Frag}{h:Heap}{mg:Str->Option Value}{fa:Addr}(X:K.In h)(G:h.Ns mainGlobals mg)(hfa:mg "law"=some (.ref fa))(I:N4 K):∃fd:FuncData,(∀ (s:Shared) (v:Value),BindsTo s fd ⟨[v],[]⟩ [("_law_script",v)])/\∀base:Heap,K.In base->base.Ns mainGlobals mg->pG P w K mg base Mm 11 fa fd ["_law_script"] (MH K 1 jq):=by
 have D:=I.defs X G
 obtain⟨f,fd,hm,F,hb⟩:=D.c58.ex
 rw[hfa] at hm;cases hm
 refine⟨fd,fun s v=>?_,fun base _ _=>KL F (Rf.Qs (N:=uO)) fun X hP hw hK hm' hb' C _ _ HF H=>by subst hP;subst hw;subst hK;subst hm';subst hb';exact Rf.Ld (j:=10) C D.b (Rf.fm (wJ D) (Rf.fm (iR D) (Rf.fm (tT D) (Rf.fm (ue D) (Rf.fm (w6 D) (Rf.fm (Ax D) (Rf.fm (jU D) (Rf.fm (tL D) (Rf.fm (Jr D) (Rf.fm (AB D) (Rf.fm (LB D) (Rf.fm (IJ D) (Rf.fm (GK D) Rf.bE))))))))))))) Rf.bG OQ⟩
 obtain⟨oc,od,kV,doc,pm,an,cdv,ct,osl,rfl,lk,hcd⟩:=F.ex
 exact .of_eq rfl
theorem walk{l:W.OpenLaw}{q:Program}{loose:List Str}{XP:(Str->Option Value)->Heap->Prop}{YP:World->Heap->Prop}{d:DefRec}{K:Params->W.Frag}{ts:List Addr}(hn:l.most=some 63)(hdf:d.params.defaults=[])(hname:d.name="law")
  (hY:∀ (w:World) (h:Heap),YP w h->(K w.params).In h/\∀P∈ts,h.get? P=some (W.tabObj #[])) (ht:∀w:World,nQ (K w.params) ts=true) (hI:∀w:World,N4 (K w.params)) (main:∀ns:List Int,ns.length<=63->jq [.list (ns.map PyData.int)]=some (.bool true)) :
  W.WalkO q loose XP YP l.row.toRowW d [] (fun f vs=>PySem.call f vs) :=
 G6 (n:=63) (k:=11) (x:="_law_script") (CX:=fun _=>Mm) (sp:=fun w=>MH (K w.params) 1 jq) hn (by decide) hdf ⟨rfl,by decide,by decide⟩ hY ht (fun w mg fa h KX G hmg=>L3 KX G (by rw[<- hname];exact hmg) (hI w)) (fun _ _ a ns hl hT hS=>AO hS hT (main ns hl)) fun _ _ _ _ _ z=>z
end K52
namespace Dl
open PySem L2 PySem.Spec PyProof.Rows
noncomputable def yw:D->Prop|.none=>True|.bool _=>True|.int _=>True|.str x=>PyData.canLay0 (.str x)=true|_=>False
noncomputable def jC(b:Nat):Nat->D->Prop
 | 0,d=>yw d
 | k+1,d=>yw d\/(∃xs,(d=.list xs\/d=.tuple xs)/\xs.length<=b/\∀x∈xs,jC b k x)
theorem jC.leaf{b k:Nat}{d:D}(h:yw d):jC b k d:=by
 cases k with
 | zero=>exact h
 | succ k=>exact .inl h
theorem jC.tup{b k:Nat}{xs:List D}(hb:xs.length<=b)(h:∀x∈xs,jC b k x):jC b (k+1) (.tuple xs):=.inr ⟨xs,.inr rfl,hb,h⟩
theorem jC.lst{b k:Nat}{xs:List D}(hb:xs.length<=b)(h:∀x∈xs,jC b k x):jC b (k+1) (.list xs):=.inr ⟨xs,.inl rfl,hb,h⟩
theorem jC.of_tup{b k:Nat}{xs:List D}(h:jC b k (.tuple xs)):∃j,k=j+1/\xs.length<=b/\∀x∈xs,jC b j x:=by
 cases k with
 | zero=>cases h
 | succ k =>
  rcases h with h|⟨ys,h|h,h1,h2⟩
  ·cases h
  ·cases h
  ·cases h;exact⟨k,rfl,h1,h2⟩
theorem jC.mono{b b':Nat}(hb:b<=b'):∀ {k k':Nat}{d:D},k<=k'->jC b k d->jC b' k' d
 | 0,k',d,_,h=>.leaf h
 | k+1,0,d,hk,h=>by omega
 | k+1,k'+1,d,hk,h=>by
  rcases h with h|⟨xs,h,h1,h2⟩
  ·exact .inl h
  ·exact .inr ⟨xs,h,yE h1 hb,fun x hx=>(h2 x hx).mono hb (by omega)⟩
theorem Cq{b k:Nat}:∀ {xs:List D},(∀x∈xs,PyData.canLay0 x=true/\x.depth<=k)->PyData.canLayAll0 xs=true/\PyData.depthAll xs<=k
 | [],_=>⟨by simp[PyData.canLayAll0],by simp[PyData.depthAll]⟩
 | x::xs,h=>by
  obtain⟨a,c⟩:=Cq (b:=b) (xs:=xs) fun y hy=>h y (zC _ hy)
  obtain⟨a',c'⟩:=h x zE
  exact⟨by simp[PyData.canLayAll0,a,a'],by simp[PyData.depthAll];omega⟩
theorem jC.lay{b:Nat}:∀ {k:Nat}{d:D},jC b k d->PyData.canLay0 d=true/\d.depth<=k:=by
 have lf:∀ {k:Nat}{d:D},yw d->PyData.canLay0 d=true/\d.depth<=k:=fun {k d} h=>by
  cases d<;>simp only[yw] at h<;>first|exact⟨h,by simp[PyData.depth]⟩|exact⟨by simp[PyData.canLay0],by simp[PyData.depth]⟩
 intro k
 induction k with
 | zero=>exact fun h=>lf h
 | succ k ih =>
  intro d h
  rcases h with h|⟨xs,h,h1,h2⟩
  ·exact lf h
  ·obtain⟨a,c⟩:=Cq (b:=b) (xs:=xs) fun y hy=>ih (h2 y hy)
   rcases h with rfl|rfl
   ·exact⟨by simp[PyData.canLay0,a],by simp[PyData.depth];omega⟩
   ·exact⟨by simp[PyData.canLay0,a],by simp[PyData.depth];omega⟩
theorem jC.shaped{b k:Nat}{d:D}(h:jC b k d)(hk:k<=64):SeqAt.shaped d=true:=by
 obtain⟨a,c⟩:=h.lay
 simp[SeqAt.shaped,a];omega
theorem jC.noDict{b k:Nat}{d:D}(h:jC b k d):∀kv,d≠.dict kv:=by
 rintro kv rfl
 have:=h.lay.1
 simp[PyData.canLay0] at this
noncomputable def pE:D->Bool|.dict _=>false|_=>true
theorem jC.nd{b k:Nat}{d:D}(h:jC b k d):pE d=true:=by
 cases d<;>first|rfl|exact absurd rfl (h.noDict _)
noncomputable def QC:D->Bool|.int _=>true|.bool _=>true|_=>false
noncomputable def QI:D->Bool|.bool _=>true|_=>false
noncomputable def KM:D->Bool|.tuple _=>true|_=>false
theorem kI{d:D}(h:pE d=true):we (iP d) "int"=some (QC d):=by cases d<;>first|cases h;done|exact Iu _ (by simp[iP])
theorem kB{d:D}(h:pE d=true):we (iP d) "bool"=some (QI d):=by cases d<;>first|cases h;done|exact FG _ (by simp[iP])
theorem kT{d:D}(h:pE d=true):we (iP d) "tuple"=some (KM d):=by cases d<;>first|cases h;done|exact kit_tuple _ (by simp[iP])
noncomputable def whole(a b:Int):D->Bool|.int i=>decide (a<=i)&&decide (i<=b)|_=>false
theorem uR{tgt:Env->D->Option Env}{te:Env->Option D}{ρ:Env}{h:D->D}:∀ {ds:List D},(∀d∈ds,∃ρ',tgt ρ d=some ρ'/\te ρ'=some (h d))->dg tgt (fun _=>some true) te ρ ds=some (ds.map h)
 | [],_=>rfl
 | d::ds,hh=>by
  obtain⟨ρ',h1,h2⟩:=hh d zE
  have ih:=uR (ds:=ds) fun y hy=>hh y (zC _ hy)
  unfold dg
  rw[h1]
  simp[h2,ih]
theorem nX{tgt:Env->D->Option Env}{tt:Env->Option Bool}{te:Env->Option D}{ρ:Env}{p:D->Bool}{h:D->D}:∀ {ds:List D},(∀d∈ds,∃ρ',tgt ρ d=some ρ'/\tt ρ'=some (p d)/\(p d=true->te ρ'=some (h d)))->dg tgt tt te ρ ds=some ((ds.filter p).map h)
 | [],_=>rfl
 | d::ds,hh=>by
  obtain⟨ρ',h1,h2,h3⟩:=hh d zE
  have ih:=nX (ds:=ds) fun y hy=>hh y (zC _ hy)
  unfold dg
  rw[h1]
  simp only[zA,h2]
  cases hp:p d with
  | true=>rw[if_pos rfl,h3 hp];simp[ih,List.filter_cons,hp]
  | false=>simp[ih,List.filter_cons,hp]
theorem ph{p:D->Bool}:∀ds:List D,boolsOf (ds.map fun d=>.bool (p d))=some (ds.map p)
 | []=>rfl
 | d::ds=>by simp[boolsOf,ph ds]
theorem nE{p:D->Bool}(ds:List D):l7 [.list (ds.map fun d=>.bool (p d))]=some (.bool (ds.all p)):=by
 simp only[l7,oneOf,zA,ph,zB,List.all_map]
 rfl
theorem bS{ds:List D}(h:ds.length<=4000):small ds=some ds:=if_pos (yE h (by decide))
theorem nY{ds:List D}{i:Nat}(h:i < ds.length):vg ds (i:Nat)=some (ds.getD i .none):=by
 have:=vL (xs:=ds) (j:=i) (v:=ds[i]) (zU.mpr ⟨h,rfl⟩)
 rw[this]
 simp[List.getD,h]
theorem CC{ds:List D}(h:0 < ds.length):vg ds 0=some (ds.getD 0 .none):=nY (i:=0) h
theorem xB{ds:List D}(h:1 < ds.length):vg ds 1=some (ds.getD 1 .none):=nY (i:=1) h
theorem KQ{ds:List D}(h:2 < ds.length):vg ds 2=some (ds.getD 2 .none):=nY (i:=2) h
end Dl
namespace Wm
open PySem L2 Dl PySem.Spec PyProof.Rows Pg
theorem zc{fa fb fc:Dl.Env->Option D}{ρ:Dl.Env}{a i b:Int}(ha:fa ρ=some (.int a))(hb:fb ρ=some (.int i))(hc:fc ρ=some (.int b)):k4 Da Da fa fb fc ρ=some (.bool (decide (a<=i)&&decide (i<=b))):=by
 simp only[k4,ha,hb,hc,zA,Da,xl,if_true]
 by_cases h:a<=i<;>simp[h]
theorem jv(i j:Int):Dl.eU (.int i) (.int j)=some (.int (i - j)):=rfl
theorem cH(i j:Int):Dl.aG (.int i) (.int j)=some (.int (i+j)):=rfl
theorem vm(d:D):Slot.all (.val d)=some d:=rfl
theorem vn(ds:List D):Slot.all (.own ds)=some (.list ds):=rfl
theorem Cz:Slot.all .non=none:=rfl
theorem Ck(d:D):Slot.frz (.val d)=some d:=rfl
theorem C7(ds:List D):Slot.frz (.own ds)=none:=rfl
theorem B6:Slot.frz .non=none:=rfl
local macro_rules|`(tactic| simp! [$ts,*])=>`(tactic| simp only[bc,av,gy,aJ,gq,Bg,cX,bM,fB,gB,Lh,ab,fC,l5,PQ,MA,NQ,f1,f2,jv,cH,aa,ae,ah,br,mJ,bR,dN,oneOf,iF,bO,vm,vn,Cz,Ck,C7,B6,aV,cD,aZ,aP,kl,ak,  zI,List.map_nil,List.cons_append,List.nil_append,zL,List.length_nil,List.replicate,List.getElem?_cons_zero,List.getElem?_cons_succ,Option.getD_some,Option.getD_none,zA,Option.bind_none,zB,Option.map_none,Nat.reduceAdd,Nat.reduceSub,Nat.zero_add,Nat.sub_self,if_true,reduceIte,$ts,*])
theorem gW{d:D}(h:pE d=true)(a b:Int):ba [d,.int a,.int b]=some (.bool (whole a b d)):=by
 simp! [ba,mS,kI h,kB h]
 cases d<;>simp[QC,QI,whole]
 rw[zc rfl rfl rfl]
theorem lF{d:D}(h:pE d=true)(n:Int):cg [d,.int n]=some (.bool (whole 0 (n - 1) d)):=by
 simp! [cg,kN,gW h]
noncomputable def long(a b:Int):D->Bool|.tuple ds=>decide (a<=(ds.length:Int))&&decide ((ds.length:Int)<=b)|_=>false
theorem fv{d:D}(h:pE d=true)(a b:Int):bx [d,.int a,.int b]=some (.bool (long a b d)):=by
 simp! [bx,oi,kT h]
 cases d<;>simp[KM,long]
 rw[zc rfl (i:=_) rfl rfl]
noncomputable def jB:D->Int|.int i=>i|_=>0
theorem gM{a b:Int}{d:D}(h:whole a b d=true):d=.int (jB d)/\a<=jB d/\jB d<=b:=by
 cases d<;>simp[whole] at h
 exact⟨rfl,h⟩
theorem mv{a b:Int}:∀ {ls:List D},ls.all (whole a b)=true->ls=(ls.map jB).map PyData.int
 | [],_=>rfl
 | d::ls,h=>by
  rw[List.all_cons,zF] at h
  rw[zI,zI,<- (gM h.1).1,<- mv h.2]
noncomputable def j5(n:Int):D->Bool|.tuple ls=>ls.all (whole 0 (n - 1))&&decide ((ls.map jB).Nodup)|_=>false
theorem du(i j:Int):b9 (.int i) (.int j)=some (.bool (decide (i=j))):=by
 simp[b9,MM,SeqAt.shaped,PyData.canLay0,PyData.depth,PyData.eqv]
 rfl
theorem FQ(i j:Int):fT (.int i) (.int j)=some (.bool (!decide (i=j))):=by
 simp[fT,LG,SeqAt.shaped,PyData.canLay0,PyData.depth,PyData.eqv]
 rfl
theorem Di{ls:List D}{a b:Int}(h:ls.all (whole a b)=true)(hl:ls.length<=100):f2 b9 (f1 lK (fun _=>some (.tuple ls))) (br bR (aa (fun _=>some (.tuple ls)) ae)) []=some (.bool (decide ((ls.map jB).Nodup))):=by
 have e:=mv h
 have e1:lK (.tuple ls)=some (.int (many (ls.map jB))):=by
  simp only[lK,mY]
  conv=>lhs;rw[e]
  rw[cN,zA,if_pos]
  rw[zD]
  exact Nat.lt_of_le_of_lt (Nat.add_le_add_right hl 1) (by decide)
 simp! [e1,du]
 have:=AR (ls.map jB)
 rw[zD] at this
 simp only[<- this,Int.ofNat_inj,yM,PyData.bool.injEq]
theorem On(r:Dl.Env)(d:D):fG 0 (none::r) d=some (some d::r):=by simp[fG,isFree]
theorem cF{cs:List Nat}{fi:Dl.Env->Option (List D)}{ds:List D}{te:Dl.Env->Option D}{h:D->D}{ρ:Dl.Env}(hfi:fi ρ=some ds)(hl:ds.length<=4000)(hh:∀d∈ds,te (some d::cs.map fun j=>(ρ[j]?).getD none)=some (h d)):au 1 cs fi (fG 0) (fun _=>some true) te ρ=some (ds.map h):=by
 simp only[au,hfi,zA,fS,List.replicate,List.cons_append,List.nil_append]
 rw[uR (h:=h) fun d hd=>⟨_,On _ d,hh d hd⟩,zA,bS (by rw[zD];exact hl)]
theorem nS{cs:List Nat}{fi:Dl.Env->Option (List D)}{ds:List D}{tt:Dl.Env->Option Bool}{te:Dl.Env->Option D}{p:D->Bool}{h:D->D}{ρ:Dl.Env}(hfi:fi ρ=some ds)(hl:ds.length<=4000)
  (hp:∀d∈ds,tt (some d::cs.map fun j=>(ρ[j]?).getD none)=some (p d)) (hh:∀d∈ds,p d=true->te (some d::cs.map fun j=>(ρ[j]?).getD none)=some (h d)):au 1 cs fi (fG 0) tt te ρ=some ((ds.filter p).map h):=by
 simp only[au,hfi,zA,fS,List.replicate,List.cons_append,List.nil_append]
 rw[nX (p:=p) (h:=h) fun d hd=>⟨_,On _ d,hp d hd,hh d hd⟩,zA,bS (by rw[zD];exact yE (List.length_filter_le _ _) hl)]
theorem xN{b k:Nat}{d:D}(h:jC b k d)(hb:b<=100)(n:Int):fR [d,.int n]=some (.bool (j5 n d)):=by
 simp! [fR,ll,kT h.nd]
 cases d<;>try (simp[KM,j5];done)
 rename_i ls
 obtain⟨j,rfl,hl,hf⟩:=h.of_tup
 have c:=cF (cs:=[1]) (fi:=aV (ab 0)) (te:=(ah 2 cg (aa (ab 0) (aa (ab 1) ae)))) (h:=fun x=>.bool (whole 0 (n - 1) x)) (ρ:=[some (.tuple ls),some (.int n)]) rfl (by omega) fun x hx=>by simp! [lF (hf x hx).nd]
 simp! [KM,Bool.not_true,Bool.false_eq_true,c,nE]
 cases e:ls.all (whole 0 (n - 1)) with
 | false=>simp[j5,e]
 | true =>
  have:=Di e (yE hl hb)
  simp only[f2,f1,br,aa,ae,zA,zB] at this
  simp! [j5,e,Bool.not_true,Bool.false_eq_true,Bool.true_and]
  simp only[bR,dN,oneOf,zA,iF,zB] at this
  simp! [this]
noncomputable def placeOk(n:Int):D->Bool|.tuple ds=>decide (ds.length=2)&&(whole 0 9 (ds.getD 0 .none)&&j5 n (ds.getD 1 .none))|_=>false
noncomputable def kH(g t:Int):D->Bool|.tuple ds=>decide (ds.length=3)&&(whole 0 (g - 1) (ds.getD 0 .none)&&(whole 0 (t - 1) (ds.getD 1 .none)&&whole 1 9 (ds.getD 2 .none)))|_=>false
theorem xc(n:Nat)(ds:List D):long (n:Int) (n:Int) (.tuple ds)=decide (ds.length=n):=by
 simp only[long]
 by_cases h:ds.length=n
 ·simp[h]
 ·rw[yA h,Bool.and_eq_false_iff,decide_eq_false_iff_not,decide_eq_false_iff_not];omega
theorem getD_mem{ds:List D}{i:Nat}(h:i < ds.length):ds.getD i .none∈ds:=by simp[List.getD,h]
theorem xv{b k:Nat}{d:D}(h:jC b k d)(hb:b<=100)(n:Int):f7 [d,.int n]=some (.bool (placeOk n d)):=by
 simp! [f7,rY,fv h.nd]
 cases d<;>try (simp[long,placeOk];done)
 rename_i ds
 obtain⟨j,rfl,hl,hf⟩:=h.of_tup
 rw[show long 2 2 (.tuple ds)=decide (ds.length=2) from xc 2 ds]
 by_cases e:ds.length=2
 ·have f0:=hf _ (getD_mem (i:=0) (by omega))
  have f1:=hf _ (getD_mem (i:=1) (by omega))
  simp! [e,decide_true,CC (show 0 < ds.length by omega),xB (show 1 < ds.length by omega),gW f0.nd,xN f1 hb,placeOk]
  cases whole 0 9 (ds.getD 0 .none)<;>simp
 ·simp[e,placeOk]
theorem Hz{b k:Nat}{d:D}(h:jC b k d)(hb:b<=100)(g t:Int):jy [d,.int g,.int t]=some (.bool (kH g t d)):=by
 simp! [jy,r9,fv h.nd]
 cases d<;>try (simp[long,kH];done)
 rename_i ds
 obtain⟨j,rfl,hl,hf⟩:=h.of_tup
 rw[show long 3 3 (.tuple ds)=decide (ds.length=3) from xc 3 ds]
 by_cases e:ds.length=3
 ·have f0:=hf _ (getD_mem (i:=0) (by omega))
  have f1:=hf _ (getD_mem (i:=1) (by omega))
  have f2':=hf _ (getD_mem (i:=2) (by omega))
  simp! [e,decide_true,Bool.not_true,Bool.false_eq_true,CC (show 0 < ds.length by omega),xB (show 1 < ds.length by omega),KQ (show 2 < ds.length by omega),gW f2'.nd,lF f0.nd,lF f1.nd,kH]
  cases whole 0 (g - 1) (ds.getD 0 .none)<;>cases whole 0 (t - 1) (ds.getD 1 .none)<;>simp
 ·simp[e,kH]
noncomputable def di:D->List D|.tuple ds=>ds|_=>[]
noncomputable def o4(d:D):Bool:=long 1 4 d
noncomputable def jD(g t w:D):Bool:=o4 g&&(o4 t&&((di g).all (placeOk (di t).length)&&((di t).all (placeOk (di g).length)&&(KM w&&(di w).all (kH (di g).length (di t).length)))))
theorem lb{a b:Int}{d:D}(h:long a b d=true):d=.tuple (di d):=by cases d<;>first|rfl|cases h
theorem o7{b k:Nat}{g t w:D}(hg:jC b k g)(ht:jC b k t)(hw:jC b k w)(hb:b<=100):fZ [g,t,w]=some (.bool (jD g t w)):=by
 simp! [fZ,k8,fv hg.nd,fv ht.nd,kT hw.nd]
 unfold jD o4
 cases e1:long 1 4 g with
 | false=>simp
 | true =>
  cases e2:long 1 4 t with
  | false=>simp
  | true =>
   obtain⟨gs,rfl⟩:∃gs,g=.tuple gs:=⟨_,lb e1⟩
   obtain⟨ts,rfl⟩:∃ts,t=.tuple ts:=⟨_,lb e2⟩
   obtain⟨j,rfl,hgl,hgf⟩:=hg.of_tup
   obtain⟨j',hj,htl,htf⟩:=ht.of_tup
   have c1:=cF (cs:=[1]) (fi:=aV (ab 0)) (te:=(ah 2 f7 (aa (ab 0) (aa (br bR (aa (ab 1) ae)) ae)))) (h:=fun x=>.bool (placeOk ts.length x)) (ρ:=[some (.tuple gs),some (.tuple ts),some w]) rfl (by omega) fun x hx=>by simp! [xv (hgf x hx) hb]
   have c2:=cF (cs:=[0]) (fi:=aV (ab 1)) (te:=(ah 2 f7 (aa (ab 0) (aa (br bR (aa (ab 1) ae)) ae)))) (h:=fun x=>.bool (placeOk gs.length x)) (ρ:=[some (.tuple gs),some (.tuple ts),some w]) rfl (by omega) fun x hx=>by simp! [xv (htf x hx) hb]
   simp! [Bool.not_true,Bool.false_eq_true,c1,nE,di,Bool.true_and]
   cases e3:gs.all (placeOk ts.length) with
   | false=>simp
   | true =>
    simp! [Bool.not_true,Bool.false_eq_true,c2,nE,Bool.true_and]
    cases e4:ts.all (placeOk gs.length) with
    | false=>simp
    | true =>
     cases hT:KM w with
     | false=>simp! [Bool.not_true,Bool.false_eq_true,kT hw.nd,hT,Bool.false_and,Bool.and_false]
     | true =>
     obtain⟨ws,rfl⟩:∃ws,w=.tuple ws:=by cases w<;>first|exact⟨_,rfl⟩|cases hT
     obtain⟨j2,hj2,hwl,hwf⟩:=hw.of_tup
     have c3:=cF (cs:=[0,1]) (fi:=aV (ab 2)) (te:=(ah 3 jy (aa (ab 0) (aa (br bR (aa (ab 1) ae)) (aa (br bR (aa (ab 2) ae)) ae))))) (h:=fun x=>.bool (kH gs.length ts.length x)) (ρ:=[some (.tuple gs),some (.tuple ts),some (.tuple ws)]) rfl (by omega) fun x hx=>by simp! [Hz (hwf x hx) hb]
     simp! [Bool.not_true,Bool.false_eq_true,c3,nE,Bool.true_and,kT hw.nd,KM]
theorem rW:∀ (a b:List Int),PyData.eqvAll (a.map PyData.int) (b.map PyData.int)=decide (a=b)
 | [],[]=>by simp[PyData.eqvAll]
 | [],_::_=>by simp[PyData.eqvAll]
 | _::_,[]=>by simp[PyData.eqvAll]
 | i::a,j::b=>by
  rw[zI,zI,PyData.eqvAll,rW a b]
  by_cases h:i=j
  ·subst h;simp[PyData.eqv]
  ·simp[PyData.eqv,h]
theorem yX:∀ (a b:List (List Int)),PyData.eqvAll (a.map af) (b.map af)=decide (a=b)
 | [],[]=>by simp[PyData.eqvAll]
 | [],_::_=>by simp[PyData.eqvAll]
 | _::_,[]=>by simp[PyData.eqvAll]
 | x::a,y::b=>by
  rw[zI,zI,PyData.eqvAll,yX a b,af,af,PyData.eqv,rW]
  by_cases h:x=y
  ·subst h;simp
  ·simp[h]
theorem lZ{b k:Nat}(i:Int):jC b k (.int i):=.leaf trivial
theorem nz{b k:Nat}{r:List Int}(h:r.length<=b):jC b (k+1) (af r):=.tup (by rw[zD];exact h) fun x hx=>by
 obtain⟨i,_,rfl⟩:=zQ.mp hx
 exact lZ i
theorem Hx{b k:Nat}{a:List (List Int)}(h:a.length<=b)(hr:∀r∈a,r.length<=b):jC b (k+2) (.list (a.map af)):=.lst (by rw[zD];exact h) fun x hx=>by
 obtain⟨r,hr',rfl⟩:=zQ.mp hx
 exact nz (hr r hr')
theorem Dk(a:List (List Int)):∃b,a.length<=b/\∀r∈a,r.length<=b:=by
 induction a with
 | nil=>exact⟨0,Nat.le_refl _,fun r h=>by cases h⟩
 | cons x a ih =>
  obtain⟨b,h1,h2⟩:=ih
  refine⟨b+1+x.length,by rw[zL];omega,fun r hr=>?_⟩
  rcases zR.mp hr with rfl|hr
  ·omega
  ·have:=h2 r hr;omega
theorem ze(a:List (List Int)):SeqAt.shaped (.list (a.map af))=true:=by
 obtain⟨b,h1,h2⟩:=Dk a
 exact (Hx (b:=b) (k:=0) h1 h2).shaped (by decide)
theorem DZ(a b:List (List Int)):b9 (.list (a.map af)) (.list (b.map af))=some (.bool (decide (a=b))):=by
 simp only[b9,MM,ze,and_self,if_true,PyData.eqv,yX,zB]
noncomputable def jx(d:D):List Int:=(di ((di d).getD 1 .none)).map jB
theorem j7{n:Int}{d:D}(h:placeOk n d=true):∃a ds,d=.tuple ds/\ds.length=2/\ds.getD 0 .none=.int a/\0<=a/\a<=9/\ds.getD 1 .none=.tuple ((jx d).map PyData.int)/\(jx d).Nodup/\∀j∈jx d,0<=j/\j<=n - 1:=by
 cases d<;>simp only[placeOk] at h<;>try cases h
 rename_i ds
 simp only[zF,zJ] at h
 obtain⟨h1,h2,h3⟩:=h
 have e:jx (.tuple ds)=(di (ds.getD 1 .none)).map jB:=rfl
 rw[e]
 generalize hl:ds.getD 1 .none=l at h3
 cases l<;>simp only[j5] at h3<;>try cases h3
 rename_i ls
 simp only[zF,zJ] at h3
 obtain⟨w1,w2,w3⟩:=gM h2
 refine⟨_,ds,rfl,h1,w1,w2,w3,?_,h3.2,fun j hj=>?_⟩
 ·rw[show di (.tuple ls)=ls from rfl,<- mv h3.1];exact hl
 ·obtain⟨x,hx,rfl⟩:=zQ.mp hj
  exact (gM (List.all_eq_true.mp h3.1 x hx)).2
noncomputable def mW(k:Nat):List D->List (List Int)|[]=>[]|p::ps=>(jx p).map (fun j=>[((k:Nat):Int),j])++mW (k+1) ps
theorem qC:∀ (n:Nat) {l:List Int},l.Nodup->(∀j∈l,0<=j/\j<=(n:Int) - 1)->l.length<=n:=by
 intro n l hn h
 have hs:l.map Int.toNat ⊆ List.range n:=fun x hx=>by
  obtain⟨j,hj,rfl⟩:=zQ.mp hx
  have:=h j hj
  exact zT.mpr (by omega)
 have hnd:(l.map Int.toNat).Nodup:=by
  refine List.pairwise_map.mpr (hn.imp_of_mem fun {x y} hx hy hne e=>hne ?_)
  have:=h x hx;have:=h y hy;omega
 have:=List.Nodup.length_le_of_subset hnd hs
 simpa using this
theorem wW{n:Nat}:∀ {ps:List D}{k:Nat},(∀p∈ps,placeOk n p=true)->(mW k ps).length<=ps.length * n
 | [],k,_=>Nat.zero_le _
 | p::ps,k,h=>by
  obtain⟨_,_,_,_,_,_,_,_,hn,hr⟩:=j7 (h p zE)
  have h1:=qC n hn hr
  have h2:=wW (ps:=ps) (k:=k+1) fun q hq=>h q (zC _ hq)
  rw[mW,zN,zD,zL,Nat.succ_mul]
  omega
noncomputable def pB:aj->Option Out:=xu 1 [2,3] (au 1 [2] (aV (f2 ak (ab 3) (fC (.int 1)))) (fG 0) (fun _=>some true) (aP (aa (ab 1) (aa (ab 0) ae))))
theorem vH{n:Nat}{p x:D}{acc:List D}{k:Nat}(hp:placeOk n p=true)(hn:n<=100)(ha:acc.length<=1000):pB [.val x,.own acc,.val (.int (k:Nat)),.val p]=some (.nx [.val x,.own (acc++((jx p).map fun j=>af [((k:Nat):Int),j])),.val (.int (k:Nat)),.val p]):=by
 obtain⟨a,ds,rfl,hl,_,_,_,h1,hnd,hr⟩:=j7 hp
 have hb:=qC n hnd hr
 generalize jx (.tuple ds)=ls at *
 have c:=cF (cs:=[2]) (fi:=aV (f2 ak (ab 3) (fC (.int 1)))) (te:=aP (aa (ab 1) (aa (ab 0) ae))) (h:=fun y=>.tuple [.int (k:Nat),y]) (ρ:=[some x,none,some (.int (k:Nat)),some (.tuple ds)]) (ds:=ls.map PyData.int)
  (by simp! [xB (show 1 < ds.length by omega),h1]) (by rw[zD];omega) fun y hy=>by
   simp! [bS (show [PyData.int (k:Nat),y].length<=4000 by simp)]
 have hh:hand [2,3] 0 [Slot.val x,.own acc,.val (.int (k:Nat)),.val (.tuple ds)]=[Slot.val x,.own acc,.val (.int (k:Nat)),.val (.tuple ds)]:=rfl
 simp only[pB,xu,hh,cJ,zI,List.map_nil,Slot.frz,c,zA,o3,List.getElem?_cons_succ,List.getElem?_cons_zero]
 rw[if_pos]
 ·simp only[zB,List.set_cons_succ,List.set_cons_zero,zM]
  rfl
 ·simp only[zD]
  exact yE (show acc.length+ls.length<=1100 by omega) (by decide)
theorem uD{n:Nat}{x:D}(hn:n<=100):∀ {ps:List D}{k:Nat}{acc:List D}{s2 s3:Slot},(∀p∈ps,placeOk n p=true)->acc.length+ps.length * n<=1000 ->
  ∃t2 t3,eF (ie 2 3) pB (bL k ps) [.val x,.own acc,s2,s3]=some (.nx [.val x,.own (acc++(mW k ps).map af),t2,t3])
 | [],k,acc,s2,s3,_,_=>⟨s2,s3,by simp[bL,eF,mW]⟩
 | p::ps,k,acc,s2,s3,h,hl=>by
  have hp:=h p zE
  obtain⟨_,_,_,_,_,_,_,_,hnd,hr⟩:=j7 hp
  have hb:=qC n hnd hr
  rw[zL,Nat.succ_mul] at hl
  obtain⟨t2,t3,e⟩:=uD hn (x:=x) (ps:=ps) (k:=k+1) (acc:=acc++((jx p).map fun j=>af [((k:Nat):Int),j])) (s2:=.val (.int (k:Nat))) (s3:=.val p) (fun q hq=>h q (zC _ hq)) (by rw[zN,zD];omega)
  refine⟨t2,t3,?_⟩
  have hs:ie 2 3 [.val x,.own acc,s2,s3] (.tuple [.int (k:Nat),p])=some [.val x,.own acc,.val (.int (k:Nat)),.val p]:=rfl
  simp only[bL,eF,hs,zA,vH hp hn (show acc.length<=1000 by omega)]
  rw[e]
  simp[mW,zM,Function.comp_def]
theorem C0{n:Nat}{ps:List D}(h:∀p∈ps,placeOk n p=true)(hn:n<=100)(hl:ps.length * n<=1000):bQ [.tuple ps]=some (.list ((mW 0 ps).map af)):=by
 obtain⟨t2,t3,e⟩:=uD hn (x:=.tuple ps) (k:=0) (acc:=[]) (s2:=.non) (s3:=.non) h (by simpa using hl)
 have hs:bh 1 [] (kl ae) [Slot.val (.tuple ps),.non,.non,.non]=some (.nx [.val (.tuple ps),.own [],.non,.non]):=rfl
 have hh:hand [0] 0 [Slot.val (.tuple ps),.own [],.non,.non]=[Slot.val (.tuple ps),.own [],.non,.non]:=rfl
 have hf:bN (aa (ab 0) ae) (cJ [Slot.val (.tuple ps),.own [],.non,.non])=some (bL 0 ps):=rfl
 simp! [bQ,iL,hs,eD,hh,hf]
 rw[show xu 1 [2,3] (au 1 [2] (aV (f2 ak (ab 3) (fC (.int 1)))) (fG 0) (fun _=>some true) (aP (aa (ab 1) (aa (ab 0) ae))))=pB from rfl,e]
 simp! []
noncomputable def gu(d:D):List Int:=[jB ((di d).getD 0 .none),jB ((di d).getD 1 .none)]
theorem Ad{g t:Int}{d:D}(h:kH g t d=true):∃ds c,d=.tuple ds/\ds.length=3/\ds.getD 0 .none=.int (jB (ds.getD 0 .none))/\ds.getD 1 .none=.int (jB (ds.getD 1 .none))/\ds.getD 2 .none=.int c/\1<=c/\c<=9 /\
  0<=jB (ds.getD 0 .none)/\jB (ds.getD 0 .none)<=g - 1/\0<=jB (ds.getD 1 .none)/\jB (ds.getD 1 .none)<=t - 1:=by
 cases d<;>simp only[kH] at h<;>try cases h
 rename_i ds
 simp only[zF,zJ] at h
 obtain⟨h1,h2,h3,h4⟩:=h
 have a:=gM h2
 have b:=gM h3
 have c:=gM h4
 exact⟨ds,_,rfl,h1,a.1,b.1,c.1,c.2.1,c.2.2,a.2.1,a.2.2,b.2.1,b.2.2⟩
noncomputable def Bo(g t w:D):Bool:=decide ((di w).map gu=rQ (mW 0 (di g)))&&decide ((di w).map gu=rQ ((mW 0 (di t)).map List.reverse))
noncomputable def Pk(d:D):Bool:=long 3 3 d&&(jD ((di d).getD 0 .none) ((di d).getD 1 .none) ((di d).getD 2 .none)&&Bo ((di d).getD 0 .none) ((di d).getD 1 .none) ((di d).getD 2 .none))
theorem lR:∀ {ps:List D}{k:Nat},∀r∈mW k ps,∃i j,r=[i,j]
 | [],k,r,h=>by cases h
 | p::ps,k,r,h=>by
  rcases List.mem_append.mp h with h|h
  ·obtain⟨j,_,rfl⟩:=zQ.mp h;exact⟨_,_,rfl⟩
  ·exact lR r h
theorem nA{a:List (List Int)}(h:∀r∈a,∃i j,r=[i,j])(hl:a.length < 64):dC [.list (a.map af)]=some ((rQ a).map af):=by
 have:∀ns∈a,ns≠[]:=fun ns hn=>by obtain⟨i,j,rfl⟩:=h ns hn;exact List.cons_ne_nil _ _
 simp only[dC,oneOf,zA,jW this,if_pos hl]
theorem um:∀ {a:List (List Int)},(∀r∈a,∃i j,r=[i,j])->dg (ir 0 1) (fun _=>some true) (aP (aa (ab 1) (aa (ab 0) ae))) [none,none] (a.map af)=some ((a.map List.reverse).map af)
 | [],_=>rfl
 | r::a,h=>by
  obtain⟨i,j,rfl⟩:=h r zE
  have ih:=um (a:=a) fun q hq=>h q (zC _ hq)
  have e:ir 0 1 [none,none] (af [i,j])=some [some (.int i),some (.int j)]:=rfl
  rw[zI,dg,e,zA,zA,if_pos rfl,ih]
  simp! [bS (show [PyData.int j,.int i].length<=4000 by simp)]
  rfl
theorem DB{a:List (List Int)}{fi:Dl.Env->Option (List D)}{ρ:Dl.Env}(hfi:fi ρ=some (a.map af))(hl:a.length<=4000)(h:∀r∈a,∃i j,r=[i,j]):au 2 [] fi (ir 0 1) (fun _=>some true) (aP (aa (ab 1) (aa (ab 0) ae))) ρ=some ((a.map List.reverse).map af):=by
 simp only[au,hfi,zA,fS,List.replicate,List.cons_append,List.nil_append,List.map_nil]
 rw[um h,zA,bS (by rw[zD,zD];exact hl)]
theorem xm{g t w:D}(h:jD g t w=true):∃gs ts ws,g=.tuple gs/\t=.tuple ts/\w=.tuple ws/\1<=gs.length/\gs.length<=4/\1<=ts.length/\ts.length<=4/\(∀p∈gs,placeOk ts.length p=true)/\(∀p∈ts,placeOk gs.length p=true)/\∀x∈ws,kH gs.length ts.length x=true:=by
 simp only[jD,o4,zF] at h
 obtain⟨h1,h2,h3,h4,h5,h6⟩:=h
 cases w<;>try cases h5
 rename_i ws
 have e1:=lb h1
 have e2:=lb h2
 generalize di g=gs at *
 generalize di t=ts at *
 subst e1 e2
 simp only[long,zF,zJ] at h1 h2
 exact⟨gs,ts,ws,rfl,rfl,rfl,by omega,by omega,by omega,by omega,List.all_eq_true.mp h3,List.all_eq_true.mp h4,List.all_eq_true.mp h6⟩
theorem Ap{b k:Nat}{d:D}(h:jC b k d)(hb:b<=100):cQ [d]=some (.bool (Pk d)):=by
 unfold Pk
 cases e1:long 3 3 d with
 | false=>simp! [cQ,gR,fv h.nd,e1,Bool.not_false,Bool.false_and]
 | true =>
  obtain⟨ds,rfl⟩:∃ds,d=.tuple ds:=⟨_,lb e1⟩
  obtain⟨j,rfl,hl,hf⟩:=h.of_tup
  rw[show long 3 3 (.tuple ds)=decide (ds.length=3) from xc 3 ds,zJ] at e1
  have f0:=hf _ (getD_mem (i:=0) (by omega))
  have f1:=hf _ (getD_mem (i:=1) (by omega))
  have f2':=hf _ (getD_mem (i:=2) (by omega))
  have i0:=CC (show 0 < ds.length by omega)
  have i1:=xB (show 1 < ds.length by omega)
  have i2:=KQ (show 2 < ds.length by omega)
  have el:bx [.tuple ds,.int 3,.int 3]=some (.bool true):=by rw[fv rfl,show long 3 3 (.tuple ds)=decide (ds.length=3) from xc 3 ds,yB e1]
  rw[show di (.tuple ds)=ds from rfl,Bool.true_and]
  generalize hg:ds.getD 0 .none=g at *
  generalize ht:ds.getD 1 .none=t at *
  generalize hw:ds.getD 2 .none=w at *
  cases e2:jD g t w with
  | false=>simp! [cQ,gR,el,i0,i1,i2,o7 f0 f1 f2' hb,e2,Bool.not_false,Bool.not_true,Bool.false_and]
  | true =>
   obtain⟨gs,ts,ws,rfl,rfl,rfl,g1,g4,t1,t4,hG,hT,hW⟩:=xm e2
   have hfw:=f2'.of_tup
   obtain⟨j2,_,hwl,_⟩:=hfw
   have q1:=wW (k:=0) hG
   have q2:=wW (k:=0) hT
   have m1:gs.length * ts.length<=16:=Nat.mul_le_mul g4 t4
   have m2:ts.length * gs.length<=16:=Nat.mul_le_mul t4 g4
   have l1:=C0 hG (by omega) (by omega)
   have l2:=C0 hT (by omega) (by omega)
   have s1:=nA (a:=mW 0 gs) lR (by omega)
   have s2:=nA (a:=(mW 0 ts).map List.reverse) (fun r hr=>by
    obtain⟨q,hq,rfl⟩:=zQ.mp hr
    obtain⟨i,j,rfl⟩:=lR q hq
    exact⟨j,i,rfl⟩) (by rw[zD];omega)
   have c1:au 1 [] (aV (f2 ak (ab 0) (fC (.int 2)))) (fG 0) (fun _=>some true) (aP (aa (f2 ak (ab 0) (fC (.int 0))) (aa (f2 ak (ab 0) (fC (.int 1))) ae))) [some (.tuple ds),none,none,none]=some ((ws.map gu).map af):=by
    rw[cF (ds:=ws) (h:=fun x=>af (gu x)) (by simp! [i2]) (by omega) fun x hx=>?_,zM]
    ·rfl
    ·obtain⟨vs,c,rfl,v3,v0,v1,_⟩:=Ad (hW x hx)
     simp! [CC (show 0 < vs.length by omega),xB (show 1 < vs.length by omega),bS (show [vs.getD 0 PyData.none,vs.getD 1 .none].length<=4000 by simp),af,gu,di]
     rw[<- v0,<- v1]
   have c2:∀x y z,au 2 [] (aV (ah 1 bQ (aa (f2 ak (ab 0) (fC (.int 1))) ae))) (ir 0 1) (fun _=>some true) (aP (aa (ab 1) (aa (ab 0) ae))) [some (.tuple ds),x,y,z]=some (((mW 0 ts).map List.reverse).map af):=fun x y z =>
    DB (by simp! [i1,l2]) (by omega) lR
   have st1:bh 1 [0] (au 1 [] (aV (f2 ak (ab 0) (fC (.int 2)))) (fG 0) (fun _=>some true) (aP (aa (f2 ak (ab 0) (fC (.int 0))) (aa (f2 ak (ab 0) (fC (.int 1))) ae)))) [Slot.val (.tuple ds),.non,.non,.non]=some (.nx [.val (.tuple ds),.own ((ws.map gu).map af),.non,.non]):=by
    have hh:hand [0] 0 [Slot.val (.tuple ds),.non,.non,.non]=[Slot.val (.tuple ds),.non,.non,.non]:=rfl
    simp only[bh,hh,cJ,zI,List.map_nil,Slot.frz,c1,zB,List.set_cons_succ,List.set_cons_zero]
   have st2:bh 2 [0] (mJ dC (aa (ah 1 bQ (aa (f2 ak (ab 0) (fC (.int 0))) ae)) ae)) [Slot.val (.tuple ds),.own ((ws.map gu).map af),.non,.non]=some (.nx [.val (.tuple ds),.own ((ws.map gu).map af),.own ((rQ (mW 0 gs)).map af),.non]):=by
    have hh:hand [0] 0 [Slot.val (.tuple ds),.own ((ws.map gu).map af),.non,.non]=[Slot.val (.tuple ds),.own ((ws.map gu).map af),.non,.non]:=rfl
    simp only[bh,hh,cJ,zI,List.map_nil,Slot.frz]
    simp! [i0,l1,s1,List.set_cons_succ,List.set_cons_zero]
   have st3:bh 3 [0] (mJ dC (aa (cD (au 2 [] (aV (ah 1 bQ (aa (f2 ak (ab 0) (fC (.int 1))) ae))) (ir 0 1) (fun _=>some true) (aP (aa (ab 1) (aa (ab 0) ae))))) ae)) [Slot.val (.tuple ds),.own ((ws.map gu).map af),.own ((rQ (mW 0 gs)).map af),.non]
      =some (.nx [.val (.tuple ds),.own ((ws.map gu).map af),.own ((rQ (mW 0 gs)).map af),.own ((rQ ((mW 0 ts).map List.reverse)).map af)]):=by
    have hh:hand [0] 0 [Slot.val (.tuple ds),.own ((ws.map gu).map af),.own ((rQ (mW 0 gs)).map af),.non]=[Slot.val (.tuple ds),.own ((ws.map gu).map af),.own ((rQ (mW 0 gs)).map af),.non]:=rfl
    simp only[bh,hh,cJ,zI,List.map_nil,Slot.frz]
    simp! [c2,s2,List.set_cons_succ,List.set_cons_zero]
   simp! [cQ,gR,el,i0,i1,i2,o7 f0 f1 f2' hb,e2,Bool.not_true,Bool.false_eq_true,st1,st2,st3,DZ,Bo,di,Bool.true_and]
   by_cases hq:List.map gu ws=rQ (mW 0 gs)<;>simp[hq]
theorem A8(xs:List D):PyData.eqvAll xs []=xs.isEmpty:=by cases xs<;>simp[PyData.eqvAll]
theorem AJ:SeqAt.shaped (.list [])=true:=by simp[SeqAt.shaped,PyData.canLay0,PyData.canLayAll0,PyData.depth,PyData.depthAll]
theorem Hl{b k:Nat}{xs:List D}(h:∀x∈xs,jC b k x)(hk:k<=60):b9 (.list xs) (.list [])=some (.bool xs.isEmpty):=by
 have hs:SeqAt.shaped (.list xs)=true:=(jC.lst (b:=max b xs.length) (k:=k) (Nat.le_max_right _ _) fun x hx=>(h x hx).mono (Nat.le_max_left _ _) (Nat.le_refl _)).shaped (by omega)
 simp only[b9,MM,hs,AJ,and_self,if_true,PyData.eqv,A8,zB]
theorem jf:small []=some []:=rfl
theorem Hr{α:Type}(xs:List α)(k:Nat):cut xs none (some (k:Int))=xs.take k:=by
 simp only[cut,HT.yW,HT.CT,List.drop_zero,Nat.sub_zero]
 rw[List.take_eq_take_iff];omega
theorem yP{α:Type}(xs:List α)(k:Nat):cut xs (some (k:Int)) none=xs.drop k:=by
 simp only[cut,HT.yW,HT.CT]
 rw[List.take_of_length_le (by rw[List.length_drop];omega)]
 by_cases h:k<=xs.length
 ·rw[Nat.min_eq_left h]
 ·rw[Nat.min_eq_right (by omega),List.drop_of_length_le (Nat.le_refl _),List.drop_of_length_le (by omega)]
theorem iz(b:Bool):gB (.bool b)=some b:=rfl
theorem JB(l:List Int)(a:Int):((l.map PyData.int).any fun z=>PyData.eqv z (.int a))=decide (a∈l):=by
 rw[List.any_map]
 induction l with
 | nil=>simp
 | cons r l ih =>
  rw[List.any_cons,ih,Function.comp_apply]
  by_cases h:r=a
  ·subst h;simp[PyData.eqv]
  ·simp[PyData.eqv,h,Ne.symm h]
theorem GZ(l:List Int)(a:Int):Bs (.int a) (.tuple (l.map PyData.int))=some (.bool (decide (a∈l))):=by
 have hs:SeqAt.shaped (.int a)=true:=(lZ (b:=0) (k:=0) a).shaped (by decide)
 have h2:SeqAt.shaped (.tuple (l.map PyData.int))=true:=(nz (b:=l.length) (k:=0) (Nat.le_refl _)).shaped (by decide)
 simp only[Bs,Pi,hs,h2,and_self,if_true,JB,zB]
noncomputable def QS(P:List (List Int))(i j:Int)(lp lq:List Int):Bool:=decide ([i,j]∈P) == decide (j∈lp)&&decide ([i,j]∈P) == decide (i∈lq)
noncomputable def QD(P:List (List Int))(i:Int)(lp:List Int):Nat->List D->Bool|_,[]=>true|k,q::qs=>QS P i k lp (jx q)&&QD P i lp (k+1) qs
noncomputable def PP(P:List (List Int))(ts:List D):Nat->List D->Bool|_,[]=>true|k,p::ps=>QD P k (jx p) 0 ts&&PP P ts (k+1) ps
theorem A6(a b:D):small [a,b]=some [a,b]:=rfl
theorem LA(ρ:Dl.Env):bC (aa (fC (.int 2)) ae) ρ=some [.int 0,.int 1]:=by
 have:zx 2=true:=by decide
 simp! [bC,kR,this]
 rfl
theorem nq:∀ (ρ:aj) (k:Nat),hand [] k ρ=ρ
 | [],k=>rfl
 | s::r,k=>by simp[hand,nq r]
theorem qa:∀ {ps:List D}{k:Nat}{i j:Int},[i,j]∈mW k ps↔∃m p,ps[m]?=some p/\i=((k+m:Nat):Int)/\j∈jx p
 | [],k,i,j=>by simp[mW]
 | p::ps,k,i,j=>by
  rw[mW,List.mem_append,qa (ps:=ps)]
  constructor
  ·rintro (h|⟨m,q,h1,h2,h3⟩)
   ·obtain⟨y,hy,e⟩:=zQ.mp h
    injection e with e1 e2
    injection e2 with e2 _
    exact⟨0,p,rfl,by simpa using e1.symm,e2 ▸ hy⟩
   ·exact⟨m+1,q,by simpa using h1,by rw[h2];congr 1;omega,h3⟩
  ·rintro⟨m,q,h1,h2,h3⟩
   cases m with
   | zero =>
    simp at h1
    subst h1
    exact .inl (zQ.mpr ⟨j,h3,by rw[h2];rfl⟩)
   | succ m=>exact .inr ⟨m,q,by simpa using h1,by rw[h2];congr 1;omega,h3⟩
theorem uA:∀ {ps:List D}{k:Nat},(∀p∈ps,(jx p).Nodup)->(mW k ps).Nodup
 | [],k,_=>List.nodup_nil
 | p::ps,k,h=>by
  rw[mW,List.nodup_append]
  refine⟨List.pairwise_map.mpr ((h p zE).imp fun hne e=>hne ?_),uA fun q hq=>h q (zC _ hq),?_⟩
  rotate_left
  ·injection e with _ e2
   injection e2
  ·rintro a ha b hb rfl
   obtain⟨y,hy,rfl⟩:=zQ.mp ha
   obtain⟨m,q,h1,h2,h3⟩:=qa.mp hb
   omega
theorem OT{a b:List Int}(h:Dl.lexLt a b=true):lexLe a b=true:=by
 unfold lexLe
 cases e:Dl.lexLt b a with
 | false=>rfl
 | true=>have:=fu h e;rw[g9] at this;cases this
theorem fV{i j:Int}(h:vj i j):Dl.ip (.int i) (.int j)=some (.int (i * j)):=by
 simp only[Dl.ip,xl,if_pos h,Option.some_or]
theorem jw{i j:Int}(h:0 < j):Dl.l8 (.int i) (.int j)=some (.int (i % j)):=if_pos h
theorem lD{i j:Int}(h:0 < j/\j < 1073741824):Dl.n8 (.int i) (.int j)=some (.int (i / j)):=if_pos h
theorem jG(i j:Int):Dl.Fk (.int i) (.int j)=some (.bool (decide (j < i))):=rfl
theorem gJ(i j:Int):Dl.uQ (.int i) (.int j)=some (.bool (decide (i < j))):=rfl
theorem mK{i j:Int}(h:-(2 ^ 64) < i/\i < 2 ^ 64):vj i j:=.inl h
theorem My{i j:Int}(h:-(2 ^ 64) < j/\j < 2 ^ 64):vj i j:=.inr h
theorem zf(i:Int):Dl.qY (.int i)=true:=rfl
theorem xo(i:List D):Dl.qY (.tuple i)=false:=rfl
noncomputable def dI(ns:List Int):D:=.list (ns.map PyData.int)
theorem Lw{ns:List Int}(k:Int)(hl:ns.length<=63):∃c,eC [dI ns,.int k]=some (.int c):=by
 have heq:b9 (.list (ns.map PyData.int)) (.list [])=some (.bool ns.isEmpty):=by
  have:=Hl (b:=0) (k:=0) (xs:=ns.map PyData.int) (fun x hx=>by obtain⟨i,_,rfl⟩:=zQ.mp hx;exact lZ i) (by decide)
  rw[this];cases ns<;>rfl
 by_cases hn:ns=[]
 ·subst hn
  refine⟨7 * k,?_⟩
  rw[List.map_nil,List.isEmpty_nil] at heq
  simp! [eC,iw,dI,jf,heq,List.isEmpty_nil,fV (mK (i:=7) (j:=k) (by decide))]
 ·have hpos:(0:Int) < (ns.length:Int):=by have:=List.length_pos_iff.mpr hn;omega
  have he:ns.isEmpty=false:=by cases ns<;>first|rfl|exact absurd rfl hn
  obtain⟨j,hj⟩:=Int.eq_ofNat_of_zero_le (Int.emod_nonneg k (show (ns.length:Int)≠0 by omega))
  have hlt:=Int.emod_lt_of_pos k hpos
  have hx:vg (ns.map PyData.int) (k % (ns.length:Int))=some (.int (ns.getD j 0)):=by
   rw[hj]
   have:j < (ns.map PyData.int).length:=by rw[zD];omega
   rw[nY this,zG,zO,zG]
   rw[zK (by omega)]
   rfl
  refine⟨ns.getD j 0+6553 * (k / (ns.length:Int)),?_⟩
  simp! [eC,iw,dI,jf,heq,he,Bool.false_eq_true,zD,jw hpos,hx,lD (i:=k) (j:=(ns.length:Int)) ⟨hpos,by omega⟩,fV (mK (i:=6553) (j:=k / (ns.length:Int)) (by decide))]
theorem Kt{ns:List Int}(k many:Int)(hl:ns.length<=63)(hm:0 < many):∃r,ao [dI ns,.int k,.int many]=some (.int r)/\0<=r/\r < many:=by
 obtain⟨c,hc⟩:=Lw k hl
 have m1:∀i:Int,Dl.l8 (.int i) (.int 2147483563)=some (.int (i % 2147483563)):=fun i=>jw (by decide)
 have m2:∀i:Int,Dl.l8 (.int i) (.int 2147483399)=some (.int (i % 2147483399)):=fun i=>jw (by decide)
 have m3:∀i:Int,Dl.l8 (.int i) (.int 2147483647)=some (.int (i % 2147483647)):=fun i=>jw (by decide)
 have d1:∀i:Int,Dl.n8 (.int i) (.int 3)=some (.int (i / 3)):=fun i=>lD (by decide)
 have d2:∀i:Int,Dl.n8 (.int i) (.int 7)=some (.int (i / 7)):=fun i=>lD (by decide)
 have d3:∀i:Int,Dl.n8 (.int i) (.int 11)=some (.int (i / 11)):=fun i=>lD (by decide)
 have u1:∀i:Int,Dl.ip (.int i) (.int 69069)=some (.int (i * 69069)):=fun i=>fV (My (by decide))
 have u2:∀i:Int,Dl.ip (.int 104723) (.int i)=some (.int (104723 * i)):=fun i=>fV (mK (by decide))
 have b1:∀x:Int,Dl.ip (.int (x % 2147483563)) (.int (x % 2147483563))=some (.int (x % 2147483563 * (x % 2147483563))):=fun x=>fV (mK (by
  have:=Int.emod_nonneg x (show (2147483563:Int)≠0 by decide)
  have:=Int.emod_lt_of_pos x (show (0:Int) < 2147483563 by decide)
  omega))
 have b2:∀x:Int,Dl.ip (.int (x % 2147483399)) (.int (x % 2147483399))=some (.int (x % 2147483399 * (x % 2147483399))):=fun x=>fV (mK (by
  have:=Int.emod_nonneg x (show (2147483399:Int)≠0 by decide)
  have:=Int.emod_lt_of_pos x (show (0:Int) < 2147483399 by decide)
  omega))
 suffices h:∃x,ao [dI ns,.int k,.int many]=some (.int (x % many)) by
  obtain⟨x,hx⟩:=h
  exact⟨_,hx,Int.emod_nonneg x (show many≠0 by omega),Int.emod_lt_of_pos x hm⟩
 ·refine⟨(((((c % 2147483563 * 69069+104723 * (k+1)) % 2147483563) * ((c % 2147483563 * 69069+104723 * (k+1)) % 2147483563)+((c % 2147483563 * 69069+104723 * (k+1)) % 2147483563) / 3) % 2147483399) * ((((c % 2147483563 * 69069+104723 * (k+1)) % 2147483563) * ((c % 2147483563 * 69069+104723 * (k+1)) % 2147483563)+((c % 2147483563 * 69069+104723 * (k+1)) % 2147483563) / 3) % 2147483399)+((((c % 2147483563 * 69069+104723 * (k+1)) % 2147483563) * ((c % 2147483563 * 69069+104723 * (k+1)) % 2147483563)+((c % 2147483563 * 69069+104723 * (k+1)) % 2147483563) / 3) % 2147483399) / 7) % 2147483647 / 11,?_⟩
  simp! [ao,jI,hc,m1,u1,u2,Dl.aD,zf,List.set_cons_succ,List.set_cons_zero,b1,d1,m2,b2,d2,m3,d3,jw (j:=many) hm]
noncomputable def dr(ns:List Int)(k many:Int):Int:=jB ((ao [dI ns,.int k,.int many]).getD .none)
theorem fj{ns:List Int}(k many:Int)(hl:ns.length<=63)(hm:0 < many):ao [dI ns,.int k,.int many]=some (.int (dr ns k many))/\0<=dr ns k many/\dr ns k many < many:=by
 obtain⟨r,h1,h2⟩:=Kt k many hl hm
 have:dr ns k many=r:=by simp only[dr,h1,Option.getD_some,jB]
 rw[this];exact⟨h1,h2⟩
theorem xy{ns:List Int}(k many:Int)(hl:ns.length<=63)(hm:0 < many):ao [dI ns,.int k,.int many]=some (.int (dr ns k many)):=(fj k many hl hm).1
theorem Oo{ns:List Int}(k many:Int)(hl:ns.length<=63)(hm:0 < many):0<=dr ns k many:=(fj k many hl hm).2.1
theorem O4{ns:List Int}(k many:Int)(hl:ns.length<=63)(hm:0 < many):dr ns k many < many:=(fj k many hl hm).2.2
noncomputable def cI(r:List Int):D:=.list (r.map PyData.int)
noncomputable def insI(ds:List Int)(k:Int)(d:Int):List Int:=let j:=if k < 0 then (k+(ds.length:Int)).toNat else min k.toNat ds.length;ds.take j++d::ds.drop j
theorem Dy(ds:List Int)(k d:Int):CH (ds.map PyData.int) k (.int d)=(insI ds k d).map PyData.int:=by
 simp only[CH,insI,zD,List.map_append,zI,List.map_take,List.map_drop]
theorem insI_perm(ds:List Int)(k d:Int):(insI ds k d).Perm (d::ds):=by
 simp only[insI]
 refine List.perm_middle.trans ?_
 rw[List.take_append_drop]
noncomputable def oB:aj->Option Out:=(E7 6 [8] (ah 3 ao (aa (ab 0) (aa (f2 aG (f2 aG (ab 1) (f2 ip (fC (.int 4)) (ab 4))) (ab 7)) (aa (f2 aG (br bR (aa (ab 6) ae)) (fC (.int 1))) ae)))) (ab 8))
theorem M8{ns order:List Int}{a k j x:Int}{s2 s3 s5:Slot}(hl:ns.length<=63)(ho:order.length<=1000) :
  oB [.val (dI ns),.val (.int a),s2,s3,.val (.int k),s5,.own (order.map PyData.int),.val (.int j),.val (.int x)] =
   some (.nx [.val (dI ns),.val (.int a),s2,s3,.val (.int k),s5,.own ((insI order (dr ns (a+4 * k+j) ((order.length:Int)+1)) x).map PyData.int),.val (.int j),.val (.int x)]):=by
 have h4:Dl.ip (.int 4) (.int k)=some (.int (4 * k)):=fV (mK (by decide))
 have hd:=fj (ns:=ns) (a+4 * k+j) ((order.length:Int)+1) hl (by omega)
 have hr:zx (dr ns (a+4 * k+j) ((order.length:Int)+1))=true:=by
  simp only[zx,zF,zJ]
  omega
 have hz:(order.map PyData.int).length < sizeLine:=by rw[zD];exact Nat.lt_of_le_of_lt ho (by decide)
 simp! [oB,E7,ma,zf,o3,zD,h4,hd.1]
 rw[zD] at hz
 simp only[hr,hz,and_self,if_true,zB,Dy,List.set_cons_succ,List.set_cons_zero]
theorem GY{ns:List Int}{a k:Int}{s2 s3 s5:Slot}(hl:ns.length<=63):∀ {row order:List Int}{j:Nat}{s7 s8:Slot},order.length+row.length<=1000 ->
  ∃ (o:List Int) (t7 t8:Slot),eF (ie 7 8) oB (bL j (row.map PyData.int)) [.val (dI ns),.val (.int a),s2,s3,.val (.int k),s5,.own (order.map PyData.int),s7,s8] =
   some (.nx [.val (dI ns),.val (.int a),s2,s3,.val (.int k),s5,.own (o.map PyData.int),t7,t8])/\o.Perm (row++order)
 | [],order,j,s7,s8,_=>⟨order,s7,s8,by simp[bL,eF],by simp⟩
 | x::row,order,j,s7,s8,h=>by
  rw[zL] at h
  have hp:=insI_perm order (dr ns (a+4 * k+((j:Nat):Int)) ((order.length:Int)+1)) x
  have hlen:=hp.length_eq
  rw[zL] at hlen
  obtain⟨o,t7,t8,e,p⟩:=GY (s2:=s2) (s3:=s3) (s5:=s5) (a:=a) (k:=k) hl (row:=row) (order:=insI order (dr ns (a+4 * k+((j:Nat):Int)) ((order.length:Int)+1)) x) (j:=j+1) (s7:=.val (.int (j:Nat))) (s8:=.val (.int x)) (by omega)
  refine⟨o,t7,t8,?_,p.trans ?_⟩
  ·have hs:ie 7 8 [.val (dI ns),.val (.int a),s2,s3,.val (.int k),s5,.own (order.map PyData.int),s7,s8] (.tuple [.int (j:Nat),.int x])=some [.val (dI ns),.val (.int a),s2,s3,.val (.int k),s5,.own (order.map PyData.int),.val (.int (j:Nat)),.val (.int x)]:=rfl
   simp only[zI,bL,eF,hs,zA,M8 hl (show order.length<=1000 by omega),e]
  ·refine (hp.append_left row).trans ?_
   rw[List.cons_append]
   exact List.perm_middle
noncomputable def rh:List (List Int)->List (List Int)->Prop|[],[]=>True|a::l,b::m=>a.Perm b/\rh l m|_,_=>False
noncomputable def rB:aj->Option Out:=(av (bh 6 [] (kl ae)) (av (eD [5] (bN (aa (ab 5) ae)) (ie 7 8) oB) (mD 3 [6] (br aZ (aa (ab 6) ae)))))
theorem LJ{ns row:List Int}{a k:Int}{rows:D}{found:List D}{s6 s7 s8:Slot}(hl:ns.length<=63)(hr:row.length<=1000)(hf:found.length<=1000) :
  ∃ (o:List Int) (t7 t8:Slot),rB [.val (dI ns),.val (.int a),.val rows,.own found,.val (.int k),.val (cI row),s6,s7,s8]=some (.nx [.val (dI ns),.val (.int a),.val rows,.own (found++[af o]),.val (.int k),.val (cI row),.val (cI o),t7,t8])/\o.Perm row:=by
 obtain⟨o,t7,t8,e,p⟩:=GY (s2:=.val rows) (s3:=.own found) (s5:=.val (cI row)) (a:=a) (k:=k) hl (row:=row) (order:=[]) (j:=0) (s7:=s7) (s8:=s8) (by simpa using hr)
 rw[List.append_nil] at p
 refine⟨o,t7,t8,?_,p⟩
 have h1:bh 6 [] (kl ae) [.val (dI ns),.val (.int a),.val rows,.own found,.val (.int k),.val (cI row),s6,s7,s8]=some (.nx [.val (dI ns),.val (.int a),.val rows,.own found,.val (.int k),.val (cI row),.own [],s7,s8]):=by
  simp only[bh,nq,kl,ae,zA,jf,zB,List.set_cons_succ,List.set_cons_zero]
 have h2:eD [5] (bN (aa (ab 5) ae)) (ie 7 8) oB [.val (dI ns),.val (.int a),.val rows,.own found,.val (.int k),.val (cI row),.own [],s7,s8]=some (.nx [.val (dI ns),.val (.int a),.val rows,.own found,.val (.int k),.val (cI row),.own (o.map PyData.int),t7,t8]):=by
  have hh:hand [5] 0 [Slot.val (dI ns),.val (.int a),.val rows,.own found,.val (.int k),.val (cI row),.own [],s7,s8]=[Slot.val (dI ns),.val (.int a),.val rows,.own found,.val (.int k),.val (cI row),.own [],s7,s8]:=rfl
  have hq:bN (aa (ab 5) ae) (cJ [Slot.val (dI ns),.val (.int a),.val rows,.own found,.val (.int k),.val (cI row),.own [],s7,s8])=some (bL 0 (row.map PyData.int)):=by
   simp only[cJ,zI,List.map_nil]
   simp! [bN,cI]
  simp only[eD,hh,hq,zA]
  exact e
 have h3:mD 3 [6] (br aZ (aa (ab 6) ae)) [.val (dI ns),.val (.int a),.val rows,.own found,.val (.int k),.val (cI row),.own (o.map PyData.int),t7,t8]=some (.nx [.val (dI ns),.val (.int a),.val rows,.own (found++[af o]),.val (.int k),.val (cI row),.val (cI o),t7,t8]):=by
  have hz:found.length < sizeLine:=Nat.lt_of_le_of_lt hf (by decide)
  have hh:hand [6] 0 [Slot.val (dI ns),.val (.int a),.val rows,.own found,.val (.int k),.val (cI row),.own (o.map PyData.int),t7,t8]=[Slot.val (dI ns),.val (.int a),.val rows,.own found,.val (.int k),.val (cI row),.val (cI o),t7,t8]:=rfl
  simp only[mD,ma,hh,cJ,zI,List.map_nil]
  simp! [xo,Bool.false_eq_true,o3,hz,List.set_cons_succ,List.set_cons_zero,cI,af]
 simp only[rB,av,h1,h2,h3,zA]
theorem Fm{ns:List Int}{a:Int}{rws:D}(hl:ns.length<=63):∀ {rows:List (List Int)}{found:List D}{k:Nat}{s4 s5 s6 s7 s8:Slot},(∀r∈rows,r.length<=1000)->found.length+rows.length<=1000 ->
  ∃ (os:List (List Int)) (t4 t5 t6 t7 t8:Slot),eF (ie 4 5) rB (bL k (rows.map cI)) [.val (dI ns),.val (.int a),.val rws,.own found,s4,s5,s6,s7,s8]=some (.nx [.val (dI ns),.val (.int a),.val rws,.own (found++os.map af),t4,t5,t6,t7,t8])/\rh os rows
 | [],found,k,s4,s5,s6,s7,s8,_,_=>⟨[],s4,s5,s6,s7,s8,by simp[bL,eF],trivial⟩
 | r::rows,found,k,s4,s5,s6,s7,s8,h,hf=>by
  rw[zL] at hf
  obtain⟨o,u7,u8,e1,p1⟩:=LJ (rows:=rws) (a:=a) (k:=((k:Nat):Int)) (s6:=s6) (s7:=s7) (s8:=s8) hl (h r zE) (show found.length<=1000 by omega)
  obtain⟨os,t4,t5,t6,t7,t8,e,p⟩:=Fm hl (rws:=rws) (a:=a) (rows:=rows) (found:=found++[af o]) (k:=k+1) (s4:=.val (.int (k:Nat))) (s5:=.val (cI r)) (s6:=.val (cI o)) (s7:=u7) (s8:=u8) (fun r' hr'=>h r' (zC _ hr')) (by rw[zN,List.length_singleton];omega)
  refine⟨o::os,t4,t5,t6,t7,t8,?_,p1,p⟩
  have hs:ie 4 5 [.val (dI ns),.val (.int a),.val rws,.own found,s4,s5,s6,s7,s8] (.tuple [.int (k:Nat),cI r])=some [.val (dI ns),.val (.int a),.val rws,.own found,.val (.int (k:Nat)),.val (cI r),s6,s7,s8]:=rfl
  simp only[zI,bL,eF,hs,zA,e1]
  rw[e,List.append_assoc]
  rfl
theorem zr{ns:List Int}{a:Int}{rows:List (List Int)}(hl:ns.length<=63)(hr:∀r∈rows,r.length<=1000)(hn:rows.length<=1000):∃os:List (List Int),bX [dI ns,.int a,.list (rows.map cI)]=some (.list (os.map af))/\rh os rows:=by
 obtain⟨os,t4,t5,t6,t7,t8,e,p⟩:=Fm hl (rws:=.list (rows.map cI)) (a:=a) (rows:=rows) (found:=[]) (k:=0) (s4:=.non) (s5:=.non) (s6:=.non) (s7:=.non) (s8:=.non) hr (by simpa using hn)
 refine⟨os,?_,p⟩
 rw[List.nil_append] at e
 have h1:bh 3 [] (kl ae) [.val (dI ns),.val (.int a),.val (.list (rows.map cI)),.non,.non,.non,.non,.non,.non]=some (.nx [.val (dI ns),.val (.int a),.val (.list (rows.map cI)),.own [],.non,.non,.non,.non,.non]):=by
  simp only[bh,nq,kl,ae,zA,jf,zB,List.set_cons_succ,List.set_cons_zero]
 have h2:eD [2] (bN (aa (ab 2) ae)) (ie 4 5) rB [.val (dI ns),.val (.int a),.val (.list (rows.map cI)),.own [],.non,.non,.non,.non,.non]=some (.nx [.val (dI ns),.val (.int a),.val (.list (rows.map cI)),.own (os.map af),t4,t5,t6,t7,t8]):=by
  have hh:hand [2] 0 [Slot.val (dI ns),.val (.int a),.val (.list (rows.map cI)),.own [],.non,.non,.non,.non,.non]=[Slot.val (dI ns),.val (.int a),.val (.list (rows.map cI)),.own [],.non,.non,.non,.non,.non]:=rfl
  have hq:bN (aa (ab 2) ae) (cJ [Slot.val (dI ns),.val (.int a),.val (.list (rows.map cI)),.own [],.non,.non,.non,.non,.non])=some (bL 0 (rows.map cI)):=by
   simp only[cJ,zI,List.map_nil]
   simp! [bN]
  simp only[eD,hh,hq,zA]
  exact e
 unfold rB oB at h2
 simp! [bX,iZ,h1,h2]
noncomputable abbrev Pl:=Int×List Int
noncomputable abbrev Wy:=Int×Int×Int
noncomputable def aQ(p:Pl):D:=.tuple [.int p.1,af p.2]
noncomputable def ar(w:Wy):D:=.tuple [.int w.1,.int w.2.1,.int w.2.2]
noncomputable def ax(G T:List Pl)(W:List Wy):D:=.tuple [.tuple (G.map aQ),.tuple (T.map aQ),.tuple (W.map ar)]
noncomputable def zw(W:List Wy)(i:Int):List Int:=(W.filter fun w=>decide (w.1=i)).map fun w=>w.2.1
noncomputable def ofT(W:List Wy)(j:Int):List Int:=(W.filter fun w=>decide (w.2.1=j)).map fun w=>w.1
abbrev rH(W:List Wy):Prop:=W.Pairwise fun a b=>a.1 < b.1\/(a.1=b.1/\a.2.1 < b.2.1)
structure Wd(G T:List Pl)(W:List Wy):Prop where
 g1:1<=G.length
 g4:G.length<=4
 t1:1<=T.length
 t4:T.length<=4
 ga:∀p∈G,0<=p.1/\p.1<=9
 ta:∀p∈T,0<=p.1/\p.1<=9
 gl:∀ (i:Nat) (p:Pl),G[i]?=some p->p.2.Perm (zw W i)
 tl:∀ (j:Nat) (p:Pl),T[j]?=some p->p.2.Perm (ofT W j)
 wr:∀w∈W,(0<=w.1/\w.1 < G.length)/\(0<=w.2.1/\w.2.1 < T.length)/\1<=w.2.2/\w.2.2<=9
 wp:rH W
 wl:W.length<=16
theorem u9{W:List Wy}{i j:Int}:j∈zw W i↔[i,j]∈W.map fun w=>[w.1,w.2.1]:=by
 simp only[zw,zQ,List.mem_filter,zJ,List.cons.injEq,and_true]
 constructor
 ·rintro⟨w,⟨h1,h2⟩,h3⟩;exact⟨w,h1,h2,h3⟩
 ·rintro⟨w,h1,h2,h3⟩;exact⟨w,⟨h1,h2⟩,h3⟩
theorem xb{W:List Wy}{i j:Int}:i∈ofT W j↔[i,j]∈W.map fun w=>[w.1,w.2.1]:=by
 simp only[ofT,zQ,List.mem_filter,zJ,List.cons.injEq,and_true]
 constructor
 ·rintro⟨w,⟨h1,h2⟩,h3⟩;exact⟨w,h1,h3,h2⟩
 ·rintro⟨w,h1,h2,h3⟩;exact⟨w,⟨h1,h3⟩,h2⟩
theorem oa{W:List Wy}(h:rH W)(i:Int):(zw W i).Nodup:=by
 unfold zw List.Nodup
 rw[List.pairwise_map,List.pairwise_filter]
 refine h.imp fun hab ha hb=>?_
 rw[zJ] at ha hb
 omega
theorem oQ{W:List Wy}(h:rH W)(i:Int):(ofT W i).Nodup:=by
 unfold ofT List.Nodup
 rw[List.pairwise_map,List.pairwise_filter]
 refine h.imp fun hab ha hb=>?_
 rw[zJ] at ha hb
 omega
theorem gL(p:Pl):jx (aQ p)=p.2:=by
 show ((p.2.map PyData.int).map jB)=p.2
 rw[zM]
 exact List.map_id _
theorem pd{n:Int}{p:Pl}(ha:0<=p.1/\p.1<=9)(hn:p.2.Nodup)(hr:∀j∈p.2,0<=j/\j < n):placeOk n (aQ p)=true:=by
 have e:(p.2.map PyData.int).map jB=p.2:=gL p
 have e2:(p.2.map PyData.int).all (whole 0 (n - 1))=true:=by
  rw[List.all_eq_true]
  intro x hx
  obtain⟨j,hj,rfl⟩:=zQ.mp hx
  have:=hr j hj
  simp only[whole,zF,zJ]
  omega
 simp only[placeOk,aQ,af,zL,List.length_nil,List.getD_cons_zero,List.getD_cons_succ,j5,whole,e,e2,ha.1,ha.2,hn,decide_true,Bool.and_self]
theorem DX{g t:Int}{w:Wy}(h:(0<=w.1/\w.1 < g)/\(0<=w.2.1/\w.2.1 < t)/\1<=w.2.2/\w.2.2<=9):kH g t (ar w)=true:=by
 obtain⟨⟨a,b⟩,⟨c,d⟩,e,f⟩:=h
 have b':w.1<=g - 1:=by omega
 have d':w.2.1<=t - 1:=by omega
 simp only[kH,ar,zL,List.length_nil,List.getD_cons_zero,List.getD_cons_succ,whole,a,b',c,d',e,f,decide_true,Bool.and_self]
theorem Ql{a b c d:Int}(h:a < c\/(a=c/\b < d)):Dl.lexLt [a,b] [c,d]=true:=by
 show HT.lexLt [a,b] [c,d]=true
 rw[HT.cS]
 by_cases e:a=c
 ·rw[if_pos e,HT.cS,if_neg (by omega)]
  simp only[zJ];omega
 ·rw[if_neg e];simp only[zJ];omega
theorem Wd.glike{G T:List Pl}{W:List Wy}(h:Wd G T W){p:Pl}(hp:p∈G):∃i:Nat,i < G.length/\p.2.Perm (zw W i):=by
 obtain⟨i,hi,e⟩:=List.getElem_of_mem hp
 exact⟨i,hi,h.gl i p (by rw[zK hi,e])⟩
theorem Wd.tlike{G T:List Pl}{W:List Wy}(h:Wd G T W){p:Pl}(hp:p∈T):∃i:Nat,i < T.length/\p.2.Perm (ofT W i):=by
 obtain⟨i,hi,e⟩:=List.getElem_of_mem hp
 exact⟨i,hi,h.tl i p (by rw[zK hi,e])⟩
theorem Wd.gok{G T:List Pl}{W:List Wy}(h:Wd G T W):(G.map aQ).all (placeOk T.length)=true:=by
 rw[List.all_eq_true]
 intro x hx
 obtain⟨p,hp,rfl⟩:=zQ.mp hx
 obtain⟨i,hi,q⟩:=h.glike hp
 refine pd (h.ga p hp) (q.nodup_iff.mpr (oa h.wp _)) fun j hj=>?_
 obtain⟨w,hw,e⟩:=zQ.mp (u9.mp (q.mem_iff.mp hj))
 injection e with e1 e2
 injection e2 with e2 _
 have:=(h.wr w hw).2.1
 rw[e2] at this;exact this
theorem Wd.tok{G T:List Pl}{W:List Wy}(h:Wd G T W):(T.map aQ).all (placeOk G.length)=true:=by
 rw[List.all_eq_true]
 intro x hx
 obtain⟨p,hp,rfl⟩:=zQ.mp hx
 obtain⟨i,hi,q⟩:=h.tlike hp
 refine pd (h.ta p hp) (q.nodup_iff.mpr (oQ h.wp _)) fun j hj=>?_
 obtain⟨w,hw,e⟩:=zQ.mp (xb.mp (q.mem_iff.mp hj))
 injection e with e1 e2
 have:=(h.wr w hw).1
 rw[e1] at this;exact this
theorem qP{W:List Wy}{p:Wy->Bool}(h:W.length<=16):(W.filter p).length<=16:=yE (List.length_filter_le _ _) h
theorem B5{p:Pl}(h:p.2.length<=16):jC 16 2 (aQ p):=.tup (by simp only[zL,List.length_nil];omega) fun x hx=>by
 rcases zR.mp hx with rfl|hx
 ·exact lZ _
 ·rw[yL] at hx
  subst hx
  exact nz h
theorem JE(w:Wy):jC 16 1 (ar w):=.tup (by simp only[zL,List.length_nil];omega) fun x hx=>by
 simp only[zR,yG,or_false] at hx
 rcases hx with rfl|rfl|rfl<;>exact lZ _
theorem Wd.fit{G T:List Pl}{W:List Wy}(h:Wd G T W):jC 16 4 (ax G T W):=by
 refine .tup (by simp only[zL,List.length_nil];omega) fun x hx=>?_
 simp only[zR,yG,or_false] at hx
 have h4:=h.g4
 have h5:=h.t4
 have h6:=h.wl
 rcases hx with rfl|rfl|rfl
 ·refine .tup (by rw[zD];omega) fun x hx=>?_
  obtain⟨p,hp,rfl⟩:=zQ.mp hx
  obtain⟨i,hi,q⟩:=h.glike hp
  exact B5 (by rw[q.length_eq,zw,zD];exact qP h.wl)
 ·refine .tup (by rw[zD];omega) fun x hx=>?_
  obtain⟨p,hp,rfl⟩:=zQ.mp hx
  obtain⟨i,hi,q⟩:=h.tlike hp
  exact B5 (by rw[q.length_eq,ofT,zD];exact qP h.wl)
 ·refine .tup (by rw[zD];omega) fun x hx=>?_
  obtain⟨p,hp,rfl⟩:=zQ.mp hx
  exact (JE p).mono (Nat.le_refl _) (by decide)
theorem D1{c:Int}(h0:0<=c)(h9:c<=9):Wd [(c,[0,1]),(c,[1,0])] [(c,[1,0]),(c,[0,1])] [(0,0,2),(0,1,2),(1,0,2),(1,1,2)] where
 g1:=by simp only[zL,List.length_nil];omega
 g4:=by simp only[zL,List.length_nil];omega
 t1:=by simp only[zL,List.length_nil];omega
 t4:=by simp only[zL,List.length_nil];omega
 ga:=by intro p hp;simp only[zR,yG,or_false] at hp;rcases hp with rfl|rfl<;>exact⟨h0,h9⟩
 ta:=by intro p hp;simp only[zR,yG,or_false] at hp;rcases hp with rfl|rfl<;>exact⟨h0,h9⟩
 gl:=by
  intro i p hp
  match i,hp with
  | 0,hp=>injection hp with hp;subst hp;exact (show List.Perm ([0,1]:List Int) (zw [(0,0,2),(0,1,2),(1,0,2),(1,1,2)] ((0:Nat):Int)) by decide)
  | 1,hp=>injection hp with hp;subst hp;exact (show List.Perm ([1,0]:List Int) (zw [(0,0,2),(0,1,2),(1,0,2),(1,1,2)] ((1:Nat):Int)) by decide)
 tl:=by
  intro i p hp
  match i,hp with
  | 0,hp=>injection hp with hp;subst hp;exact (show List.Perm ([1,0]:List Int) (ofT [(0,0,2),(0,1,2),(1,0,2),(1,1,2)] ((0:Nat):Int)) by decide)
  | 1,hp=>injection hp with hp;subst hp;exact (show List.Perm ([0,1]:List Int) (ofT [(0,0,2),(0,1,2),(1,0,2),(1,1,2)] ((1:Nat):Int)) by decide)
 wr:=show ∀w∈([(0,0,2),(0,1,2),(1,0,2),(1,1,2)]:List Wy),(0<=w.1/\w.1 < ((2:Nat):Int))/\(0<=w.2.1/\w.2.1 < ((2:Nat):Int))/\1<=w.2.2/\w.2.2<=9 by decide
 wp:=by decide
 wl:=by decide
noncomputable def kK(f:Nat->Int):Nat->List (List Int)->List Pl|_,[]=>[]|k,r::rs=>(f k,r)::kK f (k+1) rs
theorem jn(f:Nat->Int):∀ (rs:List (List Int)) (k:Nat),(kK f k rs).length=rs.length
 | [],k=>rfl
 | r::rs,k=>by rw[kK,zL,zL,jn f rs]
theorem jm(f:Nat->Int):∀ {rs:List (List Int)}{k i:Nat}{p:Pl},(kK f k rs)[i]?=some p->∃r,rs[i]?=some r/\p=(f (k+i),r)
 | [],k,i,p,h=>by simp[kK] at h
 | r::rs,k,0,p,h=>by simp[kK] at h;exact⟨r,rfl,h.symm⟩
 | r::rs,k,i+1,p,h=>by
  simp only[kK,List.getElem?_cons_succ] at h
  obtain⟨y,h1,h2⟩:=jm f h
  exact⟨y,by simpa using h1,by rw[h2];congr 2;omega⟩
theorem eY:∀ {a b:List (List Int)},rh a b->a.length=b.length
 | [],[],_=>rfl
 | x::a,y::b,h=>by rw[zL,zL,eY h.2]
 | [],_::_,h=>h.elim
 | _::_,[],h=>h.elim
theorem oo:∀ {a b:List (List Int)}{i:Nat}{r:List Int},rh a b->a[i]?=some r->∃s,b[i]?=some s/\r.Perm s
 | [],[],i,r,_,h=>by simp at h
 | x::a,y::b,0,r,h,e=>by
  simp only[List.getElem?_cons_zero,yM] at e
  subst e
  exact⟨y,rfl,h.1⟩
 | x::a,y::b,i+1,r,h,e=>by
  simp only[List.getElem?_cons_succ] at e
  obtain⟨s,h1,h2⟩:=oo h.2 e
  exact⟨s,by simpa using h1,h2⟩
 | [],_::_,i,r,h,_=>h.elim
 | _::_,[],i,r,h,_=>h.elim
noncomputable def mn(W:List Wy)(m:Nat):List (List Int):=(List.range m).map fun i=>zw W ((i:Nat):Int)
noncomputable def md(W:List Wy)(m:Nat):List (List Int):=(List.range m).map fun i=>ofT W ((i:Nat):Int)
theorem IX{m s:Nat}{W:List Wy}{mine yours:List (List Int)}{f g:Nat->Int}(m1:1<=m)(m4:m<=4)(s1:1<=s)(s4:s<=4)(hf:∀k,0<=f k/\f k<=9)(hg:∀k,0<=g k/\g k<=9)
  (hm:rh mine (mn W m)) (hy:rh yours (md W s)) (wr:∀w∈W,(0<=w.1/\w.1 < m)/\(0<=w.2.1/\w.2.1 < s)/\1<=w.2.2/\w.2.2<=9) (wp:rH W) (wl:W.length<=16):Wd (kK f 0 mine) (kK g 0 yours) W:=by
 have lm:(kK f 0 mine).length=m:=by rw[jn,eY hm,mn,zD,zS]
 have ly:(kK g 0 yours).length=s:=by rw[jn,eY hy,md,zD,zS]
 have am:∀ {h:Nat->Int}{rs:List (List Int)},(∀k,0<=h k/\h k<=9)->∀p∈kK h 0 rs,0<=p.1/\p.1<=9:=fun {h rs} hh p hp=>by
  obtain⟨i,hi⟩:=List.mem_iff_getElem?.mp hp
  obtain⟨r,_,rfl⟩:=jm h hi
  exact hh _
 refine⟨by omega,by omega,by omega,by omega,am hf,am hg,fun i p hp=>?_,fun i p hp=>?_,by rw[lm,ly];exact wr,wp,wl⟩
 ·obtain⟨r,h1,rfl⟩:=jm f hp
  obtain⟨t,h2,h3⟩:=oo hm h1
  rw[mn,zO] at h2
  obtain⟨k,hk,rfl⟩:=Option.map_eq_some_iff.mp h2
  have:k=i:=by
   rw[zU] at hk
   obtain⟨h,e⟩:=hk
   rw[List.getElem_range] at e
   exact e.symm
  subst this
  exact h3
 ·obtain⟨r,h1,rfl⟩:=jm g hp
  obtain⟨t,h2,h3⟩:=oo hy h1
  rw[md,zO] at h2
  obtain⟨k,hk,rfl⟩:=Option.map_eq_some_iff.mp h2
  have:k=i:=by
   rw[zU] at hk
   obtain⟨h,e⟩:=hk
   rw[List.getElem_range] at e
   exact e.symm
  subst this
  exact h3
theorem cG{i:Nat}{fz:List Nat}{f:Dl.Env->Option D}{ρ ρ':aj}{d:D}(hf:f (bO ρ)=some d)(hs:Dl.qY d=false)(hh:hand fz 0 ρ=ρ')(hv:cJ ρ'=bO ρ)(hr:l9 d=false\/ρ'=ρ:=by first|exact .inr rfl|exact .inl rfl):Dl.aD i fz f ρ=some (.nx (ρ'.set i (.val d))):=by
 rcases hr with hr|hr
 ·simp only[Dl.aD,hf,zA,hs,Bool.false_eq_true,if_false,hh,hv,zB,hr]
 ·subst hr
  simp only[Dl.aD,hf,zA,hs,Bool.false_eq_true,if_false,hh,hv,zB,ite_self]
theorem eX{i:Nat}{fz:List Nat}{f:Dl.Env->Option D}{ρ:aj}{d:D}(hf:f (bO ρ)=some d)(hs:Dl.qY d=true):Dl.aD i fz f ρ=some (.nx (ρ.set i (.val d))):=by
 simp only[Dl.aD,hf,zA,hs,if_true]
theorem Lb(w:Wy):ak (ar w) (.int 0)=some (.int w.1):=rfl
theorem K1(w:Wy):ak (ar w) (.int 1)=some (.int w.2.1):=rfl
theorem Ab(a b c:D):small [a,b,c]=some [a,b,c]:=rfl
theorem N8{a b s:Int}(hs:s=1\/s=2\/s=3)(h:a < b):a / s < b / s\/(a / s=b / s/\a % s < b % s):=by rcases hs with rfl|rfl|rfl<;>omega
theorem MW{k m s:Int}(hs:s=1\/s=2\/s=3)(hm:m=1\/m=2\/m=3)(h0:0<=k)(h:k < m * s):(0<=k / s/\k / s < m)/\0<=k % s/\k % s < s:=by
 rcases hs with rfl|rfl|rfl<;>rcases hm with rfl|rfl|rfl<;>omega
noncomputable def lB:aj->Option Out:=(gy (cX (fB (f2 uQ (br bR (aa (ab 7) ae)) (ab 2))) (fB (f2 Fk (ah 3 ao (aa (ab 0) (aa (f2 aG (f2 aG (ab 1) (fC (.int 2))) (ab 8)) (aa (fC (.int 4)) ae)))) (fC (.int 0))))) (mD 7 [0,1,6,8] (aP (aa (f2 n8 (ab 8) (ab 6)) (aa (f2 l8 (ab 8) (ab 6)) (aa (f2 aG (fC (.int 1)) (ah 3 ao (aa (ab 0) (aa (f2 aG (f2 aG (ab 1) (fC (.int 12))) (ab 8)) (aa (fC (.int 2)) ae))))) ae))))) gq)
noncomputable abbrev st(ns:List Int)(a mo m s:Int)(x4 x7 x8 x9 x10 x11:Slot):aj:=[.val (dI ns),.val (.int a),.val (.int mo),.non,x4,.val (.int m),.val (.int s),x7,x8,x9,x10,x11]
noncomputable def Jb(ns:List Int)(a mo s k:Int)(W:List Wy):List Wy:=if (W.length:Int) < mo/\0 < dr ns (a+2+k) 4 then W++[(k / s,k % s,1+dr ns (a+12+k) 2)] else W
theorem Ly{ns:List Int}{a mo m s k:Int}{W:List Wy}(hl:ns.length<=63)(hs:s=1\/s=2\/s=3)(hw:W.length<=9) :
  lB (st ns a mo m s .non (.own (W.map ar)) (.val (.int k)) .non .non .non)=some (.nx (st ns a mo m s .non (.own ((Jb ns a mo s k W).map ar)) (.val (.int k)) .non .non .non)):=by
 have hs0:0 < s:=by omega
 have hz:W.length < sizeLine:=Nat.lt_of_le_of_lt hw (by decide)
 have hd:Dl.n8 (.int k) (.int s)=some (.int (k / s)):=lD ⟨hs0,by omega⟩
 have hm:Dl.l8 (.int k) (.int s)=some (.int (k % s)):=jw hs0
 have e4:=xy (ns:=ns) (a+2+k) 4 hl (by decide)
 have e2:=xy (ns:=ns) (a+12+k) 2 hl (by decide)
 have hh:hand [0,1,6,8] 0 (st ns a mo m s .non (.own (W.map ar)) (.val (.int k)) .non .non .non)=st ns a mo m s .non (.own (W.map ar)) (.val (.int k)) .non .non .non:=rfl
 have ha:mD 7 [0,1,6,8] (aP (aa (f2 n8 (ab 8) (ab 6)) (aa (f2 l8 (ab 8) (ab 6)) (aa (f2 aG (fC (.int 1)) (ah 3 ao (aa (ab 0) (aa (f2 aG (f2 aG (ab 1) (fC (.int 12))) (ab 8)) (aa (fC (.int 2)) ae))))) ae)))) (st ns a mo m s .non (.own (W.map ar)) (.val (.int k)) .non .non .non)=some (.nx (st ns a mo m s .non (.own ((W++[(k / s,k % s,1+dr ns (a+12+k) 2)]).map ar)) (.val (.int k)) .non .non .non)):=by
  simp only[mD,ma,hh,cJ,zI,List.map_nil]
  simp! [xo,Bool.false_eq_true,o3,hd,hm,e2,Ab,zD,hz,List.set_cons_succ,List.set_cons_zero,List.map_append]
  rfl
 by_cases c1:(W.length:Int) < mo
 ·by_cases c2:0 < dr ns (a+2+k) 4
  ·rw[show Jb ns a mo s k W=W++[(k / s,k % s,1+dr ns (a+12+k) 2)] from if_pos ⟨c1,c2⟩,<- ha]
   simp! [lB,gJ,jG,zD,c1,c2,decide_true,iz,e4]
  ·rw[show Jb ns a mo s k W=W from if_neg fun h=>c2 h.2]
   simp! [lB,gJ,jG,zD,c1,c2,decide_true,decide_false,iz,e4,Bool.false_eq_true]
 ·rw[show Jb ns a mo s k W=W from if_neg fun h=>c1 h.1]
  simp! [lB,gJ,jG,zD,c1,decide_false,iz,Bool.false_eq_true]
structure Du(mo s k:Int)(W:List Wy):Prop where
 mem:∀w∈W,∃j:Int,0<=j/\j < k/\w.1=j / s/\w.2.1=j % s/\1<=w.2.2/\w.2.2<=2
 ris:rH W
 len:(W.length:Int)<=k
 lem:(W.length:Int)<=mo
theorem Du.next{ns:List Int}{a mo s k:Int}{W:List Wy}(hl:ns.length<=63)(hs:s=1\/s=2\/s=3)(hk:0<=k)(h:Du mo s k W):Du mo s (k+1) (Jb ns a mo s k W):=by
 have old:∀w∈W,∃j:Int,0<=j/\j < k+1/\w.1=j / s/\w.2.1=j % s/\1<=w.2.2/\w.2.2<=2:=fun w hw=>by
  obtain⟨j,a,b,c⟩:=h.mem w hw
  exact⟨j,a,by omega,c⟩
 by_cases c:(W.length:Int) < mo/\0 < dr ns (a+2+k) 4
 ·rw[show Jb ns a mo s k W=W++[(k / s,k % s,1+dr ns (a+12+k) 2)] from if_pos c]
  have g1:=Oo (ns:=ns) (a+12+k) 2 hl (by decide)
  have g2:=O4 (ns:=ns) (a+12+k) 2 hl (by decide)
  refine⟨fun w hw=>?_,?_,?_,?_⟩
  ·rcases List.mem_append.mp hw with hw|hw
   ·exact old w hw
   ·rw[yL] at hw
    subst hw
    exact⟨k,hk,by omega,rfl,rfl,by simp only;omega,by simp only;omega⟩
  ·refine List.pairwise_append.mpr ⟨h.ris,List.pairwise_singleton _ _,fun a ha b hb=>?_⟩
   rw[yL] at hb
   subst hb
   obtain⟨j,_,b,c1,c2,_⟩:=h.mem a ha
   rw[c1,c2]
   exact N8 hs b
  ·have:=h.len;rw[zN,List.length_singleton];omega
  ·have:=c.1;rw[zN,List.length_singleton];omega
 ·rw[show Jb ns a mo s k W=W from if_neg c]
  exact⟨old,h.ris,by have:=h.len;omega,h.lem⟩
theorem HS{ns:List Int}{a mo m s:Int}(hl:ns.length<=63)(hs:s=1\/s=2\/s=3):∀ (n k:Nat) {W:List Wy}{x8:Slot},k+n<=9->Du mo s k W ->
  ∃W' t8,eF (vI 8) lB ((List.range' k n).map fun i=>PyData.int ((i:Nat):Int)) (st ns a mo m s .non (.own (W.map ar)) x8 .non .non .non)=some (.nx (st ns a mo m s .non (.own (W'.map ar)) t8 .non .non .non))/\(n=0/\t8=x8\/∃d,t8=.val d)/\Du mo s ((k+n:Nat):Int) W'
 | 0,k,W,x8,hk,h=>⟨W,x8,rfl,.inl ⟨rfl,rfl⟩,h⟩
 | n+1,k,W,x8,hk,h=>by
  have h':Du mo s ((k+1:Nat):Int) (Jb ns a mo s k W):=by
   have:=h.next (ns:=ns) (a:=a) hl hs (by omega)
   rwa [show ((k:Int)+1)=((k+1:Nat):Int) by omega] at this
  obtain⟨W',t8,e,q,b⟩:=HS hl hs n (k+1) (W:=Jb ns a mo s k W) (x8:=.val (.int (k:Nat))) (by omega) h'
  refine⟨W',t8,?_,.inr (q.elim (fun z=>⟨_,z.2⟩) id),by rw[show k+(n+1)=k+1+n by omega];exact b⟩
  have hsg:∀d,vI 8 (st ns a mo m s .non (.own (W.map ar)) x8 .non .non .non) d=some (st ns a mo m s .non (.own (W.map ar)) (.val d) .non .non .non):=fun d=>rfl
  rw[List.range'_succ,zI,eF,hsg,zA,Ly hl hs (by have:=h.len;omega)]
  exact e
theorem Q2(W:List Wy)(i:Int)(hw:W.length<=20):au 1 [0] (aV (ab 1)) (fG 0) (fB (f2 b9 (f2 ak (ab 0) (fC (.int 0))) (ab 1))) (f2 ak (ab 0) (fC (.int 1))) [some (.int i),some (.list (W.map ar))]=some ((zw W i).map PyData.int):=by
 rw[nS (ds:=W.map ar) (p:=fun d=>decide (jB ((di d).getD 0 .none)=i)) (h:=fun d=>(di d).getD 1 .none) rfl (by rw[zD];omega) (fun d hd=>?_) fun d hd _=>?_]
 ·rw[List.filter_map,zM,zw,zM];rfl
 ·obtain⟨w,_,rfl⟩:=zQ.mp hd
  simp! [Lb,du,iz]
  rfl
 ·obtain⟨w,_,rfl⟩:=zQ.mp hd
  simp! [K1]
  rfl
theorem QQ(W:List Wy)(i:Int)(hw:W.length<=20):au 1 [0] (aV (ab 1)) (fG 0) (fB (f2 b9 (f2 ak (ab 0) (fC (.int 1))) (ab 1))) (f2 ak (ab 0) (fC (.int 0))) [some (.int i),some (.list (W.map ar))]=some ((ofT W i).map PyData.int):=by
 rw[nS (ds:=W.map ar) (p:=fun d=>decide (jB ((di d).getD 1 .none)=i)) (h:=fun d=>(di d).getD 0 .none) rfl (by rw[zD];omega) (fun d hd=>?_) fun d hd _=>?_]
 ·rw[List.filter_map,zM,ofT,zM];rfl
 ·obtain⟨w,_,rfl⟩:=zQ.mp hd
  simp! [K1,du,iz]
  rfl
 ·obtain⟨w,_,rfl⟩:=zQ.mp hd
  simp! [Lb]
  rfl
theorem CJ{m:Nat}(hm:m<=1000):zx ((m:Nat):Int)=true:=by
 unfold zx
 rw[zF,zJ,zJ]
 have h1:(0:Int)<=(m:Int):=Int.natCast_nonneg m
 have h2:(m:Int)<=1000:=by omega
 exact⟨Int.le_trans (by decide) h1,Int.lt_of_le_of_lt h2 (by decide)⟩
theorem zi{j:Int}(h:zx j=true):kR [.int j]=some ((List.range j.toNat).map fun i=>PyData.int ((i:Nat):Int)):=by
 rw[kR,if_pos h]
theorem wx{fi:Dl.Env->Option D}{ρ:Dl.Env}(m:Nat)(hm:m<=1000)(h:fi ρ=some (.int (m:Nat))):bC (aa fi ae) ρ=some ((List.range m).map fun i=>PyData.int ((i:Nat):Int)):=by
 have e:aa fi ae ρ=some [.int ((m:Nat):Int)]:=by simp only[aa,ae,h,zA,zB]
 have e2:bC (aa fi ae) ρ=(aa fi ae ρ).bind kR:=rfl
 rw[e2,e,zA,zi (CJ hm),yH]
theorem Jd{W:List Wy}{m:Nat}{i7 i5:Nat}{ρ:Dl.Env}(hw:W.length<=20)(hm:m<=1000)(h5:ab i5 ρ=some (.int (m:Nat)))(h7:(ρ[i7]?).getD none=some (.list (W.map ar))) :
  au 1 [i7] (bC (aa (ab i5) ae)) (fG 0) (fun _=>some true) (cD (au 1 [0] (aV (ab 1)) (fG 0) (fB (f2 b9 (f2 ak (ab 0) (fC (.int 0))) (ab 1))) (f2 ak (ab 0) (fC (.int 1))))) ρ=some ((mn W m).map cI):=by
 rw[cF (h:=fun d=>cI (zw W (jB d))) (wx m hm h5) (by rw[zD,zS];omega) fun d hd=>?_]
 ·rw[mn,zM,zM];rfl
 ·obtain⟨i,_,rfl⟩:=zQ.mp hd
  simp only[zI,List.map_nil,h7,cD,Q2 W _ hw,zB,cI,jB]
theorem IM{W:List Wy}{m:Nat}{i7 i5:Nat}{ρ:Dl.Env}(hw:W.length<=20)(hm:m<=1000)(h5:ab i5 ρ=some (.int (m:Nat)))(h7:(ρ[i7]?).getD none=some (.list (W.map ar))) :
  au 1 [i7] (bC (aa (ab i5) ae)) (fG 0) (fun _=>some true) (cD (au 1 [0] (aV (ab 1)) (fG 0) (fB (f2 b9 (f2 ak (ab 0) (fC (.int 1))) (ab 1))) (f2 ak (ab 0) (fC (.int 0))))) ρ=some ((md W m).map cI):=by
 rw[cF (h:=fun d=>cI (ofT W (jB d))) (wx m hm h5) (by rw[zD,zS];omega) fun d hd=>?_]
 ·rw[md,zM,zM];rfl
 ·obtain⟨i,_,rfl⟩:=zQ.mp hd
  simp only[zI,List.map_nil,h7,cD,QQ W _ hw,zB,cI,jB]
noncomputable def KP(c:Int):Dl.Env->Option D:=(aP (aa (ah 3 ao (aa (ab 2) (aa (f2 aG (f2 aG (ab 3) (fC (.int c))) (ab 0)) (aa (fC (.int 4)) ae)))) (aa (ab 1) ae)))
theorem NY{ns:List Int}{a:Int}(c:Int)(hl:ns.length<=63):∀ (mine:List (List Int)) (k:Nat),dg (ir 0 1) (fun _=>some true) (KP c) [none,none,some (dI ns),some (.int a)] (bL k (mine.map af))=some ((kK (fun k=>dr ns (a+c+((k:Nat):Int)) 4) k mine).map aQ)
 | [],k=>rfl
 | r::mine,k=>by
  have hg:ir 0 1 [none,none,some (dI ns),some (.int a)] (.tuple [.int ((k:Nat):Int),af r])=some [some (.int ((k:Nat):Int)),some (af r),some (dI ns),some (.int a)]:=rfl
  have he:KP c [some (.int ((k:Nat):Int)),some (af r),some (dI ns),some (.int a)]=some (aQ (dr ns (a+c+((k:Nat):Int)) 4,r)):=by
   simp! [KP,xy (ns:=ns) (a+c+((k:Nat):Int)) 4 hl (by decide),A6,aQ]
  have ih:=NY (a:=a) c hl mine (k+1)
  rw[zI,bL,dg,hg]
  simp only[zA,if_true,he,ih,zB,kK,zI]
theorem lM:∀ (ds:List D) (k:Nat),(bL k ds).length=ds.length
 | [],k=>rfl
 | d::ds,k=>by rw[bL,zL,zL,lM ds]
theorem xF{ns:List Int}{a c:Int}{i9:Nat}{ρ:Dl.Env}{mine:List (List Int)}(hl:ns.length<=63)(hm:mine.length<=1000)(h9:ab i9 ρ=some (.list (mine.map af)))(h0:(ρ[0]?).getD none=some (dI ns))(h1:(ρ[1]?).getD none=some (.int a)) :
  br aZ (aa (cD (au 2 [0,1] (bN (aa (ab i9) ae)) (ir 0 1) (fun _=>some true) (KP c))) ae) ρ=some (.tuple ((kK (fun k=>dr ns (a+c+((k:Nat):Int)) 4) 0 mine).map aQ)):=by
 have hi:bN (aa (ab i9) ae) ρ=some (bL 0 (mine.map af)):=by
  simp only[bN,aa,ae,h9,zA,zB,dN,oneOf,iF]
 have hc:au 2 [0,1] (bN (aa (ab i9) ae)) (ir 0 1) (fun _=>some true) (KP c) ρ=some ((kK (fun k=>dr ns (a+c+((k:Nat):Int)) 4) 0 mine).map aQ):=by
  simp only[au,hi,zA,fS,zI,List.map_nil,h0,h1,List.replicate,List.cons_append,List.nil_append,NY c hl]
  exact bS (by rw[zD,jn];omega)
 simp only[br,aa,ae,cD,hc,zB,zA,aZ,dN,oneOf,iF]
theorem ai{g1 g2:aj->Option Out}{ρ ρ':aj}(h:g1 ρ=some (.nx ρ')):av g1 g2 ρ=g2 ρ':=by
 simp only[av,h,zA]
theorem aC{g:aj->Option Out}{n:Nat}{args:List D}{d:D}(h:g (args.map Slot.val++List.replicate (n - args.length) .non)=some (.rt d)):bc g n args=some d:=by
 simp only[bc,h,zB]
theorem kJ{g:D->D->Option D}{fa fb:Dl.Env->Option D}{ρ:Dl.Env}{a b:D}(ha:fa ρ=some a)(hb:fb ρ=some b):f2 g fa fb ρ=g a b:=by
 simp only[f2,ha,hb,zA]
theorem Lv{ns:List Int}{a mo:Int}{m s:Nat}(m1:m<=3)(s1:s<=3):f2 ip (ab 5) (ab 6) (cJ (st ns a mo m s .non (.own []) .non .non .non .non))=some (.int ((m * s:Nat):Int)):=by
 have h:Dl.ip (.int (m:Int)) (.int (s:Int))=some (.int ((m:Int) * (s:Int))):=fV (mK (by omega))
 rw[kJ (a:=.int (m:Int)) (b:=.int (s:Int)) rfl rfl,h,Int.natCast_mul]
theorem NC{ns:List Int}{a mo:Int}{m s:Nat}(m1:m<=3)(s1:s<=3)(hms:m * s<=9){W:List Wy}{t8:Slot}(e: eF (vI 8) lB ((List.range' 0 (m * s)).map fun i=>PyData.int ((i:Nat):Int)) (st ns a mo m s .non (.own (([]:List Wy).map ar)) .non .non .non .non)=some (.nx (st ns a mo m s .non (.own (W.map ar)) t8 .non .non .non))):eD [5,6] (bC (aa (f2 ip (ab 5) (ab 6)) ae)) (vI 8) lB (st ns a mo m s .non (.own []) .non .non .non .non)=some (.nx (st ns a mo m s .non (.own (W.map ar)) t8 .non .non .non)):=by
 have hh:hand [5,6] 0 (st ns a mo m s .non (.own []) .non .non .non .non)=st ns a mo m s .non (.own []) .non .non .non .non:=rfl
 have hr:=wx (fi:=f2 ip (ab 5) (ab 6)) (ρ:=cJ (st ns a mo m s .non (.own []) .non .non .non .non)) (m * s) (by omega) (Lv m1 s1)
 rw[yI] at hr
 rw[List.map_nil] at e
 simp only[eD,hh,hr,zA]
 exact e
structure Oh(mo:Int)(G T:List Pl)(W:List Wy):Prop where
 g3:G.length<=3
 t3:T.length<=3
 w2:∀w∈W,w.2.2<=2
 ga:∀p∈G,p.1<=3
 ta:∀p∈T,p.1<=3
 wm:(W.length:Int)<=mo
theorem wb{ns:List Int}{a mo:Int}(hl:ns.length<=63)(hmo:3 < mo)(c:dr ns (a+64) 4=0):∃G T W,cP [dI ns,.int a,.int mo]=some (ax G T W)/\Wd G T W/\Oh mo G T W:=by
 have e64:=xy (ns:=ns) (a+64) 4 hl (by decide)
 have e65:=fj (ns:=ns) (a+65) 2 hl (by decide)
 refine⟨_,_,_,?_,D1 (c:=1+dr ns (a+65) 2) (by omega) (by omega),⟨by simp,by simp,by decide,fun p hp=>?_,fun p hp=>?_,by simp;omega⟩⟩
 rotate_left
 ·simp only[zR,yG,or_false] at hp;rcases hp with rfl|rfl<;>(simp only;omega)
 ·simp only[zR,yG,or_false] at hp;rcases hp with rfl|rfl<;>(simp only;omega)
 have s1:Dl.aD 3 [0,1] (f2 aG (fC (.int 1)) (ah 3 ao (aa (ab 0) (aa (f2 aG (ab 1) (fC (.int 65))) (aa (fC (.int 2)) ae))))) [.val (dI ns),.val (.int a),.val (.int mo),.non,.non,.non,.non,.non,.non,.non,.non,.non]=some (.nx [.val (dI ns),.val (.int a),.val (.int mo),.val (.int (1+dr ns (a+65) 2)),.non,.non,.non,.non,.non,.non,.non,.non]) :=
  eX (d:=.int (1+dr ns (a+65) 2)) (by simp! [e65.1]) rfl
 generalize 1+dr ns (a+65) 2=x at *
 have s2:Dl.aD 4 [3] (aP (aa (aP (aa (ab 3) (aa (aP (aa (fC (.int 1)) (aa (fC (.int 0)) ae))) ae))) (aa (aP (aa (ab 3) (aa (aP (aa (fC (.int 0)) (aa (fC (.int 1)) ae))) ae))) ae))) [.val (dI ns),.val (.int a),.val (.int mo),.val (.int x),.non,.non,.non,.non,.non,.non,.non,.non]=some (.nx [.val (dI ns),.val (.int a),.val (.int mo),.val (.int x),.val (.tuple [aQ (x,[1,0]),aQ (x,[0,1])]),.non,.non,.non,.non,.non,.non,.non]) :=
  cG (d:=.tuple [aQ (x,[1,0]),aQ (x,[0,1])]) (by simp! [A6];rfl) rfl rfl rfl
 simp! [cP,eJ,jG,e64,c,du,decide_true,iz,show decide ((3:Int) < mo)=true from yB hmo,s1,s2,A6,Ab,show ∀a b c d:D,small [a,b,c,d]=some [a,b,c,d] from fun _ _ _ _=>rfl]
 rfl
theorem vJ{ns:List Int}{a mo:Int}(hl:ns.length<=63)(hm0:0<=mo)(c:¬ (3 < mo/\dr ns (a+64) 4=0)):∃G T W,cP [dI ns,.int a,.int mo]=some (ax G T W)/\Wd G T W/\Oh mo G T W:=by
 have e64:=xy (ns:=ns) (a+64) 4 hl (by decide)
 have em:=fj (ns:=ns) a 3 hl (by decide)
 have es:=fj (ns:=ns) (a+1) 3 hl (by decide)
 obtain⟨m,hm⟩:=Int.eq_ofNat_of_zero_le (show 0<=1+dr ns a 3 by omega)
 obtain⟨s,hs⟩:=Int.eq_ofNat_of_zero_le (show 0<=1+dr ns (a+1) 3 by omega)
 have m1:1<=m/\m<=3:=by omega
 have s1:1<=s/\s<=3:=by omega
 have hs':(s:Int)=1\/(s:Int)=2\/(s:Int)=3:=by omega
 have hm':(m:Int)=1\/(m:Int)=2\/(m:Int)=3:=by omega
 have t5:Dl.aD 5 [0,1] (f2 aG (fC (.int 1)) (ah 3 ao (aa (ab 0) (aa (ab 1) (aa (fC (.int 3)) ae))))) [.val (dI ns),.val (.int a),.val (.int mo),.non,.non,.non,.non,.non,.non,.non,.non,.non]=some (.nx [.val (dI ns),.val (.int a),.val (.int mo),.non,.non,.val (.int (m:Nat)),.non,.non,.non,.non,.non,.non]) :=
  eX (d:=.int (m:Nat)) (by simp! [em.1,hm]) rfl
 have t6:Dl.aD 6 [0,1] (f2 aG (fC (.int 1)) (ah 3 ao (aa (ab 0) (aa (f2 aG (ab 1) (fC (.int 1))) (aa (fC (.int 3)) ae))))) [.val (dI ns),.val (.int a),.val (.int mo),.non,.non,.val (.int (m:Nat)),.non,.non,.non,.non,.non,.non]=some (.nx (st ns a mo m s .non .non .non .non .non .non)) :=
  eX (d:=.int (s:Nat)) (by simp! [es.1,hs]) rfl
 have t7:bh 7 [] (kl ae) (st ns a mo m s .non .non .non .non .non .non)=some (.nx (st ns a mo m s .non (.own []) .non .non .non .non)):=by
  simp only[bh,nq,kl,ae,zA,jf,zB,List.set_cons_succ,List.set_cons_zero]
 have hms:m * s<=9:=Nat.mul_le_mul m1.2 s1.2
 have hms1:1<=m * s:=Nat.mul_le_mul m1.1 s1.1
 obtain⟨W,t8,e,h8,I⟩:=HS (ns:=ns) (a:=a) (m:=m) (s:=s) hl hs' (m * s) 0 (W:=[]) (x8:=.non) (by omega) (mo:=mo) ⟨fun w hw=>(by cases hw),List.Pairwise.nil,by decide,hm0⟩
 rw[Nat.zero_add] at I
 obtain⟨d8,rfl⟩:∃d,t8=.val d:=h8.elim (fun z=>by omega) id
 have hlen9:W.length<=9:=by have:=I.len;omega
 have tf:=NC m1.2 s1.2 hms e
 unfold lB at tf
 have hwl:W.length<=20:=by omega
 have wr:∀w∈W,(0<=w.1/\w.1 < m)/\(0<=w.2.1/\w.2.1 < s)/\1<=w.2.2/\w.2.2<=9:=fun w hw=>by
  obtain⟨j,j0,jk,ea,b,c1,c2⟩:=I.mem w hw
  have:=MW hs' hm' j0 (by rw[<- Int.natCast_mul];exact jk)
  rw[ea,b]
  exact⟨this.1,this.2,c1,by omega⟩
 have lenG:∀r∈mn W m,r.length<=1000:=fun r hr=>by
  obtain⟨i,_,rfl⟩:=zQ.mp hr
  rw[zw,zD]
  exact yE (List.length_filter_le _ _) (by omega)
 have lenT:∀r∈md W s,r.length<=1000:=fun r hr=>by
  obtain⟨i,_,rfl⟩:=zQ.mp hr
  rw[ofT,zD]
  exact yE (List.length_filter_le _ _) (by omega)
 obtain⟨mine,om,pm⟩:=zr (ns:=ns) (a:=a+24) (rows:=mn W m) hl lenG (by rw[mn,zD,zS];omega)
 obtain⟨yours,oy,py⟩:=zr (ns:=ns) (a:=a+40) (rows:=md W s) hl lenT (by rw[md,zD,zS];omega)
 have lm:mine.length<=1000:=by rw[eY pm,mn,zD,zS];omega
 have ly:yours.length<=1000:=by rw[eY py,md,zD,zS];omega
 have t9:Dl.aD 9 [0,1,5,7] (ah 3 bX (aa (ab 0) (aa (f2 aG (ab 1) (fC (.int 24))) (aa (cD (au 1 [7] (bC (aa (ab 5) ae)) (fG 0) (fun _=>some true) (cD (au 1 [0] (aV (ab 1)) (fG 0) (fB (f2 b9 (f2 ak (ab 0) (fC (.int 0))) (ab 1))) (f2 ak (ab 0) (fC (.int 1))))))) ae)))) (st ns a mo m s .non (.own (W.map ar)) (.val d8) .non .non .non)=some (.nx (st ns a mo m s .non (.val (.list (W.map ar))) (.val d8) (.val (.list (mine.map af))) .non .non)):=by
  refine (cG (ρ':=st ns a mo m s .non (.val (.list (W.map ar))) (.val d8) .non .non .non) (d:=.list (mine.map af)) ?_ rfl rfl ?_).trans rfl
  ·have q:=Jd (ρ:=bO (st ns a mo m s .non (.own (W.map ar)) (.val d8) .non .non .non)) (i5:=5) (i7:=7) hwl (show m<=1000 by omega) rfl rfl
   simp only[ah,aa,ae,cD,q,zB,zA]
   simp! [om]
  ·simp only[st,cJ,bO,zI,List.map_nil];rfl
 have t10:Dl.aD 10 [0,1,6,7] (ah 3 bX (aa (ab 0) (aa (f2 aG (ab 1) (fC (.int 40))) (aa (cD (au 1 [7] (bC (aa (ab 6) ae)) (fG 0) (fun _=>some true) (cD (au 1 [0] (aV (ab 1)) (fG 0) (fB (f2 b9 (f2 ak (ab 0) (fC (.int 1))) (ab 1))) (f2 ak (ab 0) (fC (.int 0))))))) ae)))) (st ns a mo m s .non (.val (.list (W.map ar))) (.val d8) (.val (.list (mine.map af))) .non .non)=some (.nx (st ns a mo m s .non (.val (.list (W.map ar))) (.val d8) (.val (.list (mine.map af))) (.val (.list (yours.map af))) .non)):=by
  refine (cG (ρ':=st ns a mo m s .non (.val (.list (W.map ar))) (.val d8) (.val (.list (mine.map af))) .non .non) (d:=.list (yours.map af)) ?_ rfl ?_ ?_).trans rfl
  ·have q:=IM (ρ:=bO (st ns a mo m s .non (.val (.list (W.map ar))) (.val d8) (.val (.list (mine.map af))) .non .non)) (i5:=6) (i7:=7) hwl (show s<=1000 by omega) rfl rfl
   simp only[ah,aa,ae,cD,q,zB,zA]
   simp! [oy]
  ·rfl
  ·simp only[st,cJ,bO,zI,List.map_nil];rfl
 have t11:Dl.aD 11 [0,1,8,9] (br aZ (aa (cD (au 2 [0,1] (bN (aa (ab 9) ae)) (ir 0 1) (fun _=>some true) (KP 56))) ae)) (st ns a mo m s .non (.val (.list (W.map ar))) (.val d8) (.val (.list (mine.map af))) (.val (.list (yours.map af))) .non)=some (.nx (st ns a mo m s .non (.val (.list (W.map ar))) (.val d8) (.val (.list (mine.map af))) (.val (.list (yours.map af))) (.val (.tuple ((kK (fun k=>dr ns (a+56+((k:Nat):Int)) 4) 0 mine).map aQ))))):=by
  refine (cG (ρ':=st ns a mo m s .non (.val (.list (W.map ar))) (.val d8) (.val (.list (mine.map af))) (.val (.list (yours.map af))) .non) (xF hl lm rfl rfl rfl) rfl rfl ?_).trans rfl
  simp only[st,cJ,bO,zI,List.map_nil];rfl
 have t4:∀G:D,Dl.aD 4 [0,1,8,10] (br aZ (aa (cD (au 2 [0,1] (bN (aa (ab 10) ae)) (ir 0 1) (fun _=>some true) (KP 60))) ae)) (st ns a mo m s .non (.val (.list (W.map ar))) (.val d8) (.val (.list (mine.map af))) (.val (.list (yours.map af))) (.val G))=some (.nx (st ns a mo m s (.val (.tuple ((kK (fun k=>dr ns (a+60+((k:Nat):Int)) 4) 0 yours).map aQ))) (.val (.list (W.map ar))) (.val d8) (.val (.list (mine.map af))) (.val (.list (yours.map af))) (.val G))):=fun G=>by
  refine (cG (ρ':=st ns a mo m s .non (.val (.list (W.map ar))) (.val d8) (.val (.list (mine.map af))) (.val (.list (yours.map af))) (.val G)) (xF hl ly rfl rfl rfl) rfl rfl ?_).trans rfl
  simp only[st,cJ,bO,zI,List.map_nil];rfl
 refine⟨_,_,W,?_,IX (f:=fun k=>dr ns (a+56+((k:Nat):Int)) 4) (g:=fun k=>dr ns (a+60+((k:Nat):Int)) 4) m1.1 (by omega) s1.1 (by omega) (fun k=>?_) (fun k=>?_) pm py wr I.ris (by omega),⟨by rw[jn,eY pm,mn,zD,zS];omega,by rw[jn,eY py,md,zD,zS];omega,fun w hw=>(by obtain⟨j,_,_,_,_,_,z⟩:=I.mem w hw;exact z),fun p hp=>?_,fun p hp=>?_,I.lem⟩⟩
 ·unfold KP at t11 t4
  have tA:∀g,gy (cX (fB (f2 Fk (ab 2) (fC (.int 3)))) (fB (f2 b9 (ah 3 ao (aa (ab 0) (aa (f2 aG (ab 1) (fC (.int 64))) (aa (fC (.int 4)) ae)))) (fC (.int 0))))) g gq [.val (dI ns),.val (.int a),.val (.int mo),.non,.non,.non,.non,.non,.non,.non,.non,.non]=some (.nx [.val (dI ns),.val (.int a),.val (.int mo),.non,.non,.non,.non,.non,.non,.non,.non,.non]):=fun g=>by
   by_cases c1:3 < mo
   ·have c2:¬ dr ns (a+64) 4=0:=fun z=>c ⟨c1,z⟩
    simp! [jG,e64,c1,c2,du,decide_false,decide_true,iz,Bool.false_eq_true]
   ·simp! [jG,c1,decide_false,iz,Bool.false_eq_true]
  refine aC ?_
  show eJ [.val (dI ns),.val (.int a),.val (.int mo),.non,.non,.non,.non,.non,.non,.non,.non,.non]=_
  unfold eJ
  rw[ai (tA _),ai t5,ai t6,ai t7,ai tf,ai t9,ai t10,ai t11,ai (t4 _)]
  simp! [Ab,ax]
 ·have q:=fj (ns:=ns) (a+56+((k:Nat):Int)) 4 hl (by decide)
  exact⟨q.2.1,by omega⟩
 ·have q:=fj (ns:=ns) (a+60+((k:Nat):Int)) 4 hl (by decide)
  exact⟨q.2.1,by omega⟩
 ·obtain⟨i,hi⟩:=List.getElem?_of_mem hp
  obtain⟨r,_,rfl⟩:=jm _ hi
  have q:=fj (ns:=ns) (a+56+((0+i:Nat):Int)) 4 hl (by decide)
  simp only;omega
 ·obtain⟨i,hi⟩:=List.getElem?_of_mem hp
  obtain⟨r,_,rfl⟩:=jm _ hi
  have q:=fj (ns:=ns) (a+60+((0+i:Nat):Int)) 4 hl (by decide)
  simp only;omega
theorem yV{ns:List Int}{a mo:Int}(hl:ns.length<=63)(hm0:0<=mo):∃G T W,cP [dI ns,.int a,.int mo]=some (ax G T W)/\Wd G T W/\Oh mo G T W:=by
 by_cases c:3 < mo/\dr ns (a+64) 4=0
 ·exact wb hl c.1 c.2
 ·exact vJ hl hm0 c
section
variable {G T:List Pl}{W:List Wy}
theorem K5(h:rH W):(W.map fun w=>[w.1,w.2.1]).Pairwise fun a b=>Dl.lexLt a b=true:=List.pairwise_map.mpr (h.imp fun hab=>Ql hab)
theorem EU(h:rH W):(W.map fun w=>[w.1,w.2.1]).Nodup:=(K5 h).imp fun {a b} hab e=>by
 rw[e,g9] at hab
 cases hab
theorem HN(h:rH W){m:List (List Int)}(hn:m.Nodup)(hm:∀r,r∈W.map (fun w=>[w.1,w.2.1])↔r∈m):W.map (fun w=>[w.1,w.2.1])=rQ m :=
 AK ((List.perm_ext_iff_of_nodup (EU h) hn).mpr hm) ((K5 h).imp fun hab=>OT hab)
theorem Wd.wok(h:Wd G T W):Pk (ax G T W)=true:=by
 have hP:(W.map ar).map gu=W.map fun w=>[w.1,w.2.1]:=by rw[zM];rfl
 have hpg:∀i j:Int,[i,j]∈W.map (fun w=>[w.1,w.2.1])↔[i,j]∈mW 0 (G.map aQ):=fun i j=>by
  rw[qa]
  constructor
  ·intro hm
   obtain⟨w,hw,e⟩:=zQ.mp hm
   simp only[List.cons.injEq,and_true] at e
   have hr:=(h.wr w hw).1
   obtain⟨p,hp⟩:∃p,G[i.toNat]?=some p:=⟨G[i.toNat]'(by omega),zK (by omega)⟩
   refine⟨i.toNat,aQ p,by rw[zO,hp];rfl,by omega,?_⟩
   rw[gL,(h.gl _ p hp).mem_iff,u9,show ((i.toNat:Nat):Int)=i by omega]
   exact hm
  ·rintro⟨m,p,hp,rfl,hj⟩
   rw[zO] at hp
   obtain⟨p',hp',rfl⟩:=Option.map_eq_some_iff.mp hp
   rw[gL,(h.gl m p' hp').mem_iff,u9] at hj
   rwa [Nat.zero_add]
 have hpt:∀i j:Int,[i,j]∈W.map (fun w=>[w.1,w.2.1])↔[j,i]∈mW 0 (T.map aQ):=fun i j=>by
  rw[qa]
  constructor
  ·intro hm
   obtain⟨w,hw,e⟩:=zQ.mp hm
   simp only[List.cons.injEq,and_true] at e
   have hr:=(h.wr w hw).2.1
   obtain⟨p,hp⟩:∃p,T[j.toNat]?=some p:=⟨T[j.toNat]'(by omega),zK (by omega)⟩
   refine⟨j.toNat,aQ p,by rw[zO,hp];rfl,by omega,?_⟩
   rw[gL,(h.tl _ p hp).mem_iff,xb,show ((j.toNat:Nat):Int)=j by omega]
   exact hm
  ·rintro⟨m,p,hp,rfl,hj⟩
   rw[zO] at hp
   obtain⟨p',hp',rfl⟩:=Option.map_eq_some_iff.mp hp
   rw[gL,(h.tl m p' hp').mem_iff,xb] at hj
   rwa [Nat.zero_add]
 have two:∀ {r:List Int},r∈W.map (fun w=>[w.1,w.2.1])->∃i j,r=[i,j]:=fun hr=>by
  obtain⟨w,_,rfl⟩:=zQ.mp hr
  exact⟨_,_,rfl⟩
 have ng:∀ (L:List Pl),(∀p∈L,p.2.Nodup)->(mW 0 (L.map aQ)).Nodup:=fun L hL=>uA fun p hp=>by
  obtain⟨p',hp',rfl⟩:=zQ.mp hp
  rw[gL]
  exact hL p' hp'
 have e1:W.map (fun w=>[w.1,w.2.1])=rQ (mW 0 (G.map aQ)):=HN h.wp (ng G fun p hp=>by
   obtain⟨i,hi,e⟩:=List.getElem_of_mem hp
   exact (h.gl i p (by rw[zK hi,e])).nodup_iff.mpr (oa h.wp i)) fun r=>⟨fun hr=>by
   obtain⟨i,j,rfl⟩:=two hr
   exact (hpg i j).mp hr,fun hr=>by
   obtain⟨i,j,rfl⟩:=lR r hr
   exact (hpg i j).mpr hr⟩
 have e2:W.map (fun w=>[w.1,w.2.1])=rQ ((mW 0 (T.map aQ)).map List.reverse):=HN h.wp (by
   exact List.pairwise_map.mpr (List.Pairwise.imp (fun {a b} hne e=>hne (List.reverse_inj.mp e)) (ng T fun p hp=>by
    obtain⟨i,hi,e⟩:=List.getElem_of_mem hp
    exact (h.tl i p (by rw[zK hi,e])).nodup_iff.mpr (oQ h.wp i)))) fun r=>⟨fun hr=>by
   obtain⟨i,j,rfl⟩:=two hr
   exact zQ.mpr ⟨[j,i],(hpt i j).mp hr,rfl⟩,fun hr=>by
   obtain⟨r',hr',rfl⟩:=zQ.mp hr
   obtain⟨i,j,rfl⟩:=lR r' hr'
   exact (hpt j i).mpr hr'⟩
 have hw:(W.map ar).all (kH G.length T.length)=true:=by
  rw[List.all_eq_true]
  intro x hx
  obtain⟨w,hw,rfl⟩:=zQ.mp hx
  exact DX (h.wr w hw)
 have hs:∀ {L:List Pl},1<=L.length->L.length<=4->o4 (.tuple (L.map aQ))=true:=fun {L} a b=>by
  simp only[o4,long,zD,zF,zJ];omega
 have h3:long 3 3 (ax G T W)=true:=rfl
 have hg:=h.gok
 have ht:=h.tok
 unfold Pk Bo
 rw[h3,Bool.true_and]
 simp only[ax,di,List.getD_cons_zero,List.getD_cons_succ,hP,<- e1,<- e2,decide_true,Bool.and_true,jD,hs h.g1 h.g4,hs h.t1 h.t4,zD,hg,ht,hw,KM]
end
noncomputable def sI(b:Bool):Int:=if b then 1 else 0
noncomputable def aW(b:Bool)(w:Wy):Int:=if b then w.2.1 else w.1
noncomputable def aY(b:Bool)(w:Wy):Int:=aW (!b) w
noncomputable def az(b:Bool)(G T:List Pl):List Pl:=if b then T else G
theorem cM(b:Bool)(G T:List Pl)(W:List Wy):ak (ax G T W) (.int (sI b))=some (.tuple ((az b G T).map aQ)):=by cases b<;>rfl
theorem eI(G T:List Pl)(W:List Wy):ak (ax G T W) (.int 2)=some (.tuple (W.map ar)):=rfl
theorem nU(b:Bool)(w:Wy):ak (ar w) (.int (sI b))=some (.int (aW b w)):=by cases b<;>rfl
theorem Ks(b:Bool)(w:Wy):ak (ar w) (.int (1 - sI b))=some (.int (aY b w)):=by cases b<;>rfl
theorem CZ(w:Wy):ak (ar w) (.int 2)=some (.int w.2.2):=rfl
theorem JQ(p:Pl):ak (aQ p) (.int 0)=some (.int p.1):=rfl
theorem JZ(p:Pl):ak (aQ p) (.int 1)=some (af p.2):=rfl
theorem rM{ds:List D}{i:Nat}{d:D}(h:ds[i]?=some d):ak (.tuple ds) (.int ((i:Nat):Int))=some d:=by
 show vg ds (i:Nat)=_
 exact vL h
theorem Lz{ds:List D}{i:Nat}{d:D}(h:ds[i]?=some d):ak (.list ds) (.int ((i:Nat):Int))=some d:=by
 show vg ds (i:Nat)=_
 exact vL h
theorem ig{α:Type}{f:α->D}{l:List α}{i:Nat}{x:α}(h:l[i]?=some x):ak (.tuple (l.map f)) (.int ((i:Nat):Int))=some (f x):=rM (by rw[zO,h];rfl)
theorem JF{α:Type}{f:α->D}{l:List α}{i:Nat}{x:α}(h:l[i]?=some x):ak (.list (l.map f)) (.int ((i:Nat):Int))=some (f x):=Lz (by rw[zO,h];rfl)
noncomputable def NL(b:Bool)(W:List Wy)(p:Int):List Int:=(W.filter fun w=>decide (aW b w=p)).map (aY b)
theorem Wd.lik{G T:List Pl}{W:List Wy}(h:Wd G T W){b:Bool}{i:Nat}{p:Pl}(e:(az b G T)[i]?=some p):p.2.Perm (NL b W i):=by
 cases b
 ·exact h.gl i p e
 ·exact h.tl i p e
theorem Wd.nod{G T:List Pl}{W:List Wy}(h:Wd G T W)(b:Bool)(i:Int):(NL b W i).Nodup:=by
 cases b
 ·exact oa h.wp i
 ·exact oQ h.wp i
theorem qy{tt:Dl.Env->Option Bool}{te:Dl.Env->Option D}{r:List (Option D)}{p:Nat->D->Bool}{h:Nat->D->D}:∀ {ds:List D}{k:Nat},
  (∀i d,ds[i]?=some d->tt (some (.int ((k+i:Nat):Int))::some d::r)=some (p (k+i) d)/\(p (k+i) d=true->te (some (.int ((k+i:Nat):Int))::some d::r)=some (h (k+i) d))) ->
  dg (ir 0 1) tt te (none::none::r) (bL k ds)=some (((ds.zipIdx k).filter fun q=>p q.2 q.1).map fun q=>h q.2 q.1)
 | [],k,_=>rfl
 | d::ds,k,hh=>by
  obtain⟨h1,h2⟩:=hh 0 d rfl
  have ih:=qy (ds:=ds) (k:=k+1) fun i x hx=>by
   have:=hh (i+1) x (by simpa using hx)
   rw[show k+1+i=k+(i+1) by omega]
   exact this
  have hg:ir 0 1 (none::none::r) (.tuple [.int ((k:Nat):Int),d])=some (some (.int ((k:Nat):Int))::some d::r):=by
   simp only[ir,isFree,List.getElem?_cons_zero,List.getElem?_cons_succ,Option.getD_some,Option.isNone_none,and_self,if_true,List.set_cons_zero,List.set_cons_succ]
  rw[bL,dg,hg,List.zipIdx_cons]
  simp only[Nat.add_zero] at h1 h2
  simp only[zA,h1]
  cases hp:p k d with
  | true=>simp[h2 hp,ih,hp]
  | false=>simp[ih,hp]
theorem Dr{cs:List Nat}{fi:Dl.Env->Option (List D)}{tt:Dl.Env->Option Bool}{te:Dl.Env->Option D}{ρ:Dl.Env}{ds:List D}{p:Nat->D->Bool}{h:Nat->D->D}(hfi:fi ρ=some (bL 0 ds))(hl:ds.length<=1000)
  (hh:∀i d,ds[i]?=some d->tt (some (.int ((i:Nat):Int))::some d::cs.map fun j=>(ρ[j]?).getD none)=some (p i d)/\(p i d=true->te (some (.int ((i:Nat):Int))::some d::cs.map fun j=>(ρ[j]?).getD none)=some (h i d))) :
  au 2 cs fi (ir 0 1) tt te ρ=some ((ds.zipIdx.filter fun q=>p q.2 q.1).map fun q=>h q.2 q.1):=by
 have:=qy (tt:=tt) (te:=te) (r:=cs.map fun j=>(ρ[j]?).getD none) (p:=p) (h:=h) (ds:=ds) (k:=0) (by simpa using hh)
 simp only[au,hfi,zA,fS,List.replicate,List.cons_append,List.nil_append,this]
 refine bS ?_
 rw[zD]
 refine yE (List.length_filter_le _ _) ?_
 rw[List.length_zipIdx]
 omega
theorem i6{α:Type}(f:α->Int):∀ {l m:List α},l.Perm m->(l.Pairwise fun a b=>f a<=f b)->(m.Pairwise fun a b=>f a < f b)->l=m
 | l,[],hp,_,_=>hp.eq_nil
 | [],x::m,hp,_,_=>absurd hp.symm.eq_nil (by simp)
 | y::l,x::m,hp,h1,h2=>by
  rw[List.pairwise_cons] at h1 h2
  have e:y=x:=by
   have hx:x∈y::l:=hp.mem_iff.mpr zE
   rcases zR.mp hx with z|hx
   ·exact z.symm
   ·have hy:y∈x::m:=hp.mem_iff.mp zE
    rcases zR.mp hy with z|hy
    ·exact z
    ·have:=h1.1 x hx
     have:=h2.1 y hy
     omega
  subst e
  rw[i6 f ((List.perm_cons y).mp hp) h1.2 h2.2]
theorem qN{α:Type}(z:Nat->Int)(l:List α)(d:α)(f:α->Int)(h:∀i,i < l.length->z i=f (l.getD i d)):(qj z l d).Pairwise fun a b=>f a<=f b:=by
 unfold qj
 split
 ·rename_i hl
  match l,hl with
  | [],_=>exact List.Pairwise.nil
  | [a],_=>exact List.pairwise_singleton _ _
 ·rename_i hl
  obtain⟨hp,hs⟩:=SP.iA (z:=z) (n:=l.length) (by omega)
  rw[List.pairwise_map] at hs ⊢
  refine hs.imp_of_mem fun {i j} hi hj hij=>?_
  have hi':i < l.length:=by have:=hp.mem_iff.mp hi;simpa using this
  have hj':j < l.length:=by have:=hp.mem_iff.mp hj;simpa using this
  rw[<- h i hi',<- h j hj']
  exact hij
noncomputable def ay(W:List Wy)(i:Nat):Wy:=W.getD i (0,0,0)
theorem eh{W:List Wy}{k:Nat}(hk:k < W.length):W[k]=ay W k:=by simp[ay,hk]
theorem jP{W:List Wy}{k:Nat}(hk:k < W.length):W[k]?=some (ay W k):=by rw[zK hk,eh hk]
noncomputable def own(b:Bool)(W:List Wy)(p:Int):List Nat:=(List.range W.length).filter fun i=>decide (aW b (ay W i)=p)
noncomputable def lA(b:Bool)(W:List Wy)(p o:Int):Nat:=W.findIdx fun w=>decide (aW b w=p)&&decide (aY b w=o)
noncomputable def eR(b:Bool)(W:List Wy)(p:Int)(L:List Int):List Nat:=L.map (lA b W p)
theorem ck{b:Bool}{W:List Wy}{p:Int}{i:Nat}:i∈own b W p↔i < W.length/\aW b (ay W i)=p:=by simp[own]
theorem map_range{α β:Type}(d:α)(f:α->β)(l:List α):(List.range l.length).map (fun i=>f (l.getD i d))=l.map f:=by
 apply List.ext_getElem
 ·simp
 ·intro i h1 h2
  have:i < l.length:=by simpa using h2
  simp[this]
theorem wK{α:Type}(d:α)(q:α->Bool):∀ (l:List α),((List.range l.length).filter fun i=>q (l.getD i d)).map (fun i=>l.getD i d)=l.filter q:=by
 intro l
 have e:l=(List.range l.length).map fun i=>l.getD i d:=by
  have:=map_range d (fun x=>x) l
  simp at this
  simpa using this.symm
 conv=>rhs;rw[e]
 rw[List.filter_map]
 rfl
theorem lS(b:Bool)(W:List Wy)(p:Int):(own b W p).map (fun i=>aY b (ay W i))=NL b W p:=by
 unfold own NL ay
 rw[<- wK (0,0,0) (fun w=>decide (aW b w=p)) W,zM]
 rfl
theorem vB{W:List Wy}(h:rH W){i j:Nat}(hi:i < W.length)(hj:j < W.length)(h1:(ay W i).1=(ay W j).1)(h2:(ay W i).2.1=(ay W j).2.1):i=j:=by
 have e:∀k,k < W.length->W[k]?=some (ay W k):=fun k hk=>by simp[ay,hk]
 rcases Nat.lt_trichotomy i j with z|z|z
 ·have:=List.pairwise_iff_getElem.mp h i j hi hj z
  have a:=e i hi
  have b:=e j hj
  rw[zK hi] at a
  rw[zK hj] at b
  rw[Option.some.inj a,Option.some.inj b] at this
  rcases this with z|z<;>omega
 ·exact z
 ·have:=List.pairwise_iff_getElem.mp h j i hj hi z
  have a:=e i hi
  have b:=e j hj
  rw[zK hi] at a
  rw[zK hj] at b
  rw[Option.some.inj a,Option.some.inj b] at this
  rcases this with z|z<;>omega
theorem n5{W:List Wy}(h:rH W){b:Bool}{i j:Nat}(hi:i < W.length)(hj:j < W.length)(h1:aW b (ay W i)=aW b (ay W j))(h2:aY b (ay W i)=aY b (ay W j)):i=j:=by
 cases b
 ·exact vB h hi hj h1 h2
 ·exact vB h hi hj h2 h1
theorem oG{W:List Wy}(h:rH W){b:Bool}{p:Int}{i:Nat}(hi:i∈own b W p):lA b W p (aY b (ay W i))=i:=by
 obtain⟨hl,he⟩:=ck.mp hi
 have hw:W[i]=ay W i:=by simp[ay,hl]
 unfold lA
 have hlt:W.findIdx (fun w=>decide (aW b w=p)&&decide (aY b w=aY b (ay W i))) < W.length:=by
  apply List.findIdx_lt_length_of_exists
  exact⟨W[i],List.getElem_mem _,by rw[hw];simp[he]⟩
 have hq:=List.findIdx_getElem (w:=hlt)
 rw[zF,zJ,zJ] at hq
 rw[eh hlt] at hq
 exact n5 h hlt hl (by rw[hq.1,he]) hq.2
theorem fU{G T:List Pl}{W:List Wy}(h:Wd G T W){b:Bool}{i:Nat}{p:Pl}(e:(az b G T)[i]?=some p):(eR b W i p.2).Perm (own b W i):=by
 have h1:=(h.lik e).map (lA b W i)
 rw[<- lS b W i,zM] at h1
 have e2:(own b W i).map (lA b W i ∘ fun j=>aY b (ay W j))=own b W i:=by
  conv=>rhs;rw[<- List.map_id (own b W i)]
  exact yJ fun j hj=>oG h.wp hj
 rw[e2] at h1
 exact h1
theorem gE{G T:List Pl}{W:List Wy}(h:Wd G T W){b:Bool}{i:Nat}{p:Pl}(e:(az b G T)[i]?=some p){o:Int}(ho:o∈p.2):lA b W i o < W.length/\aW b (ay W (lA b W i o))=i/\aY b (ay W (lA b W i o))=o:=by
 have hm:=(h.lik e).mem_iff.mp ho
 rw[<- lS b W i] at hm
 obtain⟨j,hj,rfl⟩:=zQ.mp hm
 rw[oG h.wp hj]
 obtain⟨h1,h2⟩:=ck.mp hj
 exact⟨h1,h2,rfl⟩
noncomputable def kD(b:Bool)(W:List Wy)(L:List Int)(d:D):Int:=(L.findIdx fun o=>decide (o=aY b (ay W (jB d).toNat)):Nat)
theorem jo:∀ {L:List Int}{x:Int},x∈L->xA x L=some (L.findIdx fun o=>decide (o=x))
 | [],x,h=>by cases h
 | o::L,x,h=>by
  unfold xA
  by_cases e:o=x
  ·simp[e,List.findIdx_cons]
  ·rw[if_neg e]
   have hx:x∈L:=(zR.mp h).resolve_left fun z=>e z.symm
   rw[jo hx]
   simp[List.findIdx_cons,e]
theorem Ic{G T:List Pl}{W:List Wy}(h:Wd G T W){b:Bool}{i:Nat}{p:Pl}(e:(az b G T)[i]?=some p)(z:Nat->Int)(hz:∀j,j < (own b W i).length->z j=kD b W p.2 (((own b W i).map fun n=>PyData.int ((n:Nat):Int)).getD j .none)) :
  qj z ((own b W i).map fun n=>PyData.int ((n:Nat):Int)) .none=(eR b W i p.2).map fun n=>PyData.int ((n:Nat):Int):=by
 refine i6 (kD b W p.2) ((hC _ _ _).trans ((fU h e).symm.map _)) (qN z _ _ _ fun j hj=>hz j (by simpa using hj)) ?_
 have hn:p.2.Nodup:=(h.lik e).nodup_iff.mpr (h.nod b i)
 unfold eR
 rw[zM,List.pairwise_map]
 have key:∀k (hk:k < p.2.length),kD b W p.2 (PyData.int ((lA b W i p.2[k]:Nat):Int))=(k:Nat):=fun k hk=>by
  obtain⟨_,_,e3⟩:=gE h e (List.getElem_mem hk)
  unfold kD
  simp only[jB,yH,e3]
  congr 1
  rw[List.findIdx_eq (by exact hk)]
  refine⟨by simp,fun j hj=>?_⟩
  have:=List.pairwise_iff_getElem.mp hn j k (by omega) hk hj
  simpa using this
 refine List.pairwise_iff_getElem.mpr fun j k hj hk hjk=>?_
 show kD b W p.2 (PyData.int ((lA b W i p.2[j]:Nat):Int)) < kD b W p.2 (PyData.int ((lA b W i p.2[k]:Nat):Int))
 rw[key j hj,key k hk]
 omega
noncomputable abbrev nD(n:Nat):D:=.int ((n:Nat):Int)
theorem oh{te:Dl.Env->Option D}{ρ:Dl.Env}{h:D->D}:∀ {ds:List D},(∀d∈ds,te (ρ.set 0 (some d))=some (h d))->jg te ρ ds=some (ds.map h)
 | [],_=>rfl
 | d::ds,hh=>by
  unfold jg
  rw[hh d zE,zA,oh fun x hx=>hh x (zC _ hx)]
  rfl
theorem pY(b:Bool)(W:List Wy)(p:Int):(own b W p).length<=W.length:=by
 unfold own
 refine yE (List.length_filter_le _ _) ?_
 rw[zS]
 exact Nat.le_refl _
theorem AW(b:Bool)(W:List Wy)(p:Int):(((W.map ar).zipIdx.filter fun q=>decide (aW b (ay W q.2)=p)).map fun q=>nD q.2)=(own b W p).map nD:=by
 have e:(W.map ar).zipIdx=(List.range W.length).map fun i=>(ar (ay W i),i):=by
  apply List.ext_getElem
  ·simp
  ·intro i h1 h2
   have:i < W.length:=by simpa using h2
   simp[eh this]
 rw[e,List.filter_map,zM]
 rfl
theorem oZ{G T:List Pl}{W:List Wy}(h:Wd G T W){b:Bool}{i:Nat}{p:Pl}(e:(az b G T)[i]?=some p):cf [ax G T W,.int (sI b),nD i]=some (.list ((eR b W i p.2).map nD)):=by
 have hw:=h.wl
 have ep:ak (.tuple ((az b G T).map aQ)) (nD i)=some (aQ p):=ig e
 have hl:=pY b W i
 have t3:Dl.aD 3 [0] (f2 ak (ab 0) (fC (.int 2))) [.val (ax G T W),.val (.int (sI b)),.val (nD i),.non,.non,.non]=some (.nx [.val (ax G T W),.val (.int (sI b)),.val (nD i),.val (.tuple (W.map ar)),.non,.non]) :=
  cG (d:=.tuple (W.map ar)) rfl rfl rfl rfl
 have t4:Dl.aD 4 [0,1,2] (f2 ak (f2 ak (f2 ak (ab 0) (ab 1)) (ab 2)) (fC (.int 1))) [.val (ax G T W),.val (.int (sI b)),.val (nD i),.val (.tuple (W.map ar)),.non,.non]=some (.nx [.val (ax G T W),.val (.int (sI b)),.val (nD i),.val (.tuple (W.map ar)),.val (af p.2),.non]):=by
  refine cG (d:=af p.2) ?_ rfl rfl rfl
  rw[kJ (a:=aQ p) (b:=.int 1) ?_ rfl,JZ]
  rw[kJ (a:=.tuple ((az b G T).map aQ)) (b:=nD i) ?_ rfl,ep]
  rw[kJ (a:=ax G T W) (b:=.int (sI b)) rfl rfl,cM]
 have c5:au 2 [1,2] (bN (aa (ab 3) ae)) (ir 0 1) (fB (f2 b9 (f2 ak (ab 1) (ab 2)) (ab 3))) (ab 0) [some (ax G T W),some (.int (sI b)),some (nD i),some (.tuple (W.map ar)),some (af p.2),none]=some ((own b W i).map nD):=by
  rw[Dr (ds:=W.map ar) (p:=fun j _=>decide (aW b (ay W j)=i)) (h:=fun j _=>nD j) rfl (by rw[zD];omega) fun j d hd=>?_,AW]
  rw[zO] at hd
  obtain⟨w,hw',rfl⟩:=Dl.ag hd
  have hj:j < W.length:=(zU.mp hw').1
  rw[jP hj] at hw'
  cases hw'
  refine⟨?_,fun _=>rfl⟩
  show fB (f2 b9 (f2 ak (ab 1) (ab 2)) (ab 3)) [some (nD j),some (ar (ay W j)),some (.int (sI b)),some (nD i)]=_
  simp only[fB]
  rw[kJ (a:=.int (aW b (ay W j))) (b:=nD i) (by rw[kJ (a:=ar (ay W j)) (b:=.int (sI b)) rfl rfl,nU]) rfl,du]
  rfl
 have t5:bh 5 [1,2,3] (au 2 [1,2] (bN (aa (ab 3) ae)) (ir 0 1) (fB (f2 b9 (f2 ak (ab 1) (ab 2)) (ab 3))) (ab 0)) [.val (ax G T W),.val (.int (sI b)),.val (nD i),.val (.tuple (W.map ar)),.val (af p.2),.non]=some (.nx [.val (ax G T W),.val (.int (sI b)),.val (nD i),.val (.tuple (W.map ar)),.val (af p.2),.own ((own b W i).map nD)]):=by
  have hh:hand [1,2,3] 0 [Slot.val (ax G T W),.val (.int (sI b)),.val (nD i),.val (.tuple (W.map ar)),.val (af p.2),.non]=[Slot.val (ax G T W),.val (.int (sI b)),.val (nD i),.val (.tuple (W.map ar)),.val (af p.2),.non]:=rfl
  simp only[bh,hh,cJ,zI,List.map_nil,Slot.frz,c5,zB,List.set_cons_succ,List.set_cons_zero]
 have hk:jg (f2 il (ab 3) (f2 ak (f2 ak (ab 2) (ab 0)) (f2 Dl.eU (fC (.int 1)) (ab 1)))) [none,some (.int (sI b)),some (.tuple (W.map ar)),some (af p.2)] ((own b W i).map nD)=some (((own b W i).map nD).map fun d=>.int (kD b W p.2 d)):=by
  refine oh fun d hd=>?_
  obtain⟨j,hj,rfl⟩:=zQ.mp hd
  obtain⟨hjl,hje⟩:=ck.mp hj
  show f2 il (ab 3) (f2 ak (f2 ak (ab 2) (ab 0)) (f2 Dl.eU (fC (.int 1)) (ab 1))) [some (nD j),some (.int (sI b)),some (.tuple (W.map ar)),some (af p.2)]=_
  have ew:ak (.tuple (W.map ar)) (nD j)=some (ar (ay W j)):=ig (jP hjl)
  rw[kJ (a:=af p.2) (b:=.int (aY b (ay W j))) rfl ?_]
  ·have hm:aY b (ay W j)∈p.2:=(h.lik e).mem_iff.mpr (by rw[<- lS];exact zQ.mpr ⟨j,hj,rfl⟩)
   simp only[il,af,cN,zA,jo hm,zB,kD,jB,yH]
   all_goals first|rfl|(congr 3;funext o;congr)
  ·rw[kJ (a:=ar (ay W j)) (b:=.int (1 - sI b)) ?_ ?_,Ks]
   ·rw[kJ (a:=.tuple (W.map ar)) (b:=nD j) rfl rfl,ew]
   ·rw[kJ (a:=.int 1) (b:=.int (sI b)) rfl rfl,jv]
 have hi:intsOf (((own b W i).map nD).map fun d=>PyData.int (kD b W p.2 d))=some (((own b W i).map nD).map (kD b W p.2)):=by
  rw[show (((own b W i).map nD).map fun d=>PyData.int (kD b W p.2 d))=(((own b W i).map nD).map (kD b W p.2)).map PyData.int by simp only[zM];rfl,cN]
 have t6:aJ (cD (oD [1,3,4] (ab 5) (f2 il (ab 3) (f2 ak (f2 ak (ab 2) (ab 0)) (f2 Dl.eU (fC (.int 1)) (ab 1)))))) [.val (ax G T W),.val (.int (sI b)),.val (nD i),.val (.tuple (W.map ar)),.val (af p.2),.own ((own b W i).map nD)]=some (.rt (.list ((eR b W i p.2).map nD))):=by
  have es:oD [1,3,4] (ab 5) (f2 il (ab 3) (f2 ak (f2 ak (ab 2) (ab 0)) (f2 Dl.eU (fC (.int 1)) (ab 1)))) [some (ax G T W),some (.int (sI b)),some (nD i),some (.tuple (W.map ar)),some (af p.2),some (.list ((own b W i).map nD))]=some ((eR b W i p.2).map nD):=by
   unfold oD
   show (jg _ [none,some (.int (sI b)),some (.tuple (W.map ar)),some (af p.2)] ((own b W i).map nD)).bind _=_
   rw[hk,zA,hi,zA,if_pos (by rw[zD];omega),Ic h e _ fun j hj=>?_]
   simp[hj]
  simp only[aJ,bO,zI,List.map_nil,vm,vn,cD,es,zB]
 refine aC ?_
 show lJ [.val (ax G T W),.val (.int (sI b)),.val (nD i),.non,.non,.non]=_
 unfold lJ
 rw[ai t3,ai t4,ai t5,t6]
local macro_rules|`(tactic| dsimp! [$ts,*])=>`(tactic| simp only[ab,fC,f1,f2,aa,ae,ah,br,mJ,aV,iF,cD,fB,gB,bM,cX,Bg,bN,bO,cJ,vm,vn,Cz,Ck,C7,B6,zI,List.map_nil,List.getElem?_cons_zero,List.getElem?_cons_succ,zA,zB,Option.getD_some,zL,List.length_nil,Nat.reduceAdd,Nat.zero_add,reduceIte,List.set_cons_succ,List.set_cons_zero,$ts,*])
theorem nM{S α:Type}{tgt:aj->D->Option aj}{gb:aj->Option Out}(R:S->aj->Prop)(f:α->D)(st:S->α->S):∀ {l:List α}{s:S}{ρ:aj},
  (∀s ρ x,x∈l->R s ρ->∃ρ1 ρ2,tgt ρ (f x)=some ρ1/\gb ρ1=some (.nx ρ2)/\R (st s x) ρ2)->R s ρ->∃ρ',eF tgt gb (l.map f) ρ=some (.nx ρ')/\R (l.foldl st s) ρ'
 | [],s,ρ,_,h=>⟨ρ,rfl,h⟩
 | d::ds,s,ρ,hh,h=>by
  obtain⟨ρ1,ρ2,e1,e2,h2⟩:=hh s ρ d zE h
  obtain⟨ρ',e3,h3⟩:=nM R f st (fun s ρ x hx=>hh s ρ x (zC _ hx)) h2
  refine⟨ρ',?_,h3⟩
  rw[zI,eF,e1,zA,e2]
  exact e3
theorem mr{α:Type}{tgt:aj->D->Option aj}{gb:aj->Option Out}(R:aj->Prop)(f:α->D)(q:α->Bool)(out:α->D):∀ {l:List α}{ρ:aj},
  (∀ρ x,x∈l->R ρ->∃ρ1,tgt ρ (f x)=some ρ1/\(q x=true->gb ρ1=some (.rt (out x)))/\(q x=false->∃ρ2,gb ρ1=some (.nx ρ2)/\R ρ2))->R ρ ->
  (∀x,l.find? q=some x->eF tgt gb (l.map f) ρ=some (.rt (out x)))/\(l.find? q=none->∃ρ',eF tgt gb (l.map f) ρ=some (.nx ρ')/\R ρ')
 | [],ρ,_,h=>⟨fun x hx=>(by cases hx),fun _=>⟨ρ,rfl,h⟩⟩
 | x::l,ρ,hh,h=>by
  obtain⟨ρ1,e1,e2,e3⟩:=hh ρ x zE h
  rw[zI,eF,e1,zA]
  cases hq:q x with
  | true =>
   rw[List.find?_cons_of_pos (by simpa using hq),e2 hq]
   exact⟨fun y hy=>(by cases hy;rfl),fun hn=>(by cases hn)⟩
  | false =>
   obtain⟨ρ2,e4,h2⟩:=e3 hq
   rw[List.find?_cons_of_neg (by simp[hq]),e4]
   exact mr R f q out (fun ρ x hx=>hh ρ x (zC _ hx)) h2
theorem dX{fz:List Nat}{fi:Dl.Env->Option (List D)}{tgt:aj->D->Option aj}{gb:aj->Option Out}{ρ ρ1:aj}{ds:List D}{o:Option Out}(h:eF tgt gb ds ρ1=o)(hi:fi (cJ ρ1)=some ds)(hh:hand fz 0 ρ=ρ1):eD fz fi tgt gb ρ=o:=by
 simp only[eD,hh,hi,zA,h]
theorem vh{i:Nat}{fz:List Nat}{f:Dl.Env->Option (List D)}{ρ ρ':aj}{ds:List D}(hh:hand fz 0 ρ=ρ')(hf:f (cJ ρ')=some ds):bh i fz f ρ=some (.nx (ρ'.set i (.own ds))):=by
 simp only[bh,hh,hf,zB]
theorem oU{i:Nat}{fz:List Nat}{f:Dl.Env->Option (List D)}{ρ:aj}{ds:List D}(hf:f (cJ ρ)=some ds)(hh:hand fz 0 ρ=ρ):bh i fz f ρ=some (.nx (ρ.set i (.own ds))):=vh hh hf
theorem rg{i:Nat}{fz:List Nat}{f:Dl.Env->Option D}{ρ ρ':aj}(hh:hand fz 0 ρ=ρ'){d:D}(hA:f (bO ρ)=some d)(hF:f (cJ ρ')=some d)(hs:Dl.qY d=false)(hr:l9 d=false\/ρ'=ρ:=by first|exact .inr rfl|exact .inl rfl):Dl.aD i fz f ρ=some (.nx (ρ'.set i (.val d))):=by
 rcases hr with hr|hr
 ·simp only[Dl.aD,hA,zA,hs,Bool.false_eq_true,if_false,hh,hF,zB,hr]
 ·subst hr
  simp only[Dl.aD,hA,zA,hs,Bool.false_eq_true,if_false,hh,hF,zB,ite_self]
theorem call_of{n:Nat}{m:List D->Option D}{fs:Dl.Env->Option (List D)}{ρ:Dl.Env}{ds:List D}{d:D}(h:m ds=some d)(hf:fs ρ=some ds)(hn:ds.length=n):ah n m fs ρ=some d:=by
 unfold ah
 rw[hf,zA,if_pos hn,h]
theorem cons_of{f:Dl.Env->Option D}{fs:Dl.Env->Option (List D)}{ρ:Dl.Env}{d:D}{ds:List D}(h:f ρ=some d)(hs:fs ρ=some ds):aa f fs ρ=some (d::ds):=by
 unfold aa
 rw[h,hs]
 rfl
theorem aH{f:Dl.Env->Option D}{ρ:aj}{d:D}(hf:f (bO ρ)=some d):aJ f ρ=some (.rt d):=by
 simp only[aJ,hf,zB]
theorem bw{f:Dl.Env->Option D}{ρ:aj}{d:D}(hf:f (bO ρ)=some d):dq f ρ=some (.nx ρ):=by
 simp only[dq,hf,zB]
theorem cA{t:Dl.Env->Option Bool}{g:aj->Option Out}{ρ:aj}(h:t (bO ρ)=some false):gy t g gq ρ=some (.nx ρ):=by
 simp[gy,h,gq]
theorem ku{t:Dl.Env->Option Bool}{g g2:aj->Option Out}{ρ:aj}(h:t (bO ρ)=some true):gy t g g2 ρ=g ρ:=by
 simp[gy,h]
theorem mq{g1 g2:aj->Option Out}{ρ:aj}{d:D}(h:g1 ρ=some (.rt d)):av g1 g2 ρ=some (.rt d):=by
 simp only[av,h,zA]
theorem Eh{i:Nat}{fz:List Nat}{fk f:Dl.Env->Option D}{ρ:aj}{d:D}{k:Nat}{ds:List D}(hf:f (bO ρ)=some d)(hs:Dl.qY d=true)(hk:fk (bO ρ)=some (nD k))(ho:ρ[i]?=some (.own ds))(hl:k < ds.length):A3 i fz fk f ρ=some (.nx (ρ.set i (.own (ds.set k d)))):=by
 have hx:Ik ds.length ((k:Nat):Int)=some k:=by
  unfold Ik
  rw[if_pos (Int.natCast_nonneg k),if_pos (by omega)]
  simp
 simp only[A3,ma,hf,zA,hs,if_true,hk,o3,ho,hx,zB]
noncomputable def lp{S:Type}(cont:S->Bool)(st:S->S):Nat->S->S
 | 0,s=>s
 | n+1,s=>if cont s=true then lp cont st n (st s) else s
theorem yO{S:Type}{t:Dl.Env->Option Bool}{gb:aj->Option Out}(R:S->aj->Prop)(cont:S->Bool)(st:S->S)(μ:S->Nat)
  (ht:∀s ρ,R s ρ->t (bO ρ)=some (cont s)) (hb:∀s ρ,R s ρ->cont s=true->∃ρ',gb ρ=some (.nx ρ')/\R (st s) ρ'/\μ (st s) < μ s) :
  ∀ (n:Nat) (s:S) (ρ:aj),μ s < n->R s ρ->∃ρ',Ku t gb n ρ=some (.nx ρ')/\R (lp cont st n s) ρ'/\cont (lp cont st n s)=false
 | 0,s,ρ,h,_=>absurd h (by omega)
 | n+1,s,ρ,h,r=>by
  rw[Ku,ht s ρ r,zA,lp]
  cases hc:cont s with
  | false=>exact⟨ρ,by simp,by simpa [hc] using r,by simpa [hc] using hc⟩
  | true =>
   obtain⟨ρ',e,r',hm⟩:=hb s ρ r hc
   obtain⟨ρ2,e2,r2,c2⟩:=yO R cont st μ ht hb n (st s) ρ' (by omega) r'
   refine⟨ρ2,?_,by simpa [hc] using r2,by simpa [hc] using c2⟩
   simp only[if_true,e,zA]
   exact e2
theorem mN{off:List Int}{i:Nat}(h:i < off.length):ak (af off) (nD i)=some (.int (off.getD i 0)):=ig (f:=PyData.int) (l:=off) (by simp[h])
theorem Lu{off:List Int}{i:Nat}(h:i < off.length):ak (.list (off.map PyData.int)) (nD i)=some (.int (off.getD i 0)):=JF (f:=PyData.int) (l:=off) (by simp[h])
theorem j8{W:List Wy}{i:Nat}(h:i < W.length):ak (.tuple (W.map ar)) (nD i)=some (ar (ay W i)):=ig (jP h)
theorem PU(a b c:Int):zj [.int a,.int b,.int c]=some (.int (min (min a b) c)):=rfl
theorem Kb(l:List Int)(k:Nat)(v:Int):(l.map PyData.int).set k (.int v)=(l.set k v).map PyData.int:=by rw[List.map_set]
theorem Jp(l:List Int):aZ [.list (l.map PyData.int)]=some (af l):=rfl
theorem qE(l:List D):aZ [.list l]=some (.tuple l):=rfl
theorem CQ(l:List D):bR [.tuple l]=some (nD l.length):=rfl
theorem IT(l:List Int):bR [af l]=some (nD l.length):=by
 show some (PyData.int ((l.map PyData.int).length:Nat))=_
 rw[zD]
theorem DY{n:Nat}(h:n<=1000):kR [nD n]=some ((List.range n).map nD):=by
 rw[zi (CJ h),yH]
theorem rF{fs:Dl.Env->Option (List D)}{ρ:Dl.Env}{n:Nat}(h:fs ρ=some [nD n])(hn:n<=1000):bC fs ρ=some ((List.range n).map nD):=by
 unfold bC
 rw[h,zA,DY hn]
theorem sub_int(i j:Int):Dl.eU (.int i) (.int j)=some (.int (i - j)):=jv i j
theorem zeros{fi:Dl.Env->Option (List D)}{ρ:Dl.Env}{ds:List D}(hfi:fi ρ=some ds)(hl:ds.length<=1000):au 1 [] fi (fG 0) (fun _=>some true) (fC (.int 0)) ρ=some ((List.replicate ds.length (0:Int)).map PyData.int):=by
 rw[cF (h:=fun _=>.int 0) hfi (by omega) fun d hd=>rfl]
 simp[List.map_const']
theorem uI{r:List (Option D)}:∀ (a b:List Int),dg (ir 0 1) (fun _=>some true) (f2 aG (ab 0) (ab 1)) (none::none::r) (kh (a.map PyData.int) (b.map PyData.int))=some ((List.zipWith (·+·) a b).map PyData.int)
 | [],b=>by cases b<;>rfl
 | x::a,[]=>rfl
 | x::a,y::b=>by
  have ih:=uI (r:=r) a b
  have hg:ir 0 1 (none::none::r) (.tuple [.int x,.int y])=some (some (.int x)::some (.int y)::r):=by
   simp only[ir,isFree,List.getElem?_cons_zero,List.getElem?_cons_succ,Option.getD_some,Option.isNone_none,and_self,if_true,List.set_cons_zero,List.set_cons_succ]
  rw[zI,zI,kh,dg,hg,zA]
  dsimp! [cH,ih,List.zipWith_cons_cons]
theorem Ft{fi:Dl.Env->Option (List D)}{ρ:Dl.Env}{a b:List Int}(hfi:fi ρ=some (kh (a.map PyData.int) (b.map PyData.int)))(hl:a.length<=1000) :
  au 2 [] fi (ir 0 1) (fun _=>some true) (f2 aG (ab 0) (ab 1)) ρ=some ((List.zipWith (·+·) a b).map PyData.int):=by
 have:=uI (r:=[]) a b
 simp only[au,hfi,zA,fS,List.replicate,List.map_nil,List.append_nil,this]
 refine bS ?_
 rw[zD,List.length_zipWith]
 omega
noncomputable def cV(W:List Wy)(off:List Int)(left:Int)(i:Nat):Int:=min (min (off.getD i 0) (ay W i).2.2) left
noncomputable def mV(W:List Wy)(off:List Int)(s:Int×List Int)(i:Nat):Int×List Int:=(s.1 - cV W off s.1 i,s.2.set i (cV W off s.1 i))
noncomputable def n9(W:List Wy)(off:List Int)(amt:Int)(is:List Nat):List Int:=(is.foldl (mV W off) (amt,List.replicate W.length 0)).2
theorem B7(W:List Wy)(off:List Int):∀ (is:List Nat) (s:Int×List Int),(is.foldl (mV W off) s).2.length=s.2.length
 | [],s=>rfl
 | i::is,s=>by rw[yK,B7 W off is];simp[mV]
theorem p7(W:List Wy)(off:List Int)(amt:Int)(is:List Nat):(n9 W off amt is).length=W.length:=by rw[n9,B7];simp
theorem OC{G T:List Pl}{W:List Wy}{b:Bool}{i:Nat}{p:Pl}(e:(az b G T)[i]?=some p):ak (.tuple ((az b G T).map aQ)) (nD i)=some (aQ p):=ig e
theorem LN{G T:List Pl}{W:List Wy}{off:List Int}{d1 d2:D}{s:Int×List Int}{i:Nat}(hi:i < W.length)(ho:off.length=W.length)(hs:s.2.length=W.length) :
  (av (A3 4 [0,3,5,6] (ab 6) (br zj (aa (f2 ak (ab 3) (ab 6)) (aa (f2 ak (f2 ak (f2 ak (ab 0) (fC (.int 2))) (ab 6)) (fC (.int 2))) (aa (ab 5) ae))))) (Dl.aD 5 [4,5,6] (f2 Dl.eU (ab 5) (f2 ak (ab 4) (ab 6))))) [.val (ax G T W),.val d1,.val d2,.val (af off),.own (s.2.map PyData.int),.val (.int s.1),.val (nD i)]=some (.nx [.val (ax G T W),.val d1,.val d2,.val (af off),.own ((mV W off s i).2.map PyData.int),.val (.int (mV W off s i).1),.val (nD i)]):=by
 have hv:(br zj (aa (f2 ak (ab 3) (ab 6)) (aa (f2 ak (f2 ak (f2 ak (ab 0) (fC (.int 2))) (ab 6)) (fC (.int 2))) (aa (ab 5) ae)))) (bO [.val (ax G T W),.val d1,.val d2,.val (af off),.own (s.2.map PyData.int),.val (.int s.1),.val (nD i)])=some (.int (cV W off s.1 i)):=by
  dsimp! [mN (show i < off.length by omega),eI,j8 hi,CZ,PU,cV]
 have t1:=Eh (i:=4) (fz:=[0,3,5,6]) (fk:=ab 6) (k:=i) (ds:=s.2.map PyData.int) hv rfl rfl rfl (by rw[zD];omega)
 rw[Kb] at t1
 rw[ai t1]
 have hl:i < (s.2.set i (cV W off s.1 i)).length:=by rw[yD];omega
 have hg:(s.2.set i (cV W off s.1 i)).getD i 0=cV W off s.1 i:=by
  have:i < s.2.length:=by omega
  simp[this]
 have hv2:(f2 Dl.eU (ab 5) (f2 ak (ab 4) (ab 6))) (bO ([.val (ax G T W),.val d1,.val d2,.val (af off),.own (s.2.map PyData.int),.val (.int s.1),.val (nD i)].set 4 (.own ((s.2.set i (cV W off s.1 i)).map PyData.int))))=some (.int (mV W off s i).1):=by
  dsimp! [Lu hl,sub_int,hg,mV]
 rw[eX hv2 rfl]
 rfl
theorem kZ{G T:List Pl}{W:List Wy}{off:List Int}(h:Wd G T W)(ho:off.length=W.length){b:Bool}{i:Nat}{p:Pl}(e:(az b G T)[i]?=some p) :
  bY [ax G T W,.int (sI b),nD i,af off]=some (af (n9 W off p.1 (eR b W i p.2))):=by
 have hw:W.length<=16:=h.wl
 have t4:bh 4 [0] (au 1 [] (aV (f2 ak (ab 0) (fC (.int 2)))) (fG 0) (fun _=>some true) (fC (.int 0))) [.val (ax G T W),.val (.int (sI b)),.val (nD i),.val (af off),.non,.non,.non]=some (.nx [.val (ax G T W),.val (.int (sI b)),.val (nD i),.val (af off),.own ((List.replicate W.length (0:Int)).map PyData.int),.non,.non]):=by
  have z:=zeros (fi:=aV (f2 ak (ab 0) (fC (.int 2)))) (ρ:=cJ [.val (ax G T W),.val (.int (sI b)),.val (nD i),.val (af off),.non,.non,.non]) (ds:=W.map ar) rfl (by rw[zD];omega)
  rw[zD] at z
  exact vh rfl z
 have t5:Dl.aD 5 [0,1,2] (f2 ak (f2 ak (f2 ak (ab 0) (ab 1)) (ab 2)) (fC (.int 0))) [.val (ax G T W),.val (.int (sI b)),.val (nD i),.val (af off),.own ((List.replicate W.length (0:Int)).map PyData.int),.non,.non]=some (.nx [.val (ax G T W),.val (.int (sI b)),.val (nD i),.val (af off),.own ((List.replicate W.length (0:Int)).map PyData.int),.val (.int p.1),.non]) :=
  eX (d:=.int p.1) (by dsimp! [cM,OC (W:=W) e,JQ]) rfl
 obtain⟨ρ',e3,hs',x,rfl⟩:=nM (tgt:=vI 6) (gb:=(av (A3 4 [0,3,5,6] (ab 6) (br zj (aa (f2 ak (ab 3) (ab 6)) (aa (f2 ak (f2 ak (f2 ak (ab 0) (fC (.int 2))) (ab 6)) (fC (.int 2))) (aa (ab 5) ae))))) (Dl.aD 5 [4,5,6] (f2 Dl.eU (ab 5) (f2 ak (ab 4) (ab 6)))))) (R:=fun s ρ=>s.2.length=W.length/\∃x,ρ=[.val (ax G T W),.val (.int (sI b)),.val (nD i),.val (af off),.own (s.2.map PyData.int),.val (.int s.1),x]) nD (mV W off)
  (l:=eR b W i p.2) (s:=(p.1,List.replicate W.length (0:Int))) (ρ:=[.val (ax G T W),.val (.int (sI b)),.val (nD i),.val (af off),.own ((List.replicate W.length (0:Int)).map PyData.int),.val (.int p.1),.non])
  (fun s ρ j hj ⟨hs,x,hρ⟩=>by
   subst hρ
   obtain⟨hjl,_⟩:=ck.mp ((fU h e).mem_iff.mp hj)
   refine⟨_,_,rfl,LN hjl ho hs,?_,.val (nD j),rfl⟩
   simp[mV,hs]) ⟨by simp,_,rfl⟩
 refine aC ?_
 show iy [.val (ax G T W),.val (.int (sI b)),.val (nD i),.val (af off),.non,.non,.non]=_
 unfold iy
 rw[ai t4,ai t5,ai (dX e3 (by dsimp! [oZ h e]) rfl)]
 exact aH rfl
noncomputable def aR(b:Bool)(G T:List Pl)(i:Nat):Pl:=(az b G T).getD i (0,[])
noncomputable def xR(b:Bool)(G T:List Pl)(W:List Wy)(off s:List Int)(i:Nat):List Int:=List.zipWith (·+·) s (n9 W off (aR b G T i).1 (eR b W i (aR b G T i).2))
noncomputable def bI(b:Bool)(G T:List Pl)(W:List Wy)(off:List Int):List Int:=(List.range (az b G T).length).foldl (xR b G T W off) (List.replicate W.length 0)
theorem bV{b:Bool}{G T:List Pl}{i:Nat}(h:i < (az b G T).length):(az b G T)[i]?=some (aR b G T i):=by simp[aR,h]
theorem p5{b:Bool}{G T:List Pl}{W:List Wy}{off s:List Int}{i:Nat}(h:s.length=W.length):(xR b G T W off s i).length=W.length:=by
 unfold xR
 rw[List.length_zipWith,p7,h,Nat.min_self]
theorem lP{S α:Type}{f:S->α->S}(R:S->Prop):∀ {l:List α}{s:S},(∀s x,x∈l->R s->R (f s x))->R s->R (l.foldl f s)
 | [],s,_,h=>h
 | x::l,s,hh,h=>by
  rw[yK]
  exact lP (l:=l) R (fun s y hy=>hh s y (zC _ hy)) (hh s x zE h)
theorem jT(b:Bool)(G T:List Pl)(W:List Wy)(off:List Int):(bI b G T W off).length=W.length :=
 lP (fun s:List Int=>s.length=W.length) (fun s i _ h=>p5 h) (by simp)
theorem Wd.pl{G T:List Pl}{W:List Wy}(h:Wd G T W)(b:Bool):(az b G T).length<=4:=by
 cases b
 ·exact h.g4
 ·exact h.t4
noncomputable def Q9:aj->Option Out:=(av (Dl.aD 5 [0,1,2,4] (ah 4 bY (aa (ab 0) (aa (ab 1) (aa (ab 4) (aa (ab 2) ae)))))) (bh 3 [3,5] (au 2 [] (gP (aa (ab 3) (aa (ab 5) ae))) (ir 0 1) (fun _=>some true) (f2 aG (ab 0) (ab 1)))))
theorem f9{G T:List Pl}{W:List Wy}{off:List Int}(h:Wd G T W)(ho:off.length=W.length)(b:Bool) :
  bq [ax G T W,.int (sI b),af off]=some (af (bI b G T W off)):=by
 have hw:W.length<=16:=h.wl
 have hp:=h.pl b
 have t3:bh 3 [0] (au 1 [] (aV (f2 ak (ab 0) (fC (.int 2)))) (fG 0) (fun _=>some true) (fC (.int 0))) [.val (ax G T W),.val (.int (sI b)),.val (af off),.non,.non,.non]=some (.nx [.val (ax G T W),.val (.int (sI b)),.val (af off),.own ((List.replicate W.length (0:Int)).map PyData.int),.non,.non]):=by
  have z:=zeros (fi:=aV (f2 ak (ab 0) (fC (.int 2)))) (ρ:=cJ [.val (ax G T W),.val (.int (sI b)),.val (af off),.non,.non,.non]) (ds:=W.map ar) rfl (by rw[zD];omega)
  rw[zD] at z
  exact oU z rfl
 obtain⟨ρ',e3,hs',x,y,rfl⟩:=nM (tgt:=vI 4) (gb:=Q9) (R:=fun s ρ=>s.length=W.length/\∃x y,ρ=[.val (ax G T W),.val (.int (sI b)),.val (af off),.own (s.map PyData.int),x,y]) nD (xR b G T W off)
  (l:=List.range (az b G T).length) (s:=List.replicate W.length (0:Int)) (ρ:=[.val (ax G T W),.val (.int (sI b)),.val (af off),.own ((List.replicate W.length (0:Int)).map PyData.int),.non,.non])
  (fun s ρ i hi ⟨hs,x,y,hρ⟩=>by
   subst hρ
   have ei:=bV (zT.mp hi)
   have t1:Dl.aD 5 [0,1,2,4] (ah 4 bY (aa (ab 0) (aa (ab 1) (aa (ab 4) (aa (ab 2) ae))))) [.val (ax G T W),.val (.int (sI b)),.val (af off),.own (s.map PyData.int),.val (nD i),y]=some (.nx [.val (ax G T W),.val (.int (sI b)),.val (af off),.own (s.map PyData.int),.val (nD i),.val (af (n9 W off (aR b G T i).1 (eR b W i (aR b G T i).2)))]):=by
    refine rg (ρ':=[.val (ax G T W),.val (.int (sI b)),.val (af off),.own (s.map PyData.int),.val (nD i),y]) rfl (d:=af (n9 W off (aR b G T i).1 (eR b W i (aR b G T i).2))) ?_ ?_ rfl
    ·dsimp! [kZ h ho ei]
    ·dsimp! [kZ h ho ei]
   have t2:bh 3 [3,5] (au 2 [] (gP (aa (ab 3) (aa (ab 5) ae))) (ir 0 1) (fun _=>some true) (f2 aG (ab 0) (ab 1))) [.val (ax G T W),.val (.int (sI b)),.val (af off),.own (s.map PyData.int),.val (nD i),.val (af (n9 W off (aR b G T i).1 (eR b W i (aR b G T i).2)))]=some (.nx [.val (ax G T W),.val (.int (sI b)),.val (af off),.own ((xR b G T W off s i).map PyData.int),.val (nD i),.val (af (n9 W off (aR b G T i).1 (eR b W i (aR b G T i).2)))]):=by
    refine vh (ρ':=[.val (ax G T W),.val (.int (sI b)),.val (af off),.val (.list (s.map PyData.int)),.val (nD i),.val (af (n9 W off (aR b G T i).1 (eR b W i (aR b G T i).2)))]) rfl (ds:=(xR b G T W off s i).map PyData.int) ?_
    exact Ft (a:=s) (b:=n9 W off (aR b G T i).1 (eR b W i (aR b G T i).2)) rfl (by omega)
   exact⟨_,_,rfl,(ai t1).trans t2,p5 hs,_,_,rfl⟩) ⟨by simp,_,_,rfl⟩
 refine aC ?_
 show dW [.val (ax G T W),.val (.int (sI b)),.val (af off),.non,.non,.non]=_
 unfold dW
 rw[ai t3]
 refine (ai (dX e3 (rF (by dsimp! [cM,CQ,zD]) (by omega)) rfl)).trans ?_
 exact aH rfl
theorem gK{xs ys:List D}(h:(xs++ys).length<=4000):Dl.aG (.tuple xs) (.tuple ys)=some (.tuple (xs++ys)):=by
 simp only[Dl.aG,xl,Iv,bS h,zB,Option.none_or,Option.some_or]
theorem Ga{f:Dl.Env->Option D}{ρ:Dl.Env}{d:D}(h:f ρ=some d):aP (aa f ae) ρ=some (.tuple [d]):=by
 simp only[aP,aa,ae,h,zA,zB]
 rw[bS (by simp),zB]
theorem Ms{f g:Dl.Env->Option D}{ρ:Dl.Env}{d e:D}(h:f ρ=some d)(h2:g ρ=some e):aP (aa f (aa g ae)) ρ=some (.tuple [d,e]):=by
 simp only[aP,aa,ae,h,h2,zA,zB]
 rw[bS (by simp),zB]
theorem aq{g:D->D->Option D}{fa fb:Dl.Env->Option D}{ρ:Dl.Env}{a b c:D}(h:g a b=some c)(ha:fa ρ=some a)(hb:fb ρ=some b):f2 g fa fb ρ=some c:=by rw[kJ ha hb,h]
theorem wu{f g:Dl.Env->Option D}{ρ:Dl.Env}{ds:List D}{k:Nat}(h:f ρ=some (.tuple ds))(h2:g ρ=some (nD k)):gT dz f gO (qH g) ρ=some (.tuple (ds.take k)):=by
 simp only[gT,h,gO,qH,h2,zA,gI,zB,dz,Hr]
theorem wc{f g:Dl.Env->Option D}{ρ:Dl.Env}{ds:List D}{k:Nat}(h:f ρ=some (.tuple ds))(h2:g ρ=some (nD k)):gT dz f (qH g) gO ρ=some (.tuple (ds.drop k)):=by
 simp only[gT,h,gO,qH,h2,zA,gI,zB,dz,yP]
theorem NZ(d:D)(ds:List D):ak (.tuple (d::ds)) (.int 0)=some d:=rM (i:=0) rfl
theorem NX(c d:D)(ds:List D):ak (.tuple (c::d::ds)) (.int 1)=some d:=rM (i:=1) rfl
theorem CP(c:List Int)(i:Nat)(v:Int)(h:i < c.length):((c.map PyData.int).take i++[PyData.int v])++(c.map PyData.int).drop (i+1)=(c.set i v).map PyData.int:=by
 rw[List.set_eq_take_append_cons_drop,if_pos h]
 simp
theorem QN(i:Nat):Dl.aG (nD i) (.int 1)=some (nD (i+1)):=by
 rw[cH]
 rfl
theorem BE{c:List Int}{i:Nat}{v:Int}(h:i < c.length)(hl:c.length<=1000):bU [af c,nD i,.int v]=some (af (c.set i v)):=by
 refine aC ?_
 show gU [.val (af c),.val (nD i),.val (.int v)]=_
 refine aH ?_
 refine aq (a:=.tuple ((c.map PyData.int).take i++[PyData.int v])) (b:=.tuple ((c.map PyData.int).drop (i+1))) ?_ (aq (a:=.tuple ((c.map PyData.int).take i)) (b:=.tuple [.int v]) (gK ?_) (wu rfl rfl) (Ga rfl)) (wc rfl (aq (QN i) rfl rfl))
 ·rw[gK,CP c i v h]
  ·rfl
  ·rw[CP c i v h];simp;omega
 ·simp;omega
theorem uB{c:List Int}{i:Nat}{v:Int}(h:i < c.length)(hl:c.length<=1000):cE [af c,nD i,.int v]=some (af (c.set i v)):=by
 refine aC ?_
 show oC [.val (af c),.val (nD i),.val (.int v)]=_
 exact aH (call_of (BE h hl) rfl rfl)
noncomputable def eE(W:List Wy):List Int:=W.map fun w=>w.2.2
theorem GF{G T:List Pl}{W:List Wy}(h:Wd G T W){f:Dl.Env->Option D}{ρ:Dl.Env}(hf:f ρ=some (ax G T W)):(br aZ (aa (cD (au 1 [] (aV (f2 ak f (fC (.int 2)))) (fG 0) (fun _=>some true) (f2 ak (ab 0) (fC (.int 2))))) ae)) ρ=some (af (eE W)):=by
 have hw:=h.wl
 have hs:(aV (f2 ak f (fC (.int 2)))) ρ=some (W.map ar):=by
  unfold aV
  rw[aq (eI G T W) hf rfl]
  rfl
 have e:au 1 [] (aV (f2 ak f (fC (.int 2)))) (fG 0) (fun _=>some true) (f2 ak (ab 0) (fC (.int 2))) ρ=some ((eE W).map PyData.int):=by
  rw[cF (h:=fun d=>.int (jB ((di d).getD 2 .none))) hs (by rw[zD];omega) fun d hd=>?_]
  ·rw[eE,zM,zM]
   rfl
  ·obtain⟨w,hw',rfl⟩:=zQ.mp hd
   rfl
 simp only[br,aa,ae,cD,e,zB,zA,Jp]
theorem nR{G T:List Pl}{W:List Wy}(h:Wd G T W):fW [ax G T W]=some (af (eE W)):=by
 refine aC ?_
 show sk [.val (ax G T W)]=_
 exact aH (GF h rfl)
theorem nN(W:List Wy):(eE W).length=W.length:=by simp[eE]
noncomputable def kC(G T:List Pl)(W:List Wy)(c:List Int):List Int:=bI true G T W (bI false G T W c)
noncomputable def qR(G T:List Pl)(W:List Wy)(c:List Int)(k:Nat):Bool:=decide ((kC G T W c).getD k 0 < (bI false G T W c).getD k 0)
noncomputable def sr(G T:List Pl)(W:List Wy)(c:List Int):Option (Nat×Int):=((List.range W.length).find? (qR G T W c)).map fun k=>(k,(kC G T W c).getD k 0)
noncomputable def Ba:Option (Nat×Int)->D
 | none=>.none
 | some p=>.tuple [nD p.1,.int p.2]
theorem enum_zip:∀ (ds:List D) (k:Nat),bL k ds=(ds.zipIdx k).map fun q=>.tuple [nD q.2,q.1]
 | [],k=>rfl
 | d::ds,k=>by rw[bL,enum_zip ds (k+1),List.zipIdx_cons];rfl
theorem El(l:List Int):bL 0 (l.map PyData.int)=(List.range l.length).map fun k=>.tuple [nD k,.int (l.getD k 0)]:=by
 rw[enum_zip]
 apply List.ext_getElem
 ·simp
 ·intro i h1 h2
  have:i < l.length:=by simpa using h2
  simp[this]
theorem ND(G T:List Pl)(W:List Wy)(c:List Int):(kC G T W c).length=W.length:=jT _ _ _ _ _
noncomputable def Qa:aj->Option Out:=(gy (fB (f2 uQ (ab 5) (f2 ak (ab 2) (ab 4)))) (aJ (aP (aa (ab 4) (aa (ab 5) ae)))) gq)
theorem lL{G T:List Pl}{W:List Wy}{c:List Int}(h:Wd G T W)(ho:c.length=W.length):eu [ax G T W,af c]=some (Ba (sr G T W c)):=by
 have hw:W.length<=16:=h.wl
 have t2:Dl.aD 2 [0,1] (ah 3 bq (aa (ab 0) (aa (fC (.int 0)) (aa (ab 1) ae)))) [.val (ax G T W),.val (af c),.non,.non,.non,.non]=some (.nx [.val (ax G T W),.val (af c),.val (af (bI false G T W c)),.non,.non,.non]) :=
  cG (call_of (f9 h ho false) rfl rfl) rfl rfl rfl
 have t3:Dl.aD 3 [0,2] (ah 3 bq (aa (ab 0) (aa (fC (.int 1)) (aa (ab 2) ae)))) [.val (ax G T W),.val (af c),.val (af (bI false G T W c)),.non,.non,.non]=some (.nx [.val (ax G T W),.val (af c),.val (af (bI false G T W c)),.val (af (kC G T W c)),.non,.non]) :=
  cG (call_of (f9 h (jT _ _ _ _ _) true) rfl rfl) rfl rfl rfl
 have hl:=mr (tgt:=ie 4 5) (gb:=Qa) (R:=fun ρ=>∃x y,ρ=[.val (ax G T W),.val (af c),.val (af (bI false G T W c)),.val (af (kC G T W c)),x,y]) (fun k=>.tuple [nD k,.int ((kC G T W c).getD k 0)]) (qR G T W c) (fun k=>.tuple [nD k,.int ((kC G T W c).getD k 0)])
  (l:=List.range W.length) (ρ:=[.val (ax G T W),.val (af c),.val (af (bI false G T W c)),.val (af (kC G T W c)),.non,.non])
  (fun ρ k hk ⟨x,y,hρ⟩=>by
   subst hρ
   have hk':k < (bI false G T W c).length:=by rw[jT];exact zT.mp hk
   have hc:(fB (f2 uQ (ab 5) (f2 ak (ab 2) (ab 4)))) (bO [.val (ax G T W),.val (af c),.val (af (bI false G T W c)),.val (af (kC G T W c)),.val (nD k),.val (.int ((kC G T W c).getD k 0))])=some (qR G T W c k):=by
    dsimp! [mN hk',gJ,qR]
   refine⟨[.val (ax G T W),.val (af c),.val (af (bI false G T W c)),.val (af (kC G T W c)),.val (nD k),.val (.int ((kC G T W c).getD k 0))],rfl,fun hq=>?_,fun hq=>?_⟩
   ·rw[hq] at hc
    unfold Qa
    rw[ku hc]
    exact aH (Ms rfl rfl)
   ·rw[hq] at hc
    unfold Qa
    rw[cA hc]
    exact⟨_,rfl,_,_,rfl⟩) ⟨_,_,rfl⟩
 have hi:(bN (aa (ab 3) ae)) (cJ [.val (ax G T W),.val (af c),.val (af (bI false G T W c)),.val (af (kC G T W c)),.non,.non])=some ((List.range W.length).map fun k=>.tuple [nD k,.int ((kC G T W c).getD k 0)]):=by
  have:=El (kC G T W c)
  rw[ND] at this
  rw[<- this]
  rfl
 refine aC ?_
 show lY [.val (ax G T W),.val (af c),.non,.non,.non,.non]=_
 unfold lY
 rw[ai t2,ai t3]
 unfold sr
 cases hq:(List.range W.length).find? (qR G T W c) with
 | some k =>
  exact mq (dX (hl.1 k hq) hi rfl)
 | none =>
  obtain⟨ρ',e,x,y,rfl⟩:=hl.2 hq
  exact (ai (dX e hi rfl)).trans (aH rfl)
theorem cT(l:List Int)(k:Nat)(v:Int)(i:Nat):(l.set k v).getD i 0=if k=i/\i < l.length then v else l.getD i 0:=by
 simp only[zG,List.getElem?_set]
 by_cases h:k=i
 ·subst h
  by_cases h2:k < l.length
  ·simp[h2]
  ·simp[h2]
 ·simp[h]
theorem ye{a b:List Int}{i:Nat}(ha:i < a.length)(hb:i < b.length):(List.zipWith (·+·) a b).getD i 0=a.getD i 0+b.getD i 0:=by
 rw[zG,zG,zG,List.getElem?_zipWith,zK ha,zK hb]
 rfl
def Off(off:List Int):Prop:=∀i,0<=off.getD i 0
def Pz(W:List Wy):Prop:=∀i,0<=(ay W i).2.2
theorem Wd.lim{G T:List Pl}{W:List Wy}(h:Wd G T W):Pz W:=fun i=>by
 by_cases hi:i < W.length
 ·have:=h.wr (ay W i) (by rw[<- eh hi];exact List.getElem_mem hi)
  omega
 ·simp only[ay,zG]
  rw[List.getElem?_eq_none (by omega)]
  simp
theorem Wd.amt{G T:List Pl}{W:List Wy}(h:Wd G T W)(b:Bool)(i:Nat):0<=(aR b G T i).1:=by
 unfold aR
 rw[zG]
 cases e:(az b G T)[i]? with
 | none=>simp
 | some p =>
  have hm:=List.mem_of_getElem? e
  cases b
  ·exact (h.ga p hm).1
  ·exact (h.ta p hm).1
theorem MV{W:List Wy}{off:List Int}(ho:Off off)(hl:Pz W){amt:Int}(ha:0<=amt)(is:List Nat)(i:Nat):0<=(n9 W off amt is).getD i 0/\(n9 W off amt is).getD i 0<=off.getD i 0:=by
 have:=lP (l:=is) (f:=mV W off) (s:=(amt,List.replicate W.length 0)) (fun s=>0<=s.1/\∀i,0<=s.2.getD i 0/\s.2.getD i 0<=off.getD i 0) (fun s k _ ⟨h1,h2⟩=>by
  have ok:=ho k
  have lk:=hl k
  have v0:0<=cV W off s.1 k:=by unfold cV;omega
  have v1:cV W off s.1 k<=off.getD k 0:=by unfold cV;omega
  have v2:cV W off s.1 k<=s.1:=by unfold cV;omega
  refine⟨by simp only[mV];omega,fun i=>?_⟩
  simp only[mV,cT]
  split
  ·rename_i z
   rw[<- z.1]
   exact⟨v0,v1⟩
  ·exact h2 i) ⟨ha,fun i=>by
   have:=ho i
   have z:(List.replicate W.length (0:Int)).getD i 0=0:=by
    simp only[zG,List.getElem?_replicate]
    split<;>rfl
   simp only[z]
   omega⟩
 exact this.2 i
theorem C4{W:List Wy}{off:List Int}{amt:Int}{is:List Nat}{i:Nat}(hi:i∉is):(n9 W off amt is).getD i 0=0:=by
 refine lP (l:=is) (f:=mV W off) (s:=(amt,List.replicate W.length 0)) (fun s=>s.2.getD i 0=0) (fun s k hk h=>?_) ?_
 ·simp only[mV,cT]
  have hki:¬ (k=i/\i < s.2.length):=fun z=>hi (z.1 ▸ hk)
  rw[if_neg hki,h]
 ·simp only[zG,List.getElem?_replicate]
  split<;>rfl
theorem vf{G T:List Pl}{W:List Wy}(h:Wd G T W){off:List Int}(ho:Off off)(b:Bool):∀ (n:Nat),n<=(az b G T).length ->
  ((List.range n).foldl (xR b G T W off) (List.replicate W.length 0)).length=W.length/\∀i,i < W.length->(0<=((List.range n).foldl (xR b G T W off) (List.replicate W.length 0)).getD i 0/\((List.range n).foldl (xR b G T W off) (List.replicate W.length 0)).getD i 0<=off.getD i 0)/\((n:Nat)<=aW b (ay W i)->((List.range n).foldl (xR b G T W off) (List.replicate W.length 0)).getD i 0=0)
 | 0,_=>by
  refine⟨by simp,fun i hi=>?_⟩
  have:=ho i
  have z:((List.range 0).foldl (xR b G T W off) (List.replicate W.length 0)).getD i 0=0:=by simp[zG,hi]
  rw[z]
  exact⟨by omega,fun _=>rfl⟩
 | n+1,hn=>by
  obtain⟨h1,h2⟩:=vf h ho b n (by omega)
  rw[List.range_succ,List.foldl_append,yK,List.foldl_nil]
  generalize (List.range n).foldl (xR b G T W off) (List.replicate W.length 0)=s at h1 h2
  refine⟨p5 h1,fun i hi=>?_⟩
  obtain⟨h3,h4⟩:=h2 i hi
  have e:=bV (b:=b) (G:=G) (T:=T) (i:=n) (by omega)
  have hc:=MV ho h.lim (h.amt b n) (eR b W n (aR b G T n).2) i
  have hz:(xR b G T W off s n).getD i 0=s.getD i 0+(n9 W off (aR b G T n).1 (eR b W n (aR b G T n).2)).getD i 0:=ye (by omega) (by rw[p7];exact hi)
  rw[hz]
  by_cases he:aW b (ay W i)=n
  ·rw[h4 (by omega)]
   exact⟨by omega,fun z=>by omega⟩
  ·have hni:i∉eR b W n (aR b G T n).2:=fun z=>he (ck.mp ((fU h e).mem_iff.mp z)).2
   rw[C4 hni]
   exact⟨by omega,fun z=>by rw[h4 (by omega)];rfl⟩
theorem jd{l:List Int}{i:Nat}(h:l.length<=i):l.getD i 0=0:=by simp[zG,h]
theorem kq{G T:List Pl}{W:List Wy}(h:Wd G T W){off:List Int}(ho:Off off)(b:Bool):Off (bI b G T W off):=fun i=>by
 by_cases hi:i < W.length
 ·exact ((vf h ho b _ (Nat.le_refl _)).2 i hi).1.1
 ·rw[jd (by rw[jT];omega)]
  exact Int.le_refl 0
theorem As{G T:List Pl}{W:List Wy}(h:Wd G T W){off:List Int}(ho:Off off)(b:Bool){i:Nat}(hi:i < W.length):(bI b G T W off).getD i 0<=off.getD i 0 :=
 ((vf h ho b _ (Nat.le_refl _)).2 i hi).1.2
theorem B0{G T:List Pl}{W:List Wy}(h:Wd G T W){c:List Int}(ho:Off c){p:Nat×Int}(e:sr G T W c=some p):p.1 < W.length/\0<=p.2/\p.2 < c.getD p.1 0:=by
 unfold sr at e
 obtain⟨k,hk,rfl⟩:=Dl.ag e
 have hm:=List.mem_of_find?_eq_some hk
 have hq:=List.find?_some hk
 have hi:=zT.mp hm
 rw[qR,zJ] at hq
 have a:=As h ho false hi
 have b:=kq h (kq h ho false) true k
 exact⟨hi,b,by simp only;omega⟩
noncomputable def mea(c:List Int):Nat:=(c.map Int.toNat).sum
theorem Cb:∀ {c:List Int}{k:Nat}{v:Int},0<=v->v < c.getD k 0->mea (c.set k v) < mea c
 | [],k,v,h0,h1=>by simp at h1;omega
 | x::c,0,v,h0,h1=>by
  simp at h1
  simp only[mea,List.set_cons_zero,zI,List.sum_cons]
  omega
 | x::c,k+1,v,h0,h1=>by
  have:=Cb (c:=c) (k:=k) h0 (by simpa using h1)
  simp only[mea,List.set_cons_succ,zI,List.sum_cons] at this ⊢
  omega
theorem BU:∀ {W:List Wy},(∀w∈W,w.2.2<=9)->mea (eE W)<=9 * W.length
 | [],_=>by simp[mea,eE]
 | w::W,h=>by
  have:=BU (W:=W) fun x hx=>h x (zC _ hx)
  have:=h w zE
  simp only[mea,eE,zI,List.sum_cons,zL] at *
  omega
theorem JT{G T:List Pl}{W:List Wy}(h:Wd G T W):Off (eE W):=fun i=>by
 have:=h.lim i
 by_cases hi:i < W.length
 ·simpa [eE,ay,zG,hi] using this
 ·rw[jd (by rw[nN];omega)]
  exact Int.le_refl 0
theorem CS{c:List Int}(h:Off c){k:Nat}{v:Int}(hv:0<=v):Off (c.set k v):=fun i=>by
 rw[cT]
 split
 ·exact hv
 ·exact h i
theorem rA(a:List Int):SeqAt.shaped (af a)=true :=
 (jC.tup (b:=a.length) (k:=0) (by simp) fun x hx=>by obtain⟨i,_,rfl⟩:=zQ.mp hx;exact lZ _).shaped (by decide)
theorem qT(a b:List Int):PyData.eqv (af a) (af b)=decide (a=b):=by
 rw[af,af,PyData.eqv,rW]
theorem cn{f:Dl.Env->Option D}{ρ:Dl.Env}{b:Bool}(h:f ρ=some (.bool b)):fB f ρ=some b:=by
 simp only[fB,h,zA,gB]
theorem dZ{t:Dl.Env->Option Bool}{ρ:Dl.Env}{b:Bool}(h:t ρ=some b):bM t ρ=some (!b):=by
 simp only[bM,h,zB]
theorem G9(a b:List Int):fT (af a) (af b)=some (.bool (!decide (a=b))):=by
 simp only[fT,LG,rA,and_self,if_true,qT,zB]
theorem Hq(a b:List Int):b9 (af a) (af b)=some (.bool (decide (a=b))):=by
 simp only[b9,MM,rA,and_self,if_true,qT,zB]
theorem Kr(x:Option (Nat×Int)):pq (Ba x) .none=some (.bool x.isSome):=by cases x<;>rfl
theorem aN{i:Nat}{fz:List Nat}{f:Dl.Env->Option D}{ρ:aj}{d:D}(hA:f (bO ρ)=some d)(hF:f (cJ ρ)=some d)(hh:hand fz 0 ρ=ρ):Dl.aD i fz f ρ=some (.nx (ρ.set i (.val d))):=by
 cases hs:Dl.qY d with
 | true=>exact eX hA hs
 | false=>exact rg hh hA hF hs (.inr rfl)
theorem L4{i:Nat}{fz:List Nat}{f:Dl.Env->Option D}{ρ:aj}{d:D}{ds:List D}(hA:f (bO ρ)=some d)(hF:f (cJ ρ)=some d)(hh:hand fz 0 ρ=ρ)(ho:ρ[i]?=some (.own ds))(hl:ds.length < 4000):mD i fz f ρ=some (.nx (ρ.set i (.own (ds++[d])))):=by
 have hz:ds.length < sizeLine:=zP hl (by decide)
 have hi:ma fz f ρ=some (d,ρ):=by
  unfold ma
  rw[hA,zA,hh,hF]
  cases Dl.qY d<;>rfl
 simp only[mD,hi,zA,o3,ho,hz,if_true,zB]
theorem cx{G T:List Pl}{W:List Wy}(h:Wd G T W):aK [ax G T W]=some .none:=by
 have hw:cQ [ax G T W]=some (.bool true):=by rw[Ap h.fit (by decide),h.wok]
 have hc:(bM (fB (ah 1 cQ (aa (ab 0) ae)))) (bO [.val (ax G T W)])=some false:=dZ (cn (call_of hw rfl rfl))
 have:dS [.val (ax G T W)]=some (.nx [.val (ax G T W)]):=by
  unfold dS
  rw[cA hc]
 show (dS [.val (ax G T W)]).map _=_
 rw[this]
 rfl
theorem fP{a b:Int}{i:Int}(h1:a<=i)(h2:i<=b):bB [.int i,.int a,.int b]=some .none:=by
 have hw:ba [.int i,.int a,.int b]=some (.bool true):=by rw[gW rfl];simp[whole,h1,h2]
 have hc:(bM (fB (ah 3 ba (aa (ab 0) (aa (ab 1) (aa (ab 2) ae)))))) (bO [.val (.int i),.val (.int a),.val (.int b)])=some false:=dZ (cn (call_of hw rfl rfl))
 have:dP [.val (.int i),.val (.int a),.val (.int b)]=some (.nx [.val (.int i),.val (.int a),.val (.int b)]):=by
  unfold dP
  rw[cA hc]
 show (dP [.val (.int i),.val (.int a),.val (.int b)]).map _=_
 rw[this]
 rfl
theorem bZ{n i:Int}(h1:0<=i)(h2:i<=n - 1):aA [.int i,.int n]=some .none:=by
 have:dA [.val (.int i),.val (.int n)]=some (.nx [.val (.int i),.val (.int n)]):=by
  unfold dA
  exact bw (call_of (fP h1 h2) (cons_of rfl (cons_of rfl (cons_of (aq (sub_int n 1) rfl rfl) rfl))) rfl)
 show (dA [.val (.int i),.val (.int n)]).map _=_
 rw[this]
 rfl
theorem nK(b:Bool):dH [.int (sI b)]=some .none:=by
 have:eL [.val (.int (sI b))]=some (.nx [.val (.int (sI b))]):=by
  unfold eL
  exact bw (call_of (bZ (n:=2) (i:=sI b) (by cases b<;>decide) (by cases b<;>decide)) rfl rfl)
 show (eL [.val (.int (sI b))]).map _=_
 rw[this]
 rfl
noncomputable abbrev Sp:=List (Nat×Int)×List Int
noncomputable def KJ(G T:List Pl)(W:List Wy)(s:Sp):Bool:=(sr G T W s.2).isSome
noncomputable def spS(G T:List Pl)(W:List Wy)(s:Sp):Sp:=match sr G T W s.2 with|some p=>(s.1++[p],s.2.set p.1 p.2)|none=>s
noncomputable def low(c:List Int)(p:Nat×Int):List Int:=c.set p.1 p.2
structure z6(W:List Wy)(s:Sp):Prop where
 len:s.2.length=W.length
 off:Off s.2
 eq:s.2=s.1.foldl low (eE W)
 bd:s.1.length+mea s.2<=mea (eE W)
 mem:∀p∈s.1,p.1 < W.length
theorem z6.start{G T:List Pl}{W:List Wy}(h:Wd G T W):z6 W ([],eE W):=⟨nN W,JT h,rfl,by simp,fun p hp=>by cases hp⟩
theorem rE{G T:List Pl}{W:List Wy}{s:Sp}{p:Nat×Int}(e:sr G T W s.2=some p):spS G T W s=(s.1++[p],s.2.set p.1 p.2):=by
 unfold spS
 rw[e]
theorem z6.step{G T:List Pl}{W:List Wy}(h:Wd G T W){s:Sp}(i:z6 W s){p:Nat×Int}(e:sr G T W s.2=some p):z6 W (spS G T W s)/\mea (spS G T W s).2 < mea s.2:=by
 obtain⟨h1,h2,h3⟩:=B0 h i.off e
 have hm:=Cb h2 h3
 rw[rE e]
 refine⟨⟨by simp[i.len],CS i.off h2,?_,?_,fun q hq=>?_⟩,hm⟩
 ·rw[List.foldl_append,<- i.eq]
  rfl
 ·have:=i.bd
  simp only[zN,List.length_singleton]
  omega
 ·rcases List.mem_append.mp hq with z|z
  ·exact i.mem q z
  ·rw[yL] at z
   rw[z]
   exact h1
theorem Wd.mea{G T:List Pl}{W:List Wy}(h:Wd G T W):mea (eE W)<=144:=by
 have:=BU (W:=W) fun w hw=>(h.wr w hw).2.2.2
 have:=h.wl
 omega
noncomputable def su(r:List (Nat×Int)):List D:=(r.map fun p=>[((p.1:Nat):Int),p.2]).map af
theorem II(r:List (Nat×Int))(p:Nat×Int):su (r++[p])=su r++[Ba (some p)]:=by simp[su];rfl
theorem Je(r:List (Nat×Int)):(su r).length=r.length:=by simp[su]
noncomputable def fin(G T:List Pl)(W:List Wy):Sp:=lp (KJ G T W) (spS G T W) Rf.turns ([],eE W)
noncomputable def Pu:aj->Option Out:=(av (mD 1 [3] (ab 3)) (av (Dl.aD 2 [2,3] (ah 3 cE (aa (ab 2) (aa (f2 ak (ab 3) (fC (.int 0))) (aa (f2 ak (ab 3) (fC (.int 1))) ae))))) (Dl.aD 3 [0,2] (ah 2 eu (aa (ab 0) (aa (ab 2) ae))))))
noncomputable def KN(G T:List Pl)(W:List Wy)(s:Sp):aj:=[.val (ax G T W),.own (su s.1),.val (af s.2),.val (Ba (sr G T W s.2))]
theorem Ja{G T:List Pl}{W:List Wy}(h:Wd G T W){s:Sp}(i:z6 W s){p:Nat×Int}(e:sr G T W s.2=some p):Pu (KN G T W s)=some (.nx (KN G T W (spS G T W s))):=by
 obtain⟨h1,h2,h3⟩:=B0 h i.off e
 obtain⟨i2,hm⟩:=i.step h e
 have hb:=h.mea
 have hbd:=i.bd
 have hw:=h.wl
 have t1:mD 1 [3] (ab 3) (KN G T W s)=some (.nx [.val (ax G T W),.own (su s.1++[Ba (some p)]),.val (af s.2),.val (Ba (some p))]):=by
  unfold KN
  rw[e]
  exact L4 rfl rfl rfl rfl (by rw[Je];omega)
 have hlow:∀ρ:Dl.Env,ab 2 ρ=some (af s.2)->ab 3 ρ=some (Ba (some p))->(ah 3 cE (aa (ab 2) (aa (f2 ak (ab 3) (fC (.int 0))) (aa (f2 ak (ab 3) (fC (.int 1))) ae)))) ρ=some (af (s.2.set p.1 p.2)):=fun ρ a b =>
  call_of (uB (c:=s.2) (i:=p.1) (v:=p.2) (by rw[i.len];exact h1) (by rw[i.len];omega)) (cons_of a (cons_of (aq (NZ _ _) b rfl) (cons_of (aq (NX _ _ _) b rfl) rfl))) rfl
 have t2:Dl.aD 2 [2,3] (ah 3 cE (aa (ab 2) (aa (f2 ak (ab 3) (fC (.int 0))) (aa (f2 ak (ab 3) (fC (.int 1))) ae)))) [.val (ax G T W),.own (su s.1++[Ba (some p)]),.val (af s.2),.val (Ba (some p))]=some (.nx [.val (ax G T W),.own (su s.1++[Ba (some p)]),.val (af (s.2.set p.1 p.2)),.val (Ba (some p))]) :=
  aN (hlow _ rfl rfl) (hlow _ rfl rfl) rfl
 have hl2:(s.2.set p.1 p.2).length=W.length:=by rw[yD,i.len]
 have t3:Dl.aD 3 [0,2] (ah 2 eu (aa (ab 0) (aa (ab 2) ae))) [.val (ax G T W),.own (su s.1++[Ba (some p)]),.val (af (s.2.set p.1 p.2)),.val (Ba (some p))]=some (.nx [.val (ax G T W),.own (su s.1++[Ba (some p)]),.val (af (s.2.set p.1 p.2)),.val (Ba (sr G T W (s.2.set p.1 p.2)))]) :=
  aN (call_of (lL h hl2) rfl rfl) (call_of (lL h hl2) rfl rfl) rfl
 unfold Pu
 rw[ai t1,ai t2,t3,rE e]
 unfold KN
 rw[II]
theorem ni{G T:List Pl}{W:List Wy}{s:Sp}(h:KJ G T W s=true):∃p,sr G T W s.2=some p:=Option.isSome_iff_exists.mp h
theorem IH{G T:List Pl}{W:List Wy}(h:Wd G T W):qh [ax G T W]=some (.list (su (fin G T W).1))/\z6 W (fin G T W):=by
 have hb:=h.mea
 have t1:bh 1 [] (kl ae) [.val (ax G T W),.non,.non,.non]=some (.nx [.val (ax G T W),.own [],.non,.non]):=oU (f:=kl ae) (ds:=[]) (show small []=some [] from bS (by simp)) rfl
 have t2:Dl.aD 2 [0] (ah 1 fW (aa (ab 0) ae)) [.val (ax G T W),.own [],.non,.non]=some (.nx [.val (ax G T W),.own [],.val (af (eE W)),.non]) :=
  aN (call_of (nR h) rfl rfl) (call_of (nR h) rfl rfl) rfl
 have t3:Dl.aD 3 [0,2] (ah 2 eu (aa (ab 0) (aa (ab 2) ae))) [.val (ax G T W),.own [],.val (af (eE W)),.non]=some (.nx (KN G T W ([],eE W))) :=
  aN (call_of (lL h (nN W)) rfl rfl) (call_of (lL h (nN W)) rfl rfl) rfl
 obtain⟨ρ',ew,⟨rfl,iv⟩,_⟩:=yO (t:=(fB (f2 pq (ab 3) (fC .none)))) (gb:=Pu) (R:=fun s ρ=>ρ=KN G T W s/\z6 W s) (KJ G T W) (spS G T W) (fun s=>mea s.2)
  (fun s ρ ⟨hρ,i⟩=>by
   subst hρ
   exact cn (aq (Kr _) rfl rfl))
  (fun s ρ ⟨hρ,i⟩ hc=>by
   subst hρ
   obtain⟨p,e⟩:=ni hc
   exact⟨_,Ja h i e,⟨rfl,(i.step h e).1⟩,(i.step h e).2⟩)
  Rf.turns ([],eE W) (KN G T W ([],eE W)) (Nat.lt_of_le_of_lt hb (by decide)) ⟨rfl,z6.start h⟩
 refine⟨?_,iv⟩
 refine aC ?_
 show pX [.val (ax G T W),.non,.non,.non]=_
 unfold pX
 rw[ai t1,ai t2,ai t3]
 refine (ai ew).trans ?_
 exact aH rfl
theorem Ji(c:List Int)(p:Nat×Int):(low c p).length=c.length:=by simp[low]
theorem F0{G T:List Pl}{W:List Wy}(h:Wd G T W){r:List (Nat×Int)}(hr:∀p∈r,p.1 < W.length):nC [ax G T W,.list (su r)]=some (af (r.foldl low (eE W))):=by
 have hw:=h.wl
 have t2:Dl.aD 2 [0] (ah 1 fW (aa (ab 0) ae)) [.val (ax G T W),.val (.list (su r)),.non,.non,.non]=some (.nx [.val (ax G T W),.val (.list (su r)),.val (af (eE W)),.non,.non]) :=
  aN (call_of (nR h) rfl rfl) (call_of (nR h) rfl rfl) rfl
 obtain⟨ρ',e3,hs',x,y,rfl⟩:=nM (tgt:=ie 3 4) (gb:=Dl.aD 2 [2,3,4] (ah 3 cE (aa (ab 2) (aa (ab 3) (aa (ab 4) ae))))) (R:=fun (c:List Int) ρ=>c.length=W.length/\∃x y,ρ=[.val (ax G T W),.val (.list (su r)),.val (af c),x,y]) (fun p:Nat×Int=>af [((p.1:Nat):Int),p.2]) low
  (l:=r) (s:=eE W) (ρ:=[.val (ax G T W),.val (.list (su r)),.val (af (eE W)),.non,.non])
  (fun c ρ p hp ⟨hc,x,y,hρ⟩=>by
   subst hρ
   have el:=uB (c:=c) (i:=p.1) (v:=p.2) (by rw[hc];exact hr p hp) (by omega)
   have t:Dl.aD 2 [2,3,4] (ah 3 cE (aa (ab 2) (aa (ab 3) (aa (ab 4) ae)))) [.val (ax G T W),.val (.list (su r)),.val (af c),.val (nD p.1),.val (.int p.2)]=some (.nx [.val (ax G T W),.val (.list (su r)),.val (af (low c p)),.val (nD p.1),.val (.int p.2)]) :=
    aN (call_of el rfl rfl) (call_of el rfl rfl) rfl
   exact⟨_,_,rfl,t,by rw[Ji,hc],_,_,rfl⟩) ⟨nN W,_,_,rfl⟩
 refine aC ?_
 show nV [.val (ax G T W),.val (.list (su r)),.non,.non,.non]=_
 unfold nV
 rw[ai t2]
 refine (ai (dX e3 ?_ rfl)).trans (aH rfl)
 show some (su r)=_
 rw[su,zM]
 rfl
theorem ud{G T:List Pl}{W:List Wy}(h:Wd G T W):bb [ax G T W]=some (af (bI false G T W (fin G T W).2)):=by
 obtain⟨e1,i⟩:=IH h
 have e2:=F0 h i.mem
 rw[<- i.eq] at e2
 refine aC ?_
 show fE [.val (ax G T W)]=_
 unfold fE
 refine (ai (bw (call_of (cx h) rfl rfl))).trans ?_
 exact aH (call_of (f9 h i.len false) (cons_of rfl (cons_of rfl (cons_of (call_of e2 (cons_of rfl (cons_of (call_of e1 rfl rfl) rfl)) rfl) rfl))) rfl)
noncomputable def Mx(w:Wy):Wy:=(w.2.1,w.1,w.2.2)
structure Ord(W:List Wy)(π:List Nat):Prop where
 perm:π.Perm (List.range W.length)
 up:π.Pairwise fun i j=>(ay W i).2.1 < (ay W j).2.1\/((ay W i).2.1=(ay W j).2.1/\(ay W i).1 < (ay W j).1)
noncomputable def ik(W:List Wy)(π:List Nat):List Wy:=π.map fun i=>Mx (ay W i)
noncomputable def zz(P:List Int)(π:List Nat):List Int:=π.map fun i=>P.getD i 0
section
variable {W:List Wy}{π π':List Nat}{P:List Int}{G T:List Pl}
theorem Ord.len(o:Ord W π):π.length=W.length:=by rw[o.perm.length_eq,zS]
theorem Ord.lt(o:Ord W π){k:Nat}(hk:k < W.length):π.getD k 0 < W.length:=by
 have h:k < π.length:=by rw[o.len];exact hk
 have:=o.perm.mem_iff.mp (List.getElem_mem h)
 rw[zG,zK h]
 simpa using this
theorem Ord.ex(o:Ord W π){i:Nat}(hi:i < W.length):∃k,k < W.length/\π.getD k 0=i:=by
 have:i∈π:=o.perm.mem_iff.mpr (by simpa using hi)
 obtain⟨k,hk,e⟩:=List.getElem_of_mem this
 exact⟨k,by rw[<- o.len];exact hk,by rw[zG,zK hk];exact e⟩
theorem fJ(o:Ord W π):(ik W π).length=W.length:=by simp[ik,o.len]
theorem KB(o:Ord W π):(zz P π).length=W.length:=by simp[zz,o.len]
theorem iQ(o:Ord W π){k:Nat}(hk:k < W.length):ay (ik W π) k=Mx (ay W (π.getD k 0)):=by
 have h:k < π.length:=by rw[o.len];exact hk
 simp[ay,ik,h,zG]
theorem vQ(o:Ord W π){k:Nat}(hk:k < W.length):(zz P π).getD k 0=P.getD (π.getD k 0) 0:=by
 have h:k < π.length:=by rw[o.len];exact hk
 simp[zz,h,zG]
theorem wt(b:Bool)(w:Wy):aW (!b) (Mx w)=aW b w:=by cases b<;>rfl
theorem v7(b:Bool)(w:Wy):aY (!b) (Mx w)=aY b w:=by cases b<;>rfl
theorem Ord.ris(o:Ord W π):rH (ik W π):=by
 unfold rH ik
 rw[List.pairwise_map]
 exact o.up
theorem NB(h:rH W){i j:Nat}(hi:i < W.length)(hj:j < W.length)(e:(ay W i).1 < (ay W j).1\/((ay W i).1=(ay W j).1/\(ay W i).2.1 < (ay W j).2.1)):i < j:=by
 rcases Nat.lt_or_ge i j with q|q
 ·exact q
 ·exfalso
  rcases Nat.eq_or_lt_of_le q with q|q
  ·subst q;omega
  ·have:=List.pairwise_iff_getElem.mp h j i hj hi q
   rw[eh hi,eh hj] at this
   omega
theorem Bm{l:List Nat}{n:Nat}(p:l.Perm (List.range n))(h:l.Pairwise (· < ·)):l=List.range n:=by
 refine i6 (fun i=>((i:Nat):Int)) p (h.imp fun {a b} q=>by omega) (List.pairwise_lt_range.imp fun {a b} q=>by omega)
theorem map_getD(l:List Nat):(List.range l.length).map (fun k=>l.getD k 0)=l:=by
 apply List.ext_getElem
 ·simp
 ·intro i h1 h2
  simp[h2]
theorem Ord.back(h:rH W)(o:Ord W π)(o':Ord (ik W π) π'):π'.map (fun k=>π.getD k 0)=List.range W.length:=by
 have hl:(ik W π).length=W.length:=fJ o
 refine Bm ?_ ?_
 ·have:=(o'.perm.map fun k=>π.getD k 0)
  rw[hl,<- o.len,map_getD] at this
  exact this.trans o.perm
 ·rw[List.pairwise_map]
  refine o'.up.imp_of_mem fun {i j} hi hj q=>?_
  have hi':i < W.length:=by have:=o'.perm.mem_iff.mp hi;rw[hl] at this;simpa using this
  have hj':j < W.length:=by have:=o'.perm.mem_iff.mp hj;rw[hl] at this;simpa using this
  rw[iQ o hi',iQ o hj'] at q
  exact NB h (o.lt hi') (o.lt hj') q
theorem C6(h:rH W)(o:Ord W π)(o':Ord (ik W π) π'):ik (ik W π) π'=W:=by
 have hl:(ik W π).length=W.length:=fJ o
 have e:ik (ik W π) π'=(π'.map fun k=>π.getD k 0).map fun i=>ay W i:=by
  unfold ik
  rw[zM]
  refine yJ fun k hk=>?_
  have hk':k < W.length:=by have:=o'.perm.mem_iff.mp hk;rw[hl] at this;simpa using this
  have:=iQ o hk'
  unfold ik at this
  rw[this];rfl
 rw[e,o.back h o']
 have:=map_range (0,0,0) (fun w:Wy=>w) W
 simpa [ay] using this
theorem FZ(o:Ord W π)(b:Bool)(p:Int):((own (!b) (ik W π) p).map fun k=>π.getD k 0).Perm (own b W p):=by
 have hl:(ik W π).length=W.length:=fJ o
 have e:((own (!b) (ik W π) p).map fun k=>π.getD k 0)=π.filter fun i=>decide (aW b (ay W i)=p):=by
  conv=>rhs;rw[<- map_getD π,List.filter_map,o.len]
  unfold own
  rw[hl]
  congr 1
  refine List.filter_congr fun k hk=>?_
  have hk':k < W.length:=by simpa using hk
  rw[iQ o hk',wt];rfl
 rw[e]
 exact o.perm.filter _
theorem GN(o:Ord W π)(b:Bool)(p:Int):(NL (!b) (ik W π) p).Perm (NL b W p):=by
 have hl:(ik W π).length=W.length:=fJ o
 rw[<- lS,<- lS]
 have:=(FZ o b p).map fun i=>aY b (ay W i)
 rw[zM] at this
 refine List.Perm.trans (List.Perm.of_eq ?_) this
 refine yJ fun k hk=>?_
 have hk':k < W.length:=by have:=(ck.mp hk).1;rwa [hl] at this
 show aY (!b) (ay (ik W π) k)=aY b (ay W (π.getD k 0))
 rw[iQ o hk',v7]
theorem Ord.wd(h:Wd G T W)(o:Ord W π):Wd T G (ik W π) where
 g1:=h.t1
 g4:=h.t4
 t1:=h.g1
 t4:=h.g4
 ga:=h.ta
 ta:=h.ga
 gl:=fun i p e=>(h.tl i p e).trans (GN o true i).symm
 tl:=fun i p e=>(h.gl i p e).trans (GN o false i).symm
 wr:=fun w hw=>by
  obtain⟨i,hi,rfl⟩:=zQ.mp hw
  have hi':i < W.length:=by have:=o.perm.mem_iff.mp hi;simpa using this
  have:=h.wr (ay W i) (by rw[<- eh hi'];exact List.getElem_mem _)
  exact⟨this.2.1,this.1,this.2.2⟩
 wp:=o.ris
 wl:=by rw[fJ o];exact h.wl
theorem wg(b:Bool)(G T:List Pl):az (!b) T G=az b G T:=by cases b<;>rfl
theorem HK(b:Bool)(G T:List Pl)(i:Nat):aR (!b) T G i=aR b G T i:=by unfold aR;rw[wg]
noncomputable def kG(b:Bool)(W:List Wy)(P:List Int)(p:Int):Int:=((own b W p).map fun i=>P.getD i 0).sum
theorem xH{l m:List Int}(p:l.Perm m):l.sum=m.sum:=by
 induction p with
 | nil=>rfl
 | cons x _ ih=>simp[ih]
 | swap x y l=>simp only[List.sum_cons];omega
 | trans _ _ h1 h2=>exact h1.trans h2
theorem FL(o:Ord W π)(b:Bool)(p:Int):kG (!b) (ik W π) (zz P π) p=kG b W P p:=by
 have hl:(ik W π).length=W.length:=fJ o
 have:=xH ((FZ o b p).map fun i=>P.getD i 0)
 unfold kG
 rw[<- this,zM]
 congr 1
 refine yJ fun k hk=>?_
 have hk':k < W.length:=by have:=(ck.mp hk).1;rwa [hl] at this
 exact vQ o hk'
theorem Nk(h:Wd G T W)(o:Ord W π){b:Bool}{i:Nat}{p:Pl}(e:(az b G T)[i]?=some p){x:Int}(hx:x∈p.2):lA (!b) (ik W π) i x < W.length/\π.getD (lA (!b) (ik W π) i x) 0=lA b W i x:=by
 have e':(az (!b) T G)[i]?=some p:=by rw[wg];exact e
 obtain⟨h1,h2,h3⟩:=gE (o.wd h) e' hx
 obtain⟨g1,g2,g3⟩:=gE h e hx
 rw[fJ o] at h1
 rw[iQ o h1,wt] at h2
 rw[iQ o h1,v7] at h3
 exact⟨h1,n5 h.wp (o.lt h1) g1 (by rw[h2,g2]) (by rw[h3,g3])⟩
end
noncomputable def sS(L:List Int)(x:Int):Nat:=L.findIdx fun o=>decide (o=x)
noncomputable def vC(b:Bool)(G T:List Pl)(W:List Wy)(P:List Int)(k:Nat):Bool :=
 decide (kG b W P (aW b (ay W k)) < (aR b G T (aW b (ay W k)).toNat).1) ||
 ((aR b G T (aW b (ay W k)).toNat).2.drop (sS (aR b G T (aW b (ay W k)).toNat).2 (aY b (ay W k))+1)).any fun o=>decide (0 < P.getD (lA b W (aW b (ay W k)) o) 0)
noncomputable def l6(G T:List Pl)(W:List Wy)(P:List Int)(k:Nat):Nat :=
 if P.getD k 0=(ay W k).2.2 then 0 else if vC false G T W P k=false then 1 else if vC true G T W P k=false then 2 else 3
noncomputable def Dq(G T:List Pl)(W:List Wy)(P:List Int):List Nat:=(List.range W.length).filter fun k=>decide (l6 G T W P k=3)
section
variable {W:List Wy}{π π':List Nat}{P:List Int}{G T:List Pl}
theorem Wd.end_pl(h:Wd G T W)(b:Bool){k:Nat}(hk:k < W.length):0<=aW b (ay W k)/\(aW b (ay W k)).toNat < (az b G T).length/\((aW b (ay W k)).toNat:Int)=aW b (ay W k):=by
 have:=h.wr (ay W k) (by rw[<- eh hk];exact List.getElem_mem _)
 cases b
 ·simp only[aW,az,Bool.false_eq_true,if_false];omega
 ·simp only[aW,az,if_true];omega
theorem uJ{α:Type}{p q:α->Bool}:∀ {l:List α},(∀x∈l,p x=q x)->l.any p=l.any q
 | [],_=>rfl
 | a::l,h=>by rw[List.any_cons,List.any_cons,h a zE,uJ fun x hx=>h x (zC _ hx)]
theorem EX(h:Wd G T W)(o:Ord W π)(b:Bool){k:Nat}(hk:k < W.length):vC (!b) T G (ik W π) (zz P π) k=vC b G T W P (π.getD k 0):=by
 obtain⟨h1,h2,h3⟩:=h.end_pl b (o.lt hk)
 unfold vC
 rw[iQ o hk,wt,v7,HK,FL o]
 congr 1
 rw[<- h3]
 simp only[yH]
 refine uJ fun x hx=>?_
 obtain⟨e1,e2⟩:=Nk h o (bV h2) (List.mem_of_mem_drop hx)
 rw[vQ o e1,e2]
theorem MQ(h:Wd G T W)(o:Ord W π){k:Nat}(hk:k < W.length):(l6 T G (ik W π) (zz P π) k=3)↔(l6 G T W P (π.getD k 0)=3):=by
 have e1:=EX (P:=P) h o false hk
 have e2:=EX (P:=P) h o true hk
 simp only[Bool.not_false,Bool.not_true] at e1 e2
 unfold l6
 rw[vQ o hk,iQ o hk,e1,e2]
 have:(Mx (ay W (π.getD k 0))).2.2=(ay W (π.getD k 0)).2.2:=rfl
 rw[this]
 cases vC false G T W P (π.getD k 0)<;>cases vC true G T W P (π.getD k 0)<;>simp<;>split<;>simp
theorem O8(h:Wd G T W)(o:Ord W π):((Dq T G (ik W π) (zz P π)).map fun k=>π.getD k 0).Perm (Dq G T W P):=by
 have hl:(ik W π).length=W.length:=fJ o
 have e:((Dq T G (ik W π) (zz P π)).map fun k=>π.getD k 0)=π.filter fun i=>decide (l6 G T W P i=3):=by
  conv=>rhs;rw[<- map_getD π,List.filter_map,o.len]
  unfold Dq
  rw[hl]
  congr 1
  refine List.filter_congr fun k hk=>?_
  have hk':k < W.length:=by simpa using hk
  exact decide_eq_decide.mpr (MQ h o hk')
 rw[e]
 exact o.perm.filter _
theorem M0(h:Wd G T W)(o:Ord W π):(Dq T G (ik W π) (zz P π)=[])↔(Dq G T W P=[]):=by
 have:=(O8 (P:=P) h o).length_eq
 rw[zD] at this
 rw[<- List.length_eq_zero_iff,<- List.length_eq_zero_iff,this]
structure Pn(G T:List Pl)(W:List Wy)(P:List Int):Prop where
 len:P.length=W.length
 bd:∀k,k < W.length->0<=P.getD k 0/\P.getD k 0<=(ay W k).2.2
 am:∀ (b:Bool) (i:Nat),i < (az b G T).length->kG b W P i<=(aR b G T i).1
theorem Pn.tu(h:Wd G T W)(o:Ord W π)(p:Pn G T W P):Pn T G (ik W π) (zz P π) where
 len:=by rw[KB o,fJ o]
 bd:=fun k hk=>by
  rw[fJ o] at hk
  rw[vQ o hk,iQ o hk]
  exact p.bd _ (o.lt hk)
 am:=fun b i hi=>by
  have:=p.am (!b) i (by rw[<- wg b T G] at hi;exact hi)
  rw[<- FL o (!b),<- HK (!b),Bool.not_not] at this
  exact this
end
section
variable {W:List Wy}{G T:List Pl}{off:List Int}
theorem BQ(h:Wd G T W)(b:Bool):∀ (n:Nat),n<=(az b G T).length ->
  ((List.range n).foldl (xR b G T W off) (List.replicate W.length 0)).length=W.length/\∀k,k < W.length ->
   ((List.range n).foldl (xR b G T W off) (List.replicate W.length 0)).getD k 0=if aW b (ay W k) < n then (n9 W off (aR b G T (aW b (ay W k)).toNat).1 (eR b W (aW b (ay W k)).toNat (aR b G T (aW b (ay W k)).toNat).2)).getD k 0 else 0
 | 0,_=>by
  refine⟨by simp,fun k hk=>?_⟩
  obtain⟨h1,_,_⟩:=h.end_pl b hk
  rw[if_neg (by omega)]
  simp[zG,hk]
 | n+1,hn=>by
  obtain⟨h1,h2⟩:=BQ h b n (by omega)
  rw[List.range_succ,List.foldl_append,yK,List.foldl_nil]
  generalize (List.range n).foldl (xR b G T W off) (List.replicate W.length 0)=s at h1 h2
  refine⟨p5 h1,fun k hk=>?_⟩
  have hz:(xR b G T W off s n).getD k 0=s.getD k 0+(n9 W off (aR b G T n).1 (eR b W n (aR b G T n).2)).getD k 0:=ye (by omega) (by rw[p7];exact hk)
  rw[hz,h2 k hk]
  obtain⟨g1,_,_⟩:=h.end_pl b hk
  have e:=bV (b:=b) (G:=G) (T:=T) (i:=n) (by omega)
  by_cases he:aW b (ay W k)=n
  ·have hn':(aW b (ay W k)).toNat=n:=by omega
   rw[if_neg (by omega),if_pos (by omega),hn']
   omega
  ·have hni:k∉eR b W n (aR b G T n).2:=fun z=>he (ck.mp ((fU h e).mem_iff.mp z)).2
   rw[C4 hni]
   by_cases hlt:aW b (ay W k) < n
   ·rw[if_pos hlt,if_pos (by omega)];omega
   ·rw[if_neg hlt,if_neg (by omega)];rfl
theorem GL(h:Wd G T W)(b:Bool){k:Nat}(hk:k < W.length):(bI b G T W off).getD k 0=(n9 W off (aR b G T (aW b (ay W k)).toNat).1 (eR b W (aW b (ay W k)).toNat (aR b G T (aW b (ay W k)).toNat).2)).getD k 0:=by
 have:=(BQ (off:=off) h b _ (Nat.le_refl _)).2 k hk
 obtain⟨_,h2,h3⟩:=h.end_pl b hk
 rw[if_pos (by omega)] at this
 exact this
theorem B3{amt:Int}:∀ (is:List Nat) (s:Int×List Int),is.Nodup->(∀i∈is,i < s.2.length/\s.2.getD i 0=0) ->
  ((is.foldl (mV W off) s).2.length=s.2.length)/\(is.map fun i=>(is.foldl (mV W off) s).2.getD i 0).sum=s.1 - (is.foldl (mV W off) s).1/\∀j,j∉is->(is.foldl (mV W off) s).2.getD j 0=s.2.getD j 0
 | [],s,_,_=>⟨rfl,by simp,fun _ _=>rfl⟩
 | i::is,s,hn,hz=>by
  rw[List.nodup_cons] at hn
  obtain⟨hi,h0⟩:=hz i zE
  have hs:∀j∈is,j < (mV W off s i).2.length/\(mV W off s i).2.getD j 0=0:=fun j hj=>by
   obtain⟨a,b⟩:=hz j (zC _ hj)
   refine⟨by simpa [mV] using a,?_⟩
   simp only[mV,cT]
   have hne:¬ (i=j/\j < s.2.length):=fun z=>hn.1 (z.1 ▸ hj)
   rw[if_neg hne,b]
  obtain⟨r1,r2,r3⟩:=B3 (amt:=amt) is (mV W off s i) hn.2 hs
  rw[yK]
  refine⟨by rw[r1];simp[mV],?_,fun j hj=>?_⟩
  ·rw[zI,List.sum_cons,r2,r3 i hn.1]
   simp only[mV,cT]
   rw[if_pos ⟨trivial,hi⟩]
   omega
  ·rw[r3 j fun z=>hj (zC _ z)]
   simp only[mV,cT]
   have hne:¬ (i=j/\j < s.2.length):=fun z=>hj (z.1 ▸ zE)
   rw[if_neg hne]
theorem xM(ho:Off off)(hl:Pz W):∀ (is:List Nat) (s:Int×List Int),0<=s.1->0<=(is.foldl (mV W off) s).1
 | [],s,h=>h
 | i::is,s,h=>by
  rw[yK]
  refine xM ho hl is _ ?_
  simp only[mV,cV]
  have:=ho i;have:=hl i
  omega
theorem Ju(h:Wd G T W)(ho:Off off){b:Bool}{i:Nat}(hi:i < (az b G T).length) :
  ((own b W i).map fun k=>(n9 W off (aR b G T i).1 (eR b W i (aR b G T i).2)).getD k 0).sum<=(aR b G T i).1:=by
 have e:=bV hi
 have pm:=fU h e
 rw[<- xH (pm.map fun k=>(n9 W off (aR b G T i).1 (eR b W i (aR b G T i).2)).getD k 0)]
 have hn:(eR b W i (aR b G T i).2).Nodup:=pm.nodup_iff.mpr (List.nodup_range.filter _)
 obtain⟨_,r2,_⟩:=B3 (W:=W) (off:=off) (amt:=0) (eR b W i (aR b G T i).2) ((aR b G T i).1,List.replicate W.length 0) hn fun k hk=>by
  have hk':=(ck.mp (pm.mem_iff.mp hk)).1
  refine⟨by simpa using hk',by simp[zG,hk']⟩
 have:=xM ho h.lim (eR b W i (aR b G T i).2) ((aR b G T i).1,List.replicate W.length 0) (h.amt b i)
 unfold n9
 rw[r2]
 show (aR b G T i).1 - _<=(aR b G T i).1
 omega
theorem Cw(h:Wd G T W)(ho:Off off){b:Bool}{i:Nat}(hi:i < (az b G T).length):kG b W (bI b G T W off) i<=(aR b G T i).1:=by
 refine Int.le_trans (Int.le_of_eq ?_) (Ju h ho hi)
 unfold kG
 congr 1
 refine yJ fun k hk=>?_
 obtain⟨hk',he⟩:=ck.mp hk
 have:=GL (off:=off) h b hk'
 rw[he,yH] at this
 exact this
theorem Eg{b:Bool}{P Q:List Int}{p:Int}(h:∀k,k < W.length->P.getD k 0=Q.getD k 0):kG b W P p=kG b W Q p:=by
 unfold kG
 congr 1
 exact yJ fun k hk=>h k (ck.mp hk).1
theorem JW(h:Wd G T W){c:List Int}(ho:Off c)(hc:∀k,k < W.length->c.getD k 0<=(ay W k).2.2)(e:sr G T W c=none):Pn G T W (bI false G T W c) where
 len:=jT _ _ _ _ _
 bd:=fun k hk=>⟨kq h ho false k,Int.le_trans (As h ho false hk) (hc k hk)⟩
 am:=fun b i hi=>by
  cases b
  ·exact Cw h ho hi
  ·have hke:∀k,k < W.length->(kC G T W c).getD k 0=(bI false G T W c).getD k 0:=fun k hk=>by
    have h1:=As h (kq h ho false) true hk
    have h2:qR G T W c k=false:=by
     unfold sr at e
     rw[Option.map_eq_none_iff] at e
     have:=List.find?_eq_none.mp e k (by simpa using hk)
     simpa using this
    unfold qR at h2
    have h3:=of_decide_eq_false h2
    unfold kC at h3 ⊢
    omega
   rw[<- Eg hke]
   exact Cw h (kq h ho false) hi
end
noncomputable def LI(G T:List Pl)(W:List Wy)(P:List Int):Bool :=
 ((List.range G.length).all fun i=>decide (kG false W P i<=(aR false G T i).1))&&((List.range T.length).all fun i=>decide (kG true W P i<=(aR true G T i).1))
noncomputable def zs(n:Nat):List Int:=List.replicate n 0
section
variable {W:List Wy}{G T:List Pl}{d:Nat->Int}
theorem HP{P:List Int}:LI G T W P=true↔∀ (b:Bool) (i:Nat),i < (az b G T).length->kG b W P i<=(aR b G T i).1:=by
 unfold LI
 rw[zF,List.all_eq_true,List.all_eq_true]
 constructor
 ·rintro⟨h1,h2⟩ b i hi
  cases b
  ·exact of_decide_eq_true (h1 i (by simpa [az] using hi))
  ·exact of_decide_eq_true (h2 i (by simpa [az] using hi))
 ·intro h
  exact⟨fun i hi=>yB (h false i (by simpa [az] using hi)),fun i hi=>yB (h true i (by simpa [az] using hi))⟩
theorem Pn.fit{P:List Int}(p:Pn G T W P):LI G T W P=true:=HP.mpr p.am
end
theorem u5{tt:Dl.Env->Option Bool}{te:Dl.Env->Option D}{r:List (Option D)}{x y h:Nat->D}{p:Nat->Bool}:∀ (is:List Nat),
  (∀i∈is,tt (some (x i)::some (y i)::r)=some (p i)/\(p i=true->te (some (x i)::some (y i)::r)=some (h i))) ->
  dg (ir 0 1) tt te (none::none::r) (is.map fun i=>.tuple [x i,y i])=some ((is.filter p).map h)
 | [],_=>rfl
 | i::is,hh=>by
  obtain⟨h1,h2⟩:=hh i zE
  have ih:=u5 is fun j hj=>hh j (zC _ hj)
  have hg:ir 0 1 (none::none::r) (.tuple [x i,y i])=some (some (x i)::some (y i)::r):=by
   simp only[ir,isFree,List.getElem?_cons_zero,List.getElem?_cons_succ,Option.getD_some,Option.isNone_none,and_self,if_true,List.set_cons_zero,List.set_cons_succ]
  rw[zI,dg,hg]
  simp only[zA,h1]
  cases hp:p i with
  | true=>simp[h2 hp,ih,hp]
  | false=>simp[ih,hp]
theorem nr{cs:List Nat}{fi:Dl.Env->Option (List D)}{tt:Dl.Env->Option Bool}{te:Dl.Env->Option D}{ρ:Dl.Env}{n:Nat}{x y h:Nat->D}{p:Nat->Bool}(hfi:fi ρ=some ((List.range n).map fun i=>.tuple [x i,y i]))(hl:n<=1000)
  (hh:∀i,i < n->tt (some (x i)::some (y i)::cs.map fun j=>(ρ[j]?).getD none)=some (p i)/\(p i=true->te (some (x i)::some (y i)::cs.map fun j=>(ρ[j]?).getD none)=some (h i))) :
  au 2 cs fi (ir 0 1) tt te ρ=some (((List.range n).filter p).map h):=by
 have:=u5 (tt:=tt) (te:=te) (r:=cs.map fun j=>(ρ[j]?).getD none) (p:=p) (h:=h) (List.range n) fun i hi=>hh i (by simpa using hi)
 simp only[au,hfi,zA,fS,List.replicate,List.cons_append,List.nil_append,this]
 refine bS ?_
 rw[zD]
 refine yE (List.length_filter_le _ _) ?_
 rw[zS]
 omega
theorem uG{W:List Wy}{P:List Int}(h:P.length=W.length):kh (W.map ar) (P.map PyData.int)=(List.range W.length).map fun i=>.tuple [ar (ay W i),.int (P.getD i 0)]:=by
 apply List.ext_getElem?
 intro i
 by_cases hi:i < W.length
 ·have hz:i < (kh (W.map ar) (P.map PyData.int)).length:=by rw[nh];simp[h];exact hi
  rw[zK hz]
  obtain⟨x,y,e1,e2,e3⟩:=rL (zK hz)
  rw[zO,jP hi] at e1
  rw[zO,zK (by omega)] at e2
  cases e1
  have e2:PyData.int P[i]=y:=by simpa using e2
  rw[e3,<- e2]
  have:i < P.length:=by omega
  simp[hi,this,zG]
 ·rw[List.getElem?_eq_none (by rw[nh];simp;omega),List.getElem?_eq_none (by simp;omega)]
def Sm(P:List Int):Prop:=∀k,-1000000<=P.getD k 0/\P.getD k 0<=1000000
theorem JK{W:List Wy}{P:List Int}(hs:Sm P)(hw:W.length<=16)(b:Bool)(p:Int):LF ((own b W p).map fun i=>P.getD i 0)=true:=by
 unfold LF
 rw[zF,zJ,List.all_eq_true]
 refine⟨?_,fun x hx=>?_⟩
 ·have:=pY b W p
  rw[zD]
  omega
 ·obtain⟨i,_,rfl⟩:=zQ.mp hx
  rw[zF,zJ,zJ]
  exact hs i
theorem jc{G T:List Pl}{W:List Wy}(h:Wd G T W){P:List Int}(hp:P.length=W.length)(hs:Sm P)(b:Bool)(p:Int):bz [ax G T W,af P,.int (sI b),.int p]=some (.int (kG b W P p)):=by
 have hw:=h.wl
 refine aC ?_
 show ou [.val (ax G T W),.val (af P),.val (.int (sI b)),.val (.int p)]=_
 have hz:gP (aa (f2 ak (ab 0) (fC (.int 2))) (aa (ab 1) ae)) [some (ax G T W),some (af P),some (.int (sI b)),some (.int p)]=some ((List.range W.length).map fun i=>.tuple [ar (ay W i),.int (P.getD i 0)]):=by
  rw[<- uG hp]
  rfl
 have c:au 2 [2,3] (gP (aa (f2 ak (ab 0) (fC (.int 2))) (aa (ab 1) ae))) (ir 0 1) (fB (f2 b9 (f2 ak (ab 0) (ab 2)) (ab 3))) (ab 1) [some (ax G T W),some (af P),some (.int (sI b)),some (.int p)]=some ((own b W p).map fun i=>.int (P.getD i 0)):=by
  rw[nr (p:=fun i=>decide (aW b (ay W i)=p)) (h:=fun i=>.int (P.getD i 0)) hz (by omega) fun i hi=>⟨?_,fun _=>rfl⟩]
  ·rfl
  ·show fB (f2 b9 (f2 ak (ab 0) (ab 2)) (ab 3)) [some (ar (ay W i)),some (.int (P.getD i 0)),some (.int (sI b)),some (.int p)]=_
   exact cn (by rw[kJ (a:=.int (aW b (ay W i))) (b:=.int p) (aq (nU b _) rfl rfl) rfl,du])
 refine aH ?_
 have e:((own b W p).map fun i=>PyData.int (P.getD i 0))=((own b W p).map fun i=>P.getD i 0).map PyData.int:=by rw[zM];rfl
 show br EF (aa (cD (au 2 [2,3] (gP (aa (f2 ak (ab 0) (fC (.int 2))) (aa (ab 1) ae))) (ir 0 1) (fB (f2 b9 (f2 ak (ab 0) (ab 2)) (ab 3))) (ab 1))) ae) [some (ax G T W),some (af P),some (.int (sI b)),some (.int p)]=_
 rw[e] at c
 simp only[br,aa,ae,cD,c,zB,zA]
 show EF [.list (((own b W p).map fun i=>P.getD i 0).map PyData.int)]=_
 simp only[EF,dN,oneOf,iF,zA,cN,JK hs hw b p,if_true]
 rfl
theorem qF(L:List Pl):bL 0 (L.map aQ)=(List.range L.length).map fun i=>.tuple [nD i,aQ (L.getD i (0,[]))]:=by
 rw[enum_zip]
 apply List.ext_getElem
 ·simp
 ·intro i h1 h2
  have:i < L.length:=by simpa using h2
  simp[this,zG]
theorem o5{p:Nat->Bool}(is:List Nat):l7 [.list (is.map fun i=>.bool (p i))]=some (.bool (is.all p)):=by
 have:∀is:List Nat,boolsOf (is.map fun i=>PyData.bool (p i))=some (is.map p):=fun is=>by
  induction is with
  | nil=>rfl
  | cons i is ih=>simp[boolsOf,ih]
 simp only[l7,oneOf,zA,this,zB,List.all_map]
 rfl
theorem BW{G T:List Pl}{W:List Wy}(h:Wd G T W){P:List Int}(hp:P.length=W.length)(hs:Sm P)(b:Bool):cU [ax G T W,af P,.int (sI b)]=some (.bool ((List.range (az b G T).length).all fun i=>decide (kG b W P i<=(aR b G T i).1))):=by
 have hl:=h.pl b
 refine aC ?_
 show gn [.val (ax G T W),.val (af P),.val (.int (sI b))]=_
 have he:bN (aa (f2 ak (ab 0) (ab 2)) ae) [some (ax G T W),some (af P),some (.int (sI b))]=some ((List.range (az b G T).length).map fun i=>.tuple [nD i,aQ (aR b G T i)]):=by
  have:=qF (az b G T)
  unfold aR
  rw[<- this]
  cases b<;>rfl
 have c:=nr (cs:=[0,1,2]) (tt:=fun _=>some true) (te:=f2 Da (ah 4 bz (aa (ab 2) (aa (ab 3) (aa (ab 4) (aa (ab 0) ae))))) (f2 ak (ab 1) (fC (.int 0)))) (p:=fun _=>true) (h:=fun i=>.bool (decide (kG b W P i<=(aR b G T i).1))) he (by omega) fun i hi=>⟨rfl,fun _=>aq (a:=.int (kG b W P i)) (b:=.int (aR b G T i).1) rfl (call_of (jc h hp hs b i) rfl rfl) rfl⟩
 refine aH ?_
 show br l7 (aa (cD (au 2 [0,1,2] (bN (aa (f2 ak (ab 0) (ab 2)) ae)) (ir 0 1) (fun _=>some true) (f2 Da (ah 4 bz (aa (ab 2) (aa (ab 3) (aa (ab 4) (aa (ab 0) ae))))) (f2 ak (ab 1) (fC (.int 0)))))) ae) [some (ax G T W),some (af P),some (.int (sI b))]=_
 simp only[br,aa,ae,cD,c,zB,zA]
 rw[show (List.range (az b G T).length).filter (fun _=>true)=List.range (az b G T).length by simp,o5]
theorem FI{fa fb:Dl.Env->Option D}{ρ:Dl.Env}{d:D}(ha:fa ρ=some (.bool true))(hb:fb ρ=some d):l5 fa fb ρ=some d:=by
 simp only[l5,ha,zA,hb]
theorem Kk{fa fb:Dl.Env->Option D}{ρ:Dl.Env}(ha:fa ρ=some (.bool false)):l5 fa fb ρ=some (.bool false):=by
 simp only[l5,ha,zA]
theorem Jk{fa fb:Dl.Env->Option D}{ρ:Dl.Env}{a b:Bool}(ha:fa ρ=some (.bool a))(hb:fb ρ=some (.bool b)):l5 fa fb ρ=some (.bool (a&&b)):=by
 cases a
 ·exact Kk ha
 ·exact FI ha hb
theorem my{g:List D->Option D}{f:Dl.Env->Option D}{ρ:Dl.Env}{d:D}(h:f ρ=some d):br g (aa f ae) ρ=g [d]:=by
 simp only[br,aa,ae,h,zB,zA]
theorem iT{α:Type}{k:α->D}{f:Dl.Env->Option D}{ρ:Dl.Env}{l:List α}(h:f ρ=some (.tuple (l.map k))):br bR (aa f ae) ρ=some (nD l.length):=by
 rw[my h,CQ,zD]
noncomputable def Ph(W:List Wy)(P:List Int):Bool:=(List.range W.length).all fun k=>decide (0<=P.getD k 0)&&decide (P.getD k 0<=(ay W k).2.2)
noncomputable def Qc(b:Bool)(G T:List Pl)(W:List Wy)(P:List Int):Bool:=(List.range (az b G T).length).all fun i=>decide (kG b W P i<=(aR b G T i).1)
noncomputable def Ow(G T:List Pl)(W:List Wy)(P:List Int):Bool:=Ph W P&&(Qc false G T W P&&Qc true G T W P)
theorem JO{G T:List Pl}{W:List Wy}{P:List Int}(hp:P.length=W.length):Ow G T W P=true↔Pn G T W P:=by
 simp only[Ow,Ph,Qc,zF,List.all_eq_true,zT,zJ]
 constructor
 ·rintro⟨h1,h2,h3⟩
  exact⟨hp,h1,fun b=>by cases b<;>assumption⟩
 ·intro p
  exact⟨p.bd,p.am false,p.am true⟩
theorem Nz(P:List Int):pE (af P)=true:=rfl
theorem EK{G T:List Pl}{W:List Wy}(h:Wd G T W){P:List Int}(hp:P.length=W.length)(hs:Sm P):jz [ax G T W,af P]=some (.bool (Ow G T W P)):=by
 have hw:=h.wl
 have hlen:(P.map PyData.int).length=W.length:=by rw[zD,hp]
 refine aC ?_
 show lV [.val (ax G T W),.val (af P),.non]=_
 unfold lV
 have t1:Dl.aD 2 [0] (f2 ak (ab 0) (fC (.int 2))) [.val (ax G T W),.val (af P),.non]=some (.nx [.val (ax G T W),.val (af P),.val (.tuple (W.map ar))]):=cG (d:=.tuple (W.map ar)) rfl rfl rfl rfl
 rw[ai t1]
 have el:bx [af P,nD W.length,nD W.length]=some (.bool true):=by
  rw[show nD W.length=.int ((W.length:Nat):Int) from rfl,fv (Nz P)]
  simp[long,af,hp]
 have hl:∀ρ:Dl.Env,ab 2 ρ=some (.tuple (W.map ar))->br bR (aa (ab 2) ae) ρ=some (nD W.length):=fun ρ hr=>iT hr
 have c1:(bM (fB (ah 3 bx (aa (ab 1) (aa (br bR (aa (ab 2) ae)) (aa (br bR (aa (ab 2) ae)) ae)))))) (bO [.val (ax G T W),.val (af P),.val (.tuple (W.map ar))])=some false :=
  dZ (cn (call_of el (cons_of rfl (cons_of (hl _ rfl) (cons_of (hl _ rfl) rfl))) rfl))
 rw[ai (cA c1)]
 have hz:gP (aa (ab 2) (aa (ab 1) ae)) [some (ax G T W),some (af P),some (.tuple (W.map ar))]=some ((List.range W.length).map fun i=>.tuple [ar (ay W i),.int (P.getD i 0)]):=by
  rw[<- uG hp]
  rfl
 have c2:=nr (cs:=[]) (tt:=fun _=>some true) (te:=ah 3 ba (aa (ab 1) (aa (fC (.int 0)) (aa (f2 ak (ab 0) (fC (.int 2))) ae)))) (p:=fun _=>true) (h:=fun k=>.bool (decide (0<=P.getD k 0)&&decide (P.getD k 0<=(ay W k).2.2))) hz (by omega)
  fun i hi=>⟨rfl,fun _=>call_of (gW (d:=.int (P.getD i 0)) rfl 0 (ay W i).2.2) rfl rfl⟩
 have hall:(fB (br l7 (aa (cD (au 2 [] (gP (aa (ab 2) (aa (ab 1) ae))) (ir 0 1) (fun _=>some true) (ah 3 ba (aa (ab 1) (aa (fC (.int 0)) (aa (f2 ak (ab 0) (fC (.int 2))) ae)))))) ae))) [some (ax G T W),some (af P),some (.tuple (W.map ar))]=some (Ph W P):=by
  refine cn ?_
  simp only[br,aa,ae,cD,c2,zB,zA]
  rw[show (List.range W.length).filter (fun _=>true)=List.range W.length by simp,o5]
  rfl
 have k0:=BW h hp hs false
 have k1:=BW h hp hs true
 cases hb:Ph W P with
 | false =>
  rw[hb] at hall
  refine mq ((ku (dZ hall)).trans ?_)
  rw[Ow,hb]
  exact aH rfl
 | true =>
  rw[hb] at hall
  rw[ai (cA (dZ hall)),Ow,hb,Bool.true_and]
  exact aH (Jk (call_of k0 rfl rfl) (call_of k1 rfl rfl))
theorem oF{W:List Wy}{k:Nat}(hk:k < W.length):ay W k∈W:=eh hk ▸ List.getElem_mem hk
theorem Pn.smP{G T:List Pl}{W:List Wy}(h:Wd G T W){P:List Int}(p:Pn G T W P):Sm P:=fun k=>by
 by_cases hk:k < W.length
 ·have:=p.bd k hk
  have:=(h.wr _ (oF hk)).2.2.2
  omega
 ·rw[zG,List.getElem?_eq_none (by rw[p.len];omega)]
  simp
section
variable {G T:List Pl}{W:List Wy}{P:List Int}
theorem tK(h:Wd G T W)(p:Pn G T W P):jz [ax G T W,af P]=some (.bool true):=by
 rw[EK h p.len (p.smP h),(JO p.len).mpr p]
theorem dF(h:Wd G T W)(p:Pn G T W P):bf [ax G T W,af P]=some .none:=by
 have:eN [.val (ax G T W),.val (af P)]=some (.nx [.val (ax G T W),.val (af P)]):=by
  unfold eN
  refine (ai (bw (call_of (cx h) rfl rfl))).trans ?_
  exact cA (dZ (cn (call_of (tK h p) rfl rfl)))
 show (eN [.val (ax G T W),.val (af P)]).map _=_
 rw[this]
 rfl
theorem MC(h:Wd G T W)(p:Pn G T W P){i:Nat}(hi:i < G.length):oO [ax G T W,af P,nD i]=some (.int (kG false W P i)):=by
 refine aC ?_
 show vT [.val (ax G T W),.val (af P),.val (nD i)]=_
 unfold vT
 refine (ai (bw (call_of (dF h p) rfl rfl))).trans ?_
 have hl:(br bR (aa (f2 ak (ab 0) (fC (.int 0))) ae)) [some (ax G T W),some (af P),some (nD i)]=some (nD G.length):=iT (l:=G) (k:=aQ) (aq (a:=ax G T W) (c:=.tuple (G.map aQ)) rfl rfl rfl)
 refine (ai (bw (call_of (bZ (n:=(G.length:Nat)) (i:=(i:Nat)) (by omega) (by omega)) (cons_of rfl (cons_of hl rfl)) rfl))).trans ?_
 exact aH (call_of (jc h p.len (p.smP h) false i) rfl rfl)
theorem J6(h:Wd G T W)(p:Pn G T W P){i:Nat}(hi:i < T.length):lT [ax G T W,af P,nD i]=some (.int (kG true W P i)):=by
 refine aC ?_
 show qf [.val (ax G T W),.val (af P),.val (nD i)]=_
 unfold qf
 refine (ai (bw (call_of (dF h p) rfl rfl))).trans ?_
 have hl:(br bR (aa (f2 ak (ab 0) (fC (.int 1))) ae)) [some (ax G T W),some (af P),some (nD i)]=some (nD T.length):=iT (l:=T) (k:=aQ) (aq (a:=ax G T W) (c:=.tuple (T.map aQ)) rfl rfl rfl)
 refine (ai (bw (call_of (bZ (n:=(T.length:Nat)) (i:=(i:Nat)) (by omega) (by omega)) (cons_of rfl (cons_of hl rfl)) rfl))).trans ?_
 exact aH (call_of (jc h p.len (p.smP h) true i) rfl rfl)
end
noncomputable def mX(W:List Wy)(i:Nat):List Int:=[(ay W i).2.1,(ay W i).1]
noncomputable def iq(W:List Wy):List (List Int):=(List.range W.length).map (mX W)
noncomputable def dJ(W:List Wy):List Nat:=qj (fun i=>rk (iq W) ((iq W).getD i [])) (List.range W.length) 0
theorem F1(z:Nat->Int)(n:Nat):qj z ((List.range n).map nD) .none=(qj z (List.range n) 0).map nD:=by
 unfold qj
 rw[zD]
 split
 ·rfl
 ·rename_i h
  rw[zM]
  obtain⟨hp,_⟩:=SP.iA (z:=z) (n:=(List.range n).length) (by omega)
  refine yJ fun i hi=>?_
  have hi':i < (List.range n).length:=by have:=hp.mem_iff.mp hi;simpa using this
  rw[zS] at hi'
  simp[hi']
theorem Gv{W:List Wy}{i:Nat}(hi:i < W.length):(iq W).getD i []=mX W i:=by
 simp[iq,hi]
theorem iE{W:List Wy}(h:rH W):Ord W (dJ W) where
 perm:=hC _ _ _
 up:=by
  have hp:(dJ W).Perm (List.range W.length):=hC _ _ _
  have hs:(dJ W).Pairwise fun i j=>rk (iq W) (mX W i)<=rk (iq W) (mX W j):=by
   refine qN _ _ _ (fun i=>rk (iq W) (mX W i)) fun i hi=>?_
   rw[zS] at hi
   have e:(List.range W.length).getD i 0=i:=by simp[hi]
   show rk (iq W) ((iq W).getD i [])=rk (iq W) (mX W ((List.range W.length).getD i 0))
   rw[e,Gv hi]
  have hn:(dJ W).Nodup:=hp.nodup_iff.mpr List.nodup_range
  refine (hs.and hn).imp_of_mem fun {i j} hi hj hij=>?_
  have hi':i < W.length:=by have:=hp.mem_iff.mp hi;simpa using this
  have hj':j < W.length:=by have:=hp.mem_iff.mp hj;simpa using this
  obtain⟨hle,hne⟩:=hij
  have mj:mX W j∈iq W:=zQ.mpr ⟨j,by simpa using hj',rfl⟩
  have n1:Dl.lexLt (mX W j) (mX W i)=false:=by
   rw[Co mj,decide_eq_false_iff_not]
   omega
  simp only[mX,HT.lexLt] at n1
  by_cases e1:(ay W j).2.1=(ay W i).2.1
  ·rw[if_pos e1] at n1
   by_cases e2:(ay W j).1=(ay W i).1
   ·exact absurd (vB h hj' hi' e2 e1).symm hne
   ·rw[if_neg e2,decide_eq_false_iff_not] at n1
    exact .inr ⟨e1.symm,by omega⟩
  ·rw[if_neg e1,decide_eq_false_iff_not] at n1
   exact .inl (by omega)
theorem tup_is{fs:Dl.Env->Option (List D)}{ρ:Dl.Env}{ds:List D}(h:fs ρ=some ds)(hl:ds.length<=1000):aP fs ρ=some (.tuple ds):=by
 simp only[aP,h,zA,bS (show ds.length<=4000 by omega),zB]
theorem Qr(w:Wy):ak (ar w) (.int 0)=some (.int w.1):=rfl
theorem Qw(w:Wy):ak (ar w) (.int 1)=some (.int w.2.1):=rfl
section
variable {G T:List Pl}{W:List Wy}{P:List Int}
theorem lC(h:Wd G T W):bp [ax G T W]=some (.list ((dJ W).map nD)):=by
 have hw:=h.wl
 have t1:Dl.aD 1 [0] (f2 ak (ab 0) (fC (.int 2))) [.val (ax G T W),.non]=some (.nx [.val (ax G T W),.val (.tuple (W.map ar))]):=cG (d:=.tuple (W.map ar)) rfl rfl rfl rfl
 have hl:(br bR (aa (ab 1) ae)) [some (ax G T W),some (.tuple (W.map ar))]=some (nD W.length):=iT (l:=W) (k:=ar) rfl
 have hk:jg (aP (aa (f2 ak (f2 ak (ab 1) (ab 0)) (fC (.int 1))) (aa (f2 ak (f2 ak (ab 1) (ab 0)) (fC (.int 0))) ae))) [none,some (.tuple (W.map ar))] ((List.range W.length).map nD)=some (((List.range W.length).map nD).map fun d=>af (mX W (jB d).toNat)):=by
  refine oh fun d hd=>?_
  obtain⟨j,hj,rfl⟩:=zQ.mp hd
  have hj':j < W.length:=by simpa using hj
  have a:∀ρ:Dl.Env,ab 1 ρ=some (.tuple (W.map ar))->ab 0 ρ=some (nD j)->(f2 ak (ab 1) (ab 0)) ρ=some (ar (ay W j)):=fun ρ e1 e2=>aq (j8 hj') e1 e2
  show aP (aa (f2 ak (f2 ak (ab 1) (ab 0)) (fC (.int 1))) (aa (f2 ak (f2 ak (ab 1) (ab 0)) (fC (.int 0))) ae)) [some (nD j),some (.tuple (W.map ar))]=_
  have c2:(aa (f2 ak (f2 ak (ab 1) (ab 0)) (fC (.int 1))) (aa (f2 ak (f2 ak (ab 1) (ab 0)) (fC (.int 0))) ae)) [some (nD j),some (.tuple (W.map ar))]=some [.int (ay W j).2.1,.int (ay W j).1] :=
   cons_of (aq (Qw (ay W j)) (a _ rfl rfl) rfl) (cons_of (aq (Qr (ay W j)) (a _ rfl rfl) rfl) rfl)
  rw[tup_is c2 (by simp)]
  simp[jB,mX,af]
 have hr:rowsOf (((List.range W.length).map nD).map fun d=>af (mX W (jB d).toNat))=some (iq W):=by
  have e:(((List.range W.length).map nD).map fun d=>af (mX W (jB d).toNat))=(iq W).map af:=by
   simp only[zM,iq]
   refine yJ fun j hj=>?_
   simp[jB]
  rw[e,jW]
  intro ns hns
  obtain⟨j,_,rfl⟩:=zQ.mp hns
  exact List.cons_ne_nil _ _
 refine aC ?_
 show eK [.val (ax G T W),.non]=_
 unfold eK
 rw[ai t1]
 refine aH ?_
 have es:qx [1] (aa (br bR (aa (ab 1) ae)) ae) (aP (aa (f2 ak (f2 ak (ab 1) (ab 0)) (fC (.int 1))) (aa (f2 ak (f2 ak (ab 1) (ab 0)) (fC (.int 0))) ae))) [some (ax G T W),some (.tuple (W.map ar))]=some ((dJ W).map nD):=by
  unfold qx
  rw[cons_of hl rfl,zA]
  show (if (0:Int)<=((W.length:Nat):Int)/\((W.length:Nat):Int) < 64 then _ else none)=_
  rw[if_pos ⟨by omega,by omega⟩,yH]
  show (jg _ [none,some (.tuple (W.map ar))] ((List.range W.length).map nD)).bind _=_
  rw[hk,zA,hr,zB]
  exact congrArg some (F1 _ _)
 show cD _ [some (ax G T W),some (.tuple (W.map ar))]=_
 simp only[cD,es,zB]
theorem fy{cs:List Nat}{fi:Dl.Env->Option (List D)}{te:Dl.Env->Option D}{ρ:Dl.Env}{is:List Nat}{f:Nat->D}(hfi:fi ρ=some (is.map nD))(hl:is.length<=1000)(hh:∀i∈is,te (some (nD i)::cs.map fun j=>(ρ[j]?).getD none)=some (f i)):au 1 cs fi (fG 0) (fun _=>some true) te ρ=some (is.map f):=by
 rw[cF (h:=fun d=>f (jB d).toNat) hfi (by rw[zD];omega) fun d hd=>?_]
 ·rw[zM]
  refine congrArg some (yJ fun i _=>?_)
  simp[jB]
 ·obtain⟨i,hi,rfl⟩:=zQ.mp hd
  rw[hh i hi]
  simp[jB]
theorem rG{n:Nat}{m:List D->Option D}{fs:Dl.Env->Option (List D)}{ρ:Dl.Env}{ds es:List D}(h:m ds=some (.list es))(hf:fs ρ=some ds)(hn:ds.length=n):aV (ah n m fs) ρ=some es:=by
 simp only[aV,call_of h hf hn,zA,iF]
theorem B2(h:rH W){i:Nat}(hi:i∈dJ W):i < W.length:=by
 have:=(iE h).perm.mem_iff.mp hi
 simpa using this
theorem xQ(h:rH W):(dJ W).length=W.length:=(iE h).len
theorem pb{r:List (Option D)}:∀ (l:List Wy),dg (Il 0 1 2) (fun _=>some true) (aP (aa (ab 1) (aa (ab 0) (aa (ab 2) ae)))) (none::none::none::r) (l.map ar)=some ((l.map Mx).map ar)
 | []=>rfl
 | w::l=>by
  have ih:=pb (r:=r) l
  have hg:Il 0 1 2 (none::none::none::r) (ar w)=some (some (.int w.1)::some (.int w.2.1)::some (.int w.2.2)::r):=rfl
  rw[zI,dg,hg,zA]
  have e:aP (aa (ab 1) (aa (ab 0) (aa (ab 2) ae))) (some (.int w.1)::some (.int w.2.1)::some (.int w.2.2)::r)=some (ar (Mx w)):=rfl
  simp only[zA,if_true,e,ih,zB,zI]
theorem yu(h:Wd G T W):k6 [ax G T W]=some (ax T G (ik W (dJ W))):=by
 have hw:=h.wl
 have hn:=xQ h.wp
 refine aC ?_
 show nW [.val (ax G T W),.non]=_
 unfold nW
 refine (ai (bw (call_of (cx h) rfl rfl))).trans ?_
 have c:au 1 [0] (aV (ah 1 bp (aa (ab 0) ae))) (fG 0) (fun _=>some true) (f2 ak (f2 ak (ab 1) (fC (.int 2))) (ab 0)) [some (ax G T W),none]=some ((dJ W).map fun i=>ar (ay W i)) :=
  fy (rG (lC h) rfl rfl) (by omega) fun i hi=>aq (j8 (B2 h.wp hi)) rfl rfl
 have t2:bh 1 [0] (au 1 [0] (aV (ah 1 bp (aa (ab 0) ae))) (fG 0) (fun _=>some true) (f2 ak (f2 ak (ab 1) (fC (.int 2))) (ab 0))) [.val (ax G T W),.non]=some (.nx [.val (ax G T W),.own ((dJ W).map fun i=>ar (ay W i))]):=oU c rfl
 rw[ai t2]
 refine aH ?_
 have e3:au 3 [] (aV (ab 1)) (Il 0 1 2) (fun _=>some true) (aP (aa (ab 1) (aa (ab 0) (aa (ab 2) ae)))) [some (ax G T W),some (.list ((dJ W).map fun i=>ar (ay W i)))]=some ((ik W (dJ W)).map ar):=by
  have:=pb (r:=[]) ((dJ W).map fun i=>ay W i)
  rw[zM,zM] at this
  have hf:aV (ab 1) [some (ax G T W),some (.list ((dJ W).map fun i=>ar (ay W i)))]=some ((dJ W).map fun i=>ar (ay W i)):=rfl
  unfold au
  rw[hf,zA]
  show (dg (Il 0 1 2) (fun _=>some true) (aP (aa (ab 1) (aa (ab 0) (aa (ab 2) ae)))) [none,none,none] ((dJ W).map fun i=>ar (ay W i))).bind small=_
  rw[show ((dJ W).map fun i=>ar (ay W i))=List.map (ar ∘ fun i=>ay W i) (dJ W) from rfl,this,zA]
  rw[bS (by simp;omega),ik]
  simp only[zM]
  rfl
 show aP (aa (f2 ak (ab 0) (fC (.int 1))) (aa (f2 ak (ab 0) (fC (.int 0))) (aa (br aZ (aa (cD (au 3 [] (aV (ab 1)) (Il 0 1 2) (fun _=>some true) (aP (aa (ab 1) (aa (ab 0) (aa (ab 2) ae)))))) ae)) ae))) [some (ax G T W),some (.list ((dJ W).map fun i=>ar (ay W i)))]=_
 have e4:(br aZ (aa (cD (au 3 [] (aV (ab 1)) (Il 0 1 2) (fun _=>some true) (aP (aa (ab 1) (aa (ab 0) (aa (ab 2) ae)))))) ae)) [some (ax G T W),some (.list ((dJ W).map fun i=>ar (ay W i)))]=some (.tuple ((ik W (dJ W)).map ar)):=by
  simp only[br,aa,ae,cD,e3,zB,zA,qE]
 exact tup_is (ds:=[.tuple (T.map aQ),.tuple (G.map aQ),.tuple ((ik W (dJ W)).map ar)]) (cons_of (aq (a:=ax G T W) (b:=.int 1) (c:=.tuple (T.map aQ)) rfl rfl rfl) (cons_of (aq (a:=ax G T W) (b:=.int 0) (c:=.tuple (G.map aQ)) rfl rfl rfl) (cons_of e4 rfl))) (by simp)
theorem tU(h:Wd G T W)(p:Pn G T W P):fI [ax G T W,af P]=some (af (zz P (dJ W))):=by
 have hw:=h.wl
 have hn:=xQ h.wp
 refine aC ?_
 show fN [.val (ax G T W),.val (af P)]=_
 unfold fN
 refine (ai (bw (call_of (dF h p) rfl rfl))).trans ?_
 have c:au 1 [1] (aV (ah 1 bp (aa (ab 0) ae))) (fG 0) (fun _=>some true) (f2 ak (ab 1) (ab 0)) [some (ax G T W),some (af P)]=some ((dJ W).map fun i=>.int (P.getD i 0)) :=
  fy (rG (lC h) rfl rfl) (by omega) fun i hi=>aq (mN (by rw[p.len];exact B2 h.wp hi)) rfl rfl
 refine aH ?_
 show br aZ (aa (cD (au 1 [1] (aV (ah 1 bp (aa (ab 0) ae))) (fG 0) (fun _=>some true) (f2 ak (ab 1) (ab 0)))) ae) [some (ax G T W),some (af P)]=_
 simp only[br,aa,ae,cD,c,zB,zA,qE]
 simp[af,zz]
end
theorem Kq{f g:Dl.Env->Option D}{ρ:Dl.Env}{ds:List D}{k:Nat}(h:f ρ=some (.list ds))(h2:g ρ=some (nD k)):gT dz f (qH g) gO ρ=some (.list (ds.drop k)):=by
 have:=yP ds k
 simp only[gT,h,qH,h2,gO,gI,dz,zA,zB,this]
theorem EI{p:Nat->Bool}(is:List Nat):Rf.G8 [.list (is.map fun i=>.bool (p i))]=some (.bool (is.any p)):=by
 have:∀is:List Nat,boolsOf (is.map fun i=>PyData.bool (p i))=some (is.map p):=fun is=>by
  induction is with
  | nil=>rfl
  | cons i is ih=>simp[boolsOf,ih]
 simp only[Rf.G8,oneOf,zA,this,zB,List.any_map]
 rfl
theorem nI{α β:Type}(f:α->β)(p:β->Bool)(q:α->Bool):∀ (l:List α),(∀x∈l,p (f x)=q x)->(l.map f).findIdx p=l.findIdx q
 | [],_=>rfl
 | x::l,h=>by
  rw[zI,List.findIdx_cons,List.findIdx_cons,h x zE,nI f p q l fun y hy=>h y (zC _ hy)]
section
variable {G T:List Pl}{W:List Wy}{P:List Int}
theorem ME(h:Wd G T W){b:Bool}{i:Nat}{p:Pl}(e:(az b G T)[i]?=some p){k:Nat}(hk:k < W.length)(he:aW b (ay W k)=i):il (.list ((eR b W i p.2).map nD)) (nD k)=some (nD (sS p.2 (aY b (ay W k)))):=by
 have ko:k∈own b W i:=ck.mpr ⟨hk,he⟩
 have km:k∈eR b W i p.2:=(fU h e).mem_iff.mpr ko
 have e1:(eR b W i p.2).map nD=((eR b W i p.2).map fun j=>((j:Nat):Int)).map PyData.int:=by rw[zM];rfl
 have m1:((k:Nat):Int)∈(eR b W i p.2).map fun j=>((j:Nat):Int):=zQ.mpr ⟨k,km,rfl⟩
 rw[e1]
 show (intsOf _).bind _=_
 rw[cN,zA,jo m1,zB]
 have e2:((eR b W i p.2).map fun j=>((j:Nat):Int)).findIdx (fun o=>decide (o=((k:Nat):Int)))=sS p.2 (aY b (ay W k)):=by
  unfold eR sS
  rw[zM]
  refine nI _ _ _ _ fun x hx=>?_
  obtain⟨hl,h1,h2⟩:=gE h e hx
  show decide (((lA b W i x:Nat):Int)=(k:Int))=decide (x=aY b (ay W k))
  rw[decide_eq_decide]
  constructor
  ·intro z
   have z:lA b W i x=k:=by omega
   rw[<- z,h2]
  ·intro z
   rw[z,oG h.wp ko]
 rw[e2]
theorem nJ(h:Wd G T W)(hp:P.length=W.length)(hs:Sm P)(b:Bool){k:Nat}(hk:k < W.length):cR [ax G T W,af P,.int (sI b),nD k]=some (.bool (vC b G T W P k)):=by
 have hw:=h.wl
 obtain⟨z1,z2,z3⟩:=h.end_pl b hk
 have hx:(az b G T)[(aW b (ay W k)).toNat]?=some (aR b G T (aW b (ay W k)).toNat):=by
  rw[zK z2]
  simp[aR,z2]
 have hL:∀x∈(aR b G T (aW b (ay W k)).toNat).2,_:=fun x hx'=>gE h hx hx'
 have hb:(aR b G T (aW b (ay W k)).toNat).2.length<=16:=by
  have:=(fU h hx).length_eq
  have h2:=pY b W ((aW b (ay W k)).toNat:Int)
  unfold eR at this
  rw[zD] at this
  omega
 have ei:=ME h hx hk z3.symm
 have ew:=oZ h hx
 generalize hpl:aR b G T (aW b (ay W k)).toNat=pl at *
 generalize hj:(aW b (ay W k)).toNat=j at *
 have ez:PyData.int (aW b (ay W k))=nD j:=by rw[<- z3]
 refine aC ?_
 show gH [.val (ax G T W),.val (af P),.val (.int (sI b)),.val (nD k),.non,.non,.non]=_
 unfold gH
 have t4:Dl.aD 4 [0,2,3] (f2 ak (f2 ak (f2 ak (ab 0) (fC (.int 2))) (ab 3)) (ab 2)) [.val (ax G T W),.val (af P),.val (.int (sI b)),.val (nD k),.non,.non,.non]=some (.nx [.val (ax G T W),.val (af P),.val (.int (sI b)),.val (nD k),.val (nD j),.non,.non]):=by
  rw[<- ez]
  exact eX (d:=.int (aW b (ay W k))) (aq (nU b _) (aq (j8 hk) rfl rfl) rfl) rfl
 rw[ai t4]
 have ep:ak (.tuple ((az b G T).map aQ)) (nD j)=some (aQ pl):=ig hx
 have ct:(fB (f2 uQ (ah 4 bz (aa (ab 0) (aa (ab 1) (aa (ab 2) (aa (ab 4) ae))))) (f2 ak (f2 ak (f2 ak (ab 0) (ab 2)) (ab 4)) (fC (.int 0))))) (bO [.val (ax G T W),.val (af P),.val (.int (sI b)),.val (nD k),.val (nD j),.non,.non])=some (decide (kG b W P j < pl.1)):=by
  refine cn (aq (gJ _ _) (call_of (jc h hp hs b j) rfl rfl) ?_)
  refine aq (a:=aQ pl) (b:=.int 0) rfl (aq ep (aq (cM b G T W) rfl rfl) rfl) rfl
 have hm:vC b G T W P k=(decide (kG b W P j < pl.1)||(pl.2.drop (sS pl.2 (aY b (ay W k))+1)).any fun o=>decide (0 < P.getD (lA b W j o) 0)):=by
  unfold vC
  rw[hj,hpl,z3]
 rw[hm]
 cases hc:decide (kG b W P j < pl.1) with
 | true =>
  rw[hc] at ct
  exact mq ((ku ct).trans (aH rfl))
 | false =>
  rw[hc] at ct
  rw[ai (cA ct),Bool.false_or]
  have t5:Dl.aD 5 [0,2,4] (ah 3 cf (aa (ab 0) (aa (ab 2) (aa (ab 4) ae)))) [.val (ax G T W),.val (af P),.val (.int (sI b)),.val (nD k),.val (nD j),.non,.non]=some (.nx [.val (ax G T W),.val (af P),.val (.int (sI b)),.val (nD k),.val (nD j),.val (.list ((eR b W j pl.2).map nD)),.non]) :=
   aN (call_of ew rfl rfl) (call_of ew rfl rfl) rfl
  rw[ai t5]
  have cu:∀ρ:Dl.Env,ab 5 ρ=some (.list ((eR b W j pl.2).map nD))->ab 3 ρ=some (nD k)->(gT dz (ab 5) (qH (f2 aG (f2 il (ab 5) (ab 3)) (fC (.int 1)))) gO) ρ=some (.list (((eR b W j pl.2).map nD).drop (sS pl.2 (aY b (ay W k))+1))):=fun ρ a c =>
   Kq a (aq (cH _ _) (aq ei a c) rfl)
  have t6:Dl.aD 6 [3,5] (gT dz (ab 5) (qH (f2 aG (f2 il (ab 5) (ab 3)) (fC (.int 1)))) gO) [.val (ax G T W),.val (af P),.val (.int (sI b)),.val (nD k),.val (nD j),.val (.list ((eR b W j pl.2).map nD)),.non]=some (.nx [.val (ax G T W),.val (af P),.val (.int (sI b)),.val (nD k),.val (nD j),.val (.list ((eR b W j pl.2).map nD)),.val (.list (((eR b W j pl.2).drop (sS pl.2 (aY b (ay W k))+1)).map nD))]):=by
   rw[List.map_drop]
   exact aN (cu _ rfl rfl) (cu _ rfl rfl) rfl
  rw[ai t6]
  have c:au 1 [1] (aV (ab 6)) (fG 0) (fun _=>some true) (f2 Fk (f2 ak (ab 1) (ab 0)) (fC (.int 0))) [some (ax G T W),some (af P),some (.int (sI b)),some (nD k),some (nD j),some (.list ((eR b W j pl.2).map nD)),some (.list (((eR b W j pl.2).drop (sS pl.2 (aY b (ay W k))+1)).map nD))]=some (((eR b W j pl.2).drop (sS pl.2 (aY b (ay W k))+1)).map fun i=>.bool (decide (0 < P.getD i 0))):=by
   refine fy rfl ?_ fun i hi=>?_
   ·rw[List.length_drop,eR,zD]
    omega
   ·have hi':=List.mem_of_mem_drop hi
    unfold eR at hi'
    obtain⟨x,hx',rfl⟩:=zQ.mp hi'
    exact aq (jG _ _) (aq (mN (by rw[hp];exact (hL x hx').1)) rfl rfl) rfl
  refine aH ?_
  show br Rf.G8 (aa (cD (au 1 [1] (aV (ab 6)) (fG 0) (fun _=>some true) (f2 Fk (f2 ak (ab 1) (ab 0)) (fC (.int 0))))) ae) [some (ax G T W),some (af P),some (.int (sI b)),some (nD k),some (nD j),some (.list ((eR b W j pl.2).map nD)),some (.list (((eR b W j pl.2).drop (sS pl.2 (aY b (ay W k))+1)).map nD))]=_
  simp only[br,aa,ae,cD,c,zB,zA,EI]
  unfold eR
  rw[<- List.map_drop,List.any_map]
  rfl
noncomputable def Oq:Nat->D|0=>.str "full" | 1=>.str "giver" | 2=>.str "taker" | _=>.none
theorem Bj(h:Wd G T W)(hp:P.length=W.length)(hs:Sm P){k:Nat}(hk:k < W.length):fg [ax G T W,af P,nD k]=some (Oq (l6 G T W P k)):=by
 refine aC ?_
 show jM [.val (ax G T W),.val (af P),.val (nD k)]=_
 unfold jM l6
 have c1:(fB (f2 b9 (f2 ak (ab 1) (ab 2)) (f2 ak (f2 ak (f2 ak (ab 0) (fC (.int 2))) (ab 2)) (fC (.int 2))))) (bO [.val (ax G T W),.val (af P),.val (nD k)])=some (decide (P.getD k 0=(ay W k).2.2)) :=
  cn (aq (du _ _) (aq (mN (by rw[hp];exact hk)) rfl rfl) (aq (a:=ar (ay W k)) (b:=.int 2) rfl (aq (j8 hk) rfl rfl) rfl))
 have w0:=nJ h hp hs false hk
 have w1:=nJ h hp hs true hk
 have c2:(bM (fB (ah 4 cR (aa (ab 0) (aa (ab 1) (aa (fC (.int 0)) (aa (ab 2) ae))))))) (bO [.val (ax G T W),.val (af P),.val (nD k)])=some (!(vC false G T W P k)):=dZ (cn (call_of w0 rfl rfl))
 have c3:(bM (fB (ah 4 cR (aa (ab 0) (aa (ab 1) (aa (fC (.int 1)) (aa (ab 2) ae))))))) (bO [.val (ax G T W),.val (af P),.val (nD k)])=some (!(vC true G T W P k)):=dZ (cn (call_of w1 rfl rfl))
 by_cases e1:P.getD k 0=(ay W k).2.2
 ·rw[yB e1] at c1
  rw[if_pos e1]
  exact mq ((ku c1).trans (aH rfl))
 ·rw[yA e1] at c1
  rw[if_neg e1,ai (cA c1)]
  cases e2:vC false G T W P k with
  | false =>
   rw[e2] at c2
   rw[if_pos rfl]
   exact mq ((ku c2).trans (aH rfl))
  | true =>
   rw[e2] at c2
   rw[if_neg (by simp),ai (cA c2)]
   cases e3:vC true G T W P k with
   | false =>
    rw[e3] at c3
    rw[if_pos rfl]
    exact mq ((ku c3).trans (aH rfl))
   | true =>
    rw[e3] at c3
    rw[if_neg (by simp),ai (cA c3)]
    exact aH rfl
theorem MF(G T:List Pl)(W:List Wy)(P:List Int)(k:Nat):l6 G T W P k<=3:=by
 unfold l6
 split
 ·omega
 ·split
  ·omega
  ·split<;>omega
theorem IK(n:Nat)(h:n<=3):tX (Oq n) .none=some (.bool (decide (n=3))):=by
 match n,h with
 | 0,_=>rfl
 | 1,_=>rfl
 | 2,_=>rfl
 | 3,_=>rfl
theorem Gj{ρ:Dl.Env}{f:Dl.Env->Option D}(hp:P.length=W.length)(hf:f ρ=some (af P)):(aa (br bR (aa f ae)) ae) ρ=some [nD W.length]:=by
 have:=IT P
 rw[hp] at this
 refine cons_of ?_ rfl
 rw[my hf,this]
theorem pM(h:Wd G T W)(hp:P.length=W.length)(hs:Sm P):dY [ax G T W,af P]=some (match (List.range W.length).find? fun k=>decide (l6 G T W P k=3) with|some k=>nD k|none=>.none):=by
 have hw:=h.wl
 refine aC ?_
 show d6 [.val (ax G T W),.val (af P),.non]=_
 unfold d6
 obtain⟨f1,f2'⟩:=mr (tgt:=vI 2) (gb:=gy (fB (f2 tX (ah 3 fg (aa (ab 0) (aa (ab 1) (aa (ab 2) ae)))) (fC .none))) (aJ (ab 2)) gq) (fun ρ=>∃x,ρ=[.val (ax G T W),.val (af P),x]) nD (fun k=>decide (l6 G T W P k=3)) nD
  (l:=List.range W.length) (ρ:=[.val (ax G T W),.val (af P),.non])
  (fun ρ k hk hρ=>by
   obtain⟨x,rfl⟩:=hρ
   have hk':k < W.length:=by simpa using hk
   have c:(fB (f2 tX (ah 3 fg (aa (ab 0) (aa (ab 1) (aa (ab 2) ae)))) (fC .none))) (bO [.val (ax G T W),.val (af P),.val (nD k)])=some (decide (l6 G T W P k=3)) :=
    cn (aq (IK _ (MF G T W P k)) (call_of (Bj h hp hs hk') rfl rfl) rfl)
   refine⟨_,rfl,fun hq=>?_,fun hq=>?_⟩
   ·show gy _ _ _ [.val (ax G T W),.val (af P),.val (nD k)]=_
    rw[hq] at c
    exact (ku c).trans (aH rfl)
   ·rw[hq] at c
    exact⟨_,cA c,_,rfl⟩) ⟨_,rfl⟩
 have hr:bC (aa (br bR (aa (ab 1) ae)) ae) [some (ax G T W),some (af P),none]=some ((List.range W.length).map nD):=rF (Gj hp rfl) (by omega)
 cases e:(List.range W.length).find? fun k=>decide (l6 G T W P k=3) with
 | some k=>exact mq (dX (f1 k e) hr rfl)
 | none =>
  obtain⟨ρ',e',x,rfl⟩:=f2' e
  exact (ai (dX e' hr rfl)).trans (aH rfl)
theorem Aq(h:Wd G T W)(hp:P.length=W.length)(hs:Sm P):jH [ax G T W,af P]=some (.bool (decide (Dq G T W P=[]))):=by
 refine aC ?_
 show jV [.val (ax G T W),.val (af P)]=_
 unfold jV
 refine aH (aq ?_ (call_of (pM h hp hs) rfl rfl) rfl)
 cases e:(List.range W.length).find? fun k=>decide (l6 G T W P k=3) with
 | some k =>
  have:Dq G T W P≠[]:=fun z=>by
   have hm:=List.mem_of_find?_eq_some e
   have hq:=List.find?_some e
   have:k∈Dq G T W P:=List.mem_filter.mpr ⟨hm,hq⟩
   rw[z] at this
   cases this
  rw[yA this]
  rfl
 | none =>
  have:Dq G T W P=[]:=by
   rw[List.find?_eq_none] at e
   exact List.filter_eq_nil_iff.mpr e
  rw[yB this]
  rfl
theorem Kv(h:Wd G T W)(p:Pn G T W P):fO [ax G T W,af P]=some (.bool (decide (Dq G T W P=[]))):=by
 refine aC ?_
 show pU [.val (ax G T W),.val (af P)]=_
 unfold pU
 refine (ai (bw (call_of (dF h p) rfl rfl))).trans ?_
 exact aH (call_of (Aq h p.len (p.smP h)) rfl rfl)
theorem tH(h:Wd G T W){c:List Int}(hb:bb [ax T G (ik W (dJ W))]=some (af c))(p:Pn T G (ik W (dJ W)) c):dR [ax G T W]=some (af (zz c (dJ (ik W (dJ W))))):=by
 have o:=iE h.wp
 have h':=o.wd h
 refine aC ?_
 show fM [.val (ax G T W),.non]=_
 unfold fM
 have t1:Dl.aD 1 [0] (ah 1 k6 (aa (ab 0) ae)) [.val (ax G T W),.non]=some (.nx [.val (ax G T W),.val (ax T G (ik W (dJ W)))]):=aN (call_of (yu h) rfl rfl) (call_of (yu h) rfl rfl) rfl
 rw[ai t1]
 exact aH (call_of (tU h' p) (cons_of rfl (cons_of (call_of hb rfl rfl) rfl)) rfl)
end
theorem wy{tgt:aj->D->Option aj}{gb:aj->Option Out}(f:Nat->D)(R:Nat->aj->Prop):∀ (n k:Nat) (ρ:aj),
  (∀j ρ,k<=j->j < k+n->R j ρ->∃ρ1 ρ2,tgt ρ (f j)=some ρ1/\gb ρ1=some (.nx ρ2)/\R (j+1) ρ2)->R k ρ->∃ρ',eF tgt gb ((List.range' k n).map f) ρ=some (.nx ρ')/\R (k+n) ρ'
 | 0,k,ρ,_,h=>⟨ρ,rfl,h⟩
 | n+1,k,ρ,hh,h=>by
  obtain⟨ρ1,ρ2,e1,e2,h2⟩:=hh k ρ (Nat.le_refl _) (by omega) h
  obtain⟨ρ',e3,h3⟩:=wy f R n (k+1) ρ2 (fun j ρ a b=>hh j ρ (by omega) (by omega)) h2
  refine⟨ρ',?_,by rw[show k+(n+1)=k+1+n by omega];exact h3⟩
  rw[List.range'_succ,zI,eF,e1,zA,e2]
  exact e3
section
variable {G T:List Pl}{W:List Wy}{P:List Int}
end
section
variable {ns:List Int}{G T:List Pl}{W:List Wy}{at':Int}
theorem Iz{a b:List Int}(h:a.length+b.length<=1000):Dl.aG (af a) (af b)=some (af (a++b)):=by
 unfold af
 rw[gK (by simp;omega),List.map_append]
theorem Ez(W:List Wy):bL 0 (W.map ar)=(List.range' 0 W.length).map fun i=>.tuple [nD i,ar (ay W i)]:=by
 rw[<- yI,enum_zip]
 apply List.ext_getElem
 ·simp
 ·intro i h1 h2
  have:i < W.length:=by simpa using h2
  simp[eh this]
end
theorem qd{S:Type}(cont:S->Bool)(st:S->S)(μ:S->Nat)(I:S->Prop)(hb:∀s,I s->cont s=true->I (st s)/\μ (st s) < μ s):∀ (n:Nat) (s:S),μ s < n->I s->cont (lp cont st n s)=false/\I (lp cont st n s)
 | 0,s,h,_=>absurd h (by omega)
 | n+1,s,h,i=>by
  rw[lp]
  cases hc:cont s with
  | false=>exact⟨by simpa [hc] using hc,by simpa using i⟩
  | true =>
   obtain⟨i2,hm⟩:=hb s i hc
   have:=qd cont st μ I hb n (st s) (by omega) i2
   simpa using this
section
variable {G T:List Pl}{W:List Wy}
theorem BG{k:Nat}(hk:k < W.length):(eE W).getD k 0=(ay W k).2.2:=by
 unfold eE
 rw[zG,zO,jP hk]
 rfl
theorem m7(h:Wd G T W):sr G T W (fin G T W).2=none/\z6 W (fin G T W)/\∀k,k < W.length->(fin G T W).2.getD k 0<=(ay W k).2.2:=by
 have hb:=h.mea
 obtain⟨h1,i,h2⟩:=qd (KJ G T W) (spS G T W) (fun s=>mea s.2) (fun s=>z6 W s/\∀k,k < W.length->s.2.getD k 0<=(ay W k).2.2)
  (fun s ⟨i,l⟩ hc=>by
   obtain⟨p,e⟩:=ni hc
   obtain⟨a,b,c⟩:=B0 h i.off e
   obtain⟨i2,hm⟩:=i.step h e
   refine⟨⟨i2,fun k hk=>?_⟩,hm⟩
   rw[rE e]
   show (s.2.set p.1 p.2).getD k 0<=_
   by_cases z:k=p.1
   ·subst z
    have:=l p.1 a
    have hl:p.1 < s.2.length:=by rw[i.len];exact a
    rw[show (s.2.set p.1 p.2).getD p.1 0=p.2 by simp[hl]]
    omega
   ·rw[show (s.2.set p.1 p.2).getD k 0=s.2.getD k 0 by simp[List.getElem?_set_ne (Ne.symm z)]]
    exact l k hk) Rf.turns ([],eE W) (Nat.lt_of_le_of_lt hb (by decide)) ⟨z6.start h,fun k hk=>by rw[BG hk];omega⟩
 refine⟨?_,i,h2⟩
 have:KJ G T W (fin G T W)=false:=h1
 unfold KJ at this
 exact Option.isNone_iff_eq_none.mp (by simpa using this)
noncomputable def kL(G T:List Pl)(W:List Wy):List Int:=bI false G T W (fin G T W).2
theorem gf(h:Wd G T W):Pn G T W (kL G T W):=by
 obtain⟨h1,i,h2⟩:=m7 h
 exact JW h i.off h2 h1
theorem qV(h:Wd G T W):bb [ax G T W]=some (af (kL G T W)):=ud h
theorem pk:∀ {l:List D},(∀d∈l,PyData.eqv d d=true)->PyData.eqvAll l l=true
 | [],_=>by simp[PyData.eqvAll]
 | d::l,h=>by
  rw[PyData.eqvAll,h d zE,pk fun x hx=>h x (zC _ hx)]
  rfl
theorem l4{l:List D}(h:∀d∈l,PyData.eqv d d=true):PyData.eqv (.tuple l) (.tuple l)=true:=by
 rw[PyData.eqv,pk h]
theorem rf(a:List Int):PyData.eqv (af a) (af a)=true:=by rw[qT];simp
theorem LP(a:Int):PyData.eqv (.int a) (.int a)=true:=by
 have:=rf [a]
 rw[af,PyData.eqv,zI,List.map_nil,PyData.eqvAll] at this
 simp only[zF] at this
 exact this.1
theorem Cs(p:Pl):PyData.eqv (aQ p) (aQ p)=true:=l4 fun d hd=>by
 rcases zR.mp hd with rfl|hd
 ·exact LP _
 ·rw[yL] at hd
  subst hd
  exact rf _
theorem IL(w:Wy):PyData.eqv (ar w) (ar w)=true:=rf [w.1,w.2.1,w.2.2]
theorem M4(G T:List Pl)(W:List Wy):PyData.eqv (ax G T W) (ax G T W)=true:=l4 fun d hd=>by
 rcases zR.mp hd with rfl|hd
 ·exact l4 fun d hd=>by obtain⟨p,_,rfl⟩:=zQ.mp hd;exact Cs p
 rcases zR.mp hd with rfl|hd
 ·exact l4 fun d hd=>by obtain⟨p,_,rfl⟩:=zQ.mp hd;exact Cs p
 ·rw[yL] at hd
  subst hd
  exact l4 fun d hd=>by obtain⟨p,_,rfl⟩:=zQ.mp hd;exact IL p
theorem Ca(h:Wd G T W):fT (ax G T W) (ax G T W)=some (.bool false):=by
 have hs:SeqAt.shaped (ax G T W)=true:=h.fit.shaped (by decide)
 simp only[fT,LG,hs,and_self,if_true,M4,zB,Bool.not_true]
end
section
variable {W:List Wy}{G T:List Pl}{P off:List Int}
theorem Hb:∀ (xs:List Nat),(∀i∈xs,0<=off.getD i 0)->0<=(xs.map fun i=>off.getD i 0).sum
 | [],_=>by simp
 | i::xs,h=>by
  have:=Hb xs fun j hj=>h j (zC _ hj)
  have:=h i zE
  rw[zI,List.sum_cons];omega
theorem BZ:∀ (xs:List Nat),(∀i∈xs,0<=P.getD i 0)->(0 < (xs.map fun i=>P.getD i 0).sum↔(xs.any fun i=>decide (0 < P.getD i 0))=true)
 | [],_=>by simp
 | i::xs,h=>by
  have ih:=BZ xs fun j hj=>h j (zC _ hj)
  have h0:=Hb (off:=P) xs fun j hj=>h j (zC _ hj)
  have hi:=h i zE
  rw[zI,List.sum_cons,List.any_cons,Bool.or_eq_true,zJ,<- ih]
  omega
theorem Jx(h:Wd G T W){b:Bool}{k:Nat}(hk:k < W.length) :
  let i:=(aW b (ay W k)).toNat
  let L:=(aR b G T i).2
  eR b W i L=(L.take (sS L (aY b (ay W k)))).map (lA b W i)++k::(L.drop (sS L (aY b (ay W k))+1)).map (lA b W i):=by
 intro i L
 obtain⟨h1,h2,h3⟩:=h.end_pl b hk
 have e:=bV h2
 have hm:aY b (ay W k)∈L:=by
  rw[(h.lik e).mem_iff,<- lS]
  exact zQ.mpr ⟨k,ck.mpr ⟨hk,h3.symm⟩,rfl⟩
 have hlt:sS L (aY b (ay W k)) < L.length:=by
  unfold sS
  exact List.findIdx_lt_length_of_exists ⟨_,hm,by simp⟩
 have hg:L[sS L (aY b (ay W k))]=aY b (ay W k):=by
  have:=List.findIdx_getElem (w:=hlt)
  exact of_decide_eq_true this
 have hx:lA b W i (aY b (ay W k))=k:=oG h.wp (ck.mpr ⟨hk,h3.symm⟩)
 unfold eR
 conv=>lhs;rw[<- List.take_append_drop (sS L (aY b (ay W k))) L,List.drop_eq_getElem_cons hlt,hg,List.map_append,zI,hx]
end
noncomputable def sm(l:List Nat)(f:Nat->Int):Int:=(l.map f).sum
theorem aX(q:Nat)(l:List Nat)(f:Nat->Int):sm (q::l) f=f q+sm l f:=by simp[sm]
theorem sd(l r:List Nat)(f:Nat->Int):sm (l++r) f=sm l f+sm r f:=by simp[sm]
theorem qc(q:Nat)(f:Nat->Int):sm [q] f=f q:=by simp[sm]
theorem cZ:∀ {l:List Nat}{f g:Nat->Int},(∀q∈l,f q=g q)->sm l f=sm l g
 | [],_,_,_=>rfl
 | q::l,f,g,h=>by rw[aX,aX,h q zE,cZ fun x hx=>h x (zC _ hx)]
theorem o6:∀ {l:List Nat}{f g:Nat->Int},(∀q∈l,f q<=g q)->sm l f<=sm l g
 | [],_,_,_=>Int.le_refl _
 | q::l,f,g,h=>by
  have h1:=h q zE
  have h2:=o6 (l:=l) fun x hx=>h x (zC _ hx)
  rw[aX,aX]
  omega
theorem pf{l:List Nat}{f:Nat->Int}(h:∀q∈l,0<=f q):0<=sm l f:=by
 have:sm l (fun _=>0)=0:=by induction l with
  | nil=>rfl
  | cons q l ih=>rw[aX,ih fun x hx=>h x (zC _ hx)];rfl
 rw[<- this]
 exact o6 h
theorem C9:∀ {l:List Nat}{f g:Nat->Int}{p:Nat},(∀q∈l,f q<=g q)->p∈l->f p < g p->sm l f < sm l g
 | q::l,f,g,p,h,hp,e=>by
  have h1:=h q zE
  have h2:=o6 (l:=l) fun x hx=>h x (zC _ hx)
  rw[aX,aX]
  rcases zR.mp hp with z|z
  ·subst z;omega
  ·have:=C9 (l:=l) (fun x hx=>h x (zC _ hx)) z e
   omega
theorem NS{l:List Nat}{f g:Nat->Int}{p:Nat}(h:sm l f<=sm l g)(hp:p∈l)(e:g p < f p):∃q∈l,f q < g q:=by
 refine Classical.byContradiction fun hn=>?_
 have:∀q∈l,g q<=f q:=fun q hq=>by
  refine Classical.byContradiction fun z=>hn ⟨q,hq,by omega⟩
 have:=C9 this hp e
 omega
theorem Na{l:List Nat}{f:Nat->Int}{p:Nat}(h:∀q∈l,0<=f q)(hp:p∈l):f p<=sm l f:=by
 obtain⟨xs,ys,rfl⟩:=List.append_of_mem hp
 rw[sd,aX]
 have h1:=pf (l:=xs) fun q hq=>h q (List.mem_append_left _ hq)
 have h2:=pf (l:=ys) fun q hq=>h q (yF _ (zC _ hq))
 omega
theorem BY{l r:List Nat}(p:l.Perm r)(f:Nat->Int):sm l f=sm r f:=by
 induction p with
 | nil=>rfl
 | cons x _ ih=>rw[aX,aX,ih]
 | swap x y l=>rw[aX,aX,aX,aX];omega
 | trans _ _ h1 h2=>rw[h1,h2]
noncomputable def ch(m:Nat->Int):Int->List Nat->Nat->Int
 | _,[],_=>0
 | a,q::r,k=>if k=q then min (m q) a else ch m (a - min (m q) a) r k
theorem bP(m:Nat->Int)(a:Int)(q:Nat)(r:List Nat):ch m a (q::r) q=min (m q) a:=by simp[ch]
theorem bK{m:Nat->Int}{a:Int}{q k:Nat}{r:List Nat}(h:k≠q):ch m a (q::r) k=ch m (a - min (m q) a) r k:=by simp[ch,h]
theorem Gm{m:Nat->Int}:∀ {a:Int}{l:List Nat},(∀q∈l,0<=m q)->0<=a->∀k,0<=ch m a l k/\ch m a l k<=a/\(k∈l->ch m a l k<=m k)
 | a,[],_,ha,k=>⟨Int.le_refl _,ha,fun h=>by cases h⟩
 | a,q::r,hm,ha,k=>by
  have h0:=hm q zE
  by_cases e:k=q
  ·subst e
   rw[bP]
   exact⟨by omega,by omega,fun _=>by omega⟩
  ·rw[bK e]
   obtain⟨h1,h2,h3⟩:=Gm (m:=m) (a:=a - min (m q) a) (l:=r) (fun x hx=>hm x (zC _ hx)) (by omega) k
   refine⟨h1,by omega,fun hk=>?_⟩
   rcases zR.mp hk with z|z
   ·exact absurd z e
   ·exact h3 z
theorem HZ{m:Nat->Int}:∀ {a:Int}{l:List Nat},l.Nodup->(∀q∈l,0<=m q)->0<=a->sm l (ch m a l)=min a (sm l m)
 | a,[],_,_,ha=>by simp[sm];omega
 | a,q::r,hn,hm,ha=>by
  rw[List.nodup_cons] at hn
  have h0:=hm q zE
  have hr:∀x∈r,0<=m x:=fun x hx=>hm x (zC _ hx)
  have hs:=pf hr
  have ih:=HZ (m:=m) (a:=a - min (m q) a) hn.2 hr (by omega)
  rw[aX,aX,bP,cZ (g:=ch m (a - min (m q) a) r) fun x hx=>bK fun e=>hn.1 (e ▸ hx),ih]
  omega
theorem Cd{m:Nat->Int}:∀ {a a':Int}{l:List Nat}{k:Nat},a<=a'->ch m a l k<=ch m a' l k
 | _,_,[],_,_=>Int.le_refl _
 | a,a',q::r,k,h=>by
  by_cases e:k=q
  ·subst e
   rw[bP,bP]
   omega
  ·rw[bK e,bK e]
   exact Cd (by omega)
theorem CG{m m':Nat->Int}:∀ {a:Int}{l:List Nat},l.Nodup->(∀q∈l,ch m a l q<=m' q/\m' q<=m q)->∀k,ch m' a l k=ch m a l k
 | _,[],_,_,_=>rfl
 | a,q::r,hn,h,k=>by
  rw[List.nodup_cons] at hn
  have h0:=h q zE
  rw[bP] at h0
  have e0:min (m' q) a=min (m q) a:=by omega
  by_cases e:k=q
  ·subst e
   rw[bP,bP,e0]
  ·rw[bK e,bK e,e0]
   exact CG hn.2 (fun x hx=>by
    have:=h x (zC _ hx)
    rwa [bK (show x≠q from fun z=>hn.1 (z ▸ hx))] at this) k
theorem rm{m m':Nat->Int}:∀ {a:Int}{l:List Nat},(∀q∈l,m q=m' q)->∀k,ch m a l k=ch m' a l k
 | _,[],_,_=>rfl
 | a,q::r,h,k=>by
  have h0:=h q zE
  by_cases e:k=q
  ·subst e
   rw[bP,bP,h0]
  ·rw[bK e,bK e,h0]
   exact rm (fun x hx=>h x (zC _ hx)) k
noncomputable def up:List Nat->Nat->List Nat
 | [],_=>[]
 | q::r,k=>if k=q then [q] else q::up r k
theorem dG(q:Nat)(r:List Nat):up (q::r) q=[q]:=by simp[up]
theorem dh{q k:Nat}{r:List Nat}(h:k≠q):up (q::r) k=q::up r k:=by simp[up,h]
theorem gm:∀ {l:List Nat}{k q:Nat},q∈up l k->q∈l
 | [],_,_,h=>by cases h
 | x::l,k,q,h=>by
  by_cases e:k=x
  ·subst e
   rw[dG,yL] at h
   exact h ▸ zE
  ·rw[dh e] at h
   rcases zR.mp h with z|z
   ·exact z ▸ zE
   ·exact zC _ (gm z)
theorem vW:∀ {l:List Nat}{k:Nat},k∈l->k∈up l k
 | x::l,k,h=>by
  by_cases e:k=x
  ·subst e
   rw[dG]
   exact zE
  ·rw[dh e]
   rcases zR.mp h with z|z
   ·exact absurd z e
   ·exact zC _ (vW z)
theorem vb:∀ {xs ys:List Nat}{k:Nat},k∉xs->up (xs++k::ys) k=xs++[k]
 | [],ys,k,_=>dG _ _
 | x::xs,ys,k,h=>by
  rw[zR,not_or] at h
  rw[List.cons_append,dh h.1,vb h.2]
  rfl
theorem wZ{l:List Nat}{k:Nat}(hn:l.Nodup)(hk:k∈l):∃ys,l=up l k++ys/\(∀q∈ys,q∉up l k):=by
 obtain⟨xs,ys,rfl⟩:=List.append_of_mem hk
 have hx:k∉xs:=fun z=>by
  rw[List.nodup_append] at hn
  exact hn.2.2 k z k zE rfl
 refine⟨ys,by rw[vb hx];simp,fun q hq hq2=>?_⟩
 rw[vb hx] at hq2
 rw[show xs++k::ys=(xs++[k])++ys by simp,List.nodup_append] at hn
 exact hn.2.2 q hq2 q hq rfl
theorem CN:∀ {l:List Nat}{k q:Nat},l.Nodup->q∈up l k->k∈up l q->k=q
 | [],_,_,_,h,_=>by cases h
 | x::l,k,q,hn,h1,h2=>by
  rw[List.nodup_cons] at hn
  by_cases e:k=x
  ·subst e
   rw[dG,yL] at h1
   exact h1.symm
  ·by_cases e2:q=x
   ·subst e2
    rw[dG,yL] at h2
    exact h2
   ·rw[dh e] at h1
    rw[dh e2] at h2
    rcases zR.mp h1 with z|z
    ·exact absurd z e2
    ·rcases zR.mp h2 with z2|z2
     ·exact absurd z2 e
     ·exact CN hn.2 z z2
theorem CW{m:Nat->Int}:∀ {a:Int}{l:List Nat}{k:Nat},l.Nodup->k∈l->ch m a l k < m k->sm (up l k) (ch m a l)=a
 | a,q::r,k,hn,hk,h=>by
  rw[List.nodup_cons] at hn
  by_cases e:k=q
  ·subst e
   rw[bP] at h
   rw[dG,qc,bP]
   omega
  ·rw[bK e] at h
   have hk':k∈r:=by
    rcases zR.mp hk with z|z
    ·exact absurd z e
    ·exact z
   have ih:=CW hn.2 hk' h
   rw[dh e,aX,bP,cZ (g:=ch m (a - min (m q) a) r) fun x hx=>bK fun z=>hn.1 (z ▸ gm hx),ih]
   omega
theorem Fy{m:Nat->Int}:∀ {a:Int}{l:List Nat}{k q:Nat},l.Nodup->(∀x∈l,0<=m x)->0<=a->0 < ch m a l k->q∈up l k->q≠k->ch m a l q=m q
 | a,[],_,_,_,_,_,_,h,_=>by cases h
 | a,x::r,k,q,hn,hm,ha,h,hq,hne=>by
  rw[List.nodup_cons] at hn
  have h0:=hm x zE
  have hr:∀y∈r,0<=m y:=fun y hy=>hm y (zC _ hy)
  by_cases e:k=x
  ·subst e
   rw[dG,yL] at hq
   exact absurd hq hne
  ·rw[bK e] at h
   rw[dh e] at hq
   rcases zR.mp hq with z|z
   ·subst z
    rw[bP]
    have:=(Gm (m:=m) (a:=a - min (m q) a) hr (by omega) k).2.1
    omega
   ·have hqx:q≠x:=fun w=>hn.1 (w ▸ gm z)
    rw[bK hqx]
    exact Fy hn.2 hr (by omega) h z hne
theorem K3{m:Nat->Int}:∀ {a:Int}{l:List Nat}{k:Nat},l.Nodup->(∀x∈l,0<=m x)->0<=a->k∈l->sm (up l k) (ch m a l)=min a (sm (up l k) m)
 | a,q::r,k,hn,hm,ha,hk=>by
  rw[List.nodup_cons] at hn
  have h0:=hm q zE
  have hr:∀y∈r,0<=m y:=fun y hy=>hm y (zC _ hy)
  by_cases e:k=q
  ·subst e
   rw[dG,qc,qc,bP]
   omega
  ·have hk':k∈r:=by
    rcases zR.mp hk with z|z
    ·exact absurd z e
    ·exact z
   have ih:=K3 (m:=m) (a:=a - min (m q) a) hn.2 hr (by omega) hk'
   have hs:=pf (l:=up r k) fun y hy=>hr y (gm hy)
   rw[dh e,aX,aX,bP,cZ (g:=ch m (a - min (m q) a) r) fun x hx=>bK fun z=>hn.1 (z ▸ gm hx),ih]
   omega
theorem EY{m m':Nat->Int}{p:Nat}:∀ {a:Int}{l:List Nat},l.Nodup->(∀x∈l,x≠p->m' x=m x)->m' p<=ch m a l p->(∀k∈l,k≠p->ch m a l k<=ch m' a l k)/\(p∈l->ch m' a l p=m' p)
 | _,[],_,_,_=>⟨fun _ h=>absurd h yG,fun h=>absurd h yG⟩
 | a,q::r,hn,h,hp=>by
  rw[List.nodup_cons] at hn
  by_cases e:q=p
  ·subst e
   rw[bP] at hp
   have hs:∀x∈r,m' x=m x:=fun x hx=>h x (zC _ hx) fun z=>hn.1 (z ▸ hx)
   refine⟨fun k hk hne=>?_,fun _=>?_⟩
   ·rw[bK hne,bK hne,rm (m:=m') (m':=m) hs]
    exact Cd (by omega)
   ·rw[bP];omega
  ·have hq:=h q zE e
   rw[bK (Ne.symm e)] at hp
   obtain⟨i1,i2⟩:=EY (m:=m) (m':=m') (p:=p) (a:=a - min (m q) a) hn.2 (fun x hx=>h x (zC _ hx)) hp
   refine⟨fun k hk hne=>?_,fun hk=>?_⟩
   ·by_cases e2:k=q
    ·subst e2
     rw[bP,bP,hq]
     exact Int.le_refl _
    ·rw[bK e2,bK e2,hq]
     rcases zR.mp hk with z|z
     ·exact absurd z e2
     ·exact i1 k z hne
   ·rw[bK (Ne.symm e),hq]
    rcases zR.mp hk with z|z
    ·exact absurd z.symm e
    ·exact i2 z
theorem K4{m X:Nat->Int}:∀ {a:Int}{l:List Nat},l.Nodup->(∀q∈l,0<=X q/\X q<=m q)->sm l X<=a->(∀k∈l,X k=m k\/sm (up l k) X=a)->∀k∈l,ch m a l k=X k
 | _,[],_,_,_,_,_,h=>by cases h
 | a,q::r,hn,hX,hs,h,k,hk=>by
  rw[List.nodup_cons] at hn
  have h0:=hX q zE
  have hr:∀y∈r,0<=X y/\X y<=m y:=fun y hy=>hX y (zC _ hy)
  have hnn:=pf (l:=r) fun y hy=>(hr y hy).1
  rw[aX] at hs
  have e0:min (m q) a=X q:=by
   rcases h q zE with z|z
   ·omega
   ·rw[dG,qc] at z
    omega
  by_cases e:k=q
  ·subst e
   rw[bP,e0]
  ·rw[bK e,e0]
   rcases zR.mp hk with z|z
   ·exact absurd z e
   ·refine K4 hn.2 hr (by omega) (fun j hj=>?_) k z
    have hjq:j≠q:=fun w=>hn.1 (w ▸ hj)
    rcases h j (zC _ hj) with w|w
    ·exact .inl w
    ·rw[dh hjq,aX] at w
     exact .inr (by omega)
noncomputable def aE(b:Bool)(W:List Wy)(k:Nat):Nat:=(aW b (ay W k)).toNat
noncomputable def lst(b:Bool)(G T:List Pl)(W:List Wy)(i:Nat):List Nat:=eR b W i (aR b G T i).2
noncomputable def amt(b:Bool)(G T:List Pl)(i:Nat):Int:=(aR b G T i).1
noncomputable def mm(W:List Wy)(off:List Int)(q:Nat):Int:=min (off.getD q 0) (ay W q).2.2
noncomputable def vl(P:List Int)(q:Nat):Int:=P.getD q 0
section
variable {G T:List Pl}{W:List Wy}{P X c off:List Int}{b:Bool}{i k q:Nat}
theorem bT(h:Wd G T W)(b:Bool)(hk:k < W.length):aE b W k < (az b G T).length:=(h.end_pl b hk).2.1
theorem jh(h:Wd G T W)(hi:i < (az b G T).length):(lst b G T W i).Perm (own b W i):=fU h (bV hi)
theorem bH(h:Wd G T W)(hi:i < (az b G T).length):(lst b G T W i).Nodup:=(jh h hi).nodup_iff.mpr (List.nodup_range.filter _)
theorem d5(h:Wd G T W)(hi:i < (az b G T).length):q∈lst b G T W i↔q < W.length/\aE b W q=i:=by
 rw[(jh h hi).mem_iff,ck]
 constructor
 ·rintro⟨h1,h2⟩
  exact⟨h1,by unfold aE;rw[h2];simp⟩
 ·rintro⟨h1,h2⟩
  have:=(h.end_pl b h1).2.2
  unfold aE at h2
  rw[h2] at this
  exact⟨h1,this.symm⟩
theorem cq(h:Wd G T W)(b:Bool)(hk:k < W.length):k∈lst b G T W (aE b W k):=(d5 h (bT h b hk)).mpr ⟨hk,rfl⟩
theorem CI(h:Wd G T W)(ho:Off off)(q:Nat):0<=mm W off q:=by
 have h1:=ho q
 have h2:=h.lim q
 unfold mm
 omega
theorem AG:∀ (is:List Nat) (a:Int) (l:List Int),is.Nodup->(∀i∈is,i < l.length)->∀k,(is.foldl (mV W off) (a,l)).2.getD k 0=if k∈is then ch (mm W off) a is k else l.getD k 0
 | [],a,l,_,_,k=>by simp
 | q::is,a,l,hn,hl,k=>by
  rw[List.nodup_cons] at hn
  have ih:=AG is (a - cV W off a q) (l.set q (cV W off a q)) hn.2 (fun i hi=>by rw[yD];exact hl i (zC _ hi)) k
  rw[yK]
  show (is.foldl (mV W off) (a - cV W off a q,l.set q (cV W off a q))).2.getD k 0=_
  rw[ih]
  have hq:=hl q zE
  by_cases e:k=q
  ·subst e
   rw[if_neg hn.1,if_pos zE,bP,cT,if_pos ⟨rfl,hq⟩]
   rfl
  ·rw[bK e]
   by_cases hk:k∈is
   ·rw[if_pos hk,if_pos (zC _ hk)]
    rfl
   ·rw[if_neg hk,if_neg (by rw[zR,not_or];exact⟨e,hk⟩),cT,if_neg (fun z=>e z.1.symm)]
theorem iH(h:Wd G T W)(b:Bool)(off:List Int)(hk:k < W.length):(bI b G T W off).getD k 0=ch (mm W off) (amt b G T (aE b W k)) (lst b G T W (aE b W k)) k:=by
 have hi:=bT h b hk
 rw[GL h b hk]
 show (n9 W off (amt b G T (aE b W k)) (lst b G T W (aE b W k))).getD k 0=_
 unfold n9
 rw[AG _ _ _ (bH h hi) (fun j hj=>by rw[List.length_replicate];exact ((d5 h hi).mp hj).1),if_pos (cq h b hk)]
theorem sg(h:Wd G T W)(b:Bool)(i:Nat):0<=amt b G T i:=h.amt b i
theorem jS(h:Wd G T W)(hi:i < (az b G T).length):kG b W P i=sm (lst b G T W i) (vl P):=by
 unfold kG
 rw[BY (jh h hi)]
 rfl
def Fl(b:Bool)(G T:List Pl)(W:List Wy)(P:List Int)(k:Nat):Prop:=sm (up (lst b G T W (aE b W k)) k) (vl P)=amt b G T (aE b W k)
def Rs(G T:List Pl)(W:List Wy)(P:List Int):Prop:=∀k,k < W.length->P.getD k 0=(ay W k).2.2\/Fl false G T W P k\/Fl true G T W P k
theorem Pn.nn(p:Pn G T W P)(q:Nat):0<=vl P q:=by
 by_cases hq:q < W.length
 ·exact (p.bd q hq).1
 ·unfold vl
  rw[jd (by rw[p.len];omega)]
  omega
theorem Pn.le_sm(h:Wd G T W)(p:Pn G T W P)(hi:i < (az b G T).length):sm (lst b G T W i) (vl P)<=amt b G T i:=by
 rw[<- jS h hi]
 exact p.am b i hi
theorem CM(h:Wd G T W)(p:Pn G T W P)(b:Bool)(hk:k < W.length):vC b G T W P k=false↔Fl b G T W P k:=by
 obtain⟨z1,z2,z3⟩:=h.end_pl b hk
 have hc:lst b G T W (aE b W k)=((aR b G T (aE b W k)).2.take (sS (aR b G T (aE b W k)).2 (aY b (ay W k)))).map (lA b W (aE b W k))++k::((aR b G T (aE b W k)).2.drop (sS (aR b G T (aE b W k)).2 (aY b (ay W k))+1)).map (lA b W (aE b W k)):=Jx h hk
 have hn:=bH (b:=b) h z2
 change (lst b G T W (aE b W k)).Nodup at hn
 have hle:=p.le_sm h z2
 change sm (lst b G T W (aE b W k)) (vl P)<=amt b G T (aE b W k) at hle
 have hth:=jS (P:=P) h z2
 have hy:vC b G T W P k=(decide (kG b W P ((aE b W k:Nat):Int) < amt b G T (aE b W k))||(((aR b G T (aE b W k)).2.drop (sS (aR b G T (aE b W k)).2 (aY b (ay W k))+1)).map (lA b W (aE b W k))).any fun q=>decide (0 < vl P q)):=by
  unfold vC
  rw[List.any_map]
  unfold aE amt
  rw[z3]
  rfl
 change kG b W P ((aE b W k:Nat):Int)=sm (lst b G T W (aE b W k)) (vl P) at hth
 unfold Fl
 rw[hy,hth]
 revert hc
 generalize ((aR b G T (aE b W k)).2.take (sS (aR b G T (aE b W k)).2 (aY b (ay W k)))).map (lA b W (aE b W k))=xs
 generalize ((aR b G T (aE b W k)).2.drop (sS (aR b G T (aE b W k)).2 (aY b (ay W k))+1)).map (lA b W (aE b W k))=ys
 intro hc
 have hx:k∉xs:=fun z=>by
  rw[hc,List.nodup_append] at hn
  exact hn.2.2 k z k zE rfl
 rw[hc,vb hx]
 rw[hc] at hle
 have e:sm (xs++k::ys) (vl P)=sm (xs++[k]) (vl P)+sm ys (vl P):=by
  rw[<- sd]
  simp
 have hnn:=pf (l:=ys) fun q _=>p.nn q
 have hpos:=BZ (P:=P) ys fun q _=>p.nn q
 change (0 < sm ys (vl P)↔(ys.any fun q=>decide (0 < vl P q))=true) at hpos
 rw[e] at hle ⊢
 rw[Bool.or_eq_false_iff,decide_eq_false_iff_not]
 constructor
 ·rintro⟨h1,h2⟩
  have:¬ 0 < sm ys (vl P):=fun z=>by rw[hpos.mp z] at h2;cases h2
  omega
 ·intro h1
  refine⟨by omega,?_⟩
  cases hh:(ys.any fun q=>decide (0 < vl P q)) with
  | false=>rfl
  | true=>have:=hpos.mpr hh;omega
theorem rO(h:Wd G T W)(p:Pn G T W P):Dq G T W P=[]↔Rs G T W P:=by
 unfold Dq
 rw[List.filter_eq_nil_iff]
 constructor
 ·intro hh k hk
  have:=hh k (by simpa using hk)
  rw[zJ] at this
  unfold l6 at this
  by_cases e1:P.getD k 0=(ay W k).2.2
  ·exact .inl e1
  ·rw[if_neg e1] at this
   by_cases e2:vC false G T W P k=false
   ·exact .inr (.inl ((CM h p false hk).mp e2))
   ·rw[if_neg e2] at this
    by_cases e3:vC true G T W P k=false
    ·exact .inr (.inr ((CM h p true hk).mp e3))
    ·rw[if_neg e3] at this
     exact absurd rfl this
 ·intro hh k hk
  rw[zJ]
  unfold l6
  rcases hh k (by simpa using hk) with e|e|e
  ·rw[if_pos e];omega
  ·rw[if_pos ((CM h p false (by simpa using hk)).mpr e)]
   split<;>omega
  ·rw[if_pos ((CM h p true (by simpa using hk)).mpr e)]
   split
   ·omega
   ·split<;>omega
theorem xf(e:sr G T W c=some (k,q')):k < W.length/\q'=(kC G T W c).getD k 0/\(kC G T W c).getD k 0 < (bI false G T W c).getD k 0:=by
 unfold sr at e
 obtain⟨j,hj,e2⟩:=Dl.ag e
 cases e2
 have hm:=List.mem_of_find?_eq_some hj
 have hq:=List.find?_some hj
 rw[qR,zJ] at hq
 exact⟨zT.mp hm,rfl,hq⟩
theorem JU(e:sr G T W c=none)(hk:k < W.length):(bI false G T W c).getD k 0<=(kC G T W c).getD k 0:=by
 unfold sr at e
 rw[Option.map_eq_none_iff] at e
 have:=List.find?_eq_none.mp e k (by simpa using hk)
 rw[qR,zJ] at this
 omega
end
section
variable {G T:List Pl}{W:List Wy}{P X c off:List Int}{b:Bool}{i k q:Nat}
theorem mP(h:Wd G T W)(hk:k < W.length)(hq:q∈lst b G T W (aE b W k)):q < W.length/\aE b W q=aE b W k:=(d5 h (bT h b hk)).mp hq
theorem mQ(h:Wd G T W)(hi:i < (az b G T).length)(hq:q∈lst b G T W i):vl (bI b G T W off) q=ch (mm W off) (amt b G T i) (lst b G T W i) q:=by
 obtain⟨h1,h2⟩:=(d5 h hi).mp hq
 have:=iH h b off h1
 rw[h2] at this
 exact this
theorem ES(h:Wd G T W)(ho:Off off)(b:Bool)(hk:k < W.length):sm (up (lst b G T W (aE b W k)) k) (vl (bI b G T W off))=min (amt b G T (aE b W k)) (sm (up (lst b G T W (aE b W k)) k) (mm W off)):=by
 have hi:=bT h b hk
 rw[cZ fun q hq=>mQ h hi (gm hq)]
 exact K3 (bH h hi) (fun q _=>CI h ho q) (sg h b _) (cq h b hk)
theorem qZ(h:Wd G T W)(b:Bool)(hk:k < W.length)(e:(bI b G T W off).getD k 0 < mm W off k):Fl b G T W (bI b G T W off) k:=by
 have hi:=bT h b hk
 rw[iH h b off hk] at e
 unfold Fl
 rw[cZ fun q hq=>mQ h hi (gm hq)]
 exact CW (bH h hi) (cq h b hk) e
theorem KD(h:Wd G T W)(ho:Off off)(hk:k < W.length)(e:0 < (bI b G T W off).getD k 0)(hq:q∈up (lst b G T W (aE b W k)) k)(hne:q≠k):(bI b G T W off).getD q 0=mm W off q:=by
 have hi:=bT h b hk
 rw[iH h b off hk] at e
 have:=mQ (off:=off) h hi (gm hq)
 unfold vl at this
 rw[this]
 exact Fy (bH h hi) (fun q _=>CI h ho q) (sg h b _) e hq hne
theorem AY(h:Wd G T W)(ho:Off off)(b:Bool)(hk:k < W.length):0<=(bI b G T W off).getD k 0/\(bI b G T W off).getD k 0<=mm W off k:=by
 have hi:=bT h b hk
 rw[iH h b off hk]
 have:=Gm (m:=mm W off) (a:=amt b G T (aE b W k)) (l:=lst b G T W (aE b W k)) (fun q _=>CI h ho q) (sg h b _) k
 exact⟨this.1,this.2.2 (cq h b hk)⟩
theorem CL(h:Wd G T W)(ho:Off off)(hi:i < (az b G T).length):sm (lst b G T W i) (vl (bI b G T W off))=min (amt b G T i) (sm (lst b G T W i) (mm W off)):=by
 rw[cZ fun q hq=>mQ h hi hq]
 exact HZ (bH h hi) (fun q _=>CI h ho q) (sg h b _)
theorem O5(h:Wd G T W)(p:Pn G T W X)(b:Bool)(hk:k < W.length):sm (up (lst b G T W (aE b W k)) k) (vl X)<=amt b G T (aE b W k):=by
 have hi:=bT h b hk
 have:=p.le_sm h hi
 obtain⟨ys,e,_⟩:=wZ (bH h hi) (cq h b hk)
 rw[e,sd] at this
 have hn:=pf (l:=ys) fun q _=>p.nn q
 omega
theorem AL(h:Wd G T W)(p:Pn G T W X)(hq:q < W.length)(f:Fl b G T W X q)(hk:k∈lst b G T W (aE b W q))(hn:k∉up (lst b G T W (aE b W q)) q):X.getD k 0=0:=by
 have hi:=bT h b hq
 have hle:=p.le_sm h hi
 obtain⟨ys,e,_⟩:=wZ (bH h hi) (cq h b hq)
 have hy:k∈ys:=by
  rw[e] at hk
  rcases List.mem_append.mp hk with z|z
  ·exact absurd z hn
  ·exact z
 rw[e,sd] at hle
 unfold Fl at f
 have:=Na (l:=ys) (fun q _=>p.nn q) hy
 have h0:=p.nn k
 unfold vl at this h0
 have:sm ys (vl X)=sm ys fun q=>X.getD q 0:=rfl
 omega
theorem yN(h:Wd G T W)(p:Pn G T W X)(ho:Off c)(hc:∀k,k < W.length->X.getD k 0<=c.getD k 0)(hq:q < W.length)(e:X.getD q 0 < (bI false G T W c).getD q 0):¬ Fl false G T W X q:=fun f=>by
 have hi:=bT h false hq
 have hpos:0 < (bI false G T W c).getD q 0:=by have:=p.nn q;unfold vl at this;omega
 have hlt:sm (up (lst false G T W (aE false W q)) q) (vl X) < sm (up (lst false G T W (aE false W q)) q) (vl (bI false G T W c)):=by
  refine C9 (p:=q) (fun r hr=>?_) (vW (cq h false hq)) e
  by_cases z:r=q
  ·subst z;exact Int.le_of_lt e
  ·have hr':=(mP h hq (gm hr)).1
   unfold vl
   rw[KD h ho hq hpos hr z]
   have h1:=hc r hr'
   have h2:=(p.bd r hr').2
   unfold mm
   omega
 have h2:=ES h ho false hq
 unfold Fl at f
 omega
end
section
variable {G T:List Pl}{W:List Wy}{P X c off:List Int}{b:Bool}{i k q:Nat}{v:Int}
theorem nB(h:Wd G T W)(ho:Off c)(hk:k < W.length):0<=(kC G T W c).getD k 0/\(kC G T W c).getD k 0<=(bI false G T W c).getD k 0/\(bI false G T W c).getD k 0<=c.getD k 0/\(bI false G T W c).getD k 0<=(ay W k).2.2/\mm W (bI false G T W c) k=(bI false G T W c).getD k 0:=by
 have h1:=AY h ho false hk
 have h2:=AY h (kq h ho false) true hk
 change 0<=(kC G T W c).getD k 0/\(kC G T W c).getD k 0<=_ at h2
 unfold mm at h1 h2 ⊢
 omega
theorem HA(h:Wd G T W)(p:Pn G T W X)(r:Rs G T W X)(ho:Off c)(hc:∀k,k < W.length->X.getD k 0<=c.getD k 0)(e:sr G T W c=some (k,v)):X.getD k 0<=v:=by
 obtain⟨hk,rfl,hlt⟩:=xf e
 refine Classical.byContradiction fun hn=>?_
 have hn:(kC G T W c).getD k 0 < X.getD k 0:=by omega
 obtain⟨b0,b1,b2,b3,b4⟩:=nB h ho hk
 have ff:Fl true G T W (kC G T W c) k:=qZ h true hk (by rw[b4];exact hlt)
 have hle:=O5 h p true hk
 unfold Fl at ff
 obtain⟨q,hq,hqx⟩:=NS (f:=vl X) (g:=vl (kC G T W c)) (l:=up (lst true G T W (aE true W k)) k) (p:=k) (by omega) (vW (cq h true hk)) hn
 obtain⟨hq1,hq2⟩:=mP h hk (gm hq)
 unfold vl at hqx
 have hne:q≠k:=fun z=>by subst z;omega
 obtain⟨d0,d1,d2,d3,d4⟩:=nB h ho hq1
 have hxq:=(p.bd q hq1).1
 rcases r q hq1 with z|z|z
 ·omega
 ·exact yN h p ho hc hq1 (by omega) z
 ·have hn2:k∉up (lst true G T W (aE true W q)) q:=fun w=>by
   rw[hq2] at w
   exact hne (CN (bH h (bT h true hk)) hq w).symm
  have:=AL h p hq1 z (by rw[hq2];exact cq h true hk) hn2
  omega
theorem Cj(h:Wd G T W)(p:Pn G T W X)(r:Rs G T W X)(hk:k < W.length):X.getD k 0<=(fin G T W).2.getD k 0:=by
 have hb:=h.mea
 obtain⟨_,_,h2⟩:=qd (KJ G T W) (spS G T W) (fun s=>mea s.2) (fun s=>z6 W s/\∀k,k < W.length->X.getD k 0<=s.2.getD k 0)
  (fun s ⟨i,l⟩ hc=>by
   obtain⟨⟨k,v⟩,e⟩:=ni hc
   obtain⟨i2,hm⟩:=i.step h e
   have hx:=HA h p r i.off l e
   refine⟨⟨i2,fun j hj=>?_⟩,hm⟩
   rw[rE e]
   show _<=(s.2.set k v).getD j 0
   rw[cT]
   split
   ·rename_i z
    rw[<- z.1]
    exact hx
   ·exact l j hj) Rf.turns ([],eE W) (Nat.lt_of_le_of_lt hb (by decide)) ⟨z6.start h,fun k hk=>by rw[BG hk];exact (p.bd k hk).2⟩
 exact h2 k hk
def Jn(G T:List Pl)(W:List Wy)(c:List Int):Prop:=∀k,k < W.length->c.getD k 0 < (ay W k).2.2->Fl true G T W (kC G T W c) k
theorem Nx(h:Wd G T W)(ho:Off c)(hl:c.length=W.length)(e:sr G T W c=some (k,v))(hq:q < W.length):(kC G T W c).getD q 0<=(bI false G T W (c.set k v)).getD q 0:=by
 obtain⟨hk,rfl,hlt⟩:=xf e
 obtain⟨b0,b1,b2,b3,b4⟩:=nB h ho hk
 obtain⟨d0,d1,d2,d3,d4⟩:=nB h ho hq
 have hi:=bT h false hq
 have hm:∀x,x≠k->mm W (c.set k ((kC G T W c).getD k 0)) x=mm W c x:=fun x hx=>by
  unfold mm
  rw[cT,if_neg (fun z=>hx z.1.symm)]
 have hmk:mm W (c.set k ((kC G T W c).getD k 0)) k=(kC G T W c).getD k 0:=by
  unfold mm
  rw[cT,if_pos ⟨rfl,by rw[hl];exact hk⟩]
  omega
 rw[iH h false _ hq]
 by_cases z:aE false W q=aE false W k
 ·have hkL:k∈lst false G T W (aE false W q):=by rw[z];exact cq h false hk
  have hA:vl (bI false G T W c) k=ch (mm W c) (amt false G T (aE false W q)) (lst false G T W (aE false W q)) k:=mQ h hi hkL
  unfold vl at hA
  obtain⟨l1,l2⟩:=EY (m:=mm W c) (m':=mm W (c.set k ((kC G T W c).getD k 0))) (p:=k) (a:=amt false G T (aE false W q)) (l:=lst false G T W (aE false W q)) (bH h hi) (fun x _ hx=>hm x hx) (by rw[hmk,<- hA];exact b1)
  by_cases y:q=k
  ·subst y
   rw[l2 hkL,hmk]
   exact Int.le_refl _
  ·have:=l1 q (cq h false hq) y
   rw[<- iH h false c hq] at this
   omega
 ·rw[rm (m:=mm W (c.set k ((kC G T W c).getD k 0))) (m':=mm W c) fun x hx=>hm x fun w=>by
   subst w
   exact z ((d5 h hi).mp hx).2.symm]
  rw[<- iH h false c hq]
  exact d1
theorem Jn.step(h:Wd G T W)(ho:Off c)(hl:c.length=W.length)(j:Jn G T W c)(e:sr G T W c=some (k,v)):Jn G T W (c.set k v):=fun q hq hlim=>by
 have ho':Off (c.set k v):=CS ho (B0 h ho e).2.1
 have fq:Fl true G T W (kC G T W c) q:=by
  obtain⟨hk,rfl,hlt⟩:=xf e
  by_cases z:q=k
  ·subst z
   exact qZ h true hq (by rw[(nB h ho hq).2.2.2.2];exact hlt)
  ·rw[cT,if_neg (fun w=>z w.1.symm)] at hlim
   exact j q hq hlim
 have hu:=ES h (kq h ho' false) true hq
 change sm _ (vl (kC G T W (c.set k v)))=_ at hu
 unfold Fl at fq ⊢
 have hs:sm (up (lst true G T W (aE true W q)) q) (vl (kC G T W c))<=sm (up (lst true G T W (aE true W q)) q) (mm W (bI false G T W (c.set k v))):=o6 fun x hx=>by
  have hx':=(mP h hq (gm hx)).1
  have h1:=Nx h ho hl e hx'
  have h2:=nB h ho hx'
  unfold vl mm
  omega
 rw[hu]
 omega
theorem NO(h:Wd G T W):Jn G T W (fin G T W).2:=by
 have hb:=h.mea
 obtain⟨_,_,h2⟩:=qd (KJ G T W) (spS G T W) (fun s=>mea s.2) (fun s=>z6 W s/\Jn G T W s.2)
  (fun s ⟨i,j⟩ hc=>by
   obtain⟨⟨k,v⟩,e⟩:=ni hc
   obtain⟨i2,hm⟩:=i.step h e
   refine⟨⟨i2,?_⟩,hm⟩
   rw[rE e]
   exact j.step h i.off i.len e) Rf.turns ([],eE W) (Nat.lt_of_le_of_lt hb (by decide)) ⟨z6.start h,fun k hk hl=>by rw[BG hk] at hl;omega⟩
 exact h2
theorem Hw(h:Wd G T W):Rs G T W (kL G T W):=fun k hk=>by
 obtain⟨hnone,i,hlim⟩:=m7 h
 have j:=NO h
 have heq:∀q,q < W.length->(kL G T W).getD q 0=(kC G T W (fin G T W).2).getD q 0:=fun q hq=>by
  have h1:=JU hnone hq
  have h2:=(nB h i.off hq).2.1
  unfold kL
  omega
 obtain⟨d0,d1,d2,d3,d4⟩:=nB h i.off hk
 by_cases e:(kL G T W).getD k 0=(ay W k).2.2
 ·exact .inl e
 ·by_cases e2:(kL G T W).getD k 0 < mm W (fin G T W).2 k
  ·exact .inr (.inl (qZ h false hk e2))
  ·have h3:=(AY h i.off false hk).2
   have:(fin G T W).2.getD k 0 < (ay W k).2.2:=by
    unfold kL at e e2
    unfold mm at e2 h3
    omega
   have f:=j k hk this
   refine .inr (.inr ?_)
   unfold Fl at f ⊢
   rw[<- f]
   exact cZ fun q hq=>heq q (mP h hk (gm hq)).1
theorem Jy(h:Wd G T W)(hk:k < W.length):(kL G T W).getD k 0<=(fin G T W).2.getD k 0:=(nB h (m7 h).2.1.off hk).2.2.1
noncomputable def mx(P X:List Int):List Int:=List.zipWith max P X
theorem Fb(hp:P.length=X.length)(q:Nat)(hn:0<=P.getD q 0\/q < P.length):(mx P X).getD q 0=max (P.getD q 0) (X.getD q 0):=by
 unfold mx
 by_cases hq:q < P.length
 ·rw[zG,List.getElem?_zipWith,zK hq,zK (by omega)]
  simp[hq,show q < X.length by omega]
 ·rw[jd (by simp;omega),jd (by omega),jd (by omega)]
  rfl
theorem Be(hp:P.length=X.length):(mx P X).length=P.length:=by unfold mx;simp;omega
theorem E4(p:Pn G T W P)(x:Pn G T W X):Off (mx P X):=fun q=>by
 rw[Fb (by rw[p.len,x.len]) q (.inl (p.nn q))]
 have:=p.nn q
 unfold vl at this
 omega
theorem yq(p:Pn G T W P)(x:Pn G T W X)(hq:q < W.length):mm W (mx P X) q=max (P.getD q 0) (X.getD q 0):=by
 unfold mm
 rw[Fb (by rw[p.len,x.len]) q (.inl (p.nn q))]
 have h1:=(p.bd q hq).2
 have h2:=(x.bd q hq).2
 omega
theorem uC(h:Wd G T W)(x:Pn G T W X)(r:Rs G T W X)(hk:k < W.length):(bI false G T W (mx (kL G T W) X)).getD k 0=(kL G T W).getD k 0:=by
 have p:=gf h
 obtain⟨_,i,_⟩:=m7 h
 have hi:=bT h false hk
 rw[iH h false _ hk,show (kL G T W).getD k 0=ch (mm W (fin G T W).2) (amt false G T (aE false W k)) (lst false G T W (aE false W k)) k from iH h false _ hk]
 refine CG (bH h hi) (fun q hq=>?_) k
 have hq':=(mP h hk hq).1
 have hA:vl (bI false G T W (fin G T W).2) q=ch (mm W (fin G T W).2) (amt false G T (aE false W k)) (lst false G T W (aE false W k)) q:=mQ h hi hq
 rw[<- hA,yq p x hq']
 have h1:=Jy h hq'
 have h2:=Cj h x r hq'
 have h3:=(p.bd q hq').2
 have h4:=(x.bd q hq').2
 change (kL G T W).getD q 0<=_/\_
 unfold mm
 omega
theorem D2(h:Wd G T W)(x:Pn G T W X)(r:Rs G T W X)(hk:k < W.length):(bI true G T W (mx (kL G T W) X)).getD k 0=X.getD k 0:=by
 have p:=gf h
 obtain⟨_,i,_⟩:=m7 h
 have hi:=bT h true hk
 rw[iH h true _ hk]
 refine K4 (X:=vl X) (bH h hi) (fun q hq=>?_) (x.le_sm h hi) (fun q hq=>?_) k (cq h true hk)
 ·have hq':=(mP h hk hq).1
  rw[yq p x hq']
  have:=(x.bd q hq').1
  unfold vl
  omega
 ·obtain⟨hq',hpl⟩:=mP h hk hq
  rw[yq p x hq']
  by_cases e:X.getD q 0 < (kL G T W).getD q 0
  ·refine .inr ?_
   rcases r q hq' with z|z|z
   ·have:=(p.bd q hq').2
    omega
   ·exact absurd z (yN h x i.off (fun k hk=>Cj h x r hk) hq' e)
   ·unfold Fl at z
    rwa [hpl] at z
  ·refine .inl ?_
   unfold vl
   omega
theorem Gd(h:Wd G T W)(x:Pn G T W X)(r:Rs G T W X)(hi:i < (az false G T).length):sm (lst false G T W i) (vl X)<=sm (lst false G T W i) (vl (kL G T W)):=by
 have p:=gf h
 rw[cZ (f:=vl (kL G T W)) (g:=vl (bI false G T W (mx (kL G T W) X))) fun q hq=>(uC h x r ((d5 h hi).mp hq).1).symm,CL h (E4 p x) hi]
 have h1:=x.le_sm h hi
 have h2:sm (lst false G T W i) (vl X)<=sm (lst false G T W i) (mm W (mx (kL G T W) X)):=o6 fun q hq=>by
  rw[yq p x ((d5 h hi).mp hq).1]
  unfold vl
  omega
 omega
theorem Gs(h:Wd G T W)(x:Pn G T W X)(r:Rs G T W X)(hi:i < (az true G T).length):sm (lst true G T W i) (vl (kL G T W))<=sm (lst true G T W i) (vl X):=by
 have p:=gf h
 rw[cZ (f:=vl X) (g:=vl (bI true G T W (mx (kL G T W) X))) fun q hq=>(D2 h x r ((d5 h hi).mp hq).1).symm,CL h (E4 p x) hi]
 have h1:=p.le_sm h hi
 have h2:sm (lst true G T W i) (vl (kL G T W))<=sm (lst true G T W i) (mm W (mx (kL G T W) X)):=o6 fun q hq=>by
  rw[yq p x ((d5 h hi).mp hq).1]
  unfold vl
  omega
 omega
theorem p6(h:Wd G T W)(b:Bool)(f:Nat->Int):((List.range (az b G T).length).map fun i=>sm (lst b G T W i) f).sum=sm (List.range W.length) f:=by
 have key:∀n,n<=(az b G T).length->((List.range n).map fun i=>sm (lst b G T W i) f).sum=sm ((List.range W.length).filter fun k=>decide (aE b W k < n)) f:=by
  intro n
  induction n with
  | zero =>
   intro _
   rw[show (List.range W.length).filter (fun k=>decide (aE b W k < 0))=[] from List.filter_eq_nil_iff.mpr fun k _=>by simp]
   rfl
  | succ n ih =>
   intro hn
   have hi:n < (az b G T).length:=hn
   rw[List.range_succ,List.map_append,List.sum_append,ih (by omega)]
   have e:∀l:List Nat,sm (l.filter fun k=>decide (aE b W k < n+1)) f=sm (l.filter fun k=>decide (aE b W k < n)) f+sm (l.filter fun k=>decide (aE b W k=n)) f:=by
    intro l
    induction l with
    | nil=>rfl
    | cons x l ih =>
     simp only[List.filter_cons,zJ]
     by_cases c1:aE b W x < n
     ·rw[if_pos (by omega),if_pos c1,if_neg (by omega),aX,aX,ih]
      omega
     ·by_cases c2:aE b W x=n
      ·rw[if_pos (by omega),if_neg c1,if_pos c2,aX,aX,ih]
       omega
      ·rw[if_neg (by omega),if_neg c1,if_neg c2,ih]
   rw[e]
   have pm:(lst b G T W n).Perm ((List.range W.length).filter fun k=>decide (aE b W k=n)):=by
    refine (List.perm_ext_iff_of_nodup (bH h hi) (List.nodup_range.filter _)).mpr fun k=>?_
    rw[d5 h hi,List.mem_filter,zT,zJ]
   rw[<- BY pm]
   simp
 rw[key _ (Nat.le_refl _),List.filter_eq_self.mpr fun k hk=>by simpa using bT h b (by simpa using hk)]
theorem xD:∀ {l:List Nat}{f g:Nat->Int},(∀i∈l,f i<=g i)->(l.map g).sum<=(l.map f).sum->∀i∈l,f i=g i:=fun {l f g} h e i hi=>by
 refine Classical.byContradiction fun hn=>?_
 have:=C9 (l:=l) (f:=f) (g:=g) h hi (by have:=h i hi;omega)
 unfold sm at this
 omega
theorem GV{n m:Nat}{f g f' g':Nat->Int}{S S':Int}(h1:∀i,i < n->f i<=g i)(h2:∀i,i < m->g' i<=f' i)(e1:((List.range n).map f).sum=S)(e2:((List.range m).map f').sum=S)(e3:((List.range n).map g).sum=S')(e4:((List.range m).map g').sum=S'):(∀i,i < n->f i=g i)/\∀i,i < m->f' i=g' i:=by
 have u0:sm (List.range n) f<=sm (List.range n) g:=o6 fun i hi=>h1 i (zT.mp hi)
 have u1:sm (List.range m) g'<=sm (List.range m) f':=o6 fun i hi=>h2 i (zT.mp hi)
 unfold sm at u0 u1
 exact⟨fun i hi=>xD (fun i hi=>h1 i (zT.mp hi)) (by omega) i (zT.mpr hi),fun i hi=>(xD (fun i hi=>h2 i (zT.mp hi)) (by omega) i (zT.mpr hi)).symm⟩
theorem yt(h:Wd G T W)(x:Pn G T W X)(r:Rs G T W X)(b:Bool)(hi:i < (az b G T).length):kG b W X i=kG b W (kL G T W) i:=by
 obtain⟨t0,t1⟩:=GV (fun i hi=>Gd (i:=i) h x r hi) (fun i hi=>Gs (i:=i) h x r hi) (p6 h false (vl X)) (p6 h true (vl X)) (p6 h false (vl (kL G T W))) (p6 h true (vl (kL G T W)))
 rw[jS h hi,jS h hi]
 cases b with
 | false=>exact t0 i hi
 | true=>exact t1 i hi
end
section
variable {G T:List Pl}{W:List Wy}{P X c off:List Int}{b:Bool}{i k q:Nat}{π:List Nat}
theorem vi{P X:List Int}(h:P.length=X.length)(e:∀k,k < P.length->P.getD k 0=X.getD k 0):P=X:=by
 apply List.ext_getElem h
 intro k h1 h2
 have:=e k h1
 simpa [h1,h2] using this
theorem Rs.tu(h:Wd G T W)(o:Ord W π)(p:Pn G T W P)(r:Rs G T W P):Rs T G (ik W π) (zz P π):=(rO (o.wd h) (p.tu h o)).mp ((M0 h o).mpr ((rO h p).mpr r))
noncomputable def AH(G T:List Pl)(W:List Wy):List Int:=zz (kL T G (ik W (dJ W))) (dJ (ik W (dJ W)))
theorem NT(h:Wd G T W):Pn G T W (AH G T W):=by
 have o:=iE h.wp
 have h':=o.wd h
 have o':=iE h'.wp
 have:=(gf h').tu h' o'
 rwa [C6 h.wp o o'] at this
theorem O6(h:Wd G T W):Rs G T W (AH G T W):=by
 have o:=iE h.wp
 have h':=o.wd h
 have o':=iE h'.wp
 have:=(Hw h').tu h' o' (gf h')
 rwa [C6 h.wp o o'] at this
theorem Ke(h:Wd G T W)(x:Pn G T W X)(r:Rs G T W X):bI false G T W (mx (kL G T W) X)=kL G T W :=
 vi (by rw[jT,(gf h).len]) fun k hk=>uC h x r (by rw[jT] at hk;exact hk)
end
section
variable {G T:List Pl}{W:List Wy}{P X:List Int}{b:Bool}{i:Nat}
theorem zip_rows:∀ {P X:List Int},P.length=X.length->kh (P.map PyData.int) (X.map PyData.int)=(List.range P.length).map fun i=>.tuple [.int (P.getD i 0),.int (X.getD i 0)]
 | [],[],_=>rfl
 | [],_::_,h=>by simp at h
 | _::_,[],h=>by simp at h
 | x::P,y::X,h=>by
  rw[zI,zI,kh,zip_rows (P:=P) (X:=X) (by simpa using h),zL,List.range_succ_eq_map,zI,zM]
  rfl
theorem Dt(hp:P.length=X.length)(hl:P.length<=1000):jr [af P,af X]=some (af (mx P X)):=by
 refine aC ?_
 show oI [.val (af P),.val (af X)]=_
 have hz:gP (aa (ab 0) (aa (ab 1) ae)) [some (af P),some (af X)]=some ((List.range P.length).map fun i=>.tuple [.int (P.getD i 0),.int (X.getD i 0)]):=by
  rw[<- zip_rows hp]
  rfl
 have c:=nr (cs:=[]) (tt:=fun _=>some true) (te:=br Ea (aa (ab 0) (aa (ab 1) ae))) (p:=fun _=>true) (h:=fun i=>.int (max (P.getD i 0) (X.getD i 0))) hz hl fun i hi=>⟨rfl,fun _=>rfl⟩
 refine aH ?_
 show br aZ (aa (cD (au 2 [] (gP (aa (ab 0) (aa (ab 1) ae))) (ir 0 1) (fun _=>some true) (br Ea (aa (ab 0) (aa (ab 1) ae))))) ae) [some (af P),some (af X)]=_
 simp only[br,aa,ae,cD,zB,zA] at c ⊢
 rw[c]
 simp only[zB,zA,qE]
 rw[show (List.range P.length).filter (fun _=>true)=List.range P.length by simp]
 have e:mx P X=(List.range P.length).map fun i=>max (P.getD i 0) (X.getD i 0):=by
  refine vi (by rw[Be hp];simp) fun k hk=>?_
  rw[Be hp] at hk
  rw[Fb hp k (.inr hk)]
  simp[hk]
 rw[e,af,zM]
 rfl
theorem uq(h:Wd G T W)(hi:i < (az b G T).length)(hp:P.length=W.length):eM [ax G T W,.int (sI b),nD i,af P]=some (af ((lst b G T W i).map (vl P))):=by
 have hw:=h.wl
 have hl:(lst b G T W i).length<=16:=by
  rw[(jh h hi).length_eq]
  exact yE (pY b W i) hw
 have ew:cf [ax G T W,.int (sI b),nD i]=some (.list ((lst b G T W i).map nD)):=oZ h (bV hi)
 refine aC ?_
 show ki [.val (ax G T W),.val (.int (sI b)),.val (nD i),.val (af P)]=_
 have c:au 1 [3] (aV (ah 3 cf (aa (ab 0) (aa (ab 1) (aa (ab 2) ae))))) (fG 0) (fun _=>some true) (f2 ak (ab 1) (ab 0)) [some (ax G T W),some (.int (sI b)),some (nD i),some (af P)]=some ((lst b G T W i).map fun q=>.int (P.getD q 0)) :=
  fy (rG ew rfl rfl) (by omega) fun q hq=>aq (mN (by rw[hp];exact ((d5 h hi).mp hq).1)) rfl rfl
 refine aH ?_
 show br aZ (aa (cD (au 1 [3] (aV (ah 3 cf (aa (ab 0) (aa (ab 1) (aa (ab 2) ae))))) (fG 0) (fun _=>some true) (f2 ak (ab 1) (ab 0)))) ae) [some (ax G T W),some (.int (sI b)),some (nD i),some (af P)]=_
 rw[my (d:=.list ((lst b G T W i).map fun q=>.int (P.getD q 0))) (by simp only[cD,c,zB]),qE,af,zM]
 rfl
theorem KA(h:Wd G T W)(hi:i < (az b G T).length)(off:List Int):(lst b G T W i).map (vl (n9 W off (amt b G T i) (lst b G T W i)))=(lst b G T W i).map (vl (bI b G T W off)) :=
 yJ fun q hq=>by
  rw[mQ h hi hq]
  unfold vl n9
  rw[AG _ _ _ (bH h hi) (fun j hj=>by rw[List.length_replicate];exact ((d5 h hi).mp hj).1),if_pos hq]
theorem wk(h:Wd G T W)(hi:i < (az b G T).length)(p:P.length=W.length)(x:X.length=W.length):dB [ax G T W,.int (sI b),nD i,af P,af X]=some (.bool (decide ((lst b G T W i).map (vl (bI b G T W (mx P X)))=(lst b G T W i).map (vl P)))):=by
 have hw:=h.wl
 have hm:(mx P X).length=W.length:=by rw[Be (by rw[p,x]),p]
 have ec:bY [ax G T W,.int (sI b),nD i,af (mx P X)]=some (af (n9 W (mx P X) (amt b G T i) (lst b G T W i))):=kZ h hm (bV hi)
 have eg:=Dt (P:=P) (X:=X) (by rw[p,x]) (by rw[p];omega)
 have hc:(n9 W (mx P X) (amt b G T i) (lst b G T W i)).length=W.length:=p7 _ _ _ _
 have e1:=uq (P:=n9 W (mx P X) (amt b G T i) (lst b G T W i)) h hi hc
 rw[KA h hi] at e1
 have e2:=uq (P:=P) h hi p
 have hcall:∀ρ:Dl.Env,ab 0 ρ=some (ax G T W)->ab 1 ρ=some (.int (sI b))->ab 2 ρ=some (nD i)->ab 3 ρ=some (af P)->ab 4 ρ=some (af X)->(ah 4 bY (aa (ab 0) (aa (ab 1) (aa (ab 2) (aa (ah 2 jr (aa (ab 3) (aa (ab 4) ae))) ae))))) ρ=some (af (n9 W (mx P X) (amt b G T i) (lst b G T W i))):=fun ρ a b c d e =>
  call_of ec (cons_of a (cons_of b (cons_of c (cons_of (call_of eg (cons_of d (cons_of e rfl)) rfl) rfl)))) rfl
 refine aC ?_
 show gG [.val (ax G T W),.val (.int (sI b)),.val (nD i),.val (af P),.val (af X),.non]=_
 unfold gG
 refine (ai (aN (hcall _ rfl rfl rfl rfl rfl) (hcall _ rfl rfl rfl rfl rfl) rfl)).trans ?_
 exact aH (aq (Hq _ _) (call_of e1 rfl rfl) (call_of e2 rfl rfl))
theorem vP(h:Wd G T W)(p:Pn G T W P)(x:Pn G T W X):gz [ax G T W,af P,af X]=some .none:=by
 have:eQ [.val (ax G T W),.val (af P),.val (af X)]=some (.nx [.val (ax G T W),.val (af P),.val (af X)]):=by
  unfold eQ
  refine (ai (bw (call_of (dF h p) rfl rfl))).trans ?_
  exact bw (call_of (dF h x) rfl rfl)
 show (eQ [.val (ax G T W),.val (af P),.val (af X)]).map _=_
 rw[this]
 rfl
noncomputable def F4(b:Bool)(G T:List Pl)(W:List Wy)(P X:List Int):Bool:=(List.range (az b G T).length).all fun i=>decide ((lst b G T W i).map (vl (bI b G T W (mx P X)))=(lst b G T W i).map (vl P))
theorem Fe(e:bI b G T W (mx P X)=P):F4 b G T W P X=true:=by
 unfold F4
 rw[e]
 simp
theorem AD(h:Wd G T W)(p:Pn G T W P)(x:Pn G T W X)(b:Bool):ib [ax G T W,.int (sI b),af P,af X]=some (.bool (F4 b G T W P X)):=by
 have hl:=h.pl b
 refine aC ?_
 show jJ [.val (ax G T W),.val (.int (sI b)),.val (af P),.val (af X)]=_
 unfold jJ
 refine (ai (bw (call_of (vP h p x) rfl rfl))).trans ?_
 refine (ai (bw (call_of (nK b) rfl rfl))).trans ?_
 have c:au 1 [0,1,2,3] (bC (aa (br bR (aa (f2 ak (ab 0) (ab 1)) ae)) ae)) (fG 0) (fun _=>some true) (ah 5 dB (aa (ab 1) (aa (ab 2) (aa (ab 0) (aa (ab 3) (aa (ab 4) ae)))))) [some (ax G T W),some (.int (sI b)),some (af P),some (af X)]=some ((List.range (az b G T).length).map fun i=>.bool (decide ((lst b G T W i).map (vl (bI b G T W (mx P X)))=(lst b G T W i).map (vl P)))) :=
  fy (rF (cons_of (iT (l:=az b G T) (k:=aQ) (aq (cM b G T W) rfl rfl)) rfl) (by omega)) (by rw[zS];omega) fun i hi=>call_of (wk h (by simpa using hi) p.len x.len) rfl rfl
 refine aH ?_
 show br l7 (aa (cD (au 1 [0,1,2,3] (bC (aa (br bR (aa (f2 ak (ab 0) (ab 1)) ae)) ae)) (fG 0) (fun _=>some true) (ah 5 dB (aa (ab 1) (aa (ab 2) (aa (ab 0) (aa (ab 3) (aa (ab 4) ae)))))))) ae) [some (ax G T W),some (.int (sI b)),some (af P),some (af X)]=_
 rw[my (d:=.list ((List.range (az b G T).length).map fun i=>.bool (decide ((lst b G T W i).map (vl (bI b G T W (mx P X)))=(lst b G T W i).map (vl P))))) (by simp only[cD,c,zB]),o5]
 rfl
theorem J5(h:Wd G T W):dR [ax G T W]=some (af (AH G T W)):=by
 have h':=(iE h.wp).wd h
 exact tH h (qV h') (gf h')
end
theorem w8{f:Dl.Env->Option (List D)}{ρ:Dl.Env}{ds:List D}(h:f ρ=some ds):cD f ρ=some (.list ds):=by
 simp only[cD,h,zB]
theorem pZ{f:Dl.Env->Option D}{ρ:Dl.Env}{ds:List D}(h:f ρ=some (.tuple ds)):aV f ρ=some ds:=by
 simp only[aV,h,zA,iF]
theorem nZ{t u:Dl.Env->Option Bool}{ρ:Dl.Env}(h:t ρ=some false):cX t u ρ=some false:=by
 simp only[cX,h,zA]
theorem lu{t u:Dl.Env->Option Bool}{ρ:Dl.Env}{b:Bool}(h:t ρ=some true)(h2:u ρ=some b):cX t u ρ=some b:=by
 simp only[cX,h,zA,h2]
theorem HX{ρ:Dl.Env}{f g:Dl.Env->Option D}{G T:List Pl}{W:List Wy}{b:Bool}(hf:f ρ=some (ax G T W))(hg:g ρ=some (.int (sI b))):(aa (br bR (aa (f2 ak f g) ae)) ae) ρ=some [nD (az b G T).length] :=
 cons_of (iT (l:=az b G T) (k:=aQ) (aq (cM b G T W) hf hg)) rfl
section
variable {G T:List Pl}{W:List Wy}{P X:List Int}
theorem kO(h:Wd G T W)(p:Pn G T W P)(r:Rs G T W P):fO [ax G T W,af P]=some (.bool true):=by
 rw[Kv h p,yB ((rO h p).mpr r)]
end
section
variable {G T:List Pl}{W:List Wy}{P X c:List Int}{b:Bool}{k:Nat}
end
structure Wk(G T G' T':List Pl):Prop where
 len:∀b,(az b G' T').length=(az b G T).length
 lik:∀b i,(aR b G' T' i).2=(aR b G T i).2
 gv:∀i,amt false G' T' i<=amt false G T i
 tk:∀i,amt true G T i<=amt true G' T' i
section
variable {G T G' T':List Pl}{W:List Wy}{P X c:List Int}{b:Bool}{i k q:Nat}{v:Int}
theorem Wk.lst(w:Wk G T G' T')(b:Bool)(i:Nat):lst b G' T' W i=lst b G T W i:=by unfold Wm.lst;rw[w.lik]
end
noncomputable def sA(L:List Pl)(i:Nat)(a:Int):List Pl:=L.set i (a,(L.getD i (0,[])).2)
theorem lr(L:List Pl)(i:Nat)(a:Int):(sA L i a).length=L.length:=by simp[sA]
theorem Gn{L:List Pl}{i:Nat}{a:Int}(hi:i < L.length)(k:Nat):(sA L i a).getD k (0,[])=if k=i then (a,(L.getD i (0,[])).2) else L.getD k (0,[]):=by
 unfold sA
 by_cases e:k=i
 ·subst e
  simp[hi]
 ·rw[if_neg e]
  simp[List.getElem?_set_ne (Ne.symm e)]
theorem By{L:List Pl}{i:Nat}{a:Int}{k:Nat}{p:Pl}(h:(sA L i a)[k]?=some p):∃p',L[k]?=some p'/\p.2=p'.2/\(p.1=a\/p.1=p'.1):=by
 unfold sA at h
 by_cases e:i=k
 ·subst e
  have hl:i < L.length:=by
   have:=(zU.mp h).1
   simpa using this
  rw[List.getElem?_set_self hl] at h
  cases h
  exact⟨L[i],zK hl,by simp[hl],.inl rfl⟩
 ·rw[List.getElem?_set_ne e] at h
  exact⟨p,h,rfl,.inr rfl⟩
section
variable {G T G' T':List Pl}{W:List Wy}{P X off:List Int}{b:Bool}{i j k:Nat}{a:Int}
theorem Fp{L:List Pl}{p:Pl}(ha:0<=a/\a<=9)(hL:∀p∈L,0<=p.1/\p.1<=9)(hp:p∈sA L i a):0<=p.1/\p.1<=9:=by
 obtain⟨k,hk,e⟩:=List.getElem_of_mem hp
 obtain⟨p',h1,_,h2⟩:=By (p:=p) (k:=k) (by rw[zK hk,e])
 rcases h2 with z|z
 ·rw[z];exact ha
 ·rw[z];exact hL p' (List.mem_of_getElem? h1)
theorem Wd.gA(h:Wd G T W)(ha:0<=a/\a<=9):Wd (sA G i a) T W where
 g1:=by rw[lr];exact h.g1
 g4:=by rw[lr];exact h.g4
 t1:=h.t1
 t4:=h.t4
 ga:=fun p hp=>Fp ha h.ga hp
 ta:=h.ta
 gl:=fun k p hp=>by
  obtain⟨p',h1,h2,_⟩:=By hp
  rw[h2]
  exact h.gl k p' h1
 tl:=h.tl
 wr:=fun w hw=>by rw[lr];exact h.wr w hw
 wp:=h.wp
 wl:=h.wl
theorem Wd.tA(h:Wd G T W)(ha:0<=a/\a<=9):Wd G (sA T i a) W where
 g1:=h.g1
 g4:=h.g4
 t1:=by rw[lr];exact h.t1
 t4:=by rw[lr];exact h.t4
 ga:=h.ga
 ta:=fun p hp=>Fp ha h.ta hp
 gl:=h.gl
 tl:=fun k p hp=>by
  obtain⟨p',h1,h2,_⟩:=By hp
  rw[h2]
  exact h.tl k p' h1
 wr:=fun w hw=>by rw[lr];exact h.wr w hw
 wp:=h.wp
 wl:=h.wl
theorem OH(hi:i < G.length)(k:Nat):amt false (sA G i a) T k=if k=i then a else amt false G T k:=by
 show ((sA G i a).getD k (0,[])).1=_
 rw[Gn hi]
 split<;>rfl
theorem OG(hi:i < T.length)(k:Nat):amt true G (sA T i a) k=if k=i then a else amt true G T k:=by
 show ((sA T i a).getD k (0,[])).1=_
 rw[Gn hi]
 split<;>rfl
theorem HD{L:List Pl}(hi:i < L.length)(k:Nat):((sA L i a).getD k (0,[])).2=(L.getD k (0,[])).2:=by
 rw[Gn hi]
 split
 ·rename_i e
  rw[e]
 ·rfl
theorem eA{ds:List D}{d:D}(h:i < ds.length)(hl:ds.length<=1000):bU [.tuple ds,nD i,d]=some (.tuple (ds.set i d)):=by
 have e:(ds.take i++[d])++ds.drop (i+1)=ds.set i d:=by
  rw[List.set_eq_take_append_cons_drop,if_pos h]
  simp
 refine aC ?_
 show gU [.val (.tuple ds),.val (nD i),.val d]=_
 unfold gU
 refine aH (aq (a:=.tuple (ds.take i++[d])) (b:=.tuple (ds.drop (i+1))) ?_ (aq (a:=.tuple (ds.take i)) (b:=.tuple [d]) (gK ?_) (wu rfl rfl) (Ga rfl)) (wc rfl (aq (cH _ _) rfl rfl)))
 ·rw[gK,e]
  rw[e,yD]
  omega
 ·simp
  omega
noncomputable def QE(b:Bool)(G T:List Pl)(W:List Wy)(i:Nat)(a:Int):D:=match b with|false=>ax (sA G i a) T W|true=>ax G (sA T i a) W
theorem BM(h:Wd G T W)(hi:i < (az b G T).length):d7 [ax G T W,.int (sI b),nD i,.int a,af (aR b G T i).2]=some (QE b G T W i a):=by
 have hl:=h.pl b
 have e1:=eA (ds:=(az b G T).map aQ) (d:=aQ (a,(aR b G T i).2)) (i:=i) (by rw[zD];exact hi) (by rw[zD];omega)
 rw[<- List.map_set] at e1
 have e2:=eA (ds:=[.tuple (G.map aQ),.tuple (T.map aQ),.tuple (W.map ar)]) (d:=.tuple (((az b G T).set i (a,(aR b G T i).2)).map aQ)) (i:=(sI b).toNat) (show (sI b).toNat < 3 by cases b<;>decide) (show 3<=1000 by decide)
 refine aC ?_
 show eZ [.val (ax G T W),.val (.int (sI b)),.val (nD i),.val (.int a),.val (af (aR b G T i).2)]=_
 unfold eZ
 refine aH (call_of (ds:=[ax G T W,.int (sI b),.tuple (((az b G T).set i (a,(aR b G T i).2)).map aQ)]) ?_ (cons_of rfl (cons_of rfl (cons_of (call_of e1 (cons_of (aq (cM b G T W) rfl rfl) (cons_of rfl (cons_of (tup_is (ds:=[.int a,af (aR b G T i).2]) rfl (by simp)) rfl))) rfl) rfl))) rfl)
 rw[show PyData.int (sI b)=nD (sI b).toNat by cases b<;>rfl]
 refine Eq.trans e2 ?_
 cases b<;>rfl
theorem gN(h:Wd G T W)(b:Bool)(hi:i < (az b G T).length):cB [ax G T W,.int (sI b),nD i]=some .none:=by
 have:dO [.val (ax G T W),.val (.int (sI b)),.val (nD i)]=some (.nx [.val (ax G T W),.val (.int (sI b)),.val (nD i)]):=by
  unfold dO
  refine (ai (bw (call_of (nK b) rfl rfl))).trans ?_
  exact bw (call_of (bZ (n:=((az b G T).length:Nat)) (i:=(i:Nat)) (by omega) (by omega)) (cons_of rfl (cons_of (iT (l:=az b G T) (k:=aQ) (aq (cM b G T W) rfl rfl)) rfl)) rfl)
 show (dO [.val (ax G T W),.val (.int (sI b)),.val (nD i)]).map _=_
 rw[this]
 rfl
theorem me(h:Wd G T W)(hi:i < (az b G T).length)(ha:0<=a/\a<=9):da [ax G T W,.int (sI b),nD i,.int a]=some (QE b G T W i a):=by
 refine aC ?_
 show fH [.val (ax G T W),.val (.int (sI b)),.val (nD i),.val (.int a)]=_
 unfold fH
 refine (ai (bw (call_of (cx h) rfl rfl))).trans ?_
 refine (ai (bw (call_of (gN h b hi) rfl rfl))).trans ?_
 refine (ai (bw (call_of (fP ha.1 ha.2) rfl rfl))).trans ?_
 exact aH (call_of (BM h hi) (cons_of rfl (cons_of rfl (cons_of rfl (cons_of rfl (cons_of (aq (a:=aQ (aR b G T i)) (b:=.int 1) rfl (aq (ig (bV hi)) (aq (cM b G T W) rfl rfl) rfl) rfl) rfl))))) rfl)
end
section
variable {G T:List Pl}{W:List Wy}{P X:List Int}
noncomputable def wB:aj->Option Out:=(xu 3 [2,4] (au 1 [4] (bC (aa (f2 Dl.aG (f2 ak (ab 2) (fC (.int 2))) (fC (.int 1))) ae)) (fG 0) (fun _=>some true) (f2 Dl.aG (ab 1) (aP (aa (ab 0) ae)))))
noncomputable def ext(l:Int)(r:List Int):List (List Int):=(List.range (l+1).toNat).map fun m=>r++[((m:Nat):Int)]
theorem Hj{d:D}{x1:Slot}{w:Wy}{acc:List (List Int)}{r:List Int}(hl:0<=w.2.2/\w.2.2<=9)(hr:r.length<=100)(ha:acc.length<=3000):wB [.val d,x1,.val (ar w),.own (acc.map af),.val (af r)]=some (.nx [.val d,x1,.val (ar w),.own ((acc++ext w.2.2 r).map af),.val (af r)]):=by
 have c:au 1 [4] (bC (aa (f2 Dl.aG (f2 ak (ab 2) (fC (.int 2))) (fC (.int 1))) ae)) (fG 0) (fun _=>some true) (f2 Dl.aG (ab 1) (aP (aa (ab 0) ae))) (cJ [.val d,x1,.val (ar w),.own (acc.map af),.val (af r)])=some ((List.range (w.2.2+1).toNat).map fun m=>af (r++[((m:Nat):Int)])):=by
  refine fy (rF (n:=(w.2.2+1).toNat) (cons_of ?_ rfl) (by omega)) (by rw[zS];omega) fun m _=>aq (Iz (a:=r) (b:=[((m:Nat):Int)]) (by simp;omega)) rfl (Ga rfl)
  rw[show nD (w.2.2+1).toNat=.int (w.2.2+1) by show PyData.int _=_;congr 1;omega]
  exact aq (cH w.2.2 1) (aq (CZ w) rfl rfl) rfl
 have hh:hand [2,4] 0 [Slot.val d,x1,.val (ar w),.own (acc.map af),.val (af r)]=[Slot.val d,x1,.val (ar w),.own (acc.map af),.val (af r)]:=rfl
 have hz:(acc.map af).length+((List.range (w.2.2+1).toNat).map fun m=>af (r++[((m:Nat):Int)])).length<=sizeLine:=by
  rw[zD,zD,zS]
  exact yE (show acc.length+(w.2.2+1).toNat<=4000 by omega) (by decide)
 have e:(acc++ext w.2.2 r).map af=acc.map af++(List.range (w.2.2+1).toNat).map fun m=>af (r++[((m:Nat):Int)]):=by
  rw[List.map_append,ext,zM]
  rfl
 unfold wB xu
 rw[hh,c,zA,e]
 simp only[o3,List.getElem?_cons_succ,List.getElem?_cons_zero,hz,if_true,zB,zA]
 rfl
theorem so{α:Type}{tt:Dl.Env->Option Bool}{te:Dl.Env->Option D}{r:List (Option D)}{g f:α->D}{q:α->Bool}:∀ (l:List α),(∀x∈l,tt (some (g x)::r)=some (q x)/\(q x=true->te (some (g x)::r)=some (f x)))->dg (fG 0) tt te (none::r) (l.map g)=some ((l.filter q).map f)
 | [],_=>rfl
 | x::l,h=>by
  have ih:=so (tt:=tt) (te:=te) (r:=r) (g:=g) (f:=f) (q:=q) l fun y hy=>h y (zC _ hy)
  obtain⟨h1,h2⟩:=h x zE
  have hg:fG 0 (none::r) (g x)=some (some (g x)::r):=rfl
  rw[zI,dg,hg,zA,h1,zA,List.filter_cons]
  cases e:q x with
  | true =>
   rw[if_pos rfl,if_pos rfl,h2 e,zA,ih]
   rfl
  | false =>
   rw[if_neg (by simp),if_neg (by simp),ih]
theorem uV{α:Type}{cs:List Nat}{fi:Dl.Env->Option (List D)}{tt:Dl.Env->Option Bool}{te:Dl.Env->Option D}{ρ:Dl.Env}{l:List α}{g f:α->D}{q:α->Bool}(hfi:fi ρ=some (l.map g))(hl:l.length<=1000)(hh:∀x∈l,tt (some (g x)::cs.map fun j=>(ρ[j]?).getD none)=some (q x)/\(q x=true->te (some (g x)::cs.map fun j=>(ρ[j]?).getD none)=some (f x))):au 1 cs fi (fG 0) tt te ρ=some ((l.filter q).map f):=by
 have:=so l hh
 simp only[au,hfi,zA,fS,List.replicate,List.cons_append,List.nil_append,this]
 refine bS ?_
 rw[zD]
 refine yE (List.length_filter_le _ _) ?_
 omega
end
section
variable {G T:List Pl}{W:List Wy}{P X:List Int}{b:Bool}{i k q:Nat}
end
section
variable {G T:List Pl}{W:List Wy}{P X:List Int}{b:Bool}{i k:Nat}
noncomputable def sH(b:Bool)(G T:List Pl)(W:List Wy)(P:List Int):List Int:=(List.range (az b G T).length).map fun (i:Nat)=>kG b W P ((i:Nat):Int)
theorem rV:(sH b G T W P).length=(az b G T).length:=by simp[sH]
theorem CO(hi:i < (az b G T).length):(sH b G T W P).getD i 0=kG b W P i:=by simp[sH,hi]
theorem mf(h:Wd G T W)(p:Pn G T W P)(b:Bool):dU [ax G T W,af P,.int (sI b)]=some (af (sH b G T W P)):=by
 have hl:=h.pl b
 refine aC ?_
 show fK [.val (ax G T W),.val (af P),.val (.int (sI b))]=_
 unfold fK
 have c:au 1 [0,1,2] (bC (aa (br bR (aa (f2 ak (ab 0) (ab 2)) ae)) ae)) (fG 0) (fun _=>some true) (ah 4 bz (aa (ab 1) (aa (ab 2) (aa (ab 3) (aa (ab 0) ae))))) [some (ax G T W),some (af P),some (.int (sI b))]=some ((List.range (az b G T).length).map fun (i:Nat)=>.int (kG b W P ((i:Nat):Int))) :=
  fy (rF (HX (b:=b) rfl rfl) (by omega)) (by rw[zS];omega) fun i _=>call_of (jc h p.len (p.smP h) b i) rfl rfl
 refine aH ?_
 show br aZ (aa (cD (au 1 [0,1,2] (bC (aa (br bR (aa (f2 ak (ab 0) (ab 2)) ae)) ae)) (fG 0) (fun _=>some true) (ah 4 bz (aa (ab 1) (aa (ab 2) (aa (ab 3) (aa (ab 0) ae))))))) ae) [some (ax G T W),some (af P),some (.int (sI b))]=_
 rw[my (w8 c),qE]
 unfold sH af
 rw[zM]
 rfl
theorem zd(h:Wd G T W):hV [ax G T W]=some (.tuple [af (sH false G T W (kL G T W)),af (sH true G T W (kL G T W))]):=by
 refine aC ?_
 show m5 [.val (ax G T W),.non]=_
 unfold m5
 refine (ai (aN (call_of (qV h) rfl rfl) (call_of (qV h) rfl rfl) rfl)).trans ?_
 exact aH (tup_is (cons_of (call_of (mf h (gf h) false) rfl rfl) (cons_of (call_of (mf h (gf h) true) rfl rfl) rfl)) (by simp))
end
noncomputable def sh(k q:Nat):Nat:=if q < k then q else q+1
theorem MP{k p q:Nat}(h:sh k p=sh k q):p=q:=by unfold sh at h;split at h<;>split at h<;>omega
theorem Ou(k q:Nat):sh k q≠k:=by unfold sh;split<;>omega
noncomputable def nk(k:Nat):Nat->Bool:=fun q=>!decide (q=k)
theorem FR(l:List Nat)(f:Nat->Nat)(g:Nat->Int):sm (l.map f) g=sm l (fun q=>g (f q)):=by simp[sm,Function.comp_def]
theorem B9{f:Nat->Int}{k:Nat}(h:f k=0):∀ (l:List Nat),sm (l.filter (nk k)) f=sm l f
 | []=>rfl
 | q::l=>by
  rw[List.filter_cons]
  by_cases e:q=k
  ·rw[if_neg (by simp[nk,e]),B9 h l,aX,e,h];omega
  ·rw[if_pos (by simp[nk,e]),aX,aX,B9 h l]
theorem Fc{f:Nat->Nat}{k:Nat}:∀ {l:List Nat},(∀q∈l,f q=f k->q=k)->up (l.map f) (f k)=(up l k).map f
 | [],_=>rfl
 | q::l,h=>by
  rw[zI]
  by_cases e:k=q
  ·subst e;rw[dG,dG];rfl
  ·rw[dh (fun z=>e (h q zE z.symm).symm),dh e,zI,Fc fun x hx=>h x (zC _ hx)]
theorem Gg{k q:Nat}(hq:q≠k):∀ (l:List Nat),up (l.filter (nk k)) q=(up l q).filter (nk k)
 | []=>rfl
 | x::l=>by
  by_cases e:x=k
  ·rw[List.filter_cons,if_neg (by simp[nk,e]),dh (by rw[e];exact hq),List.filter_cons,if_neg (by simp[nk,e]),Gg hq l]
  ·rw[List.filter_cons,if_pos (by simp[nk,e])]
   by_cases z:q=x
   ·subst z;rw[dG,dG];simp[nk,e]
   ·rw[dh z,dh z,List.filter_cons,if_pos (by simp[nk,e]),Gg hq l]
noncomputable def fL(L:List Pl)(i:Nat)(x:Int):List Pl:=L.set i ((L.getD i (0,[])).1,(L.getD i (0,[])).2.filter fun y=>!decide (y=x))
theorem Nf(L:List Pl)(i:Nat)(x:Int):(fL L i x).length=L.length:=by simp[fL]
theorem N6(L:List Pl)(i:Nat)(x:Int)(hi:i < L.length)(k:Nat):(fL L i x).getD k (0,[])=if k=i then ((L.getD i (0,[])).1,(L.getD i (0,[])).2.filter fun y=>!decide (y=x)) else L.getD k (0,[]):=by
 unfold fL
 by_cases e:k=i
 ·subst e;simp[hi]
 ·rw[if_neg e];simp[List.getElem?_set_ne (Ne.symm e)]
section
variable {G T:List Pl}{W:List Wy}{P X:List Int}{b:Bool}{i k q:Nat}
noncomputable def eG(G:List Pl)(W:List Wy)(k:Nat):List Pl:=fL G (ay W k).1.toNat (ay W k).2.1
noncomputable def eT(T:List Pl)(W:List Wy)(k:Nat):List Pl:=fL T (ay W k).2.1.toNat (ay W k).1
theorem Dv(h:rH W):W.Nodup:=h.imp fun {a b} hab e=>by subst e;omega
theorem JM(hk:k < W.length)(q:Nat):ay (W.eraseIdx k) q=ay W (sh k q):=by
 unfold ay sh
 rw[zG,zG,List.getElem?_eraseIdx]
 split<;>rfl
theorem CV(P:List Int)(k q:Nat):(P.eraseIdx k).getD q 0=P.getD (sh k q) 0:=by
 unfold sh
 rw[zG,zG,List.getElem?_eraseIdx]
 split<;>rfl
theorem CA(hk:k < W.length):(W.eraseIdx k).length=W.length - 1:=List.length_eraseIdx_of_lt hk
theorem Jc(hk:k < W.length)(hq:q < (W.eraseIdx k).length):sh k q < W.length:=by
 rw[CA hk] at hq
 unfold sh
 split<;>omega
theorem nF{α:Type}[DecidableEq α]:∀ {l:List α}{k:Nat}{x:α},l.Nodup->l[k]?=some x->l.eraseIdx k=l.filter fun y=>!decide (y=x)
 | [],k,x,_,e=>by simp at e
 | a::l,0,x,hn,e=>by
  cases e
  rw[List.filter_cons,if_neg (by simp),List.eraseIdx_zero,List.tail_cons]
  exact (List.filter_eq_self.mpr fun y hy=>by
   have:y≠a:=fun z=>(List.nodup_cons.mp hn).1 (z ▸ hy)
   simp[this]).symm
 | a::l,k+1,x,hn,e=>by
  have e':l[k]?=some x:=by simpa using e
  have:a≠x:=fun z=>(List.nodup_cons.mp hn).1 (z ▸ List.mem_of_getElem? e')
  rw[List.filter_cons,if_pos (by simp[this]),List.eraseIdx_cons_succ,nF (List.nodup_cons.mp hn).2 e']
theorem zm(h:rH W)(hk:k < W.length):W.eraseIdx k=W.filter fun x=>!decide (x=ay W k):=nF (Dv h) (jP hk)
theorem BX(L:List Pl)(n:Nat)(x:Int)(hn:n < L.length)(i:Nat):(fL L n x).getD i (0,[])=((L.getD i (0,[])).1,(L.getD i (0,[])).2.filter fun o=>!(decide (i=n)&&decide (o=x))):=by
 rw[N6 L n x hn]
 by_cases e:i=n
 ·rw[if_pos e]
  subst e
  simp only[decide_true,Bool.true_and]
 ·rw[if_neg e,yA e]
  simp only[Bool.false_and,Bool.not_false]
  rw[List.filter_eq_self.mpr fun _ _=>rfl]
theorem uz(h:Wd G T W)(hk:k < W.length)(b:Bool)(i:Nat):aR b (eG G W k) (eT T W k) i=((aR b G T i).1,(aR b G T i).2.filter fun o=>!(decide (i=aE b W k)&&decide (o=aY b (ay W k)))):=by
 have hp:=bT h b hk
 cases b
 ·exact BX G _ _ hp i
 ·exact BX T _ _ hp i
theorem O9(h:Wd G T W)(hk:k < W.length)(b:Bool)(i:Nat):amt b (eG G W k) (eT T W k) i=amt b G T i:=by unfold amt;rw[uz h hk]
theorem kW(b:Bool):(az b (eG G W k) (eT T W k)).length=(az b G T).length:=by cases b<;>simp[az,eG,eT,Nf]
theorem Qz(h:rH W)(hk:k < W.length)(b:Bool)(i:Int):((W.eraseIdx k).filter fun w=>decide (aW b w=i)).map (aY b)=(((W.filter fun w=>decide (aW b w=i)).map (aY b)).filter fun o=>!(decide (i=aW b (ay W k))&&decide (o=aY b (ay W k)))):=by
 rw[zm h hk,List.filter_map,List.filter_filter,List.filter_filter]
 refine congrArg _ (List.filter_congr fun x hx=>?_)
 obtain⟨j,hj,rfl⟩:=List.mem_iff_getElem.mp hx
 rw[eh hj]
 by_cases e:aW b (ay W j)=i
 ·by_cases z:j=k
  ·subst z
   simp[e]
  ·have hne:¬ (aW b (ay W j)=aW b (ay W k)/\aY b (ay W j)=aY b (ay W k)):=fun y=>z (n5 h hj hk y.1 y.2)
   have hw:ay W j≠ay W k:=fun y=>hne ⟨by rw[y],by rw[y]⟩
   simp only[hw,decide_false,Bool.not_false,e,decide_true,Bool.and_true,Bool.true_and,Function.comp]
   rw[e] at hne
   by_cases y:i=aW b (ay W k)
   ·have:aY b (ay W j)≠aY b (ay W k):=fun u=>hne ⟨y,u⟩
    simp[this]
   ·simp[y]
 ·simp[e]
theorem Wd.less(h:Wd G T W)(hk:k < W.length):Wd (eG G W k) (eT T W k) (W.eraseIdx k):=by
 have hg:∀ (b:Bool) (i:Nat) (p:Pl),(az b (eG G W k) (eT T W k))[i]?=some p->p.2.Perm (((W.eraseIdx k).filter fun w=>decide (aW b w=i)).map (aY b))/\0<=p.1/\p.1<=9:=fun b i p e=>by
  have hi:i < (az b G T).length:=by
   have:=(zU.mp e).1
   rw[kW] at this
   exact this
  have hi':i < (az b (eG G W k) (eT T W k)).length:=by rw[kW];exact hi
  have ep:=bV hi'
  rw[ep] at e
  cases e
  rw[uz h hk,Qz h.wp hk]
  have hq:decide (i=aE b W k)=decide (((i:Nat):Int)=aW b (ay W k)):=by
   have:=(h.end_pl b hk).2.2
   have hz:=(h.end_pl b hk).1
   unfold aE
   by_cases y:i=(aW b (ay W k)).toNat
   ·rw[yB y,yB (by omega)]
   ·rw[yA y,yA (by omega)]
  rw[hq]
  refine⟨?_,?_⟩
  ·refine List.Perm.filter _ ?_
   cases b
   ·exact h.gl i _ (bV (b:=false) hi)
   ·exact h.tl i _ (bV (b:=true) hi)
  ·cases b
   ·show 0<=(aR false G T i).1/\(aR false G T i).1<=9
    exact h.ga _ (List.mem_of_getElem? (bV (b:=false) (G:=G) (T:=T) hi))
   ·show 0<=(aR true G T i).1/\(aR true G T i).1<=9
    exact h.ta _ (List.mem_of_getElem? (bV (b:=true) (G:=G) (T:=T) hi))
 have hl0:=kW (G:=G) (T:=T) (W:=W) (k:=k) false
 have hl1:=kW (G:=G) (T:=T) (W:=W) (k:=k) true
 have hl0:(eG G W k).length=G.length:=hl0
 have hl1:(eT T W k).length=T.length:=hl1
 have hsub:(W.eraseIdx k).Sublist W:=List.eraseIdx_sublist ..
 refine⟨by rw[hl0];exact h.g1,by rw[hl0];exact h.g4,by rw[hl1];exact h.t1,by rw[hl1];exact h.t4,fun p hp=>?_,fun p hp=>?_,fun i p e=>(hg false i p e).1,fun i p e=>(hg true i p e).1,fun w hw=>?_,h.wp.sublist hsub,yE hsub.length_le h.wl⟩
 ·obtain⟨i,hi,rfl⟩:=List.mem_iff_getElem.mp hp
  exact (hg false i _ (zK hi)).2
 ·obtain⟨i,hi,rfl⟩:=List.mem_iff_getElem.mp hp
  exact (hg true i _ (zK hi)).2
 ·rw[hl0,hl1]
  exact h.wr w (hsub.mem hw)
theorem OM(hk:k < W.length)(b:Bool)(q:Nat):aE b (W.eraseIdx k) q=aE b W (sh k q):=by unfold aE;rw[JM hk]
theorem Lg(h:Wd G T W)(hk:k < W.length)(hi:i < (az b G T).length):(lst b (eG G W k) (eT T W k) (W.eraseIdx k) i).map (sh k)=(lst b G T W i).filter (nk k):=by
 have h':=h.less hk
 have hi':i < (az b (eG G W k) (eT T W k)).length:=by rw[kW];exact hi
 have m1:∀o∈(aR b (eG G W k) (eT T W k) i).2,sh k (lA b (W.eraseIdx k) i o)=lA b W i o:=fun o ho=>by
  obtain⟨a1,a2,a3⟩:=gE h' (bV hi') ho
  rw[JM hk] at a2 a3
  have z:=oG h.wp (ck.mpr ⟨Jc hk a1,a2⟩)
  rw[a3] at z
  exact z.symm
 unfold lst eR
 rw[zM,yJ (f:=sh k ∘ lA b (W.eraseIdx k) i) (g:=lA b W i) fun o ho=>m1 o ho,uz h hk,List.filter_map]
 refine congrArg _ (List.filter_congr fun o ho=>?_)
 obtain⟨a1,a2,a3⟩:=gE h (bV hi) ho
 show _=nk k (lA b W i o)
 unfold nk
 refine congrArg _ ?_
 have hz:=(h.end_pl b hk).2.2
 by_cases z:lA b W i o=k
 ·rw[z] at a2 a3
  have y:i=aE b W k:=by unfold aE;omega
  rw[yB z,yB y,yB a3.symm]
  rfl
 ·rw[yA z]
  by_cases y:i=aE b W k
  ·by_cases u:o=aY b (ay W k)
   ·refine absurd (n5 h.wp a1 hk ?_ (a3.trans u)) z
    unfold aE at y
    omega
   ·rw[yA u];simp
  ·rw[yA y];rfl
theorem P6(h:Wd G T W)(hk:k < W.length)(hi:i < (az b G T).length)(h0:P.getD k 0=0):sm (lst b (eG G W k) (eT T W k) (W.eraseIdx k) i) (vl (P.eraseIdx k))=sm (lst b G T W i) (vl P):=by
 rw[<- B9 (f:=vl P) (k:=k) h0 (lst b G T W i),<- Lg h hk hi,FR]
 exact cZ fun q _=>CV P k q
theorem Mb(h:Wd G T W)(hk:k < W.length)(p:Pn G T W P)(h0:P.getD k 0=0):Pn (eG G W k) (eT T W k) (W.eraseIdx k) (P.eraseIdx k):=by
 have h':=h.less hk
 refine⟨?_,fun q hq=>?_,fun b i hi=>?_⟩
 ·rw[CA hk,List.length_eraseIdx_of_lt (by rw[p.len];exact hk),p.len]
 ·rw[CV,JM hk]
  exact p.bd _ (Jc hk hq)
 ·have hi':i < (az b G T).length:=by rw[kW] at hi;exact hi
  rw[jS h' hi,P6 h hk hi' h0,<- jS h hi',uz h hk]
  exact p.am b i hi'
theorem Oc(h:Wd G T W)(hk:k < W.length)(h0:P.getD k 0=0)(hq:q < (W.eraseIdx k).length)(f:Fl b G T W P (sh k q)):Fl b (eG G W k) (eT T W k) (W.eraseIdx k) (P.eraseIdx k) q:=by
 have hs:=Jc hk hq
 have hp:=bT h b hs
 unfold Fl at f ⊢
 rw[OM hk,O9 h hk,<- f,<- B9 (f:=vl P) (k:=k) h0 (up _ _),<- Gg (Ou k q),<- Lg h hk hp,Fc fun x _ e=>MP e,FR]
 exact cZ fun x _=>CV P k x
theorem OK(h:Wd G T W)(hk:k < W.length)(h0:P.getD k 0=0)(r:Rs G T W P):Rs (eG G W k) (eT T W k) (W.eraseIdx k) (P.eraseIdx k):=fun q hq=>by
 rw[CV,JM hk]
 rcases r (sh k q) (Jc hk hq) with z|z|z
 ·exact .inl z
 ·exact .inr (.inl (Oc h hk h0 hq z))
 ·exact .inr (.inr (Oc h hk h0 hq z))
noncomputable def sL(W:List Wy)(k:Nat)(x:Int):List Wy:=W.set k ((ay W k).1,(ay W k).2.1,x)
theorem oW(W:List Wy)(k:Nat)(x:Int):(sL W k x).length=W.length:=by simp[sL]
theorem xE(x:Int)(hk:k < W.length)(q:Nat):ay (sL W k x) q=if q=k then ((ay W k).1,(ay W k).2.1,x) else ay W q:=by
 unfold sL
 by_cases e:q=k
 ·subst e;simp[ay,hk]
 ·rw[if_neg e];simp[ay,List.getElem?_set_ne (Ne.symm e)]
theorem Bi(x:Int)(hk:k < W.length)(b:Bool)(q:Nat):aW b (ay (sL W k x) q)=aW b (ay W q):=by
 rw[xE x hk]
 split
 ·rename_i e;subst e;cases b<;>rfl
 ·rfl
theorem JY(hk:k < W.length):sL W k (ay W k).2.2=W:=by
 refine List.ext_getElem (by simp[sL]) fun j h1 h2=>?_
 have hj:j < W.length:=h2
 rw[eh h1,eh h2,xE _ hk]
 split
 ·rename_i e;subst e;rfl
 ·rfl
theorem Mp{α:Type}(x:Int)(hk:k < W.length)(f:Wy->α)(hf:∀w y,f (w.1,w.2.1,y)=f w):(sL W k x).map f=W.map f:=by
 unfold sL
 rw[List.map_set,hf]
 refine List.ext_getElem (by simp) fun j h1 h2=>?_
 have hj:j < W.length:=by simpa using h2
 rw[List.getElem_set]
 split
 ·rename_i e;subst e;simp[eh hk]
 ·rfl
theorem of_map(b:Bool)(i:Int):∀ {W V:List Wy},W.map (fun w=>(w.1,w.2.1))=V.map (fun w=>(w.1,w.2.1))->(W.filter fun w=>decide (aW b w=i)).map (aY b)=(V.filter fun w=>decide (aW b w=i)).map (aY b)
 | [],[],_=>rfl
 | [],_::_,e=>by cases e
 | _::_,[],e=>by cases e
 | w::W,v::V,e=>by
  simp only[zI,List.cons.injEq,Prod.mk.injEq] at e
  have e1:aW b w=aW b v:=by cases b<;>simp[aW,e.1]
  have e2:aY b w=aY b v:=by cases b<;>simp[aY,aW,e.1]
  have ih:=of_map b i (W:=W) (V:=V) e.2
  rw[List.filter_cons,List.filter_cons,e1]
  split
  ·rw[zI,zI,ih,e2]
  ·exact ih
theorem Wd.lim2(h:Wd G T W)(hk:k < W.length){x:Int}(hx:1<=x/\x<=9):Wd G T (sL W k x):=by
 have hm:=Mp (W:=W) x hk (fun w=>(w.1,w.2.1)) fun _ _=>rfl
 refine⟨h.g1,h.g4,h.t1,h.t4,h.ga,h.ta,fun i p e=>?_,fun i p e=>?_,fun w hw=>?_,?_,by rw[oW];exact h.wl⟩
 ·have:=h.gl i p e
  rw[show zw (sL W k x) i=zw W i from of_map false i hm]
  exact this
 ·have:=h.tl i p e
  rw[show ofT (sL W k x) i=ofT W i from of_map true i hm]
  exact this
 ·obtain⟨j,hj,rfl⟩:=List.mem_iff_getElem.mp hw
  rw[eh hj,xE x hk]
  have hk':=h.wr _ (oF hk)
  split
  ·exact⟨hk'.1,hk'.2.1,hx⟩
  ·rename_i e
   rw[oW] at hj
   exact h.wr _ (oF hj)
 ·have h1:=h.wp
  have h2:(W.map fun w=>(w.1,w.2.1)).Pairwise fun a b=>a.1 < b.1\/(a.1=b.1/\a.2 < b.2):=List.pairwise_map.mpr h1
  rw[<- hm] at h2
  exact List.pairwise_map.mp h2
theorem MG(x:Int)(hk:k < W.length)(b:Bool)(q:Nat):aE b (sL W k x) q=aE b W q:=by unfold aE;rw[Bi x hk]
theorem GI(h:Wd G T W)(hk:k < W.length){x:Int}(hx:1<=x/\x<=9)(hi:i < (az b G T).length):lst b G T (sL W k x) i=lst b G T W i:=by
 unfold lst eR
 refine yJ fun o ho=>?_
 obtain⟨a1,a2,a3⟩:=gE (h.lim2 hk hx) (bV hi) ho
 rw[oW] at a1
 have a2':aW b (ay W (lA b (sL W k x) i o))=i:=by rw[<- Bi x hk];exact a2
 have a3':aY b (ay W (lA b (sL W k x) i o))=o:=by
  have:=Bi x hk (!b) (lA b (sL W k x) i o)
  unfold aY at a3 ⊢
  rw[<- this];exact a3
 rw[<- oG h.wp (ck.mpr ⟨a1,a2'⟩),a3']
theorem OI(h:Wd G T W)(p:Pn G T W P)(hk:k < W.length){x:Int}(hx:1<=x/\x<=9)(hp:P.getD k 0<=x):Pn G T (sL W k x) P:=by
 have h':=h.lim2 hk hx
 refine⟨by rw[oW];exact p.len,fun q hq=>?_,fun b i hi=>?_⟩
 ·rw[oW] at hq
  have:=p.bd q hq
  rw[xE x hk]
  split
  ·rename_i e;subst e;exact⟨this.1,hp⟩
  ·exact this
 ·rw[jS h' hi,GI h hk hx hi,<- jS h hi]
  exact p.am b i hi
theorem Os(h:Wd G T W)(r:Rs G T W P)(hk:k < W.length){x:Int}(hx:1<=x/\x<=9)(hl:P.getD k 0 < (ay W k).2.2):Rs G T (sL W k x) P:=fun q hq=>by
 rw[oW] at hq
 have fl:∀b,Fl b G T W P q->Fl b G T (sL W k x) P q:=fun b f=>by
  unfold Fl at f ⊢
  rw[MG x hk,GI h hk hx (bT h b hq)]
  exact f
 rw[xE x hk]
 rcases r q hq with z|z|z
 ·by_cases e:q=k
  ·subst e;omega
  ·rw[if_neg e];exact .inl z
 ·exact .inr (.inl (fl _ z))
 ·exact .inr (.inr (fl _ z))
end
section
variable {G T:List Pl}{W V:List Wy}{P X L:List Int}{b:Bool}{i k q:Nat}{a:Int}
noncomputable def Pp(b:Bool)(G T:List Pl)(W:List Wy)(i:Nat)(p:Pl):D:=match b with|false=>ax (G.set i p) T W|true=>ax G (T.set i p) W
theorem xn(hl:(az b G T).length<=1000)(hi:i < (az b G T).length):d7 [ax G T W,.int (sI b),nD i,.int a,af L]=some (Pp b G T W i (a,L)):=by
 have e1:=eA (ds:=(az b G T).map aQ) (d:=aQ (a,L)) (i:=i) (by rw[zD];exact hi) (by rw[zD];omega)
 rw[<- List.map_set] at e1
 have e2:=eA (ds:=[.tuple (G.map aQ),.tuple (T.map aQ),.tuple (W.map ar)]) (d:=.tuple (((az b G T).set i (a,L)).map aQ)) (i:=(sI b).toNat) (show (sI b).toNat < 3 by cases b<;>decide) (show 3<=1000 by decide)
 refine aC ?_
 show eZ [.val (ax G T W),.val (.int (sI b)),.val (nD i),.val (.int a),.val (af L)]=_
 unfold eZ
 refine aH (call_of (ds:=[ax G T W,.int (sI b),.tuple (((az b G T).set i (a,L)).map aQ)]) ?_ (cons_of rfl (cons_of rfl (cons_of (call_of e1 (cons_of (aq (cM b G T W) rfl rfl) (cons_of rfl (cons_of (tup_is (ds:=[.int a,af L]) rfl (by simp)) rfl))) rfl) rfl))) rfl)
 rw[show PyData.int (sI b)=nD (sI b).toNat by cases b<;>rfl]
 refine Eq.trans e2 ?_
 cases b<;>rfl
theorem jL(hl:(az b G T).length<=1000)(hi:i < (az b G T).length):bD [ax G T W,.int (sI b),nD i,af L]=some (Pp b G T W i ((aR b G T i).1,L)):=by
 refine aC ?_
 show gD [.val (ax G T W),.val (.int (sI b)),.val (nD i),.val (af L)]=_
 unfold gD
 exact aH (call_of (xn hl hi) (cons_of rfl (cons_of rfl (cons_of rfl (cons_of (aq (a:=aQ (aR b G T i)) (b:=.int 0) rfl (aq (ig (bV hi)) (aq (cM b G T W) rfl rfl) rfl) rfl) (cons_of rfl rfl))))) rfl)
theorem k3{d:D}(hd:aZ [d]=some (.tuple (V.map ar))):bW [ax G T W,d]=some (ax G T V):=by
 refine aC ?_
 show iu [.val (ax G T W),.val d]=_
 unfold iu
 refine aH (call_of (ds:=[ax G T W,nD 2,.tuple (V.map ar)]) ?_ (cons_of rfl (cons_of rfl (cons_of ((my rfl).trans hd) rfl))) rfl)
 exact eA (ds:=[.tuple (G.map aQ),.tuple (T.map aQ),.tuple (W.map ar)]) (d:=.tuple (V.map ar)) (i:=2) (show 2 < 3 by decide) (show 3<=1000 by decide)
theorem pC(h:Wd G T W)(hk:k < W.length){fw fk:Dl.Env->Option D}{ρ:Dl.Env}(h1:fw ρ=some (ax G T W))(h2:fk ρ=some (nD k)):ah 2 aA (aa fk (aa (br bR (aa (f2 ak fw (fC (.int 2))) ae)) ae)) ρ=some .none :=
 call_of (bZ (n:=(W.length:Nat)) (i:=(k:Nat)) (by omega) (by omega)) (cons_of h2 (cons_of (iT (l:=W) (k:=ar) (aq (eI G T W) h1 rfl)) rfl)) rfl
theorem ny(h:Wd G T W)(hk:k < W.length){x:Int}(hx:1<=x/\x<=9):cO [ax G T W,nD k,.int x]=some (ax G T (sL W k x)):=by
 have hw:=h.wl
 have e1:=eA (ds:=W.map ar) (d:=ar ((ay W k).1,(ay W k).2.1,x)) (i:=k) (by rw[zD];exact hk) (by rw[zD];omega)
 rw[<- List.map_set] at e1
 refine aC ?_
 show gF [.val (ax G T W),.val (nD k),.val (.int x),.non]=_
 unfold gF
 refine (ai (bw (call_of (cx h) rfl rfl))).trans ?_
 refine (ai (bw (pC h hk rfl rfl))).trans ?_
 refine (ai (bw (call_of (fP hx.1 hx.2) rfl rfl))).trans ?_
 refine (ai (aN (aq (j8 hk) (aq (eI G T W) rfl rfl) rfl) (aq (j8 hk) (aq (eI G T W) rfl rfl) rfl) rfl)).trans ?_
 exact aH (call_of (k3 (V:=sL W k x) (d:=.tuple ((sL W k x).map ar)) rfl) (cons_of rfl (cons_of (call_of e1 (cons_of (aq (eI G T W) rfl rfl) (cons_of rfl (cons_of (tup_is (ds:=[.int (ay W k).1,.int (ay W k).2.1,.int x]) rfl (by simp)) rfl))) rfl) rfl)) rfl)
theorem F6(v w:Wy):fT (ar v) (ar w)=some (.bool (!decide (v=w))):=by
 have e:=G9 [v.1,v.2.1,v.2.2] [w.1,w.2.1,w.2.2]
 have:decide ([v.1,v.2.1,v.2.2]=[w.1,w.2.1,w.2.2])=decide (v=w):=by
  obtain⟨a,b,c⟩:=v
  obtain⟨d,e,f⟩:=w
  simp
 rw[this] at e
 exact e
theorem jt{tgt:aj->D->Option aj}{gb:aj->Option Out}{d:D}{ds:List D}{ρ ρ1 ρ2:aj}(h1:tgt ρ d=some ρ1)(h2:gb ρ1=some (.nx ρ2)):eF tgt gb (d::ds) ρ=eF tgt gb ds ρ2:=by rw[eF,h1,zA,h2];rfl
noncomputable def PB:aj->Option Out:=(av (Dl.aD 5 [0,2,4] (f2 ak (f2 ak (f2 ak (ab 0) (ab 4)) (f2 ak (ab 2) (ab 4))) (fC (.int 1)))) (Dl.aD 3 [2,3,4,5] (ah 4 bD (aa (ab 3) (aa (ab 4) (aa (f2 ak (ab 2) (ab 4)) (aa (br aZ (aa (cD (au 1 [2,4] (aV (ab 5)) (fG 0) (fB (f2 fT (ab 0) (f2 ak (ab 1) (f2 Dl.eU (fC (.int 1)) (ab 2))))) (ab 0))) ae)) ae)))))))
theorem Dd(h:Wd G T W)(hk:k < W.length){G' T':List Pl}{V:List Wy}{d1:D}{x5:Slot}(hl:(az b G' T').length=(az b G T).length)(ha:(aR b G' T' (aE b W k)).1=(aR b G T (aE b W k)).1) :
  PB [.val (ax G T W),.val d1,.val (ar (ay W k)),.val (ax G' T' V),.val (.int (sI b)),x5]=some (.nx [.val (ax G T W),.val d1,.val (ar (ay W k)),.val (Pp b G' T' V (aE b W k) ((aR b G T (aE b W k)).1,(aR b G T (aE b W k)).2.filter fun o=>!decide (o=aY b (ay W k)))),.val (.int (sI b)),.val (af (aR b G T (aE b W k)).2)]):=by
 have hp:=bT h b hk
 have h4:=h.pl b
 obtain⟨z0,z1,z2⟩:=h.end_pl b hk
 have ee:∀ρ:Dl.Env,ab 2 ρ=some (ar (ay W k))->ab 4 ρ=some (.int (sI b))->f2 ak (ab 2) (ab 4) ρ=some (nD (aE b W k)):=fun ρ e2 e4=>aq ((nU b _).trans (by rw[<- z2];rfl)) e2 e4
 have eo:∀ρ:Dl.Env,ab 0 ρ=some (ax G T W)->ab 2 ρ=some (ar (ay W k))->ab 4 ρ=some (.int (sI b))->f2 ak (f2 ak (f2 ak (ab 0) (ab 4)) (f2 ak (ab 2) (ab 4))) (fC (.int 1)) ρ=some (af (aR b G T (aE b W k)).2):=fun ρ e0 e2 e4=>aq (a:=aQ (aR b G T (aE b W k))) (b:=.int 1) rfl (aq (ig (bV hp)) (aq (cM b G T W) e0 e4) (ee ρ e2 e4)) rfl
 have hn:(aR b G T (aE b W k)).2.length<=1000:=by
  have:=(jh h hp).length_eq
  have h2:(own b W (aE b W k)).length<=W.length:=by
   refine yE (List.length_filter_le _ _) ?_
   rw[zS]
   exact Nat.le_refl _
  have h3:(lst b G T W (aE b W k)).length=(aR b G T (aE b W k)).2.length:=by simp[lst,eR]
  have:=h.wl
  omega
 have ec:∀ρ:Dl.Env,ab 2 ρ=some (ar (ay W k))->ab 4 ρ=some (.int (sI b))->ab 5 ρ=some (af (aR b G T (aE b W k)).2)->br aZ (aa (cD (au 1 [2,4] (aV (ab 5)) (fG 0) (fB (f2 fT (ab 0) (f2 ak (ab 1) (f2 Dl.eU (fC (.int 1)) (ab 2))))) (ab 0))) ae) ρ=some (af ((aR b G T (aE b W k)).2.filter fun o=>!decide (o=aY b (ay W k)))):=fun ρ e2 e4 e5=>by
  have e2':(ρ[2]?).getD none=some (ar (ay W k)):=e2
  have e4':(ρ[4]?).getD none=some (.int (sI b)):=e4
  have c:=uV (ρ:=ρ) (fi:=aV (ab 5)) (cs:=[2,4]) (tt:=(fB (f2 fT (ab 0) (f2 ak (ab 1) (f2 Dl.eU (fC (.int 1)) (ab 2)))))) (te:=ab 0) (g:=PyData.int) (f:=PyData.int) (q:=fun o=>!decide (o=aY b (ay W k))) (l:=(aR b G T (aE b W k)).2) (pZ e5) hn fun x _=>by
   rw[zI,zI,List.map_nil,e2',e4']
   exact⟨cn (aq (FQ _ _) rfl (aq (nU (!b) _) rfl (aq (by rw[jv];cases b<;>rfl) rfl rfl))),fun _=>rfl⟩
  rw[my (w8 c)]
  rfl
 unfold PB
 refine (ai (aN (eo _ rfl rfl rfl) (eo _ rfl rfl rfl) rfl)).trans ?_
 have ew:=jL (b:=b) (G:=G') (T:=T') (W:=V) (i:=aE b W k) (L:=(aR b G T (aE b W k)).2.filter fun o=>!decide (o=aY b (ay W k))) (by rw[hl];omega) (by rw[hl];exact hp)
 rw[ha] at ew
 have el:∀ρ:Dl.Env,ab 3 ρ=some (ax G' T' V)->ab 2 ρ=some (ar (ay W k))->ab 4 ρ=some (.int (sI b))->ab 5 ρ=some (af (aR b G T (aE b W k)).2)->(ah 4 bD (aa (ab 3) (aa (ab 4) (aa (f2 ak (ab 2) (ab 4)) (aa (br aZ (aa (cD (au 1 [2,4] (aV (ab 5)) (fG 0) (fB (f2 fT (ab 0) (f2 ak (ab 1) (f2 Dl.eU (fC (.int 1)) (ab 2))))) (ab 0))) ae)) ae))))) ρ=some (Pp b G' T' V (aE b W k) ((aR b G T (aE b W k)).1,(aR b G T (aE b W k)).2.filter fun o=>!decide (o=aY b (ay W k)))):=fun ρ e3 e2 e4 e5=>call_of ew (cons_of e3 (cons_of e4 (cons_of (ee ρ e2 e4) (cons_of (ec ρ e2 e4 e5) rfl)))) rfl
 exact aN (el _ rfl rfl rfl rfl) (el _ rfl rfl rfl rfl) rfl
theorem tY(h:Wd G T W)(hk:k < W.length):dQ [ax G T W,nD k]=some (ax (eG G W k) (eT T W k) (W.eraseIdx k)):=by
 have hw:=h.wl
 have ewl:∀ρ:Dl.Env,ab 0 ρ=some (ax G T W)->ab 2 ρ=some (ar (ay W k))->ah 2 bW (aa (ab 0) (aa (cD (au 1 [2] (aV (f2 ak (ab 0) (fC (.int 2)))) (fG 0) (fB (f2 fT (ab 0) (ab 1))) (ab 0))) ae)) ρ=some (ax G T (W.eraseIdx k)):=fun ρ e0 e2=>by
  have e2':(ρ[2]?).getD none=some (ar (ay W k)):=e2
  have c:=uV (ρ:=ρ) (fi:=aV (f2 ak (ab 0) (fC (.int 2)))) (cs:=[2]) (tt:=fB (f2 fT (ab 0) (ab 1))) (te:=ab 0) (g:=ar) (f:=ar) (q:=fun x=>!decide (x=ay W k)) (l:=W) (pZ (aq (eI G T W) e0 rfl)) (by omega) fun x _=>by
   rw[zI,List.map_nil,e2']
   exact⟨cn (aq (F6 _ _) rfl rfl),fun _=>rfl⟩
  rw[zm h.wp hk]
  exact call_of (k3 rfl) (cons_of e0 (cons_of (w8 c) rfl)) rfl
 have r0:=Dd (b:=false) h hk (G':=G) (T':=T) (V:=W.eraseIdx k) (d1:=nD k) (x5:=.non) rfl rfl
 have r1:=Dd (b:=true) h hk (G':=eG G W k) (T':=T) (V:=W.eraseIdx k) (d1:=nD k) (x5:=.val (af (aR false G T (aE false W k)).2)) rfl rfl
 refine aC ?_
 show fF [.val (ax G T W),.val (nD k),.non,.non,.non,.non]=_
 unfold fF
 refine (ai (bw (call_of (cx h) rfl rfl))).trans ?_
 refine (ai (bw (pC h hk rfl rfl))).trans ?_
 refine (ai (aN (aq (j8 hk) (aq (eI G T W) rfl rfl) rfl) (aq (j8 hk) (aq (eI G T W) rfl rfl) rfl) rfl)).trans ?_
 refine (ai (aN (ewl _ rfl rfl) (ewl _ rfl rfl) rfl)).trans ?_
 have ef:eF (vI 4) PB [.int (sI false),.int (sI true)] [.val (ax G T W),.val (nD k),.val (ar (ay W k)),.val (ax G T (W.eraseIdx k)),.non,.non]=some (.nx [.val (ax G T W),.val (nD k),.val (ar (ay W k)),.val (ax (eG G W k) (eT T W k) (W.eraseIdx k)),.val (.int (sI true)),.val (af (aR true G T (aE true W k)).2)]):=by
  rw[jt (ρ1:=[.val (ax G T W),.val (nD k),.val (ar (ay W k)),.val (ax G T (W.eraseIdx k)),.val (.int (sI false)),.non]) rfl r0,jt (ρ1:=[.val (ax G T W),.val (nD k),.val (ar (ay W k)),.val (ax (eG G W k) T (W.eraseIdx k)),.val (.int (sI true)),.val (af (aR false G T (aE false W k)).2)]) rfl r1]
  rfl
 refine (ai (dX (ds:=[.int (sI false),.int (sI true)]) ef (pZ (tup_is (ds:=[.int (sI false),.int (sI true)]) rfl (by simp))) rfl)).trans ?_
 exact aH rfl
end
section
variable {G T:List Pl}{W V:List Wy}{P X L:List Int}{b:Bool}{i k q n:Nat}{a x:Int}
theorem qv(hl:L.length<=1000):gY [af L,nD n,.int x]=some (af (L.take n++x::L.drop n)):=by
 refine aC ?_
 show ka [.val (af L),.val (nD n),.val (.int x)]=_
 unfold ka
 refine aH (aq (a:=.tuple ((L.map PyData.int).take n++[.int x])) (b:=.tuple ((L.map PyData.int).drop n)) ?_ (aq (a:=.tuple ((L.map PyData.int).take n)) (b:=.tuple [.int x]) (gK ?_) (wu rfl rfl) (Ga rfl)) (wc rfl rfl))
 ·rw[gK]
  ·show some (PyData.tuple _)=some (.tuple _)
   rw[List.append_assoc,List.map_append,List.map_take,zI,List.map_drop]
   rfl
  ·simp only[zN,List.length_take,List.length_drop,zD,zL,List.length_nil]
   omega
 ·simp only[zN,List.length_take,zD,zL,List.length_nil]
  omega
theorem qr:∀ {L:List Int}{x:Int},L.Nodup->x∈L->(L.filter fun y=>!decide (y=x)).take (L.findIdx fun o=>decide (o=x))++x::(L.filter fun y=>!decide (y=x)).drop (L.findIdx fun o=>decide (o=x))=L
 | [],x,_,h=>by cases h
 | o::L,x,hn,h=>by
  have hn':=List.nodup_cons.mp hn
  rw[List.findIdx_cons,List.filter_cons]
  by_cases e:o=x
  ·subst e
   rw[if_neg (by simp)]
   simp only[decide_true,cond_true,List.take_zero,List.drop_zero,List.nil_append]
   rw[List.filter_eq_self.mpr fun y hy=>by
    have:y≠o:=fun z=>hn'.1 (z ▸ hy)
    simp[this]]
  ·have hx:x∈L:=(zR.mp h).resolve_left fun z=>e z.symm
   rw[if_pos (by simp[e])]
   simp only[e,decide_false,cond_false,List.take_succ_cons,List.drop_succ_cons,List.cons_append]
   rw[qr hn'.2 hx]
theorem qb(h:Wd G T W)(hk:k < W.length)(b:Bool):aY b (ay W k)∈(aR b G T (aE b W k)).2:=by
 have hs:=cq h b hk
 unfold lst eR at hs
 obtain⟨o,ho,e⟩:=zQ.mp hs
 have:=(gE h (bV (bT h b hk)) ho).2.2
 rw[e] at this
 rw[this]
 exact ho
theorem uY(h:Wd G T W)(hi:i < (az b G T).length):(aR b G T i).2.Nodup:=by
 have:=bH h hi
 unfold lst eR at this
 exact List.Pairwise.of_map _ (fun a c hac e=>hac (by rw[e])) this
theorem CF(h:Wd G T W)(hi:i < (az b G T).length):(aR b G T i).2.length<=16:=by
 have h1:=(jh h hi).length_eq
 have h2:(own b W i).length<=W.length:=by
  refine yE (List.length_filter_le _ _) ?_
  rw[zS]
  exact Nat.le_refl _
 have h3:(lst b G T W i).length=(aR b G T i).2.length:=by simp[lst,eR]
 have:=h.wl
 omega
theorem C8(L:List Pl)(i:Nat)(x:Int)(hi:i < L.length):(fL L i x).set i ((L.getD i (0,[])).1,(L.getD i (0,[])).2)=L:=by
 unfold fL
 rw[List.set_set]
 refine List.ext_getElem (by simp) fun j h1 h2=>?_
 rw[List.getElem_set]
 split
 ·rename_i e;subst e;simp[hi]
 ·rfl
noncomputable def ua(w:Wy):List Int:=[w.1,w.2.1,w.2.2]
theorem uT{α:Type}:∀ {l:List α}{k:Nat}{x:α},l[k]?=some x->l.Perm (l.eraseIdx k++[x])
 | [],k,x,e=>by simp at e
 | a::l,0,x,e=>by
  cases e
  rw[List.eraseIdx_zero,List.tail_cons]
  exact (List.perm_append_comm (l₁:=[_]) (l₂:=l))
 | a::l,k+1,x,e=>by
  rw[List.eraseIdx_cons_succ,List.cons_append]
  exact (uT (by simpa using e)).cons a
theorem Qo{a b:Wy}(h:a.1 < b.1\/(a.1=b.1/\a.2.1 < b.2.1)):lexLe (ua a) (ua b)=true:=by
 unfold lexLe ua
 rw[Bool.not_eq_true']
 show HT.lexLt _ _=false
 rw[HT.cS]
 rcases h with h|⟨h1,h2⟩
 ·rw[if_neg (by omega)]
  simp
  omega
 ·rw[if_pos h1.symm,HT.cS,if_neg (by omega)]
  simp
  omega
theorem KH(h:rH W)(hk:k < W.length):rQ ((W.eraseIdx k++[ay W k]).map ua)=W.map ua:=by
 refine (AK ((uT (jP hk)).map ua) ?_).symm
 exact List.pairwise_map.mpr (h.imp fun hab=>Qo hab)
theorem Ah(h:Wd G T W)(hk:k < W.length):dC [.tuple ((W.eraseIdx k).map ar++[ar (ay W k)])]=some (W.map ar):=by
 have e:(W.eraseIdx k).map ar++[ar (ay W k)]=((W.eraseIdx k++[ay W k]).map ua).map af:=by
  rw[zM,List.map_append]
  rfl
 have hw:=h.wl
 have hl:((W.eraseIdx k++[ay W k]).map ua).length < 64:=by
  rw[zD,zN,CA hk,List.length_singleton]
  omega
 have hne:∀r∈(W.eraseIdx k++[ay W k]).map ua,r≠[]:=fun r hr=>by
  obtain⟨w,_,rfl⟩:=zQ.mp hr
  simp[ua]
 rw[e]
 simp only[dC,oneOf,zA,jW hne,if_pos hl,KH h.wp hk]
 rw[zM]
 rfl
theorem BH(h:Wd G T W)(hk:k < W.length):hJ [ax (eG G W k) (eT T W k) (W.eraseIdx k),nD (aE false W k),nD (aE true W k),.int (ay W k).2.2,nD ((aR false G T (aE false W k)).2.findIdx fun o=>decide (o=((aE true W k:Nat):Int))),nD ((aR true G T (aE true W k)).2.findIdx fun o=>decide (o=((aE false W k:Nat):Int)))]=some (ax G T W):=by
 have h':=h.less hk
 have hg:=bT h false hk
 have ht:=bT h true hk
 have hg':aE false W k < (az false (eG G W k) (eT T W k)).length:=by rw[kW];exact hg
 have ht':aE true W k < (az true (eG G W k) (eT T W k)).length:=by rw[kW];exact ht
 have eg:(ay W k).1=((aE false W k:Nat):Int):=(h.end_pl false hk).2.2.symm
 have et:(ay W k).2.1=((aE true W k:Nat):Int):=(h.end_pl true hk).2.2.symm
 have lim:=(h.wr _ (oF hk)).2.2
 have ea0:=uz h hk false (aE false W k)
 have ea1:=uz h hk true (aE true W k)
 rw[show aY false (ay W k)=((aE true W k:Nat):Int) from et] at ea0
 rw[show aY true (ay W k)=((aE false W k:Nat):Int) from eg] at ea1
 simp only[decide_true,Bool.true_and] at ea0 ea1
 have m0:=qb h hk false
 have m1:=qb h hk true
 rw[show aY false (ay W k)=((aE true W k:Nat):Int) from et] at m0
 rw[show aY true (ay W k)=((aE false W k:Nat):Int) from eg] at m1
 have n0:=uY h hg
 have n1:=uY h ht
 have l0:=CF h hg
 have l1:=CF h ht
 have b0:=qr n0 m0
 have b1:=qr n1 m1
 have hd0:(aR false G T (aE false W k))=G.getD (aE false W k) (0,[]):=rfl
 have hd1:(aR true G T (aE true W k))=T.getD (aE true W k) (0,[]):=rfl
 have s0:=C8 G (aE false W k) (ay W k).2.1 hg
 have s1:=C8 T (aE true W k) (ay W k).1 ht
 rw[<- hd0] at s0
 rw[<- hd1] at s1
 have s0:(eG G W k).set (aE false W k) ((aR false G T (aE false W k)).1,(aR false G T (aE false W k)).2)=G:=s0
 have s1:(eT T W k).set (aE true W k) ((aR true G T (aE true W k)).1,(aR true G T (aE true W k)).2)=T:=s1
 have i0:=List.findIdx_lt_length_of_exists (xs:=(aR false G T (aE false W k)).2) (p:=fun o=>decide (o=((aE true W k:Nat):Int))) ⟨_,m0,by simp⟩
 have i1:=List.findIdx_lt_length_of_exists (xs:=(aR true G T (aE true W k)).2) (p:=fun o=>decide (o=((aE false W k:Nat):Int))) ⟨_,m1,by simp⟩
 have c0:=congrArg List.length b0
 have c1:=congrArg List.length b1
 rw[zN,zL,List.length_take,List.length_drop] at c0 c1
 generalize (aR false G T (aE false W k)).2.findIdx (fun o=>decide (o=((aE true W k:Nat):Int)))=p0 at *
 generalize (aR true G T (aE true W k)).2.findIdx (fun o=>decide (o=((aE false W k:Nat):Int)))=p1 at *
 have f0:(aR false (eG G W k) (eT T W k) (aE false W k)).2=(aR false G T (aE false W k)).2.filter fun y=>!decide (y=((aE true W k:Nat):Int)):=by rw[ea0]
 have f1:(aR true (eG G W k) (eT T W k) (aE true W k)).2=(aR true G T (aE true W k)).2.filter fun y=>!decide (y=((aE false W k:Nat):Int)):=by rw[ea1]
 generalize hL0:((aR false G T (aE false W k)).2.filter fun y=>!decide (y=((aE true W k:Nat):Int)))=L0 at *
 generalize hL1:((aR true G T (aE true W k)).2.filter fun y=>!decide (y=((aE false W k:Nat):Int)))=L1 at *
 have ec:∀ (b:Bool) (j n:Nat) (ρ:Dl.Env),j < (az b (eG G W k) (eT T W k)).length->ab 0 ρ=some (ax (eG G W k) (eT T W k) (W.eraseIdx k))->ab n ρ=some (nD j)->f2 ak (f2 ak (f2 ak (ab 0) (fC (.int (sI b)))) (ab n)) (fC (.int 1)) ρ=some (af (aR b (eG G W k) (eT T W k) j).2):=fun b j n ρ hj e0 en =>
  aq (a:=aQ (aR b (eG G W k) (eT T W k) j)) (b:=.int 1) rfl (aq (ig (bV hj)) (aq (cM b _ _ _) e0 rfl) en) rfl
 have ec0:=fun (ρ:Dl.Env) e0 en=>(ec false (aE false W k) 1 ρ hg' e0 en)
 have ec1:=fun (ρ:Dl.Env) e0 en=>(ec true (aE true W k) 2 ρ ht' e0 en)
 rw[f0] at ec0
 rw[f1] at ec1
 have hin:Bs (nD (aE true W k)) (af L0)=some (.bool false):=by
  refine (GZ L0 _).trans ?_
  rw[yA]
  intro z
  rw[<- hL0] at z
  simp at z
 have hl0:L0.length<=16:=by omega
 have hl1:L1.length<=16:=by omega
 refine aC ?_
 show kn [.val (ax (eG G W k) (eT T W k) (W.eraseIdx k)),.val (nD (aE false W k)),.val (nD (aE true W k)),.val (.int (ay W k).2.2),.val (nD p0),.val (nD p1),.non,.non,.non]=_
 unfold kn
 refine (ai (bw (call_of (cx h') rfl rfl))).trans ?_
 refine (ai (bw (call_of (gN h' false hg') rfl rfl))).trans ?_
 refine (ai (bw (call_of (gN h' true ht') rfl rfl))).trans ?_
 refine (ai (bw (call_of (fP lim.1 lim.2) rfl rfl))).trans ?_
 refine (ai (aN (ec0 _ rfl rfl) (ec0 _ rfl rfl) rfl)).trans ?_
 refine (ai (aN (ec1 _ rfl rfl) (ec1 _ rfl rfl) rfl)).trans ?_
 refine (ai (bw (call_of (bZ (n:=((L0.length:Nat):Int)+1) (i:=(p0:Nat)) (by omega) (by omega)) (cons_of rfl (cons_of (aq (cH _ _) (iT (l:=L0) (k:=PyData.int) rfl) rfl) rfl)) rfl))).trans ?_
 refine (ai (bw (call_of (bZ (n:=((L1.length:Nat):Int)+1) (i:=(p1:Nat)) (by omega) (by omega)) (cons_of rfl (cons_of (aq (cH _ _) (iT (l:=L1) (k:=PyData.int) rfl) rfl) rfl)) rfl))).trans ?_
 refine (ai (cA (cn (aq hin rfl rfl)))).trans ?_
 have ew:∀ρ:Dl.Env,ab 0 ρ=some (ax (eG G W k) (eT T W k) (W.eraseIdx k))->ab 1 ρ=some (nD (aE false W k))->ab 2 ρ=some (nD (aE true W k))->ab 3 ρ=some (.int (ay W k).2.2)->(ah 2 bW (aa (ab 0) (aa (cD (mJ dC (aa (f2 aG (f2 ak (ab 0) (fC (.int 2))) (aP (aa (aP (aa (ab 1) (aa (ab 2) (aa (ab 3) ae)))) ae))) ae))) ae))) ρ=some (ax (eG G W k) (eT T W k) W):=fun ρ e0 e1 e2 e3=>by
  have t3:aP (aa (aP (aa (ab 1) (aa (ab 2) (aa (ab 3) ae)))) ae) ρ=some (.tuple [ar (ay W k)]):=Ga ((tup_is (cons_of e1 (cons_of e2 (cons_of e3 rfl))) (by simp)).trans (by
   show some (PyData.tuple [_,_,_])=some (.tuple [.int (ay W k).1,.int (ay W k).2.1,.int (ay W k).2.2])
   rw[eg,et]))
  refine call_of (k3 (V:=W) (d:=.list (W.map ar)) rfl) (cons_of e0 (cons_of (w8 ?_) rfl)) rfl
  have ga:Dl.aG (.tuple ((W.eraseIdx k).map ar)) (.tuple [ar (ay W k)])=some (.tuple ((W.eraseIdx k).map ar++[ar (ay W k)])):=gK (by
   have:=h.wl
   rw[zN,zD,CA hk,List.length_singleton];omega)
  show ((aa _ ae) ρ).bind dC=_
  rw[cons_of (aq ga (aq (eI _ _ _) e0 rfl) t3) rfl]
  exact Ah h hk
 refine (ai (aN (ew _ rfl rfl rfl rfl) (ew _ rfl rfl rfl rfl) rfl)).trans ?_
 have w0:=jL (b:=false) (G:=eG G W k) (T:=eT T W k) (W:=W) (i:=aE false W k) (L:=L0.take p0++((aE true W k:Nat):Int)::L0.drop p0) (by have:=h'.pl false;omega) hg'
 rw[b0,ea0] at w0
 have w0:bD [ax (eG G W k) (eT T W k) W,.int (sI false),nD (aE false W k),af (aR false G T (aE false W k)).2]=some (ax ((eG G W k).set (aE false W k) ((aR false G T (aE false W k)).1,(aR false G T (aE false W k)).2)) (eT T W k) W):=w0
 rw[s0] at w0
 have q0:=qv (L:=L0) (n:=p0) (x:=((aE true W k:Nat):Int)) (by omega)
 rw[b0] at q0
 refine (ai (aN (call_of w0 (cons_of rfl (cons_of rfl (cons_of rfl (cons_of (call_of q0 rfl rfl) rfl)))) rfl) (call_of w0 (cons_of rfl (cons_of rfl (cons_of rfl (cons_of (call_of q0 rfl rfl) rfl)))) rfl) rfl)).trans ?_
 have ht2:aE true W k < (az true G (eT T W k)).length:=ht'
 have w1:=jL (b:=true) (G:=G) (T:=eT T W k) (W:=W) (i:=aE true W k) (L:=L1.take p1++((aE false W k:Nat):Int)::L1.drop p1) (by have:=h'.pl true;exact yE this (by decide)) ht2
 rw[b1,show aR true G (eT T W k) (aE true W k)=_ from ea1] at w1
 have w1:bD [ax G (eT T W k) W,.int (sI true),nD (aE true W k),af (aR true G T (aE true W k)).2]=some (ax G ((eT T W k).set (aE true W k) ((aR true G T (aE true W k)).1,(aR true G T (aE true W k)).2)) W):=w1
 rw[s1] at w1
 have q1:=qv (L:=L1) (n:=p1) (x:=((aE false W k:Nat):Int)) (by omega)
 rw[b1] at q1
 exact aH (call_of w1 (cons_of rfl (cons_of rfl (cons_of rfl (cons_of (call_of q1 rfl rfl) rfl)))) rfl)
end
namespace K52M
theorem De{n:Nat}{m m':List D->Option D}{fk:Dl.Env->Option D}{fs:Dl.Env->Option (List D)}{ρ:Dl.Env}{ds:List D}{d:D}(b:Bool)(hk:fk ρ=some (.int (sI b)))(h:(if b then m' else m) ds=some d)(hf:fs ρ=some ds)(hn:ds.length=n):qS n m m' fk fs ρ=some d:=by
 cases b
 ·simp only[qS,hk,hf,zA,hn,if_true,sI,Bool.false_eq_true,if_false] at h ⊢
  exact h
 ·simp only[qS,hk,hf,zA,hn,if_true,sI] at h ⊢
  exact h
section
variable {G T G' T':List Pl}{W:List Wy}{P:List Int}{b:Bool}{i k:Nat}{a:Int}
structure Mo(b:Bool)(i:Nat)(a:Int)(G T G' T':List Pl):Prop where
 len:∀c,(az c G' T').length=(az c G T).length
 lik:∀c j,(aR c G' T' j).2=(aR c G T j).2
 am:∀c j,amt c G' T' j=if c=b/\j=i then a else amt c G T j
theorem Mo.lst(m:Mo b i a G T G' T')(c:Bool)(j:Nat):lst c G' T' W j=lst c G T W j:=by unfold Wm.lst;rw[m.lik]
theorem Pw(hi:i < G.length):Mo false i a G T (sA G i a) T where
 len:=fun c=>by cases c<;>simp[az,lr]
 lik:=fun c j=>by
  cases c
  ·exact HD hi j
  ·rfl
 am:=fun c j=>by
  cases c
  ·rw[OH hi];simp
  ·rfl
theorem Qe(hi:i < T.length):Mo true i a G T G (sA T i a) where
 len:=fun c=>by cases c<;>simp[az,lr]
 lik:=fun c j=>by
  cases c
  ·rfl
  ·exact HD hi j
 am:=fun c j=>by
  cases c
  ·rfl
  ·rw[OG hi];simp
theorem Mo.pn(m:Mo b i a G T G' T')(p:Pn G T W P)(ha:amt b G T i<=a):Pn G' T' W P:=⟨p.len,p.bd,fun c j hj=>by
 rw[m.len] at hj
 have h1:=p.am c j hj
 have h2:=m.am c j
 unfold amt at h2 ha
 rw[h2]
 split
 ·rename_i e
  obtain⟨rfl,rfl⟩:=e
  omega
 ·exact h1⟩
theorem Fw{l:List Nat}{f:Nat->Int}{q:Nat}(hn:l.Nodup)(hq:q∈l)(h:∀x∈l,0<=f x):sm (up l q) f<=sm l f:=by
 obtain⟨ys,e,_⟩:=wZ hn hq
 have h1:0<=sm ys f:=pf fun x hx=>h x (by rw[e];exact yF _ hx)
 have h2:sm l f=sm (up l q) f+sm ys f:=by conv=>lhs;rw[e,sd]
 omega
theorem Mo.rs(m:Mo b i a G T G' T')(h:Wd G T W)(p:Pn G T W P)(r:Rs G T W P)(hs:kG b W P i < amt b G T i):Rs G' T' W P:=fun q hq=>by
 have fl:∀c,Fl c G T W P q->Fl c G' T' W P q:=fun c f=>by
  unfold Fl at f ⊢
  rw[m.lst,m.am]
  split
  ·rename_i e
   obtain⟨rfl,e⟩:=e
   have hp:=bT h c hq
   have h1:=Fw (q:=q) (bH h hp) (cq h c hq) fun x _=>p.nn x
   rw[f,<- jS h hp,e] at h1
   omega
  ·exact f
 rcases r q hq with z|z|z
 ·exact .inl z
 ·exact .inr (.inl (fl _ z))
 ·exact .inr (.inr (fl _ z))
theorem y0(h:Wd G T W)(h':Wd G' T' W)(m:Mo b i a G T G' T')(p:Pn G T W P)(p':Pn G' T' W P)(r:Rs G T W P)(r':Rs G' T' W P)(c:Bool):sH c G' T' W (kL G' T' W)=sH c G T W (kL G T W):=by
 refine vi (by rw[rV,rV,m.len]) fun j hj=>?_
 rw[rV] at hj
 have hj':j < (az c G T).length:=by rw[m.len] at hj;exact hj
 rw[CO hj,CO hj',<- yt h' p' r' c hj,<- yt h p r c hj']
theorem Hh(a c:List Int):fT (.tuple [af a,af c]) (.tuple [af a,af c])=some (.bool false):=by
 have hs:SeqAt.shaped (.tuple [af a,af c])=true:=(jC.tup (b:=max 2 (max a.length c.length)) (k:=1) (by simp;omega) fun x hx=>by
  rcases zR.mp hx with rfl|hx
  ·exact nz (by omega)
  ·rw[yL] at hx
   subst hx
   exact nz (by omega)).shaped (by decide)
 have he:PyData.eqv (.tuple [af a,af c]) (.tuple [af a,af c])=true:=l4 fun d hd=>by
  rcases zR.mp hd with rfl|hd
  ·exact rf _
  ·rw[yL] at hd
   subst hd
   exact rf _
 simp only[fT,LG,hs,and_self,if_true,he,zB,Bool.not_true]
noncomputable def aB:aj->Option Out:=(av (Dl.aD 15 [1,2,12,13] (qS 3 oO lT (ab 12) (aa (ab 1) (aa (ab 2) (aa (ab 13) ae))))) (av (Dl.aD 10 [0,13,14] (f2 aG (f2 ak (ab 14) (fC (.int 0))) (ah 3 ao (aa (ab 0) (aa (f2 aG (fC (.int 80)) (ab 13)) (aa (f2 Dl.eU (fC (.int 10)) (f2 ak (ab 14) (fC (.int 0)))) ae)))))) (av (Dl.aD 16 [1,10,12,13] (ah 4 da (aa (ab 1) (aa (ab 12) (aa (ab 13) (aa (ab 10) ae)))))) (av (gy (cX (fB (f2 uQ (ab 15) (f2 ak (ab 14) (fC (.int 0))))) (bM (fB (ah 2 fO (aa (ab 16) (aa (ab 2) ae)))))) (aJ (fC (.bool false))) gq) (gy (cX (fB (f2 uQ (ab 15) (f2 ak (ab 14) (fC (.int 0))))) (fB (f2 fT (ah 1 hV (aa (ab 16) ae)) (ah 1 hV (aa (ab 1) ae))))) (aJ (fC (.bool false))) gq)))))
theorem Mf{ns:List Int}(hl:ns.length<=63)(h:Wd G T W)(p:Pn G T W P)(r:Rs G T W P)(hi:i < (az b G T).length){x3 x4 x5 x6 x7 x8 x9 x10 x11 x15 x16:Slot}:∃y10 y15 y16,aB [.val (dI ns),.val (ax G T W),.val (af P),x3,x4,x5,x6,x7,x8,x9,x10,x11,.val (.int (sI b)),.val (nD i),.val (aQ (aR b G T i)),x15,x16]=some (.nx [.val (dI ns),.val (ax G T W),.val (af P),x3,x4,x5,x6,x7,x8,x9,y10,x11,.val (.int (sI b)),.val (nD i),.val (aQ (aR b G T i)),y15,y16]):=by
 have h0:0<=amt b G T i:=sg h b i
 have h9:amt b G T i<=9:=by
  cases b
  ·exact (h.ga _ (List.mem_of_getElem? (bV (b:=false) (G:=G) (T:=T) hi))).2
  ·exact (h.ta _ (List.mem_of_getElem? (bV (b:=true) (G:=G) (T:=T) hi))).2
 obtain⟨dd,d0,d1⟩:=fj (ns:=ns) (80+((i:Nat):Int)) (10 - amt b G T i) hl (by omega)
 generalize dr ns (80+((i:Nat):Int)) (10 - amt b G T i)=z at dd d0 d1
 have hx:0<=amt b G T i+z/\amt b G T i+z<=9:=by omega
 obtain⟨G',T',ew,h',m⟩:∃G' T',da [ax G T W,.int (sI b),nD i,.int (amt b G T i+z)]=some (ax G' T' W)/\Wd G' T' W/\Mo b i (amt b G T i+z) G T G' T':=by
  cases b
  ·exact⟨sA G i _,T,me (b:=false) h hi hx,h.gA hx,Pw hi⟩
  ·exact⟨G,sA T i _,me (b:=true) h hi hx,h.tA hx,Qe hi⟩
 have ep:(if b then lT else oO) [ax G T W,af P,nD i]=some (.int (kG b W P i)):=by
  cases b
  ·exact MC h p hi
  ·exact J6 h p hi
 have er:∀ρ:Dl.Env,ab 14 ρ=some (aQ (aR b G T i))->f2 ak (ab 14) (fC (.int 0)) ρ=some (.int (amt b G T i)):=fun ρ e=>aq (a:=aQ (aR b G T i)) (b:=.int 0) rfl e rfl
 have ef:∀ρ:Dl.Env,ab 0 ρ=some (dI ns)->ab 13 ρ=some (nD i)->ab 14 ρ=some (aQ (aR b G T i))->(f2 aG (f2 ak (ab 14) (fC (.int 0))) (ah 3 ao (aa (ab 0) (aa (f2 aG (fC (.int 80)) (ab 13)) (aa (f2 Dl.eU (fC (.int 10)) (f2 ak (ab 14) (fC (.int 0)))) ae))))) ρ=some (.int (amt b G T i+z)):=fun ρ e0 e13 e14 =>
  aq (cH _ _) (er ρ e14) (call_of dd (cons_of e0 (cons_of (aq (cH 80 _) rfl e13) (cons_of (aq (jv 10 _) rfl (er ρ e14)) rfl))) rfl)
 unfold aB
 refine⟨.val (.int (amt b G T i+z)),.val (.int (kG b W P i)),.val (ax G' T' W),?_⟩
 refine (ai (aN (De b rfl ep rfl rfl) (De b rfl ep rfl rfl) rfl)).trans ?_
 refine (ai (aN (ef _ rfl rfl rfl) (ef _ rfl rfl rfl) rfl)).trans ?_
 refine (ai (aN (call_of ew rfl rfl) (call_of ew rfl rfl) rfl)).trans ?_
 by_cases hs:kG b W P i < amt b G T i
 ·have p':=m.pn p (by omega)
  have r':=m.rs h p r hs
  have t':=zd h'
  rw[y0 h h' m p p' r r' false,y0 h h' m p p' r r' true] at t'
  have yes:∀ρ:Dl.Env,ab 15 ρ=some (.int (kG b W P i))->ab 14 ρ=some (aQ (aR b G T i))->fB (f2 uQ (ab 15) (f2 ak (ab 14) (fC (.int 0)))) ρ=some true:=fun ρ e15 e14=>cn (aq ((gJ _ _).trans (by rw[yB hs])) e15 (er ρ e14))
  refine (ai (cA (lu (yes _ rfl rfl) (dZ (cn (call_of (kO h' p' r') rfl rfl)))))).trans ?_
  exact cA (lu (yes _ rfl rfl) (cn (aq (Hh _ _) (call_of t' rfl rfl) (call_of (zd h) rfl rfl))))
 ·have no:∀ρ:Dl.Env,ab 15 ρ=some (.int (kG b W P i))->ab 14 ρ=some (aQ (aR b G T i))->fB (f2 uQ (ab 15) (f2 ak (ab 14) (fC (.int 0)))) ρ=some false:=fun ρ e15 e14=>cn (aq ((gJ _ _).trans (by rw[yA hs])) e15 (er ρ e14))
  refine (ai (cA (nZ (no _ rfl rfl)))).trans ?_
  exact cA (nZ (no _ rfl rfl))
theorem JC(hp:k < P.length)(hl:P.length<=1000){fp fk:Dl.Env->Option D}{ρ:Dl.Env}(h1:fp ρ=some (af P))(h2:fk ρ=some (nD k)):(f2 aG (gT dz fp gO (qH fk)) (gT dz fp (qH (f2 aG fk (fC (.int 1)))) gO)) ρ=some (af (P.eraseIdx k)):=by
 refine aq (a:=.tuple ((P.map PyData.int).take k)) (b:=.tuple ((P.map PyData.int).drop (k+1))) ?_ (wu h1 h2) (wc h1 (aq (QN k) h2 rfl))
 rw[gK]
 ·show some (PyData.tuple _)=some (.tuple _)
  rw[List.eraseIdx_eq_take_drop_succ,List.map_append,List.map_take,List.map_drop]
 ·rw[zN,List.length_take,List.length_drop,zD]
  omega
noncomputable def wB:aj->Option Out:=(av (Dl.aD 7 [1,3] (ah 2 dQ (aa (ab 1) (aa (ab 3) ae)))) (av (Dl.aD 8 [2,3] (f2 aG (gT dz (ab 2) gO (qH (ab 3))) (gT dz (ab 2) (qH (f2 aG (ab 3) (fC (.int 1)))) gO))) (av (gy (cX (fB (f2 b9 (f2 ak (ab 2) (ab 3)) (fC (.int 0)))) (bM (fB (ah 2 fO (aa (ab 7) (aa (ab 8) ae)))))) (aJ (fC (.bool false))) gq) (av (gy (cX (fB (f2 b9 (f2 ak (ab 2) (ab 3)) (fC (.int 0)))) (bM (fB (ah 4 ib (aa (ab 7) (aa (fC (.int 0)) (aa (ah 1 bb (aa (ab 7) ae)) (aa (ab 8) ae)))))))) (aJ (fC (.bool false))) gq) (av (Dl.aD 9 [1,4,5] (aP (aa (f2 il (f2 ak (f2 ak (f2 ak (ab 1) (fC (.int 0))) (ab 4)) (fC (.int 1))) (ab 5)) (aa (f2 il (f2 ak (f2 ak (f2 ak (ab 1) (fC (.int 1))) (ab 5)) (fC (.int 1))) (ab 4)) ae)))) (av (gy (fB (f2 fT (ah 6 hJ (aa (ab 7) (aa (ab 4) (aa (ab 5) (aa (ab 6) (aa (f2 ak (ab 9) (fC (.int 0))) (aa (f2 ak (ab 9) (fC (.int 1))) ae))))))) (ab 1))) (aJ (fC (.bool false))) gq) (av (Dl.aD 10 [0,2,3] (f2 aG (f2 aG (fC (.int 1)) (f2 ak (ab 2) (ab 3))) (ah 3 ao (aa (ab 0) (aa (f2 aG (fC (.int 70)) (ab 3)) (aa (f2 Dl.eU (fC (.int 8)) (f2 ak (ab 2) (ab 3))) ae)))))) (av (Dl.aD 11 [1,3,10] (ah 3 cO (aa (ab 1) (aa (ab 3) (aa (ab 10) ae))))) (av (gy (cX (fB (f2 uQ (f2 ak (ab 2) (ab 3)) (ab 6))) (bM (fB (ah 2 fO (aa (ab 11) (aa (ab 2) ae)))))) (aJ (fC (.bool false))) gq) (gy (cX (fB (f2 b9 (f2 ak (ab 2) (ab 3)) (ab 6))) (fB (f2 fT (ah 3 cO (aa (ab 1) (aa (ab 3) (aa (ab 6) ae)))) (ab 1)))) (aJ (fC (.bool false))) gq))))))))))
theorem Hj{ns:List Int}(hl:ns.length<=63)(h:Wd G T W)(few:Oh 9 G T W)(p:Pn G T W P)(r:Rs G T W P)(hk:k < W.length){x7 x8 x9 x10 x11 x12 x13 x14 x15 x16:Slot}:∃y7 y8 y9 y10 y11,wB [.val (dI ns),.val (ax G T W),.val (af P),.val (nD k),.val (.int (ay W k).1),.val (.int (ay W k).2.1),.val (.int (ay W k).2.2),x7,x8,x9,x10,x11,x12,x13,x14,x15,x16]=some (.nx [.val (dI ns),.val (ax G T W),.val (af P),.val (nD k),.val (.int (ay W k).1),.val (.int (ay W k).2.1),.val (.int (ay W k).2.2),y7,y8,y9,y10,y11,x12,x13,x14,x15,x16]):=by
 have hw:=h.wl
 have hg:=bT h false hk
 have ht:=bT h true hk
 have eg:(ay W k).1=((aE false W k:Nat):Int):=(h.end_pl false hk).2.2.symm
 have et:(ay W k).2.1=((aE true W k:Nat):Int):=(h.end_pl true hk).2.2.symm
 have lim:=(h.wr _ (oF hk)).2.2
 have lim2:=few.w2 _ (oF hk)
 have hb:=p.bd k hk
 have hp:k < P.length:=by rw[p.len];exact hk
 have h':=h.less hk
 have ewo:=tY h hk
 have eww:=BH h hk
 have m0:=qb h hk false
 have m1:=qb h hk true
 rw[show aY false (ay W k)=((aE true W k:Nat):Int) from et] at m0
 rw[show aY true (ay W k)=((aE false W k:Nat):Int) from eg] at m1
 have i0:il (af (aR false G T (aE false W k)).2) (nD (aE true W k))=some (nD ((aR false G T (aE false W k)).2.findIdx fun o=>decide (o=((aE true W k:Nat):Int)))):=by
  simp only[il,af,cN,zA,jo m0,zB]
 have i1:il (af (aR true G T (aE true W k)).2) (nD (aE false W k))=some (nD ((aR true G T (aE true W k)).2.findIdx fun o=>decide (o=((aE false W k:Nat):Int)))):=by
  simp only[il,af,cN,zA,jo m1,zB]
 obtain⟨dd,d0,d1⟩:=fj (ns:=ns) (70+((k:Nat):Int)) (8 - P.getD k 0) hl (by omega)
 generalize dr ns (70+((k:Nat):Int)) (8 - P.getD k 0)=z at dd d0 d1
 have hx:1<=1+P.getD k 0+z/\1+P.getD k 0+z<=9:=by omega
 have ewl:=ny h hk hx
 have ewm:=ny h hk lim
 rw[JY hk] at ewm
 rw[eg,et]
 have epk:∀ρ:Dl.Env,ab 2 ρ=some (af P)->ab 3 ρ=some (nD k)->f2 ak (ab 2) (ab 3) ρ=some (.int (P.getD k 0)):=fun ρ e2 e3=>aq (mN hp) e2 e3
 have er:∀ρ:Dl.Env,ab 2 ρ=some (af P)->ab 3 ρ=some (nD k)->(f2 aG (gT dz (ab 2) gO (qH (ab 3))) (gT dz (ab 2) (qH (f2 aG (ab 3) (fC (.int 1)))) gO)) ρ=some (af (P.eraseIdx k)):=fun ρ e2 e3=>JC hp (by rw[p.len];omega) e2 e3
 have eli:∀ (b:Bool) (j n:Nat) (ρ:Dl.Env),j < (az b G T).length->ab 1 ρ=some (ax G T W)->ab n ρ=some (nD j)->f2 ak (f2 ak (f2 ak (ab 1) (fC (.int (sI b)))) (ab n)) (fC (.int 1)) ρ=some (af (aR b G T j).2):=fun b j n ρ hj e1 en =>
  aq (a:=aQ (aR b G T j)) (b:=.int 1) rfl (aq (ig (bV hj)) (aq (cM b G T W) e1 rfl) en) rfl
 have epl:∀ρ:Dl.Env,ab 1 ρ=some (ax G T W)->ab 4 ρ=some (nD (aE false W k))->ab 5 ρ=some (nD (aE true W k))->(aP (aa (f2 il (f2 ak (f2 ak (f2 ak (ab 1) (fC (.int 0))) (ab 4)) (fC (.int 1))) (ab 5)) (aa (f2 il (f2 ak (f2 ak (f2 ak (ab 1) (fC (.int 1))) (ab 5)) (fC (.int 1))) (ab 4)) ae))) ρ=some (.tuple [nD ((aR false G T (aE false W k)).2.findIdx fun o=>decide (o=((aE true W k:Nat):Int))),nD ((aR true G T (aE true W k)).2.findIdx fun o=>decide (o=((aE false W k:Nat):Int)))]):=fun ρ e1 e4 e5 =>
  Ms (aq i0 (eli false _ 4 ρ hg e1 e4) e5) (aq i1 (eli true _ 5 ρ ht e1 e5) e4)
 have ef:∀ρ:Dl.Env,ab 0 ρ=some (dI ns)->ab 2 ρ=some (af P)->ab 3 ρ=some (nD k)->(f2 aG (f2 aG (fC (.int 1)) (f2 ak (ab 2) (ab 3))) (ah 3 ao (aa (ab 0) (aa (f2 aG (fC (.int 70)) (ab 3)) (aa (f2 Dl.eU (fC (.int 8)) (f2 ak (ab 2) (ab 3))) ae))))) ρ=some (.int (1+P.getD k 0+z)):=fun ρ e0 e2 e3 =>
  aq (cH _ _) (aq (cH 1 _) rfl (epk ρ e2 e3)) (call_of dd (cons_of e0 (cons_of (aq (cH 70 _) rfl e3) (cons_of (aq (jv 8 _) rfl (epk ρ e2 e3)) rfl))) rfl)
 unfold wB
 refine⟨.val (ax (eG G W k) (eT T W k) (W.eraseIdx k)),.val (af (P.eraseIdx k)),.val (.tuple [nD ((aR false G T (aE false W k)).2.findIdx fun o=>decide (o=((aE true W k:Nat):Int))),nD ((aR true G T (aE true W k)).2.findIdx fun o=>decide (o=((aE false W k:Nat):Int)))]),.val (.int (1+P.getD k 0+z)),.val (ax G T (sL W k (1+P.getD k 0+z))),?_⟩
 refine (ai (aN (call_of ewo rfl rfl) (call_of ewo rfl rfl) rfl)).trans ?_
 refine (ai (aN (er _ rfl rfl) (er _ rfl rfl) rfl)).trans ?_
 have zero:∀ρ:Dl.Env,ab 2 ρ=some (af P)->ab 3 ρ=some (nD k)->fB (f2 b9 (f2 ak (ab 2) (ab 3)) (fC (.int 0))) ρ=some (decide (P.getD k 0=0)):=fun ρ e2 e3=>cn (aq (du _ _) (epk ρ e2 e3) rfl)
 have tt:∀ (ρ:Dl.Env) (u:Dl.Env->Option Bool),ab 2 ρ=some (af P)->ab 3 ρ=some (nD k)->(P.getD k 0=0->u ρ=some false)->cX (fB (f2 b9 (f2 ak (ab 2) (ab 3)) (fC (.int 0)))) u ρ=some false:=fun ρ u e2 e3 hu=>by
  by_cases e:P.getD k 0=0
  ·exact lu ((zero ρ e2 e3).trans (by rw[yB e])) (hu e)
  ·exact nZ ((zero ρ e2 e3).trans (by rw[yA e]))
 refine (ai (cA (tt _ _ rfl rfl fun e=>dZ (cn (call_of (kO h' (Mb h hk p e) (OK h hk e r)) rfl rfl))))).trans ?_
 refine (ai (cA (tt _ _ rfl rfl fun e=>?_))).trans ?_
 ·have q:=AD h' (gf h') (Mb h hk p e) false
  rw[Fe (Ke h' (Mb h hk p e) (OK h hk e r))] at q
  exact dZ (cn (call_of q (cons_of rfl (cons_of rfl (cons_of (call_of (qV h') rfl rfl) rfl))) rfl))
 refine (ai (aN (epl _ rfl rfl rfl) (epl _ rfl rfl rfl) rfl)).trans ?_
 refine (ai (cA (cn (aq (Ca h) (call_of eww (cons_of rfl (cons_of rfl (cons_of rfl (cons_of rfl (cons_of (aq (NZ _ _) rfl rfl) (cons_of (aq (NX _ _ _) rfl rfl) rfl)))))) rfl) rfl)))).trans ?_
 refine (ai (aN (ef _ rfl rfl rfl) (ef _ rfl rfl rfl) rfl)).trans ?_
 refine (ai (aN (call_of ewl rfl rfl) (call_of ewl rfl rfl) rfl)).trans ?_
 refine (ai (cA ?_)).trans ?_
 ·by_cases e:P.getD k 0 < (ay W k).2.2
  ·exact lu (cn (aq ((gJ _ _).trans (by rw[yB e])) (epk _ rfl rfl) rfl)) (dZ (cn (call_of (kO (h.lim2 hk hx) (OI h p hk hx (by omega)) (Os h r hk hx e)) rfl rfl)))
  ·exact nZ (cn (aq ((gJ _ _).trans (by rw[yA e])) (epk _ rfl rfl) rfl))
 ·refine cA ?_
  by_cases e:P.getD k 0=(ay W k).2.2
  ·exact lu (cn (aq ((du _ _).trans (by rw[yB e])) (epk _ rfl rfl) rfl)) (cn (aq (Ca h) (call_of ewm rfl rfl) rfl))
  ·exact nZ (cn (aq ((du _ _).trans (by rw[yA e])) (epk _ rfl rfl) rfl))
noncomputable abbrev st(ns:List Int)(G T:List Pl)(W:List Wy)(P:List Int)(x3 x4 x5 x6 x7 x8 x9 x10 x11 x12 x13 x14 x15 x16:Slot):aj:=[.val (dI ns),.val (ax G T W),.val (af P),x3,x4,x5,x6,x7,x8,x9,x10,x11,x12,x13,x14,x15,x16]
noncomputable def pB:aj->Option Out:=(av (eD [1] (bN (aa (f2 ak (ab 1) (fC (.int 2))) ae)) (uS 3 4 5 6) wB) (eD [] (bC (aa (fC (.int 2)) ae)) (vI 12) (eD [1,12] (bN (aa (f2 ak (ab 1) (ab 12)) ae)) (ie 13 14) aB)))
theorem Cp{f:Dl.Env->Option D}{ρ:Dl.Env}{ds:List D}(h:f ρ=some (.tuple ds)):bN (aa f ae) ρ=some (bL 0 ds):=by
 show ((aa f ae) ρ).bind (fun ds=>(dN ds).map (bL 0))=_
 rw[cons_of h rfl]
 rfl
theorem vH{ns:List Int}(hl:ns.length<=63)(h:Wd G T W)(few:Oh 9 G T W)(p:Pn G T W P)(r:Rs G T W P){x3 x4 x5 x6 x7 x8 x9 x10 x11 x12 x13 x14 x15 x16:Slot}:∃y3 y4 y5 y6 y7 y8 y9 y10 y11 y12 y13 y14 y15 y16,pB (st ns G T W P x3 x4 x5 x6 x7 x8 x9 x10 x11 x12 x13 x14 x15 x16)=some (.nx (st ns G T W P y3 y4 y5 y6 y7 y8 y9 y10 y11 y12 y13 y14 y15 y16)):=by
 obtain⟨ρ1,e1,y3,y4,y5,y6,y7,y8,y9,y10,y11,rfl⟩:=wy (tgt:=uS 3 4 5 6) (gb:=wB) (fun k=>.tuple [nD k,ar (ay W k)]) (fun _ ρ=>∃y3 y4 y5 y6 y7 y8 y9 y10 y11,ρ=st ns G T W P y3 y4 y5 y6 y7 y8 y9 y10 y11 x12 x13 x14 x15 x16) W.length 0 (st ns G T W P x3 x4 x5 x6 x7 x8 x9 x10 x11 x12 x13 x14 x15 x16)
  (fun j ρ _ hj hρ=>by
   obtain⟨y3,y4,y5,y6,y7,y8,y9,y10,y11,rfl⟩:=hρ
   obtain⟨z7,z8,z9,z10,z11,e⟩:=Hj (ns:=ns) (k:=j) (x7:=y7) (x8:=y8) (x9:=y9) (x10:=y10) (x11:=y11) (x12:=x12) (x13:=x13) (x14:=x14) (x15:=x15) (x16:=x16) hl h few p r (by omega)
   exact⟨_,_,rfl,e,_,_,_,_,_,_,_,_,_,rfl⟩) ⟨_,_,_,_,_,_,_,_,_,rfl⟩
 have side:∀ (b:Bool) (y10 y13 y14 y15 y16:Slot),∃z10 z13 z14 z15 z16,eD [1,12] (bN (aa (f2 ak (ab 1) (ab 12)) ae)) (ie 13 14) aB (st ns G T W P y3 y4 y5 y6 y7 y8 y9 y10 y11 (.val (.int (sI b))) y13 y14 y15 y16)=some (.nx (st ns G T W P y3 y4 y5 y6 y7 y8 y9 z10 y11 (.val (.int (sI b))) z13 z14 z15 z16)):=fun b y10 y13 y14 y15 y16=>by
  obtain⟨ρ2,e2,z10,z13,z14,z15,z16,rfl⟩:=wy (tgt:=ie 13 14) (gb:=aB) (fun k=>.tuple [nD k,aQ ((az b G T).getD k (0,[]))]) (fun _ ρ=>∃z10 z13 z14 z15 z16,ρ=st ns G T W P y3 y4 y5 y6 y7 y8 y9 z10 y11 (.val (.int (sI b))) z13 z14 z15 z16) (az b G T).length 0 (st ns G T W P y3 y4 y5 y6 y7 y8 y9 y10 y11 (.val (.int (sI b))) y13 y14 y15 y16)
   (fun j ρ _ hj hρ=>by
    obtain⟨z10,z13,z14,z15,z16,rfl⟩:=hρ
    obtain⟨u10,u15,u16,e⟩:=Mf (ns:=ns) (b:=b) (i:=j) (x3:=y3) (x4:=y4) (x5:=y5) (x6:=y6) (x7:=y7) (x8:=y8) (x9:=y9) (x10:=z10) (x11:=y11) (x15:=z15) (x16:=z16) hl h p r (by omega)
    exact⟨_,_,rfl,e,_,_,_,_,_,rfl⟩) ⟨_,_,_,_,_,rfl⟩
  rw[<- yI,<- qF] at e2
  exact⟨z10,z13,z14,z15,z16,dX e2 (Cp (aq (cM b G T W) rfl rfl)) rfl⟩
 obtain⟨a10,a13,a14,a15,a16,ea⟩:=side false y10 x13 x14 x15 x16
 obtain⟨c10,c13,c14,c15,c16,ec⟩:=side true a10 a13 a14 a15 a16
 unfold pB
 refine⟨y3,y4,y5,y6,y7,y8,y9,c10,y11,.val (.int (sI true)),c13,c14,c15,c16,?_⟩
 rw[<- Ez] at e1
 refine (ai (dX e1 (Cp (aq (eI G T W) rfl rfl)) rfl)).trans ?_
 refine dX (ds:=[.int (sI false),.int (sI true)]) (ρ1:=st ns G T W P y3 y4 y5 y6 y7 y8 y9 y10 y11 x12 x13 x14 x15 x16) ?_ (LA _) rfl
 rw[jt (ρ1:=st ns G T W P y3 y4 y5 y6 y7 y8 y9 y10 y11 (.val (.int (sI false))) x13 x14 x15 x16) rfl ea,jt (ρ1:=st ns G T W P y3 y4 y5 y6 y7 y8 y9 a10 y11 (.val (.int (sI true))) a13 a14 a15 a16) rfl ec]
 rfl
theorem main(ns:List Int)(hl:ns.length<=63):jq [.list (ns.map PyData.int)]=some (.bool true):=by
 obtain⟨G,T,W,ew,h,few⟩:=yV (ns:=ns) (a:=0) (mo:=9) hl (by omega)
 obtain⟨a3,a4,a5,a6,a7,a8,a9,a10,a11,a12,a13,a14,a15,a16,ea⟩:=vH (ns:=ns) (x3:=.non) (x4:=.non) (x5:=.non) (x6:=.non) (x7:=.non) (x8:=.non) (x9:=.non) (x10:=.non) (x11:=.non) (x12:=.non) (x13:=.non) (x14:=.non) (x15:=.non) (x16:=.non) hl h few (gf h) (Hw h)
 obtain⟨c3,c4,c5,c6,c7,c8,c9,c10,c11,c12,c13,c14,c15,c16,ec⟩:=vH (ns:=ns) (x3:=a3) (x4:=a4) (x5:=a5) (x6:=a6) (x7:=a7) (x8:=a8) (x9:=a9) (x10:=a10) (x11:=a11) (x12:=a12) (x13:=a13) (x14:=a14) (x15:=a15) (x16:=a16) hl h few (NT h) (O6 h)
 refine aC ?_
 show lN [.val (dI ns),.non,.non,.non,.non,.non,.non,.non,.non,.non,.non,.non,.non,.non,.non,.non,.non]=_
 unfold lN
 refine (ai (aN (call_of ew rfl rfl) (call_of ew rfl rfl) rfl)).trans ?_
 have ef:eF (vI 2) pB [af (kL G T W),af (AH G T W)] [.val (dI ns),.val (ax G T W),.non,.non,.non,.non,.non,.non,.non,.non,.non,.non,.non,.non,.non,.non,.non]=some (.nx (st ns G T W (AH G T W) c3 c4 c5 c6 c7 c8 c9 c10 c11 c12 c13 c14 c15 c16)):=by
  rw[jt (ρ1:=st ns G T W (kL G T W) .non .non .non .non .non .non .non .non .non .non .non .non .non .non) rfl ea,jt (ρ1:=st ns G T W (AH G T W) a3 a4 a5 a6 a7 a8 a9 a10 a11 a12 a13 a14 a15 a16) rfl ec]
  rfl
 refine (ai (dX (ds:=[af (kL G T W),af (AH G T W)]) ef (pZ (Ms (call_of (qV h) rfl rfl) (call_of (J5 h) rfl rfl))) rfl)).trans ?_
 exact aH rfl
end
end K52M
end Wm
namespace K52
open PySem L2 Dl PySem.Spec PyProof.Rows Pg Hd
theorem main(ns:List Int)(h:ns.length<=63):jq [.list (ns.map PyData.int)]=some (.bool true):=Wm.K52M.main ns h
theorem ins(P:Params):N4 (Kf P):=⟨f3 70 69 iC,f2 77 76 iC,f3 84 83 iC,f2 89 88 iC,f2 96 95 iC,f3 103 102 iC,f3 108 107 iC,f1 113 112 iC,f1 118 117 iC,f4 123 122 iC,f3 128 127 iC,f2 133 132 iC,f1 140 139 iC,f2 147 146 iC,f3 154 153 iC,f2 161 160 iC,f1 168 167 iC,f3 175 174 iC,f3 182 181 iC,l1 189 188 iC,f1 194 193 iC,f2 199 198 iC,f5 206 205 zu,f4 213 212 zu,f2 220 219 zu,f4 227 226 zu,f3 234 233 zu,f2 239 238 zu,f3 246 245 zu,f6 253 252 zu,f3 260 259 xk,f3 267 266 xk,l3 272 271 xk,f4 277 276 xk,f4 282 281 xk,f3 289 288 xk,f2 296 295 xk,f2 303 302 xk,f2 310 309 xk,f3 315 314 zv,f1 320 319 zv,f3 327 326 zv,f2 334 333 zv,f1 341 340 zv,f2 348 347 zv,f1 355 354 zv,f1 362 361 zv,f2 367 366 Ih,f4 372 371 Ih,f5 379 378 Ih,f3 386 385 Ih,f4 391 390 Ih,f3 396 395 Pe,f1 403 402 Pe,f2 410 409 Ii,f3 417 416 Ii,f3 424 423 Ii,f3 429 428 Ii,f1 436 435 Ii,Dl.La (t:=257) (by kernel_rfl),Dl.La (t:=259) (by kernel_rfl),Dl.MD (by kernel_rfl) (by kernel_rfl) (by kernel_rfl) (by kernel_rfl) (by kernel_rfl) (by kernel_rfl) (by kernel_rfl) (by kernel_rfl) (by kernel_rfl) (by kernel_rfl) (by kernel_rfl) (by kernel_rfl) (by kernel_rfl) (by kernel_rfl) (by kernel_rfl) (by kernel_rfl) (by kernel_rfl)⟩
theorem Ra(w:World):nQ (Kf w.params) [184,269]=true:=by kernel_rfl
end K52
open PySem PySem.W PyProof.Rows
theorem PySem.Challenge.cw_stillflow_k52_whole_little_changes_holds : PySem.Challenge.rw_stillflow_k52_whole_little_changes.Holds := by
 refine holds_law K52.PZ fun k1=>?_
 refine holds_open (XP:=XL K52.vw []) (YP:=K52.hk.says) K52.left K52.hk.of K52.hk.keeps (fun s e=>xl_of s (Bool.and_eq_true_iff.mp e).1) XL.keeps (by rfl) (by rfl) (by rfl) (fun s e=>recFacts_of (Bool.and_eq_true_iff.mp e).2) (by rfl) k1 (by decide +kernel) ⟨rfl,rfl,rfl,rfl,rfl,by decide +kernel⟩ ?hw ?hc
 case hw=>w_witness2
 case hc=>exact K52.walk (l:=PySem.Challenge.rw_stillflow_k52_whole_little_changes) (K:=K52.Kf) (ts:=[184,269]) rfl rfl rfl (fun w h Y=>⟨Y.1,Y.2⟩) K52.Ra (fun w=>K52.ins w.params) K52.main
