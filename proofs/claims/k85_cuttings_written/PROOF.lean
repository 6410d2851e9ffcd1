import PyProof.Rows.All
import KE.KFromBytes
import KE.KIsAll
import PyProof.EqAt
import PyProof.EqKinds
import PyProof.TupleCall
import PyProof.ZipIter
import PyProof.Draws
import PyProof.CompFree
import PyProof.NeKinds
import PyProof.NsDelKeeps
import PyProof.ExcArgsOwn
import PyProof.ExcAttrAll.ValueError
import KE.KSortTup
import KE.KIntText
import PyProof.FitsReplace
import PyProof.StrWalks
import PySem.Challenge.RW_scissorhall_k85_cuttings_written
set_option Elab.async false
set_option maxRecDepth 100000
set_option maxHeartbeats 0
namespace L2
open PySem
def fX (s:Stmt):Arguments:=match s with
 | .FunctionDef _ a _ _ _ _ _ _ _ _=>a
 | _=>{ posonlyargs:=[],args:=[],vararg:=none,kwonlyargs:=[],kw_defaults:=[],kwarg:=none,defaults:=[] }
def eR (s:Stmt):List Stmt:=match s with
 | .FunctionDef _ _ b _ _ _ _ _ _ _=>b
 | _=>[]
def aW (s:Stmt):Scope:=match s with
 | .FunctionDef _ _ _ _ _ _ sc _ _ _=>sc
 | _=>{ kind:=.function,names:=[],isGenerator:=false,isCoroutine:=false }
end L2
namespace Sc
noncomputable section
open PySem L2
def top (i:Nat):Stmt:=PySem.Challenge.pw_scissorhall_k85_cuttings_written.main.body.getD i (.Pass ⟨0,0,0,0⟩)
abbrev vs (s:String) (t:Nat):Value:=.str (Str.ofString s) t
abbrev vi (i:Int):Value:=.int i 0
abbrev vr (a:Nat):Value:=.ref a
abbrev fo (n:String) (i:Nat) (dV dc pm cd ct:Value):Obj:=⟨.type "function",none,.func (PySem.W.fnOf (Str.ofString n) (Str.ofString n) (fX (top i)) (eR (top i)) (aW (top i)) dV .none dc pm none cd ct),#[]⟩
abbrev fc (l:List Value):Obj:=⟨.type "code",none,.fields l.toArray,#[]⟩
abbrev hdz (n:String) (t l a r g:Nat) (x:List Value):Obj:=fc (vs n t :: vs n (t+1) :: vs "/claim/cut.py" (t+2) :: vi l :: vi a :: vi 0 :: vi 0 :: vi 3 :: vr r :: .bool true :: vi g :: vr (r+1) :: .none :: x)
abbrev hdq (n:String) (t l a r g u:Nat):Obj:=hdz n t l a r g [vr (r+2),vr (r+3),vr (r+4),vi u,vi l,vs "/claim/cut.py" (u+1)]
abbrev hdp (n:String) (t l a r g:Nat):Obj:=hdz n t l a r g [.none,.none,vr (r+2),vi (t+3),vi l,vs "/claim/cut.py" (t+4)]
abbrev fd (P:Params) (n:Nat) (l:List (String × Nat × Value)):Obj:=⟨.type "dict",none,.dict (l.map fun e=>⟨PyData.keyHash P (Str.ofString e.1),.str (Str.ofString e.1) e.2.1,e.2.2⟩).toArray n,#[]⟩
def KK (P:Params):PySem.W.Frag :=
 (nat_lit 3,fd P 78 [("__name__",165,vs "law_scissorhall_k85_cuttings_written" 544),("__doc__",166,.none),("__package__",167,.none),("__loader__",168,(.builtin "__main__.__loader__#opaque")),("__spec__",169,.none),("__annotations__",170,vr 6),("__builtins__",171,vr 4),("__file__",173,vs "/claim/cut.py" 172),("__cached__",174,.none),("HallError",206,vr 24),("NoNumber",222,vr 37),("NoPoint",238,vr 49),("Flat",254,vr 61),("NoMove",270,vr 73),("NoText",286,vr 85),("TooGreat",302,vr 97),("sign",311,vr 106),("divisor",320,vr 113),("reduced",326,vr 118),("fraction",336,vr 126),("point",345,vr 132),("measures",351,vr 137),("point_at",357,vr 142),("whole_arrow",363,vr 147),("dot",369,vr 152),("normal",378,vr 159),("determinant",384,vr 164),("side",391,vr 171),("simplex",402,vr 178),("move",412,vr 185),("is_push",419,vr 192),("FIGURES",423,vs "0123456789" 422),("MOST_FIGURES",425,(.int 60 424)),("NOTHING",427,vs "none" 426),("PUSH",429,vs "push" 428),("TURN",431,vs "turn" 430),("shown_whole",438,vr 199),("shown_number",446,vr 206),("shown_point",452,vr 211),("shown_simplex",458,vr 216),("shown_rows",465,vr 223),("shown_move",472,vr 230),("shown_cutting",478,vr 235),("refuse_unless",485,vr 242),("read_whole",491,vr 247),("read_number",502,vr 254),("read_point",508,vr 259),("read_corners",514,vr 264),("read_rows",521,vr 271),("read_move",529,vr 278),("read_piece",537,vr 285),("read_cutting",543,vr 290),("_law_row",558,vr 297),("_law_take",567,vr 304),("_law_gcd",575,vr 311),("_law_lowest",581,vr 316),("_law_whole",588,vr 323),("_law_wholes",594,vr 328),("_law_frac",602,vr 335),("_law_gap",608,vr 340),("_law_cross",619,vr 347),("_law_dot",625,vr 352),("_law_turn",632,vr 359),("_law_det",638,vr 364),("_law_simplex",646,vr 371),("_law_point_form",654,vr 378),("_law_simplex_form",660,vr 383),("_law_cutting_form",670,vr 390),("_law_far",676,vr 395),("_law_handed",684,vr 402),("_law_written",692,vr 409),("_law_point_text",698,vr 414),("_law_points_text",704,vr 419),("_law_great_heap",710,vr 424),("_law_piece_text",719,vr 431),("_law_cutting_text",725,vr 436),("_law_once",731,vr 441),("law",739,vr 448)]) ::
 (nat_lit 23,fd P 3 [("__module__",196,vs "scissorhall.errors" 187),("__firstlineno__",200,(.int 2 199)),("__static_attributes__",201,vr 22),("__weakref__",203,vr 25),("__doc__",204,.none)]) ::
 (nat_lit 24,⟨(.type "type"),none,.cls { name:="HallError",bases:=[(.type "ValueError")],mro:=[vr 24,(.type "ValueError"),(.type "Exception"),(.type "BaseException"),(.type "object")],ns:=23,qualname:="HallError",hasDict:=true,subclasses:=[vr 37,vr 49,vr 61,vr 73,vr 85,vr 97] },#[some (vr 15),none,some (vs "HallError" 189),some (vs "HallError" 197),some (.builtin "ValueError.__new__"),some (.bool true)]⟩) ::
 (nat_lit 36,fd P 2 [("__module__",214,vs "scissorhall.errors" 187),("__firstlineno__",218,(.int 4 217)),("__static_attributes__",219,vr 35),("__doc__",220,.none)]) ::
 (nat_lit 37,⟨(.type "type"),none,.cls { name:="NoNumber",bases:=[vr 24],mro:=[vr 37,vr 24,(.type "ValueError"),(.type "Exception"),(.type "BaseException"),(.type "object")],ns:=36,qualname:="NoNumber",hasDict:=true,subclasses:=[] },#[some (vr 28),none,some (vs "NoNumber" 207),some (vs "NoNumber" 215),some (.builtin "ValueError.__new__"),some (.bool true)]⟩) ::
 (nat_lit 48,fd P 2 [("__module__",230,vs "scissorhall.errors" 187),("__firstlineno__",234,(.int 6 233)),("__static_attributes__",235,vr 47),("__doc__",236,.none)]) ::
 (nat_lit 49,⟨(.type "type"),none,.cls { name:="NoPoint",bases:=[vr 24],mro:=[vr 49,vr 24,(.type "ValueError"),(.type "Exception"),(.type "BaseException"),(.type "object")],ns:=48,qualname:="NoPoint",hasDict:=true,subclasses:=[] },#[some (vr 40),none,some (vs "NoPoint" 223),some (vs "NoPoint" 231),some (.builtin "ValueError.__new__"),some (.bool true)]⟩) ::
 (nat_lit 60,fd P 2 [("__module__",246,vs "scissorhall.errors" 187),("__firstlineno__",250,(.int 8 249)),("__static_attributes__",251,vr 59),("__doc__",252,.none)]) ::
 (nat_lit 61,⟨(.type "type"),none,.cls { name:="Flat",bases:=[vr 24],mro:=[vr 61,vr 24,(.type "ValueError"),(.type "Exception"),(.type "BaseException"),(.type "object")],ns:=60,qualname:="Flat",hasDict:=true,subclasses:=[] },#[some (vr 52),none,some (vs "Flat" 239),some (vs "Flat" 247),some (.builtin "ValueError.__new__"),some (.bool true)]⟩) ::
 (nat_lit 72,fd P 2 [("__module__",262,vs "scissorhall.errors" 187),("__firstlineno__",266,(.int 10 265)),("__static_attributes__",267,vr 71),("__doc__",268,.none)]) ::
 (nat_lit 73,⟨(.type "type"),none,.cls { name:="NoMove",bases:=[vr 24],mro:=[vr 73,vr 24,(.type "ValueError"),(.type "Exception"),(.type "BaseException"),(.type "object")],ns:=72,qualname:="NoMove",hasDict:=true,subclasses:=[] },#[some (vr 64),none,some (vs "NoMove" 255),some (vs "NoMove" 263),some (.builtin "ValueError.__new__"),some (.bool true)]⟩) ::
 (nat_lit 84,fd P 2 [("__module__",278,vs "scissorhall.errors" 187),("__firstlineno__",282,(.int 12 281)),("__static_attributes__",283,vr 83),("__doc__",284,.none)]) ::
 (nat_lit 85,⟨(.type "type"),none,.cls { name:="NoText",bases:=[vr 24],mro:=[vr 85,vr 24,(.type "ValueError"),(.type "Exception"),(.type "BaseException"),(.type "object")],ns:=84,qualname:="NoText",hasDict:=true,subclasses:=[] },#[some (vr 76),none,some (vs "NoText" 271),some (vs "NoText" 279),some (.builtin "ValueError.__new__"),some (.bool true)]⟩) ::
 (nat_lit 96,fd P 2 [("__module__",294,vs "scissorhall.errors" 187),("__firstlineno__",298,(.int 14 297)),("__static_attributes__",299,vr 95),("__doc__",300,.none)]) ::
 (nat_lit 97,⟨(.type "type"),none,.cls { name:="TooGreat",bases:=[vr 24],mro:=[vr 97,vr 24,(.type "ValueError"),(.type "Exception"),(.type "BaseException"),(.type "object")],ns:=96,qualname:="TooGreat",hasDict:=true,subclasses:=[] },#[some (vr 88),none,some (vs "TooGreat" 287),some (vs "TooGreat" 295),some (.builtin "ValueError.__new__"),some (.bool true)]⟩) ::
 (nat_lit 105,hdq "sign" 305 17 1 100 181 309) ::
 (nat_lit 106,fo "sign" 9 .none .none (vs "scissorhall.lowest" 303) (vr 105) .none) ::
 (nat_lit 112,hdq "divisor" 312 23 2 107 181 318) ::
 (nat_lit 113,fo "divisor" 10 .none .none (vs "scissorhall.lowest" 303) (vr 112) .none) ::
 (nat_lit 117,hdp "reduced" 321 29 1 114 181) ::
 (nat_lit 118,fo "reduced" 11 .none .none (vs "scissorhall.lowest" 303) (vr 117) .none) ::
 (nat_lit 119,⟨.type "tuple",none,.seq #[(.int 1 327)] 0,#[]⟩) ::
 (nat_lit 125,hdq "fraction" 328 34 2 120 181 334) ::
 (nat_lit 126,fo "fraction" 12 (vr 119) .none (vs "scissorhall.lowest" 303) (vr 125) .none) ::
 (nat_lit 127,⟨.type "tuple",none,.seq #[(.int 1 339)] 0,#[]⟩) ::
 (nat_lit 131,hdp "point" 340 40 2 128 181) ::
 (nat_lit 132,fo "point" 14 (vr 127) .none (vs "scissorhall.points" 337) (vr 131) .none) ::
 (nat_lit 136,hdp "measures" 346 44 1 133 181) ::
 (nat_lit 137,fo "measures" 15 .none .none (vs "scissorhall.points" 337) (vr 136) .none) ::
 (nat_lit 141,hdp "point_at" 352 46 1 138 181) ::
 (nat_lit 142,fo "point_at" 16 .none .none (vs "scissorhall.points" 337) (vr 141) .none) ::
 (nat_lit 146,hdp "whole_arrow" 358 51 2 143 181) ::
 (nat_lit 147,fo "whole_arrow" 17 .none .none (vs "scissorhall.points" 337) (vr 146) .none) ::
 (nat_lit 151,hdp "dot" 364 53 2 148 181) ::
 (nat_lit 152,fo "dot" 18 .none .none (vs "scissorhall.points" 337) (vr 151) .none) ::
 (nat_lit 158,hdq "normal" 370 55 1 153 181 376) ::
 (nat_lit 159,fo "normal" 19 .none .none (vs "scissorhall.points" 337) (vr 158) .none) ::
 (nat_lit 163,hdp "determinant" 379 61 1 160 181) ::
 (nat_lit 164,fo "determinant" 20 .none .none (vs "scissorhall.points" 337) (vr 163) .none) ::
 (nat_lit 170,hdq "side" 385 64 1 165 181 389) ::
 (nat_lit 171,fo "side" 21 .none .none (vs "scissorhall.points" 337) (vr 170) .none) ::
 (nat_lit 177,hdq "simplex" 394 67 1 172 181 400) ::
 (nat_lit 178,fo "simplex" 23 .none .none (vs "scissorhall.simplexes" 392) (vr 177) .none) ::
 (nat_lit 184,hdq "move" 405 76 2 179 181 410) ::
 (nat_lit 185,fo "move" 25 .none .none (vs "scissorhall.moves" 403) (vr 184) .none) ::
 (nat_lit 191,hdq "is_push" 413 80 1 186 181 417) ::
 (nat_lit 192,fo "is_push" 26 .none .none (vs "scissorhall.moves" 403) (vr 191) .none) ::
 (nat_lit 198,hdq "shown_whole" 432 88 1 193 181 436) ::
 (nat_lit 199,fo "shown_whole" 33 .none .none (vs "scissorhall.texts" 420) (vr 198) .none) ::
 (nat_lit 205,hdq "shown_number" 439 92 1 200 181 444) ::
 (nat_lit 206,fo "shown_number" 34 .none .none (vs "scissorhall.texts" 420) (vr 205) .none) ::
 (nat_lit 210,hdp "shown_point" 447 99 1 207 181) ::
 (nat_lit 211,fo "shown_point" 35 .none .none (vs "scissorhall.texts" 420) (vr 210) .none) ::
 (nat_lit 215,hdp "shown_simplex" 453 101 1 212 181) ::
 (nat_lit 216,fo "shown_simplex" 36 .none .none (vs "scissorhall.texts" 420) (vr 215) .none) ::
 (nat_lit 222,hdq "shown_rows" 459 103 1 217 181 463) ::
 (nat_lit 223,fo "shown_rows" 37 .none .none (vs "scissorhall.texts" 420) (vr 222) .none) ::
 (nat_lit 229,hdq "shown_move" 466 105 1 224 181 470) ::
 (nat_lit 230,fo "shown_move" 38 .none .none (vs "scissorhall.texts" 420) (vr 229) .none) ::
 (nat_lit 234,hdp "shown_cutting" 473 107 1 231 181) ::
 (nat_lit 235,fo "shown_cutting" 39 .none .none (vs "scissorhall.texts" 420) (vr 234) .none) ::
 (nat_lit 241,hdq "refuse_unless" 479 109 1 236 181 483) ::
 (nat_lit 242,fo "refuse_unless" 40 .none .none (vs "scissorhall.texts" 420) (vr 241) .none) ::
 (nat_lit 246,hdp "read_whole" 486 112 1 243 181) ::
 (nat_lit 247,fo "read_whole" 41 .none .none (vs "scissorhall.texts" 420) (vr 246) .none) ::
 (nat_lit 253,hdq "read_number" 492 115 1 248 181 500) ::
 (nat_lit 254,fo "read_number" 42 .none .none (vs "scissorhall.texts" 420) (vr 253) .none) ::
 (nat_lit 258,hdp "read_point" 503 123 1 255 181) ::
 (nat_lit 259,fo "read_point" 43 .none .none (vs "scissorhall.texts" 420) (vr 258) .none) ::
 (nat_lit 263,hdp "read_corners" 509 127 1 260 181) ::
 (nat_lit 264,fo "read_corners" 44 .none .none (vs "scissorhall.texts" 420) (vr 263) .none) ::
 (nat_lit 270,hdq "read_rows" 515 131 1 265 181 519) ::
 (nat_lit 271,fo "read_rows" 45 .none .none (vs "scissorhall.texts" 420) (vr 270) .none) ::
 (nat_lit 277,hdq "read_move" 522 133 1 272 181 527) ::
 (nat_lit 278,fo "read_move" 46 .none .none (vs "scissorhall.texts" 420) (vr 277) .none) ::
 (nat_lit 284,hdq "read_piece" 530 137 1 279 181 535) ::
 (nat_lit 285,fo "read_piece" 47 .none .none (vs "scissorhall.texts" 420) (vr 284) .none) ::
 (nat_lit 289,hdp "read_cutting" 538 141 1 286 181) ::
 (nat_lit 290,fo "read_cutting" 48 .none .none (vs "scissorhall.texts" 420) (vr 289) .none) ::
 (nat_lit 296,hdq "_law_row" 546 147 1 291 181 556) ::
 (nat_lit 297,fo "_law_row" 50 .none .none (vs "law_scissorhall_k85_cuttings_written" 544) (vr 296) .none) ::
 (nat_lit 303,hdq "_law_take" 559 161 2 298 181 565) ::
 (nat_lit 304,fo "_law_take" 51 .none .none (vs "law_scissorhall_k85_cuttings_written" 544) (vr 303) .none) ::
 (nat_lit 310,hdq "_law_gcd" 568 169 2 305 181 573) ::
 (nat_lit 311,fo "_law_gcd" 52 .none .none (vs "law_scissorhall_k85_cuttings_written" 544) (vr 310) .none) ::
 (nat_lit 315,hdp "_law_lowest" 576 175 1 312 181) ::
 (nat_lit 316,fo "_law_lowest" 53 .none .none (vs "law_scissorhall_k85_cuttings_written" 544) (vr 315) .none) ::
 (nat_lit 322,hdq "_law_whole" 582 182 1 317 181 586) ::
 (nat_lit 323,fo "_law_whole" 54 .none .none (vs "law_scissorhall_k85_cuttings_written" 544) (vr 322) .none) ::
 (nat_lit 327,hdp "_law_wholes" 589 184 2 324 181) ::
 (nat_lit 328,fo "_law_wholes" 55 .none .none (vs "law_scissorhall_k85_cuttings_written" 544) (vr 327) .none) ::
 (nat_lit 334,hdq "_law_frac" 595 188 2 329 181 600) ::
 (nat_lit 335,fo "_law_frac" 56 .none .none (vs "law_scissorhall_k85_cuttings_written" 544) (vr 334) .none) ::
 (nat_lit 339,hdp "_law_gap" 603 192 2 336 181) ::
 (nat_lit 340,fo "_law_gap" 57 .none .none (vs "law_scissorhall_k85_cuttings_written" 544) (vr 339) .none) ::
 (nat_lit 346,hdq "_law_cross" 609 194 2 341 181 617) ::
 (nat_lit 347,fo "_law_cross" 58 .none .none (vs "law_scissorhall_k85_cuttings_written" 544) (vr 346) .none) ::
 (nat_lit 351,hdp "_law_dot" 620 199 2 348 181) ::
 (nat_lit 352,fo "_law_dot" 59 .none .none (vs "law_scissorhall_k85_cuttings_written" 544) (vr 351) .none) ::
 (nat_lit 358,hdq "_law_turn" 626 201 1 353 181 630) ::
 (nat_lit 359,fo "_law_turn" 60 .none .none (vs "law_scissorhall_k85_cuttings_written" 544) (vr 358) .none) ::
 (nat_lit 363,hdp "_law_det" 633 205 1 360 181) ::
 (nat_lit 364,fo "_law_det" 61 .none .none (vs "law_scissorhall_k85_cuttings_written" 544) (vr 363) .none) ::
 (nat_lit 370,hdq "_law_simplex" 639 207 1 365 181 644) ::
 (nat_lit 371,fo "_law_simplex" 62 .none .none (vs "law_scissorhall_k85_cuttings_written" 544) (vr 370) .none) ::
 (nat_lit 377,hdq "_law_point_form" 647 212 2 372 181 652) ::
 (nat_lit 378,fo "_law_point_form" 63 .none .none (vs "law_scissorhall_k85_cuttings_written" 544) (vr 377) .none) ::
 (nat_lit 382,hdp "_law_simplex_form" 655 216 2 379 181) ::
 (nat_lit 383,fo "_law_simplex_form" 64 .none .none (vs "law_scissorhall_k85_cuttings_written" 544) (vr 382) .none) ::
 (nat_lit 389,hdq "_law_cutting_form" 661 222 3 384 181 668) ::
 (nat_lit 390,fo "_law_cutting_form" 65 .none .none (vs "law_scissorhall_k85_cuttings_written" 544) (vr 389) .none) ::
 (nat_lit 394,hdp "_law_far" 671 233 2 391 181) ::
 (nat_lit 395,fo "_law_far" 66 .none .none (vs "law_scissorhall_k85_cuttings_written" 544) (vr 394) .none) ::
 (nat_lit 401,hdq "_law_handed" 677 239 2 396 181 682) ::
 (nat_lit 402,fo "_law_handed" 67 .none .none (vs "law_scissorhall_k85_cuttings_written" 544) (vr 401) .none) ::
 (nat_lit 408,hdq "_law_written" 685 243 2 403 181 690) ::
 (nat_lit 409,fo "_law_written" 68 .none .none (vs "law_scissorhall_k85_cuttings_written" 544) (vr 408) .none) ::
 (nat_lit 413,hdp "_law_point_text" 693 250 1 410 181) ::
 (nat_lit 414,fo "_law_point_text" 69 .none .none (vs "law_scissorhall_k85_cuttings_written" 544) (vr 413) .none) ::
 (nat_lit 418,hdp "_law_points_text" 699 255 1 415 181) ::
 (nat_lit 419,fo "_law_points_text" 70 .none .none (vs "law_scissorhall_k85_cuttings_written" 544) (vr 418) .none) ::
 (nat_lit 423,hdp "_law_great_heap" 705 260 3 420 181) ::
 (nat_lit 424,fo "_law_great_heap" 71 .none .none (vs "law_scissorhall_k85_cuttings_written" 544) (vr 423) .none) ::
 (nat_lit 430,hdq "_law_piece_text" 711 276 1 425 181 717) ::
 (nat_lit 431,fo "_law_piece_text" 72 .none .none (vs "law_scissorhall_k85_cuttings_written" 544) (vr 430) .none) ::
 (nat_lit 435,hdp "_law_cutting_text" 720 282 1 432 181) ::
 (nat_lit 436,fo "_law_cutting_text" 73 .none .none (vs "law_scissorhall_k85_cuttings_written" 544) (vr 435) .none) ::
 (nat_lit 440,hdp "_law_once" 726 289 1 437 181) ::
 (nat_lit 441,fo "_law_once" 74 .none .none (vs "law_scissorhall_k85_cuttings_written" 544) (vr 440) .none) ::
 (nat_lit 447,hdq "law" 732 313 1 442 181 737) ::
 (nat_lit 448,fo "law" 75 .none .none (vs "law_scissorhall_k85_cuttings_written" 544) (vr 447) .none) :: []
def KA:List Nat:=[3,23,24,36,37,48,49,60,61,72,73,84,85,96,97,105,106,112,113,117,118,119,125,126,127,131,132,136,137,141,142,146,147,151,152,158,159,163,164,170,171,177,178,184,185,191,192,198,199,205,206,210,211,215,216,222,223,229,230,234,235,241,242,246,247,253,254,258,259,263,264,270,271,277,278,284,285,289,290,296,297,303,304,310,311,315,316,322,323,327,328,334,335,339,340,346,347,351,352,358,359,363,364,370,371,377,378,382,383,389,390,394,395,401,402,408,409,413,414,418,419,423,424,430,431,435,436,440,441,447,448]
def VW:Program:={ PySem.Challenge.pw_scissorhall_k85_cuttings_written with main:={ PySem.Challenge.pw_scissorhall_k85_cuttings_written.main with body:=[top 1,top 2,top 3,top 4,top 5,top 6,top 7,top 9,top 10,top 11,top 15,top 16,top 17,top 18,top 19,top 20,top 21,top 23,top 25,top 26,top 28,top 29,top 30,top 31,top 32,top 33,top 34,top 35,top 36,top 37,top 38,top 39,top 40,top 41,top 42,top 43,top 44,top 45,top 46,top 47,top 48,top 50,top 51,top 52,top 53,top 54,top 55,top 56,top 57,top 58,top 59,top 60,top 61,top 62,top 63,top 64,top 65,top 66,top 67,top 68,top 69,top 70,top 71,top 72,top 73,top 74,top 75] } }
theorem KE:∀ P,KA=(KK P).map (·.1):=fun _=>by kernel_rfl
open PySem.W PyProof.Rows PySem.Spec
abbrev RN (w:World):=openEnds treeTable PySem.Challenge.pw_scissorhall_k85_cuttings_written w 6508
abbrev LW:=looseW VW [PySem.Str.ofString "fraction",PySem.Str.ofString "point"]
theorem akV:∀ w,(RN w).map (fun s=>Hook.obs (PySem.W.kHook KK KA KE) s)=some (Hook.val (PySem.W.kHook KK KA KE) w):=by
 intro w
 kernel_rfl
theorem alu:∀ w,(RN w).map (fun s=>seen ((recsOf VW).map (·.name)) (ownsOf VW) [] { s with gens:=#[] })=some (expectedOf VW):=by
 intro w
 kernel_rfl
theorem alB:∀ w,(RN w).map (fun s=>s.heap.bltView)=some (bltViewBooted):=by
 intro w
 kernel_rfl
theorem als:∀ w,(RN w).map (fun s=>s.heap.keysOk LW ((recsOf VW).map (·.name)) ((litsOf VW).map (·.1)) ((clssOf VW LW).map (·.name)))=some (true):=by
 intro w
 kernel_rfl
theorem akK:∀ w,(RN w).map (fun s=>s.heap.accountedOkI (importedModules PySem.Challenge.pw_scissorhall_k85_cuttings_written.main.body) && (s.heap.isNs mainGlobals && s.heap.isNs builtinsNs && tablesOk VW s.heap) && ((fun s=>PySem.W.xlAt VW [] s && PySem.W.recOk (PySem.W.RowW.records (PySem.W.OpenRow.toRowW (PySem.W.OpenLaw.row PySem.Challenge.rw_scissorhall_k85_cuttings_written))) s) s && (s.gens.size == 0)))=some (true):=by
 intro w
 kernel_rfl
theorem alk:∀ w,(RN w).map (fun s=>tabsOk VW s)=some (true):=by
 intro w
 kernel_rfl
theorem ak6:∀ w,(RN w).map (fun s=>(pinSeenD VW (drecsOf VW) s,plainSeenD VW [PySem.Str.ofString "fraction",PySem.Str.ofString "point"] s,clsSeenW VW [PySem.Str.ofString "fraction",PySem.Str.ofString "point"] s))=some (pinGoodD (drecsOf VW),plainGoodD VW [PySem.Str.ofString "fraction",PySem.Str.ofString "point"],clsGoodW VW [PySem.Str.ofString "fraction",PySem.Str.ofString "point"]):=by
 intro w
 kernel_rfl
theorem ak5:∀ w,(RN w).map (fun s=>plainSeenE VW LW s)=some (plainGoodE VW LW):=by
 intro w
 kernel_rfl
theorem ak3:∀ w,(RN w).map (fun s=>wideSeen VW s)=some (wideGood VW):=by
 intro w
 kernel_rfl
theorem bz {k a n m t x g:Bool} (h:k=true) (h2:(a && (n && m && t) && (x && g))=true):(k && a && n && m && t && x && g)=true:=by
 revert h h2
 cases k <;> cases a <;> cases n <;> cases m <;> cases t <;> cases x <;> cases g <;> decide
theorem al7 {A B C P Q R T V Y:Type} {o:Option Shared} {y:Y} {G:Shared→Y} {k a n m t x g f:Shared→Bool} {b:Shared→B} {c:Shared→C} {p:Shared→P} {q:Shared→Q} {r:Shared→R} {u:Shared→T} {v:Shared→V} {b':B} {c':C} {p':P} {q':Q} {r':R} {u':T} {v':V} (hA:o.map G=some y) (hB:o.map b=some b') (hC:o.map c=some c') (hD:o.map k=some true) (hE:o.map (fun s=>a s && (n s && m s && t s) && (x s && g s))=some true) (hF:o.map f=some true)
  (hG:o.map (fun s=>(p s,q s,r s))=some (p',q',r')) (hH:o.map u=some u') (hI:o.map v=some v'):o.map (fun s=>((b s,c s,(k s && a s && n s && m s && t s && x s && g s),f s,p s,u s,q s,v s,r s),G s))=some ((b',c',true,true,p',u',q',v',r'),y):=by
 cases o with
 | none=>cases hA
 | some s =>
  have G1:=Prod.mk.inj (Option.some.inj hG)
  have G2:=Prod.mk.inj G1.2
  exact congrArg some (Prod.ext (Prod.ext (Option.some.inj hB) (Prod.ext (Option.some.inj hC) (Prod.ext (bz (Option.some.inj hD) (Option.some.inj hE)) (Prod.ext (Option.some.inj hF) (Prod.ext G1.1 (Prod.ext (Option.some.inj hH) (Prod.ext G2.1 (Prod.ext (Option.some.inj hI) G2.2)))))))) (Option.some.inj hA))
theorem left:LeftO PySem.Challenge.pw_scissorhall_k85_cuttings_written VW [PySem.Str.ofString "fraction",PySem.Str.ofString "point"] (fun s=>PySem.W.xlAt VW [] s && PySem.W.recOk (PySem.W.RowW.records (PySem.W.OpenRow.toRowW (PySem.W.OpenLaw.row PySem.Challenge.rw_scissorhall_k85_cuttings_written))) s) (Hook.obs (PySem.W.kHook KK KA KE)) (Hook.val (PySem.W.kHook KK KA KE)) 6508:=fun w=>al7 (A:=Nat) (akV w) (alu w) (alB w) (als w) (akK w) (alk w) (ak6 w) (ak5 w) (ak3 w)
end
end Sc
set_option maxHeartbeats 200000
set_option Elab.async false
set_option linter.all false
set_option maxRecDepth 100000
namespace L2
open PySem PySem.Spec PyProof.Rows
abbrev Key:=Sum Int Str
def ajc:Key→Value→Bool
 | .inl k,v=>Value.isInt k v
 | .inr x,v=>Value.isStrOf x v
def al2 (w:World):Key→Int
 | .inl k=>hashInt k
 | .inr x=>hashStr w x
theorem kG:∀ {k:Key} {v:Value},ajc k v=true→(∃ i t,k=Sum.inl i∧v=Value.int i t)∨(∃ x t,k=Sum.inr x∧v=Value.str x t)
 | .inl i,v,h=>by
  obtain ⟨t,e⟩:=Value.isInt_shape (k:=i) (v:=v) h
  exact .inl ⟨i,t,rfl,e⟩
 | .inr x,v,h=>by
  obtain ⟨t,e⟩:=Value.isStrOf_shape (x:=x) (v:=v) h
  exact .inr ⟨x,t,rfl,e⟩
theorem aj8 (a b:Int):decide ((Sum.inl a:Key)=Sum.inl b)=(a == b):=by
 by_cases e:a=b
 ·subst e; simp
 ·have h:¬ (Sum.inl a:Key)=Sum.inl b:=fun q=>e (Sum.inl.inj q)
  rw [decide_eq_false h]
  exact (beq_eq_false_iff_ne.mpr e).symm
theorem ajW (a b:Str):decide ((Sum.inr a:Key)=Sum.inr b)=decide (a=b):=by
 by_cases e:a=b
 ·subst e; simp
 ·have h:¬ (Sum.inr a:Key)=Sum.inr b:=fun q=>e (Sum.inr.inj q)
  rw [decide_eq_false h,decide_eq_false e]
theorem aj6 (a:Int) (b:Str):decide ((Sum.inl a:Key)=Sum.inr b)=false:=decide_eq_false (fun q=>nomatch q)
theorem ajr (a:Str) (b:Int):decide ((Sum.inr a:Key)=Sum.inl b)=false:=decide_eq_false (fun q=>nomatch q)
def acI (prog:Program) (w:World):PySem.KeyKind prog w Key where
 is:=ajc
 hash:=al2 w
 inj:=fun v a b ha hb=>by
  rcases kG ha with ⟨i,t,rfl,rfl⟩ | ⟨x,t,rfl,rfl⟩
  ·rcases kG hb with ⟨j,u,rfl,e⟩ | ⟨y,u,rfl,e⟩
   ·injection e with e1 _; rw [e1]
   ·exact nomatch e
  ·rcases kG hb with ⟨j,u,rfl,e⟩ | ⟨y,u,rfl,e⟩
   ·exact nomatch e
   ·injection e with e1 _; rw [e1]
 byValue:=fun k v h=>by
  rcases kG h with ⟨i,t,rfl,rfl⟩ | ⟨x,t,rfl,rfl⟩ <;> rfl
 pyHash:=fun hv h=>by
  rcases kG hv with ⟨i,t,rfl,rfl⟩ | ⟨x,t,rfl,rfl⟩
  ·exact wpAny_pyHash_int h
  ·exact wpAny_pyHash_str h
 eqBool:=fun hu hv h=>by
  rcases kG hu with ⟨i,t,rfl,rfl⟩ | ⟨x,t,rfl,rfl⟩
  ·rcases kG hv with ⟨j,u,rfl,rfl⟩ | ⟨y,u,rfl,rfl⟩
   ·rw [aj8] at h; exact wpAny_eqBool_int h
   ·rw [aj6] at h; exact SeqAt.EqAt.int_str i t y u _ _ _ _ h
  ·rcases kG hv with ⟨j,u,rfl,rfl⟩ | ⟨y,u,rfl,rfl⟩
   ·rw [ajr] at h; exact SeqAt.EqAt.str_int x t j u _ _ _ _ h
   ·rw [ajW] at h; exact wpAny_eqBool_str h
 «strs»:=fun k x t v h=>by
  rcases kG h with ⟨i,u,rfl,e⟩ | ⟨y,u,rfl,e⟩
  ·exact nomatch e
  ·injection e with e1 _
   subst e1
   cases v <;> rfl
end L2
namespace L2
open PySem PySem.Spec PyProof.Rows
inductive V where
 | non | bl (b:Bool) | int (i:Int) | str (x:Str) | byt (b:Array UInt8) | flt (b:UInt64) | ref (a:Addr) | ty (n:String)
 deriving DecidableEq
def bK:V→Value→Prop
 | .non,u=>u=Value.none
 | .bl b,u=>u=Value.bool b
 | .int i,u=>∃ t,u=Value.int i t
 | .str x,u=>∃ t,u=Value.str x t
 | .byt b,u=>∃ t,u=Value.bytes b t
 | .flt b,u=>∃ t,u=Value.float b t
 | .ref a,u=>u=Value.ref a
 | .ty n,u=>u=Value.type n
abbrev bG:List V→List Value→Prop:=Paired bK
theorem bG.length {xs:List V} {us:List Value} (r:bG xs us):xs.length=us.length:=Paired.length r
theorem bG.get:∀ {xs:List V} {us:List Value} {i:Nat} {x:V},bG xs us→xs[i]?=some x→∃ u,us[i]?=some u∧bK x u
 | _,_,_,_,.nil,e=>by simp at e
 | _,_,0,_,.cons r _,e=>by simp at e; subst e; exact ⟨_,rfl,r⟩
 | _,_,i+1,x,.cons _ t,e=>by
  obtain ⟨u,h1,h2⟩:=bG.get (i:=i) (x:=x) t (by simpa using e)
  exact ⟨u,by simpa using h1,h2⟩
theorem bG.set {x:V} {u:Value} (r:bK x u):∀ {xs:List V} {us:List Value} (i:Nat),bG xs us→bG (xs.set i x) (us.set i u)
 | _,_,_,.nil=>.nil
 | _,_,0,.cons _ t=>.cons r t
 | _,_,i+1,.cons q t=>.cons q (bG.set r i t)
theorem bG.append:∀ {xs ys:List V} {us ws:List Value},bG xs us→bG ys ws→bG (xs++ys) (us++ws)
 | _,_,_,_,.nil,s=>s
 | _,_,_,_,.cons r t,s=>.cons r (bG.append t s)
theorem bG.take:∀ {xs:List V} {us:List Value} (n:Nat),bG xs us→bG (xs.take n) (us.take n)
 | _,_,0,_=>.nil
 | _,_,_+1,.nil=>.nil
 | _,_,n+1,.cons r t=>.cons r (bG.take n t)
theorem bG.drop:∀ {xs:List V} {us:List Value} (n:Nat),bG xs us→bG (xs.drop n) (us.drop n)
 | _,_,0,r=>r
 | _,_,_+1,.nil=>.nil
 | _,_,n+1,.cons _ t=>bG.drop n t
def ak8:Option V→Option Value→Prop
 | some v,some u=>bK v u
 | none,none=>True
 | _,_=>False
def KV {κ:Type}:List (κ × V)→List (κ × Value)→Prop:=Paired fun (p:κ × V) (q:κ × Value)=>p.1=q.1∧bK p.2 q.2
def kV:Key→V
 | .inl i=>.int i
 | .inr x=>.str x
inductive HO where
 /-- a list -/
 | lst (xs:List V)
 /-- a tuple (never changes) -/
 | tup (xs:List V)
 /-- a dict whose keys are ints and texts; one whose keys are tuples of ints and texts (the empty one is both) -/
 | dK (kvs:List (Key × V)) | dT (kvs:List (List Key × V))
 /-- a set of ints: its members,its size -/
 | set (S:Int→Bool) (n:Nat)
 /-- an instance of the class at C,its dict at dx,its attributes -/
 | ins (C dx:Addr) (fs:List (Str × V))
 /-- the dict of the instance at x -/
 | own (x:Addr)
 /-- the dict of an exception -/
 | xd (fs:List (Str × V))
 /-- a bound method,f of x -/
 | met (f x:Addr)
 /-- a range object lo,lo+1,.. below hi -/
 | rng (lo hi:Int)
 /-- a thing that is known to the object (the script; a dict while a loop walks it): read,never written while it is so -/
 | frz (o:Obj) (u:HO)
 /-- a code object's table -/
 | tbl (ps:Array Value)
 /-- any other thing,by what is true of its one object (a def of one's own: SetO a S n:=HO.ext fun h=>..) -/
 | ext (φ:Heap→Prop)
abbrev Hp:=Addr→Option HO
def upd (H:Hp) (a:Addr) (o:HO):Hp:=fun b=>if b=a then some o else H b
theorem gX {H:Hp} {a:Addr} {o:HO}:upd H a o a=some o:=by unfold upd; rw [if_pos rfl]
theorem cK {H:Hp} {a b:Addr} {o:HO} (h:b≠a):upd H a o b=H b:=by unfold upd; rw [if_neg h]
theorem fP {H:Hp} {a b:Addr} {o:HO} (h:H a=some o) (h':H b=none):a≠b:=by
 intro e; subst e; rw [h] at h'; cases h'
section
variable (P:Program) (w:World)
def eU (H:Hp) (h:Heap) (a:Addr):HO→Prop
 | .lst xs=>xs.length≤sizeLine∧∃ (its:List Value) (n:Nat),bG xs its∧h.get? a=some { cls:=.type "list",data:=.seq its.toArray n }
 | .tup xs=>xs.length≤sizeLine∧∃ its:List Value,bG xs its∧IsTup h a its.toArray
 | .dK kvs=>kvs.length≤sizeLine∧(a == sysModules)=false∧∃ vs,KV kvs vs∧h.DictOf (acI P w) a vs
 | .dT kvs=>kvs.length≤sizeLine∧(a == sysModules)=false∧∃ xs:List (List Key × Addr × Value),
   Paired (fun (p:List Key × V) (q:List Key × Addr × Value)=>p.1=q.1∧H q.2.1=some (.tup (p.1.map kV))∧bK p.2 q.2.2) kvs xs ∧
   ∃ o es ep,h.get? a=some o∧o.ExactDict∧o.data=.dict es ep∧es.toList=xs.map (entryOfKey (tupleKind (acI P w)))∧(xs.map (·.1)).Nodup
 | .set S n=>h.SetOf (intKind P w) a S n
 | .ins C dx fs=>H dx=some (.own a)∧fs.length≤1000∧dx≠a∧h.get? a=some (PySem.W.instObj C dx) ∧
   ∃ mA,h.Ns1 dx mA∧(∀ f,ak8 (fs.lookup f) (mA f))∧PySem.Within mA (fs.map (·.1))
 | .own _=>∃ o,h.get? a=some o
 | .xd fs=>∃ mA,h.Ns1 a mA∧∀ f,ak8 (fs.lookup f) (mA f)
 | .rng lo hi=>∃ t u v,h.get? a=some { cls:=.type "range",data:=.fields #[.int lo t,.int hi u,.int 1 v] }
 | .frz o u=>h.get? a=some o∧eU H h a u
 | .tbl ps=>h.get? a=some { cls:=.none,data:=.fields ps }
 | .met f x=>h.get? a=some (PySem.W.methodObj (.ref f) (.ref x))
 | .ext φ=>φ h∧(∃ o,h.get? a=some o)∧∀ h1 h2:Heap,φ h1→(∀ o,h1.get? a=some o→h2.get? a=some o)→φ h2
def HOk (H:Hp) (h:Heap):Prop:=∀ a o,H a=some o→eU P w H h a o
end
section
variable {P:Program} {w:World} {H H':Hp} {h h':Heap} {a:Addr} {o:HO}
theorem eU.lt (x:eU P w H h a o):a < h.objs.size:=by
 cases o with
 | lst xs=>obtain ⟨_,_,_,_,e⟩:=x; exact Heap.lt_size e
 | tup xs=>obtain ⟨_,_,_,p⟩:=x; exact p.lt
 | dK kvs=>obtain ⟨_,_,_,_,o,_,_,e,_⟩:=x; exact Heap.lt_size e
 | dT kvs=>obtain ⟨_,_,_,_,o,_,_,e,_⟩:=x; exact Heap.lt_size e
 | set S n=>obtain ⟨o,_,_,_,e,_⟩:=x; exact Heap.lt_size e
 | ins C dx fs=>obtain ⟨_,_,_,e,_⟩:=x; exact Heap.lt_size e
 | own y=>obtain ⟨_,e⟩:=x; exact Heap.lt_size e
 | xd fs=>obtain ⟨_,⟨_,_,_,e,_⟩,_⟩:=x; exact Heap.lt_size e
 | rng lo hi=>obtain ⟨_,_,_,e⟩:=x; exact Heap.lt_size e
 | frz ob u=>obtain ⟨e,_⟩:=x; exact Heap.lt_size e
 | tbl ps=>exact Heap.lt_size (show h.get? a=some _ from x)
 | met f y=>exact Heap.lt_size (show h.get? a=some _ from x)
 | ext φ=>obtain ⟨_,⟨_,e⟩,_⟩:=x; exact Heap.lt_size e
theorem Paired.mapP {α β:Type} {F G:α→β→Prop}:∀ {l₁:List α} {l₂:List β},Paired F l₁ l₂→(∀ a b,F a b→G a b)→Paired G l₁ l₂
 | _,_,.nil,_=>.nil
 | _,_,.cons r t,f=>.cons (f _ _ r) (Paired.mapP t f)
theorem eU.stay (x:eU P w H h a o) (k:∀ b u,(b=a∨H b=some (.own a))→h.get? b=some u→h'.get? b=some u)
  (ho:∀ b,H b=some (.own a)→H' b=some (.own a)) (ht:∀ b xs,H b=some (.tup xs)→H' b=some (.tup xs)):eU P w H' h' a o:=by
 induction o with
 | lst xs=>obtain ⟨z,its,n,r,e⟩:=x; exact ⟨z,its,n,r,k _ _ (.inl rfl) e⟩
 | tup xs=>obtain ⟨z,its,r,ob,e,c⟩:=x; exact ⟨z,its,r,ob,k _ _ (.inl rfl) e,c⟩
 | dK kvs=>obtain ⟨z,y,vs,r,ob,es,ep,e,c⟩:=x; exact ⟨z,y,vs,r,ob,es,ep,k _ _ (.inl rfl) e,c⟩
 | dT kvs =>
  obtain ⟨z,y,xs,r,ob,es,ep,e,c⟩:=x
  exact ⟨z,y,xs,Paired.mapP r fun p q z=>⟨z.1,ht _ _ z.2.1,z.2.2⟩,ob,es,ep,k _ _ (.inl rfl) e,c⟩
 | set S n=>obtain ⟨ob,es,ep,t,e,c⟩:=x; exact ⟨ob,es,ep,t,k _ _ (.inl rfl) e,c⟩
 | ins C dx fs =>
  obtain ⟨d,z,ne,e,mA,⟨od,es,ep,e2,c⟩,r⟩:=x
  exact ⟨ho _ d,z,ne,k _ _ (.inl rfl) e,mA,⟨od,es,ep,k _ _ (.inr d) e2,c⟩,r⟩
 | own y=>obtain ⟨ob,e⟩:=x; exact ⟨ob,k _ _ (.inl rfl) e⟩
 | xd fs=>obtain ⟨mA,⟨od,es,ep,e,c⟩,r⟩:=x; exact ⟨mA,⟨od,es,ep,k _ _ (.inl rfl) e,c⟩,r⟩
 | rng lo hi=>obtain ⟨t,u,v,e⟩:=x; exact ⟨t,u,v,k _ _ (.inl rfl) e⟩
 | frz ob u ih=>obtain ⟨e,q⟩:=x; exact ⟨k _ _ (.inl rfl) e,ih q⟩
 | tbl ps =>
  have e:h.get? a=some { cls:=.none,data:=.fields ps }:=x
  show h'.get? a=some { cls:=.none,data:=.fields ps }
  exact k a _ (.inl rfl) e
 | met f y =>
  have e:h.get? a=some (PySem.W.methodObj (.ref f) (.ref y)):=x
  show h'.get? a=some (PySem.W.methodObj (.ref f) (.ref y))
  exact k a _ (.inl rfl) e
 | ext φ=>obtain ⟨p,⟨o,e⟩,st⟩:=x; exact ⟨st _ _ p fun o q=>k _ _ (.inl rfl) q,⟨o,k _ _ (.inl rfl) e⟩,st⟩
theorem HOk.lt (x:HOk P w H h) (e:H a=some o):a < h.objs.size:=(x a o e).lt
theorem HOk.fresh (x:HOk P w H h) (e:h.objs.size≤a):H a=none:=by
 cases q:H a with
 | none=>rfl
 | some u=>exact absurd (Nat.lt_of_lt_of_le (x.lt q) e) (Nat.lt_irrefl _)
theorem HOk.kept (x:HOk P w H h) (k:∀ b u,h.get? b=some u→h'.get? b=some u):HOk P w H h':=fun a o e =>
 (x a o e).stay (fun b u _ q=>k b u q) (fun _ q=>q) fun _ _ q=>q
theorem HOk.laid (x:HOk P w H h) (k:∀ b u,h.get? b=some u→h'.get? b=some u) (hp:h.objs.size≤a) (new:eU P w (upd H a o) h' a o):HOk P w (upd H a o) h':=fun b u e=>by
 have hn:=x.fresh hp
 by_cases hb:b=a
 ·subst hb; rw [gX] at e; cases e; exact new
 ·rw [cK hb] at e
  exact (x b u e).stay (fun c v _ q=>k c v q) (fun c q=>by rw [cK (fP q hn)]; exact q) fun c xs q=>by rw [cK (fP q hn)]; exact q
end
def Rd (H:Hp) (a:Addr) (u:HO):Prop:=H a=some u∨∃ o,H a=some (.frz o u)
theorem Rd.ok {P:Program} {w:World} {H:Hp} {h:Heap} {a:Addr} {u:HO} (r:Rd H a u) (x:HOk P w H h):eU P w H h a u:=by
 rcases r with r | ⟨o,r⟩
 ·exact x a u r
 ·obtain ⟨_,q⟩:=x a _ r
  exact q
def Mut:Option HO→Prop
 | some (.lst _)=>True
 | some (.dK _)=>True
 | some (.dT _)=>True
 | some (.set _ _)=>True
 | some (.ins _ _ _)=>True
 | some (.ext _)=>True
 | _=>False
section
variable {P:Program} {w:World} {H:Hp} {h h':Heap} {x e:Addr} {o':HO}
theorem HOk.write (ok:HOk P w H h) (mu:Mut (H x)) (he:e=x∨H e=some (.own x)) (k:∀ b u,b≠e→h.get? b=some u→h'.get? b=some u) (heo:∃ u,h'.get? e=some u)
  (new:eU P w (upd H x o') h' x o'):HOk P w (upd H x o') h':=fun b u q=>by
 have nown:∀ c y,H c=some (.own y)→c≠x:=fun c y r z=>by subst z; rw [r] at mu; exact mu
 have ntup:∀ c xs,H c=some (.tup xs)→c≠x:=fun c xs r z=>by subst z; rw [r] at mu; exact mu
 by_cases hb:b=x
 ·subst hb; rw [gX] at q; cases q; exact new
 ·rw [cK hb] at q
  by_cases hbe:b=e
  ·have q':H b=some (.own x):=by
    rcases he with z | z
    ·exact absurd (hbe.trans z) hb
    ·rw [hbe]; exact z
   rw [q] at q'; cases q'
   obtain ⟨v,hv⟩:=heo
   exact ⟨v,by rw [hbe]; exact hv⟩
  ·refine (ok b u q).stay (fun c v hc r=>k c v ?_ r) (fun c r=>by rw [cK (nown c b r)]; exact r) fun c xs r=>by rw [cK (ntup c xs r)]; exact r
   rcases hc with rfl | hc
   ·exact hbe
   ·rintro rfl
    rcases he with z | z
    ·exact nown c b hc z
    ·rw [hc] at z; cases z; exact hb rfl
end
structure Un (fs ex:List Addr) (H H':Hp) (h h':Heap):Prop where
 keep:∀ b o,h.get? b=some o→H b=none→b ∉ fs→b ∉ ex→h'.get? b=some o
 slot:∀ b o,h.get? b=some o→H b=none→b∈fs→b ∉ ex→∃ sl,h'.get? b=some { o with slots:=sl }
 free:∀ b o,h.get? b=some o→H b=none→b ∉ ex→H' b=none
 there:∀ b o,h.get? b=some o→b ∉ ex→∃ o',h'.get? b=some o'
 tups:∀ b xs,H b=some (.tup xs)→H' b=some (.tup xs)
 frzs:∀ b o u,H b=some (.frz o u)→H' b=some (.frz o u)
 tbls:∀ b ps,H b=some (.tbl ps)→∃ more,H' b=some (.tbl (ps++more))
section
variable {fs fs' ex ex':List Addr} {H H1 H2:Hp} {h h1 h2 h':Heap} {a x e:Addr} {o:HO}
theorem Un.any (u:Un fs ex H H1 h h1) {b:Addr} {ob:Obj} (q:h.get? b=some ob) (n:H b=none) (hx:b ∉ ex):∃ sl,h1.get? b=some { ob with slots:=sl }:=by
 by_cases hb:b∈fs
 ·exact u.slot b ob q n hb hx
 ·exact ⟨ob.slots,u.keep b ob q n hb hx⟩
theorem Un.trans (a:Un fs ex H H1 h h1) (b:Un fs ex H1 H2 h1 h2):Un fs ex H H2 h h2 where
 keep:=fun c ob q n hc hx=>b.keep c ob (a.keep c ob q n hc hx) (a.free c ob q n hx) hc hx
 slot:=fun c ob q n hc hx=>by
  obtain ⟨sl,e1⟩:=a.slot c ob q n hc hx
  obtain ⟨sl',e2⟩:=b.slot c _ e1 (a.free c ob q n hx) hc hx
  exact ⟨sl',e2⟩
 free:=fun c ob q n hx=>by
  obtain ⟨o',e1⟩:=a.there c ob q hx
  exact b.free c o' e1 (a.free c ob q n hx) hx
 there:=fun c ob q hx=>by
  obtain ⟨o',e1⟩:=a.there c ob q hx
  exact b.there c o' e1 hx
 tups:=fun c xs q=>b.tups c xs (a.tups c xs q)
 frzs:=fun c ob xs q=>b.frzs c ob xs (a.frzs c ob xs q)
 tbls:=fun c ps q=>by
  obtain ⟨m1,e1⟩:=a.tbls c ps q
  obtain ⟨m2,e2⟩:=b.tbls c _ e1
  exact ⟨m1++m2,by rw [e2,Array.append_assoc]⟩
theorem Un.kept (k:∀ b u,h.get? b=some u→h'.get? b=some u):Un fs ex H H h h' :=
 ⟨fun b ob q _ _ _=>k b ob q,fun b ob q _ _ _=>⟨ob.slots,k b ob q⟩,fun _ _ _ n _=>n,fun b ob q _=>⟨ob,k b ob q⟩,fun _ _ q=>q,fun _ _ _ q=>q,fun _ ps q=>⟨#[],by rw [q]; simp⟩⟩
theorem Un.refl:Un fs ex H H h h:=Un.kept fun _ _ q=>q
theorem Un.laid (k:∀ b u,h.get? b=some u→h'.get? b=some u) (hp:h.objs.size≤a) (hn:H a=none):Un fs ex H (upd H a o) h h' where
 keep:=fun b u q _ _ _=>k b u q
 slot:=fun b u q _ _ _=>⟨u.slots,k b u q⟩
 free:=fun b u q n _=>by rw [cK (Nat.ne_of_lt (Nat.lt_of_lt_of_le (Heap.lt_size q) hp))]; exact n
 there:=fun b u q _=>⟨u,k b u q⟩
 tups:=fun b xs q=>by rw [cK (fP q hn)]; exact q
 frzs:=fun b u xs q=>by rw [cK (fP q hn)]; exact q
 tbls:=fun b ps q=>⟨#[],by rw [cK (fP q hn),q]; simp⟩
theorem Un.write (mu:Mut (H x)) (he:e=x∨H e=some (.own x)) (k:∀ b u,b≠e→h.get? b=some u→h'.get? b=some u) (heo:∃ u,h'.get? e=some u):Un fs ex H (upd H x o) h h':=by
 have hx:∀ b,H b=none→b≠x:=fun b n z=>by subst z; rw [n] at mu; exact mu
 have hb:∀ b,H b=none→b≠e:=fun b n z=>by
  subst z
  rcases he with r | r
  ·exact hx b n r
  ·rw [n] at r; cases r
 have hm:∀ b u,H b=some u→¬ Mut (some u)→b≠x:=fun b u q nm z=>by subst z; rw [q] at mu; exact nm mu
 refine ⟨fun b u q n _ _=>k b u (hb b n) q,fun b u q n _ _=>⟨u.slots,k b u (hb b n) q⟩,fun b u q n _=>by rw [cK (hx b n)]; exact n,fun b u q _=>?_,
  fun b xs q=>by rw [cK (hm b _ q fun z=>z)]; exact q,fun b u xs q=>by rw [cK (hm b _ q fun z=>z)]; exact q,fun b ps q=>⟨#[],by rw [cK (hm b _ q fun z=>z),q]; simp⟩⟩
 by_cases hbe:b=e
 ·subst hbe; exact heo
 ·exact ⟨u,k b u hbe q⟩
end
def trk (h:Heap) (H:Hp):List Addr:=(List.range h.objs.size).filter fun a=>(H a).isSome
def kY (h:Heap) (H:Hp):Heap:=PySem.W.hideAll h (trk h H)
theorem afu (h:Heap) (H:Hp):(kY h H).objs.size=h.objs.size:=PySem.W.hideAll_size _ _
theorem afZ {h:Heap} {H:Hp} {b:Addr} {o:Obj} (e:h.get? b=some o) (n:H b=none):(kY h H).get? b=some o :=
 PySem.W.hideAll_get _ e fun hm=>by
  have q:(H b).isSome=true:=(List.mem_filter.mp hm).2
  rw [n] at q; simp at q
theorem ahC {h:Heap} {H:Hp} {b:Addr} {o:Obj} (e:(kY h H).get? b=some o):h.get? b=some o∧H b=none:=by
 have e':h.get? b=some o:=PySem.W.of_hideAll (trk h H) e
 refine ⟨e',?_⟩
 cases q:H b with
 | none=>rfl
 | some x =>
  have hm:b∈trk h H:=List.mem_filter.mpr ⟨List.mem_range.mpr (Heap.lt_size e'),by simp [q]⟩
  have z:(kY h H).get? b=none:=PySem.W.hideAll_none (trk h H) hm
  rw [z] at e; cases e
def ahW (g h:Heap) (L:Addr):List (Addr × Obj):=(List.range h.objs.size).filterMap fun a=>if a=L∨(g.get? a).isSome=true then none else (h.get? a).map fun o=>(a,o)
def eJ (g h:Heap) (L d:Addr):List (Addr × Obj):=(ahW g h L).filter fun p=>decide (p.1≠d)
end L2
namespace L2
open PySem PySem.Spec PyProof.Rows
structure Mod (K:PySem.W.Frag) (mg:Str→Option Value) (base:Heap):Prop where
 kin:K.In base
 glob:base.Ns mainGlobals mg
 blt:∃ mb,base.Ns builtinsNs mb∧∀ x:Str,x≠"__name__"→mb x=bootBuiltins x
 nolimit:base.NoLimit
structure Cx where
 prog:Program
 w:World
 K:PySem.W.Frag
 mg:Str→Option Value
 base:Heap
 A:Around
 N:List Str
 s₀:Shared
 H₀:Hp
 env:Env
 outer:List Env
 stack:List Env
 ex:List Addr
 fn:Str→Bool
 calm:Bool
 pn:List (Addr × Obj)
 xe:Value→Shared→Prop
def frs (l:List Env):List Addr:=l.filterMap (·.frame)
abbrev Cx.fs (X:Cx):List Addr:=frs X.outer
def Vis (sc:Scope) (x:Str):Prop:=sc.names.lookup x=some .local∨sc.names.lookup x=some .cell∨sc.names.lookup x=some .free
def Loc (sc:Scope) (x:Str):Prop:=sc.names.lookup x=some .local∨sc.names.lookup x=some .cell
def amb (env:Env) (h:Heap) (m:Str→Option Value) (x:Str) (u:Value):Prop :=
 (env.kindOf x=some .local∧m x=some u)∨((env.kindOf x=some .cell∨env.kindOf x=some .free)∧∃ c,env.cells.lookup x=some c∧h.IsCell c (some u))
structure Cx.Ok (X:Cx):Prop where
 mod:Mod X.K X.mg X.base
 kind:X.env.scope.kind=.function
 glob:X.env.globals=mainGlobals
 blt:X.env.builtins=builtinsNs
 above:X.s₀.heap.objs.size≤X.env.locals
 inj:∀ x y c,X.env.cells.lookup x=some c→X.env.cells.lookup y=some c→x=y
 has:∀ x,(X.env.kindOf x=some .cell∨X.env.kindOf x=some .free)→∃ c,X.env.cells.lookup x=some c
 cab:∀ x c,X.fn x=true→X.env.cells.lookup x=some c→X.s₀.heap.objs.size≤c
 hd:X.calm=true→X.A.handled=none
 frames:X.A.frames=some X.stack
 stk:X.stack=X.outer∨(X.stack=X.env :: X.outer∧X.env.frame=some X.env.locals)
 exf:∀ b∈X.ex,b≠X.env.locals∧∀ x c,X.env.cells.lookup x=some c→c≠b
 bs:∀ b o,X.base.get? b=some o→X.s₀.heap.get? b=some o∧X.H₀ b=none
 bsz:X.base.objs.size≤X.s₀.heap.objs.size
 noex:∀ b o,X.base.get? b=some o→b ∉ X.ex
 exfs:∀ b∈X.ex,b ∉ X.fs
 funs:X.s₀.heap.FunFrames X.base X.outer
 frf:∀ b∈X.fs,X.H₀ b=none
structure Inv (X:Cx) (pins:List (Addr × Obj)) (σ:List (Option V)) (H:Hp) (s:Shared):Prop where
 ok:X.Ok
 os:s.os=X.s₀.os
 bare:AllBare s.gens
 base:Un X.fs X.ex X.H₀ H X.s₀.heap s.heap
 loc:∃ m,s.heap.Ns X.env.locals m∧∀ (i:Nat) (x:Str) (v:V),X.N[i]?=some x→σ[i]?=some (some v)→Vis X.env.scope x→∃ u,bK v u∧amb X.env s.heap m x u
 cell:∀ x c,X.env.cells.lookup x=some c→∃ v,s.heap.IsCell c v
 free:H X.env.locals=none
 freeC:∀ x c,X.env.cells.lookup x=some c→H c=none
 pin:∀ p∈X.pn++pins,s.heap.get? p.1=some p.2∧H p.1=none∧p.1≠X.env.locals∧p.1 ∉ X.fs∧∀ v,p.2.data≠.cell v
 hok:HOk X.prog X.w H s.heap
 len:σ.length=X.N.length
section
variable {X:Cx} {pins:List (Addr × Obj)} {σ:List (Option V)} {H H':Hp} {s:Shared} {h':Heap}
theorem Cx.Ok.nofr (ok:X.Ok) {b:Addr} {o:Obj} (e:X.base.get? b=some o):b ∉ X.fs:=fun hb=>by
 have:=(ok.funs.mem hb).1
 rw [e] at this; cases this
theorem Inv.bs (I:Inv X pins σ H s):∀ b o,X.base.get? b=some o→s.heap.get? b=some o∧H b=none:=fun b o e =>
 ⟨I.base.keep b o (I.ok.bs b o e).1 (I.ok.bs b o e).2 (I.ok.nofr e) (I.ok.noex b o e),I.base.free b o (I.ok.bs b o e).1 (I.ok.bs b o e).2 (I.ok.noex b o e)⟩
theorem Inv.bk (I:Inv X pins σ H s):∀ b o,X.base.get? b=some o→s.heap.get? b=some o:=fun b o e=>(I.bs b o e).1
theorem Inv.mod (I:Inv X pins σ H s):Mod X.K X.mg X.base:=I.ok.mod
theorem Inv.kIn (I:Inv X pins σ H s):X.K.In s.heap:=I.ok.mod.kin.keeps I.bk
theorem Inv.lt (I:Inv X pins σ H s):X.env.locals < s.heap.objs.size:=let ⟨_,hn,_⟩:=I.loc; hn.lt
theorem Inv.sz (I:Inv X pins σ H s):X.s₀.heap.objs.size≤s.heap.objs.size:=Nat.le_trans I.ok.above (Nat.le_of_lt I.lt)
theorem Inv.nofs (I:Inv X pins σ H s) {a:Addr} (h:s.heap.objs.size≤a):a ∉ X.fs:=fun hb=>by
 obtain ⟨_,o,ho,_⟩:=I.ok.funs.mem hb
 exact absurd (Nat.lt_of_lt_of_le (Heap.lt_size ho) (Nat.le_trans I.sz h)) (Nat.lt_irrefl _)
theorem Inv.cne (I:Inv X pins σ H s):∀ x c,X.env.cells.lookup x=some c→c≠X.env.locals:=fun x c e z=>by
 obtain ⟨v,o,ho,hd⟩:=I.cell x c e
 obtain ⟨m,⟨o',es,ep,ho',hd',_⟩,_⟩:=I.loc
 rw [z,ho'] at ho; cases ho; rw [hd'] at hd; cases hd
theorem Inv.funs (I:Inv X pins σ H s):s.heap.FunFrames X.base X.outer:=by
 have all:∀ (l:List Env),(∀ b∈frs l,b∈X.fs)→X.s₀.heap.FunFrames X.base l→s.heap.FunFrames X.base l:=by
  intro l
  induction l with
  | nil=>intro _ _; trivial
  | cons env r ih =>
   intro hs hl
   obtain ⟨hk,⟨L,o,hf,hn,ho,hd⟩,hr⟩:=hl
   have hL:L∈X.fs:=hs L (by unfold frs; rw [List.filterMap_cons,hf]; exact List.mem_cons_self)
   obtain ⟨sl,e⟩:=I.base.slot L o ho (I.ok.frf L hL) hL fun z=>I.ok.exfs L z hL
   exact ⟨hk,⟨L,_,hf,hn,e,hd⟩,ih (fun b hb=>hs b (by unfold frs; rw [List.filterMap_cons,hf]; exact List.mem_cons_of_mem _ hb)) hr⟩
 exact all X.outer (fun _ hb=>hb) I.ok.funs
theorem Inv.stack (I:Inv X pins σ H s):s.heap.FunFrames X.base X.stack:=by
 rcases I.ok.stk with e | ⟨e,hf⟩
 ·rw [e]; exact I.funs
 ·rw [e]
  obtain ⟨m,hn,_⟩:=I.loc
  refine .cons (by rw [I.ok.kind]; decide) hf hn ?_ I.funs
  exact Heap.get?_none_of_le (Nat.le_trans I.ok.bsz I.ok.above)
theorem Inv.stkSub (I:Inv X pins σ H s):∀ b∈frs X.stack,b∈X.env.locals :: X.fs:=fun b hb=>by
 rcases I.ok.stk with e | ⟨e,hf⟩
 ·rw [e] at hb; exact List.mem_cons_of_mem _ hb
 ·rw [e] at hb
  unfold frs at hb
  rw [List.filterMap_cons,hf] at hb
  exact hb
theorem Inv.stkFree (I:Inv X pins σ H s):∀ b∈frs X.stack,H b=none:=fun b hb=>by
 rcases List.mem_cons.mp (I.stkSub b hb) with e | hb
 ·rw [e]; exact I.free
 ·obtain ⟨_,o,ho,_⟩:=I.ok.funs.mem hb
  exact I.base.free b o ho (I.ok.frf b hb) fun z=>I.ok.exfs b z hb
theorem Inv.step {g':Array GenState} {t':Nat} {d':Drawn} {ch:List Addr} (I:Inv X pins σ H s)
  (hch:∀ b∈ch,(b∈X.ex∨X.s₀.heap.objs.size≤b)∧b≠X.env.locals∧(∀ x c,X.env.cells.lookup x=some c→c≠b)∧∀ p∈X.pn++pins,p.1≠b)
  (keep:∀ b o,b≠X.env.locals→b ∉ X.fs→b ∉ ch→s.heap.get? b=some o→H b=none→h'.get? b=some o)
  (slot:∀ b o,b≠X.env.locals→b∈X.fs→b ∉ ch→s.heap.get? b=some o→H b=none→∃ sl,h'.get? b=some { o with slots:=sl }) (free:∀ b o,b ∉ ch→s.heap.get? b=some o→H b=none→H' b=none)
  (there:∀ b o,b ∉ ch→s.heap.get? b=some o→∃ o',h'.get? b=some o')
  (tups:∀ b xs,H b=some (.tup xs)→H' b=some (.tup xs)) (frzs:∀ b o u,H b=some (.frz o u)→H' b=some (.frz o u)) (tbls:∀ b ps,H b=some (.tbl ps)→∃ more,H' b=some (.tbl (ps++more)))
  (ns:∀ m,s.heap.Ns X.env.locals m→h'.Ns X.env.locals m) (hok:HOk X.prog X.w H' h') (hg:AllBare g') :
  Inv X pins σ H' { s with heap:=h',gens:=g',drawn:=d',toks:=t' }:=by
 have neL:∀ b o,X.s₀.heap.get? b=some o→b≠X.env.locals:=fun b o e=>Nat.ne_of_lt (Nat.lt_of_lt_of_le (Heap.lt_size e) I.ok.above)
 have neC:∀ b o,X.s₀.heap.get? b=some o→b ∉ X.ex→b ∉ ch:=fun b o e hx hb=>by
  rcases (hch b hb).1 with z | z
  ·exact hx z
  ·exact absurd (Nat.lt_of_lt_of_le (Heap.lt_size e) z) (Nat.lt_irrefl _)
 have cellK:∀ x c,X.env.cells.lookup x=some c→∀ v,s.heap.IsCell c v→h'.IsCell c v:=fun x c e v ⟨o,ho,hd⟩=>by
  have nch:c ∉ ch:=fun z=>(hch c z).2.2.1 x c e rfl
  by_cases hc:c∈X.fs
  ·obtain ⟨sl,q⟩:=slot c o (I.cne x c e) hc nch ho (I.freeC x c e)
   exact ⟨_,q,hd⟩
  ·exact ⟨o,keep c o (I.cne x c e) hc nch ho (I.freeC x c e),hd⟩
 refine ⟨I.ok,I.os,hg,⟨fun b o e n hb hx=>?_,fun b o e n hb hx=>?_,fun b o e n hx=>?_,fun b o e hx=>?_,fun b xs e=>tups b xs (I.base.tups b xs e),fun b o xs e=>frzs b o xs (I.base.frzs b o xs e),fun b ps e=>?_⟩,?_,fun x c e=>?_,?_,fun x c e=>?_,fun p hp=>?_,hok,I.len⟩
 ·exact keep b o (neL b o e) hb (neC b o e hx) (I.base.keep b o e n hb hx) (I.base.free b o e n hx)
 ·obtain ⟨sl,e1⟩:=I.base.slot b o e n hb hx
  obtain ⟨sl',e2⟩:=slot b _ (neL b o e) hb (neC b o e hx) e1 (I.base.free b o e n hx)
  exact ⟨sl',e2⟩
 ·obtain ⟨o',e1⟩:=I.base.there b o e hx
  exact free b o' (neC b o e hx) e1 (I.base.free b o e n hx)
 ·obtain ⟨o',e1⟩:=I.base.there b o e hx
  exact there b o' (neC b o e hx) e1
 ·obtain ⟨m1,e1⟩:=I.base.tbls b ps e
  obtain ⟨m2,e2⟩:=tbls b _ e1
  exact ⟨m1++m2,by rw [e2,Array.append_assoc]⟩
 ·obtain ⟨m,hn,hl⟩:=I.loc
  refine ⟨m,ns m hn,fun i x v e1 e2 e3=>?_⟩
  obtain ⟨u,r,l⟩:=hl i x v e1 e2 e3
  refine ⟨u,r,?_⟩
  rcases l with l | ⟨k,c,e,z⟩
  ·exact .inl l
  ·exact .inr ⟨k,c,e,cellK x c e _ z⟩
 ·obtain ⟨v,z⟩:=I.cell x c e
  exact ⟨v,cellK x c e v z⟩
 ·obtain ⟨m,⟨o,_,_,ho,_⟩,_⟩:=I.loc
  exact free _ o (fun z=>(hch _ z).2.1 rfl) ho I.free
 ·obtain ⟨v,o,ho,hd⟩:=I.cell x c e
  exact free c o (fun z=>(hch c z).2.2.1 x c e rfl) ho (I.freeC x c e)
 ·obtain ⟨e,n,ne,nf,d⟩:=I.pin p hp
  have nch:p.1 ∉ ch:=fun z=>(hch p.1 z).2.2.2 p hp rfl
  exact ⟨keep p.1 p.2 ne nf nch e n,free p.1 p.2 nch e n,ne,nf,d⟩
theorem Inv.un {t':Nat} (I:Inv X pins σ H s) (u:Un X.fs [] H H' s.heap h') (hok:HOk X.prog X.w H' h'):Inv X pins σ H' { s with heap:=h',toks:=t' }:=by
 obtain ⟨m,⟨o,es,ep,ho,r⟩,_⟩:=id I.loc
 obtain ⟨sl,hL⟩:=u.any ho I.free (by simp)
 exact I.step (g':=s.gens) (d':=s.drawn) (ch:=[]) (fun _ z=>nomatch z) (fun b o _ hb _ e n=>u.keep b o e n hb (by simp)) (fun b o _ hb _ e n=>u.slot b o e n hb (by simp)) (fun b o _ e n=>u.free b o e n (by simp)) (fun b o _ e=>u.there b o e (by simp)) u.tups u.frzs u.tbls (fun m' hm=>by
  obtain ⟨o',es',ep',ho',r'⟩:=hm
  rw [ho] at ho'; cases ho'
  exact ⟨_,es',ep',hL,r'⟩) hok I.bare
theorem Inv.call {g':Array GenState} {t':Nat} {d':Drawn} {ch:List Addr} (I:Inv X pins σ H s) (u:Un (frs X.stack) ch H H' s.heap h') (hok:HOk X.prog X.w H' h') (hg:AllBare g')
  (hch:∀ b∈ch,(b∈X.ex∨X.s₀.heap.objs.size≤b)∧b≠X.env.locals∧(∀ x c,X.env.cells.lookup x=some c→c≠b)∧∀ p∈X.pn++pins,p.1≠b) :
  Inv X pins σ H' { s with heap:=h',gens:=g',drawn:=d',toks:=t' }:=by
 obtain ⟨m,⟨o,es,ep,ho,r⟩,_⟩:=id I.loc
 obtain ⟨sl,hL⟩:=u.any ho I.free fun z=>(hch _ z).2.1 rfl
 exact I.step (ch:=ch) hch (fun b o hL hb hc e n=>u.keep b o e n (fun z=>(List.mem_cons.mp (I.stkSub b z)).elim hL hb) hc) (fun b o _ _ hc e n=>u.any e n hc) (fun b o hc e n=>u.free b o e n hc) (fun b o hc e=>u.there b o e hc) u.tups u.frzs u.tbls (fun m' hm=>by
  obtain ⟨o',es',ep',ho',r'⟩:=hm
  rw [ho] at ho'; cases ho'
  exact ⟨_,es',ep',hL,r'⟩) hok hg
theorem Inv.turned {t':Nat} {it:Addr} (I:Inv X pins σ H s) (k:∀ b o,b≠it→s.heap.get? b=some o→h'.get? b=some o) (hn:H it=none) (hL:it≠X.env.locals)
  (h1:it∈X.ex∨X.s₀.heap.objs.size≤it) (h2:∀ x c,X.env.cells.lookup x=some c→c≠it) (h3:∀ p∈X.pn++pins,p.1≠it):Inv X pins σ H { s with heap:=h',toks:=t' }:=by
 have nit:∀ b u,H b=some u→b≠it:=fun b u e z=>by rw [z,hn] at e; cases e
 refine I.step (g':=s.gens) (d':=s.drawn) (ch:=[it]) (fun b hb=>?_) (fun b o _ _ hc e _=>k b o (fun z=>hc (by simp [z])) e) (fun b o _ _ hc e _=>⟨o.slots,k b o (fun z=>hc (by simp [z])) e⟩) (fun _ _ _ _ n=>n)
  (fun b o hc e=>⟨o,k b o (fun z=>hc (by simp [z])) e⟩) (fun _ _ e=>e) (fun _ _ _ e=>e) (fun b ps e=>⟨#[],by rw [e]; simp⟩) (fun m hm=>?_) (fun b u e=>?_) I.bare
 ·have e:b=it:=by simpa using hb
  subst e
  exact ⟨h1,hL,h2,h3⟩
 ·obtain ⟨o,es,ep,ho,r⟩:=hm
  exact ⟨o,es,ep,k _ o (Ne.symm hL) ho,r⟩
 ·refine (I.hok b u e).stay (fun c v hc q=>k c v ?_ q) (fun _ q=>q) fun _ _ q=>q
  rcases hc with z | z
  ·rw [z]; exact nit b u e
  ·exact nit c _ z
theorem Inv.tok (I:Inv X pins σ H s) (t:Nat):Inv X pins σ H { s with toks:=t }:=I.un (h':=s.heap) (t':=t) Un.refl I.hok
theorem Inv.kept {t':Nat} (I:Inv X pins σ H s) (k:∀ b u,s.heap.get? b=some u→h'.get? b=some u):Inv X pins σ H { s with heap:=h',toks:=t' }:=I.un (Un.kept k) (I.hok.kept k)
theorem Inv.laid {a:Addr} {o:HO} {t':Nat} (I:Inv X pins σ H s) (k:∀ b u,s.heap.get? b=some u→h'.get? b=some u) (hp:s.heap.objs.size≤a) (new:eU X.prog X.w (upd H a o) h' a o) :
  Inv X pins σ (upd H a o) { s with heap:=h',toks:=t' }:=I.un (Un.laid k hp (I.hok.fresh hp)) (I.hok.laid k hp new)
theorem Inv.write {x e:Addr} {o:HO} {t':Nat} (I:Inv X pins σ H s) (mu:Mut (H x)) (he:e=x∨H e=some (.own x)) (k:∀ b u,b≠e→s.heap.get? b=some u→h'.get? b=some u) (heo:∃ u,h'.get? e=some u)
  (new:eU X.prog X.w (upd H x o) h' x o):Inv X pins σ (upd H x o) { s with heap:=h',toks:=t' }:=I.un (Un.write mu he k heo) (I.hok.write mu he k heo new)
theorem Inv.pins_of {pins':List (Addr × Obj)} (I:Inv X pins σ H s) (h:∀ p∈pins',s.heap.get? p.1=some p.2∧H p.1=none∧p.1≠X.env.locals∧p.1 ∉ X.fs∧∀ v,p.2.data≠.cell v):Inv X pins' σ H s :=
 ⟨I.ok,I.os,I.bare,I.base,I.loc,I.cell,I.free,I.freeC,fun p hp=>(List.mem_append.mp hp).elim (fun z=>I.pin p (List.mem_append_left _ z)) (h p),I.hok,I.len⟩
theorem ac5 {N:List Str} (hN:N.Nodup) {i j:Nat} {x:Str} (a:N[i]?=some x) (b:N[j]?=some x):i=j:=by
 obtain ⟨h1,e1⟩:=List.getElem?_eq_some_iff.mp a
 obtain ⟨h2,e2⟩:=List.getElem?_eq_some_iff.mp b
 exact (List.getElem_inj hN).mp (e1.trans e2.symm)
theorem aeQ {M:Model} {A:Around} {E:Value→Shared→Prop} {i:Nat} {x:Str} {v:V} {u:Value} {Q:Unit→Shared→Prop} (I:Inv X pins σ H s) (hN:X.N.Nodup) (hi:X.N[i]?=some x) (hx:Loc X.env.scope x) (r:bK v u)
  (h:∀ s',Inv X pins (σ.set i (some v)) H s'→(∃ a,Heap.SameBut a s.heap s'.heap∧(a=X.env.locals∨X.env.cells.lookup x=some a))→Q () s') (hf:X.fn x=true∨X.env.scope.names.lookup x=some .local:=by first | exact .inl rfl | exact .inr rfl | assumption):wpAny M A (storeName X.env x u) Q E s:=by
 obtain ⟨m,hn,hl⟩:=id I.loc
 have hcls:(X.env.scope.kind == .class || (X.env.scope.kind == .module && X.env.locals != X.env.globals))=false:=by rw [I.ok.kind]; rfl
 have hiσ:i < σ.length:=by rw [I.len]; exact (List.getElem?_eq_some_iff.mp hi).1
 have cne:=I.cne
 have tracked:∀ {a:Addr} {h':Heap},(∃ o,s.heap.get? a=some o∧H a=none)→Heap.SameBut a s.heap h'→HOk X.prog X.w H h':=fun {a h'} ha hs b ob e=>by
  obtain ⟨_,_,hfree⟩:=ha
  refine (I.hok b ob e).stay (fun c w' hc q=>(hs.2 c ?_).trans q) (fun _ q=>q) fun _ _ q=>q
  rintro rfl
  rcases hc with rfl | hc
  ·rw [hfree] at e; cases e
  ·rw [hfree] at hc; cases hc
 rcases hx with hk | hk
 ·refine wpAny_storeName_local hk hn (fun h' hn' hs=>?_) hcls
  obtain ⟨oL,_,_,hoL,_⟩:=id hn
  refine h _ ⟨I.ok,I.os,I.bare,⟨fun b o e n hb hx=>?_,fun b o e n hb hx=>?_,I.base.free,fun b o e hx=>?_,I.base.tups,I.base.frzs,I.base.tbls⟩,⟨_,hn',fun j y v' e1 e2 e3=>?_⟩,fun y c e=>?_,I.free,I.freeC,fun p hp=>?_,tracked ⟨oL,hoL,I.free⟩ hs,by simpa using I.len⟩ ⟨_,hs,.inl rfl⟩
  ·exact (hs.2 b (Nat.ne_of_lt (Nat.lt_of_lt_of_le (Heap.lt_size e) I.ok.above))).trans (I.base.keep b o e n hb hx)
  ·obtain ⟨sl,e1⟩:=I.base.slot b o e n hb hx
   exact ⟨sl,(hs.2 b (Nat.ne_of_lt (Nat.lt_of_lt_of_le (Heap.lt_size e) I.ok.above))).trans e1⟩
  ·obtain ⟨o',e1⟩:=I.base.there b o e hx
   exact ⟨o',(hs.2 b (Nat.ne_of_lt (Nat.lt_of_lt_of_le (Heap.lt_size e) I.ok.above))).trans e1⟩
  ·by_cases hj:j=i
   ·subst hj
    rw [hi] at e1; cases e1
    rw [List.getElem?_set_self hiσ] at e2
    cases e2
    exact ⟨u,r,.inl ⟨hk,by simp⟩⟩
   ·rw [List.getElem?_set_ne (Ne.symm hj)] at e2
    obtain ⟨u',r',q⟩:=hl j y v' e1 e2 e3
    refine ⟨u',r',?_⟩
    rcases q with ⟨k,e⟩ | ⟨k,c,e,z⟩
    ·refine .inl ⟨k,?_⟩
     have:y≠x:=fun e=>hj (ac5 hN e1 (e ▸ hi))
     simp [this,e]
    ·exact .inr ⟨k,c,e,z.sameBut hs (cne y c e)⟩
  ·obtain ⟨w',z⟩:=I.cell y c e
   exact ⟨w',z.sameBut hs (cne y c e)⟩
  ·obtain ⟨e,n,ne,nf,d⟩:=I.pin p hp
   exact ⟨(hs.2 p.1 ne).trans e,n,ne,nf,d⟩
 ·have hfn:X.fn x=true:=by
   rcases hf with z | z
   ·exact z
   ·rw [z] at hk; cases hk
  obtain ⟨c,hc⟩:=I.ok.has x (.inl hk)
  obtain ⟨w',z⟩:=I.cell x c hc
  refine wpAny_storeName_cell I.ok.kind hk hc z (fun h' hc' hs=>?_)
  obtain ⟨oc,hoc,hocd⟩:=id z
  refine h { s with heap:=h' } ⟨I.ok,I.os,I.bare,⟨fun b o e n hb hx=>?_,fun b o e n hb hx=>?_,I.base.free,fun b o e hx=>?_,I.base.tups,I.base.frzs,I.base.tbls⟩,⟨m,hn.sameBut hs (Ne.symm (cne x c hc)),fun j y v' e1 e2 e3=>?_⟩,fun y c' e=>?_,I.free,I.freeC,fun p hp=>?_,tracked ⟨oc,hoc,I.freeC x c hc⟩ hs,by simpa using I.len⟩ ⟨c,hs,.inr hc⟩
  ·exact (hs.2 b (Nat.ne_of_lt (Nat.lt_of_lt_of_le (Heap.lt_size e) (I.ok.cab x c hfn hc)))).trans (I.base.keep b o e n hb hx)
  ·obtain ⟨sl,e1⟩:=I.base.slot b o e n hb hx
   exact ⟨sl,(hs.2 b (Nat.ne_of_lt (Nat.lt_of_lt_of_le (Heap.lt_size e) (I.ok.cab x c hfn hc)))).trans e1⟩
  ·obtain ⟨o',e1⟩:=I.base.there b o e hx
   exact ⟨o',(hs.2 b (Nat.ne_of_lt (Nat.lt_of_lt_of_le (Heap.lt_size e) (I.ok.cab x c hfn hc)))).trans e1⟩
  ·by_cases hj:j=i
   ·subst hj
    rw [hi] at e1; cases e1
    rw [List.getElem?_set_self hiσ] at e2
    cases e2
    exact ⟨u,r,.inr ⟨.inl hk,c,hc,hc'⟩⟩
   ·rw [List.getElem?_set_ne (Ne.symm hj)] at e2
    obtain ⟨u',r',q⟩:=hl j y v' e1 e2 e3
    refine ⟨u',r',?_⟩
    rcases q with q | ⟨k,c',e,z'⟩
    ·exact .inl q
    ·refine .inr ⟨k,c',e,z'.sameBut hs ?_⟩
     rintro rfl
     exact hj (ac5 hN e1 (I.ok.inj _ _ _ e hc ▸ hi))
  ·by_cases hcc:c'=c
   ·subst hcc; exact ⟨_,hc'⟩
   ·obtain ⟨w2,z2⟩:=I.cell y c' e
    exact ⟨w2,z2.sameBut hs hcc⟩
  ·obtain ⟨e,n,ne,nf,d⟩:=I.pin p hp
   refine ⟨(hs.2 p.1 ?_).trans e,n,ne,nf,d⟩
   intro q
   rw [q,hoc] at e
   have q':oc=p.2:=Option.some.inj e
   exact d w' (by rw [← q']; exact hocd)
theorem mX {M:Model} {A:Around} {E:Value→Shared→Prop} {i:Nat} {x:Str} {v:V} {u:Value} {Q:Unit→Shared→Prop} (I:Inv X pins σ H s) (hN:X.N.Nodup) (hi:X.N[i]?=some x) (hx:Loc X.env.scope x) (r:bK v u)
  (h:∀ s',Inv X pins (σ.set i (some v)) H s'→Q () s') (hf:X.fn x=true∨X.env.scope.names.lookup x=some .local:=by first | exact .inl rfl | exact .inr rfl | assumption):wpAny M A (storeName X.env x u) Q E s :=
 aeQ I hN hi hx r (fun s' I' _=>h s' I') hf
theorem Inv.call' {s':Shared} {ch:List Addr} (I:Inv X pins σ H s) (ho:s'.os=s.os) (u:Un (frs X.stack) ch H H' s.heap s'.heap) (hok:HOk X.prog X.w H' s'.heap) (hg:AllBare s'.gens)
  (hch:∀ b∈ch,(b∈X.ex∨X.s₀.heap.objs.size≤b)∧b≠X.env.locals∧(∀ x c,X.env.cells.lookup x=some c→c≠b)∧∀ p∈X.pn++pins,p.1≠b):Inv X pins σ H' s':=by
 obtain ⟨h',g',d',t',o'⟩:=s'
 have e:o'=s.os:=ho
 subst e
 exact I.call (g':=g') (t':=t') (d':=d') u hok hg hch
end
abbrev XK:=Value→Option Addr→Hp→Prop
abbrev St:=List (Option V)
abbrev VK:=V→Hp→Prop
abbrev TE:=St→Hp→VK→Prop
abbrev TT:=St→Hp→(Bool→Hp→Prop)→Prop
abbrev TA:=St→Hp→(List V→Hp→Prop)→Prop
structure kD where
 nx:St→Hp→Prop
 rt:VK
 bk:St→Hp→Prop:=fun _ _=>False
 ct:St→Hp→Prop:=fun _ _=>False
abbrev TS:=kD→St→Hp→Prop
def EP (X:Cx) (pins:List (Addr × Obj)) (σ:St) (Q:VK) (u:Value) (s':Shared):Prop:=∃ v H',Inv X pins σ H' s'∧bK v u∧Q v H'
def TP (X:Cx) (pins:List (Addr × Obj)) (σ:St) (Q:Bool→Hp→Prop) (b:Bool) (s':Shared):Prop:=∃ H',Inv X pins σ H' s'∧Q b H'
def AP (X:Cx) (pins:List (Addr × Obj)) (σ:St) (Q:List V→Hp→Prop) (us:List Value) (s':Shared):Prop:=∃ vs H',Inv X pins σ H' s'∧bG vs us∧Q vs H'
def SP (X:Cx) (pins:List (Addr × Obj)) (D:kD) (f:Flow) (s':Shared):Prop :=
 match f with
 | .next=>∃ σ' H',Inv X pins σ' H' s'∧D.nx σ' H'
 | .brk=>∃ σ' H',Inv X pins σ' H' s'∧D.bk σ' H'
 | .cont=>∃ σ' H',Inv X pins σ' H' s'∧D.ct σ' H'
 | .ret u=>∃ v σ' H',Inv X pins σ' H' s'∧bK v u∧D.rt v H'
def PE (X:Cx) (e:Expr) (t:TE):Prop :=
 ∀ (pins:List (Addr × Obj)) (s:Shared) (σ:St) (H:Hp) (Q:VK),Inv X pins σ H s→t σ H Q→wpAny (model X.prog X.w) X.A (eval e X.env) (EP X pins σ Q) X.xe s
def PT (X:Cx) (e:Expr) (t:TT):Prop :=
 ∀ (pins:List (Addr × Obj)) (s:Shared) (σ:St) (H:Hp) (Q:Bool→Hp→Prop),Inv X pins σ H s→t σ H Q→wpAny (model X.prog X.w) X.A (isTrue e X.env (eval e X.env)) (TP X pins σ Q) X.xe s
def PW (X:Cx) (e:Expr) (t:TT):Prop :=
 ∀ (whole:Sem Value) (pins:List (Addr × Obj)) (s:Shared) (σ:St) (H:Hp) (Q:Bool→Hp→Prop),Inv X pins σ H s→t σ H Q→wpAny (model X.prog X.w) X.A (isTrue e X.env whole) (TP X pins σ Q) X.xe s
theorem PW.pt {X:Cx} {e:Expr} {t:TT} (h:PW X e t):PT X e t:=h _
def PA (X:Cx) (es:List Expr) (t:TA):Prop :=
 ∀ (pos:Pos) (pins:List (Addr × Obj)) (s:Shared) (σ:St) (H:Hp) (Q:List V→Hp→Prop),Inv X pins σ H s→t σ H Q→wpAny (model X.prog X.w) X.A (spliced (backTo pos (starEach es X.env))) (AP X pins σ Q) X.xe s
def PS (X:Cx) (st:Stmt) (t:TS):Prop :=
 ∀ (pins:List (Addr × Obj)) (s:Shared) (σ:St) (H:Hp) (D:kD),Inv X pins σ H s→t D σ H→wpAny (model X.prog X.w) X.A (exec st X.env) (SP X pins D) X.xe s
def PSs (X:Cx) (st:List Stmt) (t:TS):Prop :=
 ∀ (pins:List (Addr × Obj)) (s:Shared) (σ:St) (H:Hp) (D:kD),Inv X pins σ H s→t D σ H→wpAny (model X.prog X.w) X.A (execs st X.env) (SP X pins D) X.xe s
theorem thn {α:Type} {t:Sem α} {Q Q':α→Shared→Prop} {M:Model} {A:Around} {E:Value→Shared→Prop} {s:Shared} (h:wpAny M A t Q E s) (hQ:∀ a s,Q a s→Q' a s):wpAny M A t Q' E s:=wpAny_mono h hQ fun _ _ x=>x
end L2
namespace L2
open PySem PySem.Spec PyProof.Rows
section
variable {X:Cx}
theorem bin {a b:Expr} {ta tb:TE} (ha:PE X a ta) (hb:PE X b tb) {pins:List (Addr × Obj)} {s:Shared} {σ:St} {H:Hp} {R:V→V→Hp→Prop} (I:Inv X pins σ H s) (h:ta σ H fun x H1=>tb σ H1 fun y H2=>R x y H2)
  {α:Type} {Q:α→Shared→Prop} {f:Value→Value→Sem α}
  (hf:∀ v u s2 x y H2,Inv X pins σ H2 s2→bK x v→bK y u→R x y H2→wpAny (model X.prog X.w) X.A (f v u) Q X.xe s2) :
  wpAny (model X.prog X.w) X.A (eval a X.env) (fun v s₁=>wpAny (model X.prog X.w) X.A (eval b X.env) (fun u s₂=>wpAny (model X.prog X.w) X.A (f v u) Q X.xe s₂) X.xe s₁) X.xe s:=by
 refine thn (ha pins s σ H _ I h) fun v s1 ⟨x,H1,I1,r1,q1⟩=>?_
 refine thn (hb pins s1 σ H1 _ I1 q1) fun u s2 ⟨y,H2,I2,r2,q2⟩=>?_
 exact hf v u s2 x y H2 I2 r1 r2 q2
def alN (i:Nat):TE:=fun σ H Q=>∃ v,σ[i]?=some (some v)∧Q v H
def tC (v:V):TE:=fun _ H Q=>Q v H
theorem agW {i:Nat} {x:Str} {pos:Pos} (hN:X.N[i]?=some x) (hv:Vis X.env.scope x) (hd:(x == ("__debug__":Str))=false:=by decide) (hcd:(x == ("__classdict__":Str))=false:=by decide):PE X (.Name x pos) (alN i):=by
 intro pins s σ H Q I h
 obtain ⟨v,e,h⟩:=h
 obtain ⟨m,hn,hl⟩:=I.loc
 obtain ⟨u,r,l⟩:=hl i x v hN e hv
 have fin:EP X pins σ Q u s:=⟨v,H,I,r,h⟩
 rcases l with ⟨hk,hm⟩ | ⟨hk,c,hc,hcell⟩
 ·exact wpAny_Name (wpAny_loadName_local I.ok.kind hk hn hm fin) hd
 ·rcases hk with hk | hk
  ·exact wpAny_Name (wpAny_loadName_cell I.ok.kind hk hc hcell fin) hd
  ·exact wpAny_Name (wpAny_loadName_free I.ok.kind hk hc hcell fin hcd) hd
theorem ajp {i j pos}:PE X (.Constant (.int i) j pos) (tC (.int i)):=fun _ _ _ H _ I h=>wpAny_Constant_int ⟨.int i,H,I.tok _,⟨_,rfl⟩,h⟩
theorem akQ {b j pos}:PE X (.Constant (.bool b) j pos) (tC (.bl b)):=fun _ _ _ H _ I h=>Constant_bool ⟨.bl b,H,I,rfl,h⟩
theorem ahh {j pos}:PE X (.Constant .none j pos) (tC .non):=fun _ _ _ H _ I h=>Constant_none ⟨.non,H,I,rfl,h⟩
theorem afw {x j pos}:PE X (.Constant (.str x) j pos) (tC (.str x)):=fun _ _ _ H _ I h=>Calls.Constant_str ⟨.str x,H,I.tok _,⟨_,rfl⟩,h⟩
def Gl (X:Cx) (x:Str):Prop:=X.env.kindOf x=some .globalImplicit
theorem rE {E:Value→Shared→Prop} {pins:List (Addr × Obj)} {s:Shared} {σ:St} {H:Hp} {x:Str} {u:Value} {pos:Pos} {Q:Value→Shared→Prop} (I:Inv X pins σ H s) (hg:Gl X x) (hm:X.mg x=some u) (h:Q u s)
  (hd:(x == ("__debug__":Str))=false:=by decide):wpAny (model X.prog X.w) X.A (eval (.Name x pos) X.env) Q E s :=
 Calls.Name_function_global I.ok.kind hg (Calls.loadGlobal_global (by rw [I.ok.glob]; exact I.mod.glob.keeps I.bk) hm h) hd
theorem pA {E:Value→Shared→Prop} {pins:List (Addr × Obj)} {s:Shared} {σ:St} {H:Hp} {x:Str} {u:Value} {pos:Pos} {Q:Value→Shared→Prop} (I:Inv X pins σ H s) (hg:Gl X x) (hm:X.mg x=none) (hv:bootBuiltins x=some u) (h:Q u s)
  (hn:x≠"__name__":=by decide) (hd:(x == ("__debug__":Str))=false:=by decide):wpAny (model X.prog X.w) X.A (eval (.Name x pos) X.env) Q E s:=by
 obtain ⟨mb,h1,h2⟩:=I.mod.blt
 exact Calls.Name_function_global I.ok.kind hg (Calls.loadGlobal_builtin (by rw [I.ok.glob]; exact I.mod.glob.keeps I.bk) hm (by rw [I.ok.blt]; exact h1.keeps I.bk) ((h2 x hn).trans hv) h) hd
theorem aiP {x:Str} {v:V} {u:Value} {pos:Pos} (hg:Gl X x) (hm:X.mg x=some u) (r:bK v u) (hd:(x == ("__debug__":Str))=false:=by decide):PE X (.Name x pos) (tC v) :=
 fun _ _ _ H _ I h=>rE I hg hm ⟨v,H,I,r,h⟩ hd
theorem ait {x:Str} {v:V} {u:Value} {pos:Pos} (hg:Gl X x) (hm:X.mg x=none) (hv:bootBuiltins x=some u) (r:bK v u) (hn:x≠"__name__":=by decide) (hd:(x == ("__debug__":Str))=false:=by decide):PE X (.Name x pos) (tC v) :=
 fun _ _ _ H _ I h=>pA I hg hm hv ⟨v,H,I,r,h⟩ hn hd
variable {a b:Expr} {ta tb:TE} {pos:Pos}
def PC (X:Cx) (op:CmpOp) (a b:Expr) (t:TE):Prop :=
 ∀ (pins:List (Addr × Obj)) (s:Shared) (σ:St) (H:Hp) (Q:VK),Inv X pins σ H s→t σ H Q →
  wpAny (model X.prog X.w) X.A (eval a X.env) (fun v s₁=>wpAny (model X.prog X.w) X.A (eval b X.env) (fun u s₂=>wpAny (model X.prog X.w) X.A (compareOp op v u) (EP X pins σ Q) X.xe s₂) X.xe s₁) X.xe s
theorem afV (b:Expr) {op:CmpOp} (h:op≠.In) (h2:op≠.NotIn):behindInMarks op b=false:=by
 have e1:(op == CmpOp.In)=false:=by cases op <;> first | rfl | exact absurd rfl h
 have e2:(op == CmpOp.NotIn)=false:=by cases op <;> first | rfl | exact absurd rfl h2
 cases b <;> simp [behindInMarks,e1,e2]
def alP (ta:TE):TE:=fun σ H Q=>ta σ H fun x H1=>Q (.bl (decide (x=.non))) H1
theorem bK.none_iff {x:V} {v:Value} (r:bK x v):(v == Value.none)=decide (x=.non):=by
 cases x with
 | non=>cases r; rfl
 | bl _=>cases r; rfl
 | int _=>obtain ⟨t,rfl⟩:=r; rfl
 | str _=>obtain ⟨t,rfl⟩:=r; rfl
 | byt _=>obtain ⟨t,rfl⟩:=r; rfl
 | flt _=>obtain ⟨t,rfl⟩:=r; rfl
 | ref _=>cases r; rfl
 | ty _=>cases r; rfl
theorem aju {j pos'} (ha:PE X a ta):PC X .Is a (.Constant .none j pos') (alP ta):=by
 intro pins s σ H Q I h
 refine thn (ha pins s σ H _ I h) fun v s1 ⟨x,H1,I1,r1,q1⟩=>?_
 exact Constant_none (is_none_gen ⟨.bl _,H1,I1,by rw [r1.none_iff]; rfl,q1⟩)
def tB (t:TE):TT:=fun σ H Q=>t σ H fun x H1=>∃ c,x=.bl c∧Q c H1
theorem ajN {op:CmpOp} {t:TE} (h:PC X op a b t) (h1:behindInMarks op b=false:=by first | exact afV _ (by decide) (by decide) | rfl):PT X (.Compare a [op] [b] pos) (tB t):=by
 intro pins s σ H Q I hw
 refine wpAny_isTrue_Compare1 (thn (h pins s σ H _ I hw) fun v s1 h1=>thn h1 fun u s2 h2=>thn h2 fun c s3 ⟨x,H1,I1,r1,q1⟩=>?_) h1
 obtain ⟨d,rfl,q⟩:=q1
 cases r1
 exact wpAny_truthy_bool ⟨H1,I1,q⟩
theorem ajg {e:Expr} {t:TE} (h:PE X e t) (he:∀ whole,isTrue e X.env whole=(do let v ← whole; standAt e.pos; holding [v] (truthy v)):=by intro _; rfl):PT X e (tB t):=by
 intro pins s σ H Q I hw
 refine isTrue_plain (thn (h pins s σ H _ I hw) fun v s1 ⟨x,H1,I1,r1,q1⟩=>?_) (he _)
 obtain ⟨d,rfl,q⟩:=q1
 cases r1
 exact wpAny_truthy_bool ⟨H1,I1,q⟩
variable {tA tB':TT} {eJ:List Expr}
def amq (t u:TT):TT:=fun σ H Q=>t σ H fun c H1=>if c=true then u σ H1 Q else Q false H1
def tOr (t u:TT):TT:=fun σ H Q=>t σ H fun c H1=>if c=true then Q true H1 else u σ H1 Q
def amt (t:TT):TT:=fun σ H Q=>t σ H fun c H1=>Q (!c) H1
theorem aiq (ha:PT X a tA):PW X (.BoolOp .And [a] pos) tA:=by
 intro wh pins s σ H Q I h
 refine isTrue_and (thn (ha pins s σ H Q I h) fun c s1 e=>?_)
 cases c with
 | true=>exact isTrue_and_nil e
 | false=>exact e
theorem akv (ha:PT X a tA):PW X (.BoolOp .Or [a] pos) tA:=by
 intro wh pins s σ H Q I h
 refine isTrue_or (thn (ha pins s σ H Q I h) fun c s1 e=>?_)
 cases c with
 | false=>exact isTrue_or_nil e
 | true=>exact e
theorem ajO (ha:PT X a tA) (hb:PW X (.BoolOp .And (b :: eJ) pos) tB'):PW X (.BoolOp .And (a :: b :: eJ) pos) (amq tA tB'):=by
 intro wh pins s σ H Q I h
 refine isTrue_and (thn (ha pins s σ H _ I h) fun c s1 ⟨H1,I1,q1⟩=>?_)
 cases c with
 | true=>exact hb wh pins s1 σ H1 Q I1 q1
 | false=>exact ⟨H1,I1,q1⟩
theorem ale (ha:PT X a tA) (hb:PW X (.BoolOp .Or (b :: eJ) pos) tB'):PW X (.BoolOp .Or (a :: b :: eJ) pos) (tOr tA tB'):=by
 intro wh pins s σ H Q I h
 refine isTrue_or (thn (ha pins s σ H _ I h) fun c s1 ⟨H1,I1,q1⟩=>?_)
 cases c with
 | true=>exact ⟨H1,I1,q1⟩
 | false=>exact hb wh pins s1 σ H1 Q I1 q1
theorem ajB (ha:PT X a tA):PT X (.UnaryOp .Not a pos) (amt tA):=by
 intro pins s σ H Q I h
 exact isTrue_not (ha pins s σ H (fun c H1=>Q (!c) H1) I h)
def alc (ta tb:TE):TE:=fun σ H Q=>ta σ H fun x H1=>∃ c,x=.bl c∧if c=true then tb σ H1 Q else Q (.bl false) H1
def amp (ta tb:TE):TE:=fun σ H Q=>ta σ H fun x H1=>∃ c,x=.bl c∧if c=true then Q (.bl true) H1 else tb σ H1 Q
def aln (ta:TE):TE:=fun σ H Q=>ta σ H fun x H1=>∃ c,x=.bl c∧Q (.bl (!c)) H1
theorem aj5 {op} {t:TE} (h:PE X a t):PE X (.BoolOp op [a] pos) t:=fun pins s σ H Q I hw=>BoolOp_one (h pins s σ H Q I hw)
theorem aj1 (ha:PE X a ta) (hb:PE X (.BoolOp .And (b :: eJ) pos) tb):PE X (.BoolOp .And (a :: b :: eJ) pos) (alc ta tb):=by
 intro pins s σ H Q I h
 refine BoolOp_and (thn (ha pins s σ H _ I h) fun v s1 ⟨x,H1,I1,r1,q1⟩=>?_)
 obtain ⟨c,rfl,q1⟩:=q1
 cases r1
 refine wpAny_truthy_bool ?_
 cases c with
 | true=>exact hb pins s1 σ H1 Q I1 q1
 | false=>exact ⟨.bl false,H1,I1,rfl,q1⟩
theorem alp (ha:PE X a ta) (hb:PE X (.BoolOp .Or (b :: eJ) pos) tb):PE X (.BoolOp .Or (a :: b :: eJ) pos) (amp ta tb):=by
 intro pins s σ H Q I h
 refine BoolOp_or (thn (ha pins s σ H _ I h) fun v s1 ⟨x,H1,I1,r1,q1⟩=>?_)
 obtain ⟨c,rfl,q1⟩:=q1
 cases r1
 refine wpAny_truthy_bool ?_
 cases c with
 | false=>exact hb pins s1 σ H1 Q I1 q1
 | true=>exact ⟨.bl true,H1,I1,rfl,q1⟩
theorem ajs (ha:PE X a ta):PE X (.UnaryOp .Not a pos) (aln ta):=by
 intro pins s σ H Q I h
 refine UnaryOp_ (thn (ha pins s σ H _ I h) fun v s1 ⟨x,H1,I1,r1,q1⟩=>?_)
 obtain ⟨c,rfl,q1⟩:=q1
 cases r1
 exact not_of (wpAny_truthy_bool ⟨.bl (!c),H1,I1,rfl,q1⟩)
def tIf (t:TT) (ta tb:TE):TE:=fun σ H Q=>t σ H fun c H1=>if c=true then ta σ H1 Q else tb σ H1 Q
theorem agD {c:Expr} (hc:PT X c tA) (ha:PE X a ta) (hb:PE X b tb):PE X (.IfExp c a b pos) (tIf tA ta tb):=by
 intro pins s σ H Q I h
 refine wpAny_IfExp (thn (hc pins s σ H _ I h) fun d s1 ⟨H1,I1,q1⟩=>?_)
 cases d with
 | true=>exact ha pins s1 σ H1 Q I1 q1
 | false=>exact hb pins s1 σ H1 Q I1 q1
end
end L2
namespace L2
open PySem PySem.Spec PyProof.Rows
def SqL (K:PySem.W.Frag) (H:Hp) (a:Addr) (xs:List V):Prop :=
 Rd H a (.lst xs) ∨
  ∃ (o:Obj) (its:Array Value) (n:Nat),K.lookup a=some o∧o.cls=.type "list"∧o.dict=none∧o.data=.seq its n∧its.size≤sizeLine∧bG xs its.toList
def SqT (K:PySem.W.Frag) (H:Hp) (a:Addr) (xs:List V):Prop :=
 Rd H a (.tup xs) ∨
  ∃ (o:Obj) (its:Array Value) (n:Nat),K.lookup a=some o∧o.cls=.type "tuple"∧o.data=.seq its n∧its.size≤sizeLine∧bG xs its.toList
def al8:Value→Option V
 | .none=>some .non
 | .bool b=>some (.bl b)
 | .int i _=>some (.int i)
 | .str x _=>some (.str x)
 | .bytes b _=>some (.byt b)
 | .float b _=>some (.flt b)
 | .ref a=>some (.ref a)
 | .type n=>some (.ty n)
 | _=>none
theorem bK.abs {x:V} {u:Value} (r:bK x u):al8 u=some x:=by
 cases x with
 | non=>cases r; rfl
 | bl _=>cases r; rfl
 | int _=>obtain ⟨t,rfl⟩:=r; rfl
 | str _=>obtain ⟨t,rfl⟩:=r; rfl
 | byt _=>obtain ⟨t,rfl⟩:=r; rfl
 | flt _=>obtain ⟨t,rfl⟩:=r; rfl
 | ref _=>cases r; rfl
 | ty _=>cases r; rfl
theorem bK.inj {x y:V} {u:Value} (r:bK x u) (q:bK y u):x=y:=Option.some.inj (r.abs.symm.trans q.abs)
theorem bG.inj:∀ {xs ys:List V} {us:List Value},bG xs us→bG ys us→xs=ys
 | _,_,_,.nil,.nil=>rfl
 | _,_,_,.cons r t,.cons r' t'=>by rw [r.inj r',bG.inj t t']
section
variable {X:Cx} {pins:List (Addr × Obj)} {σ:St} {H:Hp} {s:Shared} {a:Addr} {xs ys:List V}
theorem SqL.of {K:PySem.W.Frag} (h:H a=some (.lst xs)):SqL K H a xs:=.inl (.inl h)
theorem SqT.of {K:PySem.W.Frag} (h:H a=some (.tup xs)):SqT K H a xs:=.inl (.inl h)
theorem Inv.list (I:Inv X pins σ H s) (h:SqL X.K H a xs):∃ its:List Value,bG xs its∧PlainL s.heap a its.toArray∧xs.length≤sizeLine:=by
 rcases h with h | ⟨o,its,n,hk,hc,hd,hs,hz,r⟩
 ·obtain ⟨z,its,n,r,e⟩:=h.ok I.hok
  exact ⟨its,r,⟨_,n,e,rfl,rfl,rfl⟩,z⟩
 ·refine ⟨its.toList,r,⟨o,n,I.kIn a o hk,hc,hd,by simpa using hs⟩,?_⟩
  have e:=r.length
  simp only [Array.length_toList] at e
  omega
theorem Inv.tuple (I:Inv X pins σ H s) (h:SqT X.K H a xs):∃ its:List Value,bG xs its∧IsTup s.heap a its.toArray∧xs.length≤sizeLine:=by
 rcases h with h | ⟨o,its,n,hk,hc,hs,hz,r⟩
 ·obtain ⟨z,its,r,p⟩:=h.ok I.hok
  exact ⟨its,r,p,z⟩
 ·refine ⟨its.toList,r,⟨o,I.kIn a o hk,hc,n,by simpa using hs⟩,?_⟩
  have e:=r.length
  simp only [Array.length_toList] at e
  omega
theorem Inv.list_inj (I:Inv X pins σ H s) (h:SqL X.K H a xs) (h':SqL X.K H a ys):xs=ys:=by
 obtain ⟨its,r,⟨o,n,e,_,_,d⟩,_⟩:=I.list h
 obtain ⟨its',r',⟨o',n',e',_,_,d'⟩,_⟩:=I.list h'
 rw [e] at e'; cases e'
 rw [d] at d'
 injection d' with d1 _
 have:its=its':=by simpa using congrArg Array.toList d1
 subst this
 exact r.inj r'
theorem Inv.tuple_inj (I:Inv X pins σ H s) (h:SqT X.K H a xs) (h':SqT X.K H a ys):xs=ys:=by
 obtain ⟨its,r,⟨o,e,_,n,d⟩,_⟩:=I.tuple h
 obtain ⟨its',r',⟨o',e',_,n',d'⟩,_⟩:=I.tuple h'
 rw [e] at e'; cases e'
 rw [d] at d'
 injection d' with d1 _
 have:its=its':=by simpa using congrArg Array.toList d1
 subst this
 exact r.inj r'
end
abbrev Cx.wish (X:Cx) (E:Value→Shared→Prop):Cx:={ X with xe:=E }
abbrev Cx.nox (X:Cx):Cx:=X.wish fun _ _=>False
theorem Cx.Ok.wish {X:Cx} (ok:X.Ok) (E:Value→Shared→Prop):(X.wish E).Ok :=
 ⟨ok.mod,ok.kind,ok.glob,ok.blt,ok.above,ok.inj,ok.has,ok.cab,ok.hd,ok.frames,ok.stk,ok.exf,ok.bs,ok.bsz,ok.noex,ok.exfs,ok.funs,ok.frf⟩
theorem Cx.Ok.unwish {X:Cx} {E:Value→Shared→Prop} (ok:(X.wish E).Ok):X.Ok :=
 ⟨ok.mod,ok.kind,ok.glob,ok.blt,ok.above,ok.inj,ok.has,ok.cab,ok.hd,ok.frames,ok.stk,ok.exf,ok.bs,ok.bsz,ok.noex,ok.exfs,ok.funs,ok.frf⟩
section
variable {X:Cx} {pins:List (Addr × Obj)} {σ:St} {H:Hp} {s:Shared} {E:Value→Shared→Prop}
theorem Inv.wish (I:Inv X pins σ H s) (E:Value→Shared→Prop):Inv (X.wish E) pins σ H s:=⟨I.ok.wish E,I.os,I.bare,I.base,I.loc,I.cell,I.free,I.freeC,I.pin,I.hok,I.len⟩
theorem Inv.unwish (I:Inv (X.wish E) pins σ H s):Inv X pins σ H s:=⟨I.ok.unwish,I.os,I.bare,I.base,I.loc,I.cell,I.free,I.freeC,I.pin,I.hok,I.len⟩
theorem SP.unwish {D:kD} {f:Flow} {s':Shared} (h:SP (X.wish E) pins D f s'):SP X pins D f s':=by
 cases f with
 | next=>obtain ⟨σ',H',I,q⟩:=h; exact ⟨σ',H',I.unwish,q⟩
 | brk=>obtain ⟨σ',H',I,q⟩:=h; exact ⟨σ',H',I.unwish,q⟩
 | cont=>obtain ⟨σ',H',I,q⟩:=h; exact ⟨σ',H',I.unwish,q⟩
 | ret u=>obtain ⟨v,σ',H',I,r,q⟩:=h; exact ⟨v,σ',H',I.unwish,r,q⟩
theorem PSs.nox {st:List Stmt} {t:TS} (h:PSs X.nox st t):PSs X st t:=fun pins s σ H D I hw =>
 wpAny_mono (h pins s σ H D (I.wish _) hw) (fun _ _ q=>q.unwish) fun _ _ z=>False.elim z
end
section
variable {X:Cx} {st:Stmt} {eJ:List Stmt} {t u:TS} {e:Expr} {te:TE} {pos:Pos}
def alF:TS:=fun D σ H=>D.nx σ H
def amr (t u:TS):TS:=fun D σ H=>t { D with nx:=u D } σ H
theorem aix:PSs X [] alF:=fun _ _ σ H _ I h=>wpAny_execs_nil ⟨σ,H,I,h⟩
theorem af3 (h1:PS X st t) (h2:PSs X eJ u):PSs X (st :: eJ) (amr t u):=by
 intro pins s σ H D I h
 refine wpAny_execs_cons (thn (h1 pins s σ H { D with nx:=u D } I h) fun f s1 q=>?_)
 cases f with
 | next =>
  obtain ⟨σ',H',I',q⟩:=q
  exact h2 pins s1 σ' H' D I' q
 | ret v=>exact q
 | brk=>exact q
 | cont=>exact q
theorem afd (h1:PS X st t):PSs X [st] t:=by
 intro pins s σ H D I h
 refine wpAny_execs_cons (thn (h1 pins s σ H D I h) fun f s1 q=>?_)
 cases f with
 | next=>exact wpAny_execs_nil q
 | ret v=>exact q
 | brk=>exact q
 | cont=>exact q
theorem Inv.quiet {pins:List (Addr × Obj)} {σ:St} {H:Hp} {s:Shared} (I:Inv X pins σ H s):interactive X.env=false:=by simp [interactive,I.ok.kind]
def alo (te:TE):TS:=fun D σ H=>te σ H fun _ H1=>D.nx σ H1
theorem aiT (he:PE X e te) (hs:swapsWith e none pos.line X.env=pure false:=by rfl):PS X (.Expr e pos) (alo te):=by
 intro pins s σ H D I h
 exact wpAny_Expr_any (thn (he pins s σ H _ I h) fun v s1 ⟨x,H1,I1,r1,q1⟩=>⟨σ,H1,I1,q1⟩) I.quiet hs
def amk (te:TE):TS:=fun D σ H=>te σ H D.rt
theorem ai6 (he:PE X e te):PS X (.Return (some e) pos) (amk te):=by
 intro pins s σ H D I h
 exact wpAny_Return_some (thn (he pins s σ H _ I h) fun v s1 ⟨x,H1,I1,r1,q1⟩=>⟨x,σ,H1,I1,r1,q1⟩)
def amh (c:TT) (t u:TS):TS:=fun D σ H=>c σ H fun b H1=>if b=true then t D σ H1 else u D σ H1
theorem alq {c:Expr} {a b:List Stmt} {tc:TT} (hc:PT X c tc) (ha:PSs X a t) (hb:PSs X b u):PS X (.If c a b pos) (amh tc t u):=by
 intro pins s σ H D I h
 refine wpAny_If (thn (hc pins s σ H _ I h) fun d s1 ⟨H1,I1,q1⟩=>?_)
 cases d with
 | true=>exact ha pins s1 σ H1 D I1 q1
 | false=>exact hb pins s1 σ H1 D I1 q1
end
abbrev TG:=V→St→Hp→(St→Hp→Prop)→Prop
abbrev TGs:=List V→St→Hp→(St→Hp→Prop)→Prop
def PG (X:Cx) (target:Expr) (t:TG):Prop :=
 ∀ (pins:List (Addr × Obj)) (s:Shared) (σ:St) (H:Hp) (v:V) (u:Value) (Q:St→Hp→Prop),Inv X pins σ H s→bK v u→t v σ H Q →
  wpAny (model X.prog X.w) X.A (assign target X.env u) (fun _ s'=>∃ σ' H',Inv X pins σ' H' s'∧Q σ' H') X.xe s
def PGs (X:Cx) (ts:List Expr) (t:TGs):Prop :=
 ∀ (pins:List (Addr × Obj)) (s:Shared) (σ:St) (H:Hp) (vs:List V) (us:List Value) (Q:St→Hp→Prop),Inv X pins σ H s→bG vs us→t vs σ H Q →
  wpAny (model X.prog X.w) X.A (assignInOrder ((assignEach ts X.env).map (·.2)) us) (fun _ s'=>∃ σ' H',Inv X pins σ' H' s'∧Q σ' H') X.xe s
abbrev akR:=V→V→V→Hp→(Hp→Prop)→Prop
def alS (X:Cx) (t:akR):Prop :=
 ∀ (pins:List (Addr × Obj)) (s:Shared) (σ:St) (H:Hp) (o i v:V) (ov iv u:Value) (Q:Hp→Prop),Inv X pins σ H s→bK o ov→bK i iv→bK v u→t o i v H Q →
  wpAny (model X.prog X.w) X.A (setItem ov iv u) (fun _ s'=>∃ H',Inv X pins σ H' s'∧Q H') X.xe s
abbrev TIp:=V→V→Hp→VK→Prop
def PIp (X:Cx) (op:Operator) (t:TIp):Prop :=
 ∀ (pins:List (Addr × Obj)) (s:Shared) (σ:St) (H:Hp) (x y:V) (v u:Value) (Q:VK),Inv X pins σ H s→bK x v→bK y u→t x y H Q →
  wpAny (model X.prog X.w) X.A (inplaceOp op v u) (EP X pins σ Q) X.xe s
section
variable {X:Cx} {pos:Pos}
def wB (i:Nat):TG:=fun v σ H Q=>Q (σ.set i (some v)) H
theorem aiQ {i:Nat} {x:Str} (hN:X.N.Nodup) (hi:X.N[i]?=some x) (hx:Loc X.env.scope x) (hf:X.fn x=true∨X.env.scope.names.lookup x=some .local:=by first | exact .inl rfl | exact .inr rfl | assumption):PG X (.Name x pos) (wB i):=by
 intro pins s σ H v u Q I r h
 exact wpAny_assign_Name (mX I hN hi hx r (fun s' I'=>⟨_,H,I',h⟩) hf)
def amj:TGs:=fun vs σ H Q=>vs=[]∧Q σ H
def ak2 (t:TG) (u:TGs):TGs:=fun vs σ H Q=>∃ v r,vs=v :: r∧t v σ H fun σ' H'=>u r σ' H' Q
theorem aiE:PGs X [] amj:=by
 intro pins s σ H vs us Q I r h
 obtain ⟨e,h⟩:=h
 subst e
 cases r
 exact assignInOrder_nil ⟨σ,H,I,h⟩
theorem agb {e:Expr} {es:List Expr} {t:TG} {u:TGs} (h1:PG X e t) (h2:PGs X es u)
  (hs:(assignEach (e :: es) X.env).map (·.2)=assign e X.env :: (assignEach es X.env).map (·.2):=by rfl):PGs X (e :: es) (ak2 t u):=by
 intro pins s σ H vs us Q I r h
 obtain ⟨v,vr,e1,h⟩:=h
 subst e1
 cases r with
 | cons r rr =>
  rw [hs]
  refine assignInOrder_cons (thn (h1 pins s σ H _ _ _ I r h) fun _ s1 ⟨σ1,H1,I1,q1⟩=>?_)
  exact h2 pins s1 σ1 H1 _ _ Q I1 rr q1
def amo (K:PySem.W.Frag) (n:Nat) (t:TGs):TG:=fun v σ H Q=>∃ a xs,v=.ref a∧SqT K H a xs∧xs.length=n∧t xs σ H Q
theorem akz {es:List Expr} {k:Nat} {t:TGs} {n:Nat} (hc:X.calm=true) (h:PGs X es t)
  (hn:(assignEach es X.env).length=n:=by rfl) (hst:(assignEach es X.env).findIdx? (·.1)=none:=by rfl):PG X (.Tuple es k pos) (amo X.K n t):=by
 intro pins s σ H v u Q I r hw
 obtain ⟨a,xs,e1,hq,hl,hw⟩:=hw
 subst e1
 cases r
 obtain ⟨its,rv,ht,hz⟩:=I.tuple hq
 refine assign_Tuple_tuple (I.ok.hd hc) ht (by simp [hn,← hl,rv.length]) hst fun h' hx=>?_
 have I1:Inv X pins σ H { s with heap:=h' }:=I.kept (t':=s.toks) fun b o e=>hx b o (Nat.ne_of_lt (Heap.lt_size e)) e
 exact h pins _ σ H xs _ Q I1 (by simpa using rv) hw
def ame (to ti:TE) (t:akR):TG:=fun v σ H Q=>to σ H fun o H1=>ti σ H1 fun i H2=>t o i v H2 fun H3=>Q σ H3
theorem ajG {o i:Expr} {to ti:TE} {t:akR} (ho:PE X o to) (hi:PE X i ti) (hs:alS X t)
  (ha:∀ v,assign (.Subscript o i pos) X.env v=(do
   let ov ← holding [v] (eval o X.env)
   let iv ← holding [v,ov] (eval i X.env)
   standAt pos
   holding [v,ov,iv] (setItem ov iv v)
   release [v,ov,iv] []):=by intro _; rfl):PG X (.Subscript o i pos) (ame to ti t):=by
 intro pins s σ H v u Q I r h
 rw [ha]
 refine wpAny_bind (wpAny_holding (thn (ho pins s σ H _ I h) fun ov s1 ⟨x,H1,I1,r1,q1⟩=>?_))
 refine wpAny_bind (wpAny_holding (thn (hi pins s1 σ H1 _ I1 q1) fun iv s2 ⟨y,H2,I2,r2,q2⟩=>?_))
 refine wpAny_bind (wpAny_standAt (wpAny_bind (wpAny_holding (thn (hs pins s2 σ H2 x y v ov iv u _ I2 r1 r2 r q2) fun _ s3 ⟨H3,I3,q3⟩=>?_))))
 exact wpAny_release ⟨σ,H3,I3,q3⟩
def wR (te:TE) (g:TG):TS:=fun D σ H=>te σ H fun x H1=>g x σ H1 D.nx
theorem agV {tg e:Expr} {te:TE} {g:TG} (he:PE X e te) (hg:PG X tg g) (hs:swapsWithSole [tg] e pos.line X.env=pure false:=by rfl) (hw:swappedStores [tg] e X.env=pure none:=by rfl)
  (h1:(assignEach [tg] X.env).map (·.2)=[assign tg X.env]:=by rfl):PS X (.Assign [tg] e pos) (wR te g):=by
 intro pins s σ H D I h
 refine wpAny_Assign_stores (thn (he pins s σ H _ I h) fun v s1 ⟨x,H1,I1,r1,q1⟩=>?_) hs hw
 rw [h1]
 exact thn (hg pins s1 σ H1 x v _ I1 r1 q1) fun _ s2 q=>q
theorem ahu {i:Nat} {x:Str} {e:Expr} {te:TE} {pos':Pos} (hN:X.N.Nodup) (hi:X.N[i]?=some x) (hx:Loc X.env.scope x) (he:PE X e te) (hs:swapsWith e (some (.Name x pos')) pos.line X.env=pure false:=by rfl) (hf:X.fn x=true∨X.env.scope.names.lookup x=some .local:=by first | exact .inl rfl | exact .inr rfl | assumption) :
  PS X (.Assign [.Name x pos'] e pos) (wR te (wB i)):=by
 intro pins s σ H D I h
 refine wpAny_Assign_Name (thn (he pins s σ H _ I h) fun v s1 ⟨y,H1,I1,r1,q1⟩=>?_) hs
 exact mX I1 hN hi hx r1 (fun s2 I2=>⟨_,H1,I2,q1⟩) hf
def ams (i j:Nat) (ta:TA):TS:=fun D σ H=>ta σ H fun vs H1=>∃ v w,vs=[v,w]∧D.nx ((σ.set i (some v)).set j (some w)) H1
theorem ajZ {i j:Nat} {x y:Str} {a b:Expr} {ta:TA} {px py pt:Pos} {kt k2 pt2} (hc:X.calm=true) (hN:X.N.Nodup) (hi:X.N[i]?=some x) (hj:X.N[j]?=some y) (hij:i≠j)
  (hx:X.env.scope.names.lookup x=some .local) (hy:X.env.scope.names.lookup y=some .local) (ha:PA X [a,b] ta)
  (hw:swappedStores [.Tuple [.Name x px,.Name y py] kt pt] (.Tuple [a,b] k2 pt2) X.env=pure (some [x,y]))
  (hs:swapsWithSole [.Tuple [.Name x px,.Name y py] kt pt] (.Tuple [a,b] k2 pt2) pos.line X.env=pure false:=by rfl) :
  PS X (.Assign [.Tuple [.Name x px,.Name y py] kt pt] (.Tuple [a,b] k2 pt2) pos) (ams i j ta):=by
 intro pins s σ H D I h
 rw [exec_Assign_arm]
 refine wpAny_bind (wpAny_standAt ?_)
 rw [hs]
 refine wpAny_bind (wpAny_pure ?_)
 rw [if_neg (by decide)]
 refine wpAny_bind (Tuple_ (thn (ha _ pins s σ H _ I h) fun us s1 ⟨vs,H1,I1,r1,q1⟩=>?_))
 obtain ⟨v,w,e1,q1⟩:=q1
 subst e1
 obtain ⟨u1,u2,rfl,rv,rw'⟩:∃ u1 u2,us=[u1,u2]∧bK v u1∧bK w u2:=by
  cases r1 with
  | cons p q =>
   cases q with
   | cons p' q' =>
    cases q'
    exact ⟨_,_,rfl,p,p'⟩
 refine wpAny_newObj_type ?_ (by show 2≤sizeLine; decide)
 have I2:Inv X pins σ H1 { s1 with heap:=s1.heap.push { cls:=.type "tuple",data:=.seq [u1,u2].toArray } }:=I1.kept (t':=s1.toks) fun b o e=>Heap.get?_push_of_some _ e
 rw [hw]
 refine wpAny_bind (wpAny_pure ?_)
 show wpAny (model X.prog X.w) X.A (do rule "assign.swapped-stores"; let items ← unpackItems (.ref s1.heap.objs.size) 2 none; assignInOrder [fun v=>bindName X.env y v,fun v=>bindName X.env x v] items.reverse; pure Flow.next) _ _ _
 refine wpAny_bind (wpAny_rule (wpAny_bind (unpackItems_tuple (items:=#[u1,u2]) (I.ok.hd hc) (IsTup.new s1.heap _) fun h' hx'=>?_)))
 have I3:=I2.kept (h':=h') (t':=s1.toks) fun b o e=>hx' b o (Nat.ne_of_lt (Heap.lt_size e)) e
 show wpAny _ _ (assignInOrder [fun v=>bindName X.env y v,fun v=>bindName X.env x v] [u2,u1] >>= fun _=>pure Flow.next) _ _ _
 refine wpAny_bind (assignInOrder_cons (wpAny_bindName (mX I3 hN hj (.inl hy) rw' (fun s2 I4=>?_) (.inr hy))))
 refine assignInOrder_cons (wpAny_bindName (mX I4 hN hi (.inl hx) rv (fun s3 I5=>assignInOrder_nil (wpAny_pure ?_)) (.inr hx)))
 rw [List.set_comm _ _ (Ne.symm hij)] at I5
 exact ⟨_,H1,I5,q1⟩
end
section
variable {X:Cx} {pos:Pos}
def aja (c:TT) (tb:TS):TS:=fun D σ H=>∃ W:Nat→St→Hp→Prop,(∃ m,W m σ H)∧∀ m σ H,W m σ H →
 c σ H fun b H1=>if b=true then ∃ N:St→Hp→Prop,(∀ σ' H',N σ' H'→∃ m',m' < m∧W m' σ' H')∧tb { D with nx:=N,ct:=N,bk:=D.nx } σ H1 else D.nx σ H1
theorem agL {c:Expr} {body:List Stmt} {tc:TT} {tb:TS} (hp:PassesOwn (model X.prog X.w) X.A X.env X.xe) (hc:PT X c tc) (hb:PSs X body tb):PS X (.While c body [] pos) (aja tc tb):=by
 intro pins s σ H D I h
 obtain ⟨W,⟨m0,w0⟩,turn⟩:=h
 refine wpAny_While (codeAny_whileLoop (fun n s'=>∃ σ' H',Inv X pins σ' H' s'∧W n σ' H') ?_ m0 ⟨σ,H,I,w0⟩)
 rintro n s1 ⟨σ1,H1,I1,w1⟩
 refine wpAny_passesOwn hp (thn (hc pins s1 σ1 H1 _ I1 (turn n σ1 H1 w1)) fun b s2 ⟨H2,I2,q2⟩=>?_)
 cases b with
 | true =>
  obtain ⟨N,hN,q2⟩:=q2
  rw [if_pos rfl]
  refine wpAny_passesOwn hp (thn (hb pins s2 σ1 H2 _ I2 q2) fun f s3 q3=>?_)
  cases f with
  | next =>
   obtain ⟨σ3,H3,I3,n3⟩:=q3
   obtain ⟨m',hm,w3⟩:=hN σ3 H3 n3
   exact ⟨m',hm,σ3,H3,I3,w3⟩
  | cont =>
   obtain ⟨σ3,H3,I3,n3⟩:=q3
   obtain ⟨m',hm,w3⟩:=hN σ3 H3 n3
   exact ⟨m',hm,σ3,H3,I3,w3⟩
  | brk=>exact q3
  | ret v=>exact q3
 | false =>
  rw [if_neg Bool.false_ne_true]
  exact wpAny_execs_nil ⟨σ1,H2,I2,q2⟩
end
structure It where
 go:Nat→Hp→Prop
 yld:Nat→Hp→V→Hp→Prop
 stop:Nat→Hp→Prop
def eK (X:Cx) (pins:List (Addr × Obj)) (H:Hp) (b:Addr):Prop :=
 H b=none∧b≠X.env.locals∧b ∉ X.fs∧(b∈X.ex∨X.s₀.heap.objs.size≤b)∧(∀ x c,X.env.cells.lookup x=some c→c≠b)∧∀ p∈X.pn++pins,p.1≠b
theorem Inv.fpOk {X:Cx} {pins:List (Addr × Obj)} {σ:St} {H H':Hp} {s:Shared} {b:Addr} (I:Inv X pins σ H s) (hb:s.heap.objs.size≤b) (hn:H' b=none):eK X pins H' b:=by
 refine ⟨hn,Nat.ne_of_gt (Nat.lt_of_lt_of_le I.lt hb),I.nofs hb,.inr (Nat.le_trans I.sz hb),fun x c e z=>?_,fun p hp z=>?_⟩
 ·obtain ⟨v,q⟩:=I.cell x c e
  exact absurd (Nat.lt_of_lt_of_le q.lt (by rw [z]; exact hb)) (Nat.lt_irrefl _)
 ·exact absurd (Nat.lt_of_lt_of_le (Heap.lt_size (I.pin p hp).1) (by rw [z]; exact hb)) (Nat.lt_irrefl _)
structure nU (P:Program) (w:World) (K:PySem.W.Frag) (tg:Expr) (J:It) (fp:List Addr) (it:Addr) (tn:Nat→Heap→Prop):Prop where
 mem:it∈fp
 obj:∀ i h,tn i h→∀ b∈fp,∃ o,h.get? b=some o∧∀ v,o.data≠.cell v
 keep:∀ i h h',tn i h→(∀ b∈fp,∀ o,h.get? b=some o→h'.get? b=some o)→tn i h'
 item:∀ (X:Cx),X.prog=P→X.w=w→X.K=K→X.calm=true→∀ (i:Nat) (pins:List (Addr × Obj)) (s:Shared) (σ:St) (H:Hp) (E:Value→Shared→Prop),Inv X pins σ H s→(∀ b∈fp,eK X pins H b)→tn i s.heap→J.go i H →
  wpAny (model P w) X.A (pyNext (.ref it)) (fun r s1=>∃ u,r=some u ∧
   wpAny (model P w) X.A (letOwnedTupleGo tg (.ref it) u) (fun _ s2=>∃ x H',Inv X pins σ H' s2∧bK x u∧J.yld i H x H'∧tn (i+1) s2.heap∧∀ b∈fp,H' b=none) E s1) E s
 done:∀ (X:Cx),X.prog=P→X.w=w→X.K=K→X.calm=true→∀ (i:Nat) (pins:List (Addr × Obj)) (s:Shared) (σ:St) (H:Hp) (E:Value→Shared→Prop),Inv X pins σ H s→(∀ b∈fp,eK X pins H b)→tn i s.heap→J.stop i H →
  wpAny (model P w) X.A (pyNext (.ref it)) (fun r s1=>r=none∧Inv X pins σ H s1) E s
 self:∀ (A:Around) (i:Nat) (s:Shared) (Q:Value→Shared→Prop) (E:Value→Shared→Prop),tn i s.heap→Q (.ref it) s→wpAny (model P w) A (pyIter (.ref it)) Q E s
abbrev TI:=St→Hp→(It→Hp→Prop)→Prop
def PIE (X:Cx) (pins:List (Addr × Obj)) (σ:St) (tg:Expr) (R:It→Hp→Prop) (itv:Value) (s2:Shared):Prop :=
 ∃ (it:Addr) (fp:List Addr) (tn:Nat→Heap→Prop) (J:It) (H':Hp),itv=.ref it∧Inv X pins σ H' s2∧nU X.prog X.w X.K tg J fp it tn∧tn 0 s2.heap∧(∀ b∈fp,eK X pins H' b)∧R J H'
def PI (X:Cx) (tg iter:Expr) (wi:TI):Prop :=
 ∀ (pins:List (Addr × Obj)) (s:Shared) (σ:St) (H:Hp) (R:It→Hp→Prop),Inv X pins σ H s→wi σ H R →
  wpAny (model X.prog X.w) X.A (eval iter X.env) (fun v s1=>wpAny (model X.prog X.w) X.A (pyIter v) (PIE X pins σ tg R) X.xe s1) X.xe s
theorem wC {M : Model} {A : Around} {E : Value → Shared → Prop} {s : Shared} {tg : Expr} {it : Addr} {u : Value} {o : Obj} {n : String} {vs : Array Value} {Q : Unit → Shared → Prop} (ho : s.heap.get? it = some o) (hc : o.cls = .type n) (hd : o.data = .fields vs)
    (hn : ["enumerate", "zip", "dict_itemiterator", "dict_reverseitemiterator", "odict_iterator", "itertools.zip_longest", "itertools.pairwise"].contains n = false) (hQ : Q () s) : wpAny M A (letOwnedTupleGo tg (.ref it) u) Q E s := by
  unfold letOwnedTupleGo
  cases tg <;> first
    | exact wpAny_pure hQ
    | (cases u <;> first
        | exact wpAny_pure hQ
        | (refine wpAny_bind (wpAny_load ho ?_)
           rw [hc, hd]
           show wpAny M A (if (["enumerate", "zip", "dict_itemiterator", "dict_reverseitemiterator", "odict_iterator", "itertools.zip_longest", "itertools.pairwise"].contains n && vs[0]? == some (rawInt _)) = true then _ else _) Q E s
           rw [if_neg (by intro h; rw [hn, Bool.false_and] at h; cases h)]
           exact wpAny_pure hQ))
def Itl (K:PySem.W.Frag) (a:Addr):It :=
 ⟨fun i H=>∃ xs x,SqL K H a xs∧xs[i]?=some x,fun i H x H'=>H'=H∧∀ xs,SqL K H a xs→xs[i]?=some x,fun i H=>∃ xs,SqL K H a xs∧xs.length≤i⟩
def Itt (K:PySem.W.Frag) (a:Addr):It :=
 ⟨fun i H=>∃ xs x,SqT K H a xs∧xs[i]?=some x,fun i H x H'=>H'=H∧∀ xs,SqT K H a xs→xs[i]?=some x,fun i H=>∃ xs,SqT K H a xs∧xs.length≤i⟩
def Itr (lo:Int) (n:Nat):It:=⟨fun i _=>i < n,fun i H x H'=>H'=H∧x=.int (lo+i),fun i _=>n≤i⟩
theorem aep {P:Program} {w:World} {K:PySem.W.Frag} {tg:Expr} (a it:Addr):nU P w K tg (Itl K a) [it] it (fun i h=>h.IsListIter it a i) where
 mem:=by simp
 obj:=fun i h st b hb=>by
  have e:b=it:=by simpa using hb
  subst e
  obtain ⟨o,e,c,d⟩:=st
  exact ⟨o,e,fun v z=>by rw [d] at z; cases z⟩
 keep:=fun i h h' st k=>st.at fun o e=>k it (by simp) o e
 item:=by
  intro X hP hw hK hc i pins s σ H E I hf st hg
  subst hP hw hK
  obtain ⟨xs,x,hq,hx⟩:=hg
  obtain ⟨its,rv,p,hz⟩:=I.list hq
  obtain ⟨u,hu,ru⟩:=rv.get hx
  obtain ⟨f0,f1,f2,f3,f4,f5⟩:=hf it (by simp)
  refine wpAny_pyNext_list_item st p.isList (x:=u) (by simpa using hu) fun h' st' sb=>?_
  have I1:Inv X pins σ H { s with heap:=h' }:=I.turned (t':=s.toks) (fun b o hb e=>(sb.2 b hb).trans e) f0 f1 f3 f4 f5
  obtain ⟨o,e,c,d⟩:=id st'
  exact ⟨u,rfl,wC (s:={ s with heap:=h' }) e c d (by decide) ⟨x,H,I1,ru,⟨rfl,fun ys hy=>by rw [I.list_inj hy hq]; exact hx⟩,st',fun b hb=>(hf b hb).1⟩⟩
 done:=by
  intro X hP hw hK hc i pins s σ H E I hf st hg
  subst hP hw hK
  obtain ⟨xs,hq,hx⟩:=hg
  obtain ⟨its,rv,p,hz⟩:=I.list hq
  obtain ⟨f0,f1,f2,f3,f4,f5⟩:=hf it (by simp)
  have hl:=rv.length
  exact wpAny_pyNext_list_end (I.ok.hd hc) st p.isList (by simp; omega) fun h' eb=>⟨rfl,I.turned (t':=s.toks) (fun b o hb e=>eb b o hb e) f0 f1 f3 f4 f5⟩
 self:=fun _ _ _ _ _ st h=>wpAny_pyIter_listiter st h
theorem adN {P:Program} {w:World} {K:PySem.W.Frag} {tg:Expr} (a it:Addr):nU P w K tg (Itt K a) [it] it (fun i h=>h.IsTupleIter it a i) where
 mem:=by simp
 obj:=fun i h st b hb=>by
  have e:b=it:=by simpa using hb
  subst e
  obtain ⟨o,e,c,d⟩:=st
  exact ⟨o,e,fun v z=>by rw [d] at z; cases z⟩
 keep:=fun i h h' st k=>st.at fun o e=>k it (by simp) o e
 item:=by
  intro X hP hw hK hc i pins s σ H E I hf st hg
  subst hP hw hK
  obtain ⟨xs,x,hq,hx⟩:=hg
  obtain ⟨its,rv,p,hz⟩:=I.tuple hq
  obtain ⟨u,hu,ru⟩:=rv.get hx
  obtain ⟨f0,f1,f2,f3,f4,f5⟩:=hf it (by simp)
  refine wpAny_pyNext_tuple_item st (show s.heap.IsTuple a its.toArray from p) (x:=u) (by simpa using hu) fun h' st' sb=>?_
  have I1:Inv X pins σ H { s with heap:=h' }:=I.turned (t':=s.toks) (fun b o hb e=>(sb.2 b hb).trans e) f0 f1 f3 f4 f5
  obtain ⟨o,e,c,d⟩:=id st'
  exact ⟨u,rfl,wC (s:={ s with heap:=h' }) e c d (by decide) ⟨x,H,I1,ru,⟨rfl,fun ys hy=>by rw [I.tuple_inj hy hq]; exact hx⟩,st',fun b hb=>(hf b hb).1⟩⟩
 done:=by
  intro X hP hw hK hc i pins s σ H E I hf st hg
  subst hP hw hK
  obtain ⟨xs,hq,hx⟩:=hg
  obtain ⟨its,rv,p,hz⟩:=I.tuple hq
  obtain ⟨f0,f1,f2,f3,f4,f5⟩:=hf it (by simp)
  have hl:=rv.length
  exact wpAny_pyNext_tuple_end (I.ok.hd hc) st (show s.heap.IsTuple a its.toArray from p) (by simp; omega) fun h' eb=>⟨rfl,I.turned (t':=s.toks) (fun b o hb e=>eb b o hb e) f0 f1 f3 f4 f5⟩
 self:=fun _ _ _ _ _ st h=>wpAny_pyIter_tupleiter st h
theorem adG {P:Program} {w:World} {K:PySem.W.Frag} {tg:Expr} (it:Addr) (lo:Int) (n:Nat):nU P w K tg (Itr lo n) [it] it (fun i h=>IsRangeIter h it (lo+(i:Nat)*1) ((n:Int) - (i:Nat)) 1) where
 mem:=by simp
 obj:=fun i h st b hb=>by
  have e:b=it:=by simpa using hb
  subst e
  exact ⟨_,st,fun v z=>by
   have z':Data.fields _=Data.cell v:=z
   cases z'⟩
 keep:=fun i h h' st k=>k it (by simp) _ st
 item:=by
  intro X hP hw hK hc i pins s σ H E I hf st hg
  subst hP hw hK
  obtain ⟨f0,f1,f2,f3,f4,f5⟩:=hf it (by simp)
  have W:=Walks.range (prog:=X.prog) (w:=X.w) (I.ok.hd hc) it lo 1 n
  refine W.item i s _ _ hg st fun v h' tk hv st' kk=>?_
  obtain ⟨t,rfl⟩:=hv
  have I1:Inv X pins σ H { s with heap:=h',toks:=tk }:=I.turned (fun b o hb e=>kk b o (by simpa using hb) e) f0 f1 f3 f4 f5
  refine ⟨_,rfl,wC (s:={ s with heap:=h',toks:=tk }) (n:="range_iterator") st' rfl rfl (by decide) ⟨.int (lo+i),H,I1,⟨t,?_⟩,⟨rfl,rfl⟩,st',fun b hb=>(hf b hb).1⟩⟩
  rw [Int.mul_one]
 done:=by
  intro X hP hw hK hc i pins s σ H E I hf st hg
  subst hP hw hK
  obtain ⟨f0,f1,f2,f3,f4,f5⟩:=hf it (by simp)
  exact wpAny_pyNext_range_end (I.ok.hd hc) st (by have:n≤i:=hg; omega) fun h' eb=>⟨rfl,I.turned (t':=s.toks) (fun b o hb e=>eb b o hb e) f0 f1 f3 f4 f5⟩
 self:=fun _ _ _ _ _ st h=>wpAny_pyIter_rangeiter st h
end L2
namespace L2
open PySem PySem.Spec PyProof.Rows
section
variable {X:Cx} {tg:Expr}
theorem agm {pins:List (Addr × Obj)} {σ:St} {H:Hp} {s:Shared} {R:It→Hp→Prop} {E:Value→Shared→Prop} {lo hi:Int} {t u v:Tok} {tk:Nat} (I:Inv X pins σ H s) (h1:-(2 ^ 62)≤lo) (h2:lo < 2 ^ 62) (h3:-(2 ^ 62)≤hi) (h4:hi < 2 ^ 62)
  (q:R (Itr lo (hi - lo).toNat) H):wpAny (model X.prog X.w) X.A (pyIter (.ref s.heap.objs.size)) (PIE X pins σ tg R) E { s with heap:=s.heap.push { cls:=.type "range",data:=.fields #[.int lo t,.int hi u,.int 1 v] },toks:=tk }:=by
 refine wpAny_pyIter_range (IsRange.new ..) (small_one h1 h2 h3 h4) ?_
 have I1:Inv X pins σ H { s with heap:=s.heap.push { cls:=.type "range",data:=.fields #[.int lo t,.int hi u,.int 1 v] },toks:=tk }:=I.kept fun b o e=>Heap.get?_push_of_some _ e
 refine ⟨(s.heap.push { cls:=.type "range",data:=.fields #[.int lo t,.int hi u,.int 1 v] }).objs.size,[(s.heap.push { cls:=.type "range",data:=.fields #[.int lo t,.int hi u,.int 1 v] }).objs.size],_,_,H,rfl,
  I1.kept (t':=tk) fun b o e=>Heap.get?_push_of_some _ e,adG _ lo (hi - lo).toNat,?_,fun b hb=>?_,q⟩
 ·have e1:lo+((0:Nat):Int)*1=lo:=by simp
  have e2:(((hi - lo).toNat:Nat):Int) - ((0:Nat):Int)=Builtin.Range.rangeSize lo hi 1:=by rw [rangeSize_one]; split <;> omega
  show IsRangeIter _ _ (lo+((0:Nat):Int)*1) ((((hi - lo).toNat:Nat):Int) - ((0:Nat):Int)) 1
  rw [e1,e2]
  exact Heap.get?_push_size _ rfl
 ·have e:b=(s.heap.push { cls:=.type "range",data:=.fields #[.int lo t,.int hi u,.int 1 v] }).objs.size:=by simpa using hb
  subst e
  exact I1.fpOk (Nat.le_refl _) (I1.hok.fresh (Nat.le_refl _))
def akT (ta:TA):TI:=fun σ H R=>ta σ H fun vs H1=>∃ j:Int,vs=[.int j]∧-(2 ^ 62)≤j∧j < 2 ^ 62∧R (Itr 0 j.toNat) H1
theorem afN {a:Expr} {ta:TA} {p pos:Pos} (hg:Gl X "range") (hm:X.mg "range"=none) (ha:PA X [a] ta) (hs:starEach [a] X.env=[(false,eval a X.env)]:=by rfl):PI X tg (.Call (.Name "range" p) [a] [] pos) (akT ta):=by
 intro pins s σ H R I h
 refine Call_ (pA I hg hm boot_range (PyProof.Rows.callWith_type1 (thn (ha pos pins s σ H _ I h) fun us s1 ⟨vs,H1,I1,r1,q1⟩=>?_) hs rfl))
 obtain ⟨j,e,q1,q2,q⟩:=q1
 subst e
 cases r1 with
 | cons r rr =>
  cases rr
  obtain ⟨t,rfl⟩:=r
  exact call_range_1 (agm I1 (by omega) (by omega) q1 q2 (by simpa using q))
def al1 (wi:TI) (g:TG) (tb:TS):TS:=fun D σ H=>wi σ H fun J H1=>∃ W:Nat→Nat→St→Hp→Prop,(∃ m,W 0 m σ H1)∧∀ i m σ H,W i m σ H →
 (J.stop i H∧D.nx σ H)∨(J.go i H∧∃ N:St→Hp→Prop,(∀ σ' H',N σ' H'→∃ m',m' < m∧W (i+1) m' σ' H')∧∀ x H',J.yld i H x H'→g x σ H' fun σ2 H2=>tb { D with nx:=N,ct:=N,bk:=D.nx } σ2 H2)
def uY (fp:List Addr) (h:Heap):List (Addr × Obj):=fp.filterMap fun b=>(h.get? b).map fun o=>(b,o)
theorem lG {fp:List Addr} {h:Heap} {b:Addr} {o:Obj} (hb:b∈fp) (e:h.get? b=some o):(b,o)∈uY fp h:=List.mem_filterMap.mpr ⟨b,hb,by rw [e]; rfl⟩
theorem aek {fp:List Addr} {h:Heap} {p:Addr × Obj} (hp:p∈uY fp h):p.1∈fp∧h.get? p.1=some p.2:=by
 obtain ⟨b,hb,e⟩:=List.mem_filterMap.mp hp
 cases q:h.get? b with
 | none=>rw [q] at e; cases e
 | some o =>
  rw [q] at e
  have e':(b,o)=p:=Option.some.inj e
  subst e'
  exact ⟨hb,q⟩
theorem Inv.pinned {pins:List (Addr × Obj)} {σ:St} {H:Hp} {s:Shared} {fp:List Addr} (I:Inv X pins σ H s) (hf:∀ b∈fp,eK X pins H b) (ho:∀ b∈fp,∃ o,s.heap.get? b=some o∧∀ v,o.data≠.cell v):Inv X (pins++uY fp s.heap) σ H s :=
 I.pins_of fun p hp=>(List.mem_append.mp hp).elim (fun z=>I.pin p (List.mem_append_right _ z)) fun z=>by
  obtain ⟨hb,e⟩:=aek z
  obtain ⟨f0,f1,f2,_⟩:=hf p.1 hb
  obtain ⟨o,e',d⟩:=ho p.1 hb
  rw [e] at e'; cases e'
  exact ⟨e,f0,f1,f2,d⟩
theorem Inv.unpinned {pins pl:List (Addr × Obj)} {σ:St} {H:Hp} {s:Shared} (I:Inv X (pins++pl) σ H s):Inv X pins σ H s:=I.pins_of fun p hp=>I.pin p (List.mem_append_right _ (List.mem_append_left _ hp))
theorem ai8 {iter:Expr} {body:List Stmt} {wi:TI} {g:TG} {tb:TS} {pos:Pos} (hp:PassesOwn (model X.prog X.w) X.A X.env X.xe) (hc:X.calm=true) (hi:PI X tg iter wi) (hg:PG X tg g) (hb:PSs X body tb)
  (hs:∀ x,foldedSetIterable iter X.env x=pure x:=by intro _; rfl):PS X (.For tg iter body [] pos) (al1 wi g tb):=by
 intro pins s σ H D I h
 refine wpAny_For (thn (hi pins s σ H _ I h) fun v s1 h1=>thn h1 fun itv s2 h2=>?_) hs
 obtain ⟨it,fp,tn,J,H2,e,I2,T,st2,f2,W,⟨m0,w0⟩,turn⟩:=h2
 subst e
 -- what stays true of the iterator's objects through the loop
 have stat:∀ {H':Hp},(∀ b∈fp,H' b=none)→∀ b∈fp,eK X pins H' b:=fun hn b hb=>⟨hn b hb,(f2 b hb).2⟩
 refine codeAny_forLoop_any (fun n s'=>∃ i σ' H',Inv X pins σ' H' s'∧tn i s'.heap∧(∀ b∈fp,H' b=none)∧W i n σ' H') ?_ m0 ⟨0,σ,H2,I2,st2,fun b hb=>(f2 b hb).1,w0⟩
 rintro n s3 ⟨i,σ3,H3,I3,st3,fr3,w3⟩
 rcases turn i n σ3 H3 w3 with ⟨stop,qn⟩ | ⟨go,N,hN,step⟩
 ·refine wpAny_passesOwn hp (thn (T.done X rfl rfl rfl hc i pins s3 σ3 H3 X.xe I3 (stat fr3) st3 stop) fun r s4 ⟨hr,I4⟩=>?_)
  subst hr
  exact wpAny_execs_nil ⟨σ3,H3,I4,qn⟩
 ·refine wpAny_passesOwn hp (thn (T.item X rfl rfl rfl hc i pins s3 σ3 H3 X.xe I3 (stat fr3) st3 go) fun r s4 ⟨u,hr,h4⟩=>?_)
  subst hr
  refine wpAny_passesOwn hp (thn h4 fun _ s5 ⟨x,H5,I5,r5,y5,st5,fr5⟩=>?_)
  have I5':=I5.pinned (stat fr5) (T.obj _ _ st5)
  refine wpAny_passesOwn hp (thn (hg _ s5 σ3 H5 x u _ I5' r5 (step x H5 y5)) fun _ s6 ⟨σ6,H6,I6,q6⟩=>?_)
  refine wpAny_passesOwn hp (thn (hb _ s6 σ6 H6 _ I6 q6) fun f s7 q7=>?_)
  have again:∀ {σ7:St} {H7:Hp},Inv X (pins++uY fp s5.heap) σ7 H7 s7→N σ7 H7→∃ m,m < n∧∃ i σ' H',Inv X pins σ' H' s7∧tn i s7.heap∧(∀ b∈fp,H' b=none)∧W i m σ' H':=fun {σ7 H7} I7 n7=>by
   obtain ⟨m',hm,w7⟩:=hN σ7 H7 n7
   refine ⟨m',hm,i+1,σ7,H7,I7.unpinned,T.keep _ _ _ st5 fun b hb o e=>(I7.pin (b,o) (List.mem_append_right _ (List.mem_append_right _ (lG hb e)))).1,fun b hb=>?_,w7⟩
   obtain ⟨o,e,d⟩:=T.obj _ _ st5 b hb
   exact (I7.pin (b,o) (List.mem_append_right _ (List.mem_append_right _ (lG hb e)))).2.1
  cases f with
  | next=>obtain ⟨σ7,H7,I7,n7⟩:=q7; exact again I7 n7
  | cont=>obtain ⟨σ7,H7,I7,n7⟩:=q7; exact again I7 n7
  | brk=>obtain ⟨σ7,H7,I7,q7⟩:=q7; exact ⟨σ7,H7,I7.unpinned,q7⟩
  | ret v=>obtain ⟨x7,σ7,H7,I7,r7,q7⟩:=q7; exact ⟨x7,σ7,H7,I7.unpinned,r7,q7⟩
end
end L2
namespace L2
open PySem PySem.Spec PyProof.Rows
abbrev R2:=V→V→Hp→VK→Prop
def OpR (X:Cx) (f:Value→Value→Sem Value) (r:R2):Prop :=
 ∀ (pins:List (Addr × Obj)) (s:Shared) (σ:St) (H:Hp) (x y:V) (v u:Value) (Q:VK),Inv X pins σ H s→bK x v→bK y u→r x y H Q →
  wpAny (model X.prog X.w) X.A (f v u) (EP X pins σ Q) X.xe s
def UnR (X:Cx) (f:Value→Sem Value) (r:V→Hp→VK→Prop):Prop :=
 ∀ (pins:List (Addr × Obj)) (s:Shared) (σ:St) (H:Hp) (x:V) (v:Value) (Q:VK),Inv X pins σ H s→bK x v→r x H Q →
  wpAny (model X.prog X.w) X.A (f v) (EP X pins σ Q) X.xe s
def gA (X:Cx) (f:Value) (r:List V→Hp→VK→Prop):Prop :=
 ∀ (pins:List (Addr × Obj)) (s:Shared) (σ:St) (H:Hp) (xs:List V) (us:List Value) (Q:VK),Inv X pins σ H s→bG xs us→r xs H Q →
  wpAny (model X.prog X.w) X.A (call f us) (EP X pins σ Q) X.xe s
def al9 (X:Cx) (r:V→Hp→(Bool→Hp→Prop)→Prop):Prop :=
 ∀ (pins:List (Addr × Obj)) (s:Shared) (σ:St) (H:Hp) (x:V) (v:Value) (Q:Bool→Hp→Prop),Inv X pins σ H s→bK x v→r x H Q →
  wpAny (model X.prog X.w) X.A (truthy v) (TP X pins σ Q) X.xe s
def tOp (r:R2) (ta tb:TE):TE:=fun σ H Q=>ta σ H fun x H1=>tb σ H1 fun y H2=>r x y H2 Q
def tUn (r:V→Hp→VK→Prop) (ta:TE):TE:=fun σ H Q=>ta σ H fun x H1=>r x H1 Q
def rI (C:Int→Int→Prop) (g:Int→Int→V):R2:=fun x y H Q=>∃ i j,x=.int i∧y=.int j∧C i j∧Q (g i j) H
def rI0 (g:Int→Int→V):R2:=fun x y H Q=>∃ i j,x=.int i∧y=.int j∧Q (g i j) H
def rU (g:Int→V):V→Hp→VK→Prop:=fun x H Q=>∃ i,x=.int i∧Q (g i) H
section
variable {X:Cx} {a b c:Expr} {ta tb tc:TE} {pos:Pos}
theorem alG (ha:PE X a ta) (hb:PE X b tb) {pins:List (Addr × Obj)} {s:Shared} {σ:St} {H:Hp} {R:V→V→Hp→Prop} (I:Inv X pins σ H s)
  (h:ta σ H fun x H1=>tb σ H1 fun y H2=>R x y H2) {Q:Value→Shared→Prop} {f:Value→Value→Sem Value}
  (hf:∀ v u s2 x y H2,Inv X pins σ H2 s2→bK x v→bK y u→R x y H2→wpAny (model X.prog X.w) X.A (f v u) Q X.xe s2) :
  wpAny (model X.prog X.w) X.A (eval a X.env) (fun v s₁=>wpAny (model X.prog X.w) X.A (eval b X.env) (fun u s₂=>wpAny (model X.prog X.w) X.A (f v u) Q X.xe s₂) X.xe s₁) X.xe s:=by
 refine thn (ha pins s σ H _ I h) fun v s1 ⟨x,H1,I1,r1,q1⟩=>?_
 refine thn (hb pins s1 σ H1 _ I1 q1) fun u s2 ⟨y,H2,I2,r2,q2⟩=>?_
 exact hf v u s2 x y H2 I2 r1 r2 q2
theorem ala {op:Operator} {r:R2} (ho:OpR X (binaryOp op) r) (ha:PE X a ta) (hb:PE X b tb):PE X (.BinOp a op b pos) (tOp r ta tb):=by
 intro pins s σ H Q I h
 exact wpAny_BinOp (alG ha hb I h fun v u s2 x y H2 I2 rx ry q=>ho pins s2 σ H2 x y v u Q I2 rx ry q)
theorem alJ {op:UnaryOp} {r:V→Hp→VK→Prop} (ho:UnR X (unaryOp op) r) (ha:PE X a ta):PE X (.UnaryOp op a pos) (tUn r ta):=by
 intro pins s σ H Q I h
 exact UnaryOp_ (thn (ha pins s σ H _ I h) fun v s1 ⟨x,H1,I1,r1,q1⟩=>ho pins s1 σ H1 x v Q I1 r1 q1)
theorem opI {f:Value→Value→Sem Value} {C:Int→Int→Prop} {g:Int→Int→Int}
  (rule:∀ (i j:Int) (t u:Tok) (s:Shared) (Q:Value→Shared→Prop) (E:Value→Shared→Prop),C i j→Q (.int (g i j) s.toks) { s with toks:=s.toks+1 }→wpAny (model X.prog X.w) X.A (f (.int i t) (.int j u)) Q E s) :
  OpR X f (rI C fun i j=>.int (g i j)):=by
 intro pins s σ H x y v u Q I rx ry h
 obtain ⟨i,j,rfl,rfl,hc,q⟩:=h
 obtain ⟨t,rfl⟩:=rx
 obtain ⟨t',rfl⟩:=ry
 exact rule i j t t' s _ _ hc ⟨.int (g i j),H,I.tok _,⟨_,rfl⟩,q⟩
theorem alW {f:Value→Value→Sem Value} {g:Int→Int→Int}
  (rule:∀ (i j:Int) (t u:Tok) (s:Shared) (Q:Value→Shared→Prop) (E:Value→Shared→Prop),Q (.int (g i j) s.toks) { s with toks:=s.toks+1 }→wpAny (model X.prog X.w) X.A (f (.int i t) (.int j u)) Q E s) :
  OpR X f (rI0 fun i j=>.int (g i j)):=by
 intro pins s σ H x y v u Q I rx ry h
 obtain ⟨i,j,rfl,rfl,q⟩:=h
 obtain ⟨t,rfl⟩:=rx
 obtain ⟨t',rfl⟩:=ry
 exact rule i j t t' s _ _ ⟨.int (g i j),H,I.tok _,⟨_,rfl⟩,q⟩
theorem wM {f:Value→Value→Sem Value} {g:Int→Int→Bool}
  (rule:∀ (i j:Int) (t u:Tok) (s:Shared) (Q:Value→Shared→Prop) (E:Value→Shared→Prop),Q (.bool (g i j)) s→wpAny (model X.prog X.w) X.A (f (.int i t) (.int j u)) Q E s) :
  OpR X f (rI0 fun i j=>.bl (g i j)):=by
 intro pins s σ H x y v u Q I rx ry h
 obtain ⟨i,j,rfl,rfl,q⟩:=h
 obtain ⟨t,rfl⟩:=rx
 obtain ⟨t',rfl⟩:=ry
 exact rule i j t t' s _ _ ⟨.bl (g i j),H,I,rfl,q⟩
def wN (i j:Int):Prop:=0≤j∧j≤1000000∧i.natAbs < 2 ^ 64
def ali (i j:Int):Prop:=(-(2 ^ 64) < i∧i < 2 ^ 64)∨(-(2 ^ 64) < j∧j < 2 ^ 64)
theorem ali.ok {i j:Int} (h:ali i j):IntMulOk i j:=by
 rcases h with ⟨h1,h2⟩ | ⟨h1,h2⟩
 ·exact .of_left (intBits_le_64 h1 h2)
 ·exact .of_right (intBits_le_64 h1 h2)
theorem akx:OpR X (binaryOp .Add) (rI0 fun i j=>.int (i+j)):=alW fun _ _ _ _ _ _ _ q=>add_int q
theorem fZ:OpR X (binaryOp .Sub) (rI0 fun i j=>.int (i - j)):=alW fun _ _ _ _ _ _ _ q=>sub_int q
theorem kO:OpR X (binaryOp .Mod) (rI (fun _ j=>j≠0) fun i j=>.int (i.fmod j)):=opI fun _ _ _ _ _ _ _ hc q=>mod_int' hc q
theorem iO:OpR X (binaryOp .Pow) (rI wN fun i j=>.int (i ^ j.toNat)):=opI fun _ _ _ _ _ _ _ hc q=>pow_int_small hc.1 hc.2.1 hc.2.2 q
theorem unI {f:Value→Sem Value} {g:Int→Int}
  (rule:∀ (i:Int) (t:Tok) (s:Shared) (Q:Value→Shared→Prop) (E:Value→Shared→Prop),Q (.int (g i) s.toks) { s with toks:=s.toks+1 }→wpAny (model X.prog X.w) X.A (f (.int i t)) Q E s) :
  UnR X f (rU fun i=>.int (g i)):=by
 intro pins s σ H x v Q I rx h
 obtain ⟨i,rfl,q⟩:=h
 obtain ⟨t,rfl⟩:=rx
 exact rule i t s _ _ ⟨.int (g i),H,I.tok _,⟨_,rfl⟩,q⟩
theorem eE:UnR X (unaryOp .USub) (rU fun i=>.int (-i)):=unI fun _ _ _ _ _ q=>neg_int q
end
section
variable {X:Cx} {a b c:Expr} {ta tb tc:TE} {pos:Pos}
theorem ajE {pins:List (Addr × Obj)} {σ:St} {H:Hp} {s:Shared} {Q:VK} {k k':Bool} (I:Inv X pins σ H s) (q:Q (.bl k) H) (e:k=k'):EP X pins σ Q (.bool k') s:=by
 subst e
 exact ⟨.bl k,H,I,rfl,q⟩
theorem pN:OpR X (compareOp .Lt) (rI0 fun i j=>.bl (decide (i < j))):=wM fun _ _ _ _ _ _ _ q=>lt_int q
theorem aiR:OpR X (compareOp .LtE) (rI0 fun i j=>.bl (decide (i≤j))):=wM fun _ _ _ _ _ _ _ q=>le_int q
theorem ah1:OpR X (compareOp .Gt) (rI0 fun i j=>.bl (decide (j < i))):=wM fun _ _ _ _ _ _ _ q=>gt_int q
theorem vP:OpR X (compareOp .GtE) (rI0 fun i j=>.bl (decide (j≤i))):=wM fun _ _ _ _ _ _ _ q=>ge_int q
theorem afO:OpR X (compareOp .In) (fun x y H Q=>∃ i j,x=.str i∧y=.str j∧Q (.bl (!(Builtin.Str.occurrences j i 0 j.length 1).isEmpty)) H):=by
 intro pins s σ H x y v u Q I rx ry h
 obtain ⟨i,j,rfl,rfl,q⟩:=h
 obtain ⟨t,rfl⟩:=rx
 obtain ⟨t',rfl⟩:=ry
 exact in_str (ajE I q rfl)
theorem OpR.or {f:Value→Value→Sem Value} {r r':R2} (h:OpR X f r) (h':OpR X f r'):OpR X f (fun x y H Q=>r x y H Q∨r' x y H Q):=by
 intro pins s σ H x y v u Q I rx ry q
 rcases q with q | q
 ·exact h pins s σ H x y v u Q I rx ry q
 ·exact h' pins s σ H x y v u Q I rx ry q
theorem bT (b:Expr) {op:CmpOp} (h:op≠.In:=by decide) (h2:op≠.NotIn:=by decide):behindInMarks op b=false:=by
 have e1:(op == CmpOp.In)=false:=by cases op <;> first | rfl | exact absurd rfl h
 have e2:(op == CmpOp.NotIn)=false:=by cases op <;> first | rfl | exact absurd rfl h2
 cases b <;> simp [behindInMarks,e1,e2]
theorem aiU {op:CmpOp} {r:R2} (ho:OpR X (compareOp op) r) (ha:PE X a ta) (hb:PE X b tb) (hm:behindInMarks op b=false):PE X (.Compare a [op] [b] pos) (tOp r ta tb):=by
 intro pins s σ H Q I h
 exact wpAny_Compare1 (alG ha hb I h fun v u s2 x y H2 I2 rx ry q=>ho pins s2 σ H2 x y v u Q I2 rx ry q) hm
def alD (t:TE):TT:=fun σ H Q=>t σ H fun x H'=>∃ k,x=.bl k∧Q k H'
theorem ah5 {op:CmpOp} {r:R2} (ho:OpR X (compareOp op) r) (ha:PE X a ta) (hb:PE X b tb) (hm:behindInMarks op b=false):PT X (.Compare a [op] [b] pos) (alD (tOp r ta tb)):=by
 intro pins s σ H Q I h
 refine wpAny_isTrue_Compare1 (thn (ha pins s σ H _ I h) fun v s1 ⟨x,H1,I1,r1,q1⟩=>thn (hb pins s1 σ H1 _ I1 q1) fun u s2 ⟨y,H2,I2,r2,q2⟩ =>
  thn (ho pins s2 σ H2 x y v u _ I2 r1 r2 q2) fun c s3 ⟨z,H3,I3,r3,k,e,q3⟩=>?_) hm
 subst e
 cases r3
 exact wpAny_truthy_bool ⟨H3,I3,q3⟩
def ai9 (r r':R2) (ta tb tc:TE):TE:=fun σ H Q=>ta σ H fun x H1=>tb σ H1 fun y H2=>r x y H2 fun z H3=>∃ k,z=.bl k ∧
 (if k=true then tc σ H3 fun w' H4=>r' y w' H4 Q else Q (.bl false) H3)
theorem af7 {op op':CmpOp} {r r':R2} (ho:OpR X (compareOp op) r) (ho':OpR X (compareOp op') r') (ha:PE X a ta) (hb:PE X b tb) (hc:PE X c tc)
  (hm:lastMarks [op,op'] [b,c]=false:=by with_unfolding_all rfl):PE X (.Compare a [op,op'] [b,c] pos) (ai9 r r' ta tb tc):=by
 intro pins s σ H Q I h
 refine Compare_chain (thn (ha pins s σ H _ I h) fun v s1 ⟨x,H1,I1,r1,q1⟩=>chain_link (thn (hb pins s1 σ H1 _ I1 q1) fun u s2 ⟨y,H2,I2,r2,q2⟩ =>
  thn (ho pins s2 σ H2 x y v u _ I2 r1 r2 q2) fun d s3 ⟨z,H3,I3,r3,k,e,q3⟩=>?_)) hm
 subst e
 cases r3
 refine wpAny_truthy_bool ?_
 cases k with
 | false=>exact ite_ff ⟨.bl false,H3,I3,rfl,q3⟩
 | true=>exact ite_tt (chain_last (thn (hc pins s3 σ H3 _ I3 q3) fun w' s4 ⟨z',H4,I4,r4,q4⟩=>ho' pins s4 σ H4 y z' u w' Q I4 r2 r4 q4))
def alX (K:PySem.W.Frag) (x:V) (H:Hp) (k:Bool):Prop :=
 match x with
 | .non=>k=false
 | .bl b=>k=b
 | .int i=>k=(i != 0)
 | .str y=>y.length≤sizeLine∧k=((y.length:Int) != 0)
 | .byt y=>y.size≤sizeLine∧k=((y.size:Int) != 0)
 | .ref p=>(∃ xs,SqL K H p xs∧k=!xs.isEmpty)∨(∃ xs,SqT K H p xs∧k=!xs.isEmpty)∨∃ kvs,H p=some (.dK kvs)∧k=!kvs.isEmpty
 | _=>False
theorem adT {κ:Type} {kvs:List (κ × V)} {vs:List (κ × Value)} (r:KV kvs vs):(!vs.isEmpty)=!kvs.isEmpty:=by
 cases r <;> rfl
theorem abe {xs:List V} {its:List Value} (r:bG xs its):(!its.toArray.isEmpty)=!xs.isEmpty:=by
 cases r <;> simp
theorem nM:(sizeLine:Nat) < 2 ^ 63:=by rw [sizeLine_eq]; decide
theorem aj4:al9 X (fun x H Q=>∃ k,alX X.K x H k∧Q k H):=by
 intro pins s σ H x v Q I rx h
 obtain ⟨k,e,q⟩:=h
 have hl:=nM
 have hs:sizeLine=16777216:=sizeLine_eq
 cases x with
 | non =>
  cases rx
  have e':k=false:=e
  subst e'
  exact truthy_none ⟨H,I,q⟩
 | bl b =>
  cases rx
  have e':k=b:=e
  subst e'
  exact wpAny_truthy_bool ⟨H,I,q⟩
 | int i =>
  obtain ⟨t,rfl⟩:=rx
  have e':k=(i != 0):=e
  subst e'
  exact PySem.P.truthy_int ⟨H,I,q⟩
 | str y =>
  obtain ⟨t,rfl⟩:=rx
  obtain ⟨hy,e'⟩:y.length≤sizeLine∧k=((y.length:Int) != 0):=e
  subst e'
  exact PySem.P.truthy_str (by omega) ⟨H,I.tok _,q⟩
 | byt y =>
  obtain ⟨t,rfl⟩:=rx
  obtain ⟨hy,e'⟩:y.size≤sizeLine∧k=((y.size:Int) != 0):=e
  subst e'
  exact PySem.W.truthy_bytes (by omega) ⟨H,I.tok _,q⟩
 | ref p =>
  cases rx
  have e':(∃ xs,SqL X.K H p xs∧k=!xs.isEmpty)∨(∃ xs,SqT X.K H p xs∧k=!xs.isEmpty)∨∃ kvs,H p=some (.dK kvs)∧k=!kvs.isEmpty:=e
  rcases e' with ⟨xs,hx,e'⟩ | ⟨xs,hx,e'⟩ | ⟨kvs,hx,e'⟩
  ·subst e'
   obtain ⟨its,r,pl,hz⟩:=I.list hx
   have hlen:=r.length
   exact wpAny_truthy_list pl.isList (by simp only [List.size_toArray]; omega) ⟨H,I.tok _,by rw [abe r]; exact q⟩
  ·subst e'
   obtain ⟨its,r,pl,hz⟩:=I.tuple hx
   have hlen:=r.length
   exact truthy_tuple pl (by simp only [List.size_toArray]; omega) ⟨H,I.tok _,by rw [abe r]; exact q⟩
  ·subst e'
   obtain ⟨hz,hS,vs,r,m⟩:kvs.length≤sizeLine∧(p == sysModules)=false∧∃ vs,KV kvs vs∧s.heap.DictOf (acI X.prog X.w) p vs:=I.hok p _ hx
   have hlen:kvs.length=vs.length:=Paired.length r
   exact wpAny_truthy_dict hS m (by omega) ⟨H,I.tok _,by rw [adT r]; exact q⟩
 | _=>exact (show False from e).elim
theorem agF (ha:PE X a ta) (he:∀ whole,isTrue a X.env whole=(do let v ← whole; standAt a.pos; holding [v] (truthy v))) :
  PT X a (fun σ H Q=>ta σ H fun x H'=>∃ k,alX X.K x H' k∧Q k H'):=by
 intro pins s σ H Q I h
 exact isTrue_plain (thn (ha pins s σ H _ I h) fun v s1 ⟨x,H1,I1,r1,q1⟩=>aj4 pins s1 σ H1 x v Q I1 r1 q1) (he _)
theorem iA:OpR X (binaryOp .Add) (fun x y H Q=>∃ i j,x=.str i∧y=.str j∧i.length+j.length≤sizeLine∧Q (.str (i++j)) H):=by
 intro pins s σ H x y v u Q I rx ry h
 obtain ⟨i,j,rfl,rfl,hz,q⟩:=h
 obtain ⟨t,rfl⟩:=rx
 obtain ⟨t',rfl⟩:=ry
 exact add_str (fun t' tk=>⟨.str (i++j),H,I.tok _,⟨_,rfl⟩,q⟩) hz
theorem gZ {x:V} {us:List Value} (r:bG [x] us):∃ u,us=[u]∧bK x u:=by
 cases r with
 | cons r1 r2=>cases r2; exact ⟨_,rfl,r1⟩
theorem ahE {x y:V} {us:List Value} (r:bG [x,y] us):∃ u w',us=[u,w']∧bK x u∧bK y w':=by
 cases r with
 | cons r1 r2 =>
  cases r2 with
  | cons r3 r4=>cases r4; exact ⟨_,_,rfl,r1,r3⟩
theorem oQ:gA X (.builtin "abs") (fun xs H Q=>∃ i,xs=[.int i]∧Q (.int (if i < 0 then -i else i)) H):=by
 intro pins s σ H xs us Q I r h
 obtain ⟨i,rfl,q⟩:=h
 obtain ⟨u,rfl,t,rfl⟩:=gZ r
 exact call_abs_int fun u tk=>⟨.int (if i < 0 then -i else i),H,I.tok _,⟨_,rfl⟩,q⟩
theorem ael (hc:X.calm=true):gA X (.builtin "min") (fun xs H Q=>∃ i j,xs=[.int i,.int j]∧Q (.int (if j < i then j else i)) H):=by
 intro pins s σ H xs us Q I r h
 obtain ⟨i,j,rfl,q⟩:=h
 obtain ⟨u,w',rfl,⟨t,rfl⟩,⟨t',rfl⟩⟩:=ahE r
 refine min_two_ints (I.ok.hd hc) fun h' tk k=>⟨_,H,I.kept k,?_,q⟩
 by_cases hj:j < i
 ·rw [if_pos hj,if_pos hj]; exact ⟨_,rfl⟩
 ·rw [if_neg hj,if_neg hj]; exact ⟨_,rfl⟩
theorem tD:gA X (.type "str") (fun xs H Q=>∃ i,xs=[.int i]∧i.natAbs.log2 < 1920∧Q (.str (toString i)) H):=by
 intro pins s σ H xs us Q I r h
 obtain ⟨i,rfl,hz,q⟩:=h
 obtain ⟨u,rfl,t,rfl⟩:=gZ r
 exact PySem.P.str_of_int hz ⟨.str _,H,I.tok _,⟨_,rfl⟩,q⟩
end
end L2
namespace L2
open PySem PySem.Spec PyProof.Rows
structure alA (h:Heap) (x dx C:Addr) (mA:Str→Option Value):Prop where
 obj:h.get? x=some (PySem.W.instObj C dx)
 ns:h.Ns1 dx mA
 ne:dx≠x
theorem aeo {h:Heap} {dx:Addr} {mA:Str→Option Value} (n:h.Ns1 dx mA):∃ od,h.get? dx=some od∧∀ name,PySem.W.lookIn name od=some (mA name):=by
 obtain ⟨o,es,ep,ho,hd,hk,_,hm⟩:=n
 refine ⟨o,ho,fun name=>?_⟩
 have e:=hm name
 unfold nsFind findBy at e
 rw [← Array.find?_toList] at e
 unfold PySem.W.lookIn
 rw [hd]
 dsimp only
 split
 ·rename_i y q
  rw [q] at e
  exact congrArg some e
 ·rename_i q
  rw [q] at e
  have a:es.toList.any (·.refKey)=false:=by
   rw [List.any_eq_false]
   intro y hy
   obtain ⟨z,t,hkey⟩:=hk y (Array.mem_toList_iff.mp hy)
   simp [DictEntry.refKey,hkey]
  have a':¬ es.toList.any (·.refKey)=true:=by rw [a]; exact Bool.false_ne_true
  rw [if_neg a']
  exact congrArg some e
theorem alA.look {h:Heap} {x dx C:Addr} {mA:Str→Option Value} (I:alA h x dx C mA):∃ od,PySem.W.InstAt h x (PySem.W.instObj C dx) C (some od)∧∀ name,PySem.W.lookIn name od=some (mA name) :=
 let ⟨od,ho,hl⟩:=aeo I.ns
 ⟨od,⟨I.obj,rfl,rfl,ho⟩,hl⟩
section
variable {prog:Program} {w:World} {A:Around} {E:Value→Shared→Prop} {s:Shared} {K:PySem.W.Frag} {x dx C f:Addr} {mA:Str→Option Value} {name:Str} {v:Value}
end
section
variable {P:Program} {w:World} {H H':Hp} {h h':Heap} {a C dx:Addr} {fs fs':List (Str × V)}
theorem ahB (hok:HOk P w H h) (e:H a=some (.ins C dx fs)):∃ mA,alA h a dx C mA∧(∀ f,ak8 (fs.lookup f) (mA f))∧PySem.Within mA (fs.map (·.1))∧fs.length≤1000∧H dx=some (.own a):=by
 obtain ⟨d,z,ne,ob,mA,n,r,q⟩:=(show eU P w H h a (.ins C dx fs) from hok a _ e)
 exact ⟨mA,⟨ob,n,ne⟩,r,q,z,d⟩
end
structure Cls (K:PySem.W.Frag) (C:Addr):Prop where
 pg:PySem.W.plainGet K C Str.empty=true
 hd:PySem.W.hasDictIn K C=true
 po:PySem.W.plainOver K C=true
 sa:PySem.W.findIn K (.ref C) "__setattr__"=some (some (.builtin "object.__setattr__"))
theorem Cls.get {K:PySem.W.Frag} {C:Addr} (c:Cls K C) (f:Str):PySem.W.plainGet K C f=true:=c.pg
section
variable {X:Cx} {pins:List (Addr × Obj)} {σ:St} {H:Hp} {s:Shared} {a C dx:Addr} {fs:List (Str × V)} {f:Str} {v:V} {A:Around} {E:Value→Shared→Prop}
end
section
variable {X:Cx} {o e value:Expr} {f:Str} {pos pos' tpos:Pos} {ta tv:TE}
end
section
variable {X:Cx} {pins:List (Addr × Obj)} {σ:St} {H:Hp} {s:Shared} {A:Around} {E:Value→Shared→Prop} {Q:Value→Shared→Prop} {c:Value} {b:Bool}
inductive iI (K:PySem.W.Frag) (H:Hp):V→Value→Prop where
 | non:iI K H .non (.type "NoneType")
 | bl (x:Bool):iI K H (.bl x) (.type "bool")
 | int (i:Int):iI K H (.int i) (.type "int")
 | str (x:Str):iI K H (.str x) (.type "str")
 | flt (x:UInt64):iI K H (.flt x) (.type "float")
 | lst {a:Addr} {xs:List V} (e:H a=some (.lst xs)):iI K H (.ref a) (.type "list")
 | frz {a:Addr} {o:Obj} {xs:List V} (e:H a=some (.frz o (.lst xs))):iI K H (.ref a) (.type "list")
 | tup {a:Addr} {xs:List V} (e:H a=some (.tup xs)):iI K H (.ref a) (.type "tuple")
 | dK {a:Addr} {kvs:List (Key × V)} (e:H a=some (.dK kvs)):iI K H (.ref a) (.type "dict")
 | dT {a:Addr} {kvs:List (List Key × V)} (e:H a=some (.dT kvs)):iI K H (.ref a) (.type "dict")
 | ins {a C dx:Addr} {fs:List (Str × V)} (e:H a=some (.ins C dx fs)) (cl:Cls K C) (ha:PySem.W.findIn K (.ref C) "__class__"=some (some (.builtin "object.__class__")))
   (hn:PySem.W.specialIn K (.builtin "object.__class__") "__get__"=some (some (.builtin "getset_descriptor.__get__"))) (htk:PySem.W.takesIn K (.builtin "object.__class__")=some true)
   (hm:PySem.W.mroIn K C (.type "object")=some true):iI K H (.ref a) (.ref C)
theorem aeR {x:V} {u t:Value} (I:Inv X pins σ H s) (rx:bK x u) (ty:iI X.K H x t) (e:PySem.W.kitOne X.K t c=some b) (h:∀ tk,Q (.bool b) { s with toks:=tk }) :
  wpAny (model X.prog X.w) A (call (.builtin "isinstance") [u,c]) Q E s:=by
 cases ty with
 | non=>cases (show u=Value.none from rx); exact PySem.W.kia_one PySem.W.kitx_none I.kIn True.intro e (fun z=>nomatch z) h
 | bl y=>cases (show u=Value.bool y from rx); exact PySem.W.kia_one PySem.W.kitx_bool I.kIn True.intro e (fun z=>nomatch z) h
 | int i=>obtain ⟨t,q⟩:=(show ∃ t,u=Value.int i t from rx); cases q; exact PySem.W.kia_one PySem.W.kitx_int I.kIn True.intro e (fun z=>nomatch z) h
 | str y=>obtain ⟨t,q⟩:=(show ∃ t,u=Value.str y t from rx); cases q; exact PySem.W.kia_one PySem.W.kitx_str I.kIn True.intro e (fun z=>nomatch z) h
 | flt y=>obtain ⟨t,q⟩:=(show ∃ t,u=Value.float y t from rx); cases q; exact PySem.W.kia_one PySem.W.kitx_float I.kIn True.intro e (fun z=>nomatch z) h
 | @lst a xs ea =>
  cases (show u=Value.ref a from rx)
  obtain ⟨_,_,n,_,h1⟩:=(show eU X.prog X.w H s.heap a (.lst xs) from I.hok a _ ea)
  exact PySem.W.kia_one PySem.W.kitx_list I.kIn ⟨_,h1,rfl⟩ e (fun z=>nomatch z) h
 | @frz a ob xs ea =>
  cases (show u=Value.ref a from rx)
  obtain ⟨_,_,_,n,_,h1⟩:=(show eU X.prog X.w H s.heap a (.frz ob (.lst xs)) from I.hok a _ ea)
  exact PySem.W.kia_one PySem.W.kitx_list I.kIn ⟨_,h1,rfl⟩ e (fun z=>nomatch z) h
 | @tup a xs ea =>
  cases (show u=Value.ref a from rx)
  obtain ⟨_,_,_,p⟩:=(show eU X.prog X.w H s.heap a (.tup xs) from I.hok a _ ea)
  obtain ⟨o,h1,h2,_⟩:=p
  exact PySem.W.kia_one PySem.W.kitx_tuple I.kIn ⟨o,h1,h2⟩ e (fun z=>nomatch z) h
 | @dK a kvs ea =>
  cases (show u=Value.ref a from rx)
  obtain ⟨_,_,vs,_,p⟩:=(show eU X.prog X.w H s.heap a (.dK kvs) from I.hok a _ ea)
  obtain ⟨o,es,ep,h1,h2,_⟩:=p
  exact PySem.W.kia_one PySem.W.kitx_dict I.kIn ⟨o,h1,h2.1⟩ e (fun z=>nomatch z) h
 | @dT a kvs ea =>
  cases (show u=Value.ref a from rx)
  obtain ⟨_,_,xs,_,o,es,ep,h1,h2,_⟩:=(show eU X.prog X.w H s.heap a (.dT kvs) from I.hok a _ ea)
  exact PySem.W.kia_one PySem.W.kitx_dict I.kIn ⟨o,h1,h2.1⟩ e (fun z=>nomatch z) h
 | @ins a C dx fs ea cl ha hn htk hm =>
  cases (show u=Value.ref a from rx)
  obtain ⟨mA,O,_⟩:=ahB I.hok ea
  obtain ⟨od,J,_⟩:=O.look
  exact PySem.W.kia_one (PySem.W.kitx_own (cl.get _) cl.hd ha hn htk hm) I.kIn J e (fun z=>nomatch z) h
end
end L2
namespace L2
open PySem PySem.Spec PyProof.Rows
structure cZ (k:Nat) (A:Around):Prop where
 hd:A.handled=none
 dp:A.depth+3*k+5 < recursionLimit
 un:A.units+16*k+200 < cLine
theorem cZ.mono {j k:Nat} {A:Around} (r:cZ k A) (h:j≤k):cZ j A:=⟨r.hd,by have:=r.dp; omega,by have:=r.un; omega⟩
theorem cZ.deeper {k:Nat} {A:Around} (r:cZ (k+1) A) (env:Env):cZ k (A.deeper env) :=
 ⟨r.hd,by have:=r.dp; show A.depth+1+3*k+5 < _; omega,by have:=r.un; show A.units+3+16*k+200 < _; omega⟩
theorem cZ.depth {k:Nat} {A:Around} (r:cZ k A):A.depth < recursionLimit:=by have:=r.dp; omega
theorem cZ.units {k:Nat} {A:Around} (r:cZ k A):A.units+64 < cLine:=by have:=r.un; omega
def amm:TA:=fun _ H Q=>Q [] H
def akX (ta:TE) (tr:TA):TA:=fun σ H Q=>ta σ H fun x H1=>tr σ H1 fun xs H2=>Q (x :: xs) H2
section
variable {X:Cx} {e:Expr} {es:List Expr} {te:TE} {t:TA} {pos:Pos}
theorem vA:PA X [] amm:=fun _ _ _ _ H Q I h=>Calls.spliced_nil ⟨[],H,I,.nil,h⟩
theorem oW (ha:PE X e te) (hr:PA X es t) (hs:starEach (e :: es) X.env=(false,eval e X.env) :: starEach es X.env:=by rfl):PA X (e :: es) (akX te t):=by
 intro pos pins s σ H Q I h
 rw [hs]
 show wpAny _ _ (spliced ((false,eval e X.env) :: backTo pos (starEach es X.env))) _ _ s
 refine Calls.spliced_cons (thn (ha pins s σ H _ I h) fun u s1 ⟨x,H1,I1,r1,q1⟩=>?_)
 exact thn (hr pos pins s1 σ H1 _ I1 q1) fun us s2 ⟨xs,H2,I2,r2,q2⟩=>⟨x :: xs,H2,I2,.cons r1 r2,q2⟩
def al5 (t:TA):TE:=fun σ H Q=>t σ H fun xs H1=>xs.length≤sizeLine∧∀ p,H1 p=none→Q (.ref p) (upd H1 p (.tup xs))
def ama (t:TA):TE:=fun σ H Q=>t σ H fun xs H1=>xs.length≤sizeLine∧∀ p,H1 p=none→Q (.ref p) (upd H1 p (.lst xs))
theorem aha {x1} (h:PA X es t):PE X (.Tuple es x1 pos) (al5 t):=by
 intro pins s σ H Q I hq
 refine wpAny_Tuple_spliced (thn (h pos pins s σ H _ I hq) fun us s1 ⟨xs,H1,I1,r,z,q⟩=>⟨by rw [← r.length]; exact z,?_⟩)
 have hf:H1 s1.heap.objs.size=none:=I1.hok.fresh (Nat.le_refl _)
 refine ⟨.ref s1.heap.objs.size,upd H1 s1.heap.objs.size (.tup xs),I1.laid (t':=s1.toks) (fun b u e=>Heap.get?_push_of_some _ e) (Nat.le_refl _) ?_,rfl,q _ hf⟩
 exact ⟨z,us,r,⟨_,Heap.get?_push_size _ rfl,rfl,_,rfl⟩⟩
theorem ahs (h:PA X es t):PE X (.List es pos) (ama t):=by
 intro pins s σ H Q I hq
 refine wpAny_List_spliced (thn (h pos pins s σ H _ I hq) fun us s1 ⟨xs,H1,I1,r,z,q⟩=>⟨by rw [← r.length]; exact z,?_⟩)
 have hf:H1 s1.heap.objs.size=none:=I1.hok.fresh (Nat.le_refl _)
 refine ⟨.ref s1.heap.objs.size,upd H1 s1.heap.objs.size (.lst xs),I1.laid (t':=s1.toks) (fun b u e=>Heap.get?_push_of_some _ e) (Nat.le_refl _) ?_,rfl,q _ hf⟩
 exact ⟨z,us,0,r,Heap.get?_push_size _ rfl⟩
end
abbrev Sp:=List V→Hp→VK→XK→Prop
abbrev CXT:=List Env→Hp→Shared→XK→Value→Shared→Prop
structure wS (P:Program) (w:World) (K:PySem.W.Frag) (mg:Str→Option Value) (base:Heap) (A:Around) (outer:List Env) (s:Shared) (H:Hp):Prop where
 frames:A.frames=some outer
 mod:Mod K mg base
 bs:∀ b o,base.get? b=some o→s.heap.get? b=some o∧H b=none
 bsz:base.objs.size≤s.heap.objs.size
 funs:s.heap.FunFrames base outer
 frf:∀ b∈frs outer,H b=none
 hok:HOk P w H s.heap
 bare:AllBare s.gens
def CE (outer:List Env) (P:Program) (w:World) (H:Hp) (s:Shared) (Q:VK) (u:Value) (s':Shared):Prop :=
 ∃ v H',s'.os=s.os∧AllBare s'.gens∧Un (frs outer) [] H H' s.heap s'.heap∧HOk P w H' s'.heap∧bK v u∧Q v H'
def CR (CX:CXT) (outer:List Env) (P:Program) (w:World) (H:Hp) (s:Shared) (Q:VK) (E:XK) (r:Result) (s':Shared):Prop :=
 match r with
 | .ok (.ret u)=>CE outer P w H s Q u s'
 | .ok _=>False
 | .error e=>CX outer H s E e s'
structure bF (P:Program) (w:World) (K:PySem.W.Frag) (mg:Str→Option Value) (base:Heap) (CX:CXT) (k:Nat) (f:Addr) (fd:FuncData) (ps:List Str) (sp:Sp):Prop where
 len:∀ vs H Q E,sp vs H Q E→vs.length=ps.length
 run:∀ (A:Around) (outer:List Env) (s:Shared) (H:Hp) (args:Args) (us:List Value) (vs:List V) (Q:VK) (E:XK),cZ k A→wS P w K mg base A outer s H→BindsTo s fd args (ps.zip us)→bG vs us→sp vs H Q E →
  codeAny (model P w) A (.call (.ref f) args) (CR CX outer P w H s Q E) s
theorem bF.imp {P:Program} {w:World} {K:PySem.W.Frag} {mg:Str→Option Value} {base:Heap} {CX:CXT} {k:Nat} {f:Addr} {fd:FuncData} {ps:List Str} {sp sp':Sp} (F:bF P w K mg base CX k f fd ps sp)
  (h:∀ vs H Q E,sp' vs H Q E→sp vs H Q E):bF P w K mg base CX k f fd ps sp' :=
 ⟨fun vs H Q E q=>F.len vs H Q E (h _ _ _ _ q),fun A outer s H args us vs Q E hr he hb hv hs=>F.run A outer s H args us vs Q E hr he hb hv (h _ _ _ _ hs)⟩
section
variable {X:Cx} {pins:List (Addr × Obj)} {σ:St} {H:Hp} {s s':Shared}
theorem Inv.env0 (I:Inv X pins σ H s):wS X.prog X.w X.K X.mg X.base X.A X.stack s H :=
 ⟨I.ok.frames,I.ok.mod,I.bs,Nat.le_trans I.ok.bsz I.sz,I.stack,I.stkFree,I.hok,I.bare⟩
theorem Inv.after {Q:VK} {u:Value} (I:Inv X pins σ H s) (h:CE X.stack X.prog X.w H s Q u s'):EP X pins σ Q u s':=by
 obtain ⟨v,H',os,bare,un,hok,r,q⟩:=h
 obtain ⟨hh,g,d,t,os'⟩:=s'
 obtain rfl:os'=s.os:=os
 exact ⟨v,H',I.call (h':=hh) (g':=g) (d':=d) (t':=t) (ch:=[]) un hok bare (fun b z=>absurd z (by simp)),r,q⟩
end
def alx (sp:Sp) (dvs:List V) (E:XK) (t:TA):TE:=fun σ H Q=>t σ H fun vs H1=>sp (vs++dvs) H1 Q E
def eY (K:PySem.W.Frag) (fd:FuncData) (ps:List Str) (ds:List Value):Prop :=
 ∀ (s:Shared) (us:List Value),K.In s.heap→(us++ds).length=ps.length→BindsTo s fd ⟨us,[]⟩ (ps.zip (us++ds))
theorem eY.all {K:PySem.W.Frag} {fd:FuncData} {ps:List Str} (h:∀ us:List Value,us.length=ps.length→bindArgs fd ⟨us,[]⟩=pure (ps.zip us)):eY K fd ps []:=fun s us _ hl=>by
 rw [List.append_nil] at hl ⊢
 exact .of_eq (h us hl)
def iP (CX:CXT) (X:Cx) (E:XK):Prop:=∀ (pins:List (Addr × Obj)) (σ:St) (H:Hp) (s:Shared) (e:Value) (s':Shared),Inv X pins σ H s→CX X.stack H s E e s'→X.xe e s'
section
variable {X:Cx} {CX:CXT} {k:Nat} {f C:Addr} {fd:FuncData} {ps:List Str} {sp:Sp} {dvs:List V} {ds:List Value} {E:XK} {x m:Str} {p pos apos:Pos} {e o:Expr} {es:List Expr} {ta:TE} {t:TA}
theorem ajM {pins:List (Addr × Obj)} {σ:St} {H:Hp} {s:Shared} {Q:VK} {us:List Value} {vs:List V} (F:bF X.prog X.w X.K X.mg X.base CX k f fd ps sp) (hr:cZ k X.A) (hb:eY X.K fd ps ds) (hd:bG dvs ds) (hx:iP CX X E)
  (I:Inv X pins σ H s) (r:bG vs us) (h:sp (vs++dvs) H Q E):wpAny (model X.prog X.w) X.A (call (.ref f) us) (EP X pins σ Q) X.xe s:=by
 have r2:bG (vs++dvs) (us++ds):=r.append hd
 have hl:(us++ds).length=ps.length:=by rw [← r2.length]; exact F.len _ _ _ _ h
 refine wpAny_call (codeAny_mono (F.run X.A X.stack s H ⟨us,[]⟩ (us++ds) (vs++dvs) Q E hr I.env0 (hb s us I.kIn hl) r2 h) fun r s' hq=>?_)
 cases r with
 | error e=>exact hx pins σ H s e s' I hq
 | ok fl =>
  cases fl with
  | ret u=>exact I.after hq
  | next=>exact False.elim hq
  | brk=>exact False.elim hq
  | cont=>exact False.elim hq
theorem rD (F:bF X.prog X.w X.K X.mg X.base CX k f fd ps sp) (hr:cZ k X.A) (hg:Gl X x) (hm:X.mg x=some (.ref f)) (hk:PySem.W.keepIn X.K (.ref f)=true) (hb:eY X.K fd ps ds) (hd:bG dvs ds) (hx:iP CX X E)
  (ha:PA X (e :: es) t) (hdb:(x == ("__debug__":Str))=false:=by decide) (he:starEach (e :: es) X.env=(false,eval e X.env) :: starEach es X.env:=by rfl) (hpl:(backTo pos (starEach es X.env)).any (·.1)=false:=by rfl) :
  PE X (.Call (.Name x p) (e :: es) [] pos) (alx sp dvs E t):=by
 intro pins s σ H Q I h
 refine wpAny_Call_Name_kw (rE I hg hm ?_ hdb)
 refine PySem.W.callWith_K (h₀:=X.base) I.ok.mod.kin hk (thn (ha pos pins s σ H _ I h) fun us s1 ⟨vs,H1,I1,r,q⟩=>⟨I1.kIn,?_⟩) he hpl
 exact ajM F hr hb hd hx I1 r q
end
section
variable {X:Cx} {CX:CXT} {k:Nat} {f C:Addr} {fd:FuncData} {ps ks:List Str} {sp:Sp} {E:XK} {x m:Str} {p pos apos kpos:Pos} {e o:Expr} {es:List Expr} {kws:List Keyword} {te ta:TE} {t tk:TA} {nm:Option Str}
variable {g:List Value→List Value→List Value} {gV:List V→List V→List V}
end
structure bL (N P:List Str) (sc:Scope):Prop where
 kind:sc.kind=.function
 co:sc.isCoroutine=false
 gen:sc.isGenerator=false
 nd:N.Nodup
 pre:N.take P.length=P
 par:∀ x∈P,sc.names.lookup x=some .local∨sc.names.lookup x=some .cell
 nofree:∀ y∈sc.names,y.2≠.free
theorem ab6 {kindOf:Str→Option NameKind} {x:Str}:∀ {binds:List (Str × Value)} {m:Str→Option Value},(∀ v,(x,v) ∉ binds)→bindL kindOf binds m x=m x
 | [],_,_=>rfl
 | (n,v) :: r,m,h=>by
  unfold bindL
  rw [ab6 fun w hw=>h w (List.mem_cons_of_mem _ hw)]
  split
  ·have:x≠n:=by rintro rfl; exact h v List.mem_cons_self
   simp [this]
  ·rfl
theorem aci {kindOf:Str→Option NameKind} {x:Str}:∀ {binds:List (Str × Value)} {m:Str→Option Value},(∀ v,(x,v) ∉ binds)→bindC kindOf binds m x=m x
 | [],_,_=>rfl
 | (n,v) :: r,m,h=>by
  unfold bindC
  rw [aci fun w hw=>h w (List.mem_cons_of_mem _ hw)]
  split
  ·rfl
  ·have:x≠n:=by rintro rfl; exact h v List.mem_cons_self
   simp [this]
theorem acq {kindOf:Str→Option NameKind} {x:Str} {v:Value}:∀ {P:List Str} {vs:List Value} {i:Nat} {m:Str→Option Value},P.Nodup→P[i]?=some x→vs[i]?=some v→kindOf x=some .local →
  bindL kindOf (P.zip vs) m x=some v
 | [],_,_,_,_,h,_,_=>by simp at h
 | _ :: _,[],_,_,_,_,h,_=>by simp at h
 | p :: P,w :: vs,0,m,nd,h1,h2,hk=>by
  simp at h1 h2; subst h1; subst h2
  show bindL kindOf ((p,w) :: P.zip vs) m p=_
  unfold bindL
  rw [ab6 fun v hv=>(List.nodup_cons.mp nd).1 (List.of_mem_zip hv).1,if_pos hk]
  simp
 | p :: P,w :: vs,i+1,m,nd,h1,h2,hk=>by
  show bindL kindOf ((p,w) :: P.zip vs) m x=_
  unfold bindL
  exact acq (i:=i) (List.nodup_cons.mp nd).2 (by simpa using h1) (by simpa using h2) hk
theorem abX {kindOf:Str→Option NameKind} {x:Str} {v:Value}:∀ {P:List Str} {vs:List Value} {i:Nat} {m:Str→Option Value},P.Nodup→P[i]?=some x→vs[i]?=some v→kindOf x≠some .local →
  bindC kindOf (P.zip vs) m x=some v
 | [],_,_,_,_,h,_,_=>by simp at h
 | _ :: _,[],_,_,_,_,h,_=>by simp at h
 | p :: P,w :: vs,0,m,nd,h1,h2,hk=>by
  simp at h1 h2; subst h1; subst h2
  show bindC kindOf ((p,w) :: P.zip vs) m p=_
  unfold bindC
  rw [aci fun v hv=>(List.nodup_cons.mp nd).1 (List.of_mem_zip hv).1,if_neg hk]
  simp
 | p :: P,w :: vs,i+1,m,nd,h1,h2,hk=>by
  show bindC kindOf ((p,w) :: P.zip vs) m x=_
  unfold bindC
  exact abX (i:=i) (List.nodup_cons.mp nd).2 (by simpa using h1) (by simpa using h2) hk
def start (N:List Str) (vs:List V):St:=vs.map some++List.replicate (N.length - vs.length) none
def aS (CX:CXT) (P:Program) (w:World) (K:PySem.W.Frag) (mg:Str→Option Value) (base:Heap) (N:List Str) (qual:Str) (scope:Scope) (f:Addr) (cd:Value) (A:Around) (outer:List Env) (s:Shared) (H:Hp) (E:XK):Cx where
 prog:=P
 w:=w
 K:=K
 mg:=mg
 base:=base
 A:=A.deeper (envOfC qual scope s.heap.objs.size f cd)
 N:=N
 s₀:=s
 H₀:=H
 env:=envOfC qual scope s.heap.objs.size f cd
 outer:=outer
 stack:=envOfC qual scope s.heap.objs.size f cd :: outer
 ex:=[]
 calm:=true
 fn:=fun _=>true
 pn:=[]
 xe:=fun e s'=>wpAny (model P w) (A.deeper (envOfC qual scope s.heap.objs.size f cd)) (leaving (envOfC qual scope s.heap.objs.size f cd) e) (fun _ s''=>CX outer H s E e s'') (fun e' s''=>CX outer H s E e' s'') s'
theorem adn {sc:Scope} {n:Nat} {x:Str} (h:sc.names.lookup x=some .cell):∃ c,(cellsFrom n sc.names []).lookup x=some c:=by
 have q:=PySem.W.cellsFrom_some sc.names n [] (.inl h)
 exact Option.isSome_iff_exists.mp q
theorem aeU {CX:CXT} {P:Program} {w:World} {K:PySem.W.Frag} {mg:Str→Option Value} {base:Heap} {N ps:List Str} {qual:Str} {scope:Scope} {f:Addr} {cd:Value} {A:Around} {outer:List Env} {s s1:Shared} {H:Hp} {E:XK} {us:List Value} {vs:List V}
  (S:bL N ps scope) (hd:A.handled=none) (e0:wS P w K mg base A outer s H) (hl:vs.length=ps.length) (r:bG vs us)
  (x:InCallC s s.heap.objs.size (bindL (envOfC qual scope s.heap.objs.size f cd).kindOf (ps.zip us) fun _=>none) (cellsFrom (s.heap.objs.size+1) scope.names []) (bindC (envOfC qual scope s.heap.objs.size f cd).kindOf (ps.zip us) fun _=>none) s1) :
  Inv (aS CX P w K mg base N qual scope f cd A outer s H E) [] (start N vs) H s1:=by
 have hpl:ps.length≤N.length:=by have:=congrArg List.length S.pre; rw [List.length_take] at this; omega
 obtain ⟨h1,tk,rfl,hk⟩:=x.done
 have noA:∀ b:Addr,b ∉ (aS CX P w K mg base N qual scope f cd A outer s H E).ex:=fun b z=>absurd (show b∈([]:List Addr) from z) (by simp)
 refine ⟨⟨e0.mod,S.kind,rfl,rfl,Nat.le_refl _,fun y z c h1 h2=>?_,fun y hy=>?_,fun y c _ h=>?_,fun _=>hd,Around.frames_deeper e0.frames,.inr ⟨rfl,rfl⟩,fun b z=>absurd z (noA b),e0.bs,e0.bsz,fun b _ _=>noA b,fun b z=>absurd z (noA b),e0.funs,e0.frf⟩,
  rfl,e0.bare,Un.kept hk,⟨_,x.toInCall.ns,fun i y v h1 h2 h3=>?_⟩,fun y c h=>⟨_,x.cell y c h⟩,e0.hok.fresh (Nat.le_refl _),fun y c h=>?_,fun p hp=>absurd (show p∈([]:List (Addr × Obj)) from hp) (by simp),e0.hok.kept hk,?_⟩
 ·exact name_of_addr x.apart (PySem.mem_of_lookup h1) (PySem.mem_of_lookup h2)
 ·have hy:scope.names.lookup y=some .cell∨scope.names.lookup y=some .free:=hy
  rcases hy with hy | hy
  ·exact adn hy
  ·exact absurd rfl (S.nofree _ (PySem.mem_of_lookup hy))
 ·exact Nat.le_of_lt (x.above y c (PySem.mem_of_lookup h))
 ·have hi:i < vs.length:=by
   unfold start at h2
   by_cases hi:i < vs.length
   ·exact hi
   ·rw [List.getElem?_append_right (by simpa using hi)] at h2
    rw [List.getElem?_replicate] at h2
    split at h2 <;> cases h2
  have ha:vs[i]?=some v:=by
   unfold start at h2
   rw [List.getElem?_append_left (by simpa using hi),List.getElem?_map] at h2
   cases e:vs[i]? with
   | none=>rw [e] at h2; cases h2
   | some a=>rw [e] at h2; cases h2; rfl
  obtain ⟨u,hu,rv⟩:=r.get ha
  have hp:ps[i]?=some y:=by
   rw [← S.pre,List.getElem?_take_of_lt (by omega)]; exact h1
  have ndP:ps.Nodup:=by rw [← S.pre]; exact S.nd.sublist (List.take_sublist _ _)
  refine ⟨u,rv,?_⟩
  rcases S.par y (List.mem_of_getElem? hp) with k | k
  ·exact .inl ⟨k,acq ndP hp hu k⟩
  ·obtain ⟨c,e⟩:=adn (n:=s.heap.objs.size+1) k
   refine .inr ⟨.inl k,c,e,?_⟩
   have q:=x.cell y c e
   rw [abX ndP hp hu (by show scope.names.lookup y≠_; rw [k]; decide)] at q
   exact q
 ·exact e0.hok.fresh (Nat.le_of_lt (x.above y c (PySem.mem_of_lookup h)))
 ·unfold start
  show _=N.length
  rw [List.length_append,List.length_map,List.length_replicate]
  omega
theorem aim {CX:CXT} {P:Program} {w:World} {K:PySem.W.Frag} {mg:Str→Option Value} {base:Heap} {k:Nat} {f:Addr} {name qual:Str} {params:Arguments} {body:List Stmt} {scope:Scope} {dV kV doc pm cdv ct oc:Value} {an od:Option Addr}
  {osl:Array (Option Value)} {N ps:List Str} {sp:Sp} (lk:K.lookup f=some ⟨oc,od,.func (PySem.W.fnOf name qual params body scope dV kV doc pm an cdv ct),osl⟩) (hcd:PySem.W.codeIn K cdv qual=true) (S:bL N ps scope)
  (len:∀ vs H Q E,sp vs H Q E→vs.length=ps.length)
  (hbody:∀ (A:Around) (outer:List Env) (s:Shared) (H:Hp) (vs:List V) (Q:VK) (E:XK),cZ k (A.deeper (envOfC qual scope s.heap.objs.size f cdv))→sp vs H Q E →
   ∃ t,PSs (aS CX P w K mg base N qual scope f cdv A outer s H E) body t∧t { nx:=fun _ H'=>Q .non H',rt:=Q } (start N vs) H) :
  bF P w K mg base CX (k+1) f (PySem.W.fnOf name qual params body scope dV kV doc pm an cdv ct) ps sp:=by
 refine ⟨len,fun A outer s H args us vs Q E hr e0 hb r hsp=>?_⟩
 have hl:=len _ _ _ _ hsp
 have KX:K.In s.heap:=e0.mod.kin.keeps fun b o e=>(e0.bs b o e).1
 have lim:s.heap.NoLimit:=e0.mod.nolimit.keeps fun b o e=>(e0.bs b o e).1
 have hkind:∀ y∈ps.zip us,scope.names.lookup y.1=some .local∨(scope.names.lookup y.1=some .cell∧((cellsFrom (s.heap.objs.size+1) scope.names []).lookup y.1).isSome=true):=fun ⟨n,v⟩ hy=>by
  rcases S.par n (List.of_mem_zip hy).1 with q | q
  ·exact .inl q
  ·exact .inr ⟨q,PySem.W.cellsFrom_some _ _ _ (.inl q)⟩
 refine codeAny_call_function hr.depth (KX _ _ lk) rfl S.co S.gen rfl (PySem.W.codeRec_of KX hcd) (hb _ _ _ _ ?_)
 refine wpAny_newFunctionEnv_cells S.kind hkind fun env he s1 x=>?_
 subst he
 refine ⟨lim.keeps x.toInCall.keep,codeAny_func ?_⟩
 obtain ⟨t,ht,hq⟩:=hbody A outer s H vs Q E (hr.deeper _) hsp
 have I:Inv (aS CX P w K mg base N qual scope f cdv A outer s H E) [] (start N vs) H s1:=aeU S hr.hd e0 hl r x
 refine wpAny_mono (ht [] s1 (start N vs) H _ I hq) (fun fl s' hs=>?_) fun e s' hs=>hs
 have fin:∀ {σ':St} {H':Hp} {v:V} {u:Value},Inv (aS CX P w K mg base N qual scope f cdv A outer s H E) [] σ' H' s'→bK v u→Q v H'→CE outer P w H s Q u s' :=
  fun {σ' H' v u} J rv q=>⟨v,H',J.os,J.bare,J.base,J.hok,rv,q⟩
 cases fl with
 | ret u =>
  obtain ⟨v,σ',H',J,rv,q⟩:=hs
  exact fin J rv q
 | next =>
  obtain ⟨σ',H',J,q⟩:=hs
  exact fin (v:=V.non) (u:=Value.none) J rfl q
 | brk =>
  obtain ⟨_,_,_,q⟩:=hs
  exact False.elim q
 | cont =>
  obtain ⟨_,_,_,q⟩:=hs
  exact False.elim q
end L2
namespace L2
open PySem PySem.Spec PyProof.Rows
section
variable {X:Cx} {x:Str} {p pos:Pos} {e:Expr} {es:List Expr} {t:TA} {id T:String} {r:List V→Hp→VK→Prop}
def tCB (r:List V→Hp→VK→Prop) (t:TA):TE:=fun σ H Q=>t σ H fun vs H1=>r vs H1 Q
theorem adi (hc:gA X (.builtin id) r) (hg:Gl X x) (hm:X.mg x=none) (hv:bootBuiltins x=some (.builtin id)) (ha:PA X (e :: es) t) (hn:x≠"__name__":=by decide) (hdb:(x == ("__debug__":Str))=false:=by decide)
  (he:starEach (e :: es) X.env=(false,eval e X.env) :: starEach es X.env:=by rfl) (hpl:(backTo pos (starEach es X.env)).any (·.1)=false:=by rfl):PE X (.Call (.Name x p) (e :: es) [] pos) (tCB r t):=by
 intro pins s σ H Q I h
 refine wpAny_Call_Name_kw (pA I hg hm hv ?_ hn hdb)
 exact PyProof.Rows.callWith_builtin1 (thn (ha pos pins s σ H _ I h) fun us s1 ⟨vs,H1,I1,r1,q1⟩=>hc pins s1 σ H1 vs us Q I1 r1 q1) he hpl
theorem afi (hc:gA X (.type T) r) (hg:Gl X x) (hm:X.mg x=none) (hv:bootBuiltins x=some (.type T)) (ha:PA X (e :: es) t) (hn:x≠"__name__":=by decide) (hdb:(x == ("__debug__":Str))=false:=by decide)
  (he:starEach (e :: es) X.env=(false,eval e X.env) :: starEach es X.env:=by rfl) (hpl:(backTo pos (starEach es X.env)).any (·.1)=false:=by rfl):PE X (.Call (.Name x p) (e :: es) [] pos) (tCB r t):=by
 intro pins s σ H Q I h
 refine wpAny_Call_Name_kw (pA I hg hm hv ?_ hn hdb)
 exact PyProof.Rows.callWith_type1 (thn (ha pos pins s σ H _ I h) fun us s1 ⟨vs,H1,I1,r1,q1⟩=>hc pins s1 σ H1 vs us Q I1 r1 q1) he hpl
end
end L2
namespace HT
open PySem PyProof.Rows
def lexLt:List Int→List Int→Bool
 | [],[]=>false
 | [],_ :: _=>true
 | _ :: _,[]=>false
 | x :: xs,y :: ys=>if x=y then lexLt xs ys else decide (x < y)
theorem lexLt_cons (x y:Int) (xs ys:List Int):lexLt (x :: xs) (y :: ys)=if x=y then lexLt xs ys else decide (x < y):=rfl
section
open PySem.SeqAt
open PySem.AutoSeq1 (wpAny_loadPart')
open PySem.MeetsSeq PySem.MeetsSeq2 PySem.MeetsSeq3
end
section
variable {prog:Program} {w:World} {A:Around} {E:Value→Shared→Prop} {s:Shared}
theorem cat_tup {t b:Addr} {vs ws:List Value} {Q:Value→Shared→Prop} (ht:IsTup s.heap t vs.toArray) (hb:IsTup s.heap b ws.toArray) (hv:vs≠[])
  (h1:ws=[]→Q (.ref t) s) (h2:ws≠[]→Q (.ref s.heap.objs.size) { s with heap:=s.heap.push { cls:=.type "tuple",data:=.seq (vs++ws).toArray } })
  (hsz:vs.length+ws.length≤sizeLine):wpAny (model prog w) A (binaryOp .Add (.ref t) (.ref b)) Q E s:=by
 obtain ⟨⟨cls,dd,data,sl⟩,ho,hc,n,hd⟩:=id ht
 obtain ⟨⟨cls2,dd2,data2,sl2⟩,ho2,hc2,n2,hd2⟩:=id hb
 simp only at hc hd hc2 hd2
 subst hc hd hc2 hd2
 have e:vs.toArray++ws.toArray=(vs++ws).toArray:=by simp
 by_cases hw:ws=[]
 ·exact concat_meets ⟨_,ho,rfl⟩ ⟨_,ho2,rfl⟩ noFill_tuple_add seq_tuple_add PySem.F.slot_tuple_add PySem.F.entry_tuple_add (PySem.F.args_tuple_add_2 _ _)
   (tuple_addW1 t b vs.toArray ws.toArray n n2 dd dd2 sl sl2 (by simpa using hv) (by simp [hw])) ⟨ho,ho2,h1 hw⟩
 ·refine concat_meets ⟨_,ho,rfl⟩ ⟨_,ho2,rfl⟩ noFill_tuple_add seq_tuple_add PySem.F.slot_tuple_add PySem.F.entry_tuple_add (PySem.F.args_tuple_add_2 _ _)
   (tuple_addW2 t b vs.toArray ws.toArray n n2 dd dd2 sl sl2 (by simpa using hv) (by simpa using hw) (by rw [List.size_toArray,List.size_toArray]; exact hsz)) ⟨ho,ho2,?_⟩
  rw [e]
  exact h2 hw
def sIx (n d:Nat):Option Int→Nat
 | none=>d
 | some v=>if v < 0 then (v+(n:Int)).toNat else min v.toNat n
theorem sIx_nat (n d k:Nat):sIx n d (some (k:Int))=min k n:=by
 show (if (k:Int) < 0 then ((k:Int)+(n:Int)).toNat else min (k:Int).toNat n)=min k n
 rw [if_neg (by omega),Int.toNat_natCast]
theorem ajd (n d:Nat) (hd:d≤n) (o:Option Int):sIx n d o≤n:=by
 cases o with
 | none=>exact hd
 | some v =>
  show (if v < 0 then (v+(n:Int)).toNat else min v.toNat n)≤n
  by_cases hv:v < 0
  ·rw [if_pos hv]; omega
  ·rw [if_neg hv]; exact Nat.min_le_right _ _
theorem ae5 (v:Int) (n d:Nat):(if v < 0 then max (v+(n:Int)) 0 else min v (n:Int))=((sIx n d (some v):Nat):Int):=by
 show (if v < 0 then max (v+(n:Int)) 0 else min v (n:Int))=(((if v < 0 then (v+(n:Int)).toNat else min v.toNat n):Nat):Int)
 by_cases hv:v < 0
 ·simp only [if_pos hv]; omega
 ·simp only [if_neg hv]; omega
theorem adF (lo hi:Option Int) (n:Nat):Builtin.Slice.sliceAdjust lo hi 1 (n:Int)=(((sIx n 0 lo:Nat):Int),((sIx n n hi:Nat):Int)):=by
 have h1:¬ ((1:Int) < 0):=by omega
 unfold Builtin.Slice.sliceAdjust
 simp only [h1,if_false]
 refine Prod.ext ?_ ?_
 ·cases lo with
  | none=>rfl
  | some v=>exact ae5 v n 0
 ·cases hi with
  | none=>rfl
  | some v=>exact ae5 v n n
theorem adS (i j:Nat):Builtin.Slice.slicePlaces (i:Int) (j:Int) 1=j - i:=by
 unfold Builtin.Slice.slicePlaces
 have h1:(1:Int) > 0:=by omega
 simp only [h1,if_true,Int.ediv_one]
 split <;> omega
theorem abj {v:Value} {o:Option Int} {Q:Option Int→Shared→Prop} (p:IsPart v o) (h:Q o s):wpAny (model prog w) A (Builtin.Slice.slicePartIndex v) Q E s:=by
 cases p with
 | none=>exact slicePart_none h
 | int i t=>exact slicePart_int h
theorem aaG {sl:Addr} {vl vu:Value} {lo hi:Option Int} {n:Nat} {Q:Int × Int × Nat→Shared→Prop} (hs:s.heap.IsSliceOf sl vl vu .none) (pl:IsPart vl lo) (pu:IsPart vu hi)
  (h:Q (((sIx n 0 lo:Nat):Int),1,sIx n n hi - sIx n 0 lo) s):wpAny (model prog w) A (Builtin.Slice.sliceApplied (.ref sl) (pure (n:Int))) Q E s:=by
 obtain ⟨os,hos,hcs,hds⟩:=id hs
 unfold Builtin.Slice.sliceApplied Builtin.Slice.sliceFields
 refine wpAny_bind (wpAny_bind (wpAny_field hos hds (x:=vl) rfl (wpAny_bind (wpAny_field hos hds (x:=vu) rfl (wpAny_bind (wpAny_field hos hds (x:=.none) rfl (wpAny_pure ?_)))))))
 refine wpAny_bind (slicePart_none ?_)
 show wpAny _ _ (if ((1:Int) == 0)=true then _ else _) _ _ s
 rw [if_neg (by decide)]
 refine wpAny_bind (abj pl (wpAny_bind (abj pu (wpAny_bind (wpAny_pure ?_)))))
 show wpAny _ _ (match Builtin.Slice.sliceAdjust lo hi 1 (n:Int) with | (lo,hi)=>pure (lo,(1:Int),Builtin.Slice.slicePlaces lo hi 1)) _ _ s
 rw [adF lo hi n]
 show wpAny _ _ (pure (((sIx n 0 lo:Nat):Int),(1:Int),Builtin.Slice.slicePlaces ((sIx n 0 lo:Nat):Int) ((sIx n n hi:Nat):Int) 1)) _ _ s
 rw [adS]
 exact wpAny_pure h
theorem agQ (xs:Array Value) (i k:Nat):((List.range k).filterMap fun (m:Nat)=>xs[((i:Int)+(m:Int)*1).toNat]?).toArray=((xs.toList.drop i).take k).toArray:=by
 have e:(fun (m:Nat)=>xs[((i:Int)+(m:Int)*1).toNat]?)=fun m=>xs[i+m]?:=by
  funext m
  have:((i:Int)+(m:Int)*1).toNat=i+m:=by omega
  rw [this]
 rw [e]
 have:=pick_run xs i k
 rw [List.filterMap_map] at this
 have e2:((fun x=>xs[x]?) ∘ fun x=>i+x)=fun m=>xs[i+m]?:=rfl
 rw [e2] at this
 rw [this]
theorem getItem_tuple_cut {t sl:Addr} {items:Array Value} {vl vu:Value} {lo hi:Option Int} {Q:Value→Shared→Prop} (ht:IsTup s.heap t items) (hs:s.heap.IsSliceOf sl vl vu .none) (pl:IsPart vl lo) (pu:IsPart vu hi)
  (hw:¬ (sIx items.size 0 lo=0∧sIx items.size items.size hi=items.size))
  (h:Q (.ref s.heap.objs.size) { s with heap:=s.heap.push { cls:=.type "tuple",data:=.seq ((items.toList.drop (sIx items.size 0 lo)).take (sIx items.size items.size hi - sIx items.size 0 lo)).toArray } })
  (hsz:items.size≤sizeLine):wpAny (model prog w) A (getItem (.ref t) (.ref sl)) Q E s:=by
 have htake:sizeOk (.seq ((items.toList.drop (sIx items.size 0 lo)).take (sIx items.size items.size hi - sIx items.size 0 lo)).toArray):=by
  show ((items.toList.drop (sIx items.size 0 lo)).take (sIx items.size items.size hi - sIx items.size 0 lo)).toArray.size≤sizeLine
  rw [List.size_toArray,List.length_take,List.length_drop,Array.length_toList]
  omega
 have hj:sIx items.size items.size hi≤items.size:=ajd _ _ (Nat.le_refl _) hi
 obtain ⟨os,hos,hcs,hds⟩:=id hs
 have hTs:s.TypeIs (.ref sl) "slice":=⟨os,hos,hcs⟩
 unfold getItem
 try with_reducible refine wpAny_holding ?_
 first | refine wpAny_bind (wpAny_pure ?_) | skip
 refine wpAny_bind (wpAny_sequenceKey ht.typeIs (by decide) ?_)
 refine wpAny_bind (wpAny_callSpecial?_slot (name:=Str.ofString "__getitem__") ht.typeIs PyProof.Rows.slot_tuple_getitem
  (wpAny_call_entry PyProof.Rows.slot_tuple_getitem ht.typeIs entry_tuple_getitem ?_ (args_tuple_getitem _ _)))
 show wpAny _ _ (Builtin.Tuple.tupleItemsOf (.ref t) >>= _) _ _ s
 refine wpAny_bind (tupleItemsOf_ ht ?_)
 refine wpAny_bind (wpAny_typeOf hTs ?_)
 rw [if_pos (by decide)]
 refine wpAny_bind (aaG hs pl pu ?_)
 have hno:¬ ((((sIx items.size 0 lo:Nat):Int) == 0 && (1:Int) == 1 && (sIx items.size items.size hi - sIx items.size 0 lo) == items.size)=true):=by
  intro q
  rw [Bool.and_eq_true,Bool.and_eq_true] at q
  have q1:((sIx items.size 0 lo:Nat):Int)=0:=eq_of_beq q.1.1
  have q2:sIx items.size items.size hi - sIx items.size 0 lo=items.size:=eq_of_beq q.2
  exact hw ⟨by omega,by omega⟩
 show wpAny _ _ (if (((sIx items.size 0 lo:Nat):Int) == 0 && (1:Int) == 1 && (sIx items.size items.size hi - sIx items.size 0 lo) == items.size)=true then _ else _) _ _ s
 rw [if_neg hno,agQ]
 first
  | exact wpAny_bind (m:=Builtin.Tuple.tupleExact _) (wpAny_newObj_type (wpAny_pure ⟨_,rfl,wpAny_pure h⟩) htake)
  | exact wpAny_bind (m:=Builtin.Tuple.tupleExact _) (wpAny_newObj_type (wpAny_bind (wpAny_pure (wpAny_pure ⟨_,rfl,wpAny_pure h⟩))) htake)
  | exact wpAny_bind (wpAny_bind (m:=Builtin.Tuple.tupleExact _) (wpAny_newObj_type (wpAny_pure (wpAny_pure ⟨_,rfl,wpAny_pure h⟩)) htake))
  | exact wpAny_bind (wpAny_bind (m:=Builtin.Tuple.tupleExact _) (wpAny_newObj_type (wpAny_pure ⟨_,rfl,wpAny_pure h⟩) htake))
end
end HT
namespace L2
open PySem PySem.Spec PyProof.Rows
abbrev TO:=St→Hp→(Option Int→Hp→Prop)→Prop
def PO (X:Cx) (e:Option Expr) (t:TO):Prop :=
 ∀ (pins:List (Addr × Obj)) (s:Shared) (σ:St) (H:Hp) (Q:Option Int→Hp→Prop),Inv X pins σ H s→t σ H Q →
  wpAny (model X.prog X.w) X.A (evalPart e X.env) (fun u s'=>∃ o H',Inv X pins σ H' s'∧IsPart u o∧Q o H') X.xe s
def ah0:TO:=fun _ H Q=>Q none H
def alv (t:TE):TO:=fun σ H Q=>t σ H fun x H1=>∃ i,x=.int i∧Q (some i) H1
section
variable {X:Cx} {e:Expr} {te:TE} {lo hi:Option Expr} {tl th:TO} {pos p2:Pos}
theorem ahG:PO X none ah0:=by
 intro pins s σ H Q I h
 rw [evalPart_none]
 exact wpAny_pure ⟨none,H,I,.none,h⟩
theorem aif (h:PE X e te):PO X (some e) (alv te):=by
 intro pins s σ H Q I hw
 rw [evalPart_some]
 refine thn (h pins s σ H _ I hw) fun u s1 ⟨x,H1,I1,r1,q1⟩=>?_
 obtain ⟨i,rfl,q⟩:=q1
 obtain ⟨t,rfl⟩:=r1
 exact ⟨some i,H1,I1,.int i t,q⟩
def SlR (X:Cx) (r:V→Option Int→Option Int→Hp→VK→Prop):Prop :=
 ∀ (pins:List (Addr × Obj)) (s:Shared) (σ:St) (H:Hp) (x:V) (v vl vu:Value) (lo hi:Option Int) (sl:Addr) (Q:VK),Inv X pins σ H s→bK x v→s.heap.IsSliceOf sl vl vu .none→IsPart vl lo→IsPart vu hi→r x lo hi H Q →
  ∃ T id,typeLookup (.type T) "__getitem__"=pure (some (.builtin id))∧s.TypeIs v T∧wpAny (model X.prog X.w) X.A (getItem v (.ref sl)) (EP X pins σ Q) X.xe s
theorem SlR.or {r r':V→Option Int→Option Int→Hp→VK→Prop} (h:SlR X r) (h':SlR X r'):SlR X (fun x lo hi H Q=>r x lo hi H Q∨r' x lo hi H Q):=by
 intro pins s σ H x v vl vu lo hi sl Q I rx hs pl pu q
 rcases q with q | q
 ·exact h pins s σ H x v vl vu lo hi sl Q I rx hs pl pu q
 ·exact h' pins s σ H x v vl vu lo hi sl Q I rx hs pl pu q
def tSl (r:V→Option Int→Option Int→Hp→VK→Prop) (te:TE) (tl th:TO):TE:=fun σ H Q=>te σ H fun x H1=>tl σ H1 fun l H2=>th σ H2 fun u H3=>r x l u H3 Q
theorem adD {r:V→Option Int→Option Int→Hp→VK→Prop} (hr:SlR X r) (he:PE X e te) (hl:PO X lo tl) (hu:PO X hi th):PE X (.Subscript e (.Slice lo hi none p2) pos) (tSl r te tl th):=by
 intro pins s σ H Q I h
 refine Subscript_ (thn (he pins s σ H _ I h) fun v s1 ⟨x,H1,I1,r1,q1⟩=>?_)
 refine wpAny_Slice (thn (hl pins s1 σ H1 _ I1 q1) fun vl s2 ⟨l,H2,I2,pl,q2⟩=>thn (hu pins s2 σ H2 _ I2 q2) fun vu s3 ⟨u,H3,I3,pu,q3⟩=>?_)
 rw [evalPart_none]
 refine wpAny_pure ?_
 have I4:Inv X pins σ H3 { s3 with heap:=s3.heap.push { cls:=.type "slice",data:=.fields #[vl,vu,.none] } }:=I3.kept (t':=s3.toks) fun b ob q=>Heap.get?_push_of_some _ q
 obtain ⟨T,id,hT,ht,hg⟩:=hr pins { s3 with heap:=s3.heap.push { cls:=.type "slice",data:=.fields #[vl,vu,.none] } } σ H3 x v vl vu l u s3.heap.objs.size Q I4 r1 (Heap.IsSliceOf.new ..) pl pu q3
 show wpAny (model X.prog X.w) X.A (subscriptTail e (.Slice lo hi none p2) v (.ref s3.heap.objs.size)) (EP X pins σ Q) X.xe { s3 with heap:=s3.heap.push { cls:=.type "slice",data:=.fields #[vl,vu,.none] } }
 exact tail_any (ops:=[.ref s3.heap.objs.size,v]) ht hT hg (by with_unfolding_all rfl)
def mG (xs:List V) (lo hi:Option Int):List V:=(xs.drop (HT.sIx xs.length 0 lo)).take (HT.sIx xs.length xs.length hi - HT.sIx xs.length 0 lo)
theorem tG (xs:List V) (lo hi:Option Int):(mG xs lo hi).length≤xs.length:=by
 unfold mG
 rw [List.length_take,List.length_drop]
 omega
def amu (K:PySem.W.Frag):V→Option Int→Option Int→Hp→VK→Prop:=fun x lo hi H Q=>∃ a xs,x=.ref a∧SqT K H a xs ∧
 ¬ (HT.sIx xs.length 0 lo=0∧HT.sIx xs.length xs.length hi=xs.length)∧∀ p,H p=none→Q (.ref p) (upd H p (.tup (mG xs lo hi)))
theorem ai3:SlR X (amu X.K):=by
 intro pins s σ H x v vl vu lo hi sl Q I rx hs pl pu h
 obtain ⟨a,xs,rfl,hx,hw,q⟩:=h
 cases rx
 obtain ⟨its,r,ht,hz⟩:=I.tuple hx
 have hlen:its.toArray.size=xs.length:=by rw [List.size_toArray]; exact r.length.symm
 refine ⟨"tuple",_,PyProof.Rows.slot_tuple_getitem.lookup,ht.typeIs,?_⟩
 refine HT.getItem_tuple_cut ht hs pl pu (by rw [hlen]; exact hw) ?_ (by rw [hlen]; exact hz)
 rw [hlen]
 refine ⟨.ref s.heap.objs.size,_,I.laid (t':=s.toks) (o:=.tup (mG xs lo hi)) (fun b ob q=>Heap.get?_push_of_some _ q) (Nat.le_refl _) ?_,rfl,q _ (I.hok.fresh (Nat.le_refl _))⟩
 exact ⟨Nat.le_trans (tG xs lo hi) hz,_,(r.drop (HT.sIx xs.length 0 lo)).take (HT.sIx xs.length xs.length hi - HT.sIx xs.length 0 lo),IsTup.new _ _⟩
def aj0 (K:PySem.W.Frag):R2:=fun x y H Q=>∃ a b xs ys,x=.ref a∧y=.ref b∧SqT K H a xs∧SqT K H b ys∧xs≠[]∧xs.length+ys.length≤sizeLine ∧
 (ys=[]→Q (.ref a) H)∧(ys≠[]→∀ p,H p=none→Q (.ref p) (upd H p (.tup (xs++ys))))
theorem bG.nil_iff {xs:List V} {us:List Value} (r:bG xs us):us=[]↔xs=[]:=by
 cases r with
 | nil=>simp
 | cons _ _=>simp
theorem aiw:OpR X (binaryOp .Add) (aj0 X.K):=by
 intro pins s σ H x y v u Q I rx ry h
 obtain ⟨a,b,xs,ys,rfl,rfl,ha,hb,hx,hz,q1,q2⟩:=h
 cases rx
 cases ry
 obtain ⟨its,r1,p1,_⟩:=I.tuple ha
 obtain ⟨its2,r2,p2,_⟩:=I.tuple hb
 refine HT.cat_tup p1 p2 (fun z=>hx (r1.nil_iff.mp z)) (fun z=>⟨.ref a,H,I,rfl,q1 (r2.nil_iff.mp z)⟩) (fun z=>?_) (by rw [← r1.length,← r2.length]; exact hz)
 refine ⟨.ref s.heap.objs.size,_,I.laid (t':=s.toks) (o:=.tup (xs++ys)) (fun b ob q=>Heap.get?_push_of_some _ q) (Nat.le_refl _) ?_,rfl,q2 (fun w=>z (r2.nil_iff.mpr w)) _ (I.hok.fresh (Nat.le_refl _))⟩
 exact ⟨by rw [List.length_append]; exact hz,_,r1.append r2,IsTup.new _ _⟩
end
end L2
namespace L2
open PySem PySem.Spec PyProof.Rows
def ixN (n:Nat) (i:Int):Option Nat:=if 0≤i then (if i < n then some i.toNat else none) else if -(n:Int)≤i then some (i+n).toNat else none
def atI {α:Type} (xs:List α) (i:Int):Option α:=(ixN xs.length i).bind fun j=>xs[j]?
theorem afG {n:Nat} {i:Int} {j:Nat} (h:ixN n i=some j):seqIndex? i n=some j∧j < n∧-(n:Int)≤i∧i < n:=by
 unfold ixN at h
 by_cases h0:0≤i
 ·rw [if_pos h0] at h
  by_cases h1:i < n
  ·rw [if_pos h1] at h
   have e:i.toNat=j:=Option.some.inj h
   exact ⟨by rw [seqIndex_of h0 h1,e],by omega,by omega,h1⟩
  ·rw [if_neg h1] at h; cases h
 ·rw [if_neg h0] at h
  by_cases h1:-(n:Int)≤i
  ·rw [if_pos h1] at h
   have e:(i+n).toNat=j:=Option.some.inj h
   exact ⟨by rw [seqIndex_neg (by omega) h1,e],by omega,h1,by omega⟩
  ·rw [if_neg h1] at h; cases h
theorem acW {α:Type} {xs:List α} {i:Int} {v:α} (h:atI xs i=some v):∃ j,seqIndex? i xs.length=some j∧xs[j]?=some v∧j < xs.length∧-(xs.length:Int)≤i∧i < xs.length:=by
 unfold atI at h
 cases e:ixN xs.length i with
 | none=>rw [e] at h; cases h
 | some j =>
  rw [e] at h
  obtain ⟨h1,h2,h3,h4⟩:=afG e
  exact ⟨j,h1,h,h2,h3,h4⟩
theorem ae0 {α:Type} {xs:List α} {j:Nat} {v:α} (h:xs[j]?=some v):atI xs (j:Int)=some v:=by
 have hj:j < xs.length:=(List.getElem?_eq_some_iff.mp h).1
 have e:ixN xs.length (j:Int)=some j:=by
  unfold ixN
  rw [if_pos (by omega),if_pos (by omega)]; simp
 unfold atI; rw [e]; exact h
theorem af1 {α:Type} (xs:List α) (v:α):atI (xs++[v]) (-1)=some v:=by
 have hl:(xs++[v]).length=xs.length+1:=by simp
 have e:ixN (xs++[v]).length (-1)=some xs.length:=by
  unfold ixN
  rw [hl,if_neg (by decide),if_pos (by omega)]
  congr 1
  omega
 unfold atI
 rw [e]
 show (xs++[v])[xs.length]?=some v
 simp
def aeK (b:Expr):Prop:=∀ o i,subscripted b false o i=operate [o,i] (getItem o i)
def IxR (X:Cx) (r:R2):Prop :=
 ∀ (value slice:Expr) (pins:List (Addr × Obj)) (s:Shared) (σ:St) (H:Hp) (x y:V) (v u:Value) (Q:VK),Inv X pins σ H s→bK x v→bK y u→r x y H Q →
  subscripted slice false v u=operate [v,u] (getItem v u)→wpAny (model X.prog X.w) X.A (subscriptTail value slice v u) (EP X pins σ Q) X.xe s
def MtR (X:Cx) (id:String) (r:V→List V→Hp→VK→Prop):Prop :=
 ∀ (pins:List (Addr × Obj)) (s:Shared) (σ:St) (H:Hp) (x:V) (xs:List V) (v:Value) (us:List Value) (Q:VK),Inv X pins σ H s→bK x v→bG xs us→r x xs H Q →
  wpAny (model X.prog X.w) X.A (call (.builtin id) (v :: us)) (EP X pins σ Q) X.xe s
section
variable {X:Cx} {a b:Expr} {ta tb:TE} {pos:Pos}
theorem IxR.or {r r':R2} (h:IxR X r) (h':IxR X r'):IxR X (fun x y H Q=>r x y H Q∨r' x y H Q):=by
 intro value slice pins s σ H x y v u Q I rx ry q hs
 rcases q with q | q
 ·exact h value slice pins s σ H x y v u Q I rx ry q hs
 ·exact h' value slice pins s σ H x y v u Q I rx ry q hs
theorem alE {r:R2} (hr:IxR X r) (ha:PE X a ta) (hb:PE X b tb) (hs:aeK b):PE X (.Subscript a b pos) (tOp r ta tb):=by
 intro pins s σ H Q I h
 exact Subscript_ (alG ha hb I h fun v u s2 x y H2 I2 rx ry q=>hr a b pins s2 σ H2 x y v u Q I2 rx ry q (hs _ _))
def alO (K:PySem.W.Frag):R2:=fun x y H Q=>∃ p xs i v,x=.ref p∧y=.int i∧SqL K H p xs∧atI xs i=some v∧Q v H
def alK (K:PySem.W.Frag):R2:=fun x y H Q=>∃ p xs i v,x=.ref p∧y=.int i∧SqT K H p xs∧atI xs i=some v∧Q v H
def alR:R2:=fun x y H Q=>∃ z i c,x=.str z∧y=.int i∧z.length≤sizeLine∧atI z.cps.toList i=some c∧Q (.str ⟨#[c]⟩) H
theorem ahP:IxR X (alO X.K):=by
 intro value slice pins s σ H x y v u Q I rx ry h hs
 obtain ⟨p,xs,i,z,rfl,rfl,hq,he,q⟩:=h
 cases rx
 obtain ⟨t,rfl⟩:=ry
 obtain ⟨its,r,pl,hz⟩:=I.list hq
 obtain ⟨j,h1,h2,h3,h4,h5⟩:=acW he
 obtain ⟨w,ew,rw'⟩:=r.get h2
 have hl:=r.length
 have hn:=nM
 have fin:EP X pins σ Q w s:=⟨z,H,I,rw',q⟩
 by_cases h0:0≤i
 ·have hj:i.toNat=j:=by
   rw [seqIndex_of h0 h5] at h1
   exact Option.some.inj h1
  exact item_listR pl.isList h0 (by omega) (by rw [hj]; simpa using ew) fin hs
 ·have hj:(i+(its.toArray.size:Int)).toNat=j:=by
   rw [seqIndex_neg (by omega) h4] at h1
   rw [List.size_toArray,← hl]
   exact Option.some.inj h1
  exact subscriptTail_builtinR (x:=w) pl.isList.typeIs slot_list_getitem.lookup
   (wpAny_getItem_list_neg (Q:=fun r s'=>r=w∧EP X pins σ Q r s') pl.isList (by omega) (by rw [List.size_toArray] <;> omega) (by omega) (by rw [hj]; simpa using ew) ⟨rfl,fin⟩) hs
theorem ajb:IxR X (alK X.K):=by
 intro value slice pins s σ H x y v u Q I rx ry h hs
 obtain ⟨p,xs,i,z,rfl,rfl,hq,he,q⟩:=h
 cases rx
 obtain ⟨t,rfl⟩:=ry
 obtain ⟨its,r,pl,hz⟩:=I.tuple hq
 obtain ⟨j,h1,h2,h3,h4,h5⟩:=acW he
 obtain ⟨w,ew,rw'⟩:=r.get h2
 have hl:=r.length
 have hn:=nM
 have fin:EP X pins σ Q w s:=⟨z,H,I,rw',q⟩
 exact subscriptTail_builtinR (x:=w) pl.typeIs slot_tuple_getitem.lookup
  (getItem_tuple (j:=j) (Q:=fun r s'=>r=w∧EP X pins σ Q r s') pl (by omega) (by omega) (by rw [List.size_toArray,← hl]; exact h1) (by simpa using ew) ⟨rfl,fin⟩) hs
theorem ajn:IxR X alR:=by
 intro value slice pins s σ H x y v u Q I rx ry h hs
 obtain ⟨z,i,c,rfl,rfl,hz,he,q⟩:=h
 obtain ⟨t,rfl⟩:=rx
 obtain ⟨t',rfl⟩:=ry
 obtain ⟨j,h1,h2,h3,h4,h5⟩:=acW he
 have hl:z.cps.toList.length=z.length:=by simp [Str.length]
 rw [hl] at h1 h4 h5
 have hn:=nM
 exact tail_any (typeIs_str s z t) slot_str_getitem.lookup (getItem_str (c:=c) (by
  have e1:decide (i < -(2 ^ 63:Int))=false:=decide_eq_false (by omega)
  have e2:decide (i ≥ 2 ^ 63)=false:=decide_eq_false (by omega)
  rw [e1,e2,Bool.or_false]) (by rw [h1]; simpa using h2) ⟨.str ⟨#[c]⟩,H,I.tok _,⟨_,rfl⟩,q⟩) hs
def rIx (K:PySem.W.Frag):R2:=fun x y H Q=>alO K x y H Q∨alK K x y H Q∨alR x y H Q
theorem aiY:IxR X (rIx X.K):=ahP.or (ajb.or ajn)
theorem ad4 (its:List Value) (n j:Nat) (u:Value):Obj.mapSeq (·.setIfInBounds j u) { cls:=.type "list",data:=.seq its.toArray n }={ cls:=.type "list",data:=.seq (its.set j u).toArray n }:=by
 simp [Obj.mapSeq]
theorem Inv.lst {pins:List (Addr × Obj)} {σ:St} {H:Hp} {s:Shared} {p:Addr} {xs:List V} (I:Inv X pins σ H s) (h:H p=some (.lst xs)) :
  ∃ (its:List Value) (n:Nat),bG xs its∧s.heap.get? p=some { cls:=.type "list",data:=.seq its.toArray n }∧xs.length≤sizeLine:=by
 obtain ⟨z,its,n,r,e⟩:=I.hok p _ h
 exact ⟨its,n,r,e,z⟩
theorem Inv.lstUpd {pins:List (Addr × Obj)} {σ:St} {H:Hp} {s:Shared} {p:Addr} {xs ys:List V} {its its':List Value} {n n':Nat} {f:Obj→Obj} (I:Inv X pins σ H s) (h:H p=some (.lst xs))
  (ho:s.heap.get? p=some { cls:=.type "list",data:=.seq its.toArray n }) (hf:f { cls:=.type "list",data:=.seq its.toArray n }={ cls:=.type "list",data:=.seq its'.toArray n' }) (r:bG ys its') (hz:ys.length≤sizeLine) (t:Nat) :
  Inv X pins σ (upd H p (.lst ys)) { s with heap:=s.heap.update p f,toks:=t }:=by
 have e:(s.heap.update p f).get? p=some { cls:=.type "list",data:=.seq its'.toArray n' }:=by
  rw [Heap.get?_update_self f ho (by rw [hf] <;> rfl),hf]
 refine I.write (x:=p) (e:=p) (by rw [h]; trivial) (.inl rfl) (fun b u hb q=>(Heap.get?_update_other _ _ (Ne.symm hb)).trans q) ⟨_,e⟩ ?_
 exact ⟨hz,its',n',r,e⟩
def akO:V→V→V→Hp→(Hp→Prop)→Prop:=fun o i v H Q=>∃ p xs k j,o=.ref p∧i=.int k∧H p=some (.lst xs)∧ixN xs.length k=some j∧Q (upd H p (.lst (xs.set j v)))
theorem agx:alS X akO:=by
 intro pins s σ H o i v ov iv u Q I ro ri rv h
 obtain ⟨p,xs,k,j,rfl,rfl,hp,hj,q⟩:=h
 cases ro
 obtain ⟨t,rfl⟩:=ri
 obtain ⟨its,n,r,ho,hz⟩:=I.lst hp
 obtain ⟨h1,h2,h3,h4⟩:=afG hj
 have hl:=r.length
 have hn:=nM
 have I':Inv X pins σ (upd H p (.lst (xs.set j v))) { s with heap:=s.heap.update p (Obj.mapSeq (·.setIfInBounds j u)) } :=
  I.lstUpd hp ho (ad4 its n j u) (r.set rv j) (by rw [List.length_set]; exact hz) s.toks
 by_cases h0:0≤k
 ·have hk:k.toNat=j:=by
   rw [seqIndex_of h0 h4] at h1
   exact Option.some.inj h1
  exact PySem.W.ki_setAt ho h0 (by omega) (by rw [List.size_toArray,← hl]; exact h4) (by rw [hk]; exact ⟨_,I',q⟩)
 ·have hk:(k+(its.toArray.size:Int)).toNat=j:=by
   rw [seqIndex_neg (by omega) h3] at h1
   rw [List.size_toArray,← hl]
   exact Option.some.inj h1
  exact PySem.W.ki_setBack ho (by omega) (by rw [List.size_toArray,← hl]; exact h3) (by omega) (by rw [hk]; exact ⟨_,I',q⟩)
theorem ab9 (lo hi:Option Int) (n:Nat):(sliceBounds lo hi none n).1=((HT.sIx n 0 lo:Nat):Int)∧(sliceBounds lo hi none n).2.1=((HT.sIx n n hi:Nat):Int)∧(sliceBounds lo hi none n).2.2=1:=by
 refine ⟨?_,?_,rfl⟩
 ·cases lo with
  | none=>simp [sliceBounds,HT.sIx]
  | some i =>
   simp only [sliceBounds,HT.sIx,Option.getD_none,show (1:Int) > 0 by decide,if_true]
   by_cases h:i < 0
   ·simp only [h,if_true] <;> omega
   ·simp only [h,if_false] <;> omega
 ·cases hi with
  | none=>simp [sliceBounds,HT.sIx]
  | some i =>
   simp only [sliceBounds,HT.sIx,Option.getD_none,show (1:Int) > 0 by decide,if_true]
   by_cases h:i < 0
   ·simp only [h,if_true] <;> omega
   ·simp only [h,if_false] <;> omega
theorem abD (its:List Value) (lo hi:Option Int):slicePick its.toArray lo hi none=((its.drop (HT.sIx its.length 0 lo)).take (HT.sIx its.length its.length hi - HT.sIx its.length 0 lo)).toArray:=by
 obtain ⟨h1,h2,h3⟩:=ab9 lo hi its.toArray.size
 unfold slicePick
 rw [h1,h2,h3]
 simp only [sliceRange_one,pick_run,List.size_toArray] <;> rfl
def ami (K:PySem.W.Frag):V→Option Int→Option Int→Hp→VK→Prop:=fun x lo hi H Q=>∃ a xs,x=.ref a∧SqL K H a xs∧∀ p,H p=none→Q (.ref p) (upd H p (.lst (mG xs lo hi)))
theorem ahI:SlR X (ami X.K):=by
 intro pins s σ H x v vl vu lo hi sl Q I rx hs pl pu h
 obtain ⟨a,xs,rfl,hx,q⟩:=h
 cases rx
 obtain ⟨its,r,ht,hz⟩:=I.list hx
 have hlen:=r.length
 refine ⟨"list",_,slot_list_getitem.lookup,ht.isList.typeIs,?_⟩
 refine wpAny_getItem_list_slice ht.isList hs pl pu .none (by simp) ?_ (by rw [List.size_toArray] <;> omega)
 rw [abD,← hlen]
 refine ⟨.ref s.heap.objs.size,_,I.laid (t':=s.toks) (o:=.lst (mG xs lo hi)) (fun b ob q=>Heap.get?_push_of_some _ q) (Nat.le_refl _) ?_,rfl,q _ (I.hok.fresh (Nat.le_refl _))⟩
 exact ⟨Nat.le_trans (tG xs lo hi) hz,_,0,(r.drop (HT.sIx xs.length 0 lo)).take (HT.sIx xs.length xs.length hi - HT.sIx xs.length 0 lo),Heap.get?_push_size _ rfl⟩
def kU:V→Bool
 | .non=>true
 | .bl _=>true
 | .int _=>true
 | .str _=>true
 | _=>false
def eqV:V→V→Bool
 | .non,.non=>true
 | .bl a,.bl b=>a == b
 | .bl a,.int b=>(if a then 1 else 0) == b
 | .int a,.bl b=>a == (if b then 1 else 0)
 | .int a,.int b=>a == b
 | .str a,.str b=>a == b
 | _,_=>false
theorem ajT {A:Around} {s:Shared} {y x:V} {u v:Value} (ry:bK y u) (rx:bK x v) (fy:kU y=true) (fx:kU x=true):SeqAt.EqAt A s u v (eqV y x):=by
 cases y with
 | non =>
  cases ry
  cases x with
  | non=>cases rx; exact SeqAt.EqAt.same _
  | bl b=>cases rx; exact SeqAt.EqAt.none_bool b
  | int b=>obtain ⟨t,rfl⟩:=rx; exact SeqAt.EqAt.none_int b t
  | str b=>obtain ⟨t,rfl⟩:=rx; exact SeqAt.EqAt.none_str b t
  | _=>exact absurd (show false=true from fx) Bool.false_ne_true
 | bl a =>
  cases ry
  cases x with
  | non=>cases rx; exact SeqAt.EqAt.bool_none a
  | bl b=>cases rx; exact SeqAt.EqAt.bool_bool a b
  | int b=>obtain ⟨t,rfl⟩:=rx; exact SeqAt.EqAt.bool_int a b t
  | str b=>obtain ⟨t,rfl⟩:=rx; exact SeqAt.EqAt.bool_str a b t
  | _=>exact absurd (show false=true from fx) Bool.false_ne_true
 | int a =>
  obtain ⟨t',rfl⟩:=ry
  cases x with
  | non=>cases rx; exact SeqAt.EqAt.int_none a t'
  | bl b=>cases rx; exact SeqAt.EqAt.int_bool a t' b
  | int b=>obtain ⟨t,rfl⟩:=rx; exact SeqAt.EqAt.int_int a t' b t
  | str b=>obtain ⟨t,rfl⟩:=rx; exact SeqAt.EqAt.int_str a t' b t
  | _=>exact absurd (show false=true from fx) Bool.false_ne_true
 | str a =>
  obtain ⟨t',rfl⟩:=ry
  cases x with
  | non=>cases rx; exact SeqAt.EqAt.str_none a t'
  | bl b=>cases rx; exact SeqAt.EqAt.str_bool a t' b
  | int b=>obtain ⟨t,rfl⟩:=rx; exact SeqAt.EqAt.str_int a t' b t
  | str b=>obtain ⟨t,rfl⟩:=rx; exact SeqAt.EqAt.str_str a t' b t
  | _=>exact absurd (show false=true from fx) Bool.false_ne_true
 | _=>exact absurd (show false=true from fy) Bool.false_ne_true
def eqU (x:V) (u:Value):Bool:=match u with
 | .none=>eqV .non x
 | .bool b=>eqV (.bl b) x
 | .int i _=>eqV (.int i) x
 | .str z _=>eqV (.str z) x
 | _=>false
theorem ahp {x y:V} {u:Value} (r:bK y u) (f:kU y=true):eqU x u=eqV y x:=by
 cases y with
 | non=>cases r; rfl
 | bl b=>cases r; rfl
 | int i=>obtain ⟨t,rfl⟩:=r; rfl
 | str z=>obtain ⟨t,rfl⟩:=r; rfl
 | _=>exact absurd (show false=true from f) Bool.false_ne_true
theorem zX {x:V}:∀ {xs:List V} {us:List Value},bG xs us→xs.all kU=true→us.any (eqU x)=xs.any fun y=>eqV y x
 | _,_,.nil,_=>rfl
 | y :: xs,u :: us,.cons r t,f=>by
  rw [List.all_cons,Bool.and_eq_true] at f
  rw [List.any_cons,List.any_cons,ahp r f.1,zX t f.2]
theorem zH {A:Around} {s:Shared} {x:V} {v:Value} (rx:bK x v) (fx:kU x=true):∀ {xs:List V} {us:List Value},bG xs us→xs.all kU=true→∀ u∈us,SeqAt.EqAt A s u v (eqU x u)
 | _,_,.nil,_=>fun u hu=>by cases hu
 | y :: xs,u :: us,.cons r t,f=>fun u' hu=>by
  rw [List.all_cons,Bool.and_eq_true] at f
  rcases List.mem_cons.mp hu with rfl | hu
  ·rw [ahp r f.1]; exact ajT r rx f.1 fx
  ·exact zH rx fx t f.2 u' hu
def inV (x:V) (xs:List V):Bool:=xs.any fun y=>eqV y x
def rIn (K:PySem.W.Frag) (neg:Bool):R2:=fun x y H Q=>∃ p xs,y=.ref p∧(SqL K H p xs∨SqT K H p xs)∧kU x=true∧xs.all kU=true∧Q (.bl (if neg then !inV x xs else inV x xs)) H
theorem acr:OpR X (compareOp .NotIn) (rIn X.K true):=by
 intro pins s σ H x y v u Q I rx ry h
 obtain ⟨p,xs,rfl,hq,fx,fs,q⟩:=h
 cases ry
 rcases hq with hq | hq
 ·obtain ⟨its,r,pl,hz⟩:=I.list hq
  refine SeqAt.notIn_listAt (eqU x) pl.isList (fun w hw=>zH rx fx r fs w (by simpa using hw)) ⟨.bl _,H,I,rfl,?_⟩
  rw [show its.toArray.any (eqU x)=its.any (eqU x) by simp,zX r fs]
  exact q
 ·obtain ⟨its,r,pl,hz⟩:=I.tuple hq
  refine SeqAt.notIn_tupleAt (eqU x) pl (fun w hw=>zH rx fx r fs w (by simpa using hw)) ⟨.bl _,H,I,rfl,?_⟩
  rw [show its.toArray.any (eqU x)=its.any (eqU x) by simp,zX r fs]
  exact q
theorem fF:gA X (.builtin "len") (fun xs H Q=>∃ p ys,xs=[.ref p]∧(SqL X.K H p ys∨SqT X.K H p ys)∧Q (.int ys.length) H):=by
 intro pins s σ H xs us Q I r h
 obtain ⟨p,ys,rfl,hq,q⟩:=h
 obtain ⟨u,rfl,rx⟩:=gZ r
 cases rx
 have hn:=nM
 rcases hq with hq | hq
 ·obtain ⟨its,r',pl,hz⟩:=I.list hq
  have hlen:=r'.length
  exact Calls.call_len_list pl.isList (by simp only [List.size_toArray] <;> omega) ⟨.int ys.length,H,I.tok _,⟨s.toks+1,by rw [List.size_toArray,hlen]⟩,q⟩
 ·obtain ⟨its,r',pl,hz⟩:=I.tuple hq
  have hlen:=r'.length
  exact len_tuple pl (by simp only [List.size_toArray] <;> omega) ⟨.int ys.length,H,I.tok _,⟨s.toks+1,by rw [List.size_toArray,hlen]⟩,q⟩
theorem abV:gA X (.builtin "len") (fun xs H Q=>∃ z,xs=[.str z]∧z.length≤sizeLine∧Q (.int z.length) H):=by
 intro pins s σ H xs us Q I r h
 obtain ⟨z,rfl,hz,q⟩:=h
 obtain ⟨u,rfl,t,rfl⟩:=gZ r
 have hn:=nM
 exact len_str (by omega) ⟨.int z.length,H,I.tok _,⟨_,rfl⟩,q⟩
theorem tF:gA X (.type "list") (fun xs H Q=>∃ p ys,xs=[.ref p]∧(SqL X.K H p ys∨SqT X.K H p ys)∧∀ l,H l=none→Q (.ref l) (upd H l (.lst ys))):=by
 intro pins s σ H xs us Q I r h
 obtain ⟨p,ys,rfl,hq,q⟩:=h
 obtain ⟨u,rfl,rx⟩:=gZ r
 cases rx
 have fin:∀ (its:List Value),bG ys its→ys.length≤sizeLine→∀ (h':Heap) (c':Nat),(∀ b o',s.heap.get? b=some o'→h'.get? b=some o') →
   h'.get? s.heap.objs.size=some { cls:=.type "list",dict:=none,data:=.seq its.toArray c',slots:=#[] }→EP X pins σ Q (.ref s.heap.objs.size) { s with heap:=h' }:=fun its r' hz h' c' kp e =>
  ⟨.ref s.heap.objs.size,_,I.laid (t':=s.toks) kp (Nat.le_refl _) (show eU X.prog X.w _ h' _ (.lst ys) from ⟨hz,its,c',r',e⟩),rfl,q _ (I.hok.fresh (Nat.le_refl _))⟩
 rcases hq with hq | hq
 ·obtain ⟨its,r',pl,hz⟩:=I.list hq
  have hlen:=r'.length
  obtain ⟨o,ho,hc,n,hd⟩:=pl.isList
  exact call_list_seq p (.inl rfl) ho hc hd (fun h' c' kp e=>fin its r' hz h' c' kp e) (by simp only [List.size_toArray] <;> omega)
 ·obtain ⟨its,r',pl,hz⟩:=I.tuple hq
  have hlen:=r'.length
  obtain ⟨o,ho,hc,n,hd⟩:=pl
  exact call_list_seq p (.inr rfl) ho hc hd (fun h' c' kp e=>fin its r' hz h' c' kp e) (by simp only [List.size_toArray] <;> omega)
theorem lC:gA X (.type "tuple") (fun xs H Q=>∃ p ys,xs=[.ref p]∧((SqL X.K H p ys∧∀ l,H l=none→Q (.ref l) (upd H l (.tup ys)))∨(SqT X.K H p ys∧Q (.ref p) H))):=by
 intro pins s σ H xs us Q I r h
 obtain ⟨p,ys,rfl,h⟩:=h
 obtain ⟨u,rfl,rx⟩:=gZ r
 cases rx
 rcases h with ⟨hq,q⟩ | ⟨hq,q⟩
 ·obtain ⟨its,r',pl,hz⟩:=I.list hq
  have hlen:=r'.length
  refine call_tuple_list pl.isList (fun h' kp=>?_) (by simp only [List.size_toArray] <;> omega)
  have I1:Inv X pins σ H { s with heap:=h' }:=I.kept (t':=s.toks) kp
  have I2:Inv X pins σ (upd H h'.objs.size (.tup ys)) { s with heap:=h'.push { cls:=.type "tuple",data:=.seq its.toArray } } :=
   I1.laid (t':=s.toks) (fun b o e=>Heap.get?_push_of_some _ e) (Nat.le_refl _) (show eU X.prog X.w _ _ _ (.tup ys) from ⟨hz,its,r',IsTup.new _ _⟩)
  exact ⟨.ref h'.objs.size,_,I2,rfl,q _ (I1.hok.fresh (Nat.le_refl _))⟩
 ·obtain ⟨its,r',pl,hz⟩:=I.tuple hq
  exact call_tuple_same pl ⟨.ref p,H,I,rfl,q⟩
def tyV (K:PySem.W.Frag) (T:String) (x:V) (H:Hp):Prop:=match x with
 | .str _=>T="str"
 | .int _=>T="int"
 | .ref p=>(T="list"∧∃ xs,SqL K H p xs)∨(T="tuple"∧∃ o,K.lookup p=some o∧o.cls=.type "tuple"∧o.dict=none) ∨
   (T="dict"∧((∃ kvs,H p=some (.dK kvs))∨∃ kvs,H p=some (.dT kvs)))∨(T="set"∧∃ S n,H p=some (.set S n))
 | _=>False
theorem ajf {pins:List (Addr × Obj)} {σ:St} {H:Hp} {s:Shared} {T:String} {x:V} {v:Value} (I:Inv X pins σ H s) (r:bK x v) (ty:tyV X.K T x H) :
  s.TypeIs v T∧∀ a,v=.ref a→∃ ob,s.heap.get? a=some ob∧ob.dict=none:=by
 cases x with
 | str z =>
  obtain ⟨t,rfl⟩:=r
  cases (show T="str" from ty)
  exact ⟨typeIs_str s z t,fun _ e=>nomatch e⟩
 | int i =>
  obtain ⟨t,rfl⟩:=r
  cases (show T="int" from ty)
  exact ⟨typeIs_int s i t,fun _ e=>nomatch e⟩
 | ref p =>
  cases r
  rcases ty with ⟨rfl,xs,hq⟩ | ⟨rfl,o,hk,hc,hd⟩ | ⟨rfl,hk⟩ | ⟨rfl,S,n,hk⟩
  ·obtain ⟨its,_,pl,_⟩:=I.list hq
   refine ⟨pl.isList.typeIs,fun a e=>?_⟩
   cases e
   obtain ⟨o,n,e,c,hd,_⟩:=pl
   exact ⟨o,e,hd⟩
  ·refine ⟨⟨o,I.kIn p o hk,hc⟩,fun a e=>?_⟩
   cases e
   exact ⟨o,I.kIn _ o hk,hd⟩
  ·have z:∃ o,s.heap.get? p=some o∧o.ExactDict:=by
    rcases hk with ⟨kvs,hk⟩ | ⟨kvs,hk⟩
    ·obtain ⟨_,_,_,_,o,_,_,e,ex,_⟩:=I.hok p _ hk
     exact ⟨o,e,ex⟩
    ·obtain ⟨_,_,_,_,o,_,_,e,ex,_⟩:=I.hok p _ hk
     exact ⟨o,e,ex⟩
   obtain ⟨o,e,ex⟩:=z
   refine ⟨⟨o,e,ex.1⟩,fun a e2=>?_⟩
   cases e2
   exact ⟨o,e,ex.2.1⟩
  ·obtain ⟨o,_,_,_,e,ex,_⟩:=I.hok p _ hk
   refine ⟨⟨o,e,ex.1⟩,fun a e2=>?_⟩
   cases e2
   exact ⟨o,e,ex.2.1⟩
 | _=>exact False.elim ty
def tBM (K:PySem.W.Frag) (T:String) (r:V→List V→Hp→VK→Prop) (to:TE) (t:TA):TE:=fun σ H Q=>to σ H fun x H1=>tyV K T x H1∧t σ H1 fun xs H2=>r x xs H2 Q
variable {o e:Expr} {es:List Expr} {to:TE} {t:TA} {name:Str} {apos cpos:Pos} {T id:String} {r:V→List V→Hp→VK→Prop}
theorem vY (pa:PlainAttrs T) (slot:Slot T name id) (hty:typeOf (.builtin id)=pure (.type "method_descriptor")) (hm:MtR X id r) (ho:PE X o to) (ha:PA X (e :: es) t)
  (hbase:attributeBase o name X.env (eval o X.env)=eval o X.env:=by rfl)
  (hfew:((backTo cpos (starEach (e :: es) X.env)).all (fun x=>!x.1) && (backToKw cpos (keywordEach [] X.env)).all (fun x=>x.1.isSome)
   && decide ((e :: es).length+([]:List Keyword).length+(if ([]:List Keyword).isEmpty then 0 else 1) < 30))=true:=by rfl)
  (hline:(apos.endLine == cpos.line)=true:=by rfl) (hs:starEach (e :: es) X.env=(false,eval e X.env) :: starEach es X.env:=by rfl) (hplain:(backTo cpos (starEach es X.env)).any (·.1)=false:=by rfl) :
  PE X (.Call (.Attribute o name apos) (e :: es) [] cpos) (tBM X.K T r to t):=by
 intro pins s σ H Q I h
 refine wpAny_Call_method_late hbase hfew hline rfl (thn (ho pins s σ H _ I h) fun v s1 ⟨x,H1,I1,r1,ty,q1⟩=>?_)
 obtain ⟨h1,h2⟩:=ajf I1 r1 ty
 refine ⟨T,id,pa,slot,hty,h1,h2,?_⟩
 have hA:=ha cpos pins s1 σ H1 _ I1 q1
 rw [hs] at hA ⊢
 refine Calls.callWith_builtin (by show (false || (backTo cpos (starEach es X.env)).any (·.1))=false; rw [hplain] <;> rfl) (Calls.evalArgs_plain ?_)
 exact thn hA fun us s2 ⟨vs,H2,I2,r2,q2⟩=>hm pins s2 σ H2 x vs v us Q I2 r1 r2 q2
end
end L2
namespace L2
open PySem PySem.Spec PyProof.Rows
def MtM (X:Cx) (id:String) (r:V→List V→Hp→VK→Prop):Prop :=
 ∀ (pins:List (Addr × Obj)) (s:Shared) (σ:St) (H:Hp) (x:V) (xs:List V) (v:Value) (us:List Value) (Q:VK),Inv X pins σ H s→bK x v→bG xs us→r x xs H Q →
  wpAny (model X.prog X.w) X.A (call (.builtin id) (v :: us)) (EP X pins σ Q) X.xe s
theorem bG.one:∀ {x:V} {us:List Value},bG [x] us→∃ u,us=[u]∧bK x u
 | _,_,.cons r .nil=>⟨_,rfl,r⟩
theorem bG.eraseIdx:∀ {xs:List V} {us:List Value} (i:Nat),bG xs us→bG (xs.eraseIdx i) (us.eraseIdx i)
 | _,_,_,.nil=>.nil
 | _,_,0,.cons _ t=>t
 | _,_,i+1,.cons r t=>.cons r (bG.eraseIdx i t)
theorem yY {α:Type}:∀ (l:List α) (i:Nat),(l.eraseIdx i).length≤l.length
 | [],_=>Nat.le_refl _
 | _ :: _,0=>Nat.le_succ _
 | _ :: r,i+1=>Nat.succ_le_succ (yY r i)
section
variable {X:Cx} {pins:List (Addr × Obj)} {σ:St} {H:Hp} {s:Shared} {l b:Addr} {xs ys zs:List V}
theorem Inv.lset {its its':List Value} {n:Nat} {f:Array Value→Array Value} {t':Nat} (I:Inv X pins σ H s) (hH:H l=some (.lst xs))
  (e:s.heap.get? l=some { cls:=.type "list",data:=.seq its.toArray n }) (hf:f its.toArray=its'.toArray) (hv:bG ys its') (hz:ys.length≤sizeLine) :
  Inv X pins σ (upd H l (.lst ys)) { s with heap:=s.heap.update l (Obj.mapSeq f),toks:=t' }:=by
 have q:=PySem.IsL.update e f
 rw [hf] at q
 refine I.write (x:=l) (e:=l) (by rw [hH]; exact trivial) (.inl rfl) (fun b' u hb hu=>(Heap.get?_update_other s.heap (Obj.mapSeq f) (Ne.symm hb)).trans hu) ⟨_,q⟩ ?_
 exact ⟨hz,its',_,hv,q⟩
theorem Inv.lnew {its:List Value} {t':Nat} (I:Inv X pins σ H s) (hv:bG ys its) (hz:ys.length≤sizeLine) :
  Inv X pins σ (upd H s.heap.objs.size (.lst ys)) { s with heap:=s.heap.push { cls:=.type "list",data:=.seq its.toArray },toks:=t' } :=
 I.laid (fun _ _ q=>Heap.get?_push_of_some _ q) (Nat.le_refl _) ⟨hz,its,0,hv,Heap.get?_push_size _ rfl⟩
theorem Inv.fresh (I:Inv X pins σ H s):H s.heap.objs.size=none:=I.hok.fresh (Nat.le_refl _)
theorem Inv.lstM (I:Inv X pins σ H s) (hH:H l=some (.lst xs)):xs.length≤sizeLine∧∃ (its:List Value) (n:Nat),bG xs its∧xs.length=its.length∧s.heap.get? l=some { cls:=.type "list",data:=.seq its.toArray n }:=by
 obtain ⟨z,its,n,r,e⟩:=I.hok l _ hH
 exact ⟨z,its,n,r,r.length,e⟩
end
section
variable {X:Cx}
def aiz:V→List V→Hp→VK→Prop:=fun x vs H Q=>∃ l xs y,x=.ref l∧vs=[y]∧H l=some (.lst xs)∧xs.length < sizeLine∧Q .non (upd H l (.lst (xs++[y])))
theorem tV:MtM X "list.append" aiz:=by
 intro pins s σ H x vs v us Q I rx rv h
 obtain ⟨l,xs,y,rfl,rfl,hH,hz,q⟩:=h
 cases rx
 obtain ⟨u,rfl,ru⟩:=rv.one
 obtain ⟨z,its,n,r,hl,e⟩:=I.lstM hH
 refine call_meets F.slot_list_append ⟨_,e,rfl⟩ F.entry_list_append (F.args_list_append_2 _ _) (PySem.list_append l its.toArray n u (by rw [List.size_toArray]; omega)) ⟨e,?_⟩
 refine ⟨.non,_,I.lset (its':=its++[u]) hH e (by simp) (r.append (.cons ru .nil)) ?_,rfl,q⟩
 rw [List.length_append,List.length_singleton]
 omega
def ajq:V→List V→Hp→VK→Prop:=fun x vs H Q=>∃ l xs i k y,x=.ref l∧vs=[.int i]∧H l=some (.lst xs)∧-(2 ^ 63)≤i∧i < 2 ^ 63∧seqIndex? i xs.length=some k∧xs[k]?=some y∧Q y (upd H l (.lst (xs.eraseIdx k)))
theorem af4:MtM X "list.pop" ajq:=by
 intro pins s σ H x vs v us Q I rx rv h
 obtain ⟨l,xs,i,k,y,rfl,rfl,hH,h1,h2,hk,hy,q⟩:=h
 cases rx
 obtain ⟨u,rfl,ru⟩:=rv.one
 obtain ⟨t,rfl⟩:=ru
 obtain ⟨z,its,n,r,hl,e⟩:=I.lstM hH
 obtain ⟨w,hw,rw'⟩:=r.get hy
 refine call_meets F.slot_list_pop ⟨_,e,rfl⟩ F.entry_list_pop (F.args_list_pop_2 _ _)
  (MeetsSeq.list_pop_at l its.toArray n i t k w (fitsIndex_both h1 h2) (by rw [List.size_toArray,← hl]; exact hk) (by rw [← Array.getElem?_toList]; exact hw) (by rw [List.size_toArray]; omega)) ⟨e,?_⟩
 refine ⟨y,_,I.lset (its':=its.eraseIdx k) hH e ?_ (r.eraseIdx k) ?_,rw',q⟩
 ·show its.toArray.eraseIdxIfInBounds k=(its.eraseIdx k).toArray
  rw [List.eraseIdxIfInBounds_toArray]
 ·have:=yY xs k
  omega
end
section
variable {prog:Program} {w:World} {A:Around} {E:Value→Shared→Prop} {s:Shared}
end
section
variable {X:Cx}
end
end L2
namespace Att
open PySem PySem.W PySem.Calls PyProof.Rows
theorem aaP {P:Params} {h:Heap}:∀ (ns:List Int) (vs:List Value),WellAll P h vs (ns.map WData.int)→IntsAre vs ns:=by
 intro ns
 induction ns with
 | nil =>
  intro vs w
  rw [List.map_nil] at w
  cases w
  exact .nil
 | cons n ns ih =>
  intro vs w
  rw [List.map_cons] at w
  cases w with
  | cons a b =>
   cases a
   exact .cons _ _ (ih _ b)
theorem aeb {l:OpenLaw} {n:Nat} (hn:l.most=some n) {P:Params} {h:Heap} {args:List WData} {vals:List Value}
  (hpre:l.row.toRowW.claim.pre args=true) (hwl:WellAll P h vals args) :
  ∃ a vs ns,vals=[Value.ref a]∧args=[WData.list (ns.map WData.int)]∧h.get? a=some { cls:=.type "list",data:=.seq vs.toArray }∧IntsAre vs ns∧ns.length≤n:=by
 have hsh:WShape.hasAll [] args [.list .int]=true:=(pre_splitW hpre).1
 have hc:l.pre.holds [] { args:=args }=true:=(pre_splitW hpre).2
 obtain ⟨d,r,rfl,h1,h2⟩:=hasAllW_cons hsh
 obtain rfl:=hasAllW_nil h2
 obtain ⟨xs,rfl,h3⟩:=hasW_list h1
 obtain ⟨ns,rfl⟩:=items_int h3
 have hlen:ns.length≤n:=by
  unfold OpenLaw.pre at hc
  have h4:(WTm.not (.lt (.lit (.int (n:Int))) (.len (.arg 0)))).holds [] { args:=[.list (ns.map .int)] }=true:=by
   have h4:=(holds_andW hc).1
   rw [hn] at h4
   exact h4
  have h5:=condW_of h4 (w_not (w_lt w_lit (w_len_list (w_arg rfl))))
  rw [List.length_map] at h5
  refine Nat.le_of_not_lt fun q=>?_
  have q':(n:Int) < ((ns.length:Nat):Int):=by omega
  first
   | (rw [decide_eq_true q'] at h5; exact absurd h5 (by decide))
   | (simp at h5; omega)
 cases hwl with
 | cons w1 w2 =>
  cases w2
  cases w1 with
  | list ho hall=>exact ⟨_,_,ns,rfl,rfl,ho,aaP ns _ hall,hlen⟩
theorem ad7 (l:OpenLaw) (args:List WData):l.row.toRowW.claim.post args (.bool true) args=true :=
 postW_of (r:=l.row.toRowW) (X:=(true == true))
  (show WShape.has [] (.bool true) .bool=true by first | rfl | decide | simp [WShape.has,WShape.arms,WShape.armsAll])
  (show (WTm.eq .res (.lit (.bool true))).value [] { args:=args,res:=some (.bool true),after:=args }=some (.bool (true == true)) from w_eq_bool (w_res rfl) w_lit) rfl
theorem attach_call {l:OpenLaw} {n:Nat} {q:Program} {loose:List Str} {XP:(Str→Option Value)→Heap→Prop} {YP:World→Heap→Prop} {d:DefRec}
  (hn:l.most=some n) (hdf:d.params.defaults=[])
  (call:∀ (w:World) (s₀ s₁:Shared) (mg mb:Str→Option Value) (fa:Addr) (o:Obj) (pm cd doc:Value) (a:Addr) (vs:List Value) (ns:List Int),
   Ground q loose [] XP w s₀ mg mb s₁.heap→YP w s₁.heap →
   s₁.heap.get? fa=some o→o.data=.func (docDef d.name d.params d.body d.scope pm cd doc)→s₁.heap.CodeRec cd d.name→mg d.name=some (.ref fa) →
   s₁.heap.get? a=some { cls:=.type "list",data:=.seq vs.toArray }→IntsAre vs ns→ns.length≤n→s₁.gens=#[] →
   codeAny (model l.prog w) callerA (.call (.ref fa) ⟨[.ref a],[]⟩) (fun r s'=>r=.ok (.ret (.bool true))∧OldK s₁.heap s'.heap∧s'.os=s₁.os∧AllBare s'.gens) s₁) :
  WalkO q loose XP YP l.row.toRowW d [] (fun f vs=>PySem.call f vs):=by
 intro w s₀ s₁ mg mb G Y fa o pm cd doc dV kV ho hd hcd hD hmg hg args vals as hpre hlay hrd hwl hlo
 obtain rfl:dV=.none:=Dflts.none hD hdf
 obtain rfl:kV=.none:=Dflts.noKw hD
 obtain ⟨a,vs,ns,rfl,rfl,hobj,hints,hlen⟩:=aeb hn hpre hwl
 refine enter_call (codeAny_mono (call w s₀ s₁ mg mb fa o pm cd doc a vs ns G Y ho (fd_plain hd) hcd hmg hobj hints hlen hg) fun r s' hq=>?_)
 obtain ⟨rfl,h2,h3,h4⟩:=hq
 exact ⟨.inl ⟨.bool true,.bool true,[],rfl,fun _=>rfl,.bool true,ad7 l _,fun _=>⟨List.Pairwise.nil,fun _ hm=>(nomatch hm)⟩⟩,h2,h3,h4⟩
section
variable {prog:Program} {w:World} {A:Around} {E:Value→Shared→Prop} {s:Shared} {K:Frag}
end
end Att
namespace L2
open PySem PySem.Spec PyProof.Rows
theorem ab8:∀ {vs:List Value} {ns:List Int},IntsAre vs ns→bG (ns.map V.int) vs
 | _,_,.nil=>.nil
 | _,_,.cons n t h=>.cons ⟨t,rfl⟩ (ab8 h)
def akP (H:Hp):Prop:=∀ b,H b=none∨∃ o xs,H b=some (.frz o (.lst xs))
theorem af8 {P:Program} {w:World} {K:PySem.W.Frag} {mg mb:Str→Option Value} {CX:CXT} {k:Nat} {fa a:Addr} {fd:FuncData} {x:Str} {sp:Sp} {s₁:Shared} {vs:List Value} {ns:List Int}
  (KX:K.In s₁.heap) (hns:s₁.heap.Ns mainGlobals mg) (hb:s₁.heap.Ns builtinsNs mb) (hbb:∀ x:Str,x≠"__name__"→mb x=bootBuiltins x) (hlim:s₁.heap.NoLimit) (hg:s₁.gens=#[])
  (ha:s₁.heap.get? a=some { cls:=.type "list",data:=.seq vs.toArray }) (hi:IntsAre vs ns) (hl:ns.length≤sizeLine) (hr:cZ k callerA)
  (F:∀ base:Heap,K.In base→base.Ns mainGlobals mg→bF P w K mg base CX k fa fd [x] sp) (hbind:∀ (s:Shared) (u:Value),BindsTo s fd ⟨[u],[]⟩ [(x,u)])
  (hsp:∀ H:Hp,akP H→SqL K H a (ns.map V.int)→sp [.ref a] H (fun v _=>v=.bl true) fun _ _ _=>False)
  (hCX:∀ H e s',CX [] H s₁ (fun _ _ _=>False) e s'→False) :
  codeAny (model P w) callerA (.call (.ref fa) ⟨[.ref a],[]⟩) (fun r s'=>r=.ok (.ret (.bool true))∧OldK s₁.heap s'.heap∧s'.os=s₁.os∧AllBare s'.gens) s₁:=by
 have rv:=ab8 hi
 have lenV:=hi.length
 -- from an abstract heap in which nothing but the script may be tracked
 have core:∀ H:Hp,akP H→SqL K H a (ns.map V.int)→HOk P w H s₁.heap→(∀ b,H b≠none→b=a)→(H a≠none→K.lookup a=none) →
   codeAny (model P w) callerA (.call (.ref fa) ⟨[.ref a],[]⟩) (fun r s'=>r=.ok (.ret (.bool true))∧OldK s₁.heap s'.heap∧s'.os=s₁.os∧AllBare s'.gens) s₁:=by
  intro H hO hS hok hA hK
  have base_of:∀ {b:Addr} {o:Obj},s₁.heap.get? b=some o→H b=none→(kY s₁.heap H).get? b=some o:=fun e n=>afZ e n
  have noA:∀ {b:Addr} {o:Obj} {es:Array DictEntry} {ep:Nat},s₁.heap.get? b=some o→o.data=.dict es ep→H b=none:=fun {b o es ep} e d=>by
   cases q:H b with
   | none=>rfl
   | some u =>
    have e':b=a:=hA b (by rw [q]; simp)
    subst e'
    rw [ha] at e; cases e
    have d':Data.seq vs.toArray _=Data.dict es ep:=d
    cases d'
  have nsK:∀ {b:Addr} {m:Str→Option Value},s₁.heap.Ns b m→(kY s₁.heap H).Ns b m:=fun {b m} ⟨o,es,ep,e,d,r⟩=>⟨o,es,ep,base_of e (noA e d),d,r⟩
  have hKb:K.In (kY s₁.heap H):=fun b o e=>base_of (KX b o e) (by
   cases q:H b with
   | none=>rfl
   | some u =>
    have e':b=a:=hA b (by rw [q]; simp)
    subst e'
    rw [hK (by rw [q]; simp)] at e; cases e)
  have hM:Mod K mg (kY s₁.heap H):=⟨hKb,nsK hns,⟨mb,nsK hb,hbb⟩,let ⟨mc,h1,h2⟩:=hlim; ⟨mc,nsK h1,h2⟩⟩
  have e0:wS P w K mg (kY s₁.heap H) callerA [] s₁ H:=⟨rfl,hM,fun b o e=>ahC e,Nat.le_of_eq (afu _ _),trivial,fun b hb=>absurd (show b∈([]:List Addr) from hb) (by simp),hok,.of_eq hg⟩
  refine codeAny_mono ((F _ hKb (nsK hns)).run callerA [] s₁ H ⟨[.ref a],[]⟩ [.ref a] [.ref a] _ _ hr e0 (hbind s₁ (.ref a)) (.cons rfl .nil) (hsp H hO hS)) fun r s' h=>?_
  cases r with
  | error e=>exact (hCX H e s' h).elim
  | ok fl =>
   cases fl with
   | next=>exact False.elim h
   | brk=>exact False.elim h
   | cont=>exact False.elim h
   | ret u =>
    obtain ⟨v,H',os,bare,un,hok',r',q⟩:=h
    have q':v=.bl true:=q
    subst q'
    obtain rfl:u=Value.bool true:=r'
    refine ⟨rfl,OldK.of_keep fun b o e=>?_,os,bare⟩
    cases q:H b with
    | none=>exact un.keep b o e q (by intro z; exact absurd (show b∈([]:List Addr) from z) (by simp)) (by simp)
    | some u =>
     rcases hO b with z | ⟨ob,xs,z⟩
     ·rw [q] at z; cases z
     ·have z2:=un.frzs b ob _ z
      obtain ⟨e1,_⟩:=hok b _ z
      obtain ⟨e2,_⟩:=hok' b _ z2
      rw [e] at e1; cases e1
      exact e2
 cases hk:K.lookup a with
 | some o =>
  -- the script is one of the module's own objects
  have e:=KX a o hk
  rw [ha] at e
  cases e
  refine core (fun _=>none) (fun _=>.inl rfl) (.inr ⟨_,vs.toArray,_,hk,rfl,rfl,rfl,by rw [List.size_toArray,lenV]; exact hl,by simpa using rv⟩) (fun b u z=>by have z':(none:Option HO)=some u:=z; cases z') (fun b z=>absurd rfl z) fun z=>absurd rfl z
 | none =>
  refine core (fun b=>if b=a then some (.frz { cls:=.type "list",data:=.seq vs.toArray } (.lst (ns.map V.int))) else none) (fun b=>?_) (.inl (.inr ⟨{ cls:=.type "list",data:=.seq vs.toArray },if_pos rfl⟩)) (fun b u z=>?_) (fun b z=>?_) fun _=>hk
  ·by_cases hb:b=a
   ·exact .inr ⟨_,_,if_pos hb⟩
   ·exact .inl (if_neg hb)
  ·by_cases hb:b=a
   ·have z':=(if_pos hb).symm.trans z
    cases z'
    subst hb
    exact ⟨ha,by rw [List.length_map]; exact hl,vs,_,rv,ha⟩
   ·have z':=(if_neg hb).symm.trans z
    cases z'
  ·by_cases hb:b=a
   ·exact hb
   ·exact absurd (if_neg hb) z
end L2
namespace L2
open PySem PySem.Spec PyProof.Rows
theorem walk_of {l:PySem.W.OpenLaw} {n k:Nat} {q:Program} {loose:List Str} {XP:(Str→Option Value)→Heap→Prop} {YP:World→Heap→Prop} {d:DefRec} {K:Params→PySem.W.Frag} {CX:World→CXT} {sp:World→Sp} {x:Str}
  (hn:l.most=some n) (hn2:n≤sizeLine) (hdf:d.params.defaults=[]) (hr:cZ k callerA)
  (hY:∀ (w:World) (h:Heap),YP w h→(K w.params).In h)
  (F:∀ (w:World) (mg:Str→Option Value) (fa:Addr) (h:Heap),(K w.params).In h→h.Ns mainGlobals mg→mg d.name=some (.ref fa) →
   ∃ fd:FuncData,(∀ (s:Shared) (u:Value),BindsTo s fd ⟨[u],[]⟩ [(x,u)]) ∧
    ∀ base:Heap,(K w.params).In base→base.Ns mainGlobals mg→bF l.prog w (K w.params) mg base (CX w) k fa fd [x] (sp w))
  (hsp:∀ (w:World) (H:Hp) (a:Addr) (ns:List Int),ns.length≤n→akP H→SqL (K w.params) H a (ns.map V.int)→sp w [.ref a] H (fun v _=>v=.bl true) fun _ _ _=>False)
  (hCX:∀ (w:World) (H:Hp) (s:Shared) (e:Value) (s':Shared),CX w [] H s (fun _ _ _=>False) e s'→False) :
  PySem.W.WalkO q loose XP YP l.row.toRowW d [] (fun f vs=>PySem.call f vs):=by
 refine Att.attach_call hn hdf fun w s₀ s₁ mg mb fa o pm cd doc a vs ns G Y ho hd hcd hmg hobj hints hlen hg=>?_
 have KX:=hY w _ Y
 obtain ⟨fd,hb,hF⟩:=F w mg fa _ KX G.T.g hmg
 exact af8 KX G.T.g G.T.b G.T.builtins G.T.nolimit hg hobj hints (Nat.le_trans hlen hn2) hr hF hb (fun H hO hS=>hsp w H a ns hlen hO hS) fun H e s'=>hCX w H s₁ e s'
end L2
namespace L2
open PySem PySem.Spec PyProof.Rows
abbrev CX0:CXT:=fun _ _ _ _ _ _=>False
abbrev E0:XK:=fun _ _ _=>False
theorem aia {X:Cx}:iP CX0 X E0:=fun _ _ _ _ _ _ _ h=>h.elim
structure Fun (K:PySem.W.Frag) (x qual:Str) (st:Stmt) (f:Addr) (fd:FuncData):Prop where
 ex:∃ (oc:Value) (od:Option Addr) (kV doc pm:Value) (an:Option Addr) (cdv ct:Value) (osl:Array (Option Value)),
  fd=PySem.W.fnOf x qual (fX st) (eR st) (aW st) .none kV doc pm an cdv ct∧K.lookup f=some ⟨oc,od,.func fd,osl⟩∧PySem.W.codeIn K cdv qual=true
 kp:PySem.W.keepIn K (.ref f)=true
section
variable {P:Program} {w:World} {K:PySem.W.Frag} {mg:Str→Option Value} {base:Heap}
theorem Fun.ok {x qual:Str} {st:Stmt} {f:Addr} {fd:FuncData} {N ps:List Str} {k:Nat} {sp:Sp} (F:Fun K x qual st f fd) (S:bL N ps (aW st)) (len:∀ vs H Q E,sp vs H Q E→vs.length=ps.length)
  (hbody:∀ (cdv:Value) (A:Around) (outer:List Env) (s:Shared) (H:Hp) (vs:List V) (Q:VK) (E:XK),cZ k (A.deeper (envOfC qual (aW st) s.heap.objs.size f cdv))→sp vs H Q E →
   ∃ t,PSs (aS CX0 P w K mg base N qual (aW st) f cdv A outer s H E).nox (eR st) t∧t { nx:=fun _ H'=>Q .non H',rt:=Q } (start N vs) H):bF P w K mg base CX0 (k+1) f fd ps sp:=by
 obtain ⟨oc,od,kV,doc,pm,an,cdv,ct,osl,rfl,lk,hcd⟩:=F.ex
 refine aim lk hcd S len fun A outer s H vs Q E hr hsp=>?_
 obtain ⟨t,h,q⟩:=hbody cdv A outer s H vs Q E hr hsp
 exact ⟨t,h.nox,q⟩
theorem Fun.binds {x qual:Str} {st:Stmt} {f:Addr} {fd:FuncData} {ps:List Str} (F:Fun K x qual st f fd)
  (h:∀ (kV doc pm:Value) (an:Option Addr) (cdv ct:Value) (us:List Value),us.length=ps.length→bindArgs (PySem.W.fnOf x qual (fX st) (eR st) (aW st) .none kV doc pm an cdv ct) ⟨us,[]⟩=pure (ps.zip us)):eY K fd ps []:=by
 obtain ⟨oc,od,kV,doc,pm,an,cdv,ct,osl,rfl,lk,hcd⟩:=F.ex
 exact .all (h kV doc pm an cdv ct)
theorem ahk {x qual:Str} {st:Stmt} {f:Addr} {oc:Value} {od an:Option Addr} {osl:Array (Option Value)} {kV doc pm cdv ct:Value} (l:K.lookup f=some ⟨oc,od,.func (PySem.W.fnOf x qual (fX st) (eR st) (aW st) .none kV doc pm an cdv ct),osl⟩)
  (c:PySem.W.codeIn K cdv qual=true) (k:PySem.W.keepIn K (.ref f)=true):Fun K x qual st f (PySem.W.fnOf x qual (fX st) (eR st) (aW st) .none kV doc pm an cdv ct):=⟨⟨oc,od,kV,doc,pm,an,cdv,ct,osl,rfl,l,c⟩,k⟩
end
section
variable {X:Cx}
theorem pv (i:Nat) {x:Str} {pos:Pos} (hN:X.N[i]?=some x:=by rfl) (hv:Vis X.env.scope x:=by first | exact Or.inl rfl | exact Or.inr (Or.inl rfl) | exact Or.inr (Or.inr rfl)) (hd:(x == ("__debug__":Str))=false:=by decide)
  (hcd:(x == ("__classdict__":Str))=false:=by decide):PE X (.Name x pos) (alN i):=agW hN hv hd hcd
end
def cA (H H':Hp):Prop:=∀ b o,H b=some o→H' b=some o
theorem cA.refl (H:Hp):cA H H:=fun _ _ h=>h
end L2
namespace Bn
def Bd (k:Nat) (i:Int):Prop:=i.natAbs < 2 ^ k
theorem Bd.mono {j k:Nat} {i:Int} (h:Bd j i) (l:j≤k):Bd k i:=Nat.lt_of_lt_of_le h (Nat.pow_le_pow_right (by decide) l)
theorem Bd.mul {j k:Nat} {a b:Int} (h:Bd j a) (g:Bd k b):Bd (j+k) (a*b):=by
 unfold Bd at *
 rw [Int.natAbs_mul,Nat.pow_add]
 exact Nat.mul_lt_mul'' h g
theorem Bd.add {k:Nat} {a b:Int} (h:Bd k a) (g:Bd k b):Bd (k+1) (a+b):=by
 unfold Bd at *
 rw [Nat.pow_succ]
 have:=Int.natAbs_add_le a b
 omega
theorem Bd.neg {k:Nat} {a:Int} (h:Bd k a):Bd k (-a):=by
 unfold Bd at *
 rw [Int.natAbs_neg]
 exact h
theorem Bd.sub {k:Nat} {a b:Int} (h:Bd k a) (g:Bd k b):Bd (k+1) (a - b):=by
 rw [Int.sub_eq_add_neg]
 exact h.add g.neg
theorem Bd.le {k:Nat} {a b:Int} (h:Bd k b) (l:a.natAbs≤b.natAbs):Bd k a:=Nat.lt_of_le_of_lt l h
theorem Bd.of {k n:Nat} {a:Int} (l:a.natAbs≤n) (h:n < 2 ^ k):Bd k a:=Nat.lt_of_le_of_lt l h
theorem Bd.log {k:Nat} {a:Int} (h:Bd k a) (hk:0 < k):a.natAbs.log2 < k:=by
 rcases Nat.eq_zero_or_pos a.natAbs with z | z
 ·rw [z]
  exact Nat.lt_of_le_of_lt (Nat.le_of_eq (by decide)) hk
 ·exact (Nat.log2_lt (Nat.ne_of_gt z)).mpr h
theorem ab2 (a:Int) {b:Int} (h:b≠0):(a.fmod b).natAbs < b.natAbs:=by
 rw [Int.fmod_eq_emod]
 have h1:=Int.emod_nonneg a h
 have h2:a % b < (b.natAbs:Int):=Int.emod_lt a h
 by_cases c:0≤b∨b ∣ a
 ·rw [if_pos c]
  omega
 ·rw [if_neg c]
  have hb:b < 0:=by omega
  have h3:a % b≠0:=fun z=>c (.inr (Int.dvd_of_emod_eq_zero z))
  have h4:b.natAbs=(-b).toNat:=by omega
  omega
theorem ac8 (a b:Int):Int.gcd b (a.fmod b)=Int.gcd a b:=by
 rw [Int.fmod_def,Int.mul_comm,Int.gcd_sub_mul_right_right,Int.gcd_comm]
theorem afx (x:Int):(if x < 0 then -x else x)=(x.natAbs:Int):=by
 split <;> omega
end Bn
namespace Bn
def gl:List Int→Int→Int
 | [],g=>g
 | n :: r,g=>gl r (Int.gcd g n:Nat)
def low (ns:List Int):List Int:=if gl ns 0=0 then ns else ns.map (· / gl ns 0)
theorem aje:∀ (ns:List Int) (g:Int),0≤g→0≤gl ns g
 | [],_,h=>h
 | _ :: r,_,_=>aje r _ (Int.natCast_nonneg _)
theorem agT (k:Int):∀ (ns:List Int) (g:Int),0≤g→gl (ns.map (k*·)) ((k.natAbs:Int)*g)=(k.natAbs:Int)*gl ns g
 | [],_,_=>rfl
 | n :: r,g,h=>by
  show gl (r.map (k*·)) ((Int.gcd ((k.natAbs:Int)*g) (k*n):Nat):Int)=(k.natAbs:Int)*gl r _
  have e:((Int.gcd ((k.natAbs:Int)*g) (k*n):Nat):Int)=(k.natAbs:Int)*((Int.gcd g n:Nat):Int):=by
   rcases Int.natAbs_eq k with q | q
   ·rw [← q,Int.gcd_mul_left]
    have:(k.natAbs:Int)=k:=q.symm
    push_cast
    rw [this]
   ·have e2:k*n=(k.natAbs:Int)*(-n):=by rw [Int.mul_neg,← Int.neg_mul,← q]
    rw [e2,Int.gcd_mul_left,Int.gcd_neg]
    push_cast
    simp
  rw [e]
  exact agT k r _ (Int.natCast_nonneg _)
theorem zM (k:Int) (ns:List Int):gl (ns.map (k*·)) 0=(k.natAbs:Int)*gl ns 0:=by
 have:=agT k ns 0 (Int.le_refl 0)
 rwa [Int.mul_zero] at this
theorem abU {k:Int} (h:0 < k) (ns:List Int):gl ns 0≠0→low (ns.map (k*·))=low ns:=fun z=>by
 have hk:(k.natAbs:Int)=k:=by omega
 have e:=zM k ns
 rw [hk] at e
 have nz:k*gl ns 0≠0:=Int.mul_ne_zero (by omega) z
 unfold low
 rw [e,if_neg nz,if_neg z,List.map_map]
 refine List.map_congr_left fun n _=>?_
 show k*n / (k*gl ns 0)=n / gl ns 0
 exact Int.mul_ediv_mul_of_pos _ _ h
theorem jX:∀ (ns:List Int) (g:Int),gl ns g ∣ g∧∀ n∈ns,gl ns g ∣ n
 | [],g=>⟨Int.dvd_refl g,fun _ h=>nomatch h⟩
 | m :: r,g=>by
  obtain ⟨h1,h2⟩:=jX r ((Int.gcd g m:Nat):Int)
  refine ⟨Int.dvd_trans h1 (Int.gcd_dvd_left ..),fun n hn=>?_⟩
  rcases List.mem_cons.mp hn with q | q
  ·subst q
   exact Int.dvd_trans h1 (Int.gcd_dvd_right ..)
  ·exact h2 n q
theorem aic {ns:List Int} (h:gl ns 0=0):∀ n∈ns,n=0:=fun n hn=>by
 have:=(jX ns 0).2 n hn
 rw [h] at this
 exact Int.zero_dvd.mp this
theorem sD {ns:List Int} {n:Int} (hn:n∈ns) (h:n≠0):gl ns 0≠0:=fun z=>h (aic z n hn)
theorem uU {ns:List Int} {n:Int} (hn:n∈ns) (h:n≠0):0 < gl ns 0:=by
 have h1:=aje ns 0 (Int.le_refl 0)
 have h2:=sD hn h
 omega
theorem uX {ns:List Int} {n:Int} (hn:n∈ns) (h:n≠0):low ns=ns.map (· / gl ns 0):=by
 unfold low
 rw [if_neg (sD hn h)]
theorem Bd.gcd {k:Nat} {a b:Int} (h:Bd k a) (g:Bd k b):Bd k (Int.gcd a b:Nat):=by
 unfold Bd at *
 rw [Int.natAbs_natCast]
 rcases Nat.eq_zero_or_pos a.natAbs with z | z
 ·have:a=0:=by omega
  subst this
  rw [Int.gcd_zero_left]
  exact g
 ·exact Nat.lt_of_le_of_lt (Nat.gcd_le_left _ z) h
theorem vT {k:Nat}:∀ {ns:List Int} {g:Int},Bd k g→(∀ n∈ns,Bd k n)→Bd k (gl ns g)
 | [],_,h,_=>h
 | n :: r,g,h,hn=>by
  show Bd k (gl r _)
  exact vT (ns:=r) (h.gcd (hn n List.mem_cons_self)) fun m hm=>hn m (List.mem_cons_of_mem _ hm)
theorem agX {k:Nat} {ns:List Int} (h:∀ n∈ns,Bd k n):∀ n∈low ns,Bd k n:=fun n hn=>by
 unfold low at hn
 by_cases c:gl ns 0=0
 ·rw [if_pos c] at hn
  exact h n hn
 ·rw [if_neg c] at hn
  obtain ⟨m,hm,rfl⟩:=List.mem_map.mp hn
  refine (h m hm).le ?_
  have d:=(jX ns 0).2 m hm
  obtain ⟨q,e⟩:=d
  rw [e,Int.mul_ediv_cancel_left _ c,Int.natAbs_mul]
  exact Nat.le_mul_of_pos_left _ (by omega)
def fr (t b:Int):List Int:=if b < 0 then low [0 - t,0 - b] else low [t,b]
theorem mH (a b:Int):b∈[a,b]:=List.mem_cons_of_mem _ List.mem_cons_self
theorem ajv {t b:Int} (h:b≠0):∃ p q:Int,fr t b=[p,q]∧0 < q∧p*b=t*q:=by
 have go:∀ {t b:Int},0 < b→∃ p q:Int,low [t,b]=[p,q]∧0 < q∧p*b=t*q:=fun {t b} hb=>by
  have nz:b≠0:=by omega
  have gp:=uU (mH t b) nz
  refine ⟨t / gl [t,b] 0,b / gl [t,b] 0,uX (mH t b) nz,?_,?_⟩
  ·obtain ⟨m,e⟩:=(jX [t,b] 0).2 b (mH t b)
   have:b / gl [t,b] 0=m:=by
    conv=>lhs; lhs; rw [e]
    exact Int.mul_ediv_cancel_left _ (by omega)
   rw [this]
   have hm:0 < m*gl [t,b] 0:=by rw [Int.mul_comm,← e]; exact hb
   exact Int.pos_of_mul_pos_left hm gp
  ·obtain ⟨m,e⟩:=(jX [t,b] 0).2 b (mH t b)
   obtain ⟨n,f⟩:=(jX [t,b] 0).2 t List.mem_cons_self
   have e1:b / gl [t,b] 0=m:=by
    conv=>lhs; lhs; rw [e]
    exact Int.mul_ediv_cancel_left _ (by omega)
   have e2:t / gl [t,b] 0=n:=by
    conv=>lhs; lhs; rw [f]
    exact Int.mul_ediv_cancel_left _ (by omega)
   rw [e1,e2]
   conv=>lhs; rhs; rw [e]
   conv=>rhs; lhs; rw [f]
   rw [Int.mul_left_comm,Int.mul_assoc]
 unfold fr
 by_cases c:b < 0
 ·rw [if_pos c]
  obtain ⟨p,q,e1,e2,e3⟩:=go (t:=0 - t) (b:=0 - b) (by omega)
  refine ⟨p,q,e1,e2,?_⟩
  rw [Int.zero_sub,Int.zero_sub,Int.mul_neg,Int.neg_mul] at e3
  omega
 ·rw [if_neg c]
  exact go (by omega)
def sg (n:Int):Int:=if 0 < n then 1 else if n < 0 then -1 else 0
theorem adg {b:Int} (h:b≠0):(0 < b∧sg b=1)∨(b < 0∧sg b=-1):=by
 unfold sg
 by_cases c:0 < b
 ·exact .inl ⟨c,if_pos c⟩
 ·have d:b < 0:=by omega
  exact .inr ⟨d,by rw [if_neg c,if_pos d]⟩
theorem agz (b:Int):-(2 ^ 64) < sg b∧sg b < 2 ^ 64:=by
 unfold sg
 split
 ·decide
 ·split <;> decide
theorem vJ (t b:Int):gl [t,b] 0=(Int.gcd t b:Nat):=by
 show ((Int.gcd ((Int.gcd 0 t:Nat):Int) b:Nat):Int)=_
 rw [Int.gcd_zero_left]
 congr 1
theorem abl {g n:Int} (h:g≠0):(g*n).fdiv g=n:=by
 rw [Int.fdiv_eq_ediv_of_dvd ⟨n,rfl⟩,Int.mul_ediv_cancel_left _ h]
theorem aap {g n:Int} (h:g≠0):(g*n).fdiv (-1*g)=-n:=by
 have e:g*n=(-1*g)*(-n):=by
  rw [Int.neg_mul,Int.one_mul,Int.neg_mul_neg]
 rw [e]
 exact abl (by omega)
theorem afa {t b:Int} (h:b≠0):[t.fdiv (sg b*(Int.gcd t b:Nat)),b.fdiv (sg b*(Int.gcd t b:Nat))]=fr t b:=by
 have gp:=uU (mH t b) h
 rw [vJ] at gp
 have gn:((Int.gcd t b:Nat):Int)≠0:=by omega
 obtain ⟨n,en⟩:=Int.gcd_dvd_left (a:=t) (b:=b)
 obtain ⟨m,em⟩:=Int.gcd_dvd_right (a:=t) (b:=b)
 have ht:t=((Int.gcd t b:Nat):Int)*n:=en
 have hb:b=((Int.gcd t b:Nat):Int)*m:=em
 generalize hg:((Int.gcd t b:Nat):Int)=g at *
 rcases adg h with ⟨c,s⟩ | ⟨c,s⟩
 ·rw [s,Int.one_mul]
  have e1:fr t b=[t / g,b / g]:=by
   unfold fr
   rw [if_neg (by omega),uX (mH t b) h,vJ,hg]
   rfl
  have e2:t.fdiv g=t / g:=Int.fdiv_eq_ediv_of_dvd ⟨n,ht⟩
  have e3:b.fdiv g=b / g:=Int.fdiv_eq_ediv_of_dvd ⟨m,hb⟩
  rw [e1,e2,e3]
 ·rw [s]
  have e1:fr t b=[(0 - t) / g,(0 - b) / g]:=by
   unfold fr
   rw [if_pos c,uX (mH (0 - t) (0 - b)) (by omega),vJ,Int.zero_sub,Int.zero_sub,Int.neg_gcd,Int.gcd_neg,hg]
   rfl
  have e2:t.fdiv (-1*g)=-n:=by
   conv=>lhs; lhs; rw [ht]
   exact aap gn
  have e3:b.fdiv (-1*g)=-m:=by
   conv=>lhs; lhs; rw [hb]
   exact aap gn
  have e4:(0 - t) / g=-n:=by
   rw [ht,Int.zero_sub,← Int.mul_neg,Int.mul_ediv_cancel_left _ gn]
  have e5:(0 - b) / g=-m:=by
   rw [hb,Int.zero_sub,← Int.mul_neg,Int.mul_ediv_cancel_left _ gn]
  rw [e1,e2,e3,e4,e5]
theorem aeA (n:Int):∀ (l:List Int) (g:Int),gl (l++[n]) g=(Int.gcd (gl l g) n:Nat)
 | [],g=>rfl
 | m :: r,g=>aeA n r _
theorem ac3 {k m:Int} (hk:0 < k) (hm:0 < m) {A B:List Int} (hA:gl A 0≠0) (e:A.map (k*·)=B.map (m*·)):low A=low B:=by
 have hB:gl B 0≠0:=fun z=>by
  have h:=zM k A
  rw [e,zM m B,z,Int.mul_zero] at h
  have:(k.natAbs:Int)*gl A 0≠0:=Int.mul_ne_zero (by omega) hA
  exact this h.symm
 rw [← abU hk A hA,e,abU hm B hB]
theorem ahd (b:Int):∀ (ns:List Int) (g:Int),gl ns (Int.gcd g b:Nat)=(Int.gcd (gl ns g) b:Nat)
 | [],_=>rfl
 | n :: r,g=>by
  show gl r ((Int.gcd ((Int.gcd g b:Nat):Int) n:Nat):Int)=((Int.gcd (gl r _) b:Nat):Int)
  rw [← ahd b r,Int.gcd_assoc,Int.gcd_comm b n,← Int.gcd_assoc]
theorem acS {ns:List Int} {b:Int} (hb:0 < b):gl (ns++[b]) 0=gl ns b:=by
 rw [aeA,← ahd,Int.gcd_zero_left]
 congr 1
 omega
theorem kI (ns:List Int) (b:Int):b∈ns++[b]:=List.mem_append_right _ List.mem_cons_self
theorem akH {ns:List Int} {b:Int} (hb:0 < b):low (ns++[b])=(ns.map fun n=>n.fdiv (gl ns b))++[b.fdiv (gl ns b)]∧0 < gl ns b:=by
 have gp:=uU (kI ns b) (by omega)
 rw [acS hb] at gp
 refine ⟨?_,gp⟩
 rw [uX (kI ns b) (by omega),acS hb,List.map_append]
 have e:∀ n:Int,n / gl ns b=n.fdiv (gl ns b):=fun n=>(Int.fdiv_eq_ediv_of_nonneg n (Int.le_of_lt gp)).symm
 simp only [e,List.map_cons,List.map_nil]
theorem aex (ns:List Int) {b:Int} (hb:0 < b):∃ (zs:List Int) (z g:Int),low (ns++[b])=zs++[z]∧0 < g∧0 < z∧ns=zs.map (g*·)∧b=g*z∧zs.length=ns.length:=by
 obtain ⟨e,gp⟩:=akH (ns:=ns) hb
 have dv:=jX (ns++[b]) 0
 rw [acS hb] at dv
 have ex:∀ n∈ns++[b],gl ns b*n.fdiv (gl ns b)=n:=fun n hn=>by
  obtain ⟨q,e⟩:=dv.2 n hn
  conv=>lhs; rhs; rw [e]
  rw [abl (by omega)]
  exact e.symm
 refine ⟨_,_,gl ns b,e,gp,?_,?_,(ex b (kI ns b)).symm,List.length_map _⟩
 ·have h:=ex b (kI ns b)
  have:0 < b.fdiv (gl ns b)*gl ns b:=by rw [Int.mul_comm,h]; exact hb
  exact Int.pos_of_mul_pos_left this gp
 ·rw [List.map_map]
  conv=>lhs; rw [← List.map_id ns]
  refine List.map_congr_left fun n hn=>?_
  exact (ex n (List.mem_append_left _ hn)).symm
theorem aeY (ns:List Int) {b:Int} (hb:0 < b):low (low (ns++[b]))=low (ns++[b]):=by
 obtain ⟨zs,z,g,e,hg,hz,e1,e2,_⟩:=aex ns hb
 rw [e]
 refine ac3 (k:=g) (m:=1) hg (by decide) (sD (kI zs z) (by omega)) ?_ |>.trans e
 rw [List.map_append,← e1]
 show ns++[g*z]=(ns++[b]).map (1*·)
 rw [← e2]
 conv=>lhs; rw [← List.map_id (ns++[b])]
 refine List.map_congr_left fun n _=>?_
 exact (Int.one_mul n).symm
end Bn
namespace Bn
def sm (xs:List Int) (w:Int) (ys:List Int) (v:Int):List Int:=List.zipWith (fun x y=>x*v+y*w) xs ys
end Bn
namespace L2
open PySem PySem.Spec PyProof.Rows Bn
section
variable {X:Cx}
theorem aej {k:Nat} {i:Int} (h:Bd k i):Builtin.Int.intBits i≤k:=by
 unfold Builtin.Int.intBits
 split
 ·exact Nat.zero_le _
 ·rename_i c
  have z:i.natAbs≠0:=by
   intro q
   have:i=0:=by omega
   subst this
   exact c rfl
  have:=(Nat.log2_lt z).mpr h
  omega
def nR (_ j:Int):Prop:=j≠0∧Bd 8000 j
theorem mY:OpR X (binaryOp .FloorDiv) (rI nR fun i j=>.int (i.fdiv j)) :=
 opI fun _ _ _ _ _ _ _ hc q=>floordiv_int hc.1 q (.inl (PyProof.noPylong_of_log2 (Nat.lt_trans (hc.2.log (by decide)) (by decide))))
theorem PS.imp {st:Stmt} {t t':TS} (h:PS X st t) (i:∀ D σ H,t' D σ H→t D σ H):PS X st t':=fun pins s σ H D I q=>h pins s σ H D I (i D σ H q)
theorem PSs.imp {st:List Stmt} {t t':TS} (h:PSs X st t) (i:∀ D σ H,t' D σ H→t D σ H):PSs X st t':=fun pins s σ H D I q=>h pins s σ H D I (i D σ H q)
theorem PE.imp {e:Expr} {t t':TE} (h:PE X e t) (i:∀ σ H Q,t' σ H Q→t σ H Q):PE X e t':=fun pins s σ H Q I q=>h pins s σ H Q I (i σ H Q q)
theorem PT.imp {e:Expr} {t t':TT} (h:PT X e t) (i:∀ σ H Q,t' σ H Q→t σ H Q):PT X e t':=fun pins s σ H Q I q=>h pins s σ H Q I (i σ H Q q)
theorem Inv.turnedNew {pins:List (Addr × Obj)} {σ:St} {H:Hp} {s:Shared} {h':Heap} {t':Nat} {ch:List Addr} {a:Addr} {o:HO} (I:Inv X pins σ H s) (hf:∀ b∈ch,eK X pins H b)
  (k:∀ b u,b ∉ ch→s.heap.get? b=some u→h'.get? b=some u) (hp:s.heap.objs.size≤a) (new:eU X.prog X.w (upd H a o) h' a o) :
  Inv X pins σ (upd H a o) { s with heap:=h',toks:=t' }:=by
 have hn:H a=none:=I.hok.fresh hp
 have nch:∀ b u,H b=some u→b ∉ ch:=fun b u e z=>by
  rw [(hf b z).1] at e
  cases e
 have nea:∀ b u,H b=some u→b≠a:=fun b u e=>fP e hn
 refine I.step (g':=s.gens) (d':=s.drawn) (ch:=ch) (fun b hb=>?_) (fun b u _ _ hc e _=>k b u hc e) (fun b u _ _ hc e _=>⟨u.slots,k b u hc e⟩) (fun b u _ e n=>?_)
  (fun b u hc e=>⟨u,k b u hc e⟩) (fun b xs e=>?_) (fun b u v e=>?_) (fun b ps e=>⟨#[],?_⟩) (fun m hm=>?_) (fun b u e=>?_) I.bare
 ·obtain ⟨_,f1,_,f3,f4,f5⟩:=hf b hb
  exact ⟨f3,f1,f4,f5⟩
 ·rw [cK (Nat.ne_of_lt (Nat.lt_of_lt_of_le (Heap.lt_size e) hp))]
  exact n
 ·rw [cK (nea b _ e)]
  exact e
 ·rw [cK (nea b _ e)]
  exact e
 ·rw [cK (nea b _ e),e]
  simp
 ·obtain ⟨ob,es,ep,ho,r⟩:=hm
  exact ⟨ob,es,ep,k _ ob (fun z=>(hf _ z).2.1 rfl) ho,r⟩
 ·by_cases hb:b=a
  ·subst hb
   rw [gX] at e
   cases e
   exact new
  ·rw [cK hb] at e
   refine (I.hok b u e).stay (fun c v hc q=>k c v ?_ q) (fun c q=>?_) fun c xs q=>?_
   ·rcases hc with z | z
    ·rw [z]
     exact nch b u e
    ·exact nch c _ z
   ·rw [cK (nea c _ q)]
    exact q
   ·rw [cK (nea c _ q)]
    exact q
theorem Inv.turnedL {pins:List (Addr × Obj)} {σ:St} {H:Hp} {s:Shared} {h':Heap} {t':Nat} {ch:List Addr} (I:Inv X pins σ H s) (hf:∀ b∈ch,eK X pins H b)
  (k:∀ b u,b ∉ ch→s.heap.get? b=some u→h'.get? b=some u):Inv X pins σ H { s with heap:=h',toks:=t' }:=by
 have nch:∀ b u,H b=some u→b ∉ ch:=fun b u e z=>by
  rw [(hf b z).1] at e
  cases e
 refine I.step (g':=s.gens) (d':=s.drawn) (ch:=ch) (fun b hb=>?_) (fun b u _ _ hc e _=>k b u hc e) (fun b u _ _ hc e _=>⟨u.slots,k b u hc e⟩) (fun b u _ e n=>n)
  (fun b u hc e=>⟨u,k b u hc e⟩) (fun b xs e=>e) (fun b u v e=>e) (fun b ps e=>⟨#[],?_⟩) (fun m hm=>?_) (fun b u e=>?_) I.bare
 ·obtain ⟨_,f1,_,f3,f4,f5⟩:=hf b hb
  exact ⟨f3,f1,f4,f5⟩
 ·rw [e]
  simp
 ·obtain ⟨ob,es,ep,ho,r⟩:=hm
  exact ⟨ob,es,ep,k _ ob (fun z=>(hf _ z).2.1 rfl) ho,r⟩
 ·refine (I.hok b u e).stay (fun c v hc q=>k c v ?_ q) (fun c q=>q) fun c xs q=>q
  rcases hc with z | z
  ·rw [z]
   exact nch b u e
  ·exact nch c _ z
end
def Ite (K : PySem.W.Frag) (a : Addr) : It :=
  ⟨fun i H => ∃ xs x, SqL K H a xs ∧ xs[i]? = some x,
   fun i H x H' => ∃ p y, H p = none ∧ x = .ref p ∧ H' = upd H p (.tup [.int i, y]) ∧ ∀ xs, SqL K H a xs → xs[i]? = some y,
   fun i H => ∃ xs, SqL K H a xs ∧ xs.length ≤ i⟩
theorem afM {P:Program} {w:World} {K:PySem.W.Frag} {elts:List Expr} {x1:Nat} {tp:Pos} (a e it:Addr) (hne:e≠it) :
  nU P w K (.Tuple elts x1 tp) (Ite K a) [e,it] e (fun i h=>(∃ old,IsEnum h e it (i:Int) old)∧h.IsListIter it a i) where
 mem:=by simp
 obj:=fun i h st b hb=>by
  obtain ⟨⟨old,q⟩,o,e1,c,d⟩:=st
  rcases List.mem_cons.mp hb with z | z
  ·subst z
   exact ⟨_,q,fun v z=>nomatch z⟩
  ·have z':b=it:=by simpa using z
   subst z'
   exact ⟨o,e1,fun v z=>by rw [d] at z; cases z⟩
 keep:=fun i h h' st k=>⟨let ⟨old,q⟩:=st.1; ⟨old,k e (by simp) _ q⟩,st.2.at fun o q=>k it (by simp) o q⟩
 item:=by
  intro X hP hw hK hc i pins s σ H E I hf st hg
  subst hP hw hK
  obtain ⟨xs,x,hq,hx⟩:=hg
  obtain ⟨its,rv,pl,hz⟩:=I.list hq
  obtain ⟨u,hu,ru⟩:=rv.get hx
  obtain ⟨⟨old,he⟩,hit⟩:=st
  refine wpAny_pyNext_enum_item he hit pl.isList (x:=u) (by simpa using hu) hne fun h1 ho1 hit1 ht1 hs1 hk1=>⟨_,rfl,?_⟩
  have lt1:e < s.heap.objs.size:=Heap.lt_size he
  refine wpAny_letOwnedTupleGo_enum (s:={ s with heap:=h1,toks:=s.toks+1 }) ho1 fun h2 he2 sb2=>?_
  have ht2:h2.get? s.heap.objs.size=some { cls:=.type "tuple",data:=.seq #[.int i s.toks,u] }:=(sb2.2 _ (Nat.ne_of_gt lt1)).trans ht1
  have I2:Inv X pins σ (upd H s.heap.objs.size (.tup [.int i,x])) { s with heap:=h2,toks:=s.toks+1 } :=
   I.turnedNew hf (fun b o hb q=>(sb2.2 b (fun z=>hb (by simp [z]))).trans (hk1 b o (fun z=>hb (by simp [z])) (fun z=>hb (by simp [z])) q)) (Nat.le_refl _)
    ⟨by show 2≤sizeLine; decide,[.int i s.toks,u],.cons ⟨_,rfl⟩ (.cons ru .nil),⟨_,ht2,rfl,_,rfl⟩⟩
  refine ⟨.ref s.heap.objs.size,_,I2,rfl,⟨_,x,I.hok.fresh (Nat.le_refl _),rfl,rfl,fun ys hy=>by rw [I.list_inj hy hq]; exact hx⟩,⟨⟨_,by simpa using he2⟩,hit1.at fun o q=>(sb2.2 it hne.symm).trans q⟩,fun b hb=>?_⟩
  have hb':=(hf b hb).1
  have lt:b≠s.heap.objs.size:=by
   rcases List.mem_cons.mp hb with z | z
   ·subst z
    exact Nat.ne_of_lt lt1
   ·have z':b=it:=by simpa using z
    subst z'
    obtain ⟨o,q,_⟩:=hit
    exact Nat.ne_of_lt (Heap.lt_size q)
  rw [cK lt]
  exact hb'
 done:=by
  intro X hP hw hK hc i pins s σ H E I hf st hg
  subst hP hw hK
  obtain ⟨xs,hq,hx⟩:=hg
  obtain ⟨its,rv,pl,hz⟩:=I.list hq
  obtain ⟨⟨old,he⟩,hit⟩:=st
  have hl:=rv.length
  exact wpAny_pyNext_enum_end (I.ok.hd hc) he hit pl.isList (by simp; omega) fun h' eb=>⟨rfl,I.turnedL (t':=s.toks) hf fun b o hb q=>eb b o (fun z=>hb (by simp [z])) q⟩
 self:=fun _ _ _ _ _ st h=>let ⟨_,q⟩:=st.1; wpAny_pyIter_enum q h
section
variable {X:Cx} {elts:List Expr} {x1:Nat} {tp:Pos}
def alh (K:PySem.W.Frag) (tl:TA):TI:=fun σ H R=>tl σ H fun vs H1=>∃ a,vs=[.ref a]∧(∃ xs,SqL K H1 a xs)∧R (Ite K a) H1
theorem ais {l:Expr} {tl:TA} {p pos:Pos} (hg:Gl X "enumerate") (hm:X.mg "enumerate"=none) (hl:PA X [l] tl) (hs:starEach [l] X.env=[(false,eval l X.env)]:=by rfl) :
  PI X (.Tuple elts x1 tp) (.Call (.Name "enumerate" p) [l] [] pos) (alh X.K tl):=by
 intro pins s σ H R I h
 refine Call_ (pA I hg hm boot_enumerate (PyProof.Rows.callWith_type1 (thn (hl pos pins s σ H _ I h) fun us s1 ⟨vs,H1,I1,r1,q1⟩=>?_) hs rfl))
 obtain ⟨a,rfl,⟨xs,hq⟩,q⟩:=q1
 obtain ⟨u,rfl,ru⟩:=gZ r1
 cases ru
 obtain ⟨its,rv,pl,hz⟩:=I1.list hq
 refine call_enumerate_list pl.isList fun h' he hit hsz k=>?_
 have I2:Inv X pins σ H1 { s1 with heap:=h' }:=I1.kept (t':=s1.toks) k
 refine wpAny_pyIter_enum (s:={ s1 with heap:=h' }) he ?_
 refine ⟨s1.heap.objs.size+1,[s1.heap.objs.size+1,s1.heap.objs.size],_,_,H1,rfl,I2,afM a _ _ (Nat.succ_ne_self _),⟨⟨_,he⟩,hit⟩,fun b hb=>?_,q⟩
 have hb':s1.heap.objs.size≤b:=by
  rcases List.mem_cons.mp hb with z | z
  ·rw [z]
   exact Nat.le_succ _
  ·have z':b=s1.heap.objs.size:=by simpa using z
   rw [z']
   exact Nat.le_refl _
 exact I1.fpOk hb' (I1.hok.fresh hb')
end
end L2
namespace L2
open PySem PySem.Spec PyProof.Rows Bn
def gR (env:Env):List (Str × NameKind)→List (Str × Addr)→List (Str × Addr)
 | [],acc=>acc
 | p :: r,acc=>if (p.2 == .free)=true then gR env r ((p.1,(env.cells.lookup p.1).getD 0) :: acc) else gR env r acc
theorem zZ {sc:Scope} {env:Env} (h:∀ p∈sc.names,p.2=.free→∃ c,env.cells.lookup p.1=some c):closureFor sc env=pure (gR env sc.names []):=by
 unfold closureFor
 have go:∀ (l:List (Str × NameKind)) (acc:List (Str × Addr)),(∀ p∈l,p.2=.free→∃ c,env.cells.lookup p.1=some c) →
   (forIn l acc (fun x r=>if (x.2 == NameKind.free)=true then do let a ← cellOf env x.1; pure (ForInStep.yield ((x.1,a) :: r)) else pure (ForInStep.yield r)):Sem _)=pure (gR env l acc):=by
  intro l
  induction l with
  | nil=>intro acc _; rfl
  | cons p r ih =>
   intro acc hp
   rw [List.forIn_cons]
   have hr:=fun acc'=>ih acc' fun q hq=>hp q (List.mem_cons_of_mem _ hq)
   by_cases c:(p.2 == NameKind.free)=true
   ·obtain ⟨a,ea⟩:=hp p List.mem_cons_self (by simpa using c)
    have e1:cellOf env p.1=pure a:=by unfold cellOf; rw [ea]
    rw [if_pos c,e1]
    simp only [pure_bind]
    rw [hr]
    show _=pure (if (p.2 == .free)=true then _ else _)
    rw [if_pos c,ea]
    rfl
   ·rw [if_neg c]
    simp only [pure_bind]
    rw [hr]
    show _=pure (if (p.2 == .free)=true then _ else _)
    rw [if_neg c]
 have e:=go sc.names [] h
 show (forIn sc.names [] _ >>= fun r=>pure r)=_
 rw [bind_pure]
 exact e
theorem yH {env:Env}:∀ (l:List (Str × NameKind)) (acc:List (Str × Addr)),(∀ p∈l,p.2=.free→∃ c,env.cells.lookup p.1=some c) →
  ∀ y c,(gR env l acc).lookup y=some c→acc.lookup y=some c∨env.cells.lookup y=some c
 | [],acc,_,y,c,e=>.inl e
 | p :: r,acc,h,y,c,e=>by
  have hr:∀ q∈r,q.2=.free→∃ c,env.cells.lookup q.1=some c:=fun q hq=>h q (List.mem_cons_of_mem _ hq)
  unfold gR at e
  by_cases k:(p.2 == NameKind.free)=true
  ·rw [if_pos k] at e
   obtain ⟨a,ea⟩:=h p List.mem_cons_self (by simpa using k)
   rcases yH r _ hr y c e with z | z
   ·rw [List.lookup_cons] at z
    cases w:y == p.1 with
    | true =>
     rw [w,ea] at z
     have hy:y=p.1:=by simpa using w
     rw [hy,ea]
     exact .inr z
    | false =>
     rw [w] at z
     exact .inl z
   ·exact .inr z
  ·rw [if_neg k] at e
   exact yH r acc hr y c e
theorem tY {env:Env}:∀ (l:List (Str × NameKind)) (acc:List (Str × Addr)) (y:Str),((∃ c,acc.lookup y=some c)∨(y,NameKind.free)∈l)→∃ c,(gR env l acc).lookup y=some c
 | [],acc,y,h=>by
  rcases h with h | h
  ·exact h
  ·cases h
 | p :: r,acc,y,h=>by
  unfold gR
  by_cases k:(p.2 == NameKind.free)=true
  ·rw [if_pos k]
   refine tY r _ y ?_
   cases w:y == p.1 with
   | true=>exact .inl ⟨_,by rw [List.lookup_cons,w]⟩
   | false =>
    rcases h with ⟨c,h⟩ | h
    ·exact .inl ⟨c,by rw [List.lookup_cons,w]; exact h⟩
    ·rcases List.mem_cons.mp h with z | z
     ·rw [← z] at w
      simp at w
     ·exact .inr z
  ·rw [if_neg k]
   refine tY r _ y ?_
   rcases h with h | h
   ·exact .inl h
   ·rcases List.mem_cons.mp h with z | z
    ·rw [← z] at k
     simp at k
    ·exact .inr z
theorem aaC {env:Env}:∀ {names:List (Str × NameKind)} {x:Str},(∀ y∈names,y.2≠.cell) →
  (let l:=(names.map fun (n,k)=>if (k == NameKind.free && env.scope.kind == .function && env.kindOf n == some .cell) then (n,NameKind.cell) else (n,k)).lookup x; l=some .cell∨l=some .free)→(x,NameKind.free)∈names
 | [],x,_,h=>by
  rcases h with h | h <;> cases h
 | (n,k) :: r,x,hc,h=>by
  dsimp only at h
  rw [List.map_cons] at h
  have ih:=@aaC env r x fun y hy=>hc y (List.mem_cons_of_mem _ hy)
  have nk:k≠.cell:=hc (n,k) List.mem_cons_self
  by_cases c:(k == NameKind.free && env.scope.kind == .function && env.kindOf n == some .cell)=true
  ·have kf:k=.free:=by
    simp only [Bool.and_eq_true,beq_iff_eq] at c
    exact c.1.1
   dsimp only at h
   rw [if_pos c,List.lookup_cons] at h
   cases w:x == n with
   | true =>
    have hx:x=n:=by simpa using w
    rw [hx,← kf]
    exact List.mem_cons_self
   | false =>
    rw [w] at h
    exact List.mem_cons_of_mem _ (ih h)
  ·dsimp only at h
   rw [if_neg c,List.lookup_cons] at h
   cases w:x == n with
   | true =>
    rw [w] at h
    have hx:x=n:=by simpa using w
    have kf:k=.free:=by
     rcases h with h | h
     ·exact absurd (Option.some.inj h) nk
     ·exact Option.some.inj h
    rw [hx,← kf]
    exact List.mem_cons_self
   | false =>
    rw [w] at h
    exact List.mem_cons_of_mem _ (ih h)
def cD (X:Cx) (sc:Scope) (N:List Str) (C:Addr) (s₀:Shared) (H₀:Hp) (ex:List Addr):Cx where
 prog:=X.prog
 w:=X.w
 K:=X.K
 mg:=X.mg
 base:=X.base
 A:=X.A
 N:=N
 s₀:=s₀
 H₀:=H₀
 env:=compEnvC sc (gR X.env sc.names []) C X.env
 outer:=X.stack
 stack:=X.stack
 ex:=ex
 fn:=fun _=>false
 calm:=X.calm
 pn:=[]
 xe:=fun _ _=>False
def jQ (own:List Str) (cap:List (Nat × Str)) (σ:St):St:=own.map (fun _=>none)++cap.map fun p=>(σ[p.1]?).join
def bI (own:List Str) (cap:List (Nat × Str)):List Str:=own++cap.map (·.2)
def pW (J:It) (g:TG) (te:TE) (σ₀:St) (H1:Hp) (D:Addr) (Q:VK):Prop :=
 ∃ W:Nat→Nat→St→Hp→List V→Prop,(∃ m,W 0 m σ₀ (upd H1 D (.lst [])) [])∧∀ i m σ H ys,W i m σ H ys→H D=some (.lst ys) ∧
  ((J.stop i H∧Q (.ref D) H)∨(J.go i H∧ys.length < sizeLine∧∀ x H2,J.yld i H x H2→g x σ H2 fun σ3 H3=>te σ3 H3 fun y H4=>H4 D=some (.lst ys)∧∃ m',m' < m∧W (i+1) m' σ3 (upd H4 D (.lst (ys++[y]))) (ys++[y])))
def nO (own:List Str) (cap:List (Nat × Str)) (wi:TI) (g:TG) (te:TE):TE:=fun σ H Q=>wi σ H fun J H1=>∀ D,H1 D=none→pW J g te (jQ own cap σ) H1 D Q
def Nx (n:Nat) (Pv:Nat→St→Hp→List V→Prop) (D:Addr) (i:Nat) (ys:List V) (σ:St) (y:V) (H:Hp):Prop :=
 H D=some (.lst ys)∧∃ m,m < n - i∧(m=n - (i+1)∧i+1≤n∧Pv (i+1) σ (upd H D (.lst (ys++[y]))) (ys++[y]))
theorem ajh {n:Nat} {Pv:Nat→St→Hp→List V→Prop} {D:Addr} {i:Nat} {ys:List V} {σ:St} {y:V} {H:Hp} (h:i < n) (hD:H D=some (.lst ys)) (p:Pv (i+1) σ (upd H D (.lst (ys++[y]))) (ys++[y])):Nx n Pv D i ys σ y H :=
 ⟨hD,n - (i+1),by omega,rfl,h,p⟩
theorem afH {J:It} {g:TG} {te:TE} {σ₀:St} {H1:Hp} {D:Addr} {Q:VK} (n:Nat) (hn:n≤sizeLine) (Pv:Nat→St→Hp→List V→Prop) (h0:Pv 0 σ₀ (upd H1 D (.lst [])) [])
  (hl:∀ i σ H ys,Pv i σ H ys→ys.length=i∧H D=some (.lst ys)) (hgo:∀ i σ H ys,i < n→Pv i σ H ys→J.go i H)
  (hs:∀ i σ H ys x H2,i < n→Pv i σ H ys→J.yld i H x H2→g x σ H2 fun σ3 H3=>te σ3 H3 fun y H4=>Nx n Pv D i ys σ3 y H4)
  (hd:∀ σ H ys,Pv n σ H ys→J.stop n H∧Q (.ref D) H):pW J g te σ₀ H1 D Q:=by
 refine ⟨fun i m σ H ys=>m=n - i∧i≤n∧Pv i σ H ys,⟨n,rfl,Nat.zero_le _,h0⟩,?_⟩
 rintro i m σ H ys ⟨rfl,hi,p⟩
 obtain ⟨l1,l2⟩:=hl i σ H ys p
 refine ⟨l2,?_⟩
 by_cases hlt:i < n
 ·exact .inr ⟨hgo i σ H ys hlt p,by omega,fun x H2 y=>hs i σ H ys x H2 hlt p y⟩
 ·have e:i=n:=by omega
  subst e
  exact .inl (hd σ H ys p)
section
variable {prog:Program} {w:World} {A:Around} {R:Result→Shared→Prop} {s:Shared}
theorem aeh {elt target iter:Expr} {sc:Scope} {pos:Pos} {it acc:Value} {env:Env} (I:Nat→Shared→Prop)
  (turn:∀ n s,I n s→wpAny (model prog w) A (pyNext it) (fun r s1=>match r with
   | none=>R (.ok .next) s1
   | some v=>wpAny (model prog w) A (letOwnedTupleGo target it v) (fun _ s2=>wpAny (model prog w) A (assign target env v) (fun _ s3=>wpAny (model prog w) A (eval elt env)
     (fun x s4=>wpAny (model prog w) A (call (.builtin "list.append") [acc,x]) (fun _ s5=>∃ m,m < n∧I m s5) (fun _ _=>False) s4) (fun _ _=>False) s3) (fun _ _=>False) s2) (fun _ _=>False) s1) (fun _ _=>False) s)
  (n:Nat) (h:I n s):codeAny (model prog w) A (.compLoop (.ListComp elt [⟨target,iter,[],0⟩] sc pos) 0 it acc env) R s:=by
 refine codeAny_loop rfl I (fun n s hI=>?_) n h
 show wpAny _ _ ((compTurn (.ListComp elt [⟨target,iter,[],0⟩] sc pos) 0 it acc env).onRaise (fun x=>do noteFrame x env; theTreesLotGoes x)) _ _ s
 refine wpAny_noted ?_
 rw [compTurn_list1]
 refine wpAny_bind (wpAny_standAt (wpAny_bind ?_))
 refine wpAny_mono (turn n s hI) (fun r s1 h1=>?_) fun _ _ z=>z.elim
 cases r with
 | none=>exact wpAny_pure h1
 | some v =>
  refine wpAny_bind (wpAny_mono h1 (fun _ s2 h2=>?_) fun _ _ z=>z.elim)
  refine wpAny_bind (wpAny_mono h2 (fun _ s3 h3=>?_) fun _ _ z=>z.elim)
  refine wpAny_bind (wpAny_bind (wpAny_mono h3 (fun x s4 h4=>?_) fun _ _ z=>z.elim))
  refine wpAny_bind (wpAny_mono h4 (fun _ s5 h5=>?_) fun _ _ z=>z.elim)
  exact wpAny_pure (wpAny_pure ⟨rfl,h5⟩)
end
structure gM (X:Cx) (sc:Scope) (own:List Str) (cap:List (Nat × Str)):Prop where
 kind:sc.kind=.function
 names:∀ y∈sc.names,y.2=.local→sc.names.lookup y.1=some .local
 nocell:∀ y∈sc.names,y.2≠.cell
 free:∀ y∈sc.names,y.2=.free→X.env.kindOf y.1=some .cell
 at':∀ p∈cap,X.N[p.1]?=some p.2
 cap:∀ p∈cap,sc.names.lookup p.2=some .free
section
variable {X:Cx} {sc:Scope} {own:List Str} {cap:List (Nat × Str)} {pins:List (Addr × Obj)} {σ:St} {H:Hp} {s:Shared}
theorem gM.has (k:gM X sc own cap) (ok:X.Ok):∀ p∈sc.names,p.2=.free→∃ c,X.env.cells.lookup p.1=some c:=fun p hp e=>ok.has p.1 (.inl (k.free p hp e))
theorem aaR {env:Env}:∀ {names:List (Str × NameKind)} {x:Str},env.scope.kind=.function→names.lookup x=some .free→env.kindOf x=some .cell →
  (names.map fun (n,k)=>if (k == NameKind.free && env.scope.kind == .function && env.kindOf n == some .cell) then (n,NameKind.cell) else (n,k)).lookup x=some .cell
 | [],x,_,h,_=>by cases h
 | (n,k) :: r,x,hk,h,hx=>by
  rw [List.map_cons]
  dsimp only
  rw [List.lookup_cons] at h
  cases w:x == n with
  | true =>
   rw [w] at h
   have e:x=n:=by simpa using w
   have kf:k=.free:=Option.some.inj h
   have c:(k == NameKind.free && env.scope.kind == .function && env.kindOf n == some .cell)=true:=by
    rw [kf,hk,← e,hx]
    decide
   rw [if_pos c,List.lookup_cons,w]
  | false =>
   rw [w] at h
   have ih:=@aaR env r x hk h hx
   by_cases c:(k == NameKind.free && env.scope.kind == .function && env.kindOf n == some .cell)=true
   ·rw [if_pos c,List.lookup_cons,w]
    exact ih
   ·rw [if_neg c,List.lookup_cons,w]
    exact ih
theorem Inv.cmp (k:gM X sc own cap) {h4:Heap} {fp:List Addr} {m:Str→Option Value} {t':Nat} (I:Inv X pins σ H s) (hf:∀ b∈fp,eK X pins H b) (hlt:∀ b∈fp,b < s.heap.objs.size) (hns:h4.Ns s.heap.objs.size m)
  (kp:∀ b o,s.heap.get? b=some o→h4.get? b=some o):Inv (cD X sc (bI own cap) s.heap.objs.size s H fp) [] (jQ own cap σ) H { s with heap:=h4,toks:=t' }:=by
 have hcl:∀ y c,(gR X.env sc.names []).lookup y=some c→X.env.cells.lookup y=some c:=fun y c e=>by
  rcases yH sc.names [] (k.has I.ok) y c e with z | z
  ·cases z
  ·exact z
 have nst:∀ b∈fp,b ∉ frs X.stack:=fun b hb z=>by
  rcases List.mem_cons.mp (I.stkSub b z) with e | e
  ·exact (hf b hb).2.1 e
  ·exact (hf b hb).2.2.1 e
 refine ⟨⟨I.ok.mod,k.kind,I.ok.glob,I.ok.blt,Nat.le_refl _,fun x y c h1 h2=>I.ok.inj x y c (hcl x c h1) (hcl y c h2),fun x hx=>?_,fun x c e=>(nomatch e),I.ok.hd,I.ok.frames,.inl rfl,fun b hb=>⟨Nat.ne_of_lt (hlt b hb),fun x c e=>(hf b hb).2.2.2.2.1 x c (hcl x c e)⟩,
  I.bs,Nat.le_trans I.ok.bsz I.sz,fun b o e hb=>?_,nst,I.stack,I.stkFree⟩,rfl,I.bare,Un.kept kp,⟨m,hns,fun i x v h1 h2 h3=>?_⟩,fun x c e=>?_,I.hok.fresh (Nat.le_refl _),fun x c e=>I.freeC x c (hcl x c e),fun p hp=>absurd (show p∈([]:List (Addr × Obj)) from hp) (by simp),I.hok.kept kp,?_⟩
 ·exact tY sc.names [] x (.inr (aaC k.nocell hx))
 ·rcases (hf b hb).2.2.2.1 with z | z
  ·exact I.ok.noex b o e z
  ·exact absurd (Nat.lt_of_lt_of_le (Heap.lt_size (I.ok.bs b o e).1) z) (Nat.lt_irrefl _)
 ·have hN:(bI own cap)[i]?=some x:=h1
  unfold bI at hN
  unfold jQ at h2
  by_cases hi:i < own.length
  ·rw [List.getElem?_append_left (by simpa using hi),List.getElem?_map] at h2
   cases e:own[i]? with
   | none=>rw [e] at h2; cases h2
   | some z=>rw [e] at h2; cases h2
  ·rw [List.getElem?_append_right (by simpa using hi),List.getElem?_map,List.length_map] at h2
   rw [List.getElem?_append_right (by omega),List.getElem?_map] at hN
   cases e:cap[i - own.length]? with
   | none=>rw [e] at h2; cases h2
   | some p =>
    rw [e] at h2 hN
    have hp:p∈cap:=List.mem_of_getElem? e
    have hx:p.2=x:=Option.some.inj hN
    have hv:(σ[p.1]?).join=some v:=Option.some.inj h2
    have hv':σ[p.1]?=some (some v):=by
     cases e2:σ[p.1]? with
     | none=>rw [e2] at hv; cases hv
     | some z=>rw [e2] at hv; exact congrArg some hv
    have fr:=k.cap p hp
    have kc:X.env.kindOf p.2=some .cell:=k.free (p.2,.free) (PySem.mem_of_lookup fr) rfl
    obtain ⟨m0,_,hl⟩:=I.loc
    obtain ⟨u,ru,lk⟩:=hl p.1 p.2 v (k.at' p hp) hv' (.inr (.inl kc))
    refine ⟨u,ru,?_⟩
    rcases lk with ⟨k1,_⟩ | ⟨_,c,ec,cell⟩
    ·rw [kc] at k1
     cases k1
    ·rw [← hx]
     obtain ⟨c',ec'⟩:=tY (env:=X.env) sc.names [] p.2 (.inr (PySem.mem_of_lookup fr))
     have:=(hcl _ _ ec').symm.trans ec
     cases this
     obtain ⟨o,ho,hd⟩:=cell
     exact .inr ⟨.inl (aaR I.ok.kind fr kc),c,ec',o,kp c o ho,hd⟩
 ·obtain ⟨v,o,ho,hd⟩:=I.cell x c (hcl x c e)
  exact ⟨v,o,kp c o ho,hd⟩
 ·unfold jQ
  show _=(bI own cap).length
  unfold bI
  rw [List.length_append,List.length_append,List.length_map,List.length_map,List.length_map]
theorem Inv.uncmp {s3 s':Shared} {H3 H':Hp} {N:List Str} {σ':St} {C:Addr} {fp:List Addr} {pl:List (Addr × Obj)} (I:Inv X pins σ H s) (hf:∀ b∈fp,eK X pins H b) (u:Un (frs X.stack) fp H H3 s.heap s3.heap) (os:s3.os=s.os)
  (J:Inv (cD X sc N C s3 H3 fp) pl σ' H' s'):Inv X pins σ H' s':=by
 have os':s'.os=s.os:=(show s'.os=s3.os from J.os).trans os
 refine I.call' (ch:=fp) os' (u.trans J.base) J.hok J.bare fun b hb=>?_
 obtain ⟨_,f1,_,f3,f4,f5⟩:=hf b hb
 exact ⟨f3,f1,f4,f5⟩
end
end L2
namespace L2
open PySem PySem.Spec PyProof.Rows Bn
section
variable {X:Cx} {sc:Scope} {own:List Str} {cap:List (Nat × Str)} {pins:List (Addr × Obj)} {σ:St} {H:Hp} {s:Shared} {elt target iter:Expr} {pos pos':Pos} {wi:TI} {g:TG} {te:TE} {Q:VK}
theorem acs {use:Option (Value→Sem Unit)} {Qf:Value→Shared→Prop} (k:gM X sc own cap) (hi:PI X target iter wi) (hc:X.calm=true)
  (hg:∀ C s₀ H₀ ex,PG (cD X sc (bI own cap) C s₀ H₀ ex) target g) (he:∀ C s₀ H₀ ex,PE (cD X sc (bI own cap) C s₀ H₀ ex) elt te) (I:Inv X pins σ H s) (h:nO own cap wi g te σ H Q)
  (fin:∀ D C s' H' m,Inv X pins σ H' s'→eK X pins H' C→s'.heap.Ns C m→Q (.ref D) H'→compPost (model X.prog X.w) X.A X.xe use Qf (.ref D) C (.ok .next) s')
  (hs:∀ x,foldedSetIterable iter X.env x=pure x) :
  wpAny (model X.prog X.w) X.A (comprehension (.ListComp elt [⟨target,iter,[],0⟩] sc pos) sc X.env pos' (newList []) false (eval iter X.env) use) Qf X.xe s:=by
 refine wpAny_comprehension_free (use:=use) rfl hs (zZ (k.has I.ok)) k.kind k.names ?_
 refine thn (hi pins s σ H _ I h) fun v s1 h1=>thn h1 fun itv s2 h2=>?_
 obtain ⟨it,fp,tn,J,H2,e,I2,T,st2,f2,hW⟩:=h2
 subst e
 refine wpAny_newObj_type (wpAny_newFunctionEnv k.nocell (fun y hy=>nomatch hy) (fun h4 hns hsb=>?_) k.kind)
 have I3:Inv X pins σ (upd H2 s2.heap.objs.size (.lst [])) { s2 with heap:=s2.heap.push { cls:=.type "list",data:=.seq ([]:List Value).toArray },toks:=s2.toks }:=I2.lnew (ys:=[]) (its:=[]) .nil (Nat.zero_le _)
 have hD:H2 s2.heap.objs.size=none:=I2.fresh
 have ltf:∀ b∈fp,b < s2.heap.objs.size:=fun b hb=>by
  obtain ⟨o,ho,_⟩:=T.obj _ _ st2 b hb
  exact Heap.lt_size ho
 have f3:∀ b∈fp,eK X pins (upd H2 s2.heap.objs.size (.lst [])) b:=fun b hb=>⟨by rw [cK (Nat.ne_of_lt (ltf b hb))]; exact (f2 b hb).1,(f2 b hb).2⟩
 have un:Un (frs X.stack) fp H2 (upd H2 s2.heap.objs.size (.lst [])) s2.heap (s2.heap.push { cls:=.type "list",data:=.seq ([]:List Value).toArray }):=Un.laid (fun b u q=>Heap.get?_push_of_some _ q) (Nat.le_refl _) hD
 have kp:∀ b o,(s2.heap.push { cls:=.type "list",data:=.seq ([]:List Value).toArray }).get? b=some o→h4.get? b=some o:=fun b o q=>hsb.extBut b o (Nat.ne_of_lt (Heap.lt_size q)) (Heap.get?_push_of_some _ q)
 have J0:=I3.cmp (t':=s2.toks+([]:List (Str × Value)).length) k f3 (fun b hb=>Nat.lt_of_lt_of_le (ltf b hb) (by rw [Heap.size_push]; exact Nat.le_succ _)) hns kp
 have stat:∀ {H':Hp},(∀ b∈fp,H' b=none)→∀ b∈fp,eK (cD X sc (bI own cap) (s2.heap.push { cls:=.type "list",data:=.seq ([]:List Value).toArray }).objs.size { s2 with heap:=s2.heap.push { cls:=.type "list",data:=.seq ([]:List Value).toArray },toks:=s2.toks } (upd H2 s2.heap.objs.size (.lst [])) fp) [] H' b:=fun hn b hb =>
  ⟨hn b hb,(J0.ok.exf b hb).1,J0.ok.exfs b hb,.inl hb,(J0.ok.exf b hb).2,fun p hp=>absurd (show p∈([]:List (Addr × Obj)) from hp) (by simp)⟩
 have st4:tn 0 h4:=T.keep _ _ _ st2 fun b hb o q=>kp b o (Heap.get?_push_of_some _ q)
 have fr0:∀ b∈fp,(upd H2 s2.heap.objs.size (.lst [])) b=none:=fun b hb=>(f3 b hb).1
 have loop:codeAny (model X.prog X.w) X.A (.compLoop (.ListComp elt [⟨target,iter,[],0⟩] sc pos) 0 (.ref it) (.ref s2.heap.objs.size) (compEnvC sc (gR X.env sc.names []) (s2.heap.push { cls:=.type "list",data:=.seq ([]:List Value).toArray }).objs.size X.env))
   (compPost (model X.prog X.w) X.A X.xe use Qf (.ref s2.heap.objs.size) (s2.heap.push { cls:=.type "list",data:=.seq ([]:List Value).toArray }).objs.size) { s2 with heap:=h4,toks:=s2.toks+([]:List (Str × Value)).length }:=by
  obtain ⟨W,⟨m0,w0⟩,turn⟩:=hW s2.heap.objs.size hD
  refine aeh (fun n s'=>∃ i σ' H' ys,Inv (cD X sc (bI own cap) (s2.heap.push { cls:=.type "list",data:=.seq ([]:List Value).toArray }).objs.size { s2 with heap:=s2.heap.push { cls:=.type "list",data:=.seq ([]:List Value).toArray },toks:=s2.toks } (upd H2 s2.heap.objs.size (.lst [])) fp) [] σ' H' s'∧tn i s'.heap∧(∀ b∈fp,H' b=none)∧W i n σ' H' ys) ?_ m0
   ⟨0,_,_,[],J0,st4,fr0,w0⟩
  rintro n s5 ⟨i,σ5,H5,ys,I5,st5,fr5,w5⟩
  obtain ⟨hD5,w5⟩:=turn i n σ5 H5 ys w5
  rcases w5 with ⟨stop,qn⟩ | ⟨go,hlt,step⟩
  ·refine thn (T.done (cD X sc (bI own cap) (s2.heap.push { cls:=.type "list",data:=.seq ([]:List Value).toArray }).objs.size { s2 with heap:=s2.heap.push { cls:=.type "list",data:=.seq ([]:List Value).toArray },toks:=s2.toks } (upd H2 s2.heap.objs.size (.lst [])) fp) rfl rfl rfl hc i [] s5 σ5 H5 _ I5 (stat fr5) st5 stop) fun r s6 ⟨hr,I6⟩=>?_
   subst hr
   obtain ⟨m,hn,_⟩:=id I6.loc
   exact fin _ _ s6 H5 m (I2.uncmp (s3:={ s2 with heap:=s2.heap.push { cls:=.type "list",data:=.seq ([]:List Value).toArray },toks:=s2.toks }) f2 un rfl I6) (I3.fpOk (Nat.le_refl _) I6.free) hn qn
  ·refine thn (T.item (cD X sc (bI own cap) (s2.heap.push { cls:=.type "list",data:=.seq ([]:List Value).toArray }).objs.size { s2 with heap:=s2.heap.push { cls:=.type "list",data:=.seq ([]:List Value).toArray },toks:=s2.toks } (upd H2 s2.heap.objs.size (.lst [])) fp) rfl rfl rfl hc i [] s5 σ5 H5 _ I5 (stat fr5) st5 go) fun r s6 ⟨u,hr,h6⟩=>?_
   subst hr
   refine thn h6 fun _ s7 ⟨x,H7,I7,r7,y7,st7,fr7⟩=>?_
   have I7':=I7.pinned (stat fr7) (T.obj _ _ st7)
   refine thn (hg _ _ _ _ _ s7 σ5 H7 x u _ I7' r7 (step x H7 y7)) fun _ s8 ⟨σ8,H8,I8,q8⟩=>?_
   refine thn (he _ _ _ _ _ s8 σ8 H8 _ I8 q8) fun v9 s9 ⟨y,H9,I9,r9,hD9,m',hm,w9⟩=>?_
   refine thn (tV _ s9 σ8 H9 (.ref s2.heap.objs.size) [y] (.ref s2.heap.objs.size) [v9] (fun _ H'=>H'=upd H9 s2.heap.objs.size (.lst (ys++[y]))) I9 rfl (.cons r9 .nil) ⟨_,ys,y,rfl,rfl,hD9,hlt,rfl⟩) fun _ s10 ⟨_,H10,I10,_,q10⟩=>?_
   subst q10
   refine ⟨m',hm,i+1,σ8,_,_,I10.unpinned,T.keep _ _ _ st7 fun b hb o q=>(I10.pin (b,o) (List.mem_append_right _ (List.mem_append_right _ (lG hb q)))).1,fun b hb=>?_,w9⟩
   obtain ⟨o,q,d⟩:=T.obj _ _ st7 b hb
   exact (I10.pin (b,o) (List.mem_append_right _ (List.mem_append_right _ (lG hb q)))).2.1
 exact codeAny_compStart_list loop (T.self _ 0 _ _ _ st4 loop)
theorem ahQ (k:gM X sc own cap) (hi:PI X target iter wi) (hc:X.calm=true)
  (hg:∀ C s₀ H₀ ex,PG (cD X sc (bI own cap) C s₀ H₀ ex) target g) (he:∀ C s₀ H₀ ex,PE (cD X sc (bI own cap) C s₀ H₀ ex) elt te)
  (hs:∀ x,foldedSetIterable iter X.env x=pure x:=by intro _; rfl):PE X (.ListComp elt [⟨target,iter,[],0⟩] sc pos) (nO own cap wi g te):=by
 intro pins s σ H Q I h
 rw [eval_ListComp]
 refine acs (use:=none) k hi hc hg he I h (fun D C s' H' m I' fC hn q=>?_) hs
 refine ⟨m,hn,fun h' sb=>⟨.ref D,H',?_,rfl,q⟩⟩
 obtain ⟨f0,f1,f2,f3,f4,f5⟩:=fC
 exact I'.turned (t':=s'.toks) (fun b o hb e=>(sb.2 b hb).trans e) f0 f1 f3 f4 f5
theorem aiy {i:Nat} {x:Str} {py spos:Pos} (hN:X.N.Nodup) (hx:X.N[i]?=some x) (hl:Loc X.env.scope x) (k:gM X sc own cap) (hi:PI X target iter wi) (hc:X.calm=true)
  (hg:∀ C s₀ H₀ ex,PG (cD X sc (bI own cap) C s₀ H₀ ex) target g) (he:∀ C s₀ H₀ ex,PE (cD X sc (bI own cap) C s₀ H₀ ex) elt te)
  (hs:∀ x,foldedSetIterable iter X.env x=pure x:=by intro _; rfl) (hsw:swapsWith (.ListComp elt [⟨target,iter,[],0⟩] sc pos) (some (.Name x py)) spos.line X.env=pure true:=by rfl)
  (hf:X.fn x=true∨X.env.scope.names.lookup x=some .local:=by first | exact .inl rfl | exact .inr rfl | assumption) :
  PS X (.Assign [.Name x py] (.ListComp elt [⟨target,iter,[],0⟩] sc pos) spos) (wR (nO own cap wi g te) (wB i)):=by
 intro pins s σ H D I h
 rw [exec_Assign_Name_used _ _ _ _ hsw]
 refine wpAny_bind (wpAny_standAt (wpAny_bind ?_))
 show wpAny _ X.A (comprehension (.ListComp elt [⟨target,iter,[],0⟩] sc pos) sc X.env _ (newList []) false (eval iter X.env) (some (assign (.Name x py) X.env)) >>= fun _=>pure ()) _ _ s
 refine wpAny_bind (thn (acs (use:=some (assign (.Name x py) X.env)) (Qf:=fun _ s'=>SP X pins D .next s') k hi hc hg he I h (fun B C s' H' m I' fC hn q=>?_) hs) fun _ s' hq=>wpAny_pure (wpAny_pure hq))
 show wpAny _ _ (assign (.Name x py) X.env (.ref B)) _ _ s'
 obtain ⟨o,es,ep,ho,hd,r⟩:=hn
 obtain ⟨f0,f1,f2,f3,f4,f5⟩:=fC
 have I'':Inv X (pins++[(C,o)]) σ H' s':=I'.pins_of fun p hp=>(List.mem_append.mp hp).elim (fun z=>I'.pin p (List.mem_append_right _ z)) fun z=>by
  have e:p=(C,o):=by simpa using z
  subst e
  exact ⟨ho,f0,f1,f2,fun v z=>by rw [hd] at z; cases z⟩
 refine wpAny_assign_Name (mX I'' hN hx hl (v:=.ref B) rfl (fun s2 I2=>?_) hf)
 have pC:=I2.pin (C,o) (by simp)
 refine ⟨m,⟨o,es,ep,pC.1,hd,r⟩,fun h' sb=>⟨_,H',?_,q⟩⟩
 exact (I2.unpinned).turned (t':=s2.toks) (fun b o hb e=>(sb.2 b hb).trans e) f0 f1 f3 f4 f5
end
section
variable {X:Cx}
theorem uC (hc:X.calm=true):gA X (.builtin "all") (fun xs H Q=>∃ (a:Addr) (bs:List Bool),xs=[.ref a]∧SqL X.K H a (bs.map V.bl)∧Q (.bl (bs.all id)) H):=by
 intro pins s σ H xs us Q I r h
 obtain ⟨a,bs,rfl,hq,q⟩:=h
 obtain ⟨u,rfl,ru⟩:=gZ r
 cases ru
 obtain ⟨its,rv,pl,hz⟩:=I.list hq
 have hl:bs.length=its.length:=by
  have:=rv.length
  rwa [List.length_map] at this
 refine call_all_walk (wpAny_pyIter_list pl.isList ?_)
 have ha:a < s.heap.objs.size:=by
  obtain ⟨o,ho,_⟩:=pl.isList
  exact Heap.lt_size ho
 refine ⟨_,_,_,_,_,_,fun i=>bs.getD i true,rfl,Walks.list (prog:=X.prog) (w:=X.w) (A:=X.A.in1) (show X.A.in1.handled=none from I.ok.hd hc) s.heap.objs.size a (Nat.ne_of_lt ha) its.toArray,⟨⟨_,Heap.get?_push_size _ rfl,rfl,rfl⟩,Heap.IsList.at pl.isList fun o e=>Heap.get?_push_of_some _ e⟩,fun i v s' Q' E' hv hQ=>?_,fun h' tk kp=>?_⟩
 ·have hv':its[i]?=some v:=by simpa using hv
  have hi:i < bs.length:=by
   have:=(List.getElem?_eq_some_iff.mp hv').1
   omega
  obtain ⟨u,hu,ru⟩:=rv.get (i:=i) (x:=.bl bs[i]) (by rw [List.getElem?_map,List.getElem?_eq_getElem hi]; rfl)
  rw [hv'] at hu
  cases hu
  cases (show v=Value.bool bs[i] from ru)
  have e:bs.getD i true=bs[i]:=by simp [List.getD,hi]
  have hQ':Q' (bs.getD i true) s':=hQ
  rw [e] at hQ'
  exact wpAny_truthy_bool hQ'
 ·have e:(List.range its.toArray.size).all (fun i=>bs.getD i true)=bs.all id:=by
   rw [List.size_toArray,← hl,Bool.eq_iff_iff,List.all_eq_true,List.all_eq_true]
   constructor
   ·intro z b hb
    obtain ⟨i,hi,rfl⟩:=List.mem_iff_getElem.mp hb
    have:=z i (by simpa using hi)
    simpa [List.getD,hi] using this
   ·intro z i hi
    have hi':i < bs.length:=by simpa using hi
    have:=z bs[i] (List.getElem_mem hi')
    simpa [List.getD,hi'] using this
  show EP X pins σ Q (.bool ((List.range its.toArray.size).all fun i=>bs.getD i true)) _
  rw [e]
  have I1:Inv X pins σ H { s with heap:=s.heap.push { cls:=.type "list_iterator",data:=.fields #[.ref a,.int 0 0] },toks:=s.toks }:=I.kept fun b o z=>Heap.get?_push_of_some _ z
  have fp:eK X pins H s.heap.objs.size:=I.fpOk (Nat.le_refl _) (I.hok.fresh (Nat.le_refl _))
  obtain ⟨f0,f1,f2,f3,f4,f5⟩:=fp
  exact ⟨.bl (bs.all id),H,I1.turned (fun b o hb z=>kp b o (by simpa using hb) z) f0 f1 f3 f4 f5,rfl,q⟩
end
end L2
namespace L2
open PySem Bn
section
variable {prog:Program} {w:World} {A:Around} {E:Value→Shared→Prop} {s:Shared}
theorem adI {it t:Addr} {i:Nat} {items:Array Value} {x:Value} {Q:Value→Shared→Prop} (git:s.heap.IsTupleIter it t i) (gt:s.heap.IsTuple t items) (gx:items[i]?=some x)
  (gQ:∀ h',h'.IsTupleIter it t (i+1)→Heap.SameBut it s.heap h'→Q x { s with heap:=h' }):wpAny (model prog w) A (Builtin.SmallTypes.nextOf (.ref it)) Q E s:=by
 obtain ⟨o,go,gc,gd⟩:=id git
 obtain ⟨ol,gol,_,nl,gdl⟩:=gt
 unfold Builtin.SmallTypes.nextOf
 refine wpAny_bind (wpAny_callSpecial?_slot (name:=Str.ofString "__next__") git.typeIs F.slot_tuple_iterator_next (wpAny_call_entry F.slot_tuple_iterator_next git.typeIs F.entry_tuple_iterator_next ?_ (F.args_tuple_iterator_next_1 _)))
 show wpAny _ _ (field (.ref it) 0 >>= _) _ _ s
 refine wpAny_bind (wpAny_field go gd (x:=.ref t) rfl ?_)
 show wpAny _ _ (if (Value.ref t == Value.none)=true then _ else _) _ _ s
 rw [if_neg (show ¬ ((Value.ref t == Value.none)=true) from Bool.false_ne_true)]
 show wpAny _ _ (field (.ref it) 1 >>= _) _ _ s
 refine wpAny_bind (wpAny_field go gd (x:=.int i 0) rfl ?_)
 show wpAny _ _ (seqItems? (.ref t) >>= _) _ _ s
 refine wpAny_bind (wpAny_seqItems gol gdl ?_)
 simp only [Int.toNat_natCast,gx]
 refine wpAny_bind (wpAny_setField go gd (by simp) (wpAny_pure ⟨_,rfl,wpAny_pure (gQ _ ?_ (Heap.SameBut.update ..))⟩))
 refine ⟨_,Heap.get?_update_self _ go (Obj.isFreed_of_fields (Obj.data_mapFields gd _)),(Obj.cls_mapFields ..).trans gc,?_⟩
 rw [Obj.data_mapFields gd]
 simp [rawInt]
theorem aa1 {it t:Addr} {i:Nat} {items:Array Value} {Q:Value→Shared→Prop} (hh:A.handled=none) (git:s.heap.IsTupleIter it t i) (gt:s.heap.IsTuple t items) (gx:items[i]?=none)
  (gE:∀ h' e,Heap.ExtBut it s.heap h'→(∃ o,h'.get? e=some o∧o.cls=.type "StopIteration")→E (.ref e) { s with heap:=h' }):wpAny (model prog w) A (Builtin.SmallTypes.nextOf (.ref it)) Q E s:=by
 obtain ⟨o,go,gc,gd⟩:=id git
 obtain ⟨ol,gol,_,nl,gdl⟩:=gt
 unfold Builtin.SmallTypes.nextOf
 refine wpAny_bind (wpAny_callSpecial?_slot (name:=Str.ofString "__next__") git.typeIs F.slot_tuple_iterator_next (wpAny_call_entry F.slot_tuple_iterator_next git.typeIs F.entry_tuple_iterator_next ?_ (F.args_tuple_iterator_next_1 _)))
 show wpAny _ _ (field (.ref it) 0 >>= _) _ _ s
 refine wpAny_bind (wpAny_field go gd (x:=.ref t) rfl ?_)
 show wpAny _ _ (if (Value.ref t == Value.none)=true then _ else _) _ _ s
 rw [if_neg (show ¬ ((Value.ref t == Value.none)=true) from Bool.false_ne_true)]
 show wpAny _ _ (field (.ref it) 1 >>= _) _ _ s
 refine wpAny_bind (wpAny_field go gd (x:=.int i 0) rfl ?_)
 show wpAny _ _ (seqItems? (.ref t) >>= _) _ _ s
 refine wpAny_bind (wpAny_seqItems gol gdl ?_)
 simp only [Int.toNat_natCast,gx]
 first
  | refine wpAny_bind (wpAny_rule (wpAny_bind (wpAny_setField go gd (by simp) (wpAny_bind (wpAny_letGo ?_)))))
  | refine wpAny_bind (wpAny_rule (wpAny_bind (wpAny_setField go gd (by simp) ?_)))
 show wpAny _ _ (newExc (.type "StopIteration") [] >>= _) _ _ _
 refine wpAny_bind ?_
 simp only [newExc,newTuple]
 refine wpAny_bind (wpAny_newObj_type ?_ (by size_fits))
 refine wpAny_bind (m:=firstArgMember _ _) (wpAny_of_eq (a:=Value.none) (by first | rfl | (simp only [firstArgMember]; rfl)) ?_)
 refine wpAny_newObj_type ?_ (by size_fits)
 simp only [raiseNew]
 refine wpAny_bind (wpAny_handled ?_)
 first
  | rw [show A.in1.handled=none from hh]
  | rw [hh]
 refine wpAny_bind (wpAny_pure (wpAny_throw ?_))
 exact gE _ _ (((Heap.SameBut.update ..).extBut.push _).push _) ⟨_,Heap.get?_push_size _ rfl,rfl⟩
end
theorem aga {prog:Program} {w:World} {A:Around} (hh:A.handled=none) (it t:Addr) (hne:t≠it) (items:Array Value) :
  Draws prog w A it [it,t] items.size (fun i v=>items[i]?=some v) (fun i h=>h.IsTupleIter it t i∧h.IsTuple t items) where
 live:=fun _ _ st=>let ⟨o,ho,_⟩:=st.1; ⟨o,ho⟩
 frame:=fun _ _ _ st hk=>⟨let ⟨o,ho,r⟩:=st.1; ⟨o,hk it (by simp) o ho,r⟩,let ⟨o,ho,r⟩:=st.2; ⟨o,hk t (by simp) o ho,r⟩⟩
 item:=fun i s Q E hi st hQ=>by
  refine adI st.1 st.2 (x:=items[i]) (by simp [hi]) fun h' hit' hs'=>?_
  exact hQ _ h' s.toks (by simp [hi]) ⟨hit',st.2.extBut hs'.extBut hne⟩ hs'
 done:=fun s Q E st hE=>aa1 hh st.1 st.2 (by simp) hE
structure ZAp (z TI TO i1 i2:Addr) (fp1 fp2:List Addr):Prop where
 tiz:TI≠z
 toz:TO≠z
 tito:TI≠TO
 ti1:TI≠i1
 ti2:TI≠i2
 z1:z ∉ fp1
 z2:z ∉ fp2
 to1:TO ∉ fp1
 to2:TO ∉ fp2
 i12:i1 ∉ fp2
 i21:i2 ∉ fp1
 m1:i1∈fp1
 m2:i2∈fp2
section
variable {prog:Program} {w:World} {A:Around} {E:Value→Shared→Prop} {s:Shared} {z TI TO i1 i2:Addr} {fp1 fp2:List Addr} {n1 n2 i:Nat} {P1 P2:Nat→Value→Prop} {S1 S2:Nat→Heap→Prop} {a b:Value}
theorem afv {Q:Value→Shared→Prop} (D1:Draws prog w A i1 fp1 n1 P1 S1) (D2:Draws prog w A i2 fp2 n2 P2 S2) (ap:ZAp z TI TO i1 i2 fp1 fp2) (gz:IsZip s.heap z TI TO .none) (gTI:IsPair s.heap TI (.ref i1) (.ref i2)) (gTO:IsPair s.heap TO a b)
  (g1:S1 i s.heap) (g2:S2 i s.heap) (l1:i < n1) (l2:i < n2)
  (gQ:∀ h' tk x y,P1 i x→P2 i y→IsZip h' z TI TO (rawInt s.heap.objs.size)→IsPair h' TO x y→S1 (i+1) h'→S2 (i+1) h'→IsPair h' s.heap.objs.size x y →
   (∀ c o,c≠z→c≠TO→c≠i1→c≠i2→s.heap.get? c=some o→h'.get? c=some o)→Q (.ref s.heap.objs.size) { s with heap:=h',toks:=tk }) :
  wpAny (model prog w) A (Builtin.«zip.__next__» ⟨[.ref z],[]⟩) (fun fin s'=>∃ v,fin=.done (.ret v)∧Q v s') E s:=by
 have nz1:i1≠z:=fun q=>ap.z1 (q ▸ ap.m1)
 have nz2:i2≠z:=fun q=>ap.z2 (q ▸ ap.m2)
 have nt1:TO≠i1:=fun q=>ap.to1 (q ▸ ap.m1)
 have nt2:TO≠i2:=fun q=>ap.to2 (q ▸ ap.m2)
 show wpAny _ _ (field (.ref z) 2 >>= _) _ _ _
 refine wpAny_bind (wpAny_field gz rfl (x:=.bool false) rfl ?_)
 show wpAny _ _ (field (.ref z) 3 >>= _) _ _ _
 refine wpAny_bind (wpAny_field gz rfl (x:=.ref TI) rfl ?_)
 refine wpAny_bind (wpAny_seqItems gTI rfl ?_)
 show wpAny _ _ (Builtin.SmallTypes.ownedTupleIsFree (.ref z) >>= _) _ _ _
 refine wpAny_bind ?_
 unfold Builtin.SmallTypes.ownedTupleIsFree
 refine wpAny_bind (wpAny_field gz rfl (x:=.none) rfl (wpAny_pure ?_))
 simp only [if_true]
 refine wpAny_bind (wpAny_rule ?_)
 refine wpAny_bind (wpAny_field gz rfl (x:=.ref TO) rfl ?_)
 refine wpAny_bind (wpAny_setField_rec gz (by simp) fun h1 gz1 s1=>?_)
 replace gz1:IsZip h1 z TI TO .ellipsis:=gz1
 refine wpAny_bind ?_
 simp only [List.zipIdx_cons,List.zipIdx_nil,List.forIn_cons,List.forIn_nil]
 refine wpAny_bind (wpAny_bind (wpAny_onRaise ?_))
 show wpAny _ _ (Builtin.SmallTypes.nextOf (.ref i1) >>= _) _ _ _
 refine wpAny_bind (D1.item i _ _ _ l1 (D1.frame _ _ _ g1 fun c hc o q=>s1.extBut c o (fun e=>ap.z1 (e ▸ hc)) q) fun x h2 tk2 px g1' s2=>wpAny_pure ?_)
 have gTO2:IsPair h2 TO a b:=s2.extBut _ _ nt1 (s1.extBut _ _ ap.toz gTO)
 refine wpAny_bind (wpAny_seqItems gTO2 rfl ?_)
 refine wpAny_bind (wpAny_updateSeq_pair (s:={ s with heap:=h2,toks:=tk2 }) gTO2 fun h3 gTO3 s3=>?_)
 replace gTO3:IsPair h3 TO x b:=gTO3
 replace s3:Heap.SameBut TO h2 h3:=s3
 refine wpAny_bind (wpAny_letGo (wpAny_pure ?_))
 refine wpAny_bind (wpAny_bind (wpAny_onRaise ?_))
 show wpAny _ _ (Builtin.SmallTypes.nextOf (.ref i2) >>= _) _ _ _
 have g2':S2 i h3:=D2.frame _ _ _ g2 fun c hc o q=>s3.extBut c o (fun e=>ap.to2 (e ▸ hc)) (s2.extBut c o (fun e=>ap.i12 (e ▸ hc)) (s1.extBut c o (fun e=>ap.z2 (e ▸ hc)) q))
 refine wpAny_bind (D2.item i _ _ _ l2 g2' fun y h4 tk4 py g2'' s4=>wpAny_pure ?_)
 replace s4:Heap.SameBut i2 h3 h4:=s4
 have gTO4:IsPair h4 TO x b:=s4.extBut _ _ nt2 gTO3
 refine wpAny_bind (wpAny_seqItems gTO4 rfl ?_)
 refine wpAny_bind (wpAny_updateSeq_pair (s:={ s with heap:=h4,toks:=tk4 }) gTO4 fun h5 gTO5 s5=>?_)
 replace gTO5:IsPair h5 TO x y:=gTO5
 replace s5:Heap.SameBut TO h4 h5:=s5
 refine wpAny_bind (wpAny_letGo (wpAny_pure (wpAny_pure ?_)))
 refine wpAny_bind (wpAny_seqItems gTO5 rfl ?_)
 refine wpAny_bind (wpAny_newTuple ?_)
 have hsz:h5.objs.size=s.heap.objs.size:=by rw [s5.1,s4.1,s3.1,s2.1,s1.1]
 have gz5:IsZip h5 z TI TO .ellipsis:=s5.extBut _ _ ap.toz.symm (s4.extBut _ _ nz2.symm (s3.extBut _ _ ap.toz.symm (s2.extBut _ _ nz1.symm gz1)))
 have k5:∀ c o,c≠z→c≠TO→c≠i1→c≠i2→s.heap.get? c=some o→h5.get? c=some o:=fun c o c1 c2 c3 c4 q=>s5.extBut _ _ c2 (s4.extBut _ _ c4 (s3.extBut _ _ c2 (s2.extBut _ _ c3 (s1.extBut _ _ c1 q))))
 have g15:S1 (i+1) h5:=D1.frame _ _ _ g1' fun c hc o q=>s5.extBut c o (fun e=>ap.to1 (e ▸ hc)) (s4.extBut c o (fun e=>ap.i21 (e ▸ hc)) (s3.extBut c o (fun e=>ap.to1 (e ▸ hc)) q))
 have g25:S2 (i+1) h5:=D2.frame _ _ _ g2'' fun c hc o q=>s5.extBut c o (fun e=>ap.to2 (e ▸ hc)) q
 have zlt:z < h5.objs.size:=Heap.lt_size gz5
 show wpAny _ _ (Builtin.SmallTypes.ownedTupleHandOut (.ref z) (.ref h5.objs.size) >>= _) _ _ _
 refine wpAny_bind ?_
 unfold Builtin.SmallTypes.ownedTupleHandOut
 have gz6:IsZip (h5.push { cls:=.type "tuple",data:=.seq #[x,y] }) z TI TO .ellipsis:=Heap.get?_push_of_some _ gz5
 refine wpAny_bind (wpAny_setField_rec gz6 (by simp) fun h7 gz7 s7=>?_)
 replace gz7:IsZip h7 z TI TO (rawInt h5.objs.size):=gz7
 refine wpAny_setField_rec gz7 (by simp) fun h8 gz8 s8=>?_
 replace gz8:IsZip h8 z TI TO (rawInt h5.objs.size):=gz8
 have up:∀ c o,c≠z→h5.get? c=some o→h8.get? c=some o:=fun c o c1 q=>s8.extBut _ _ c1 (s7.extBut _ _ c1 (Heap.get?_push_of_some _ q))
 have gT8:IsPair h8 h5.objs.size x y:=s8.extBut _ _ (Nat.ne_of_gt zlt) (s7.extBut _ _ (Nat.ne_of_gt zlt) (Heap.get?_push_size _ rfl))
 rw [hsz] at gz8 gT8
 refine wpAny_pure ⟨_,rfl,?_⟩
 show Q (.ref h5.objs.size) _
 rw [hsz]
 exact gQ h8 _ x y px py gz8 (up _ _ ap.toz gTO5) (D1.frame _ _ _ g15 fun c hc o q=>up c o (fun e=>ap.z1 (e ▸ hc)) q) (D2.frame _ _ _ g25 fun c hc o q=>up c o (fun e=>ap.z2 (e ▸ hc)) q) gT8 fun c o c1 c2 c3 c4 q=>up c o c1 (k5 c o c1 c2 c3 c4 q)
theorem aeq {Q:Fin→Shared→Prop} (D1:Draws prog w A i1 fp1 n1 P1 S1) (D2:Draws prog w A i2 fp2 n2 P2 S2) (ap:ZAp z TI TO i1 i2 fp1 fp2) (gz:IsZip s.heap z TI TO .none) (gTI:IsPair s.heap TI (.ref i1) (.ref i2)) (gTO:IsPair s.heap TO a b)
  (g1:S1 i s.heap) (g2:S2 i s.heap) (fin:i=n1∨(i < n1∧i=n2))
  (gE:∀ h' tk e,(∀ c o,c≠z→c≠TO→c≠i1→c≠i2→s.heap.get? c=some o→h'.get? c=some o)→(∃ o,h'.get? e=some o∧o.cls=.type "StopIteration")→E (.ref e) { s with heap:=h',toks:=tk }) :
  wpAny (model prog w) A (Builtin.«zip.__next__» ⟨[.ref z],[]⟩) Q E s:=by
 have nz1:i1≠z:=fun q=>ap.z1 (q ▸ ap.m1)
 have nz2:i2≠z:=fun q=>ap.z2 (q ▸ ap.m2)
 have nt1:TO≠i1:=fun q=>ap.to1 (q ▸ ap.m1)
 have nt2:TO≠i2:=fun q=>ap.to2 (q ▸ ap.m2)
 show wpAny _ _ (field (.ref z) 2 >>= _) _ _ _
 refine wpAny_bind (wpAny_field gz rfl (x:=.bool false) rfl ?_)
 show wpAny _ _ (field (.ref z) 3 >>= _) _ _ _
 refine wpAny_bind (wpAny_field gz rfl (x:=.ref TI) rfl ?_)
 refine wpAny_bind (wpAny_seqItems gTI rfl ?_)
 show wpAny _ _ (Builtin.SmallTypes.ownedTupleIsFree (.ref z) >>= _) _ _ _
 refine wpAny_bind ?_
 unfold Builtin.SmallTypes.ownedTupleIsFree
 refine wpAny_bind (wpAny_field gz rfl (x:=.none) rfl (wpAny_pure ?_))
 simp only [if_true]
 refine wpAny_bind (wpAny_rule ?_)
 refine wpAny_bind (wpAny_field gz rfl (x:=.ref TO) rfl ?_)
 refine wpAny_bind (wpAny_setField_rec gz (by simp) fun h1 gz1 s1=>?_)
 replace gz1:IsZip h1 z TI TO .ellipsis:=gz1
 refine wpAny_bind ?_
 simp only [List.zipIdx_cons,List.zipIdx_nil,List.forIn_cons,List.forIn_nil]
 refine wpAny_bind (wpAny_bind (wpAny_onRaise ?_))
 show wpAny _ _ (Builtin.SmallTypes.nextOf (.ref i1) >>= _) _ _ _
 have g1':S1 i h1:=D1.frame _ _ _ g1 fun c hc o q=>s1.extBut c o (fun e=>ap.z1 (e ▸ hc)) q
 rcases fin with e1 | ⟨l1,e2⟩
 ·subst e1
  refine wpAny_bind (D1.done _ _ _ g1' fun h2 e s2 he=>?_)
  obtain ⟨oe,hoe,hce⟩:=he
  have gz2:IsZip h2 z TI TO .ellipsis:=s2 _ _ nz1.symm gz1
  have hez:e≠z:=fun q=>by
   subst q
   rw [gz2] at hoe
   cases hoe
   simp at hce
  refine wpAny_setField_rec (s:={ s with heap:=h2 }) gz2 (by simp) fun h3 _ s3=>?_
  exact gE h3 _ e (fun c o c1 _ c3 _ q=>s3.extBut _ _ c1 (s2 _ _ c3 (s1.extBut _ _ c1 q))) ⟨oe,s3.extBut _ _ hez hoe,hce⟩
 ·subst e2
  refine wpAny_bind (D1.item i _ _ _ l1 g1' fun x h2 tk2 px g1'' s2=>wpAny_pure ?_)
  have gTO2:IsPair h2 TO a b:=s2.extBut _ _ nt1 (s1.extBut _ _ ap.toz gTO)
  refine wpAny_bind (wpAny_seqItems gTO2 rfl ?_)
  refine wpAny_bind (wpAny_updateSeq_pair (s:={ s with heap:=h2,toks:=tk2 }) gTO2 fun h3 gTO3 s3=>?_)
  replace s3:Heap.SameBut TO h2 h3:=s3
  refine wpAny_bind (wpAny_letGo (wpAny_pure ?_))
  refine wpAny_bind (wpAny_bind (wpAny_onRaise ?_))
  show wpAny _ _ (Builtin.SmallTypes.nextOf (.ref i2) >>= _) _ _ _
  have g2':S2 i h3:=D2.frame _ _ _ g2 fun c hc o q=>s3.extBut c o (fun e=>ap.to2 (e ▸ hc)) (s2.extBut c o (fun e=>ap.i12 (e ▸ hc)) (s1.extBut c o (fun e=>ap.z2 (e ▸ hc)) q))
  refine wpAny_bind (D2.done _ _ _ g2' fun h4 e s4 he=>?_)
  replace s4:Heap.ExtBut i2 h3 h4:=s4
  obtain ⟨oe,hoe,hce⟩:=he
  have gz4:IsZip h4 z TI TO .ellipsis:=s4 _ _ nz2.symm (s3.extBut _ _ ap.toz.symm (s2.extBut _ _ nz1.symm gz1))
  have hez:e≠z:=fun q=>by
   subst q
   rw [gz4] at hoe
   cases hoe
   simp at hce
  refine wpAny_setField_rec (s:={ s with heap:=h4,toks:=tk2 }) gz4 (by simp) fun h5 _ s5=>?_
  exact gE h5 _ e (fun c o c1 c2 c3 c4 q=>s5.extBut _ _ c1 (s4 _ _ c4 (s3.extBut _ _ c2 (s2.extBut _ _ c3 (s1.extBut _ _ c1 q))))) ⟨oe,s5.extBut _ _ hez hoe,hce⟩
theorem acA {Q:Option Value→Shared→Prop} (D1:Draws prog w A.in1 i1 fp1 n1 P1 S1) (D2:Draws prog w A.in1 i2 fp2 n2 P2 S2) (ap:ZAp z TI TO i1 i2 fp1 fp2) (gz:IsZip s.heap z TI TO .none) (gTI:IsPair s.heap TI (.ref i1) (.ref i2)) (gTO:IsPair s.heap TO a b)
  (g1:S1 i s.heap) (g2:S2 i s.heap) (l1:i < n1) (l2:i < n2)
  (gQ:∀ h' tk x y,P1 i x→P2 i y→IsZip h' z TI TO (rawInt s.heap.objs.size)→IsPair h' TO x y→S1 (i+1) h'→S2 (i+1) h'→IsPair h' s.heap.objs.size x y →
   (∀ c o,c≠z→c≠TO→c≠i1→c≠i2→s.heap.get? c=some o→h'.get? c=some o)→Q (some (.ref s.heap.objs.size)) { s with heap:=h',toks:=tk }) :
  wpAny (model prog w) A (pyNext (.ref z)) Q E s:=by
 have gT:s.TypeIs (.ref z) "zip":=⟨_,gz,rfl⟩
 unfold pyNext
 refine wpAny_bind (wpAny_attempt (wpAny_callSpecial?_slot (name:=Str.ofString "__next__") gT F.slot_zip_next (wpAny_call_entry F.slot_zip_next gT F.entry_zip_next ?_ (F.args_zip_next_1 _))))
 exact afv D1 D2 ap gz gTI gTO g1 g2 l1 l2 fun h' tk x y p1 p2 e1 e2 e3 e4 e5 e6=>wpAny_pure (gQ h' tk x y p1 p2 e1 e2 e3 e4 e5 e6)
theorem aaW {Q:Option Value→Shared→Prop} (D1:Draws prog w A.in1 i1 fp1 n1 P1 S1) (D2:Draws prog w A.in1 i2 fp2 n2 P2 S2) (ap:ZAp z TI TO i1 i2 fp1 fp2) (gz:IsZip s.heap z TI TO .none) (gTI:IsPair s.heap TI (.ref i1) (.ref i2)) (gTO:IsPair s.heap TO a b)
  (g1:S1 i s.heap) (g2:S2 i s.heap) (fin:i=n1∨(i < n1∧i=n2))
  (gQ:∀ h' tk,(∀ c o,c≠z→c≠TO→c≠i1→c≠i2→s.heap.get? c=some o→h'.get? c=some o)→Q none { s with heap:=h',toks:=tk }):wpAny (model prog w) A (pyNext (.ref z)) Q E s:=by
 have gT:s.TypeIs (.ref z) "zip":=⟨_,gz,rfl⟩
 unfold pyNext
 refine wpAny_bind (wpAny_attempt (wpAny_callSpecial?_slot (name:=Str.ofString "__next__") gT F.slot_zip_next (wpAny_call_entry F.slot_zip_next gT F.entry_zip_next ?_ (F.args_zip_next_1 _))))
 refine aeq D1 D2 ap gz gTI gTO g1 g2 fin fun h' tk e hk he=>?_
 obtain ⟨o,ho,hc⟩:=he
 refine wpAny_bind (wpAny_isInstance (T:="StopIteration") (b:=true) ⟨o,ho,hc⟩ isSubtype_stop ?_)
 exact wpAny_pure (gQ _ _ hk)
end
end L2
namespace L2
open PySem Bn
abbrev wH (h:Heap) (o1:Obj):Heap:=h.push o1
abbrev wX (h:Heap) (o1 o2:Obj):Heap:=(wH h o1).push o2
abbrev wU (h:Heap) (o1 o2:Obj):Heap:=(wX h o1 o2).push { cls:=.type "tuple",data:=.seq #[.ref h.objs.size,.ref (wH h o1).objs.size] }
abbrev wG (h:Heap) (o1 o2:Obj):Heap:=(wU h o1 o2).push { cls:=.type "tuple",data:=.seq #[.none,.none] }
abbrev pZ (h:Heap) (o1 o2:Obj):Heap:=(wG h o1 o2).push { cls:=.type "zip",data:=.fields #[.none,.bool false,.bool false,.ref (wX h o1 o2).objs.size,.ref (wU h o1 o2).objs.size] }
def sH (l:Addr) (o:Obj) (G:Heap→Prop):Prop :=
 ∀ (prog:Program) (w:World) (A:Around) (E:Value→Shared→Prop) (s:Shared) (Q:Value→Shared→Prop),G s.heap→Q (.ref s.heap.objs.size) { s with heap:=s.heap.push o }→wpAny (model prog w) A (pyIter (.ref l)) Q E s
theorem aff (l1 l2:Addr) (o1 o2:Obj) (G1 G2:Heap→Prop) (p1:sH l1 o1 G1) (p2:sH l2 o2 G2) (k2:∀ h,G2 h→G2 (h.push o1)) :
  Meets (Builtin.«zip.__new__» ⟨[.type "zip",.ref l1,.ref l2],[]⟩) (fun _ R s=>G1 s.heap∧G2 s.heap∧R (.ok (.ret (.ref (wG s.heap o1 o2).objs.size))) { s with heap:=pZ s.heap o1 o2 }) :=
 .of_wp fun prog w A R s h=>by
  obtain ⟨hp,g,d,tk,os⟩:=s
  obtain ⟨g1,g2,h⟩:=h
  have hsub:=sub_zip
  have q1:=fun (A':Around) (E':Value→Shared→Prop) (Q':Value→Shared→Prop)=>p1 prog w A' E' ⟨hp,g,d,tk,os⟩ Q' g1
  have q2:=fun (A':Around) (E':Value→Shared→Prop) (Q':Value→Shared→Prop)=>p2 prog w A' E' ⟨hp.push o1,g,d,tk,os⟩ Q' (k2 _ g2)
  wp_walk using q1 _ _ _,q2 _ _ _
  exact ⟨_,rfl,h⟩
theorem aco {prog:Program} {w:World} {A:Around} {E:Value→Shared→Prop} {s:Shared} {l1 l2:Addr} {o1 o2:Obj} {G1 G2:Heap→Prop} {Q:Value→Shared→Prop} (p1:sH l1 o1 G1) (p2:sH l2 o2 G2) (k2:∀ h,G2 h→G2 (h.push o1)) (g1:G1 s.heap) (g2:G2 s.heap)
  (f1:o1.isFreed=false) (f2:o2.isFreed=false)
  (h:∀ h',IsZip h' (s.heap.objs.size+4) (s.heap.objs.size+2) (s.heap.objs.size+3) .none→IsPair h' (s.heap.objs.size+2) (.ref s.heap.objs.size) (.ref (s.heap.objs.size+1))→IsPair h' (s.heap.objs.size+3) .none .none →
   h'.get? s.heap.objs.size=some o1→h'.get? (s.heap.objs.size+1)=some o2→(∀ c o,s.heap.get? c=some o→h'.get? c=some o)→Q (.ref (s.heap.objs.size+4)) { s with heap:=h' }) :
  wpAny (model prog w) A (call (.type "zip") [.ref l1,.ref l2]) Q E s:=by
 refine callType_new F.called_zip (by decide) (F.typeCall_zip_2 _ _) (F.newCall_zip_2 _ _) (fun obj=>F.args_object_init_3 obj _ _) F.entry_zip_new (aff l1 l2 o1 o2 G1 G2 p1 p2 k2) ⟨g1,g2,?_⟩
 have e1:(wH s.heap o1).objs.size=s.heap.objs.size+1:=Heap.size_push ..
 have e2:(wX s.heap o1 o2).objs.size=s.heap.objs.size+2:=by rw [Heap.size_push,e1]
 have e3:(wU s.heap o1 o2).objs.size=s.heap.objs.size+3:=by rw [Heap.size_push,e2]
 have e4:(wG s.heap o1 o2).objs.size=s.heap.objs.size+4:=by rw [Heap.size_push,e3]
 have r5:(pZ s.heap o1 o2).get? (wG s.heap o1 o2).objs.size=some _:=Heap.get?_push_size _ rfl
 have r4:(pZ s.heap o1 o2).get? (wU s.heap o1 o2).objs.size=some _:=Heap.get?_push_of_some _ (Heap.get?_push_size _ rfl)
 have r3:(pZ s.heap o1 o2).get? (wX s.heap o1 o2).objs.size=some _:=Heap.get?_push_of_some _ (Heap.get?_push_of_some _ (Heap.get?_push_size _ rfl))
 have r2:(pZ s.heap o1 o2).get? (wH s.heap o1).objs.size=some o2:=Heap.get?_push_of_some _ (Heap.get?_push_of_some _ (Heap.get?_push_of_some _ (Heap.get?_push_size _ f2)))
 have r1:(pZ s.heap o1 o2).get? s.heap.objs.size=some o1:=Heap.get?_push_of_some _ (Heap.get?_push_of_some _ (Heap.get?_push_of_some _ (Heap.get?_push_of_some _ (Heap.get?_push_size _ f1))))
 show _∧_
 rw [e2,e3,e4] at r5
 rw [e1,e2] at r3
 rw [e3] at r4
 rw [e1] at r2
 rw [e4]
 exact ⟨⟨_,r5,rfl⟩,h _ r5 r3 r4 r1 r2 fun c o q=>Heap.get?_push_of_some _ (Heap.get?_push_of_some _ (Heap.get?_push_of_some _ (Heap.get?_push_of_some _ (Heap.get?_push_of_some _ q))))⟩
end L2
namespace L2
open PySem PySem.Spec PyProof.Rows Bn
def SqF (f:Bool) (K:PySem.W.Frag) (H:Hp) (a:Addr) (xs:List V):Prop:=match f with
 | true=>SqT K H a xs
 | false=>SqL K H a xs
def ItF (f:Bool) (it a:Addr) (i:Nat) (h:Heap):Prop:=match f with
 | true=>h.IsTupleIter it a i
 | false=>h.IsListIter it a i
def qC (f:Bool) (a:Addr) (items:Array Value) (h:Heap):Prop:=match f with
 | true=>h.IsTuple a items
 | false=>h.IsList a items
def ItO (f:Bool) (a:Addr):Obj:=match f with
 | true=>{ cls:=.type "tuple_iterator",data:=.fields #[.ref a,.int 0 0] }
 | false=>{ cls:=.type "list_iterator",data:=.fields #[.ref a,.int 0 0] }
section
variable {X:Cx} {pins:List (Addr × Obj)} {σ:St} {H:Hp} {s:Shared} {a:Addr} {xs ys:List V} {f:Bool}
theorem Inv.seqF (I:Inv X pins σ H s) (h:SqF f X.K H a xs):∃ its:List Value,bG xs its∧qC f a its.toArray s.heap∧xs.length≤sizeLine:=by
 cases f with
 | true =>
  obtain ⟨its,r,p,z⟩:=I.tuple h
  exact ⟨its,r,p,z⟩
 | false =>
  obtain ⟨its,r,p,z⟩:=I.list h
  exact ⟨its,r,p.isList,z⟩
theorem Inv.seqF_inj (I:Inv X pins σ H s) (h:SqF f X.K H a xs) (h':SqF f X.K H a ys):xs=ys:=by
 cases f with
 | true=>exact I.tuple_inj h h'
 | false=>exact I.list_inj h h'
theorem Inv.apart {b:Addr} (I:Inv X pins σ H s) (fb:eK X pins H b) (h:SqF f X.K H a xs):a≠b:=by
 have viaK:∀ {o:Obj},X.K.lookup a=some o→a≠b:=fun {o} q e=>by
  have hb:X.base.get? b=some o:=e ▸ I.ok.mod.kin a o q
  rcases fb.2.2.2.1 with z | z
  ·exact I.ok.noex b o hb z
  ·exact absurd (Nat.lt_of_lt_of_le (Heap.lt_size (I.ok.bs b o hb).1) z) (Nat.lt_irrefl _)
 cases f with
 | true =>
  rcases h with (h | ⟨o,h⟩) | ⟨o,_,_,q,_⟩
  ·exact fP h fb.1
  ·exact fP h fb.1
  ·exact viaK q
 | false =>
  rcases h with (h | ⟨o,h⟩) | ⟨o,_,_,q,_⟩
  ·exact fP h fb.1
  ·exact fP h fb.1
  ·exact viaK q
end
theorem vH {prog:Program} {w:World} {A:Around} (f:Bool) (hh:A.handled=none) (it a:Addr) (hne:a≠it) (items:Array Value) :
  Draws prog w A it [it,a] items.size (fun i v=>items[i]?=some v) (fun i h=>ItF f it a i h∧qC f a items h):=by
 cases f with
 | true=>exact aga hh it a hne items
 | false=>exact Draws.list hh it a hne items
theorem ajL (f:Bool) (a:Addr) (items:Array Value):sH a (ItO f a) (qC f a items):=by
 cases f with
 | true=>exact fun prog w A E s Q g q=>wpAny_pyIter_tuple g q
 | false=>exact fun prog w A E s Q g q=>wpAny_pyIter_list g q
theorem ItF.keep {f:Bool} {it a:Addr} {i:Nat} {h h':Heap} (x:ItF f it a i h) (k:∀ o,h.get? it=some o→h'.get? it=some o):ItF f it a i h':=by
 cases f with
 | true=>obtain ⟨o,e,r⟩:=x; exact ⟨o,k o e,r⟩
 | false=>obtain ⟨o,e,r⟩:=x; exact ⟨o,k o e,r⟩
theorem qC.keep {f:Bool} {a:Addr} {items:Array Value} {h h':Heap} (x:qC f a items h) (k:∀ o,h.get? a=some o→h'.get? a=some o):qC f a items h':=by
 cases f with
 | true=>obtain ⟨o,e,r⟩:=x; exact ⟨o,k o e,r⟩
 | false=>obtain ⟨o,e,r⟩:=x; exact ⟨o,k o e,r⟩
theorem ItF.obj {f:Bool} {it a:Addr} {i:Nat} {h:Heap} (x:ItF f it a i h):∃ o,h.get? it=some o∧∀ v,o.data≠.cell v:=by
 cases f with
 | true=>obtain ⟨o,e,_,d⟩:=x; exact ⟨o,e,fun v z=>by rw [d] at z; cases z⟩
 | false=>obtain ⟨o,e,_,d⟩:=x; exact ⟨o,e,fun v z=>by rw [d] at z; cases z⟩
theorem ack (f:Bool) (a it:Addr) {h:Heap} (e:h.get? it=some (ItO f a)):ItF f it a 0 h:=by
 cases f with
 | true=>exact ⟨_,e,rfl,rfl⟩
 | false=>exact ⟨_,e,rfl,rfl⟩
theorem ac1 (f:Bool) (a:Addr):(ItO f a).isFreed=false:=by cases f <;> rfl
def Itz (K : PySem.W.Frag) (f1 : Bool) (a : Addr) (f2 : Bool) (b : Addr) : It :=
  ⟨fun i H => ∃ xs ys x y, SqF f1 K H a xs ∧ SqF f2 K H b ys ∧ xs[i]? = some x ∧ ys[i]? = some y,
   fun i H v H' => ∃ p x y, H p = none ∧ v = .ref p ∧ H' = upd H p (.tup [x, y]) ∧ (∀ xs, SqF f1 K H a xs → xs[i]? = some x) ∧ ∀ ys, SqF f2 K H b ys → ys[i]? = some y,
   fun i H => ∃ xs ys, SqF f1 K H a xs ∧ SqF f2 K H b ys ∧ (i = xs.length ∨ (i < xs.length ∧ i = ys.length))⟩
structure wK (z TI TO i1 i2:Addr):Prop where
 tiz:TI≠z
 toz:TO≠z
 i1z:i1≠z
 i2z:i2≠z
 tito:TI≠TO
 ti1:TI≠i1
 ti2:TI≠i2
 to1:TO≠i1
 to2:TO≠i2
 i12:i1≠i2
theorem wK.ap {z TI TO i1 i2 a b:Addr} (r:wK z TI TO i1 i2) (h:∀ c∈[z,TI,TO,i1,i2],a≠c) (g:∀ c∈[z,TI,TO,i1,i2],b≠c):ZAp z TI TO i1 i2 [i1,a] [i2,b] where
 tiz:=r.tiz
 toz:=r.toz
 tito:=r.tito
 ti1:=r.ti1
 ti2:=r.ti2
 z1:=fun q=>by simp at q; rcases q with q | q; exact r.i1z q.symm; exact h z (by simp) q.symm
 z2:=fun q=>by simp at q; rcases q with q | q; exact r.i2z q.symm; exact g z (by simp) q.symm
 to1:=fun q=>by simp at q; rcases q with q | q; exact r.to1 q; exact h TO (by simp) q.symm
 to2:=fun q=>by simp at q; rcases q with q | q; exact r.to2 q; exact g TO (by simp) q.symm
 i12:=fun q=>by simp at q; rcases q with q | q; exact r.i12 q; exact g i1 (by simp) q.symm
 i21:=fun q=>by simp at q; rcases q with q | q; exact r.i12 q.symm; exact h i2 (by simp) q.symm
 m1:=by simp
 m2:=by simp
theorem agP {P:Program} {w:World} {K:PySem.W.Frag} {elts:List Expr} {x1:Nat} {tp:Pos} (f1 f2:Bool) (a b z TI TO i1 i2:Addr) (zr:wK z TI TO i1 i2) :
  nU P w K (.Tuple elts x1 tp) (Itz K f1 a f2 b) [z,TI,TO,i1,i2] z (fun i h=>IsZip h z TI TO .none∧IsPair h TI (.ref i1) (.ref i2)∧(∃ u v,IsPair h TO u v)∧ItF f1 i1 a i h∧ItF f2 i2 b i h) where
 mem:=by simp
 obj:=fun i h st c hc=>by
  obtain ⟨e1,e2,⟨u,v,e3⟩,e4,e5⟩:=st
  simp at hc
  rcases hc with q | q | q | q | q
  ·subst q
   exact ⟨_,e1,fun v z=>nomatch z⟩
  ·subst q
   exact ⟨_,e2,fun v z=>nomatch z⟩
  ·subst q
   exact ⟨_,e3,fun v z=>nomatch z⟩
  ·subst q
   exact e4.obj
  ·subst q
   exact e5.obj
 keep:=fun i h h' st k=>by
  obtain ⟨e1,e2,⟨u,v,e3⟩,e4,e5⟩:=st
  exact ⟨k z (by simp) _ e1,k TI (by simp) _ e2,⟨u,v,k TO (by simp) _ e3⟩,e4.keep fun o q=>k i1 (by simp) o q,e5.keep fun o q=>k i2 (by simp) o q⟩
 item:=by
  intro X hP hw hK hc i pins s σ H E I hf st hg
  subst hP hw hK
  obtain ⟨xs,ys,x,y,hx,hy,ex,ey⟩:=hg
  obtain ⟨its,r1,p1,_⟩:=I.seqF hx
  obtain ⟨jts,r2,p2,_⟩:=I.seqF hy
  obtain ⟨ux,gx,rx⟩:=r1.get ex
  obtain ⟨uy,gy,ry⟩:=r2.get ey
  obtain ⟨e1,e2,⟨u,v,e3⟩,e4,e5⟩:=st
  have na:∀ c∈[z,TI,TO,i1,i2],a≠c:=fun c hc=>I.apart (hf c hc) hx
  have nb:∀ c∈[z,TI,TO,i1,i2],b≠c:=fun c hc=>I.apart (hf c hc) hy
  have hd:X.A.in1.handled=none:=I.ok.hd hc
  have D1:=vH (prog:=X.prog) (w:=X.w) f1 hd i1 a (na i1 (by simp)) its.toArray
  have D2:=vH (prog:=X.prog) (w:=X.w) f2 hd i2 b (nb i2 (by simp)) jts.toArray
  refine acA D1 D2 (zr.ap na nb) e1 e2 e3 ⟨e4,p1⟩ ⟨e5,p2⟩ (List.getElem?_eq_some_iff.mp gx).1 (List.getElem?_eq_some_iff.mp gy).1 fun h1 tk vx vy px py q1 q2 q3 q4 q5 k1=>⟨_,rfl,?_⟩
  have ex':vx=ux:=by
   have:its[i]?=some vx:=by simpa using px
   rw [gx] at this
   exact (Option.some.inj this).symm
  have ey':vy=uy:=by
   have:jts[i]?=some vy:=by simpa using py
   rw [gy] at this
   exact (Option.some.inj this).symm
  subst ex' ey'
  have lt:∀ c∈[z,TI,TO,i1,i2],c≠s.heap.objs.size:=fun c hc=>by
   have:∃ o,s.heap.get? c=some o:=by
    simp at hc
    rcases hc with q | q | q | q | q
    ·exact ⟨_,q ▸ e1⟩
    ·exact ⟨_,q ▸ e2⟩
    ·exact ⟨_,q ▸ e3⟩
    ·obtain ⟨o,ho,_⟩:=e4.obj
     exact ⟨o,q ▸ ho⟩
    ·obtain ⟨o,ho,_⟩:=e5.obj
     exact ⟨o,q ▸ ho⟩
   obtain ⟨o,ho⟩:=this
   exact Nat.ne_of_lt (Heap.lt_size ho)
  refine wpAny_letOwnedTupleGo_zip (s:={ s with heap:=h1,toks:=tk }) q1 fun h2 z2 sb2=>?_
  have t2:h2.get? s.heap.objs.size=some { cls:=.type "tuple",data:=.seq #[vx,vy] }:=(sb2.2 _ (lt z (by simp)).symm).trans q5
  have I2:Inv X pins σ (upd H s.heap.objs.size (.tup [x,y])) { s with heap:=h2,toks:=tk } :=
   I.turnedNew hf (fun c o hc q=>(sb2.2 c (fun e=>hc (by simp [e]))).trans (k1 c o (fun e=>hc (by simp [e])) (fun e=>hc (by simp [e])) (fun e=>hc (by simp [e])) (fun e=>hc (by simp [e])) q)) (Nat.le_refl _)
    ⟨by show 2≤sizeLine; decide,[vx,vy],.cons rx (.cons ry .nil),⟨_,t2,rfl,_,rfl⟩⟩
  refine ⟨.ref s.heap.objs.size,_,I2,rfl,⟨_,x,y,I.hok.fresh (Nat.le_refl _),rfl,rfl,fun zs hz=>by rw [I.seqF_inj hz hx]; exact ex,fun zs hz=>by rw [I.seqF_inj hz hy]; exact ey⟩,
   ⟨z2,(sb2.2 _ zr.tiz).trans (k1 _ _ zr.tiz zr.tito zr.ti1 zr.ti2 e2),⟨_,_,(sb2.2 _ zr.toz).trans q2⟩,q3.1.keep fun o q=>(sb2.2 _ zr.i1z).trans q,q4.1.keep fun o q=>(sb2.2 _ zr.i2z).trans q⟩,fun c hc=>?_⟩
  rw [cK (lt c hc)]
  exact (hf c hc).1
 done:=by
  intro X hP hw hK hc i pins s σ H E I hf st hg
  subst hP hw hK
  obtain ⟨xs,ys,hx,hy,fin⟩:=hg
  obtain ⟨its,r1,p1,_⟩:=I.seqF hx
  obtain ⟨jts,r2,p2,_⟩:=I.seqF hy
  have l1:=r1.length
  have l2:=r2.length
  obtain ⟨e1,e2,⟨u,v,e3⟩,e4,e5⟩:=st
  have na:∀ c∈[z,TI,TO,i1,i2],a≠c:=fun c hc=>I.apart (hf c hc) hx
  have nb:∀ c∈[z,TI,TO,i1,i2],b≠c:=fun c hc=>I.apart (hf c hc) hy
  have hd:X.A.in1.handled=none:=I.ok.hd hc
  have D1:=vH (prog:=X.prog) (w:=X.w) f1 hd i1 a (na i1 (by simp)) its.toArray
  have D2:=vH (prog:=X.prog) (w:=X.w) f2 hd i2 b (nb i2 (by simp)) jts.toArray
  refine aaW D1 D2 (zr.ap na nb) e1 e2 e3 ⟨e4,p1⟩ ⟨e5,p2⟩ (by rw [List.size_toArray,List.size_toArray,← l1,← l2]; exact fin) fun h' tk k=>⟨rfl,?_⟩
  exact I.turnedL hf fun c o hc q=>k c o (fun e=>hc (by simp [e])) (fun e=>hc (by simp [e])) (fun e=>hc (by simp [e])) (fun e=>hc (by simp [e])) q
 self:=fun _ _ _ _ _ st h=>wpAny_pyIter_zip st.1 h
section
variable {X:Cx} {elts:List Expr} {x1:Nat} {tp:Pos}
def amc (K:PySem.W.Frag) (tl:TA):TI:=fun σ H R=>tl σ H fun vs H1=>∃ f1 a f2 b xs ys,vs=[.ref a,.ref b]∧SqF f1 K H1 a xs∧SqF f2 K H1 b ys∧R (Itz K f1 a f2 b) H1
theorem akm {l r:Expr} {tl:TA} {p pos:Pos} (hg:Gl X "zip") (hm:X.mg "zip"=none) (hl:PA X [l,r] tl) (hs:starEach [l,r] X.env=[(false,eval l X.env),(false,eval r X.env)]:=by rfl) (hs2:starEach [r] X.env=[(false,eval r X.env)]:=by rfl) :
  PI X (.Tuple elts x1 tp) (.Call (.Name "zip" p) [l,r] [] pos) (amc X.K tl):=by
 intro pins s σ H R I h
 refine Call_ (pA I hg hm boot_zip (PyProof.Rows.callWith_type1 (thn (hl pos pins s σ H _ I h) fun us s1 ⟨vs,H1,I1,r1,q1⟩=>?_) (by rw [hs,hs2]) (by rw [hs2]; rfl)))
 obtain ⟨f1,a,f2,b,xs,ys,rfl,hx,hy,q⟩:=q1
 obtain ⟨u,v,rfl,ru,rv⟩:=ahE r1
 cases ru
 cases rv
 obtain ⟨its,_,p1,_⟩:=I1.seqF hx
 obtain ⟨jts,_,p2,_⟩:=I1.seqF hy
 refine aco (ajL f1 a its.toArray) (ajL f2 b jts.toArray) (fun h g=>g.keep fun o z=>Heap.get?_push_of_some _ z) p1 p2 (ac1 _ _) (ac1 _ _) fun h' e1 e2 e3 e4 e5 k=>?_
 refine wpAny_pyIter_zip (s:={ s1 with heap:=h' }) e1 ?_
 have zr:wK (s1.heap.objs.size+4) (s1.heap.objs.size+2) (s1.heap.objs.size+3) s1.heap.objs.size (s1.heap.objs.size+1):=by
  generalize s1.heap.objs.size=n
  have g:∀ i j:Nat,i≠j→((n:Nat)+i:Nat)≠n+j:=fun i j h=>by omega
  exact ⟨g 2 4 (by decide),g 3 4 (by decide),g 0 4 (by decide),g 1 4 (by decide),g 2 3 (by decide),g 2 0 (by decide),g 2 1 (by decide),g 3 0 (by decide),g 3 1 (by decide),g 0 1 (by decide)⟩
 refine ⟨_,[s1.heap.objs.size+4,s1.heap.objs.size+2,s1.heap.objs.size+3,s1.heap.objs.size,s1.heap.objs.size+1],_,_,H1,rfl,I1.kept (t':=s1.toks) k,agP f1 f2 a b _ _ _ _ _ zr,⟨e1,e2,⟨_,_,e3⟩,ack f1 a _ e4,ack f2 b _ e5⟩,fun c hc=>?_,q⟩
 have hb:s1.heap.objs.size≤c:=by
  simp only [List.mem_cons,List.not_mem_nil,or_false] at hc
  rcases hc with q | q | q | q | q
  all_goals rw [q]
  all_goals first | exact Nat.le_refl _ | exact Nat.le_add_right _ _
 exact I1.fpOk hb (I1.hok.fresh hb)
end
end L2
namespace L2
open PySem PySem.Spec PyProof.Rows Bn
theorem ajk (K:PySem.W.Frag):PySem.W.kitOne K (.type "int") (.type "bool")=some false:=by
 unfold PySem.W.kitOne PySem.W.kitCls
 rw [if_neg (by decide)]
 show (if PySem.W.kitMeta "bool"=true then PySem.W.subIn K (.type "int") (.type "bool") else none)=some false
 rw [if_pos (by decide +kernel)]
 show (fastBuiltinMro "int").map (·.contains (.type "bool"))=some false
 decide +kernel
structure mF (K:PySem.W.Frag) (x qual:Str) (st:Stmt) (f:Addr) (fd:FuncData) (ds:Array Value):Prop where
 ex:∃ (oc:Value) (od:Option Addr) (T:Addr) (oT:Obj) (n:Nat) (kV doc pm:Value) (an:Option Addr) (cdv ct:Value) (osl:Array (Option Value)),
  fd=PySem.W.fnOf x qual (fX st) (eR st) (aW st) (.ref T) kV doc pm an cdv ct∧K.lookup f=some ⟨oc,od,.func fd,osl⟩∧PySem.W.codeIn K cdv qual=true∧K.lookup T=some oT∧oT.data=.seq ds n
 kp:PySem.W.keepIn K (.ref f)=true
section
variable {P:Program} {w:World} {K:PySem.W.Frag} {mg:Str→Option Value} {base:Heap}
theorem mF.binds {x qual:Str} {st:Stmt} {f:Addr} {fd:FuncData} {ds:Array Value} {ps:List Str} {dd:List Value} (F:mF K x qual st f fd ds)
  (h:∀ (T:Addr) (kV doc pm:Value) (an:Option Addr) (cdv ct:Value) (us:List Value),(us++dd).length=ps.length →
   ∃ k,bindArgs (PySem.W.fnOf x qual (fX st) (eR st) (aW st) (.ref T) kV doc pm an cdv ct) ⟨us,[]⟩=seqItems? (.ref T) >>= k∧k (some ds)=pure (ps.zip (us++dd))):eY K fd ps dd:=by
 obtain ⟨oc,od,T,oT,n,kV,doc,pm,an,cdv,ct,osl,rfl,lk,hcd,lT,hT⟩:=F.ex
 intro s us hK hl
 obtain ⟨k,h1,h2⟩:=h T kV doc pm an cdv ct us hl
 exact PySem.W.binds_K hK rfl lT hT h1 h2
theorem afC {x qual:Str} {st:Stmt} {f T:Addr} {oT:Obj} {n:Nat} {ds:Array Value} {oc:Value} {od an:Option Addr} {osl:Array (Option Value)} {kV doc pm cdv ct:Value} (l:K.lookup f=some ⟨oc,od,.func (PySem.W.fnOf x qual (fX st) (eR st) (aW st) (.ref T) kV doc pm an cdv ct),osl⟩)
  (c:PySem.W.codeIn K cdv qual=true) (k:PySem.W.keepIn K (.ref f)=true) (lT:K.lookup T=some oT) (hT:oT.data=.seq ds n):mF K x qual st f (PySem.W.fnOf x qual (fX st) (eR st) (aW st) (.ref T) kV doc pm an cdv ct) ds :=
 ⟨⟨oc,od,T,oT,n,kV,doc,pm,an,cdv,ct,osl,rfl,l,c,lT,hT⟩,k⟩
end
theorem dM {X:Cx} {sc:Scope} {own:List Str} {cap:List (Nat × Str)} (so:Scope) (N:List Str) (hso:X.env.scope=so) (hN:X.N=N) (kind:sc.kind=.function) (names:∀ y∈sc.names,y.2=.local→sc.names.lookup y.1=some .local)
  (nocell:∀ y∈sc.names,y.2≠.cell) (free:∀ y∈sc.names,y.2=.free→so.names.lookup y.1=some .cell) (at':∀ p∈cap,N[p.1]?=some p.2) (hcap:∀ p∈cap,sc.names.lookup p.2=some .free):gM X sc own cap :=
 ⟨kind,names,nocell,fun y hy e=>by show X.env.scope.names.lookup y.1=_; rw [hso]; exact free y hy e,fun p hp=>by rw [hN]; exact at' p hp,hcap⟩
end L2
namespace L2
open PySem PySem.Spec PyProof.Rows Bn
theorem zO (n d:Nat):HT.sIx (n+1) d (some (-1))=n:=by
 unfold HT.sIx
 simp
 omega
end L2
namespace L2
open PySem PySem.Spec PyProof.Rows Bn
section
variable {X:Cx}
end
end L2
namespace L2
open PySem PySem.Spec PyProof.Rows Bn
theorem eU.has {P:Program} {w:World} {H:Hp} {h:Heap} {a:Addr} {o:HO} (x:eU P w H h a o):∃ u,h.get? a=some u:=by
 cases o with
 | lst xs=>obtain ⟨_,_,_,_,e⟩:=x; exact ⟨_,e⟩
 | tup xs=>obtain ⟨_,_,_,u,e,_⟩:=x; exact ⟨u,e⟩
 | dK kvs=>obtain ⟨_,_,_,_,o,_,_,e,_⟩:=x; exact ⟨_,e⟩
 | dT kvs=>obtain ⟨_,_,_,_,o,_,_,e,_⟩:=x; exact ⟨_,e⟩
 | set S n=>obtain ⟨o,_,_,_,e,_⟩:=x; exact ⟨_,e⟩
 | ins C dx fs=>obtain ⟨_,_,_,e,_⟩:=x; exact ⟨_,e⟩
 | own y=>exact x
 | xd fs=>obtain ⟨_,⟨_,_,_,e,_⟩,_⟩:=x; exact ⟨_,e⟩
 | rng lo hi=>obtain ⟨_,_,_,e⟩:=x; exact ⟨_,e⟩
 | frz ob u=>obtain ⟨e,_⟩:=x; exact ⟨_,e⟩
 | tbl ps=>exact ⟨_,show h.get? a=some _ from x⟩
 | met f y=>exact ⟨_,show h.get? a=some _ from x⟩
 | ext φ=>exact x.2.1
abbrev eT:List Value:=[.type "ValueError",.type "Exception",.type "BaseException",.type "object"]
theorem afL {K:PySem.W.Frag} {h:Heap} {C:Addr} {bmB:List Value} {newId:String} (X:K.In h) (q:PySem.W.excIn K C bmB newId=true) :
  ∃ bm N nm qn bs hdct sn sub ab col dd k0 k1 k2 k3 k5 mN,h.get? C=some (excClassObj nm qn C N bs bm hdct sn sub ab col dd k0 k1 k2 k3 k5 newId)∧h.Ns N mN∧mN "__init__"=none∧OwnTail h bmB bm:=by
 unfold PySem.W.excIn at q
 split at q
 ·rename_i dd cd sl ho
  split at q
  ·rename_i C' bm k0 k1 k2 k3 n k5 hm hs
   simp only [Bool.and_eq_true,beq_iff_eq,Bool.not_eq_true'] at q
   obtain ⟨⟨⟨⟨⟨z1,z2⟩,hdel⟩,ht⟩,hok⟩,hni⟩:=q
   subst z1 z2
   obtain ⟨nm,bs,mro,ns,qn,hd,sn,sub,ab,col,del⟩:=cd
   dsimp only at hm hdel hok hni
   subst hm hdel
   have hsl:sl=#[k0,k1,k2,k3,some (.builtin n),k5]:=by
    obtain ⟨l⟩:=sl
    simp only at hs
    rw [hs]
   subst hsl
   refine ⟨bm,ns,nm,qn,bs,hd,sn,sub,ab,col,dd,k0,k1,k2,k3,k5,_,X _ _ ho,.of_isNs (PySem.W.isNs_of_in X hok),PySem.W.nsMap_none_of_in X hok hni,PySem.W.tail_of_in X ht⟩
  ·cases q
 ·cases q
def CX1 (P:Program) (w:World):CXT:=fun outer H s E e s'=>∃ (x C t:Addr) (B:Heap) (H':Hp),e=.ref x∧s'.os=s.os∧AllBare s'.gens∧Un (frs outer) [] H H' s.heap s'.heap∧HOk P w H' s'.heap ∧
 Heap.FlyingW B outer x (.ref C) (.ref t) s'.heap∧(∀ b o,s'.heap.get? b=some o→(∃ u,H' b=some u)∨(∃ o',s.heap.get? b=some o'∧b ∉ frs outer)→B.get? b=some o)∧E (.ref C) none H'
theorem afU {P:Program} {w:World} {K:PySem.W.Frag} {mg:Str→Option Value} {base:Heap} {N:List Str} {qual:Str} {scope:Scope} {f:Addr} {cd:Value} {A:Around} {outer:List Env} {s₀:Shared} {H₀:Hp} {E:XK}
  {x:Str} {C:Addr} {txt:Str} {j:Nat} {np p1 cpos pos:Pos} (hg:Gl (aS (CX1 P w) P w K mg base N qual scope f cd A outer s₀ H₀ E) x) (hm:mg x=some (.ref C)) (hx:PySem.W.excIn K C eT "ValueError.__new__"=true)
  (hd:(x == ("__debug__":Str))=false:=by decide) :
  PS (aS (CX1 P w) P w K mg base N qual scope f cd A outer s₀ H₀ E) (.Raise (some (.Call (.Name x np) [.Constant (.str txt) j p1] [] cpos)) none pos) (fun _ _ H=>E (.ref C) none H):=by
 intro pins s σ H D I h
 obtain ⟨bm,Nn,nm,qn,bs,hdct,sn,sub,ab,col,dd,k0,k1,k2,k3,k5,mN,hC,hN,hni,T⟩:=afL I.ok.mod.kin hx
 refine wpAny_Raise_call_subT (C:=C) (nm:=nm) (q:=qn) (N:=Nn) (bs:=bs) (bm:=bm) (hdct:=hdct) (sn:=sn) (sub:=sub) (ab:=ab) (col:=col) (dd:=dd) (k0:=k0) (k1:=k1) (k2:=k2) (k3:=k3) (k5:=k5)
  PySem.F.excBase_ValueError (mN:=mN) (T.hasType (by decide)) (I.ok.hd rfl) rfl hni (rE I hg hm ⟨rfl,?_⟩ hd)
 refine Calls.evalArgs_plain (thn ((oW afw vA) cpos pins s σ H (fun vs H1=>vs=[.str txt]∧H1=H) I ⟨rfl,rfl⟩) fun us s2 q2=>?_)
 obtain ⟨vs,H2,I2,r2,rfl,rfl⟩:=q2
 have l2:=r2.length
 refine ⟨rfl,by rw [← l2]; show 1≤sizeLine; decide,I2.bk _ _ hC,hN.keeps I2.bk,T.keeps I2.bk,fun h' e made=>?_⟩
 -- the frame is left
 have stk:(aS (CX1 P w) P w K mg base N qual scope f cd A outer s₀ H₀ E).stack=envOfC qual scope s₀.heap.objs.size f cd :: outer:=rfl
 have nfr:∀ {b u},H2 b=some u→b ∉ frs (envOfC qual scope s₀.heap.objs.size f cd :: outer):=fun {b u} q z=>by
  rw [I2.stkFree b z] at q
  cases q
 have nL:∀ {b o},s₀.heap.get? b=some o→b ∉ frs outer→b ∉ frs (envOfC qual scope s₀.heap.objs.size f cd :: outer):=fun {b o} q z y=>by
  rcases List.mem_cons.mp (I2.stkSub b y) with g | g
  ·exact absurd (Nat.lt_of_lt_of_le (Heap.lt_size q) I2.ok.above) (by rw [g]; exact Nat.lt_irrefl _)
  ·exact z g
 refine wpAny_leaves_madeW (base:=PySem.W.hideAll s2.heap (frs (envOfC qual scope s₀.heap.objs.size f cd :: outer))) (h:=s2.heap) (s:={ s2 with heap:=h' }) I2.ok.frames rfl (fun b o q=>PySem.W.of_hideAll _ q)
  (PySem.W.funFrames_hide I2.stack fun env he b hb=>List.mem_filterMap.mpr ⟨env,he,hb⟩) made fun h'' t fl tup nb ups=>?_
 have keepB:∀ b o,s2.heap.get? b=some o→b ∉ frs (envOfC qual scope s₀.heap.objs.size f cd :: outer)→h''.get? b=some o:=fun b o q z=>fl.1 b o (PySem.W.hideAll_get _ q z)
 have upS:∀ b o,s2.heap.get? b=some o→(∀ vs,o.data≠.fields vs)→∃ sl,h''.get? b=some { o with slots:=sl }:=fun b o q z=>ups b o (made.keeps b o q) z
 refine ⟨e,C,t,_,H2,rfl,I2.os,I2.bare,⟨fun b o q n hb _=>?_,fun b o q n hb _=>?_,fun b o q n _=>I2.base.free b o q n (by intro z; cases z),fun b o q _=>?_,I2.base.tups,I2.base.frzs,I2.base.tbls⟩,fun b u q=>?_,fl,fun b o q z=>?_,h⟩
 ·exact keepB b o (I2.base.keep b o q n hb (by intro z; cases z)) (nL q hb)
 ·obtain ⟨sl,g⟩:=I2.base.slot b o q n hb (by intro z; cases z)
  obtain ⟨_,o',ho',hd'⟩:=I2.ok.funs.mem hb
  have eo:o'=o:=by
   have ho2:s₀.heap.get? b=some o':=ho'
   rw [q] at ho2
   exact (Option.some.inj ho2).symm
  subst eo
  obtain ⟨sl',g'⟩:=upS b _ g hd'
  exact ⟨sl',g'⟩
 ·obtain ⟨o',g⟩:=I2.base.there b o q (by intro z; cases z)
  by_cases c:b∈frs (envOfC qual scope s₀.heap.objs.size f cd :: outer)
  ·obtain ⟨_,o2,ho2,hd2⟩:=I2.stack.mem c
   obtain ⟨sl,g'⟩:=upS b o2 ho2 hd2
   exact ⟨_,g'⟩
  ·exact ⟨o',keepB b o' g c⟩
 ·refine (I2.hok b u q).stay (fun c v hc g=>keepB c v g ?_) (fun _ g=>g) fun _ _ g=>g
  rcases hc with z | z
  ·rw [z]
   exact nfr q
  ·exact nfr z
 ·have go:∀ {o2},s2.heap.get? b=some o2→b ∉ frs (envOfC qual scope s₀.heap.objs.size f cd :: outer)→(PySem.W.hideAll s2.heap (frs (envOfC qual scope s₀.heap.objs.size f cd :: outer))).get? b=some o:=fun {o2} g n=>by
   have:=keepB b o2 g n
   have q':h''.get? b=some o:=q
   rw [q'] at this
   cases this
   exact PySem.W.hideAll_get _ g n
  rcases z with ⟨u,z⟩ | ⟨o',z,nz⟩
  ·obtain ⟨o2,g⟩:=(I2.hok b u z).has
   exact go g (nfr z)
  ·obtain ⟨o2,g⟩:=I2.base.there b o' z (by intro z; cases z)
   exact go g (nL z nz)
end L2
namespace L2
open PySem PySem.Spec PyProof.Rows Bn
section
variable {X:Cx} {pins:List (Addr × Obj)} {σ:St} {H H':Hp} {s s':Shared}
theorem Inv.flown {B h5:Heap} (I:Inv X pins σ H s) (os:s'.os=s.os) (bare:AllBare s'.gens) (un:Un (frs X.stack) [] H H' s.heap s'.heap) (hok:HOk X.prog X.w H' s'.heap)
  (cov:∀ b o,s'.heap.get? b=some o→(∃ u,H' b=some u)∨(∃ o',s.heap.get? b=some o'∧b ∉ frs X.stack)→B.get? b=some o) (fr:∀ b∈frs X.stack,H' b=none)
  (st:B.StaysIn h5) (up:s'.heap.UpToSlots h5):Inv X pins σ H' { s' with heap:=h5 }:=by
 have nofr:∀ {b u},H' b=some u→b ∉ frs X.stack:=fun {b u} q z=>by
  rw [fr b z] at q
  cases q
 have frame:∀ b∈frs X.stack,∃ o sl,s.heap.get? b=some o∧H b=none∧h5.get? b=some { o with slots:=sl }:=fun b hb=>by
  obtain ⟨_,o,ho,hd⟩:=I.stack.mem hb
  have hn:=I.stkFree b hb
  obtain ⟨sl,g⟩:=un.slot b o ho hn hb (by intro z; cases z)
  obtain ⟨sl',g'⟩:=up b _ g hd
  exact ⟨o,sl',ho,hn,g'⟩
 refine I.call' (s':={ s' with heap:=h5 }) (ch:=[]) os ⟨fun b o q n hb _=>?_,fun b o q n hb _=>?_,un.free,fun b o q _=>?_,un.tups,un.frzs,un.tbls⟩ (fun b u q=>?_) bare fun b z=>nomatch z
 ·exact st b o (cov b o (un.keep b o q n hb (by intro z; cases z)) (.inr ⟨o,q,hb⟩))
 ·obtain ⟨o',sl,g1,_,g2⟩:=frame b hb
  rw [q] at g1
  cases g1
  exact ⟨sl,g2⟩
 ·by_cases c:b∈frs X.stack
  ·obtain ⟨o',sl,_,_,g2⟩:=frame b c
   exact ⟨_,g2⟩
  ·obtain ⟨o',g⟩:=un.there b o q (by intro z; cases z)
   exact ⟨o',st b o' (cov b o' g (.inr ⟨o,q,c⟩))⟩
 ·refine (hok b u q).stay (fun c v hc g=>st c v (cov c v g (.inl ?_))) (fun _ g=>g) fun _ _ g=>g
  rcases hc with z | z
  ·exact ⟨u,by rw [z]; exact q⟩
  ·exact ⟨_,z⟩
end
section
variable {X:Cx} {k:Nat} {f:Addr} {fd:FuncData} {ps:List Str} {sp:Sp} {dvs:List V} {ds:List Value} {E:XK} {x:Str} {p pos:Pos} {e:Expr} {es:List Expr} {t:TA}
theorem aiD {pins:List (Addr × Obj)} {σ:St} {H:Hp} {s:Shared} {Q:VK} {us:List Value} {vs:List V} {Ex:Value→Shared→Prop} (F:bF X.prog X.w X.K X.mg X.base (CX1 X.prog X.w) k f fd ps sp) (hr:cZ k X.A) (hb:eY X.K fd ps ds) (hd:bG dvs ds)
  (I:Inv X pins σ H s) (r:bG vs us) (h:sp (vs++dvs) H Q E) (hx:∀ e s',CX1 X.prog X.w X.stack H s E e s'→Ex e s'):wpAny (model X.prog X.w) X.A (call (.ref f) us) (EP X pins σ Q) Ex s:=by
 have r2:bG (vs++dvs) (us++ds):=r.append hd
 have hl:(us++ds).length=ps.length:=by rw [← r2.length]; exact F.len _ _ _ _ h
 refine wpAny_call (codeAny_mono (F.run X.A X.stack s H ⟨us,[]⟩ (us++ds) (vs++dvs) Q E hr I.env0 (hb s us I.kIn hl) r2 h) fun rr s' hq=>?_)
 cases rr with
 | error e=>exact hx e s' hq
 | ok fl =>
  cases fl with
  | ret u=>exact I.after hq
  | next=>exact False.elim hq
  | brk=>exact False.elim hq
  | cont=>exact False.elim hq
theorem agf {pins:List (Addr × Obj)} {σ:St} {H:Hp} {s:Shared} {Q:VK} {Ex:Value→Shared→Prop} (hxe:X.xe=fun _ _=>False) (F:bF X.prog X.w X.K X.mg X.base (CX1 X.prog X.w) k f fd ps sp) (hr:cZ k X.A) (hg:Gl X x) (hm:X.mg x=some (.ref f)) (hk:PySem.W.keepIn X.K (.ref f)=true)
  (hb:eY X.K fd ps ds) (hd:bG dvs ds) (ha:PA X (e :: es) t) (I:Inv X pins σ H s) (h:t σ H fun vs H1=>sp (vs++dvs) H1 Q E)
  (hx:∀ s1 H1 e s',Inv X pins σ H1 s1→CX1 X.prog X.w X.stack H1 s1 E e s'→Ex e s')
  (hdb:(x == ("__debug__":Str))=false:=by decide) (he:starEach (e :: es) X.env=(false,eval e X.env) :: starEach es X.env:=by rfl) (hpl:(backTo pos (starEach es X.env)).any (·.1)=false:=by rfl) :
  wpAny (model X.prog X.w) X.A (eval (.Call (.Name x p) (e :: es) [] pos) X.env) (EP X pins σ Q) Ex s:=by
 refine wpAny_Call_Name_kw (rE I hg hm ?_ hdb)
 refine PySem.W.callWith_K (h₀:=X.base) I.ok.mod.kin hk (wpAny_mono (ha pos pins s σ H _ I h) (fun us s1 q1=>?_) fun _ _ z=>?_) he hpl
 ·obtain ⟨vs,H1,I1,r,q⟩:=q1
  exact ⟨I1.kIn,aiD F hr hb hd I1 r q fun e s' c=>hx s1 H1 e s' I1 c⟩
 ·rw [hxe] at z
  exact z.elim
end
end L2
namespace L2
open PySem PySem.Spec PyProof.Rows Bn
section
variable {P:Program} {w:World} {K:PySem.W.Frag} {mg:Str→Option Value} {base:Heap} {CX:CXT}
theorem Fun.okX {x qual:Str} {st:Stmt} {f:Addr} {fd:FuncData} {N ps:List Str} {k:Nat} {sp:Sp} (F:Fun K x qual st f fd) (S:bL N ps (aW st)) (len:∀ vs H Q E,sp vs H Q E→vs.length=ps.length)
  (hbody:∀ (cdv:Value) (A:Around) (outer:List Env) (s:Shared) (H:Hp) (vs:List V) (Q:VK) (E:XK),cZ k (A.deeper (envOfC qual (aW st) s.heap.objs.size f cdv))→sp vs H Q E →
   ∃ t,PSs (aS CX P w K mg base N qual (aW st) f cdv A outer s H E) (eR st) t∧t { nx:=fun _ H'=>Q .non H',rt:=Q } (start N vs) H):bF P w K mg base CX (k+1) f fd ps sp:=by
 obtain ⟨oc,od,kV,doc,pm,an,cdv,ct,osl,rfl,lk,hcd⟩:=F.ex
 exact aim lk hcd S len fun A outer s H vs Q E hr hsp=>hbody cdv A outer s H vs Q E hr hsp
theorem mF.okX {x qual:Str} {st:Stmt} {f:Addr} {fd:FuncData} {ds:Array Value} {N ps:List Str} {k:Nat} {sp:Sp} (F:mF K x qual st f fd ds) (S:bL N ps (aW st)) (len:∀ vs H Q E,sp vs H Q E→vs.length=ps.length)
  (hbody:∀ (cdv:Value) (A:Around) (outer:List Env) (s:Shared) (H:Hp) (vs:List V) (Q:VK) (E:XK),cZ k (A.deeper (envOfC qual (aW st) s.heap.objs.size f cdv))→sp vs H Q E →
   ∃ t,PSs (aS CX P w K mg base N qual (aW st) f cdv A outer s H E) (eR st) t∧t { nx:=fun _ H'=>Q .non H',rt:=Q } (start N vs) H):bF P w K mg base CX (k+1) f fd ps sp:=by
 obtain ⟨oc,od,T,oT,n,kV,doc,pm,an,cdv,ct,osl,rfl,lk,hcd,_,_⟩:=F.ex
 exact aim lk hcd S len fun A outer s H vs Q E hr hsp=>hbody cdv A outer s H vs Q E hr hsp
end
theorem ak0 {P:Program} {w:World} {K:PySem.W.Frag} {mg:Str→Option Value} {base:Heap} {N:List Str} {qual:Str} {scope:Scope} {f:Addr} {cd:Value} {A:Around} {outer:List Env} {s₀:Shared} {H₀:Hp} {E:XK} :
  iP (CX1 P w) (aS (CX1 P w) P w K mg base N qual scope f cd A outer s₀ H₀ E) E:=by
 intro pins σ H s e s' I c
 obtain ⟨x,C,t,B,H',rfl,os,bare,un,hok,fl,cov,hE⟩:=c
 have fr:∀ b∈frs (aS (CX1 P w) P w K mg base N qual scope f cd A outer s₀ H₀ E).stack,H' b=none:=fun b hb=>by
  obtain ⟨_,o,ho,hd⟩:=I.stack.mem hb
  exact un.free b o ho (I.stkFree b hb) (by intro z; cases z)
 have nL:∀ {b o},s₀.heap.get? b=some o→b ∉ frs outer→b ∉ frs (envOfC qual scope s₀.heap.objs.size f cd :: outer):=fun {b o} q z y=>by
  rcases List.mem_cons.mp (I.stkSub b y) with g | g
  ·exact absurd (Nat.lt_of_lt_of_le (Heap.lt_size q) I.ok.above) (by rw [g]; exact Nat.lt_irrefl _)
  ·exact z g
 refine wpAny_leaves_onW (base:=B) I.ok.frames rfl fl fun h' fl' up=>?_
 have I5:=I.flown os bare un hok cov fr fl'.1 up
 refine ⟨x,C,t,B,H',rfl,os.trans I.os,bare,I5.base,I5.hok,fl',fun b o q z=>?_,hE⟩
 have go:∀ {o2},B.get? b=some o2→B.get? b=some o:=fun {o2} g=>by
  have:=fl'.1 b o2 g
  have q':h'.get? b=some o:=q
  rw [q'] at this
  cases this
  exact g
 rcases z with ⟨u,z⟩ | ⟨o',z,nz⟩
 ·obtain ⟨o2,g⟩:=(hok b u z).has
  exact go (cov b o2 g (.inl ⟨u,z⟩))
 ·obtain ⟨o2,g⟩:=I.base.there b o' z (by intro z; cases z)
  obtain ⟨o3,g3⟩:=un.there b o2 g (by intro z; cases z)
  exact go (cov b o3 g3 (.inr ⟨o2,g,nL z nz⟩))
end L2
namespace L2
open PySem PySem.Spec PyProof.Rows Bn
section
variable {X:Cx} {pins:List (Addr × Obj)} {σ:St} {H:Hp} {s:Shared}
end
abbrev Cx.mk1 (X:Cx) (x:Addr) (l:List (Addr × Obj)):Cx:={ X with A:=X.A.mark (some (.ref x)),calm:=false,pn:=l++X.pn,xe:=fun _ _=>False }
section
variable {X:Cx} {pins:List (Addr × Obj)} {σ:St} {H:Hp} {s:Shared}
theorem Cx.Ok.mk1 (ok:X.Ok) (x:Addr) (l:List (Addr × Obj)):(X.mk1 x l).Ok :=
 ⟨ok.mod,ok.kind,ok.glob,ok.blt,ok.above,ok.inj,ok.has,ok.cab,fun z=>(by cases z),ok.frames,ok.stk,ok.exf,ok.bs,ok.bsz,ok.noex,ok.exfs,ok.funs,ok.frf⟩
theorem Inv.mk1 (I:Inv X pins σ H s) (x:Addr) (l:List (Addr × Obj)) (h:∀ p∈l,s.heap.get? p.1=some p.2∧H p.1=none∧p.1≠X.env.locals∧p.1 ∉ X.fs∧∀ v,p.2.data≠.cell v):Inv (X.mk1 x l) pins σ H s :=
 ⟨I.ok.mk1 x l,I.os,I.bare,I.base,I.loc,I.cell,I.free,I.freeC,fun p hp=>by
  rw [List.append_assoc] at hp
  exact (List.mem_append.mp hp).elim (h p) (I.pin p),I.hok,I.len⟩
theorem Inv.unmk1 {x:Addr} {l:List (Addr × Obj)} (ok:X.Ok) (I:Inv (X.mk1 x l) pins σ H s):Inv X pins σ H s :=
 ⟨ok,I.os,I.bare,I.base,I.loc,I.cell,I.free,I.freeC,fun p hp=>I.pin p (by rw [List.append_assoc]; exact List.mem_append_right _ hp),I.hok,I.len⟩
end
end L2
namespace L2
open PySem PySem.Spec PyProof.Rows Bn
theorem afP {a b c:Heap} (h1:a.UpToSlots b) (h2:b.UpToSlots c):a.UpToSlots c:=fun x o q d=>by
 obtain ⟨sl,g⟩:=h1 x o q d
 obtain ⟨sl',g'⟩:=h2 x _ g d
 exact ⟨sl',g'⟩
section
variable {X:Cx} {k:Nat} {f:Addr} {fd:FuncData} {ps:List Str} {sp:Sp} {dvs:List V} {ds:List Value} {x:Str} {p pos pos1 pos2 pos3 pc:Pos} {e:Expr} {es:List Expr} {t:TA} {c n:Str} {C:Addr} {i:Nat} {b₀:Stmt} {body:List Stmt} {newId:String}
end
end L2
namespace L2
open PySem PySem.Spec PySem.W PySem.Calls PySem.Builtin PySem.Builtin.Getset_descriptor PyProof.Rows Bn
section
variable {prog:Program} {w:World} {A:Around} {E:Value→Shared→Prop} {s:Shared} {K:PySem.W.Frag} {x D:Addr} {B:String} {R:Result→Shared→Prop}
end
end L2
namespace L2
open PySem PySem.Spec PyProof.Rows Bn
section
variable {X:Cx} {y D:Addr} {oe:Obj}
end
end L2
namespace L2.Pp
open PySem PySem.Spec PyProof.Rows Bn
inductive PV where
 | non | bl (b:Bool) | int (i:Int) | str (x:Str) | tup (xs:List PV) | lst (xs:List PV)
inductive SO where
 | lst (xs:List PV)
 | lol (xss:List (List PV))
abbrev Sto:=List SO
inductive AV where
 | pv (v:PV) | ref (k:Nat)
abbrev Rho:=List (Option AV)
inductive Res (α:Type) where
 | ok (a:α) (S:Sto) | exc (n:Str) (S:Sto) | fail
def Res.bind {α β:Type} (r:Res α) (k:α→Sto→Res β):Res β:=match r with
 | .ok a S=>k a S
 | .exc n S=>.exc n S
 | .fail=>.fail
inductive cE where
 | nx (ρ:Rho) (S:Sto) | rt (v:AV) (S:Sto) | bk (ρ:Rho) (S:Sto) | ct (ρ:Rho) (S:Sto) | exc (n:Str) (S:Sto) | fail
def LAt (K:PySem.W.Frag) (c:Addr→Prop) (H:Hp) (a:Addr) (vs:List V):Prop :=
 (H a=some (.lst vs)∧¬ c a)∨(∃ o,H a=some (.frz o (.lst vs))) ∨
  ∃ (o:Obj) (its:Array Value) (n:Nat),K.lookup a=some o∧o.cls=.type "list"∧o.dict=none∧o.data=.seq its n∧its.size≤sizeLine∧bG vs its.toList
theorem LAt.sq {K:PySem.W.Frag} {c:Addr→Prop} {H:Hp} {a:Addr} {vs:List V} (h:LAt K c H a vs):SqL K H a vs:=by
 rcases h with h | h | h
 ·exact .inl (.inl h.1)
 ·exact .inl (.inr h)
 ·exact .inr h
mutual
def Rep (K:PySem.W.Frag) (c:Addr→Prop) (H:Hp):PV→V→Prop
 | .non,x=>x=.non
 | .bl b,x=>x=.bl b
 | .int i,x=>x=.int i
 | .str s,x=>x=.str s
 | .tup xs,x=>∃ a vs,x=.ref a∧SqT K H a vs∧vs.length≤sizeLine∧aU K c H xs vs
 | .lst xs,x=>∃ a vs,x=.ref a∧LAt K c H a vs∧vs.length≤sizeLine∧aU K c H xs vs
def aU (K:PySem.W.Frag) (c:Addr→Prop) (H:Hp):List PV→List V→Prop
 | [],vs=>vs=[]
 | p :: ps,vs=>∃ v r,vs=v :: r∧Rep K c H p v∧aU K c H ps r
end
section
variable {K:PySem.W.Frag} {c c':Addr→Prop} {H H':Hp}
mutual
theorem Rep.mono (hT:∀ a vs,SqT K H a vs→SqT K H' a vs) (hL:∀ a vs,LAt K c H a vs→LAt K c' H' a vs):∀ (v:PV) (x:V),Rep K c H v x→Rep K c' H' v x
 | .non,x,h=>h
 | .bl b,x,h=>h
 | .int i,x,h=>h
 | .str s,x,h=>h
 | .tup xs,x,h=>by
  unfold Rep at h ⊢
  obtain ⟨a,vs,e,t,z,r⟩:=h
  exact ⟨a,vs,e,hT a vs t,z,aU.mono hT hL xs vs r⟩
 | .lst xs,x,h=>by
  unfold Rep at h ⊢
  obtain ⟨a,vs,e,t,z,r⟩:=h
  exact ⟨a,vs,e,hL a vs t,z,aU.mono hT hL xs vs r⟩
theorem aU.mono (hT:∀ a vs,SqT K H a vs→SqT K H' a vs) (hL:∀ a vs,LAt K c H a vs→LAt K c' H' a vs):∀ (v:List PV) (x:List V),aU K c H v x→aU K c' H' v x
 | [],vs,h=>by
  unfold aU at h ⊢
  exact h
 | p :: ps,vs,h=>by
  unfold aU at h ⊢
  obtain ⟨v,r,e,h1,h2⟩:=h
  exact ⟨v,r,e,Rep.mono hT hL p v h1,aU.mono hT hL ps r h2⟩
end
theorem aU.length:∀ {xs:List PV} {vs:List V},aU K c H xs vs→xs.length=vs.length
 | [],vs,h=>by
  unfold aU at h
  rw [h]
  rfl
 | p :: ps,vs,h=>by
  unfold aU at h
  obtain ⟨v,r,rfl,_,h2⟩:=h
  rw [List.length_cons,List.length_cons,aU.length h2]
theorem aU.get:∀ {xs:List PV} {vs:List V} {i:Nat} {p:PV},aU K c H xs vs→xs[i]?=some p→∃ v,vs[i]?=some v∧Rep K c H p v
 | [],vs,i,p,h,e=>by simp at e
 | q :: ps,vs,0,p,h,e=>by
  unfold aU at h
  obtain ⟨v,r,rfl,h1,_⟩:=h
  simp at e
  subst e
  exact ⟨v,rfl,h1⟩
 | q :: ps,vs,i+1,p,h,e=>by
  unfold aU at h
  obtain ⟨v,r,rfl,_,h2⟩:=h
  obtain ⟨u,e1,e2⟩:=aU.get (i:=i) h2 (by simpa using e)
  exact ⟨u,by simpa using e1,e2⟩
theorem aU.nil:aU K c H [] []:=by
 unfold aU
 rfl
theorem aU.cons {p:PV} {v:V} {ps:List PV} {vs:List V} (h:Rep K c H p v) (t:aU K c H ps vs):aU K c H (p :: ps) (v :: vs):=by
 unfold aU
 exact ⟨v,vs,rfl,h,t⟩
theorem aU.append:∀ {xs ys:List PV} {vs ws:List V},aU K c H xs vs→aU K c H ys ws→aU K c H (xs++ys) (vs++ws)
 | [],ys,vs,ws,h,g=>by
  unfold aU at h
  subst h
  exact g
 | p :: ps,ys,vs,ws,h,g=>by
  unfold aU at h
  obtain ⟨v,r,rfl,h1,h2⟩:=h
  exact .cons h1 (h2.append g)
theorem aU.drop:∀ {xs:List PV} {vs:List V} (n:Nat),aU K c H xs vs→aU K c H (xs.drop n) (vs.drop n)
 | xs,vs,0,h=>by simpa using h
 | [],vs,n+1,h=>by
  unfold aU at h
  subst h
  simpa using aU.nil
 | p :: ps,vs,n+1,h=>by
  unfold aU at h
  obtain ⟨v,r,rfl,_,h2⟩:=h
  simpa using h2.drop n
theorem aU.take:∀ {xs:List PV} {vs:List V} (n:Nat),aU K c H xs vs→aU K c H (xs.take n) (vs.take n)
 | xs,vs,0,h=>by simpa using aU.nil
 | [],vs,n+1,h=>by
  unfold aU at h
  subst h
  simpa using aU.nil
 | p :: ps,vs,n+1,h=>by
  unfold aU at h
  obtain ⟨v,r,rfl,h1,h2⟩:=h
  simpa using aU.cons h1 (h2.take n)
theorem aU.eraseIdx:∀ {xs:List PV} {vs:List V} (n:Nat),aU K c H xs vs→aU K c H (xs.eraseIdx n) (vs.eraseIdx n)
 | [],vs,n,h=>by
  unfold aU at h
  subst h
  simpa using aU.nil
 | p :: ps,vs,0,h=>by
  unfold aU at h
  obtain ⟨v,r,rfl,h1,h2⟩:=h
  simpa using h2
 | p :: ps,vs,n+1,h=>by
  unfold aU at h
  obtain ⟨v,r,rfl,h1,h2⟩:=h
  simpa using aU.cons h1 (h2.eraseIdx n)
theorem aU.set {p:PV} {v:V} (g:Rep K c H p v):∀ {xs:List PV} {vs:List V} (n:Nat),aU K c H xs vs→aU K c H (xs.set n p) (vs.set n v)
 | [],vs,n,h=>by
  unfold aU at h
  subst h
  simpa using aU.nil
 | q :: ps,vs,0,h=>by
  unfold aU at h
  obtain ⟨v,r,rfl,h1,h2⟩:=h
  simpa using aU.cons g h2
 | q :: ps,vs,n+1,h=>by
  unfold aU at h
  obtain ⟨v,r,rfl,h1,h2⟩:=h
  simpa using aU.cons h1 (aU.set g n h2)
end
structure Ph where
 f:List Addr
 w:Addr→Prop
 c:Addr→Prop
def ak9 (K:PySem.W.Frag) (c:Addr→Prop) (H:Hp) (xss:List (List PV)) (bs:List Addr):Prop :=
 xss.length=bs.length∧∀ (i:Nat) (xs:List PV) (b:Addr),xss[i]?=some xs→bs[i]?=some b→∃ vs,H b=some (.lst vs)∧vs.length≤sizeLine∧aU K c H xs vs
def wQ (K:PySem.W.Frag) (p:Ph) (H:Hp) (a:Addr):SO→Prop
 | .lst xs=>∃ vs,H a=some (.lst vs)∧vs.length≤sizeLine∧aU K p.c H xs vs
 | .lol xss=>∃ bs:List Addr,H a=some (.lst (bs.map V.ref))∧bs.length≤sizeLine∧bs.Nodup∧(∀ b∈bs,p.w b∧b ∉ p.f)∧ak9 K p.c H xss bs
theorem wQ.mono {K:PySem.W.Frag} {p p':Ph} {H H':Hp} {a:Addr} {o:SO} (h:wQ K p H a o) (ha:∀ vs,H a=some (.lst vs)→H' a=some (.lst vs))
  (hb:∀ b,p.w b→b ∉ p.f→(p'.w b∧b ∉ p'.f)∧∀ vs,H b=some (.lst vs)→H' b=some (.lst vs)) (hR:∀ xs vs,aU K p.c H xs vs→aU K p'.c H' xs vs):wQ K p' H' a o:=by
 cases o with
 | lst xs =>
  obtain ⟨vs,e,l,r⟩:=h
  exact ⟨vs,ha vs e,l,hR xs vs r⟩
 | lol xss =>
  obtain ⟨bs,e,l,nd,wf,z,at_⟩:=h
  refine ⟨bs,ha _ e,l,nd,fun b m=>(hb b (wf b m).1 (wf b m).2).1,z,fun i xs b e1 e2=>?_⟩
  obtain ⟨vs,g1,g2,g3⟩:=at_ i xs b e1 e2
  have m:=wf b (List.mem_of_getElem? e2)
  exact ⟨vs,(hb b m.1 m.2).2 vs g1,g2,hR xs vs g3⟩
def Mb:HO→Prop
 | .lst _=>True
 | .dK _=>True
 | .dT _=>True
 | .ins _ _ _=>True
 | _=>False
structure Sim (K:PySem.W.Frag) (p:Ph) (S:Sto) (H:Hp):Prop where
 nd:p.f.Nodup
 len:p.f.length=S.length
 sub:∀ a∈p.f,p.w a
 wc:∀ a,p.w a→p.c a
 mu:∀ a,p.c a→∃ o,H a=some o∧Mb o
 obj:∀ (k:Nat) (a:Addr) (o:SO),p.f[k]?=some a→S[k]?=some o→wQ K p H a o
structure bN (p:Ph) (H:Hp) (q:Ph) (H':Hp):Prop where
 wc:∀ a,p.w a→p.c a
 mu:∀ a,p.c a→∃ o,H a=some o∧Mb o
 pre:p.f <+: q.f
 mw:∀ a,p.w a→q.w a
 mono:∀ a,p.c a→q.c a
 nf:∀ a∈q.f,a ∉ p.f→H a=none
 nw:∀ a,q.w a→¬ p.w a→H a=none
 nc:∀ a,q.c a→¬ p.c a→H a=none
 keep:∀ a o,H a=some o→¬ p.w a→H' a=some o
def bX (K:PySem.W.Frag) (p:Ph) (H:Hp):AV→V→Prop
 | .pv v,x=>Rep K p.c H v x
 | .ref k,x=>∃ a,p.f[k]?=some a∧x=.ref a
abbrev gB (K:PySem.W.Frag) (p:Ph) (H:Hp):List AV→List V→Prop:=Paired (bX K p H)
structure cV (K:PySem.W.Frag) (p:Ph) (H:Hp) (ρ:Rho) (σ:St):Prop where
 len:ρ.length=σ.length
 at_:∀ (i:Nat) (v:AV),ρ[i]?=some (some v)→∃ x,σ[i]?=some (some x)∧bX K p H v x
section
variable {K:PySem.W.Frag} {p q r:Ph} {H H' H'':Hp} {S:Sto}
theorem Sim.step (s:Sim K p S H):bN p H p H:=⟨s.wc,s.mu,List.prefix_rfl,fun _ h=>h,fun _ h=>h,fun _ h g=>absurd h g,fun _ h g=>absurd h g,fun _ h g=>absurd h g,fun _ _ h _=>h⟩
theorem bN.trans (a:bN p H q H') (b:bN q H' r H''):bN p H r H'':=by
 have back:∀ x,H' x=none→¬ p.w x→H x=none:=fun x h n=>by
  cases e:H x with
  | none=>rfl
  | some o=>rw [a.keep x o e n] at h; cases h
 refine ⟨a.wc,a.mu,a.pre.trans b.pre,fun x h=>b.mw x (a.mw x h),fun x h=>b.mono x (a.mono x h),fun x h n=>?_,fun x h n=>?_,fun x h n=>?_,fun x o e n=>?_⟩
 ·by_cases m:x∈q.f
  ·exact a.nf x m n
  ·have hn:=b.nf x h m
   refine back x hn fun z=>?_
   obtain ⟨o,ho,_⟩:=b.mu x (a.mono x (a.wc x z))
   rw [hn] at ho
   cases ho
 ·by_cases m:q.w x
  ·exact a.nw x m n
  ·exact back x (b.nw x h m) n
 ·by_cases m:q.c x
  ·exact a.nc x m n
  ·exact back x (b.nc x h m) fun z=>n (a.wc x z)
 ·refine b.keep x o (a.keep x o e n) fun z=>?_
  rw [a.nw x z n] at e
  cases e
theorem bN.tup (s:bN p H q H') {a:Addr} {vs:List V} (h:SqT K H a vs):SqT K H' a vs:=by
 have go:∀ o,H a=some o→¬ Mb o→H' a=some o:=fun o e n=>s.keep a o e fun z=>by
  obtain ⟨u,e',m⟩:=s.mu a (s.wc a z)
  rw [e] at e'
  cases e'
  exact n m
 rcases h with (h | ⟨o,h⟩) | h
 ·exact .inl (.inl (go _ h (fun z=>z)))
 ·exact .inl (.inr ⟨o,go _ h (fun z=>z)⟩)
 ·exact .inr h
theorem bN.lat (s:bN p H q H') {a:Addr} {vs:List V} (h:LAt K p.c H a vs):LAt K q.c H' a vs:=by
 rcases h with ⟨h,n⟩ | ⟨o,h⟩ | h
 ·refine .inl ⟨s.keep a _ h fun z=>n (s.wc a z),fun z=>?_⟩
  rw [s.nc a z n] at h
  cases h
 ·refine .inr (.inl ⟨o,s.keep a _ h fun z=>?_⟩)
  obtain ⟨u,e',m⟩:=s.mu a (s.wc a z)
  rw [h] at e'
  cases e'
  exact m
 ·exact .inr (.inr h)
theorem bN.rep (s:bN p H q H') {v:PV} {x:V} (h:Rep K p.c H v x):Rep K q.c H' v x:=Rep.mono (fun _ _=>s.tup) (fun _ _=>s.lat) v x h
theorem bN.reps (s:bN p H q H') {v:List PV} {x:List V} (h:aU K p.c H v x):aU K q.c H' v x:=aU.mono (fun _ _=>s.tup) (fun _ _=>s.lat) v x h
theorem bN.at_ (s:bN p H q H') {k:Nat} {a:Addr} (h:p.f[k]?=some a):q.f[k]?=some a:=by
 obtain ⟨t,e⟩:=s.pre
 rw [← e,List.getElem?_append_left (by
  have:=List.getElem?_eq_some_iff.mp h
  exact this.1)]
 exact h
theorem bN.repA (s:bN p H q H') {v:AV} {x:V} (h:bX K p H v x):bX K q H' v x:=by
 cases v with
 | pv v=>exact s.rep h
 | ref k =>
  obtain ⟨a,e,f⟩:=h
  exact ⟨a,s.at_ e,f⟩
theorem bN.repE (s:bN p H q H') {ρ:Rho} {σ:St} (h:cV K p H ρ σ):cV K q H' ρ σ :=
 ⟨h.len,fun i v e=>let ⟨x,e1,e2⟩:=h.at_ i v e; ⟨x,e1,s.repA e2⟩⟩
theorem Sim.same (s:Sim K p S H) (h:cA H H'):bN p H p H':=⟨s.wc,s.mu,List.prefix_rfl,fun _ h=>h,fun _ h=>h,fun _ h g=>absurd h g,fun _ h g=>absurd h g,fun _ h g=>absurd h g,fun a o e _=>h a o e⟩
theorem Sim.ofSame (s:Sim K p S H) (h:cA H H'):Sim K p S H' :=
 ⟨s.nd,s.len,s.sub,s.wc,fun a m=>let ⟨o,e,m⟩:=s.mu a m; ⟨o,h a o e,m⟩,fun k a o e1 e2=>by
  exact (s.obj k a o e1 e2).mono (fun vs e=>h _ _ e) (fun b w f=>⟨⟨w,f⟩,fun vs e=>h _ _ e⟩) fun xs vs=>(s.same h).reps⟩
theorem fK {a:Addr} {o:HO} (h:H a=none):cA H (upd H a o):=fun b u e=>by
 rw [cK (fP e h)]
 exact e
end
section
variable {α β γ δ:Type}
def bP (K:PySem.W.Frag) (cl:Str→Addr) (R:Ph→Hp→α→β→Prop) (p:Ph) (H:Hp) (r:Res α) (Q:β→Hp→Prop) (E:XK):Prop:=match r with
 | .ok a S=>∀ q H' x,bN p H q H'→Sim K q S H'→R q H' a x→Q x H'
 | .exc n S=>∀ q H',bN p H q H'→Sim K q S H'→E (.ref (cl n)) none H'
 | .fail=>False
def dH (K:PySem.W.Frag) (cl:Str→Addr) (p:Ph) (H:Hp) (r:cE) (D:kD) (E:XK):Prop:=match r with
 | .nx ρ S=>∀ q H' σ,bN p H q H'→Sim K q S H'→cV K q H' ρ σ→D.nx σ H'
 | .bk ρ S=>∀ q H' σ,bN p H q H'→Sim K q S H'→cV K q H' ρ σ→D.bk σ H'
 | .ct ρ S=>∀ q H' σ,bN p H q H'→Sim K q S H'→cV K q H' ρ σ→D.ct σ H'
 | .rt v S=>∀ q H' x,bN p H q H'→Sim K q S H'→bX K q H' v x→D.rt x H'
 | .exc n S=>∀ q H',bN p H q H'→Sim K q S H'→E (.ref (cl n)) none H'
 | .fail=>False
variable {K:PySem.W.Frag} {cl:Str→Addr} {p q:Ph} {H H':Hp} {S:Sto} {E:XK} {R:Ph→Hp→α→β→Prop} {R':Ph→Hp→γ→δ→Prop}
theorem bP.mono {r:Res α} {Q:β→Hp→Prop} (h:bP K cl R p H r Q E) (s:bN p H q H'):bP K cl R q H' r Q E:=by
 cases r with
 | ok a S=>exact fun q' H'' x s'=>h q' H'' x (s.trans s')
 | exc n S=>exact fun q' H'' s'=>h q' H'' (s.trans s')
 | fail=>exact h
theorem dH.mono {r:cE} {D:kD} (h:dH K cl p H r D E) (s:bN p H q H'):dH K cl q H' r D E:=by
 cases r with
 | nx ρ S=>exact fun q' H'' x s'=>h q' H'' x (s.trans s')
 | bk ρ S=>exact fun q' H'' x s'=>h q' H'' x (s.trans s')
 | ct ρ S=>exact fun q' H'' x s'=>h q' H'' x (s.trans s')
 | rt v S=>exact fun q' H'' x s'=>h q' H'' x (s.trans s')
 | exc n S=>exact fun q' H'' s'=>h q' H'' (s.trans s')
 | fail=>exact h
theorem bP.ret {a:α} {x:β} {Q:β→Hp→Prop} (h:bP K cl R p H (.ok a S) Q E) (s:Sim K p S H) (r:R p H a x):Q x H:=h p H x s.step s r
theorem bP.same {a:α} {x:β} {Q:β→Hp→Prop} (h:bP K cl R p H (.ok a S) Q E) (s:Sim K p S H) (e:cA H H') (r:R p H' a x):Q x H':=h p H' x (s.same e) (s.ofSame e) r
def tP (K:PySem.W.Frag) (cl:Str→Addr) (E:XK) (R:Ph→Hp→α→β→Prop) (m:Rho→Sto→Res α) (σ:St) (H:Hp) (Q:β→Hp→Prop):Prop :=
 ∃ p S ρ,Sim K p S H∧cV K p H ρ σ∧bP K cl R p H (m ρ S) Q E
def tS (K:PySem.W.Frag) (cl:Str→Addr) (E:XK) (m:Rho→Sto→cE):TS:=fun D σ H =>
 ∃ p S ρ,Sim K p S H∧cV K p H ρ σ∧dH K cl p H (m ρ S) D E
theorem bR {m:Rho→Sto→Res α} {k:α→Sto→Res γ} {ρ:Rho} {σ:St} {Q:δ→Hp→Prop} {T:β→Hp→Prop} (s:Sim K p S H) (e:cV K p H ρ σ) (h:bP K cl R' p H ((m ρ S).bind k) Q E)
  (g:∀ q H' a b S',bN p H q H'→Sim K q S' H'→cV K q H' ρ σ→R q H' a b→bP K cl R' q H' (k a S') Q E→T b H'):tP K cl E R m σ H T:=by
 refine ⟨p,S,ρ,s,e,?_⟩
 cases z:m ρ S with
 | ok a S1 =>
  rw [z] at h
  exact fun q H' b st sm r=>g q H' a b S1 st sm (st.repE e) r (bP.mono (r:=k a S1) h st)
 | exc n S1 =>
  rw [z] at h
  exact h
 | fail =>
  rw [z] at h
  exact h
def cE.of {α:Type} (r:Res α) (k:α→Sto→cE):cE:=match r with
 | .ok a S=>k a S
 | .exc n S=>.exc n S
 | .fail=>.fail
theorem jI {m:Rho→Sto→Res α} {k:α→Sto→cE} {ρ:Rho} {σ:St} {D:kD} {T:β→Hp→Prop} (s:Sim K p S H) (e:cV K p H ρ σ) (h:dH K cl p H (cE.of (m ρ S) k) D E)
  (g:∀ q H' a b S',bN p H q H'→Sim K q S' H'→cV K q H' ρ σ→R q H' a b→dH K cl q H' (k a S') D E→T b H'):tP K cl E R m σ H T:=by
 refine ⟨p,S,ρ,s,e,?_⟩
 cases z:m ρ S with
 | ok a S1 =>
  rw [z] at h
  exact fun q H' b st sm r=>g q H' a b S1 st sm (st.repE e) r (dH.mono (r:=k a S1) h st)
 | exc n S1 =>
  rw [z] at h
  exact h
 | fail =>
  rw [z] at h
  exact h
end
end L2.Pp
namespace L2.Pp
open PySem PySem.Spec PyProof.Rows Bn
abbrev RB:Ph→Hp→Bool→Bool→Prop:=fun _ _ a b=>a=b
abbrev ME:=Rho→Sto→Res AV
abbrev MT:=Rho→Sto→Res Bool
abbrev MA:=Rho→Sto→Res (List AV)
abbrev MS:=Rho→Sto→cE
section
variable (K:PySem.W.Frag) (cl:Str→Addr) (E:XK) (X:Cx)
def PEp (e:Expr) (m:ME):Prop:=X.K=K→PE X e (tP K cl E (bX K) m)
def PTp (e:Expr) (m:MT):Prop:=X.K=K→PT X e (tP K cl E RB m)
def PWp (e:Expr) (m:MT):Prop:=X.K=K→PW X e (tP K cl E RB m)
def PAp (es:List Expr) (m:MA):Prop:=X.K=K→PA X es (tP K cl E (gB K) m)
def PSp (st:Stmt) (m:MS):Prop:=X.K=K→PS X st (tS K cl E m)
def jS (st:List Stmt) (m:MS):Prop:=X.K=K→PSs X st (tS K cl E m)
end
theorem PA.imp {X:Cx} {es:List Expr} {t t':TA} (h:PA X es t) (i:∀ σ H Q,t' σ H Q→t σ H Q):PA X es t':=fun pos pins s σ H Q I q=>h pos pins s σ H Q I (i σ H Q q)
theorem PW.imp {X:Cx} {e:Expr} {t t':TT} (h:PW X e t) (i:∀ σ H Q,t' σ H Q→t σ H Q):PW X e t':=fun wh pins s σ H Q I q=>h wh pins s σ H Q I (i σ H Q q)
def aA (i:Nat):ME:=fun ρ S=>match ρ[i]? with
 | some (some v)=>.ok v S
 | _=>.fail
def mC (v:PV):ME:=fun _ S=>.ok (.pv v) S
def rd (S:Sto):AV→Option PV
 | .pv v=>some v
 | .ref k=>match S[k]? with
  | some (.lst xs)=>some (.lst xs)
  | _=>none
def gS (S:Sto):List AV→Option (List PV)
 | []=>some []
 | a :: r=>match rd S a with
  | some v=>match gS S r with
   | some vs=>some (v :: vs)
   | none=>none
  | none=>none
def okO (o:Option PV) (S:Sto):Res AV:=match o with
 | some r=>.ok (.pv r) S
 | none=>.fail
def sF (f:PV→Option PV) (a:AV) (S:Sto):Res AV:=okO ((rd S a).bind f) S
def fT (f:PV→PV→Option PV) (a b:AV) (S:Sto):Res AV:=okO ((rd S a).bind fun x=>(rd S b).bind fun y=>f x y) S
def mUn (f:PV→Option PV) (ma:ME):ME:=fun ρ S=>(ma ρ S).bind fun x S1=>sF f x S1
def aB (f:PV→PV→Option PV) (ma mb:ME):ME:=fun ρ S=>(ma ρ S).bind fun x S1=>(mb ρ S1).bind fun y S2=>fT f x y S2
def aE:MA:=fun _ S=>.ok [] S
def aC (ma:ME) (mr:MA):MA:=fun ρ S=>(ma ρ S).bind fun x S1=>(mr ρ S1).bind fun xs S2=>.ok (x :: xs) S2
def iV:List AV→Option (List PV)
 | []=>some []
 | .pv v :: r=>match iV r with
  | some vs=>some (v :: vs)
  | none=>none
 | .ref _ :: _=>none
def pM (f:List PV→Option PV) (xs:List AV) (S:Sto):Res AV:=okO ((iV xs).bind f) S
def lY (f:List PV→Option PV) (xs:List AV) (S:Sto):Res AV:=okO ((gS S xs).bind f) S
def mR (f:List PV→Option PV) (ma:MA):ME:=fun ρ S=>(ma ρ S).bind fun xs S1=>lY f xs S1
def mN (f:List PV→Option PV) (ma:MA):ME:=fun ρ S=>(ma ρ S).bind fun xs S1=>pM f xs S1
def eV (vs:List PV):Option PV:=if vs.length≤16777216 then some (.tup vs) else none
def dQ (vs:List PV):Option PV:=if vs.length≤16777216 then some (.lst vs) else none
def tst:AV→Sto→Res Bool
 | .pv (.bl b),S=>.ok b S
 | _,_=>.fail
def bD (m:ME):MT:=fun ρ S=>(m ρ S).bind tst
def fD (m:MT):MT:=fun ρ S=>(m ρ S).bind fun b S1=>.ok (!b) S1
def mD (m n:MT):MT:=fun ρ S=>(m ρ S).bind fun b S1=>if b=true then n ρ S1 else .ok false S1
def mOr (m n:MT):MT:=fun ρ S=>(m ρ S).bind fun b S1=>if b=true then .ok true S1 else n ρ S1
def kS (m n:ME):ME:=fun ρ S=>(m ρ S).bind fun x S1=>match x with
 | .pv (.bl true)=>n ρ S1
 | .pv (.bl false)=>.ok (.pv (.bl false)) S1
 | _=>.fail
def wI (m n:ME):ME:=fun ρ S=>(m ρ S).bind fun x S1=>match x with
 | .pv (.bl false)=>n ρ S1
 | .pv (.bl true)=>.ok (.pv (.bl true)) S1
 | _=>.fail
def sK:PV→Option PV
 | .bl b=>some (.bl (!b))
 | _=>none
def mIf (c:MT) (a b:ME):ME:=fun ρ S=>(c ρ S).bind fun t S1=>if t=true then a ρ S1 else b ρ S1
section
variable {K:PySem.W.Frag} {cl:Str→Addr} {E:XK} {X:Cx} {a b c e:Expr} {es:List Expr} {ma mb mc m:ME} {mt nt:MT} {ms:MA} {pos:Pos}
theorem aD (i:Nat) {x:Str} (hN:X.N[i]?=some x:=by rfl) (hv:Vis X.env.scope x:=by first | exact Or.inl rfl | exact Or.inr (Or.inl rfl) | exact Or.inr (Or.inr rfl)) (hd:(x == ("__debug__":Str))=false:=by decide)
  (hcd:(x == ("__classdict__":Str))=false:=by decide):PEp K cl E X (.Name x pos) (aA i):=fun _=>(agW hN hv hd hcd).imp fun σ H Q ⟨p,S,ρ,s,e,h⟩=>by
 unfold aA at h
 cases z:ρ[i]? with
 | none=>rw [z] at h; exact h.elim
 | some o =>
  cases o with
  | none=>rw [z] at h; exact h.elim
  | some v =>
   rw [z] at h
   obtain ⟨x,e1,e2⟩:=e.at_ i v z
   exact ⟨x,e1,bP.ret h s e2⟩
theorem aG {i:Int} {j}:PEp K cl E X (.Constant (.int i) j pos) (mC (.int i)):=fun _=>ajp.imp fun σ H Q ⟨p,S,ρ,s,e,h⟩=>bP.ret (R:=bX K) (x:=.int i) h s (by show Rep K p.c H (.int i) (.int i); unfold Rep; rfl)
theorem jP {i:Bool} {j}:PEp K cl E X (.Constant (.bool i) j pos) (mC (.bl i)):=fun _=>akQ.imp fun σ H Q ⟨p,S,ρ,s,e,h⟩=>bP.ret (R:=bX K) (x:=.bl i) h s (by show Rep K p.c H (.bl i) (.bl i); unfold Rep; rfl)
theorem dS {i:Str} {j}:PEp K cl E X (.Constant (.str i) j pos) (mC (.str i)):=fun _=>afw.imp fun σ H Q ⟨p,S,ρ,s,e,h⟩=>bP.ret (R:=bX K) (x:=.str i) h s (by show Rep K p.c H (.str i) (.str i); unfold Rep; rfl)
theorem kA {j}:PEp K cl E X (.Constant .none j pos) (mC .non):=fun _=>ahh.imp fun σ H Q ⟨p,S,ρ,s,e,h⟩=>bP.ret (R:=bX K) (x:=.non) h s (by show Rep K p.c H .non .non; unfold Rep; rfl)
def dX (K:PySem.W.Frag) (p:Ph) (H:Hp) (v:PV) (x:V):Prop:=Rep K p.c H v x∨∃ xs a vs,v=.lst xs∧x=.ref a∧H a=some (.lst vs)∧vs.length≤sizeLine∧aU K p.c H xs vs
theorem dX.int {p:Ph} {H:Hp} {i:Int} {x:V} (h:dX K p H (.int i) x):x=.int i:=by
 rcases h with h | ⟨_,_,_,e,_⟩
 ·unfold Rep at h; exact h
 ·cases e
theorem dX.bl {p:Ph} {H:Hp} {i:Bool} {x:V} (h:dX K p H (.bl i) x):x=.bl i:=by
 rcases h with h | ⟨_,_,_,e,_⟩
 ·unfold Rep at h; exact h
 ·cases e
theorem dX.str {p:Ph} {H:Hp} {i:Str} {x:V} (h:dX K p H (.str i) x):x=.str i:=by
 rcases h with h | ⟨_,_,_,e,_⟩
 ·unfold Rep at h; exact h
 ·cases e
theorem dX.non {p:Ph} {H:Hp} {x:V} (h:dX K p H .non x):x=.non:=by
 rcases h with h | ⟨_,_,_,e,_⟩
 ·unfold Rep at h; exact h
 ·cases e
theorem dX.tup {p:Ph} {H:Hp} {xs:List PV} {x:V} (h:dX K p H (.tup xs) x):∃ a vs,x=.ref a∧SqT K H a vs∧vs.length≤sizeLine∧aU K p.c H xs vs:=by
 rcases h with h | ⟨_,_,_,e,_⟩
 ·unfold Rep at h; exact h
 ·cases e
theorem dX.lst {p:Ph} {H:Hp} {xs:List PV} {x:V} (h:dX K p H (.lst xs) x):∃ a vs,x=.ref a∧SqL K H a vs∧vs.length≤sizeLine∧aU K p.c H xs vs:=by
 rcases h with h | ⟨ys,a,vs,e,e2,h,z,r⟩
 ·unfold Rep at h
  obtain ⟨a,vs,e,l,z,r⟩:=h
  exact ⟨a,vs,e,l.sq,z,r⟩
 ·cases e
  exact ⟨a,vs,e2,SqL.of h,z,r⟩
theorem nI {p:Ph} {S:Sto} {H:Hp} {a:AV} {v:PV} {x:V} (s:Sim K p S H) (r:bX K p H a x) (e:rd S a=some v):dX K p H v x:=by
 cases a with
 | pv u=>cases e; exact .inl r
 | ref k =>
  obtain ⟨a,e1,rfl⟩:=r
  unfold rd at e
  cases z:S[k]? with
  | none=>simp only [z] at e; cases e
  | some o =>
   cases o with
   | lst xs =>
    simp only [z] at e
    cases e
    obtain ⟨vs,h,l,r⟩:=s.obj k a _ e1 z
    exact .inr ⟨xs,a,vs,rfl,rfl,h,l,r⟩
   | lol xss=>simp only [z] at e; cases e
abbrev aiZ (K:PySem.W.Frag) (p:Ph) (H:Hp):List PV→List V→Prop:=Paired (dX K p H)
theorem yJ {p:Ph} {S:Sto} {H:Hp} (s:Sim K p S H):∀ {as:List AV} {vs:List PV} {xs:List V},gB K p H as xs→gS S as=some vs→aiZ K p H vs xs
 | [],vs,_,.nil,e=>by
  cases e
  exact .nil
 | a :: r,vs,_,.cons h t,e=>by
  unfold gS at e
  cases z:rd S a with
  | none=>simp only [z] at e; cases e
  | some v =>
   simp only [z] at e
   cases y:gS S r with
   | none=>simp only [y] at e; cases e
   | some us =>
    simp only [y] at e
    cases e
    exact .cons (nI s h z) (yJ s t y)
def OpS (K:PySem.W.Frag) (r:R2) (f:PV→PV→Option PV):Prop:=∀ {p:Ph} {S:Sto} {H:Hp} {a b c:PV} {x y:V} {Q:VK},Sim K p S H→dX K p H a x→dX K p H b y→f a b=some c →
 (∀ H' z,cA H H'→Rep K p.c H' c z→Q z H')→r x y H Q
def UnS (K:PySem.W.Frag) (r:V→Hp→VK→Prop) (f:PV→Option PV):Prop:=∀ {p:Ph} {S:Sto} {H:Hp} {a c:PV} {x:V} {Q:VK},Sim K p S H→dX K p H a x→f a=some c →
 (∀ H' z,cA H H'→Rep K p.c H' c z→Q z H')→r x H Q
def CaS (K:PySem.W.Frag) (r:List V→Hp→VK→Prop) (f:List PV→Option PV):Prop:=∀ {p:Ph} {S:Sto} {H:Hp} {as:List PV} {c:PV} {xs:List V} {Q:VK},Sim K p S H→aU K p.c H as xs→f as=some c →
 (∀ H' z,cA H H'→Rep K p.c H' c z→Q z H')→r xs H Q
def CaR (K:PySem.W.Frag) (r:List V→Hp→VK→Prop) (f:List PV→Option PV):Prop:=∀ {p:Ph} {S:Sto} {H:Hp} {as:List PV} {c:PV} {xs:List V} {Q:VK},Sim K p S H→aiZ K p H as xs→f as=some c →
 (∀ H' z,cA H H'→Rep K p.c H' c z→Q z H')→r xs H Q
theorem lM {p:Ph} {S:Sto} {H:Hp} {o:Option PV} {Q:VK} (s:Sim K p S H) (h:bP K cl (bX K) p H (okO o S) Q E):∃ c,o=some c∧∀ H' z,cA H H'→Rep K p.c H' c z→Q z H':=by
 cases o with
 | none=>exact h.elim
 | some c=>exact ⟨c,rfl,fun H' z sm rz=>bP.same (R:=bX K) h s sm rz⟩
theorem oN {r:R2} {f:PV→PV→Option PV} (hf:OpS K r f) {p:Ph} {S:Sto} {H:Hp} {a b:AV} {x y:V} {Q:VK} (s:Sim K p S H) (ra:bX K p H a x) (rb:bX K p H b y) (h:bP K cl (bX K) p H (fT f a b S) Q E):r x y H Q:=by
 obtain ⟨c,e,k⟩:=lM s h
 cases z:rd S a with
 | none=>rw [z] at e; cases e
 | some v =>
  cases y:rd S b with
  | none=>rw [z,y] at e; cases e
  | some w =>
   rw [z,y] at e
   exact hf s (nI s ra z) (nI s rb y) e k
theorem tR {r:V→Hp→VK→Prop} {f:PV→Option PV} (hf:UnS K r f) {p:Ph} {S:Sto} {H:Hp} {a:AV} {x:V} {Q:VK} (s:Sim K p S H) (ra:bX K p H a x) (h:bP K cl (bX K) p H (sF f a S) Q E):r x H Q:=by
 obtain ⟨c,e,k⟩:=lM s h
 cases z:rd S a with
 | none=>rw [z] at e; cases e
 | some v =>
  rw [z] at e
  exact hf s (nI s ra z) e k
theorem acg {r:List V→Hp→VK→Prop} {f:List PV→Option PV} (hf:CaR K r f) {p:Ph} {S:Sto} {H:Hp} {as:List AV} {xs:List V} {Q:VK} (s:Sim K p S H) (ra:gB K p H as xs) (h:bP K cl (bX K) p H (lY f as S) Q E):r xs H Q:=by
 obtain ⟨c,e,k⟩:=lM s h
 cases z:gS S as with
 | none=>rw [z] at e; cases e
 | some v =>
  rw [z] at e
  exact hf s (yJ s ra z) e k
theorem tK {p:Ph} {H:Hp}:∀ {as:List AV} {vs:List PV} {xs:List V},iV as=some vs→gB K p H as xs→aU K p.c H vs xs
 | [],vs,_,e,.nil=>by
  cases e
  exact .nil
 | .pv v :: r,vs,_,e,.cons h t=>by
  unfold iV at e
  cases z:iV r with
  | none=>simp only [z] at e; cases e
  | some us =>
   simp only [z] at e
   cases e
   exact .cons h (tK z t)
 | .ref k :: r,vs,_,e,.cons h t=>by
  cases e
theorem yX {r:List V→Hp→VK→Prop} {f:List PV→Option PV} (hf:CaS K r f) {p:Ph} {S:Sto} {H:Hp} {as:List AV} {xs:List V} {Q:VK} (s:Sim K p S H) (ra:gB K p H as xs) (h:bP K cl (bX K) p H (pM f as S) Q E):r xs H Q:=by
 obtain ⟨c,e,k⟩:=lM s h
 cases z:iV as with
 | none=>rw [z] at e; cases e
 | some v =>
  rw [z] at e
  exact hf s (tK z ra) e k
theorem aV {op:Operator} {r:R2} {f:PV→PV→Option PV} (ho:OpR X (binaryOp op) r) (hf:OpS X.K r f) (ha:PEp K cl E X a ma) (hb:PEp K cl E X b mb):PEp K cl E X (.BinOp a op b pos) (aB f ma mb):=by
 intro hK
 subst hK
 refine (ala ho (ha rfl) (hb rfl)).imp fun σ H Q ⟨p,S,ρ,s,e,h⟩=>?_
 exact bR s e h fun q H1 a x S1 st s1 e1 r1 h1=>bR s1 e1 h1 fun q2 H2 b y S2 st2 s2 e2 r2 h2=>oN hf s2 (st2.repA r1) r2 h2
theorem eG {op:UnaryOp} {r:V→Hp→VK→Prop} {f:PV→Option PV} (ho:UnR X (unaryOp op) r) (hf:UnS X.K r f) (ha:PEp K cl E X a ma):PEp K cl E X (.UnaryOp op a pos) (mUn f ma):=by
 intro hK
 subst hK
 refine (alJ ho (ha rfl)).imp fun σ H Q ⟨p,S,ρ,s,e,h⟩=>?_
 exact bR s e h fun q H1 a x S1 st s1 e1 r1 h1=>tR hf s1 r1 h1
theorem gK {op:CmpOp} {r:R2} {f:PV→PV→Option PV} (ho:OpR X (compareOp op) r) (hf:OpS X.K r f) (ha:PEp K cl E X a ma) (hb:PEp K cl E X b mb) (hm:behindInMarks op b=false):PEp K cl E X (.Compare a [op] [b] pos) (aB f ma mb):=by
 intro hK
 subst hK
 refine (aiU ho (ha rfl) (hb rfl) hm).imp fun σ H Q ⟨p,S,ρ,s,e,h⟩=>?_
 exact bR s e h fun q H1 a x S1 st s1 e1 r1 h1=>bR s1 e1 h1 fun q2 H2 b y S2 st2 s2 e2 r2 h2=>oN hf s2 (st2.repA r1) r2 h2
theorem sC {p:Ph} {H:Hp} {v:AV} {x:V} (r:bX K p H v x) {b:Bool} (e:v=.pv (.bl b)):x=.bl b:=by
 subst e
 unfold bX Rep at r
 exact r
theorem zJ {p:Ph} {S:Sto} {H:Hp} {v:AV} {x:V} {Q:Bool→Hp→Prop} (s:Sim K p S H) (r:bX K p H v x)
  (h:bP K cl RB p H (tst v S) Q E):∃ k,x=.bl k∧Q k H:=by
 cases v with
 | ref k=>exact h.elim
 | pv v =>
  cases v with
  | bl b=>exact ⟨b,sC r rfl,bP.ret (R:=RB) h s rfl⟩
  | _=>exact h.elim
theorem cJ {op:CmpOp} {r:R2} {f:PV→PV→Option PV} (ho:OpR X (compareOp op) r) (hf:OpS X.K r f) (ha:PEp K cl E X a ma) (hb:PEp K cl E X b mb) (hm:behindInMarks op b=false):PTp K cl E X (.Compare a [op] [b] pos) (bD (aB f ma mb)):=by
 intro hK
 subst hK
 refine (ah5 ho (ha rfl) (hb rfl) hm).imp fun σ H Q ⟨p,S,ρ,s,e,h⟩=>?_
 have z:tP X.K cl E (bX X.K) (aB f ma mb) σ H fun x H'=>∃ k,x=.bl k∧Q k H':=bR s e h fun q H1 a x S1 st s1 e1 r1 h1=>zJ s1 r1 h1
 obtain ⟨p',S',ρ',s',e',h'⟩:=z
 exact bR s' e' h' fun q H1 a x S1 st s1 e1 r1 h1=>bR s1 e1 h1 fun q2 H2 b y S2 st2 s2 e2 r2 h2=>oN hf s2 (st2.repA r1) r2 h2
theorem gH (ha:PEp K cl E X a ma) (he:∀ whole,isTrue a X.env whole=(do let v ← whole; standAt a.pos; holding [v] (truthy v)):=by intro _; rfl):PTp K cl E X a (bD ma):=by
 intro hK
 subst hK
 refine (ajg (ha rfl) he).imp fun σ H Q ⟨p,S,ρ,s,e,h⟩=>?_
 exact bR s e h fun q H1 a x S1 st s1 e1 r1 h1=>zJ s1 r1 h1
theorem iN (ha:PTp K cl E X a mt):PTp K cl E X (.UnaryOp .Not a pos) (fD mt):=by
 intro hK
 subst hK
 refine (ajB (ha rfl)).imp fun σ H Q ⟨p,S,ρ,s,e,h⟩=>?_
 exact bR s e h fun q H1 a x S1 st s1 e1 r1 h1=>by
  cases r1
  exact bP.ret (R:=RB) h1 s1 rfl
theorem ac9 (ha:PTp K cl E X a mt):PWp K cl E X (.BoolOp .And [a] pos) mt:=fun hK=>aiq (ha hK)
theorem kN (ha:PTp K cl E X a mt):PWp K cl E X (.BoolOp .Or [a] pos) mt:=fun hK=>akv (ha hK)
theorem PWp.pt (h:PWp K cl E X a mt):PTp K cl E X a mt:=fun hK=>PW.pt (h hK)
theorem aeJ {eJ:List Expr} (ha:PTp K cl E X a mt) (hb:PWp K cl E X (.BoolOp .And (b :: eJ) pos) nt):PWp K cl E X (.BoolOp .And (a :: b :: eJ) pos) (mD mt nt):=by
 intro hK
 subst hK
 refine PW.imp (ajO (ha rfl) (hb rfl)) fun σ H Q ⟨p,S,ρ,s,e,h⟩=>?_
 refine bR s e h fun q H1 a x S1 st s1 e1 r1 h1=>?_
 cases r1
 cases a with
 | true=>exact ⟨q,S1,ρ,s1,e1,h1⟩
 | false=>exact bP.ret (R:=RB) h1 s1 rfl
theorem iQ {eJ:List Expr} (ha:PTp K cl E X a mt) (hb:PWp K cl E X (.BoolOp .Or (b :: eJ) pos) nt):PWp K cl E X (.BoolOp .Or (a :: b :: eJ) pos) (mOr mt nt):=by
 intro hK
 subst hK
 refine PW.imp (ale (ha rfl) (hb rfl)) fun σ H Q ⟨p,S,ρ,s,e,h⟩=>?_
 refine bR s e h fun q H1 a x S1 st s1 e1 r1 h1=>?_
 cases r1
 cases a with
 | true=>exact bP.ret (R:=RB) h1 s1 rfl
 | false=>exact ⟨q,S1,ρ,s1,e1,h1⟩
theorem nH {op} (h:PEp K cl E X a ma):PEp K cl E X (.BoolOp op [a] pos) ma:=fun hK=>aj5 (h hK)
theorem rS {eJ:List Expr} (ha:PEp K cl E X a ma) (hb:PEp K cl E X (.BoolOp .And (b :: eJ) pos) mb):PEp K cl E X (.BoolOp .And (a :: b :: eJ) pos) (kS ma mb):=by
 intro hK
 subst hK
 refine (aj1 (ha rfl) (hb rfl)).imp fun σ H Q ⟨p,S,ρ,s,e,h⟩=>?_
 refine bR s e h fun q H1 a x S1 st s1 e1 r1 h1=>?_
 cases a with
 | ref k=>exact h1.elim
 | pv v =>
  cases v with
  | bl b =>
   refine ⟨b,sC r1 rfl,?_⟩
   cases b with
   | true=>exact ⟨q,S1,ρ,s1,e1,h1⟩
   | false=>exact bP.ret (R:=bX X.K) h1 s1 (by show Rep X.K q.c H1 _ _; unfold Rep; rfl)
  | _=>exact h1.elim
theorem akk {eJ:List Expr} (ha:PEp K cl E X a ma) (hb:PEp K cl E X (.BoolOp .Or (b :: eJ) pos) mb):PEp K cl E X (.BoolOp .Or (a :: b :: eJ) pos) (wI ma mb):=by
 intro hK
 subst hK
 refine (alp (ha rfl) (hb rfl)).imp fun σ H Q ⟨p,S,ρ,s,e,h⟩=>?_
 refine bR s e h fun q H1 a x S1 st s1 e1 r1 h1=>?_
 cases a with
 | ref k=>exact h1.elim
 | pv v =>
  cases v with
  | bl b =>
   refine ⟨b,sC r1 rfl,?_⟩
   cases b with
   | true=>exact bP.ret (R:=bX X.K) h1 s1 (by show Rep X.K q.c H1 _ _; unfold Rep; rfl)
   | false=>exact ⟨q,S1,ρ,s1,e1,h1⟩
  | _=>exact h1.elim
theorem akg (ha:PEp K cl E X a ma):PEp K cl E X (.UnaryOp .Not a pos) (mUn sK ma):=by
 intro hK
 subst hK
 refine (ajs (ha rfl)).imp fun σ H Q ⟨p,S,ρ,s,e,h⟩=>?_
 refine bR s e h fun q H1 a x S1 st s1 e1 r1 h1=>?_
 refine tR (r:=fun x H Q=>∃ c,x=.bl c∧Q (.bl (!c)) H) (f:=sK) (fun {p S H a c x Q} s r e k=>?_) s1 r1 h1
 cases a with
 | bl b =>
  cases e
  exact ⟨b,r.bl,k H _ (cA.refl H) (by unfold Rep; rfl)⟩
 | _=>cases e
theorem nQ (hc:PTp K cl E X c mt) (ha:PEp K cl E X a ma) (hb:PEp K cl E X b mb):PEp K cl E X (.IfExp c a b pos) (mIf mt ma mb):=by
 intro hK
 subst hK
 refine (agD (hc rfl) (ha rfl) (hb rfl)).imp fun σ H Q ⟨p,S,ρ,s,e,h⟩=>?_
 refine bR s e h fun q H1 a x S1 st s1 e1 r1 h1=>?_
 cases r1
 cases a with
 | true=>exact ⟨q,S1,ρ,s1,e1,h1⟩
 | false=>exact ⟨q,S1,ρ,s1,e1,h1⟩
theorem aI:PAp K cl E X [] aE:=fun _=>(PA.imp vA fun σ H Q ⟨p,S,ρ,s,e,h⟩=>bP.ret (R:=gB K) h s .nil)
theorem aF (ha:PEp K cl E X e m) (hr:PAp K cl E X es ms) (hs:starEach (e :: es) X.env=(false,eval e X.env) :: starEach es X.env:=by rfl):PAp K cl E X (e :: es) (aC m ms):=by
 intro hK
 subst hK
 refine PA.imp (oW (ha rfl) (hr rfl) hs) fun σ H Q ⟨p,S,ρ,s,e,h⟩=>?_
 exact bR s e h fun q H1 a x S1 st s1 e1 r1 h1=>bR s1 e1 h1 fun q2 H2 b y S2 st2 s2 e2 r2 h2=>bP.ret (R:=gB X.K) h2 s2 (.cons (st2.repA r1) r2)
theorem kK {p:Ph} {S:Sto} {H:Hp} {vs:List PV} {xs:List V} {t:Addr} (s:Sim K p S H) (r:aU K p.c H vs xs) (z:xs.length≤sizeLine) (ht:H t=none):Rep K p.c (upd H t (.tup xs)) (.tup vs) (.ref t):=by
 unfold Rep
 exact ⟨t,xs,rfl,SqT.of gX,z,(s.same (fK ht)).reps r⟩
theorem mZ {p:Ph} {S:Sto} {H:Hp} {vs:List PV} {xs:List V} {t:Addr} (s:Sim K p S H) (r:aU K p.c H vs xs) (z:xs.length≤sizeLine) (ht:H t=none):Rep K p.c (upd H t (.lst xs)) (.lst vs) (.ref t):=by
 unfold Rep
 refine ⟨t,xs,rfl,.inl ⟨gX,fun c=>?_⟩,z,(s.same (fK ht)).reps r⟩
 obtain ⟨o,e,_⟩:=s.mu t c
 rw [ht] at e
 cases e
theorem fJ:sizeLine=16777216:=sizeLine_eq
theorem nK {x1} (h:PAp K cl E X es ms):PEp K cl E X (.Tuple es x1 pos) (mN eV ms):=by
 intro hK
 subst hK
 refine (aha (h rfl)).imp fun σ H Q ⟨p,S,ρ,s,e,h⟩=>?_
 refine bR s e h fun q H1 as xs S1 st s1 e1 r1 h1=>?_
 refine yX (r:=fun xs H Q=>xs.length≤sizeLine∧∀ t,H t=none→Q (.ref t) (upd H t (.tup xs))) (f:=eV) (fun {p S H as c xs Q} s r e k=>?_) s1 r1 h1
 unfold eV at e
 split at e
 ·rename_i hl
  cases e
  rw [r.length,← fJ] at hl
  exact ⟨hl,fun t ht=>k _ _ (fK ht) (kK s r hl ht)⟩
 ·cases e
theorem fS (h:PAp K cl E X es ms):PEp K cl E X (.List es pos) (mN dQ ms):=by
 intro hK
 subst hK
 refine (ahs (h rfl)).imp fun σ H Q ⟨p,S,ρ,s,e,h⟩=>?_
 refine bR s e h fun q H1 as xs S1 st s1 e1 r1 h1=>?_
 refine yX (r:=fun xs H Q=>xs.length≤sizeLine∧∀ t,H t=none→Q (.ref t) (upd H t (.lst xs))) (f:=dQ) (fun {p S H as c xs Q} s r e k=>?_) s1 r1 h1
 unfold dQ at e
 split at e
 ·rename_i hl
  cases e
  rw [r.length,← fJ] at hl
  exact ⟨hl,fun t ht=>k _ _ (fK ht) (mZ s r hl ht)⟩
 ·cases e
end
end L2.Pp
namespace L2.Pp
noncomputable section
open PySem PySem.Spec PyProof.Rows Bn
def bV:MS:=fun ρ S=>.nx ρ S
def aR (a b:MS):MS:=fun ρ S=>match a ρ S with
 | .nx ρ1 S1=>b ρ1 S1
 | r=>r
def eF (m:ME):MS:=fun ρ S=>cE.of (m ρ S) fun _ S1=>.nx ρ S1
def bC (m:ME):MS:=fun ρ S=>cE.of (m ρ S) fun v S1=>.rt v S1
def ak1:MS:=fun _ S=>.rt (.pv .non) S
def sIf (c:MT) (a b:MS):MS:=fun ρ S=>cE.of (c ρ S) fun t S1=>if t=true then a ρ S1 else b ρ S1
def bA (i:Nat) (m:ME):MS:=fun ρ S=>cE.of (m ρ S) fun v S1=>.nx (ρ.set i (some v)) S1
def wP (i j:Nat) (m:MA):MS:=fun ρ S=>cE.of (m ρ S) fun vs S1=>match vs with
 | [v,w]=>.nx ((ρ.set i (some v)).set j (some w)) S1
 | _=>.fail
abbrev GM:=PV→Rho→Option Rho
abbrev GMs:=List PV→Rho→Option Rho
def gN (i:Nat):GM:=fun v ρ=>some (ρ.set i (some (.pv v)))
def eB:GMs:=fun vs ρ=>match vs with
 | []=>some ρ
 | _=>none
def cM (g:GM) (gs:GMs):GMs:=fun vs ρ=>match vs with
 | []=>none
 | v :: r=>match g v ρ with
  | some ρ1=>gs r ρ1
  | none=>none
def gT (n:Nat) (gs:GMs):GM:=fun v ρ=>match v with
 | .tup vs=>if vs.length=n then gs vs ρ else none
 | _=>none
def pX (g:GM) (m:ME):MS:=fun ρ S=>cE.of (m ρ S) fun v S1=>match v with
 | .pv v=>match g v ρ with
  | some ρ1=>.nx ρ1 S1
  | none=>.fail
 | _=>.fail
abbrev Gd:=List (Nat × List PV)
def gOk (G:Gd) (S:Sto):Prop:=∀ g∈G,S[g.1]?=some (.lst g.2)
theorem jJ (S:Sto):gOk [] S:=fun _ h=>nomatch h
abbrev MI:=Rho→Sto→Res (List PV × Gd)
open Classical in
def dD (G:Gd) (g:GM) (mb:MS):List PV→Rho→Sto→cE
 | [],ρ,S=>if gOk G S then .nx ρ S else .fail
 | x :: r,ρ,S=>if gOk G S then (match g x ρ with
  | none=>.fail
  | some ρ1=>match mb ρ1 S with
   | .nx ρ2 S2=>dD G g mb r ρ2 S2
   | .ct ρ2 S2=>dD G g mb r ρ2 S2
   | .bk ρ2 S2=>.nx ρ2 S2
   | .rt v S2=>.rt v S2
   | .exc n S2=>.exc n S2
   | .fail=>.fail) else .fail
def dI (mi:MI) (g:GM) (mb:MS):MS:=fun ρ S=>cE.of (mi ρ S) fun xs S1=>dD xs.2 g mb xs.1 ρ S1
theorem jE {g:GM} {mb:MS} {ρ:Rho} {S:Sto}:dD [] g mb [] ρ S=.nx ρ S:=by
 unfold dD
 rw [if_pos (jJ S)]
theorem jD {g:GM} {mb:MS} {x:PV} {r:List PV} {ρ:Rho} {S:Sto}:dD [] g mb (x :: r) ρ S=(match g x ρ with
  | none=>.fail
  | some ρ1=>match mb ρ1 S with
   | .nx ρ2 S2=>dD [] g mb r ρ2 S2
   | .ct ρ2 S2=>dD [] g mb r ρ2 S2
   | .bk ρ2 S2=>.nx ρ2 S2
   | .rt v S2=>.rt v S2
   | .exc n S2=>.exc n S2
   | .fail=>.fail):=by
 rw [dD,if_pos (jJ S)]
def dB (c:MT) (mb:MS):Nat→Rho→Sto→cE
 | 0,_,_=>.fail
 | n+1,ρ,S=>cE.of (c ρ S) fun t S1=>if t=true then (match mb ρ S1 with
   | .nx ρ2 S2=>dB c mb n ρ2 S2
   | .ct ρ2 S2=>dB c mb n ρ2 S2
   | .bk ρ2 S2=>.nx ρ2 S2
   | .rt v S2=>.rt v S2
   | .exc n S2=>.exc n S2
   | .fail=>.fail) else .nx ρ S1
open Classical in
def nJ (c:MT) (mb:MS):MS:=fun ρ S=>if h:∃ n,dB c mb n ρ S≠.fail then dB c mb h.choose ρ S else .fail
theorem cE.of_ok {α:Type} {r:Res α} {k k':α→Sto→cE} (h:∀ a S,k a S≠.fail→k' a S=k a S) (n:cE.of r k≠.fail):cE.of r k'=cE.of r k:=by
 cases r with
 | ok a S=>exact h a S n
 | exc=>rfl
 | fail=>rfl
theorem xS {c:MT} {mb:MS}:∀ {n:Nat} {ρ:Rho} {S:Sto},dB c mb n ρ S≠.fail→dB c mb (n+1) ρ S=dB c mb n ρ S
 | 0,_,_,h=>absurd rfl h
 | n+1,ρ,S,h=>by
  unfold dB at h
  rw [dB]
  conv=>rhs; rw [dB]
  refine cE.of_ok (fun t S1 h1=>?_) h
  by_cases ht:t=true
  ·simp only [if_pos ht] at h1 ⊢
   cases z:mb ρ S1 with
   | nx ρ2 S2=>rw [z] at h1; exact xS h1
   | ct ρ2 S2=>rw [z] at h1; exact xS h1
   | _=>rfl
  ·simp only [if_neg ht] at h1 ⊢
theorem xY {c:MT} {mb:MS} {n:Nat} {ρ:Rho} {S:Sto} (h:dB c mb n ρ S≠.fail):∀ k,dB c mb (n+k) ρ S=dB c mb n ρ S
 | 0=>rfl
 | k+1=>by
  have ih:=xY h k
  rw [← Nat.add_assoc,xS (by rw [ih]; exact h),ih]
theorem zA {c:MT} {mb:MS} {n:Nat} {ρ:Rho} {S:Sto} {r:cE} (e:dB c mb n ρ S=r) (h:r≠.fail):nJ c mb ρ S=r:=by
 have h':∃ n,dB c mb n ρ S≠.fail:=⟨n,by rw [e]; exact h⟩
 unfold nJ
 rw [dif_pos h']
 have e2:=h'.choose_spec
 rcases Nat.le_total n h'.choose with l | l
 ·obtain ⟨k,q⟩:=Nat.exists_eq_add_of_le l
  rw [q,xY (by rw [e]; exact h),e]
 ·obtain ⟨k,q⟩:=Nat.exists_eq_add_of_le l
  have z:=xY e2 k
  rw [← q,e] at z
  exact z.symm
section
variable {K:PySem.W.Frag} {cl:Str→Addr} {E:XK} {X:Cx} {a b c e tg:Expr} {es:List Expr} {m:ME} {mt:MT} {ms:MA} {b1 b2:MS} {st:Stmt} {sts sts':List Stmt} {pos:Pos}
theorem cV.set {p:Ph} {H:Hp} {ρ:Rho} {σ:St} {v:AV} {x:V} (h:cV K p H ρ σ) (r:bX K p H v x) (i:Nat):cV K p H (ρ.set i (some v)) (σ.set i (some x)):=by
 refine ⟨by rw [List.length_set,List.length_set,h.len],fun j u e=>?_⟩
 by_cases q:i=j
 ·subst q
  by_cases l:i < ρ.length
  ·rw [List.getElem?_set_self l] at e
   cases e
   exact ⟨x,List.getElem?_set_self (by rw [← h.len]; exact l),r⟩
  ·rw [List.getElem?_eq_none (by rw [List.length_set]; omega)] at e
   cases e
 ·rw [List.getElem?_set_ne q] at e ⊢
  exact h.at_ j u e
theorem cR:jS K cl E X [] bV:=fun _=>PSs.imp aix fun D σ H ⟨p,S,ρ,s,e,h⟩=>h p H σ s.step s e
theorem dH.nxD {p:Ph} {H:Hp} {ρ:Rho} {S:Sto} {D:kD} (h:dH K cl p H (.nx ρ S) D E) {σ:St} (s:Sim K p S H) (e:cV K p H ρ σ):D.nx σ H:=h p H σ s.step s e
theorem aX (h1:PSp K cl E X st b1) (h2:jS K cl E X sts b2):jS K cl E X (st :: sts) (aR b1 b2):=by
 intro hK
 subst hK
 refine PSs.imp (af3 (h1 rfl) (h2 rfl)) fun D σ H ⟨p,S,ρ,s,e,h⟩=>⟨p,S,ρ,s,e,?_⟩
 unfold aR at h
 cases z:b1 ρ S with
 | nx ρ1 S1 =>
  rw [z] at h
  exact fun q H' σ' stp sm ev=>⟨q,S1,ρ1,sm,ev,dH.mono (r:=b2 ρ1 S1) h stp⟩
 | bk ρ1 S1=>rw [z] at h; exact h
 | ct ρ1 S1=>rw [z] at h; exact h
 | rt v S1=>rw [z] at h; exact h
 | exc n S1=>rw [z] at h; exact h
 | fail=>rw [z] at h; exact h
theorem aZ (h1:PSp K cl E X st b1):jS K cl E X [st] b1:=fun hK=>afd (h1 hK)
theorem gW (he:PEp K cl E X e m) (hs:swapsWith e none pos.line X.env=pure false:=by rfl):PSp K cl E X (.Expr e pos) (eF m):=by
 intro hK
 subst hK
 refine PS.imp (aiT (he rfl) hs) fun D σ H ⟨p,S,ρ,s,e,h⟩=>?_
 exact jI s e h fun q H' a b S' stp sm ev r k=>dH.nxD k sm ev
theorem bH (he:PEp K cl E X e m):PSp K cl E X (.Return (some e) pos) (bC m):=by
 intro hK
 subst hK
 refine PS.imp (ai6 (he rfl)) fun D σ H ⟨p,S,ρ,s,e,h⟩=>?_
 exact jI s e h fun q H' a b S' stp sm ev r k=>k q H' b sm.step sm r
theorem cP (hc:PTp K cl E X c mt) (ha:jS K cl E X sts b1) (hb:jS K cl E X sts' b2):PSp K cl E X (.If c sts sts' pos) (sIf mt b1 b2):=by
 intro hK
 subst hK
 refine PS.imp (alq (hc rfl) (ha rfl) (hb rfl)) fun D σ H ⟨p,S,ρ,s,e,h⟩=>?_
 refine jI s e h fun q H' a b S' stp sm ev r k=>?_
 cases r
 cases a with
 | true=>exact ⟨q,S',ρ,sm,ev,k⟩
 | false=>exact ⟨q,S',ρ,sm,ev,k⟩
theorem bQ {i:Nat} {x:Str} {pos':Pos} (hN:X.N.Nodup) (hi:X.N[i]?=some x) (hx:Loc X.env.scope x) (he:PEp K cl E X e m) (hs:swapsWith e (some (.Name x pos')) pos.line X.env=pure false:=by rfl)
  (hf:X.fn x=true∨X.env.scope.names.lookup x=some .local:=by first | exact .inl rfl | exact .inr rfl | assumption):PSp K cl E X (.Assign [.Name x pos'] e pos) (bA i m):=by
 intro hK
 subst hK
 refine PS.imp (ahu hN hi hx (he rfl) hs hf) fun D σ H ⟨p,S,ρ,s,e,h⟩=>?_
 exact jI s e h fun q H' a b S' stp sm ev r k=>dH.nxD k sm (ev.set r i)
theorem ain {i j:Nat} {x y:Str} {px py pt:Pos} {kt k2 pt2} (hc:X.calm=true) (hN:X.N.Nodup) (hi:X.N[i]?=some x) (hj:X.N[j]?=some y) (hij:i≠j)
  (hx:X.env.scope.names.lookup x=some .local) (hy:X.env.scope.names.lookup y=some .local) (ha:PAp K cl E X [a,b] ms)
  (hw:swappedStores [.Tuple [.Name x px,.Name y py] kt pt] (.Tuple [a,b] k2 pt2) X.env=pure (some [x,y]))
  (hs:swapsWithSole [.Tuple [.Name x px,.Name y py] kt pt] (.Tuple [a,b] k2 pt2) pos.line X.env=pure false:=by rfl) :
  PSp K cl E X (.Assign [.Tuple [.Name x px,.Name y py] kt pt] (.Tuple [a,b] k2 pt2) pos) (wP i j ms):=by
 intro hK
 subst hK
 refine PS.imp (ajZ hc hN hi hj hij hx hy (ha rfl) hw hs) fun D σ H ⟨p,S,ρ,s,e,h⟩=>?_
 refine jI s e h fun q H' vs xs S' stp sm ev r k=>?_
 match vs,xs,r with
 | [],_,.nil=>exact k.elim
 | [v],_,.cons _ .nil=>exact k.elim
 | [v,w],_,.cons (b:=x1) r1 (.cons (b:=x2) r2 .nil)=>exact ⟨x1,x2,rfl,dH.nxD k sm ((ev.set r1 i).set r2 j)⟩
 | _ :: _ :: _ :: _,_,.cons _ (.cons _ (.cons _ _))=>exact k.elim
def gP (K:PySem.W.Frag) (g:GM):TG:=fun x σ H Q=>∃ p S ρ v ρ',Sim K p S H∧cV K p H ρ σ∧Rep K p.c H v x∧g v ρ=some ρ'∧∀ σ',cV K p H ρ' σ'→Q σ' H
def gPs (K:PySem.W.Frag) (g:GMs):TGs:=fun xs σ H Q=>∃ p S ρ vs ρ',Sim K p S H∧cV K p H ρ σ∧aU K p.c H vs xs∧g vs ρ=some ρ'∧∀ σ',cV K p H ρ' σ'→Q σ' H
variable (K X)
def PGp (tg:Expr) (g:GM):Prop:=X.K=K→PG X tg (gP K g)
def wE (ts:List Expr) (g:GMs):Prop:=X.K=K→PGs X ts (gPs K g)
variable {K X}
theorem PG.imp {tg:Expr} {t t':TG} (h:PG X tg t) (i:∀ x σ H Q,t' x σ H Q→t x σ H Q):PG X tg t':=fun pins s σ H v u Q I r q=>h pins s σ H v u Q I r (i v σ H Q q)
theorem PGs.imp {ts:List Expr} {t t':TGs} (h:PGs X ts t) (i:∀ x σ H Q,t' x σ H Q→t x σ H Q):PGs X ts t':=fun pins s σ H v u Q I r q=>h pins s σ H v u Q I r (i v σ H Q q)
theorem cF {i:Nat} {x:Str} (hN:X.N.Nodup) (hi:X.N[i]?=some x) (hx:Loc X.env.scope x) (hf:X.fn x=true∨X.env.scope.names.lookup x=some .local:=by first | exact .inl rfl | exact .inr rfl | assumption):PGp K X (.Name x pos) (gN i) :=
 fun _=>PG.imp (aiQ hN hi hx hf) fun x σ H Q ⟨p,S,ρ,v,ρ',s,ev,r,g,k⟩=>by
  cases g
  exact k _ (ev.set (v:=.pv v) r i)
theorem mW:wE K X [] eB:=fun _=>PGs.imp aiE fun xs σ H Q ⟨p,S,ρ,vs,ρ',s,ev,r,g,k⟩=>by
 cases vs with
 | nil =>
  cases g
  unfold aU at r
  exact ⟨r,k _ ev⟩
 | cons _ _=>cases g
theorem gU {g:GM} {gs:GMs} (h1:PGp K X e g) (h2:wE K X es gs) (hs:(assignEach (e :: es) X.env).map (·.2)=assign e X.env :: (assignEach es X.env).map (·.2):=by rfl):wE K X (e :: es) (cM g gs):=by
 intro hK
 subst hK
 refine PGs.imp (agb (h1 rfl) (h2 rfl) hs) fun xs σ H Q ⟨p,S,ρ,vs,ρ',s,ev,r,g1,k⟩=>?_
 cases vs with
 | nil=>cases g1
 | cons v vr =>
  unfold aU at r
  obtain ⟨x,xr,rfl,r1,r2⟩:=r
  unfold cM at g1
  cases z:g v ρ with
  | none=>simp only [z] at g1; cases g1
  | some ρ1 =>
   simp only [z] at g1
   exact ⟨x,xr,rfl,p,S,ρ,v,ρ1,s,ev,r1,z,fun σ' ev'=>⟨p,S,ρ1,vr,ρ',s,ev',r2,g1,k⟩⟩
theorem nB {k:Nat} {gs:GMs} {n:Nat} (hc:X.calm=true) (h:wE K X es gs) (hn:(assignEach es X.env).length=n:=by rfl) (hst:(assignEach es X.env).findIdx? (·.1)=none:=by rfl):PGp K X (.Tuple es k pos) (gT n gs):=by
 intro hK
 subst hK
 refine PG.imp (akz hc (h rfl) hn hst) fun x σ H Q ⟨p,S,ρ,v,ρ',s,ev,r,g1,k⟩=>?_
 cases v with
 | tup vs =>
  unfold Rep at r
  obtain ⟨a,xs,rfl,t,z,r⟩:=r
  unfold gT at g1
  dsimp only at g1
  split at g1
  ·rename_i hl
   exact ⟨a,xs,rfl,t,r.length.symm.trans hl,p,S,ρ,vs,ρ',s,ev,r,g1,k⟩
  ·cases g1
 | _=>cases g1
theorem aiO {g:GM} (he:PEp K cl E X e m) (hg:PGp K X tg g) (hs:swapsWithSole [tg] e pos.line X.env=pure false:=by rfl) (hw:swappedStores [tg] e X.env=pure none:=by rfl)
  (h1:(assignEach [tg] X.env).map (·.2)=[assign tg X.env]:=by rfl):PSp K cl E X (.Assign [tg] e pos) (pX g m):=by
 intro hK
 subst hK
 refine PS.imp (agV (he rfl) (hg rfl) hs hw h1) fun D σ H ⟨p,S,ρ,s,e,h⟩=>?_
 refine jI s e h fun q H' a b S' stp sm ev r k=>?_
 cases a with
 | ref k'=>exact k.elim
 | pv v =>
  dsimp only at k
  cases z:g v ρ with
  | none=>simp only [z] at k; exact k.elim
  | some ρ1 =>
   simp only [z] at k
   exact ⟨q,S',ρ,v,ρ1,sm,ev,r,z,fun σ' ev'=>dH.nxD k sm ev'⟩
def eC (K:PySem.W.Frag) (p:Ph) (H:Hp) (xs:List PV × Gd) (J:It):Prop:=xs.1.length≤sizeLine∧∀ q H1 S1,bN p H q H1→Sim K q S1 H1→gOk xs.2 S1 →
 (∀ (i:Nat) (v:PV),xs.1[i]?=some v→J.go i H1∧∀ x H2,J.yld i H1 x H2→cA H1 H2∧Rep K q.c H2 v x)∧J.stop xs.1.length H1
theorem eC.step {p q:Ph} {H H':Hp} {xs:List PV × Gd} {J:It} (h:eC K p H xs J) (s:bN p H q H'):eC K q H' xs J:=⟨h.1,fun r H1 S1 t=>h.2 r H1 S1 (s.trans t)⟩
variable (K cl E X)
def PIp (tg iter:Expr) (m:MI):Prop:=X.K=K→PI X tg iter (tP K cl E (eC K) m)
variable {K cl E X}
theorem PI.imp {tg iter:Expr} {t t':TI} (h:PI X tg iter t) (i:∀ σ H Q,t' σ H Q→t σ H Q):PI X tg iter t':=fun pins s σ H R I q=>h pins s σ H R I (i σ H R q)
def al6 (K:PySem.W.Frag) (tl:TE):TI:=fun σ H R=>tl σ H fun x H1=>∃ a,x=.ref a∧(((∃ xs,SqL K H1 a xs)∧R (Itl K a) H1)∨((∃ xs,SqT K H1 a xs)∧R (Itt K a) H1))
theorem akq {l:Expr} {tl:TE} (hl:PE X l tl):PI X tg l (al6 X.K tl):=by
 intro pins s σ H R I h
 refine thn (hl pins s σ H _ I h) fun v s1 ⟨x,H1,I1,r1,q1⟩=>?_
 obtain ⟨a,e,q⟩:=q1
 subst e
 cases r1
 rcases q with ⟨⟨xs,hq⟩,q⟩ | ⟨⟨xs,hq⟩,q⟩
 ·obtain ⟨its,rv,p,hz⟩:=I1.list hq
  refine wpAny_pyIter_list p.isList ?_
  refine ⟨s1.heap.objs.size,[s1.heap.objs.size],_,_,H1,rfl,I1.kept (t':=s1.toks) fun b o e=>Heap.get?_push_of_some _ e,aep a _,⟨_,Heap.get?_push_size _ rfl,rfl,rfl⟩,fun b hb=>?_,q⟩
  have e:b=s1.heap.objs.size:=by simpa using hb
  subst e
  exact I1.fpOk (Nat.le_refl _) (I1.hok.fresh (Nat.le_refl _))
 ·obtain ⟨its,rv,p,hz⟩:=I1.tuple hq
  refine wpAny_pyIter_tuple (show s1.heap.IsTuple a its.toArray from p) ?_
  refine ⟨s1.heap.objs.size,[s1.heap.objs.size],_,_,H1,rfl,I1.kept (t':=s1.toks) fun b o e=>Heap.get?_push_of_some _ e,adN a _,⟨_,Heap.get?_push_size _ rfl,rfl,rfl⟩,fun b hb=>?_,q⟩
  have e:b=s1.heap.objs.size:=by simpa using hb
  subst e
  exact I1.fpOk (Nat.le_refl _) (I1.hok.fresh (Nat.le_refl _))
def bW:AV→Sto→Res (List PV × Gd)
 | .pv (.lst xs),S=>.ok (xs,[]) S
 | .pv (.tup xs),S=>.ok (xs,[]) S
 | .ref k,S=>match S[k]? with
  | some (.lst xs)=>.ok (xs,[(k,xs)]) S
  | _=>.fail
 | _,_=>.fail
def mIt (m:ME):MI:=fun ρ S=>(m ρ S).bind bW
theorem ajm {p:Ph} {H:Hp} {xs:List PV} {a:Addr} {vs:List V} (l:LAt K p.c H a vs) (z:vs.length≤sizeLine) (r:aU K p.c H xs vs):eC K p H (xs,[]) (Itl K a):=by
 refine ⟨by rw [r.length]; exact z,fun q H1 S1 st _ _=>⟨fun i v e=>?_,?_⟩⟩
 ·have l1:=(st.lat l).sq
  obtain ⟨x,e1,r1⟩:=(st.reps r).get e
  refine ⟨⟨vs,x,l1,e1⟩,fun y H2 hy=>?_⟩
  obtain ⟨rfl,hy⟩:=hy
  have:=(hy vs l1).symm.trans e1
  cases this
  exact ⟨cA.refl _,r1⟩
 ·exact ⟨vs,(st.lat l).sq,by rw [r.length]; exact Nat.le_refl _⟩
theorem akA {p:Ph} {H:Hp} {xs:List PV} {a:Addr} {vs:List V} (l:SqT K H a vs) (z:vs.length≤sizeLine) (r:aU K p.c H xs vs):eC K p H (xs,[]) (Itt K a):=by
 refine ⟨by rw [r.length]; exact z,fun q H1 S1 st _ _=>⟨fun i v e=>?_,?_⟩⟩
 ·have l1:=st.tup l
  obtain ⟨x,e1,r1⟩:=(st.reps r).get e
  refine ⟨⟨vs,x,l1,e1⟩,fun y H2 hy=>?_⟩
  obtain ⟨rfl,hy⟩:=hy
  have:=(hy vs l1).symm.trans e1
  cases this
  exact ⟨cA.refl _,r1⟩
 ·exact ⟨vs,st.tup l,by rw [r.length]; exact Nat.le_refl _⟩
theorem ajR {p:Ph} {H:Hp} {xs:List PV} {a:Addr} {k:Nat} {n:xs.length≤sizeLine} (hf:p.f[k]?=some a):eC K p H (xs,[(k,xs)]) (Itl K a):=by
 refine ⟨n,fun q H1 S1 st sm g=>?_⟩
 have e0:S1[k]?=some (.lst xs):=g (k,xs) List.mem_cons_self
 obtain ⟨vs,h1,l1,r1⟩:=sm.obj k a _ (st.at_ hf) e0
 refine ⟨fun i v e=>?_,?_⟩
 ·obtain ⟨x,e1,r2⟩:=r1.get e
  refine ⟨⟨vs,x,SqL.of h1,e1⟩,fun y H2 hy=>?_⟩
  obtain ⟨rfl,hy⟩:=hy
  have:=(hy vs (SqL.of h1)).symm.trans e1
  cases this
  exact ⟨cA.refl _,r2⟩
 ·exact ⟨vs,SqL.of h1,by rw [r1.length]; exact Nat.le_refl _⟩
theorem dY (h:PEp K cl E X e m):PIp K cl E X tg e (mIt m):=by
 intro hK
 subst hK
 refine PI.imp (akq (h rfl)) fun σ H R ⟨p,S,ρ,s,ev,h⟩=>?_
 refine bR s ev h fun q H' v x S' stp sm ev r k=>?_
 cases v with
 | ref j =>
  obtain ⟨a,e,rfl⟩:=r
  unfold bW at k
  dsimp only at k
  cases z:S'[j]? with
  | none=>rw [z] at k; exact k.elim
  | some o =>
   cases o with
   | lst xs =>
    rw [z] at k
    obtain ⟨vs,h1,l1,r1⟩:=sm.obj j a _ e z
    exact ⟨a,rfl,.inl ⟨⟨vs,SqL.of h1⟩,bP.ret (R:=eC X.K) k sm (ajR (n:=by rw [r1.length]; exact l1) e)⟩⟩
   | lol xss=>rw [z] at k; exact k.elim
 | pv v =>
  cases v with
  | lst xs =>
   have r:Rep X.K q.c H' (.lst xs) x:=r
   unfold Rep at r
   obtain ⟨a,vs,rfl,l,z,r⟩:=r
   exact ⟨a,rfl,.inl ⟨⟨vs,l.sq⟩,bP.ret (R:=eC X.K) k sm (ajm l z r)⟩⟩
  | tup xs =>
   have r:Rep X.K q.c H' (.tup xs) x:=r
   unfold Rep at r
   obtain ⟨a,vs,rfl,l,z,r⟩:=r
   exact ⟨a,rfl,.inr ⟨⟨vs,l⟩,bP.ret (R:=eC X.K) k sm (akA l z r)⟩⟩
  | _=>exact k.elim
def dA (lo:Int) (n:Nat):List PV:=(List.range n).map fun i=>.int (lo+(i:Nat))
def lZ:List AV→Sto→Res (List PV × Gd)
 | [.pv (.int j)],S1=>@ite _ (j≤16777216∧-16777216≤j) (Classical.propDecidable _) (.ok (dA 0 j.toNat,[]) S1) .fail
 | _,_=>.fail
def fR (ms:MA):MI:=fun ρ S=>(ms ρ S).bind lZ
theorem aj7 {p:Ph} {H:Hp} {lo:Int} {n:Nat} (h:n≤sizeLine):eC K p H (dA lo n,[]) (Itr lo n):=by
 have hl:(dA lo n).length=n:=by unfold dA; rw [List.length_map,List.length_range]
 refine ⟨by show (dA lo n).length≤_; rw [hl]; exact h,fun q H1 S1 st _ _=>⟨fun i v e=>?_,?_⟩⟩
 ·have hi:i < n:=by
   have:=(List.getElem?_eq_some_iff.mp (show (dA lo n)[i]?=some v from e)).1
   omega
  refine ⟨hi,fun x H2 hy=>?_⟩
  obtain ⟨rfl,rfl⟩:=hy
  have e:(dA lo n)[i]?=some v:=e
  unfold dA at e
  rw [List.getElem?_map,List.getElem?_range hi] at e
  cases e
  refine ⟨cA.refl _,?_⟩
  unfold Rep
  rfl
 ·show n≤(dA lo n).length
  rw [hl]
  exact Nat.le_refl n
theorem oJ {p:Pos} (hg:Gl X "range") (hm:X.mg "range"=none) (ha:PAp K cl E X [a] ms) (hs:starEach [a] X.env=[(false,eval a X.env)]:=by rfl):PIp K cl E X tg (.Call (.Name "range" p) [a] [] pos) (fR ms):=by
 intro hK
 subst hK
 refine PI.imp (afN hg hm (ha rfl) hs) fun σ H R ⟨p,S,ρ,s,ev,h⟩=>?_
 refine bR s ev h fun q H' vs xs S' stp sm ev r k=>?_
 unfold lZ at k
 split at k
 ·rename_i j
  cases r with
  | cons r1 r2 =>
   cases r2
   rename_i x
   have e:x=.int j:=by
    have r1:Rep X.K q.c H' (.int j) x:=r1
    unfold Rep at r1
    exact r1
   subst e
   split at k
   ·rename_i hj
    have hz:=fJ
    exact ⟨j,rfl,by omega,by omega,bP.ret (R:=eC X.K) k sm (aj7 (by omega))⟩
   ·exact k.elim
 ·exact k.elim
theorem kL {mi:MI} {g:GM} (hp:PassesOwn (model X.prog X.w) X.A X.env X.xe) (hc:X.calm=true) (hi:PIp K cl E X tg e mi) (hg:PGp K X tg g) (hb:jS K cl E X sts b1)
  (hs:∀ x,foldedSetIterable e X.env x=pure x:=by intro _; rfl):PSp K cl E X (.For tg e sts [] pos) (dI mi g b1):=by
 intro hK
 subst hK
 refine PS.imp (ai8 hp hc (hi rfl) (hg rfl) (hb rfl) hs) fun D σ H ⟨p,S,ρ,s,ev,h⟩=>?_
 refine jI s ev h fun q H' xg J S' stp sm ev it k=>?_
 obtain ⟨xs,G⟩:=xg
 refine ⟨fun i n σ H=>n=xs.length - i∧i≤xs.length∧∃ p S ρ,Sim X.K p S H∧cV X.K p H ρ σ∧eC X.K p H (xs,G) J∧dH X.K cl p H (dD G g b1 (xs.drop i) ρ S) D E,⟨xs.length,by simp,Nat.zero_le _,q,S',ρ,sm,ev,it,by simpa using k⟩,?_⟩
 rintro i n σ1 H1 ⟨rfl,hi,p1,S1,ρ1,sm1,ev1,it1,k1⟩
 by_cases hlt:i < xs.length
 ·have hx:xs[i]?=some xs[i]:=List.getElem?_eq_getElem hlt
  rw [List.drop_eq_getElem_cons hlt] at k1
  unfold dD at k1
  split at k1
  ·rename_i gk
   obtain ⟨g1,y1⟩:=(it1.2 p1 H1 S1 sm1.step sm1 gk).1 i _ hx
   cases z:g xs[i] ρ1 with
   | none=>simp only [z] at k1; exact k1.elim
   | some ρ2 =>
    simp only [z] at k1
    refine .inr ⟨g1,fun σ' H'=>i+1≤xs.length∧∃ p S ρ,Sim X.K p S H'∧cV X.K p H' ρ σ'∧eC X.K p H' (xs,G) J∧dH X.K cl p H' (dD G g b1 (xs.drop (i+1)) ρ S) D E,fun σ' H' hN=>⟨xs.length - (i+1),by omega,rfl,hN⟩,fun x H2 hy=>?_⟩
    obtain ⟨same,rx⟩:=y1 x H2 hy
    have st2:=sm1.same same
    have sm2:=sm1.ofSame same
    refine ⟨p1,S1,ρ1,xs[i],ρ2,sm2,st2.repE ev1,rx,z,fun σ3 ev3=>⟨p1,S1,ρ2,sm2,ev3,?_⟩⟩
    have it2:=it1.step st2
    cases y:b1 ρ2 S1 with
    | nx ρ4 S4 =>
     rw [y] at k1
     exact fun q5 H5 σ5 st5 sm5 ev5=>⟨hlt,q5,S4,ρ4,sm5,ev5,it2.step st5,dH.mono (r:=dD G g b1 (xs.drop (i+1)) ρ4 S4) k1 (st2.trans st5)⟩
    | ct ρ4 S4 =>
     rw [y] at k1
     exact fun q5 H5 σ5 st5 sm5 ev5=>⟨hlt,q5,S4,ρ4,sm5,ev5,it2.step st5,dH.mono (r:=dD G g b1 (xs.drop (i+1)) ρ4 S4) k1 (st2.trans st5)⟩
    | bk ρ4 S4=>rw [y] at k1; exact dH.mono (r:=.nx ρ4 S4) k1 st2
    | rt v S4=>rw [y] at k1; exact dH.mono (r:=.rt v S4) k1 st2
    | exc v S4=>rw [y] at k1; exact dH.mono (r:=.exc v S4) k1 st2
    | fail=>rw [y] at k1; exact k1.elim
  ·exact k1.elim
 ·have e:i=xs.length:=by omega
  subst e
  rw [List.drop_length] at k1
  unfold dD at k1
  split at k1
  ·rename_i gk
   exact .inl ⟨(it1.2 p1 H1 S1 sm1.step sm1 gk).2,dH.nxD k1 sm1 ev1⟩
  ·exact k1.elim
theorem yZ (hp:PassesOwn (model X.prog X.w) X.A X.env X.xe) (hc:PTp K cl E X c mt) (hb:jS K cl E X sts b1):PSp K cl E X (.While c sts [] pos) (nJ mt b1):=by
 intro hK
 subst hK
 refine PS.imp (agL hp (hc rfl) (hb rfl)) fun D σ H ⟨p,S,ρ,s,ev,h⟩=>?_
 unfold nJ at h
 split at h
 ·rename_i hh
  refine ⟨fun n σ H=>∃ p S ρ,Sim X.K p S H∧cV X.K p H ρ σ∧dH X.K cl p H (dB mt b1 n ρ S) D E,⟨_,p,S,ρ,s,ev,h⟩,?_⟩
  rintro n σ1 H1 ⟨p1,S1,ρ1,sm1,ev1,k1⟩
  cases n with
  | zero=>exact k1.elim
  | succ n =>
   unfold dB at k1
   refine jI sm1 ev1 k1 fun q H2 t t' S2 stp sm2 ev2 r k2=>?_
   cases r
   cases t with
   | true =>
    rw [if_pos rfl] at k2 ⊢
    refine ⟨fun σ' H'=>∃ p S ρ,Sim X.K p S H'∧cV X.K p H' ρ σ'∧dH X.K cl p H' (dB mt b1 n ρ S) D E,fun σ' H' hN=>⟨n,Nat.lt_succ_self n,hN⟩,q,S2,ρ1,sm2,ev2,?_⟩
    cases y:b1 ρ1 S2 with
    | nx ρ4 S4 =>
     rw [y] at k2
     exact fun q5 H5 σ5 st5 sm5 ev5=>⟨q5,S4,ρ4,sm5,ev5,dH.mono (r:=dB mt b1 n ρ4 S4) k2 st5⟩
    | ct ρ4 S4 =>
     rw [y] at k2
     exact fun q5 H5 σ5 st5 sm5 ev5=>⟨q5,S4,ρ4,sm5,ev5,dH.mono (r:=dB mt b1 n ρ4 S4) k2 st5⟩
    | bk ρ4 S4=>rw [y] at k2; exact k2
    | rt v S4=>rw [y] at k2; exact k2
    | exc v S4=>rw [y] at k2; exact k2
    | fail=>rw [y] at k2; exact k2.elim
   | false =>
    rw [if_neg Bool.false_ne_true] at k2 ⊢
    exact dH.nxD k2 sm2 ev2
 ·exact h.elim
end
end
end L2.Pp
namespace L2.Pp
open PySem PySem.Spec PyProof.Rows Bn
def jL (n:Nat) (xs:List AV):Rho:=xs.map some++List.replicate (n - xs.length) none
def lV (n:Nat):AV→Sto→Res AV
 | .pv v,S=>.ok (.pv v) (S.take n)
 | .ref k,S=>if k < n then .ok (.ref k) (S.take n) else match S[k]? with
  | some (.lst xs)=>.ok (.ref n) (S.take n++[.lst xs])
  | _=>.fail
def frz (n:Nat):Res AV→Res AV
 | .ok (.ref k) S=>if k < n then .ok (.ref k) S else match S[k]? with
  | some (.lst xs)=>.ok (.pv (.lst xs)) (S.take n)
  | _=>.fail
 | r=>r
def jM (n:Nat):cE→Res AV
 | .rt v S=>lV n v S
 | .nx _ S=>.ok (.pv .non) (S.take n)
 | .exc e S=>.exc e (S.take n)
 | _=>.fail
def fnM (np n:Nat) (b:MS) (xs:List AV) (S:Sto):Res AV:=if xs.length=np then jM S.length (b (jL n xs) S) else .fail
def aL {α:Type}:Res α→Res α
 | .ok a S=>.ok a S
 | _=>.fail
abbrev FM:=List AV→Sto→Res AV
def bM (f:FM) (ds:List PV) (ms:MA):ME:=fun ρ S=>(ms ρ S).bind fun xs S1=>frz S1.length (f (xs++ds.map .pv) S1)
def aY (f:FM) (ds:List PV) (ms:MA):ME:=fun ρ S=>(ms ρ S).bind fun xs S1=>frz S1.length (aL (f (xs++ds.map .pv) S1))
def vI (f:FM) (ds:List PV) (ms:MA):ME:=fun ρ S=>(ms ρ S).bind fun xs S1=>aL (f (xs++ds.map .pv) S1)
def spP (K:PySem.W.Frag) (cl:Str→Addr) (f:FM):Sp:=fun vs H Q E=>∃ p S xs,Sim K p S H∧gB K p H xs vs∧bP K cl (bX K) p H (f xs S) Q E
def cC (K:PySem.W.Frag) (cl:Str→Addr) (f:FM):Sp:=fun vs H Q _=>spP K cl f vs H Q E0
section
variable {K:PySem.W.Frag} {cl:Str→Addr} {p q:Ph} {H H':Hp} {S S':Sto}
theorem aba {c c':Addr→Prop} (h:∀ a,c a→c' a) {a:Addr} {vs:List V} (l:LAt K c' H a vs):LAt K c H a vs:=by
 rcases l with ⟨l,n⟩ | l | l
 ·exact .inl ⟨l,fun z=>n (h a z)⟩
 ·exact .inr (.inl l)
 ·exact .inr (.inr l)
theorem qM {c c':Addr→Prop} (h:∀ a,c a→c' a) {ps:List PV} {vs:List V} (r:aU K c' H ps vs):aU K c H ps vs:=aU.mono (fun _ _ t=>t) (fun _ _ l=>aba h l) ps vs r
theorem adY {c c':Addr→Prop} (h:∀ a,c a→c' a) {v:PV} {x:V} (r:Rep K c' H v x):Rep K c H v x:=Rep.mono (fun _ _ t=>t) (fun _ _ l=>aba h l) v x r
theorem acJ {f g:List Addr} (h:f <+: g):g.take f.length=f:=by
 obtain ⟨t,e⟩:=h
 rw [← e,List.take_left]
theorem yR {α:Type}:∀ {l:List α} {i j:Nat} {a:α},l.Nodup→l[i]?=some a→l[j]?=some a→i=j
 | [],i,j,a,_,e,_=>by simp at e
 | b :: l,0,0,a,_,_,_=>rfl
 | b :: l,0,j+1,a,n,e,f=>by
  simp at e f
  subst e
  exact absurd (List.mem_of_getElem? f) (List.nodup_cons.mp n).1
 | b :: l,i+1,0,a,n,e,f=>by
  simp at e f
  subst f
  exact absurd (List.mem_of_getElem? e) (List.nodup_cons.mp n).1
 | b :: l,i+1,j+1,a,n,e,f=>by
  exact congrArg (·+1) (yR (l:=l) (a:=a) (List.nodup_cons.mp n).2 (by simpa using e) (by simpa using f))
theorem Sim.cutX (D:Addr→Prop) (s:Sim K p S H) (st:bN p H q H') (s':Sim K q S' H') (hD:∀ b,D b→H b=none) (hq:(∀ b,D b→b∈q.f)∨∀ k xss,S'[k]?=some (.lol xss)→¬ k < S.length) :
  let r:Ph:=⟨p.f,fun b=>q.w b∧¬ D b,fun b=>q.c b∧¬ D b⟩
  bN p H r H'∧Sim K r (S'.take S.length) H':=by
 intro r
 have nD:∀ a,p.c a→¬ D a:=fun a c d=>by
  obtain ⟨o,ho,_⟩:=s.mu a c
  rw [hD a d] at ho
  cases ho
 have le:S.length≤S'.length:=by
  have:=st.pre.length_le
  rw [← s.len,← s'.len]
  exact this
 refine ⟨⟨s.wc,s.mu,List.prefix_rfl,fun a h=>⟨st.mw a h,nD a (s.wc a h)⟩,fun a h=>⟨st.mono a h,nD a h⟩,fun _ h g=>absurd h g,fun a h=>st.nw a h.1,fun a h=>st.nc a h.1,st.keep⟩,s.nd,by rw [s.len,List.length_take]; omega,fun a h=>⟨st.mw a (s.sub a h),nD a (s.wc a (s.sub a h))⟩,fun a h=>⟨s'.wc a h.1,h.2⟩,fun a h=>s'.mu a h.1,fun k a o e1 e2=>?_⟩
 have hk:k < S.length:=by
  have:=(List.getElem?_eq_some_iff.mp e1).1
  rw [← s.len]
  exact this
 have e2':S'[k]?=some o:=by
  rw [List.getElem?_take,if_pos hk] at e2
  exact e2
 have z:=s'.obj k a o (st.at_ e1) e2'
 have shr:∀ xs vs,aU K q.c H' xs vs→aU K r.c H' xs vs:=fun xs vs=>qM (fun b h=>h.1)
 have sub:∀ b,b ∉ q.f→b ∉ p.f:=fun b n h=>n (st.pre.subset h)
 rcases hq with hq | hq
 ·exact z.mono (fun _ e=>e) (fun b w f=>⟨⟨⟨w,fun d=>f (hq b d)⟩,sub b f⟩,fun _ e=>e⟩) shr
 ·cases o with
  | lst xs =>
   obtain ⟨vs,e,l,g⟩:=z
   exact ⟨vs,e,l,shr xs vs g⟩
  | lol xss=>exact absurd hk (hq k xss e2')
theorem Sim.cut (s:Sim K p S H) (st:bN p H q H') (s':Sim K q S' H'):bN p H ⟨p.f,fun b=>q.w b∧¬ False,fun b=>q.c b∧¬ False⟩ H'∧Sim K ⟨p.f,fun b=>q.w b∧¬ False,fun b=>q.c b∧¬ False⟩ (S'.take S.length) H' :=
 s.cutX (fun _=>False) st s' (fun _ h=>h.elim) (.inl fun _ h=>h.elim)
theorem acu (s:Sim K p S H) (st:bN p H q H') (sm:Sim K q S' H') {k:Nat} {a:Addr} (e:q.f[k]?=some a) (hk:¬ k < S.length):a ∉ p.f∧H a=none∧¬ p.c a:=by
 have na:a ∉ p.f:=fun hm=>by
  obtain ⟨j,hj,ej⟩:=List.getElem_of_mem hm
  have e2:q.f[j]?=some a:=st.at_ (by rw [List.getElem?_eq_getElem hj,ej])
  have hjk:j=k:=yR sm.nd e2 e
  rw [s.len] at hj
  omega
 have hn:=st.nf a (List.mem_of_getElem? e) na
 refine ⟨na,hn,fun c=>?_⟩
 obtain ⟨o,ho,_⟩:=s.mu a c
 rw [hn] at ho
 cases ho
theorem rB {r:Res AV} {Q:VK} {E:XK} (s:Sim K p S H) (h:bP K cl (bX K) p H (frz S.length r) Q E):bP K cl (bX K) p H r Q E:=by
 cases r with
 | exc n S1=>exact h
 | fail=>exact h
 | ok v S1 =>
  cases v with
  | pv v=>exact h
  | ref k =>
   have h:bP K cl (bX K) p H (if k < S.length then .ok (.ref k) S1 else match S1[k]? with
    | some (.lst xs)=>.ok (.pv (.lst xs)) (S1.take S.length)
    | _=>.fail) Q E:=h
   split at h
   ·exact h
   ·rename_i hk
    cases z:S1[k]? with
    | none=>rw [z] at h; exact h.elim
    | some o =>
     cases o with
     | lol xss=>rw [z] at h; exact h.elim
     | lst xs =>
      rw [z] at h
      intro q H' x st sm r
      obtain ⟨a,e,rfl⟩:=r
      obtain ⟨na,hn,nc⟩:=acu s st sm e hk
      obtain ⟨st1,sm1⟩:=s.cutX (fun b=>b=a) st sm (fun b d=>d ▸ hn) (.inl fun b d=>d ▸ List.mem_of_getElem? e)
      obtain ⟨vs,h1,l,r⟩:=sm.obj k a _ e z
      refine h _ H' (.ref a) st1 sm1 ?_
      show Rep K (fun b=>q.c b∧¬ b=a) H' (.lst xs) (.ref a)
      unfold Rep
      exact ⟨a,vs,rfl,.inl ⟨h1,fun d=>d.2 rfl⟩,l,qM (fun b h=>h.1) r⟩
theorem yG {r:cE} {Q:VK} {E:XK} (s:Sim K p S H) (h:bP K cl (bX K) p H (jM S.length r) Q E):dH K cl p H r { nx:=fun _ H'=>Q .non H',rt:=Q } E:=by
 cases r with
 | nx ρ S1 =>
  intro q H' σ st sm ev
  obtain ⟨st1,sm1⟩:=s.cut st sm
  exact h _ H' .non st1 sm1 (by show Rep K (fun b=>q.c b∧¬ False) H' .non .non; unfold Rep; rfl)
 | exc n S1 =>
  intro q H' st sm
  obtain ⟨st1,sm1⟩:=s.cut st sm
  exact h _ H' st1 sm1
 | rt v S1 =>
  intro q H' x st sm r
  obtain ⟨st1,sm1⟩:=s.cut st sm
  cases v with
  | pv v=>exact h _ H' x st1 sm1 (show Rep K (fun b=>q.c b∧¬ False) H' v x from adY (fun b h=>h.1) r)
  | ref k =>
   obtain ⟨a,e,rfl⟩:=r
   have h:bP K cl (bX K) p H (if k < S.length then .ok (.ref k) (S1.take S.length) else match S1[k]? with
    | some (.lst xs)=>.ok (.ref S.length) (S1.take S.length++[.lst xs])
    | _=>.fail) Q E:=h
   split at h
   ·rename_i hk
    refine h _ H' (.ref a) st1 sm1 ⟨a,?_,rfl⟩
    show p.f[k]?=some a
    have hf:=acJ st.pre
    rw [← hf,List.getElem?_take,if_pos (by rw [s.len]; exact hk)]
    exact e
   ·rename_i hk
    cases z:S1[k]? with
    | none=>rw [z] at h; exact h.elim
    | some o =>
     cases o with
     | lol xss=>rw [z] at h; exact h.elim
     | lst xs =>
      rw [z] at h
      obtain ⟨vs,h1,l,r⟩:=sm.obj k a _ e z
      obtain ⟨na,hn,nc⟩:=acu s st sm e hk
      have l1:(S1.take S.length).length=S.length:=by rw [← sm1.len,← s.len]
      have ma:a∈q.f:=List.mem_of_getElem? e
      refine h ⟨p.f++[a],q.w,q.c⟩ H' (.ref a) ⟨s.wc,s.mu,⟨[a],rfl⟩,st.mw,st.mono,fun b hb n=>?_,st.nw,st.nc,st.keep⟩ ⟨?_,?_,fun b hb=>?_,sm.wc,sm.mu,fun j b o e1 e2=>?_⟩ ⟨a,?_,rfl⟩
      ·rcases List.mem_append.mp hb with z | z
       ·exact absurd z n
       ·have:b=a:=by simpa using z
        rw [this]
        exact hn
      ·show (p.f++[a]).Nodup
       rw [List.nodup_append]
       refine ⟨s.nd,by simp,fun b hb c hc z=>?_⟩
       have:c=a:=by simpa using hc
       exact na (this ▸ z ▸ hb)
      ·show (p.f++[a]).length=_
       rw [List.length_append,List.length_append,l1,s.len]
       rfl
      ·rcases List.mem_append.mp hb with z | z
       ·exact st.mw b (s.sub b z)
       ·have:b=a:=by simpa using z
        rw [this]
        exact sm.sub a ma
      ·by_cases hj:j < S.length
       ·have e1':p.f[j]?=some b:=by
         have e1:(p.f++[a])[j]?=some b:=e1
         rwa [List.getElem?_append_left (by rw [s.len]; exact hj)] at e1
        rw [List.getElem?_append_left (by rw [l1]; exact hj),List.getElem?_take,if_pos hj] at e2
        refine (sm.obj j b o (st.at_ e1') e2).mono (fun _ e=>e) (fun c w f=>⟨⟨w,fun m=>?_⟩,fun _ e=>e⟩) fun _ _ r=>r
        rcases List.mem_append.mp m with z | z
        ·exact f (st.pre.subset z)
        ·have:c=a:=by simpa using z
         exact f (this ▸ ma)
       ·have hj':j=S.length:=by
         have:=(List.getElem?_eq_some_iff.mp e2).1
         rw [List.length_append,l1] at this
         simp at this
         omega
        subst hj'
        rw [List.getElem?_append_right (by rw [l1]; exact Nat.le_refl _),l1,Nat.sub_self] at e2
        have e1:(p.f++[a])[S.length]?=some b:=e1
        rw [← s.len,List.getElem?_append_right (Nat.le_refl _),Nat.sub_self] at e1
        cases e1
        cases e2
        exact ⟨vs,h1,l,r⟩
      ·show (p.f++[a])[S.length]?=some a
       rw [← s.len,List.getElem?_append_right (Nat.le_refl _),Nat.sub_self]
       rfl
 | bk ρ S1=>exact h.elim
 | ct ρ S1=>exact h.elim
 | fail=>exact h.elim
theorem yF {N:List Str} {xs:List AV} {vs:List V} (r:gB K p H xs vs):cV K p H (jL N.length xs) (L2.start N vs):=by
 have go:∀ {xs:List AV} {vs:List V},gB K p H xs vs→xs.length=vs.length:=fun {xs vs} r=>by
  induction r with
  | nil=>rfl
  | cons _ _ ih=>rw [List.length_cons,List.length_cons,ih]
 have get:∀ {xs:List AV} {vs:List V},gB K p H xs vs→∀ (i:Nat) (v:AV),xs[i]?=some v→∃ x,vs[i]?=some x∧bX K p H v x:=fun {xs vs} r=>by
  induction r with
  | nil=>intro i v e; simp at e
  | cons h _ ih =>
   intro i v e
   cases i with
   | zero =>
    simp at e
    subst e
    exact ⟨_,rfl,h⟩
   | succ i=>simpa using ih i v (by simpa using e)
 have hl:=go r
 refine ⟨by unfold jL L2.start; simp [hl],fun i v e=>?_⟩
 unfold jL at e
 unfold L2.start
 by_cases hi:i < xs.length
 ·rw [List.getElem?_append_left (by simpa using hi),List.getElem?_map] at e
  cases z:xs[i]? with
  | none=>rw [z] at e; cases e
  | some u =>
   rw [z] at e
   cases e
   obtain ⟨x,e1,e2⟩:=get r i v z
   refine ⟨x,?_,e2⟩
   rw [List.getElem?_append_left (by rw [List.length_map,← hl]; exact hi),List.getElem?_map,e1]
   rfl
 ·rw [List.getElem?_append_right (by rw [List.length_map]; omega),List.getElem?_replicate] at e
  split at e
  ·cases e
  ·cases e
end
section
variable {P:Program} {w:World} {K:PySem.W.Frag} {mg:Str→Option Value} {base:Heap} {cl:Str→Addr}
theorem ae8 {K:PySem.W.Frag} {p:Ph} {H:Hp} {xs:List AV} {vs:List V} (h:gB K p H xs vs):xs.length=vs.length:=by
 induction h with
 | nil=>rfl
 | cons _ _ ih=>rw [List.length_cons,List.length_cons,ih]
theorem ae3 {np n:Nat} {b:MS} {vs:List V} {H:Hp} {Q:VK} {E:XK} (h:spP K cl (fnM np n b) vs H Q E):vs.length=np:=by
 obtain ⟨p,S,xs,sm,ra,h⟩:=h
 unfold fnM at h
 split at h
 ·rename_i e
  rw [← ae8 ra,e]
 ·exact h.elim
theorem okP {x qual:Str} {st:Stmt} {f:Addr} {fd:FuncData} {N ps:List Str} {k np n:Nat} {b:MS} (F:Fun K x qual st f fd) (S:bL N ps (aW st)) (hnp:ps.length=np) (hn:N.length=n)
  (hb:∀ (cdv:Value) (A:Around) (outer:List Env) (s:Shared) (H:Hp) (E:XK),cZ k (A.deeper (envOfC qual (aW st) s.heap.objs.size f cdv))→jS K cl E0 (aS CX0 P w K mg base N qual (aW st) f cdv A outer s H E).nox (eR st) b) :
  bF P w K mg base CX0 (k+1) f fd ps (cC K cl (fnM np n b)):=by
 subst hnp hn
 refine F.ok S (fun vs H Q E h=>ae3 h) fun cdv A outer s H vs Q E hr h=>⟨_,hb cdv A outer s H E hr rfl,?_⟩
 obtain ⟨p,S,xs,sm,ra,h⟩:=h
 unfold fnM at h
 split at h
 ·exact ⟨p,S,_,sm,yF ra,yG sm h⟩
 ·exact h.elim
theorem okX {x qual:Str} {st:Stmt} {f:Addr} {fd:FuncData} {N ps:List Str} {k np n:Nat} {b:MS} (F:Fun K x qual st f fd) (S:bL N ps (aW st)) (hnp:ps.length=np) (hn:N.length=n)
  (hb:∀ (cdv:Value) (A:Around) (outer:List Env) (s:Shared) (H:Hp) (E:XK),cZ k (A.deeper (envOfC qual (aW st) s.heap.objs.size f cdv))→jS K cl E (aS (CX1 P w) P w K mg base N qual (aW st) f cdv A outer s H E) (eR st) b) :
  bF P w K mg base (CX1 P w) (k+1) f fd ps (spP K cl (fnM np n b)):=by
 subst hnp hn
 refine F.okX S (fun vs H Q E h=>ae3 h) fun cdv A outer s H vs Q E hr h=>⟨_,hb cdv A outer s H E hr rfl,?_⟩
 obtain ⟨p,S,xs,sm,ra,h⟩:=h
 unfold fnM at h
 split at h
 ·exact ⟨p,S,_,sm,yF ra,yG sm h⟩
 ·exact h.elim
theorem alZ {x qual:Str} {st:Stmt} {f:Addr} {fd:FuncData} {ds:Array Value} {N ps:List Str} {k np n:Nat} {b:MS} (F:mF K x qual st f fd ds) (S:bL N ps (aW st)) (hnp:ps.length=np) (hn:N.length=n)
  (hb:∀ (cdv:Value) (A:Around) (outer:List Env) (s:Shared) (H:Hp) (E:XK),cZ k (A.deeper (envOfC qual (aW st) s.heap.objs.size f cdv))→jS K cl E (aS (CX1 P w) P w K mg base N qual (aW st) f cdv A outer s H E) (eR st) b) :
  bF P w K mg base (CX1 P w) (k+1) f fd ps (spP K cl (fnM np n b)):=by
 subst hnp hn
 refine F.okX S (fun vs H Q E h=>ae3 h) fun cdv A outer s H vs Q E hr h=>⟨_,hb cdv A outer s H E hr rfl,?_⟩
 obtain ⟨p,S,xs,sm,ra,h⟩:=h
 unfold fnM at h
 split at h
 ·exact ⟨p,S,_,sm,yF ra,yG sm h⟩
 ·exact h.elim
theorem x0 {f:Addr} {fd:FuncData} {ps:List Str} {k:Nat} {g:FM} (F:bF P w K mg base (CX1 P w) k f fd ps (spP K cl g)):bF P w K mg base CX0 k f fd ps (cC K cl g) :=
 ⟨fun vs H Q E h=>F.len vs H Q E0 h,fun A outer s H args us vs Q E hr e0 hb hv h=>codeAny_mono (F.run A outer s H args us vs Q E0 hr e0 hb hv h) fun r s' hq=>by
  cases r with
  | error e =>
   obtain ⟨_,_,_,_,_,_,_,_,_,_,_,_,z⟩:=hq
   exact z
  | ok fl =>
   cases fl with
   | ret u=>exact hq
   | next=>exact hq
   | brk=>exact hq
   | cont=>exact hq⟩
end
section
variable {K:PySem.W.Frag} {cl:Str→Addr} {E:XK} {X:Cx} {e:Expr} {es:List Expr} {ms:MA} {pos p:Pos} {k n:Nat} {f:Addr} {fd:FuncData} {ps:List Str} {g:FM} {x:Str} {dvs:List V} {ds:List Value} {dv:List PV}
theorem oH {p:Ph} {H:Hp} {xs ys:List AV} {vs ws:List V} (h:gB K p H xs vs) (g:gB K p H ys ws):gB K p H (xs++ys) (vs++ws):=by
 induction h with
 | nil=>exact g
 | cons h _ ih=>exact .cons h ih
def Dv (dv:List PV) (dvs:List V):Prop:=∀ K p H,gB K p H (dv.map .pv) dvs
theorem Dv.nil:Dv [] []:=fun _ _ _=>.nil
theorem acX (F:bF X.prog X.w X.K X.mg X.base CX0 k f fd ps (cC K cl g)) (hr:cZ k X.A) (hg:Gl X x) (hm:X.mg x=some (.ref f)) (hk:PySem.W.keepIn X.K (.ref f)=true) (hb:eY X.K fd ps ds) (hd:bG dvs ds) (hv:Dv dv dvs)
  (ha:PAp K cl E0 X (e :: es) ms) (hdb:(x == ("__debug__":Str))=false:=by decide) (he:starEach (e :: es) X.env=(false,eval e X.env) :: starEach es X.env:=by rfl) (hpl:(backTo pos (starEach es X.env)).any (·.1)=false:=by rfl) :
  PEp K cl E0 X (.Call (.Name x p) (e :: es) [] pos) (bM g dv ms):=by
 intro hK
 refine PE.imp (rD F hr hg hm hk hb hd aia (ha hK) hdb he hpl) fun σ H Q ⟨p,S,ρ,s,ev,h⟩=>?_
 exact bR s ev h fun q H' as xs S' stp sm ev r k=>⟨q,S',_,sm,oH r (hv K q H'),rB sm k⟩
theorem abq {α β:Type} {R:Ph→Hp→α→β→Prop} {p:Ph} {H:Hp} {r:Res α} {Q:β→Hp→Prop} (h:bP K cl R p H (aL r) Q E):bP K cl R p H r Q E0:=by
 cases r with
 | ok a S=>exact h
 | exc n S=>exact h.elim
 | fail=>exact h.elim
theorem afT (F:bF X.prog X.w X.K X.mg X.base CX0 k f fd ps (cC K cl g)) (hr:cZ k X.A) (hg:Gl X x) (hm:X.mg x=some (.ref f)) (hk:PySem.W.keepIn X.K (.ref f)=true) (hb:eY X.K fd ps ds) (hd:bG dvs ds) (hv:Dv dv dvs)
  (ha:PAp K cl E X (e :: es) ms) (hdb:(x == ("__debug__":Str))=false:=by decide) (he:starEach (e :: es) X.env=(false,eval e X.env) :: starEach es X.env:=by rfl) (hpl:(backTo pos (starEach es X.env)).any (·.1)=false:=by rfl) :
  PEp K cl E X (.Call (.Name x p) (e :: es) [] pos) (aY g dv ms):=by
 intro hK
 refine PE.imp (rD F hr hg hm hk hb hd aia (ha hK) hdb he hpl) fun σ H Q ⟨p,S,ρ,s,ev,h⟩=>?_
 exact bR s ev h fun q H' as xs S' stp sm ev r k=>⟨q,S',_,sm,oH r (hv K q H'),abq (rB sm k)⟩
theorem agA (F:bF X.prog X.w X.K X.mg X.base CX0 k f fd ps (cC K cl g)) (hr:cZ k X.A) (hg:Gl X x) (hm:X.mg x=some (.ref f)) (hk:PySem.W.keepIn X.K (.ref f)=true) (hb:eY X.K fd ps ds) (hd:bG dvs ds) (hv:Dv dv dvs)
  (ha:PAp K cl E X (e :: es) ms) (hdb:(x == ("__debug__":Str))=false:=by decide) (he:starEach (e :: es) X.env=(false,eval e X.env) :: starEach es X.env:=by rfl) (hpl:(backTo pos (starEach es X.env)).any (·.1)=false:=by rfl) :
  PEp K cl E X (.Call (.Name x p) (e :: es) [] pos) (vI g dv ms):=by
 intro hK
 refine PE.imp (rD F hr hg hm hk hb hd aia (ha hK) hdb he hpl) fun σ H Q ⟨p,S,ρ,s,ev,h⟩=>?_
 exact bR s ev h fun q H' as xs S' stp sm ev r k=>⟨q,S',_,sm,oH r (hv K q H'),abq k⟩
theorem fQ {P:Program} {w:World} {mg:Str→Option Value} {base:Heap} {N:List Str} {qual:Str} {scope:Scope} {fo:Addr} {cd:Value} {A:Around} {outer:List Env} {s₀:Shared} {H₀:Hp}
  (F:bF P w K mg base (CX1 P w) k f fd ps (spP K cl g)) (hr:cZ k (aS (CX1 P w) P w K mg base N qual scope fo cd A outer s₀ H₀ E).A) (hg:Gl (aS (CX1 P w) P w K mg base N qual scope fo cd A outer s₀ H₀ E) x) (hm:mg x=some (.ref f)) (hk:PySem.W.keepIn K (.ref f)=true) (hb:eY K fd ps ds) (hd:bG dvs ds) (hv:Dv dv dvs)
  (ha:PAp K cl E (aS (CX1 P w) P w K mg base N qual scope fo cd A outer s₀ H₀ E) (e :: es) ms) (hdb:(x == ("__debug__":Str))=false:=by decide)
  (he:starEach (e :: es) (aS (CX1 P w) P w K mg base N qual scope fo cd A outer s₀ H₀ E).env=(false,eval e (aS (CX1 P w) P w K mg base N qual scope fo cd A outer s₀ H₀ E).env) :: starEach es (aS (CX1 P w) P w K mg base N qual scope fo cd A outer s₀ H₀ E).env:=by rfl)
  (hpl:(backTo pos (starEach es (aS (CX1 P w) P w K mg base N qual scope fo cd A outer s₀ H₀ E).env)).any (·.1)=false:=by rfl) :
  PEp K cl E (aS (CX1 P w) P w K mg base N qual scope fo cd A outer s₀ H₀ E) (.Call (.Name x p) (e :: es) [] pos) (bM g dv ms):=by
 intro hK
 refine PE.imp (rD F hr hg hm hk hb hd ak0 (ha hK) hdb he hpl) fun σ H Q ⟨p,S,ρ,s,ev,h⟩=>?_
 exact bR s ev h fun q H' as xs S' stp sm ev r k=>⟨q,S',_,sm,oH r (hv K q H'),rB sm k⟩
def kR (n:Str):MS:=fun _ S=>.exc n S
theorem oP {P:Program} {w:World} {mg:Str→Option Value} {base:Heap} {N:List Str} {qual:Str} {scope:Scope} {f:Addr} {cd:Value} {A:Around} {outer:List Env} {s₀:Shared} {H₀:Hp}
  {txt:Str} {j:Nat} {np p1 cpos:Pos} (hg:Gl (aS (CX1 P w) P w K mg base N qual scope f cd A outer s₀ H₀ E) x) (hm:mg x=some (.ref (cl x))) (hx:PySem.W.excIn K (cl x) eT "ValueError.__new__"=true)
  (hd:(x == ("__debug__":Str))=false:=by decide) :
  PSp K cl E (aS (CX1 P w) P w K mg base N qual scope f cd A outer s₀ H₀ E) (.Raise (some (.Call (.Name x np) [.Constant (.str txt) j p1] [] cpos)) none pos) (kR x) :=
 fun _=>PS.imp (afU hg hm hx hd) fun D σ H ⟨p,S,ρ,s,ev,h⟩=>h p H s.step s
end
end L2.Pp
namespace L2.Pp
open PySem PySem.Spec PyProof.Rows Bn
def bS (own:List Str) (cap:List (Nat × Str)) (ρ:Rho):Rho:=own.map (fun _=>none)++cap.map fun p=>(ρ[p.1]?).join
open Classical in
noncomputable def bY (G:Gd) (g:GM) (me:ME):List PV→Rho→Sto→Res (List PV)
 | [],_,S=>if gOk G S then .ok [] S else .fail
 | x :: r,ρ,S=>if gOk G S then (match g x ρ with
  | none=>.fail
  | some ρ1=>match me ρ1 S with
   | .ok (.pv y) S1=>match bY G g me r ρ1 S1 with
    | .ok ys S2=>.ok (y :: ys) S2
    | _=>.fail
   | _=>.fail) else .fail
theorem eO {g:GM} {me:ME} {ρ:Rho} {S:Sto}:bY [] g me [] ρ S=.ok [] S:=by
 unfold bY
 rw [if_pos (jJ S)]
theorem eW {g:GM} {me:ME} {x:PV} {r:List PV} {ρ:Rho} {S:Sto}:bY [] g me (x :: r) ρ S=(match g x ρ with
  | none=>.fail
  | some ρ1=>match me ρ1 S with
   | .ok (.pv y) S1=>match bY [] g me r ρ1 S1 with
    | .ok ys S2=>.ok (y :: ys) S2
    | _=>.fail
   | _=>.fail):=by
 rw [bY,if_pos (jJ S)]
noncomputable def bO (own:List Str) (cap:List (Nat × Str)) (mi:MI) (g:GM) (me:ME):ME:=fun ρ S=>(mi ρ S).bind fun xs S1=>(bY xs.2 g me xs.1 (bS own cap ρ) S1).bind fun ys S2=>.ok (.pv (.lst ys)) S2
theorem acD {G:Gd} {g:GM} {me:ME}:∀ (xs:List PV) (ρ:Rho) (S:Sto) (n:Str) (S':Sto),bY G g me xs ρ S≠.exc n S'
 | [],_,_,_,_,e=>by
  unfold bY at e
  split at e <;> cases e
 | x :: r,ρ,S,n,S',e=>by
  unfold bY at e
  split at e
  ·split at e
   ·cases e
   ·split at e
    ·split at e
     ·cases e
     ·cases e
    ·cases e
  ·cases e
theorem ac2 {G:Gd} {g:GM} {me:ME} {xs zs:List PV} {ρ:Rho} {S S':Sto} (e:bY G g me xs ρ S=.ok zs S'):gOk G S:=by
 cases xs with
 | nil =>
  unfold bY at e
  split at e
  ·assumption
  ·cases e
 | cons x r =>
  unfold bY at e
  split at e
  ·assumption
  ·cases e
section
variable {K:PySem.W.Frag} {cl:Str→Addr} {E:XK} {X:Cx} {p q:Ph} {H H':Hp} {S:Sto}
theorem ac6 {ρ:Rho} {σ:St} {own:List Str} {cap:List (Nat × Str)} (h:cV K p H ρ σ):cV K p H (bS own cap ρ) (jQ own cap σ):=by
 refine ⟨by unfold bS jQ; simp,fun i v e=>?_⟩
 unfold bS at e
 unfold jQ
 by_cases hi:i < own.length
 ·rw [List.getElem?_append_left (by simpa using hi),List.getElem?_map,List.getElem?_eq_getElem hi] at e
  cases e
 ·rw [List.getElem?_append_right (by rw [List.length_map]; omega),List.getElem?_map,List.length_map] at e ⊢
  cases z:cap[i - own.length]? with
  | none=>rw [z] at e; cases e
  | some c =>
   rw [z] at e
   have e:(ρ[c.1]?).join=some v:=Option.some.inj e
   have e':ρ[c.1]?=some (some v):=by
    cases y:ρ[c.1]? with
    | none=>rw [y] at e; cases e
    | some o=>rw [y] at e; exact congrArg some e
   obtain ⟨x,e1,e2⟩:=h.at_ c.1 v e'
   refine ⟨x,?_,e2⟩
   show some ((σ[c.1]?).join)=some (some x)
   rw [e1]
   rfl
def Ph.res (p:Ph) (D:Addr):Ph:=⟨p.f,fun a=>p.w a∨a=D,fun a=>p.c a∨a=D⟩
def Ph.hold (p:Ph) (D:Addr):Ph:=⟨p.f,fun a=>p.w a∧a≠D,p.c⟩
def Ph.less (p:Ph) (D:Addr):Ph:=⟨p.f,fun a=>p.w a∧a≠D,fun a=>p.c a∧a≠D⟩
theorem Sim.notin (s:Sim K p S H) {D:Addr} (h:H D=none):¬ p.c D:=fun c=>by
 obtain ⟨o,e,_⟩:=s.mu D c
 rw [h] at e
 cases e
theorem Sim.res (s:Sim K p S H) {D:Addr} {o:HO} (h:H D=none) (mo:Mb o):bN p H (p.res D) (upd H D o)∧Sim K (p.res D) S (upd H D o):=by
 have st:bN p H (p.res D) (upd H D o):=⟨s.wc,s.mu,List.prefix_rfl,fun a h=>.inl h,fun a h=>.inl h,fun a h g=>absurd h g,fun a x n=>x.elim (fun z=>absurd z n) (fun z=>by rw [z]; exact h),fun a x n=>x.elim (fun z=>absurd z n) (fun z=>by rw [z]; exact h),fun a u e _=>by
  rw [cK (fP e h)]
  exact e⟩
 refine ⟨st,s.nd,s.len,fun a h=>.inl (s.sub a h),fun a x=>x.elim (fun z=>.inl (s.wc a z)) .inr,fun a x=>?_,fun k a u e1 e2=>?_⟩
 ·by_cases z:a=D
  ·rw [z,gX]
   exact ⟨o,rfl,mo⟩
  ·rw [cK z]
   exact s.mu a (x.elim id fun y=>absurd y z)
 ·exact (s.obj k a u e1 e2).mono (fun vs e=>by rw [cK (fP e h)]; exact e) (fun b w f=>⟨⟨.inl w,f⟩,fun vs e=>by rw [cK (fP e h)]; exact e⟩) fun _ _ r=>st.reps r
theorem Sim.resHold (s:Sim K p S H) {D:Addr} {o:HO} (h:H D=none) (mo:Mb o):Sim K ((p.res D).hold D) S (upd H D o):=by
 obtain ⟨st,sm⟩:=s.res (o:=o) h mo
 have ne:∀ a,p.w a→a≠D:=fun a w z=>s.notin h (z ▸ s.wc a w)
 refine ⟨sm.nd,sm.len,fun a m=>⟨sm.sub a m,ne a (s.sub a m)⟩,fun a x=>sm.wc a x.1,sm.mu,fun k a u e1 e2=>?_⟩
 exact (s.obj k a u e1 e2).mono (fun vs e=>by rw [cK (fP e h)]; exact e) (fun b w f=>⟨⟨⟨.inl w,ne b w⟩,f⟩,fun vs e=>by rw [cK (fP e h)]; exact e⟩) fun _ _ r=>st.reps r
theorem bN.unhold {D:Addr} (h:p.w D) (st:bN (p.hold D) H q H') (s:Sim K p S H):bN p H ⟨q.f,fun a=>q.w a∨a=D,q.c⟩ H' :=
 ⟨s.wc,s.mu,st.pre,fun a x=>by
  by_cases z:a=D
  ·exact .inr z
  ·exact .inl (st.mw a ⟨x,z⟩),st.mono,st.nf,fun a x n=>by
  rcases x with x | x
  ·exact st.nw a x fun z=>n z.1
  ·exact absurd (x ▸ h) n,st.nc,fun a o e n=>st.keep a o e fun z=>n z.1⟩
theorem Sim.grow {D:Addr} {ys:List V} {o:HO} (s:Sim K p S H) (sh:Sim K (p.hold D) S H) (w:p.w D) (n:D ∉ p.f) (mo:Mb o):bN p H p (upd H D o)∧Sim K p S (upd H D o)∧Sim K (p.hold D) S (upd H D o):=by
 have st:bN p H p (upd H D o):=⟨s.wc,s.mu,List.prefix_rfl,fun _ h=>h,fun _ h=>h,fun _ h g=>absurd h g,fun _ h g=>absurd h g,fun _ h g=>absurd h g,fun a u e nw=>by
  rw [cK (fun z:a=D=>nw (by rw [z]; exact w))]
  exact e⟩
 have hm:∀ a,p.c a→∃ u,upd H D o a=some u∧Mb u:=fun a x=>by
  by_cases z:a=D
  ·rw [z,gX]
   exact ⟨o,rfl,mo⟩
  ·rw [cK z]
   exact s.mu a x
 refine ⟨st,⟨s.nd,s.len,s.sub,s.wc,hm,fun k a u e1 e2=>?_⟩,⟨sh.nd,sh.len,sh.sub,sh.wc,hm,fun k a u e1 e2=>?_⟩⟩
 ·have ne:a≠D:=fun z=>n (z ▸ List.mem_of_getElem? e1)
  exact (sh.obj k a u e1 e2).mono (fun vs e=>by rw [cK ne]; exact e) (fun b w f=>⟨⟨w.1,f⟩,fun vs e=>by rw [cK w.2]; exact e⟩) fun _ _ r=>st.reps r
 ·have ne:a≠D:=fun z=>n (z ▸ List.mem_of_getElem? e1)
  exact (sh.obj k a u e1 e2).mono (fun vs e=>by rw [cK ne]; exact e) (fun b w f=>⟨⟨w,f⟩,fun vs e=>by rw [cK w.2]; exact e⟩) fun _ _ r=>st.reps r
theorem Sim.toLess {D:Addr} (s:Sim K (p.hold D) S H):Sim K (p.less D) S H :=
 ⟨s.nd,s.len,s.sub,fun a h=>⟨s.wc a h,h.2⟩,fun a h=>s.mu a h.1,fun k a o e1 e2 =>
  (s.obj k a o e1 e2).mono (fun _ e=>e) (fun b w f=>⟨⟨w,f⟩,fun _ e=>e⟩) fun _ _ r=>qM (fun a h=>h.1) r⟩
theorem bN.toLess {D:Addr} (st:bN p H q H') (h:H D=none):bN p H (q.less D) H':=by
 have nD:∀ a,p.c a→a≠D:=fun a c z=>by
  obtain ⟨o,e,_⟩:=st.mu a c
  rw [z,h] at e
  cases e
 exact ⟨st.wc,st.mu,st.pre,fun a x=>⟨st.mw a x,nD a (st.wc a x)⟩,fun a x=>⟨st.mono a x,nD a x⟩,st.nf,fun a x=>st.nw a x.1,fun a x=>st.nc a x.1,st.keep⟩
variable {sc:Scope} {own:List Str} {cap:List (Nat × Str)} {elt target iter:Expr} {pos:Pos} {mi:MI} {g:GM} {me:ME}
theorem afQ {σ:St} {ρ:Rho} {xs zs:List PV} {G:Gd} {J:It} {Q:VK} {D:Addr} {S2:Sto} (sm:Sim K p S H) (ev:cV K p H ρ σ) (it:eC K p H (xs,G) J) (z:bY G g me xs (bS own cap ρ) S=.ok zs S2) (hD:H D=none)
  (k:∀ q H' vs,bN p H q H'→Sim K q S2 H'→Sim K (q.hold D) S2 H'→q.w D→D ∉ q.f→H' D=some (.lst vs)→vs.length≤sizeLine→aU K q.c H' zs vs→Q (.ref D) H') :
  pW J (gP K g) (tP K cl E0 (bX K) me) (jQ own cap σ) H D Q:=by
 obtain ⟨st0,sm0⟩:=sm.res (D:=D) (o:=.lst []) hD trivial
 have sh0:=sm.resHold (D:=D) (o:=.lst []) hD trivial
 have nf0:D ∉ p.f:=fun h=>sm.notin hD (sm.wc D (sm.sub D h))
 refine afH xs.length it.1 (fun i σ1 H1 ys=>ys.length=i∧i≤xs.length∧H1 D=some (.lst ys)∧∃ p1 S1 ρ1 us ws,(Sim K p1 S1 H1∧Sim K (p1.hold D) S1 H1)∧bN p H p1 H1∧p1.w D∧D ∉ p1.f∧cV K p1 H1 ρ1 σ1∧eC K p1 H1 (xs,G) J∧gOk G S1∧aU K p1.c H1 us ys∧zs=us++ws∧bY G g me (xs.drop i) ρ1 S1=.ok ws S2) ?_ ?_ ?_ ?_ ?_
 ·refine ⟨rfl,Nat.zero_le _,gX,p.res D,S,bS own cap ρ,[],zs,⟨sm0,sh0⟩,st0,.inr rfl,nf0,ac6 (st0.repE ev),it.step st0,?_,.nil,rfl,by simpa using z⟩
  exact ac2 z
 ·rintro i σ1 H1 ys ⟨h1,_,h2,_⟩
  exact ⟨h1,h2⟩
 ·rintro i σ1 H1 ys hi ⟨_,_,_,p1,S1,ρ1,us,ws,⟨sm1,sh1⟩,st1,w1,f1,ev1,it1,g1,_⟩
  exact ((it1.2 p1 H1 S1 sm1.step sm1 g1).1 i xs[i] (List.getElem?_eq_getElem hi)).1
 ·rintro i σ1 H1 ys x H2 hi ⟨hl,_,hH,p1,S1,ρ1,us,ws,⟨sm1,sh1⟩,st1,w1,f1,ev1,it1,g1,r1,e1,c1⟩ hy
  obtain ⟨same,rx⟩:=((it1.2 p1 H1 S1 sm1.step sm1 g1).1 i xs[i] (List.getElem?_eq_getElem hi)).2 x H2 hy
  rw [List.drop_eq_getElem_cons hi] at c1
  unfold bY at c1
  rw [if_pos g1] at c1
  split at c1
  ·cases c1
  ·rename_i ρ2 gz
   split at c1
   ·rename_i y S3 mz
    split at c1
    ·rename_i vs S4 cz
     cases c1
     have st2:=sm1.same same
     have sm2:=sm1.ofSame same
     have smh:=sh1.ofSame same
     have stS:bN p H p1 H2:=st1.trans st2
     refine ⟨p1,S1,ρ1,xs[i],ρ2,sm2,st2.repE ev1,rx,gz,fun σ3 ev3=>⟨p1.hold D,S1,ρ2,smh,⟨ev3.len,ev3.at_⟩,?_⟩⟩
     rw [mz]
     intro q H4 y' st4 sm4 ry
     have hD2:H2 D=some (.lst ys):=same _ _ hH
     have hD4:H4 D=some (.lst ys):=st4.keep D _ hD2 fun z=>z.2 rfl
     have fq:D ∉ q.f:=fun h=>by
      have:=st4.nf D h f1
      rw [hD2] at this
      cases this
     have stU:=bN.unhold w1 st4 sm2
     have nq:¬ q.w D:=fun z=>by
      have:=st4.nw D z fun y=>y.2 rfl
      rw [hD2] at this
      cases this
     have smU:Sim K ⟨q.f,fun a=>q.w a∨a=D,q.c⟩ S3 H4:=⟨sm4.nd,sm4.len,fun a h=>.inl (sm4.sub a h),fun a h=>h.elim (sm4.wc a) fun z=>z ▸ st4.mono D (sm2.wc D w1),sm4.mu,fun k a o e1 e2 =>
      (sm4.obj k a o e1 e2).mono (fun _ e=>e) (fun b w f=>⟨⟨.inl w,f⟩,fun _ e=>e⟩) fun _ _ r=>r⟩
     have shU:Sim K (Ph.hold ⟨q.f,fun a=>q.w a∨a=D,q.c⟩ D) S3 H4:=⟨sm4.nd,sm4.len,fun a h=>⟨.inl (sm4.sub a h),fun z=>nq (z ▸ sm4.sub a h)⟩,fun a h=>smU.wc a h.1,sm4.mu,fun k a o e1 e2 =>
      (sm4.obj k a o e1 e2).mono (fun _ e=>e) (fun b w f=>⟨⟨⟨.inl w,fun z=>nq (z ▸ w)⟩,f⟩,fun _ e=>e⟩) fun _ _ r=>r⟩
     obtain ⟨stG,smG,shG⟩:=smU.grow (ys:=ys) (D:=D) (o:=.lst (ys++[y'])) shU (.inr rfl) fq trivial
     have stA:=st2.trans (stU.trans stG)
     refine ajh hi hD4 ⟨by rw [List.length_append,hl]; rfl,hi,gX,_,S3,ρ2,us++[y],vs,⟨smG,shG⟩,st1.trans stA,.inr rfl,fq,stG.repE (stU.repE ev3),it1.step stA,ac2 cz,?_,by rw [e1,List.append_assoc]; rfl,cz⟩
     exact (stA.reps r1).append (.cons (stG.rep ry) .nil)
    ·cases c1
   ·cases c1
 ·rintro σ1 H1 ys ⟨hl,_,hH,p1,S1,ρ1,us,ws,⟨sm1,sh1⟩,st1,w1,f1,ev1,it1,g1,r1,e1,c1⟩
  rw [List.drop_length] at c1
  unfold bY at c1
  rw [if_pos g1] at c1
  cases c1
  refine ⟨(it1.2 p1 H1 _ sm1.step sm1 g1).2,?_⟩
  rw [List.append_nil] at e1
  subst e1
  exact k p1 H1 ys st1 sm1 sh1 w1 f1 hH (by rw [hl]; exact it.1) r1
theorem abO {σ:St} {ρ:Rho} {xs:List PV × Gd} {J:It} {Q:VK} {D:Addr} (sm:Sim K p S H) (ev:cV K p H ρ σ) (it:eC K p H xs J) (k:bP K cl (bX K) p H ((bY xs.2 g me xs.1 (bS own cap ρ) S).bind fun ys S2=>.ok (.pv (.lst ys)) S2) Q E) (hD:H D=none) :
  pW J (gP K g) (tP K cl E0 (bX K) me) (jQ own cap σ) H D Q:=by
 cases z:bY xs.2 g me xs.1 (bS own cap ρ) S with
 | fail=>rw [z] at k; exact k.elim
 | exc n S'=>exact absurd z (acD _ _ _ _ _)
 | ok zs S2 =>
  rw [z] at k
  have k:∀ q H' x,bN p H q H'→Sim K q S2 H'→Rep K q.c H' (.lst zs) x→Q x H':=k
  refine afQ sm ev it z hD fun q H' vs st1 sm1 sh1 w1 f1 hH l1 r1=>?_
  refine k (q.less D) H' (.ref D) (st1.toLess hD) sh1.toLess ?_
  unfold Rep
  exact ⟨D,vs,rfl,.inl ⟨hH,fun z=>z.2 rfl⟩,l1,qM (fun a h=>h.1) r1⟩
theorem gY (k:gM X sc own cap) (hi:PIp K cl E X target iter mi) (hc:X.calm=true) (hg:∀ C s₀ H₀ ex,PGp K (cD X sc (bI own cap) C s₀ H₀ ex) target g) (he:∀ C s₀ H₀ ex,PEp K cl E0 (cD X sc (bI own cap) C s₀ H₀ ex) elt me)
  (hs:∀ x,foldedSetIterable iter X.env x=pure x:=by intro _; rfl):PEp K cl E X (.ListComp elt [⟨target,iter,[],0⟩] sc pos) (bO own cap mi g me):=by
 intro hK
 refine PE.imp (ahQ k (hi hK) hc (fun C s₀ H₀ ex=>hg C s₀ H₀ ex hK) (fun C s₀ H₀ ex=>he C s₀ H₀ ex hK) hs) fun σ H Q ⟨p,S,ρ,s,ev,h⟩=>?_
 exact bR s ev h fun q H' xs J S' stp sm ev it kk D hD=>abO sm ev it kk hD
theorem mU {i:Nat} {x:Str} {py spos:Pos} (hN:X.N.Nodup) (hx:X.N[i]?=some x) (hl:Loc X.env.scope x) (k:gM X sc own cap) (hi:PIp K cl E X target iter mi) (hc:X.calm=true) (hg:∀ C s₀ H₀ ex,PGp K (cD X sc (bI own cap) C s₀ H₀ ex) target g) (he:∀ C s₀ H₀ ex,PEp K cl E0 (cD X sc (bI own cap) C s₀ H₀ ex) elt me)
  (hs:∀ x,foldedSetIterable iter X.env x=pure x:=by intro _; rfl) (hsw:swapsWith (.ListComp elt [⟨target,iter,[],0⟩] sc pos) (some (.Name x py)) spos.line X.env=pure true:=by rfl)
  (hf:X.fn x=true∨X.env.scope.names.lookup x=some .local:=by first | exact .inl rfl | exact .inr rfl | assumption) :
  PSp K cl E X (.Assign [.Name x py] (.ListComp elt [⟨target,iter,[],0⟩] sc pos) spos) (bA i (bO own cap mi g me)):=by
 intro hK
 refine PS.imp (aiy hN hx hl k (hi hK) hc (fun C s₀ H₀ ex=>hg C s₀ H₀ ex hK) (fun C s₀ H₀ ex=>he C s₀ H₀ ex hK) hs hsw hf) fun D σ H ⟨p,S,ρ,s,ev,h⟩=>?_
 have h2:tP K cl E (bX K) (bO own cap mi g me) σ H fun y H1=>D.nx (σ.set i (some y)) H1:=by
  refine ⟨p,S,ρ,s,ev,?_⟩
  unfold bA at h
  cases z:bO own cap mi g me ρ S with
  | ok v S1 =>
   rw [z] at h
   exact fun q H' y st sm r=>h q H' _ st sm ((st.repE ev).set r i)
  | exc n S1=>rw [z] at h; exact h
  | fail=>rw [z] at h; exact h
 obtain ⟨p,S,ρ,s,ev,h⟩:=h2
 exact bR s ev h fun q H' xs J S' stp sm ev it kk B hB=>abO sm ev it kk hB
end
end L2.Pp
namespace L2.Pp
open PySem PySem.Spec PyProof.Rows Bn
def gJ:List (Option Bool)→Option (List Bool)
 | []=>some []
 | some b :: r=>match gJ r with
  | some bs=>some (b :: bs)
  | none=>none
 | none :: _=>none
theorem abg:∀ {l:List (Option Bool)} {bs:List Bool},gJ l=some bs→bs.length=l.length
 | [],_,e=>by cases e; rfl
 | some b :: r,bs,e=>by
  unfold gJ at e
  split at e
  ·rename_i cs h
   cases e
   rw [List.length_cons,List.length_cons,abg h]
  ·cases e
 | none :: r,_,e=>by cases e
theorem yA:∀ {l:List (Option Bool)} {bs:List Bool} {i:Nat} {o:Option Bool},gJ l=some bs→l[i]?=some o→∃ b,o=some b∧bs[i]?=some b
 | [],_,i,o,_,h=>by simp at h
 | some b :: r,bs,i,o,e,h=>by
  unfold gJ at e
  split at e
  ·rename_i cs h'
   cases e
   cases i with
   | zero =>
    simp at h
    exact ⟨b,h.symm,rfl⟩
   | succ i=>simpa using yA h' (by simpa using h)
  ·cases e
 | none :: r,_,_,_,e,_=>by cases e
def eqN:Nat→PV→PV→Option Bool
 | _,.non,.non=>some true
 | _,.bl a,.bl b=>some (a == b)
 | _,.int a,.int b=>some (a == b)
 | _,.str a,.str b=>some (a == b)
 | n+1,.tup xs,.tup ys=>match gJ (List.zipWith (eqN n) xs ys) with
  | some bs=>some (bs.all id && xs.length == ys.length)
  | none=>none
 | n+1,.lst xs,.lst ys=>if xs.length=ys.length then (match gJ (List.zipWith (eqN n) xs ys) with
  | some bs=>some (bs.all id)
  | none=>none) else some false
 | _,_,_=>none
theorem uB (bs:List Bool):((List.range bs.length).all fun j=>bs.getD j true)=bs.all id:=by
 rw [Bool.eq_iff_iff,List.all_eq_true,List.all_eq_true]
 constructor
 ·intro h b hb
  obtain ⟨j,hj,e⟩:=List.getElem_of_mem hb
  have:=h j (by simpa using hj)
  simpa [List.getD,hj,e] using this
 ·intro h j hj
  have hj:j < bs.length:=by simpa using hj
  have:=h bs[j] (List.getElem_mem hj)
  simpa [List.getD,hj] using this
section
variable {X:Cx} {pins:List (Addr × Obj)} {σ:St} {H:Hp} {s:Shared} {c:Addr→Prop}
theorem uE {n:Nat} {xs ys:List PV} {vs ws:List V} {its jts:List Value} {bs:List Bool} {A:Around}
  (ih:∀ (v w:PV) (x y:V) (u u':Value) (b:Bool),Rep X.K c H v x→Rep X.K c H w y→bK x u→bK y u'→eqN n v w=some b→SeqAt.EqAt A s u u' b)
  (r1:aU X.K c H xs vs) (r2:aU X.K c H ys ws) (q1:bG vs its) (q2:bG ws jts) (e:gJ (List.zipWith (eqN n) xs ys)=some bs) :
  ∀ j (h1:j < its.toArray.size) (h2:j < jts.toArray.size),SeqAt.EqAt A s its.toArray[j] jts.toArray[j] (bs.getD j true):=fun j h1 h2=>by
 have l1:=r1.length.trans q1.length
 have l2:=r2.length.trans q2.length
 have g1:j < xs.length:=by rw [l1]; simpa using h1
 have g2:j < ys.length:=by rw [l2]; simpa using h2
 obtain ⟨x,ex,rx⟩:=r1.get (List.getElem?_eq_getElem g1)
 obtain ⟨y,ey,ry⟩:=r2.get (List.getElem?_eq_getElem g2)
 obtain ⟨u,eu,ru⟩:=q1.get ex
 obtain ⟨u',eu',ru'⟩:=q2.get ey
 have hz:(List.zipWith (eqN n) xs ys)[j]?=some (eqN n xs[j] ys[j]):=by
  rw [List.getElem?_zipWith,List.getElem?_eq_getElem g1,List.getElem?_eq_getElem g2]
 obtain ⟨b,eb,eb'⟩:=yA e hz
 have e1:its.toArray[j]=u:=by
  rw [List.getElem_toArray]
  rw [List.getElem?_eq_getElem (by simpa using h1)] at eu
  exact Option.some.inj eu
 have e2:jts.toArray[j]=u':=by
  rw [List.getElem_toArray]
  rw [List.getElem?_eq_getElem (by simpa using h2)] at eu'
  exact Option.some.inj eu'
 rw [e1,e2]
 have e3:bs.getD j true=b:=by simp [List.getD,eb']
 rw [e3]
 exact ih _ _ _ _ _ _ _ rx ry ru ru' eb
theorem rH {n:Nat} {xs ys:List PV} {bs:List Bool} (e:gJ (List.zipWith (eqN n) xs ys)=some bs):bs.length=min xs.length ys.length:=by
 rw [abg e,List.length_zipWith]
theorem act (n:Nat) (v w:PV) (x:V) (b:Bool) (nt:∀ xs,v≠.tup xs) (nl:∀ xs,v≠.lst xs) (h:Rep X.K c H v x) (g:Rep X.K c H w x) (e:eqN n v w=some b):b=true:=by
 cases v with
 | tup xs=>exact absurd rfl (nt xs)
 | lst xs=>exact absurd rfl (nl xs)
 | non =>
  cases w <;> first | (unfold eqN at e; simp at e; done) | skip
  unfold eqN at e; cases e; rfl
 | bl i =>
  cases w <;> first | (unfold eqN at e; simp at e; done) | skip
  unfold Rep at h g; subst h; injection g with g'; subst g'; unfold eqN at e; cases e; exact beq_self_eq_true _
 | int i =>
  cases w <;> first | (unfold eqN at e; simp at e; done) | skip
  unfold Rep at h g; subst h; injection g with g'; subst g'; unfold eqN at e; cases e; exact beq_self_eq_true _
 | str i =>
  cases w <;> first | (unfold eqN at e; simp at e; done) | skip
  unfold Rep at h g; subst h; injection g with g'; subst g'; unfold eqN at e; cases e; exact beq_self_eq_true _
theorem adB (I:Inv X pins σ H s):∀ (n:Nat) (v w:PV) (x:V) (b:Bool),Rep X.K c H v x→Rep X.K c H w x→eqN n v w=some b→b=true:=by
 intro n
 induction n with
 | zero =>
  intro v w x b h g e
  cases v with
  | tup xs=>unfold eqN at e; simp at e
  | lst xs=>unfold eqN at e; simp at e
  | _=>exact act 0 _ w x b (by intro _ z; cases z) (by intro _ z; cases z) h g e
 | succ n ih =>
  have items:∀ (xs ys:List PV) (vs:List V) (bs:List Bool),aU X.K c H xs vs→aU X.K c H ys vs→gJ (List.zipWith (eqN n) xs ys)=some bs→bs.all id=true∧xs.length=ys.length:=fun xs ys vs bs r1 r2 e=>by
   have ll:=r1.length.trans r2.length.symm
   refine ⟨?_,ll⟩
   rw [List.all_eq_true]
   intro b hb
   obtain ⟨j,hj,ej⟩:=List.getElem_of_mem hb
   have hj':=hj
   rw [rH e] at hj'
   have g1:j < xs.length:=by omega
   have g2:j < ys.length:=by omega
   obtain ⟨x,ex,rx⟩:=r1.get (List.getElem?_eq_getElem g1)
   obtain ⟨y,ey,ry⟩:=r2.get (List.getElem?_eq_getElem g2)
   have:=ex.symm.trans ey
   cases this
   have hz:(List.zipWith (eqN n) xs ys)[j]?=some (eqN n xs[j] ys[j]):=by
    rw [List.getElem?_zipWith,List.getElem?_eq_getElem g1,List.getElem?_eq_getElem g2]
   obtain ⟨b',eb,eb'⟩:=yA e hz
   rw [List.getElem?_eq_getElem hj,ej] at eb'
   cases eb'
   exact ih _ _ _ _ rx ry eb
  intro v w x b h g e
  cases v with
  | tup xs =>
   cases w with
   | tup ys =>
    unfold Rep at h g
    obtain ⟨a,vs,rfl,t1,_,r1⟩:=h
    obtain ⟨a',ws,e1,t2,_,r2⟩:=g
    cases e1
    have:=I.tuple_inj t1 t2
    subst this
    unfold eqN at e
    split at e
    ·rename_i bs hb
     obtain ⟨z1,z2⟩:=items xs ys vs bs r1 r2 hb
     rw [z1,z2,beq_self_eq_true] at e
     cases e
     rfl
    ·cases e
   | _=>unfold eqN at e; simp at e
  | lst xs =>
   cases w with
   | lst ys =>
    unfold Rep at h g
    obtain ⟨a,vs,rfl,t1,_,r1⟩:=h
    obtain ⟨a',ws,e1,t2,_,r2⟩:=g
    cases e1
    have:=I.list_inj t1.sq t2.sq
    subst this
    unfold eqN at e
    rw [if_pos (r1.length.trans r2.length.symm)] at e
    split at e
    ·rename_i bs hb
     obtain ⟨z1,z2⟩:=items xs ys vs bs r1 r2 hb
     rw [z1] at e
     cases e
     rfl
    ·cases e
   | _=>unfold eqN at e; simp at e
  | _=>exact act (n+1) _ w x b (by intro _ z; cases z) (by intro _ z; cases z) h g e
theorem ag8 (I:Inv X pins σ H s):∀ (n:Nat) (v w:PV) (x y:V) (u u':Value) (b:Bool) (A:Around),A.units+n < cLine→Rep X.K c H v x→Rep X.K c H w y→bK x u→bK y u'→eqN n v w=some b→SeqAt.RcAt A s u u' b∧SeqAt.EqAt A s u u' b:=by
 have flat:∀ (n:Nat) (v w:PV) (x y:V) (u u':Value) (b:Bool) (A:Around),(∀ xs,v≠.tup xs)→(∀ xs,v≠.lst xs)→Rep X.K c H v x→Rep X.K c H w y→bK x u→bK y u'→eqN n v w=some b→SeqAt.RcAt A s u u' b∧SeqAt.EqAt A s u u' b:=by
  intro n v w x y u u' b A nt nl h g r r' e
  cases v with
  | tup xs=>exact absurd rfl (nt xs)
  | lst xs=>exact absurd rfl (nl xs)
  | non =>
   cases w <;> first | (unfold eqN at e; simp at e; done) | skip
   unfold Rep at h g; subst h g; cases r; cases r'; unfold eqN at e; cases e; exact ⟨SeqAt.RcAt.none_none,SeqAt.EqAt.same _⟩
  | bl i =>
   cases w <;> first | (unfold eqN at e; simp at e; done) | skip
   unfold Rep at h g; subst h g; cases r; cases r'; unfold eqN at e; cases e; exact ⟨SeqAt.RcAt.bool_bool _ _,SeqAt.EqAt.bool_bool _ _⟩
  | int i =>
   cases w <;> first | (unfold eqN at e; simp at e; done) | skip
   unfold Rep at h g; subst h g; obtain ⟨t,rfl⟩:=r; obtain ⟨t',rfl⟩:=r'; unfold eqN at e; cases e; exact ⟨SeqAt.RcAt.int_int _ _ _ _,SeqAt.EqAt.int_int _ _ _ _⟩
  | str i =>
   cases w <;> first | (unfold eqN at e; simp at e; done) | skip
   unfold Rep at h g; subst h g; obtain ⟨t,rfl⟩:=r; obtain ⟨t',rfl⟩:=r'; unfold eqN at e; cases e; exact ⟨SeqAt.RcAt.str_str _ _ _ _,SeqAt.EqAt.str_str _ _ _ _⟩
 have main:∀ (n:Nat) (v w:PV) (x y:V) (u u':Value) (b:Bool) (A:Around),A.units+n < cLine→Rep X.K c H v x→Rep X.K c H w y→bK x u→bK y u'→eqN n v w=some b→SeqAt.RcAt A s u u' b∧SeqAt.EqAt A s u u' b:=by
  intro n
  induction n with
  | zero =>
   intro v w x y u u' b A hu h g r r' e
   cases v with
   | tup xs=>unfold eqN at e; simp at e
   | lst xs=>unfold eqN at e; simp at e
   | _=>exact flat 0 _ w x y u u' b A (by intro _ z; cases z) (by intro _ z; cases z) h g r r' e
  | succ n ih =>
   intro v w x y u u' b A hu h g r r' e
   have hin:A.in1.units+n < cLine:=by show A.units+1+n < cLine; omega
   cases v with
   | tup xs =>
    cases w with
    | tup ys =>
     have hs:x=y→b=true:=fun z=>adB I (n+1) _ _ x b h (z ▸ g) e
     unfold Rep at h g
     obtain ⟨a,vs,rfl,t1,_,r1⟩:=h
     obtain ⟨a',ws,rfl,t2,_,r2⟩:=g
     cases r
     cases r'
     obtain ⟨its,q1,p1,_⟩:=I.tuple t1
     obtain ⟨jts,q2,p2,_⟩:=I.tuple t2
     unfold eqN at e
     split at e
     ·rename_i bs hb
      cases e
      have z:=SeqAt.RcAt.tuples (A:=A) (s:=s) (e:=fun j=>bs.getD j true) (show s.heap.IsTuple a its.toArray from p1) (show s.heap.IsTuple a' jts.toArray from p2) (by omega)
       (uE (A:=A.in1) (fun v w x y u u' b h1 h2 h3 h4 h5=>(ih v w x y u u' b A.in1 hin h1 h2 h3 h4 h5).2) r1 r2 q1 q2 hb)
      have l1:=r1.length.trans q1.length
      have l2:=r2.length.trans q2.length
      rw [List.size_toArray,List.size_toArray,← l1,← l2,← rH hb,uB] at z
      refine ⟨z,?_⟩
      by_cases ha:a=a'
      ·subst ha
       rw [hs rfl]
       exact SeqAt.EqAt.same _
      ·exact SeqAt.EqAt.of_refs ha z
     ·cases e
    | _=>unfold eqN at e; simp at e
   | lst xs =>
    cases w with
    | lst ys =>
     have hs:x=y→b=true:=fun z=>adB I (n+1) _ _ x b h (z ▸ g) e
     unfold Rep at h g
     obtain ⟨a,vs,rfl,t1,_,r1⟩:=h
     obtain ⟨a',ws,rfl,t2,_,r2⟩:=g
     cases r
     cases r'
     obtain ⟨its,q1,p1,_⟩:=I.list t1.sq
     obtain ⟨jts,q2,p2,_⟩:=I.list t2.sq
     have l1:=r1.length.trans q1.length
     have l2:=r2.length.trans q2.length
     have fin:SeqAt.RcAt A s (.ref a) (.ref a') b→SeqAt.RcAt A s (.ref a) (.ref a') b∧SeqAt.EqAt A s (.ref a) (.ref a') b:=fun z=>by
      refine ⟨z,?_⟩
      by_cases ha:a=a'
      ·subst ha
       rw [hs rfl]
       exact SeqAt.EqAt.same _
      ·exact SeqAt.EqAt.of_refs ha z
     unfold eqN at e
     split at e
     ·rename_i hl
      split at e
      ·rename_i bs hb
       cases e
       have z:=SeqAt.RcAt.lists (A:=A) (s:=s) (e:=fun j=>bs.getD j true) p1.isList p2.isList (by rw [List.size_toArray,List.size_toArray]; omega) (by omega)
        (uE (A:=A.in1) (fun v w x y u u' b h1 h2 h3 h4 h5=>(ih v w x y u u' b A.in1 hin h1 h2 h3 h4 h5).2) r1 r2 q1 q2 hb)
       have hm:its.length=bs.length:=by rw [rH hb]; omega
       rw [List.size_toArray,hm,uB] at z
       exact fin z
      ·cases e
     ·rename_i hl
      cases e
      exact fin (SeqAt.RcAt.lists_lengths p1.isList p2.isList (by rw [List.size_toArray,List.size_toArray]; simp; omega) (by omega))
    | _=>unfold eqN at e; simp at e
   | _=>exact flat (n+1) _ w x y u u' b A (by intro _ z; cases z) (by intro _ z; cases z) h g r r' e
 exact main
end
end L2.Pp
namespace L2.Pp
noncomputable section
open PySem PySem.Spec PyProof.Rows Bn
section
variable {X:Cx}
theorem ai0 {pins:List (Addr × Obj)} {σ:St} {H:Hp} {s:Shared} (I:Inv X pins σ H s) {p:Ph} {v w:PV} {x y:V} {u u':Value} {b:Bool} {A:Around} (hu:A.units+8 < cLine) (h:dX X.K p H v x) (g:dX X.K p H w y) (r:bK x u) (r':bK y u') (e:eqN 8 v w=some b) :
  SeqAt.RcAt A s u u' b∧SeqAt.RcNeAt A s u u' (!b):=by
 have hin:A.in1.units+7 < cLine:=by show A.units+1+7 < cLine; omega
 cases v with
 | non =>
  cases w <;> first | (unfold eqN at e; simp at e; done) | skip
  have h:=h.non; have g:=g.non; subst h g; cases r; cases r'; unfold eqN at e; cases e; exact ⟨SeqAt.RcAt.none_none,SeqAt.RcNeAt.none_none⟩
 | bl i =>
  cases w <;> first | (unfold eqN at e; simp at e; done) | skip
  have h:=h.bl; have g:=g.bl; subst h g; cases r; cases r'; unfold eqN at e; cases e; exact ⟨SeqAt.RcAt.bool_bool _ _,SeqAt.RcNeAt.bool_bool _ _⟩
 | int i =>
  cases w <;> first | (unfold eqN at e; simp at e; done) | skip
  have h:=h.int; have g:=g.int; subst h g; obtain ⟨t,rfl⟩:=r; obtain ⟨t',rfl⟩:=r'; unfold eqN at e; cases e; exact ⟨SeqAt.RcAt.int_int _ _ _ _,SeqAt.RcNeAt.int_int _ _ _ _⟩
 | str i =>
  cases w <;> first | (unfold eqN at e; simp at e; done) | skip
  have h:=h.str; have g:=g.str; subst h g; obtain ⟨t,rfl⟩:=r; obtain ⟨t',rfl⟩:=r'; unfold eqN at e; cases e; exact ⟨SeqAt.RcAt.str_str _ _ _ _,SeqAt.RcNeAt.str_str _ _ _ _⟩
 | tup xs =>
  cases w with
  | tup ys =>
   obtain ⟨a,vs,rfl,t1,_,r1⟩:=h.tup
   obtain ⟨a',ws,rfl,t2,_,r2⟩:=g.tup
   cases r
   cases r'
   obtain ⟨its,q1,p1,_⟩:=I.tuple t1
   obtain ⟨jts,q2,p2,_⟩:=I.tuple t2
   unfold eqN at e
   split at e
   ·rename_i bs hb
    cases e
    have it:=uE (s:=s) (A:=A.in1) (fun v w x y u u' b h1 h2 h3 h4 h5=>(ag8 I 7 v w x y u u' b A.in1 hin h1 h2 h3 h4 h5).2) r1 r2 q1 q2 hb
    have z:=SeqAt.RcAt.tuples (A:=A) (s:=s) (e:=fun j=>bs.getD j true) (show s.heap.IsTuple a its.toArray from p1) (show s.heap.IsTuple a' jts.toArray from p2) (by omega) it
    have z':=SeqAt.RcNeAt.tuples (A:=A) (s:=s) (e:=fun j=>bs.getD j true) (show s.heap.IsTuple a its.toArray from p1) (show s.heap.IsTuple a' jts.toArray from p2) (by omega) it
    have l1:=r1.length.trans q1.length
    have l2:=r2.length.trans q2.length
    rw [List.size_toArray,List.size_toArray,← l1,← l2,← rH hb,uB] at z z'
    exact ⟨z,z'⟩
   ·cases e
  | _=>unfold eqN at e; simp at e
 | lst xs =>
  cases w with
  | lst ys =>
   obtain ⟨a,vs,rfl,t1,_,r1⟩:=h.lst
   obtain ⟨a',ws,rfl,t2,_,r2⟩:=g.lst
   cases r
   cases r'
   obtain ⟨its,q1,p1,_⟩:=I.list t1
   obtain ⟨jts,q2,p2,_⟩:=I.list t2
   have l1:=r1.length.trans q1.length
   have l2:=r2.length.trans q2.length
   unfold eqN at e
   split at e
   ·rename_i hl
    split at e
    ·rename_i bs hb
     cases e
     have it:=uE (s:=s) (A:=A.in1) (fun v w x y u u' b h1 h2 h3 h4 h5=>(ag8 I 7 v w x y u u' b A.in1 hin h1 h2 h3 h4 h5).2) r1 r2 q1 q2 hb
     have z:=SeqAt.RcAt.lists (A:=A) (s:=s) (e:=fun j=>bs.getD j true) p1.isList p2.isList (by rw [List.size_toArray,List.size_toArray]; omega) (by omega) it
     have z':=SeqAt.RcNeAt.lists (A:=A) (s:=s) (e:=fun j=>bs.getD j true) p1.isList p2.isList (by rw [List.size_toArray,List.size_toArray]; omega) (by omega) it
     have hm:its.length=bs.length:=by rw [rH hb]; omega
     rw [List.size_toArray,hm,uB] at z z'
     exact ⟨z,z'⟩
    ·cases e
   ·rename_i hl
    cases e
    exact ⟨SeqAt.RcAt.lists_lengths p1.isList p2.isList (by rw [List.size_toArray,List.size_toArray]; simp; omega) (by omega),SeqAt.RcNeAt.lists_lengths p1.isList p2.isList (by rw [List.size_toArray,List.size_toArray]; simp; omega) (by omega)⟩
  | _=>unfold eqN at e; simp at e
def wJ (K:PySem.W.Frag) (neg:Bool):R2:=fun x y H Q=>∃ p v w b,dX K p H v x∧dX K p H w y∧eqN 8 v w=some b∧Q (.bl (if neg then !b else b)) H
theorem dF (hu:X.A.units+8 < cLine):OpR X (compareOp .Eq) (wJ X.K false):=by
 intro pins s σ H x y v u Q I rx ry h
 obtain ⟨p,a,b,k,h1,h2,e,q⟩:=h
 exact (ai0 I hu h1 h2 rx ry e).1 X.prog X.w X.xe _ ⟨.bl k,H,I,rfl,q⟩
theorem iF (hu:X.A.units+8 < cLine):OpR X (compareOp .NotEq) (wJ X.K true):=by
 intro pins s σ H x y v u Q I rx ry h
 obtain ⟨p,a,b,k,h1,h2,e,q⟩:=h
 exact (ai0 I hu h1 h2 rx ry e).2 X.prog X.w X.xe _ ⟨.bl (!k),H,I,rfl,q⟩
def fEq (a b:PV):Option PV:=(eqN 8 a b).map .bl
def fNe (a b:PV):Option PV:=(eqN 8 a b).map fun k=>.bl (!k)
theorem dG {K:PySem.W.Frag}:OpS K (wJ K false) fEq:=fun {p S H a b c x y Q} s ra rb e k=>by
 unfold fEq at e
 cases z:eqN 8 a b with
 | none=>rw [z] at e; cases e
 | some t =>
  rw [z] at e
  cases e
  exact ⟨p,a,b,t,ra,rb,z,k H _ (cA.refl H) (by unfold Rep; rfl)⟩
theorem iG {K:PySem.W.Frag}:OpS K (wJ K true) fNe:=fun {p S H a b c x y Q} s ra rb e k=>by
 unfold fNe at e
 cases z:eqN 8 a b with
 | none=>rw [z] at e; cases e
 | some t =>
  rw [z] at e
  cases e
  exact ⟨p,a,b,t,ra,rb,z,k H _ (cA.refl H) (by unfold Rep; rfl)⟩
def i2 (f:Int→Int→Option PV):PV→PV→Option PV
 | .int a,.int b=>f a b
 | _,_=>none
open Classical in
def cI (C:Int→Int→Prop) (g:Int→Int→PV) (a b:Int):Option PV:=if C a b then some (g a b) else none
def toV:PV→V
 | .int i=>.int i
 | .bl b=>.bl b
 | .str s=>.str s
 | _=>.non
def pR:PV→Bool
 | .int _=>true
 | .bl _=>true
 | .str _=>true
 | .non=>true
 | _=>false
theorem fL {K:PySem.W.Frag} {c:Addr→Prop} {H:Hp} {v:PV} (h:pR v=true):Rep K c H v (toV v):=by
 cases v with
 | tup _=>cases h
 | lst _=>cases h
 | _=>unfold Rep toV; rfl
theorem wL {K:PySem.W.Frag} {C:Int→Int→Prop} {g:Int→Int→PV} {h:Int→Int→V} (fl:∀ i j,pR (g i j)=true∧toV (g i j)=h i j):OpS K (rI C h) (i2 (cI C g)):=fun {p S H a b c x y Q} s ra rb e k=>by
 cases a with
 | int i =>
  cases b with
  | int j =>
   unfold i2 cI at e
   dsimp only at e
   split at e
   ·rename_i hc
    cases e
    refine ⟨i,j,ra.int,rb.int,hc,?_⟩
    rw [← (fl i j).2]
    exact k H _ (cA.refl H) (fL (fl i j).1)
   ·cases e
  | _=>cases e
 | _=>cases e
theorem sL {K:PySem.W.Frag} {g:Int→Int→PV} {h:Int→Int→V} (fl:∀ i j,pR (g i j)=true∧toV (g i j)=h i j):OpS K (rI0 h) (i2 fun i j=>some (g i j)):=fun {p S H a b c x y Q} s ra rb e k=>by
 cases a with
 | int i =>
  cases b with
  | int j =>
   cases e
   refine ⟨i,j,ra.int,rb.int,?_⟩
   rw [← (fl i j).2]
   exact k H _ (cA.refl H) (fL (fl i j).1)
  | _=>cases e
 | _=>cases e
def nP (i j:Int):Prop:=ali i j∨(Bd 1000000 i∧Bd 1000000 j)
theorem nP.ok {i j:Int} (h:nP i j):IntMulOk i j:=by
 rcases h with h | h
 ·exact h.ok
 have h1:=aej h.1
 have h2:=aej h.2
 unfold IntMulOk Builtin.Int.intTooBig bitsLine
 intro c
 simp only [Bool.and_eq_true,decide_eq_true_eq] at c
 have:=c.2
 omega
theorem cH:OpR X (binaryOp .Mult) (rI nP fun i j=>.int (i*j)):=opI fun _ _ _ _ _ _ _ hc q=>mul_int q hc.ok
def bE:=i2 (cI nP fun i j=>.int (i*j))
def fN:=i2 (cI nR fun i j=>.int (i.fdiv j))
def fA:=i2 (cI (fun _ j=>j≠0) fun i j=>.int (i.fmod j))
def dE:=i2 (cI wN fun i j=>.int (i ^ j.toNat))
def dJ:=i2 fun i j=>some (.int (i - j))
def fLt:=i2 fun i j=>some (.bl (decide (i < j)))
def fLe:=i2 fun i j=>some (.bl (decide (i≤j)))
def fGt:=i2 fun i j=>some (.bl (decide (j < i)))
def fGe:=i2 fun i j=>some (.bl (decide (j≤i)))
theorem cL {K:PySem.W.Frag}:OpS K (rI nP fun i j=>.int (i*j)) bE:=wL fun _ _=>⟨rfl,rfl⟩
theorem nF {K:PySem.W.Frag}:OpS K (rI nR fun i j=>.int (i.fdiv j)) fN:=wL fun _ _=>⟨rfl,rfl⟩
theorem kT {K:PySem.W.Frag}:OpS K (rI (fun _ j=>j≠0) fun i j=>.int (i.fmod j)) fA:=wL fun _ _=>⟨rfl,rfl⟩
theorem iR {K:PySem.W.Frag}:OpS K (rI wN fun i j=>.int (i ^ j.toNat)) dE:=wL fun _ _=>⟨rfl,rfl⟩
theorem gD {K:PySem.W.Frag}:OpS K (rI0 fun i j=>.int (i - j)) dJ:=sL fun _ _=>⟨rfl,rfl⟩
theorem qB {K:PySem.W.Frag}:OpS K (rI0 fun i j=>.bl (decide (i < j))) fLt:=sL fun _ _=>⟨rfl,rfl⟩
theorem akL {K:PySem.W.Frag}:OpS K (rI0 fun i j=>.bl (decide (i≤j))) fLe:=sL fun _ _=>⟨rfl,rfl⟩
theorem akN {K:PySem.W.Frag}:OpS K (rI0 fun i j=>.bl (decide (j < i))) fGt:=sL fun _ _=>⟨rfl,rfl⟩
theorem wV {K:PySem.W.Frag}:OpS K (rI0 fun i j=>.bl (decide (j≤i))) fGe:=sL fun _ _=>⟨rfl,rfl⟩
def cQ:PV→Option PV
 | .int i=>some (.int (-i))
 | _=>none
theorem eH {K:PySem.W.Frag}:UnS K (rU fun i=>.int (-i)) cQ:=fun {p S H a c x Q} s ra e k=>by
 cases a with
 | int i =>
  cases e
  exact ⟨i,ra.int,k H _ (cA.refl H) (fL (v:=.int (-i)) rfl)⟩
 | _=>cases e
def ajj (K:PySem.W.Frag):R2:=fun x y H Q=>∃ l b xs zs,x=.ref l∧y=.ref b∧SqL K H l xs∧SqL K H b zs∧xs.length+zs.length≤sizeLine∧∀ p,H p=none→Q (.ref p) (upd H p (.lst (xs++zs)))
theorem ahO:OpR X (binaryOp .Add) (ajj X.K):=by
 intro pins s σ H x y v u Q I rx ry h
 obtain ⟨l,b,xs,zs,rfl,rfl,hx,hy,hz,q⟩:=h
 cases rx
 cases ry
 obtain ⟨its,r1,p1,_⟩:=I.list hx
 obtain ⟨jts,r2,p2,_⟩:=I.list hy
 obtain ⟨⟨cls,dd,data,sl⟩,n,ho,hc,_,hd⟩:=p1
 obtain ⟨⟨cls2,dd2,data2,sl2⟩,n2,ho2,hc2,_,hd2⟩:=p2
 simp only at hc hd hc2 hd2
 subst hc hd hc2 hd2
 have e:its.toArray++jts.toArray=(its++jts).toArray:=by simp
 have l1:=r1.length
 have l2:=r2.length
 refine concat_meets ⟨_,ho,rfl⟩ ⟨_,ho2,rfl⟩ noFill_list_add seq_list_add PySem.F.slot_list_add PySem.F.entry_list_add (PySem.F.args_list_add_2 _ _) (list_addW l b its.toArray jts.toArray n n2 dd dd2 sl sl2 (by rw [List.size_toArray,List.size_toArray]; omega)) ⟨ho,ho2,?_⟩
 rw [e]
 exact ⟨.ref _,_,I.lnew (t':=s.toks) (r1.append r2) (by rw [List.length_append]; omega),rfl,q _ I.fresh⟩
def aH:PV→PV→Option PV
 | .int a,.int b=>some (.int (a+b))
 | .lst xs,.lst ys=>if xs.length+ys.length≤16777216 then some (.lst (xs++ys)) else none
 | .tup xs,.tup ys=>if xs.length≠0∧ys.length≠0∧xs.length+ys.length≤16777216 then some (.tup (xs++ys)) else none
 | _,_=>none
def aku (K:PySem.W.Frag):R2:=fun x y H Q=>(rI0 fun i j=>.int (i+j)) x y H Q∨ajj K x y H Q∨aj0 K x y H Q
theorem dL:OpR X (binaryOp .Add) (aku X.K):=OpR.or akx (OpR.or ahO aiw)
theorem dN {K:PySem.W.Frag}:OpS K (aku K) aH:=fun {p S H a b c x y Q} s ra rb e k=>by
 cases a with
 | int i =>
  cases b with
  | int j =>
   cases e
   exact .inl ⟨i,j,ra.int,rb.int,k H _ (cA.refl H) (fL (v:=.int (i+j)) rfl)⟩
  | _=>cases e
 | lst xs =>
  cases b with
  | lst ys =>
   have e:(if xs.length+ys.length≤16777216 then some (PV.lst (xs++ys)) else none)=some c:=e
   split at e
   ·rename_i hl
    cases e
    obtain ⟨a1,vs,rfl,l1,z1,r1⟩:=ra.lst
    obtain ⟨a2,ws,rfl,l2,z2,r2⟩:=rb.lst
    have hz:vs.length+ws.length≤sizeLine:=by rw [← r1.length,← r2.length,fJ]; exact hl
    exact .inr (.inl ⟨a1,a2,vs,ws,rfl,rfl,l1,l2,hz,fun t ht=>k _ _ (fK ht) (mZ s (r1.append r2) (by rw [List.length_append]; exact hz) ht)⟩)
   ·cases e
  | _=>cases e
 | tup xs =>
  cases b with
  | tup ys =>
   have e:(if xs.length≠0∧ys.length≠0∧xs.length+ys.length≤16777216 then some (PV.tup (xs++ys)) else none)=some c:=e
   split at e
   ·rename_i hl
    cases e
    obtain ⟨a1,vs,rfl,l1,z1,r1⟩:=ra.tup
    obtain ⟨a2,ws,rfl,l2,z2,r2⟩:=rb.tup
    have hz:vs.length+ws.length≤sizeLine:=by rw [← r1.length,← r2.length,fJ]; exact hl.2.2
    refine .inr (.inr ⟨a1,a2,vs,ws,rfl,rfl,l1,l2,fun q=>hl.1 (by rw [r1.length,q]; rfl),hz,fun q=>absurd (show ys.length=0 by rw [r2.length,q]; rfl) hl.2.1,fun _ t ht=>k _ _ (fK ht) (kK s (r1.append r2) (by rw [List.length_append]; exact hz) ht)⟩)
   ·cases e
  | _=>cases e
 | _=>cases e
end
section
variable {K:PySem.W.Frag} {cl:Str→Addr} {E:XK} {X:Cx} {a b e:Expr} {es:List Expr} {ma mb m:ME} {ms:MA} {pos p2:Pos}
def fIx:PV→PV→Option PV
 | .lst xs,.int i=>atI xs i
 | .tup xs,.int i=>atI xs i
 | _,_=>none
theorem aeL {c:Addr→Prop} {H:Hp} {xs:List PV} {vs:List V} {i:Int} {v:PV} (r:aU K c H xs vs) (e:atI xs i=some v):∃ x,atI vs i=some x∧Rep K c H v x:=by
 unfold atI at e ⊢
 rw [← r.length]
 cases z:ixN xs.length i with
 | none=>rw [z] at e; cases e
 | some j =>
  rw [z] at e
  exact r.get e
theorem al0:OpS K (rIx K) fIx:=fun {p S H a b c x y Q} s ra rb e k=>by
 cases b with
 | int i =>
  cases a with
  | lst xs =>
   obtain ⟨a1,vs,rfl,l1,z1,r1⟩:=ra.lst
   obtain ⟨x,e1,r2⟩:=aeL r1 e
   exact .inl ⟨a1,vs,i,x,rfl,rb.int,l1,e1,k H x (cA.refl H) r2⟩
  | tup xs =>
   obtain ⟨a1,vs,rfl,l1,z1,r1⟩:=ra.tup
   obtain ⟨x,e1,r2⟩:=aeL r1 e
   exact .inr (.inl ⟨a1,vs,i,x,rfl,rb.int,l1,e1,k H x (cA.refl H) r2⟩)
  | _=>cases e
 | _=>cases a <;> cases e
theorem bB (ha:PEp K cl E X a ma) (hb:PEp K cl E X b mb) (hs:aeK b:=by intro _ _; rfl):PEp K cl E X (.Subscript a b pos) (aB fIx ma mb):=by
 intro hK
 subst hK
 refine (alE aiY (ha rfl) (hb rfl) hs).imp fun σ H Q ⟨p,S,ρ,s,e,h⟩=>?_
 exact bR s e h fun q H1 a x S1 st s1 e1 r1 h1=>bR s1 e1 h1 fun q2 H2 b y S2 st2 s2 e2 r2 h2=>oN al0 s2 (st2.repA r1) r2 h2
abbrev MO:=Rho→Sto→Res (Option Int)
def mO0:MO:=fun _ S=>.ok none S
def dZ:AV→Sto→Res (Option Int)
 | .pv (.int i),S=>.ok (some i) S
 | _,_=>.fail
def mO1 (m:ME):MO:=fun ρ S=>(m ρ S).bind dZ
abbrev RO:Ph→Hp→Option Int→Option Int→Prop:=fun _ _ a b=>a=b
variable (K cl E X)
def POp (e:Option Expr) (m:MO):Prop:=X.K=K→PO X e (tP K cl E RO m)
variable {K cl E X}
theorem PO.imp {e:Option Expr} {t t':TO} (h:PO X e t) (i:∀ σ H Q,t' σ H Q→t σ H Q):PO X e t':=fun pins s σ H Q I q=>h pins s σ H Q I (i σ H Q q)
theorem jG:POp K cl E X none mO0:=fun _=>PO.imp ahG fun σ H Q ⟨p,S,ρ,s,e,h⟩=>bP.ret (R:=RO) h s rfl
theorem jH (h:PEp K cl E X e m):POp K cl E X (some e) (mO1 m):=by
 intro hK
 subst hK
 refine PO.imp (aif (h rfl)) fun σ H Q ⟨p,S,ρ,s,e,h⟩=>?_
 refine bR s e h fun q H1 a x S1 st s1 e1 r1 h1=>?_
 unfold dZ at h1
 split at h1
 ·rename_i i
  exact ⟨i,(show dX X.K q H1 (.int i) x from .inl r1).int,bP.ret (R:=RO) h1 s1 rfl⟩
 ·exact h1.elim
def iH (xs:List PV) (lo hi:Option Int):List PV:=(xs.drop (HT.sIx xs.length 0 lo)).take (HT.sIx xs.length xs.length hi - HT.sIx xs.length 0 lo)
def fSl (v:PV) (lo hi:Option Int):Option PV:=match v with
 | .lst xs=>some (.lst (iH xs lo hi))
 | .tup xs=>if HT.sIx xs.length 0 lo=0∧HT.sIx xs.length xs.length hi=xs.length then none else some (.tup (iH xs lo hi))
 | _=>none
def mSl (m:ME) (ml mh:MO):ME:=fun ρ S=>(m ρ S).bind fun v S1=>(ml ρ S1).bind fun lo S2=>(mh ρ S2).bind fun hi S3=>okO ((rd S3 v).bind fun x=>fSl x lo hi) S3
theorem adx {c:Addr→Prop} {H:Hp} {xs:List PV} {vs:List V} {lo hi:Option Int} (r:aU K c H xs vs):aU K c H (iH xs lo hi) (mG vs lo hi):=by
 unfold iH mG
 rw [← r.length]
 exact (r.drop _).take _
theorem kC {lo hi:Option Expr} {ml mh:MO} (he:PEp K cl E X e m) (hl:POp K cl E X lo ml) (hu:POp K cl E X hi mh):PEp K cl E X (.Subscript e (.Slice lo hi none p2) pos) (mSl m ml mh):=by
 intro hK
 subst hK
 refine (adD (SlR.or ahI ai3) (he rfl) (hl rfl) (hu rfl)).imp fun σ H Q ⟨p,S,ρ,s,e,h⟩=>?_
 refine bR s e h fun q H1 a x S1 st s1 e1 r1 h1=>bR s1 e1 h1 fun q2 H2 lo lo' S2 st2 s2 e2 r2 h2=>bR s2 e2 h2 fun q3 H3 hi hi' S3 st3 s3 e3 r3 h3=>?_
 cases r2
 cases r3
 have ra:=st3.repA (st2.repA r1)
 obtain ⟨c,ec,k⟩:=lM s3 h3
 cases z:rd S3 a with
 | none=>rw [z] at ec; cases ec
 | some v =>
  rw [z] at ec
  have rv:=nI s3 ra z
  cases v with
  | lst xs =>
   have ec:some (PV.lst (iH xs lo hi))=some c:=ec
   cases ec
   obtain ⟨a1,vs,rfl,l1,z1,r1⟩:=rv.lst
   exact .inl ⟨a1,vs,rfl,l1,fun t ht=>k _ _ (fK ht) (mZ s3 (adx r1) (Nat.le_trans (tG vs lo hi) z1) ht)⟩
  | tup xs =>
   obtain ⟨a1,vs,rfl,l1,z1,r1⟩:=rv.tup
   have ec:(if HT.sIx xs.length 0 lo=0∧HT.sIx xs.length xs.length hi=xs.length then none else some (PV.tup (iH xs lo hi)))=some c:=ec
   split at ec
   ·cases ec
   ·rename_i hw
    cases ec
    rw [r1.length] at hw
    exact .inr ⟨a1,vs,rfl,l1,hw,fun t ht=>k _ _ (fK ht) (kK s3 (adx r1) (Nat.le_trans (tG vs lo hi) z1) ht)⟩
  | _=>cases ec
theorem cW {id:String} {r:List V→Hp→VK→Prop} {f:List PV→Option PV} {x:Str} {p:Pos} (hc:gA X (.builtin id) r) (hf:CaR X.K r f) (hg:Gl X x) (hm:X.mg x=none) (hv:bootBuiltins x=some (.builtin id)) (ha:PAp K cl E X (e :: es) ms) (hn:x≠"__name__":=by decide) (hdb:(x == ("__debug__":Str))=false:=by decide)
  (he:starEach (e :: es) X.env=(false,eval e X.env) :: starEach es X.env:=by rfl) (hpl:(backTo pos (starEach es X.env)).any (·.1)=false:=by rfl):PEp K cl E X (.Call (.Name x p) (e :: es) [] pos) (mR f ms):=by
 intro hK
 subst hK
 refine PE.imp (adi hc hg hm hv (ha rfl) hn hdb he hpl) fun σ H Q ⟨p,S,ρ,s,ev,h⟩=>?_
 exact bR s ev h fun q H' as xs S' stp sm ev r k=>acg hf sm r k
theorem fW {T:String} {r:List V→Hp→VK→Prop} {f:List PV→Option PV} {x:Str} {p:Pos} (hc:gA X (.type T) r) (hf:CaR X.K r f) (hg:Gl X x) (hm:X.mg x=none) (hv:bootBuiltins x=some (.type T)) (ha:PAp K cl E X (e :: es) ms) (hn:x≠"__name__":=by decide) (hdb:(x == ("__debug__":Str))=false:=by decide)
  (he:starEach (e :: es) X.env=(false,eval e X.env) :: starEach es X.env:=by rfl) (hpl:(backTo pos (starEach es X.env)).any (·.1)=false:=by rfl):PEp K cl E X (.Call (.Name x p) (e :: es) [] pos) (mR f ms):=by
 intro hK
 subst hK
 refine PE.imp (afi hc hg hm hv (ha rfl) hn hdb he hpl) fun σ H Q ⟨p,S,ρ,s,ev,h⟩=>?_
 exact bR s ev h fun q H' as xs S' stp sm ev r k=>acg hf sm r k
def cO:List PV→Option PV
 | [.lst xs]=>some (.int xs.length)
 | [.tup xs]=>some (.int xs.length)
 | _=>none
theorem fI:CaR K (fun xs H Q=>∃ p ys,xs=[.ref p]∧(SqL K H p ys∨SqT K H p ys)∧Q (.int ys.length) H) cO:=fun {p S H as c xs Q} s ra e k=>by
 unfold cO at e
 split at e
 ·rename_i zs
  cases e
  cases ra with
  | cons h t =>
   cases t
   obtain ⟨a,vs,rfl,l,z,r⟩:=h.lst
   refine ⟨a,vs,rfl,.inl l,?_⟩
   rw [← r.length]
   exact k H _ (cA.refl H) (fL (v:=.int zs.length) rfl)
 ·rename_i zs
  cases e
  cases ra with
  | cons h t =>
   cases t
   obtain ⟨a,vs,rfl,l,z,r⟩:=h.tup
   refine ⟨a,vs,rfl,.inr l,?_⟩
   rw [← r.length]
   exact k H _ (cA.refl H) (fL (v:=.int zs.length) rfl)
 ·cases e
def aM:List PV→Option PV
 | [.int i]=>some (.int (if i < 0 then -i else i))
 | _=>none
theorem pO:CaR K (fun xs H Q=>∃ i,xs=[.int i]∧Q (.int (if i < 0 then -i else i)) H) aM:=fun {p S H as c xs Q} s ra e k=>by
 unfold aM at e
 split at e
 ·rename_i i
  cases e
  cases ra with
  | cons h t =>
   cases t
   cases h.int
   exact ⟨i,rfl,k H _ (cA.refl H) (fL (v:=.int _) rfl)⟩
 ·cases e
def aJ:List PV→Option PV
 | [.lst xs]=>some (.tup xs)
 | [.tup xs]=>some (.tup xs)
 | _=>none
theorem lL:CaR K (fun xs H Q=>∃ p ys,xs=[.ref p]∧((SqL K H p ys∧∀ l,H l=none→Q (.ref l) (upd H l (.tup ys)))∨(SqT K H p ys∧Q (.ref p) H))) aJ:=fun {p S H as c xs Q} s ra e k=>by
 unfold aJ at e
 split at e
 ·rename_i zs
  cases e
  cases ra with
  | cons h t =>
   cases t
   obtain ⟨a,vs,rfl,l,z,r⟩:=h.lst
   exact ⟨a,vs,rfl,.inl ⟨l,fun t ht=>k _ _ (fK ht) (kK s r z ht)⟩⟩
 ·rename_i zs
  cases e
  cases ra with
  | cons h t =>
   cases t
   obtain ⟨a,vs,rfl,l,z,r⟩:=h.tup
   refine ⟨a,vs,rfl,.inr ⟨l,k H _ (cA.refl H) ?_⟩⟩
   unfold Rep
   exact ⟨a,vs,rfl,l,z,r⟩
 ·cases e
def aK:List PV→Option PV
 | [.lst xs]=>some (.lst xs)
 | [.tup xs]=>some (.lst xs)
 | _=>none
theorem uM:CaR K (fun xs H Q=>∃ p ys,xs=[.ref p]∧(SqL K H p ys∨SqT K H p ys)∧∀ l,H l=none→Q (.ref l) (upd H l (.lst ys))) aK:=fun {p S H as c xs Q} s ra e k=>by
 unfold aK at e
 split at e
 ·rename_i zs
  cases e
  cases ra with
  | cons h t =>
   cases t
   obtain ⟨a,vs,rfl,l,z,r⟩:=h.lst
   exact ⟨a,vs,rfl,.inl l,fun t ht=>k _ _ (fK ht) (mZ s r z ht)⟩
 ·rename_i zs
  cases e
  cases ra with
  | cons h t =>
   cases t
   obtain ⟨a,vs,rfl,l,z,r⟩:=h.tup
   exact ⟨a,vs,rfl,.inr l,fun t ht=>k _ _ (fK ht) (mZ s r z ht)⟩
 ·cases e
def iS:List PV→Option (List Bool)
 | []=>some []
 | .bl b :: r=>match iS r with
  | some bs=>some (b :: bs)
  | none=>none
 | _ :: _=>none
def iK:List PV→Option PV
 | [.lst xs]=>(iS xs).map fun bs=>.bl (bs.all id)
 | _=>none
theorem adv {c:Addr→Prop} {H:Hp}:∀ {xs:List PV} {bs:List Bool} {vs:List V},iS xs=some bs→aU K c H xs vs→vs=bs.map V.bl
 | [],bs,vs,e,r=>by
  cases e
  unfold aU at r
  exact r
 | .bl b :: xs,bs,vs,e,r=>by
  unfold iS at e
  split at e
  ·rename_i cs h
   cases e
   unfold aU at r
   obtain ⟨v,w,rfl,r1,r2⟩:=r
   unfold Rep at r1
   rw [r1,adv h r2]
   rfl
  ·cases e
 | .non :: _,_,_,e,_=>by cases e
 | .int _ :: _,_,_,e,_=>by cases e
 | .str _ :: _,_,_,e,_=>by cases e
 | .tup _ :: _,_,_,e,_=>by cases e
 | .lst _ :: _,_,_,e,_=>by cases e
theorem vN:CaR K (fun xs H Q=>∃ (a:Addr) (bs:List Bool),xs=[.ref a]∧SqL K H a (bs.map V.bl)∧Q (.bl (bs.all id)) H) iK:=fun {p S H as c xs Q} s ra e k=>by
 unfold iK at e
 split at e
 ·rename_i zs
  cases y:iS zs with
  | none=>rw [y] at e; cases e
  | some bs =>
   rw [y] at e
   cases e
   cases ra with
   | cons h t =>
    cases t
    obtain ⟨a,vs,rfl,l,z,r⟩:=h.lst
    rw [adv y r] at l
    exact ⟨a,bs,rfl,l,k H _ (cA.refl H) (fL (v:=.bl _) rfl)⟩
 ·cases e
end
end
end L2.Pp
namespace L2.Pp
open PySem PySem.Spec PyProof.Rows Bn
section
variable {K:PySem.W.Frag} {cl:Str→Addr} {E:XK} {X:Cx} {a b c e l tg:Expr} {es:List Expr} {m ma mb:ME} {ms:MA} {pos:Pos} {p q:Ph} {H H':Hp} {S:Sto}
theorem Sim.push (s:Sim K p S H) {D:Addr} {ps:List PV} {vs:List V} (h:H D=none) (l:vs.length≤sizeLine) (r:aU K p.c H ps vs) :
  let q:Ph:=⟨p.f++[D],fun a=>p.w a∨a=D,fun a=>p.c a∨a=D⟩
  bN p H q (upd H D (.lst vs))∧Sim K q (S++[.lst ps]) (upd H D (.lst vs)):=by
 intro q
 obtain ⟨st0,sm0⟩:=s.res (D:=D) (o:=.lst vs) h trivial
 have nf0:D ∉ p.f:=fun z=>s.notin h (s.wc D (s.sub D z))
 refine ⟨⟨st0.wc,st0.mu,⟨[D],rfl⟩,st0.mw,st0.mono,fun a x n=>?_,st0.nw,st0.nc,st0.keep⟩,?_,by simp [q,s.len],fun a x=>?_,sm0.wc,sm0.mu,fun k a o e1 e2=>?_⟩
 ·rcases List.mem_append.mp x with z | z
  ·exact absurd z n
  ·have:a=D:=by simpa using z
   rw [this]
   exact h
 ·show (p.f++[D]).Nodup
  rw [List.nodup_append]
  refine ⟨s.nd,by simp,fun a ha b hb z=>?_⟩
  have:b=D:=by simpa using hb
  exact nf0 (this ▸ z ▸ ha)
 ·rcases List.mem_append.mp x with z | z
  ·exact .inl (s.sub a z)
  ·exact .inr (by simpa using z)
 ·by_cases hk:k < S.length
  ·have e1':p.f[k]?=some a:=by
    have e1:(p.f++[D])[k]?=some a:=e1
    rwa [List.getElem?_append_left (by rw [s.len]; exact hk)] at e1
   rw [List.getElem?_append_left hk] at e2
   refine (s.obj k a o e1' e2).mono (fun vs e=>by rw [cK (fP e h)]; exact e) (fun b w f=>⟨⟨.inl w,fun m=>?_⟩,fun vs e=>by rw [cK (fP e h)]; exact e⟩) fun _ _ r=>st0.reps r
   rcases List.mem_append.mp m with z | z
   ·exact f z
   ·have:b=D:=by simpa using z
    exact s.notin h (this ▸ s.wc b w)
  ·have hk':k=S.length:=by
    have:=(List.getElem?_eq_some_iff.mp e2).1
    simp at this
    omega
   subst hk'
   rw [List.getElem?_append_right (Nat.le_refl _),Nat.sub_self] at e2
   have e1:(p.f++[D])[S.length]?=some a:=e1
   rw [← s.len,List.getElem?_append_right (Nat.le_refl _),Nat.sub_self] at e1
   cases e1
   cases e2
   exact ⟨vs,gX,l,st0.reps r⟩
theorem Sim.write (s:Sim K p S H) {D:Addr} {k:Nat} {ps:List PV} {vs:List V} (h:p.f[k]?=some D) (hk:k < S.length) (l:vs.length≤sizeLine) (r:aU K p.c H ps vs) :
  bN p H p (upd H D (.lst vs))∧Sim K p (S.set k (.lst ps)) (upd H D (.lst vs)):=by
 have w:p.w D:=s.sub D (List.mem_of_getElem? h)
 have st:bN p H p (upd H D (.lst vs)):=⟨s.wc,s.mu,List.prefix_rfl,fun _ h=>h,fun _ h=>h,fun _ h g=>absurd h g,fun _ h g=>absurd h g,fun _ h g=>absurd h g,fun a u e nw=>by
  rw [cK (fun z:a=D=>nw (by rw [z]; exact w))]
  exact e⟩
 refine ⟨st,s.nd,by rw [List.length_set]; exact s.len,s.sub,s.wc,fun a x=>?_,fun j a o e1 e2=>?_⟩
 ·by_cases z:a=D
  ·rw [z,gX]
   exact ⟨_,rfl,trivial⟩
  ·rw [cK z]
   exact s.mu a x
 ·by_cases hj:k=j
  ·subst hj
   rw [h] at e1
   cases e1
   rw [List.getElem?_set_self hk] at e2
   cases e2
   exact ⟨vs,gX,l,st.reps r⟩
  ·rw [List.getElem?_set_ne hj] at e2
   have ne:a≠D:=fun q=>hj (yR s.nd h (q ▸ e1))
   exact (s.obj j a o e1 e2).mono (fun vs e=>by rw [cK ne]; exact e) (fun b w f=>⟨⟨w,f⟩,fun vs e=>by rw [cK (fun z:b=D=>f (z ▸ List.mem_of_getElem? h))]; exact e⟩) fun _ _ r=>st.reps r
def nN (xs:List AV) (S:Sto):Res AV:=match iV xs with
 | some vs=>if vs.length≤16777216 then .ok (.ref S.length) (S++[.lst vs]) else .fail
 | none=>.fail
def iJ (ms:MA):ME:=fun ρ S=>(ms ρ S).bind nN
theorem uO (h:PAp K cl E X es ms):PEp K cl E X (.List es pos) (iJ ms):=by
 intro hK
 subst hK
 refine (ahs (h rfl)).imp fun σ H Q ⟨p,S,ρ,s,e,h⟩=>?_
 refine bR s e h fun q H1 as xs S1 st s1 e1 r1 h1=>?_
 unfold nN at h1
 split at h1
 ·rename_i vs hv
  split at h1
  ·rename_i hl
   have r:=tK hv r1
   rw [r.length,← fJ] at hl
   refine ⟨hl,fun t ht=>?_⟩
   obtain ⟨st2,sm2⟩:=s1.push ht hl r
   exact h1 _ _ (.ref t) st2 sm2 ⟨t,by show (q.f++[t])[S1.length]?=some t; rw [← s1.len,List.getElem?_append_right (Nat.le_refl _),Nat.sub_self]; rfl,rfl⟩
  ·exact h1.elim
 ·exact h1.elim
def lX (k:Nat) (ys:List AV) (S:Sto):Res AV:=match ys with
 | [.pv y]=>match S[k]? with
  | some (.lst xs)=>if xs.length < 16777216 then .ok (.pv .non) (S.set k (.lst (xs++[y]))) else .fail
  | _=>.fail
 | _=>.fail
def jR {α:Type} (k:AV) (f:Nat→Res α):Res α:=match k with
 | .ref k=>f k
 | _=>.fail
def fY (m:ME) (ms:MA):ME:=fun ρ S=>(m ρ S).bind fun k S1=>jR k fun k=>(ms ρ S1).bind fun ys S2=>lX k ys S2
theorem afB {k:Nat} {x:V} (s:Sim K p S H) (r:bX K p H (.ref k) x):tyV K "list" x H:=by
 obtain ⟨a,e,rfl⟩:=r
 have hk:k < S.length:=by
  have:=(List.getElem?_eq_some_iff.mp e).1
  rw [← s.len]
  exact this
 have z:=s.obj k a S[k] e (List.getElem?_eq_getElem hk)
 cases y:S[k] with
 | lst xs =>
  rw [y] at z
  obtain ⟨vs,h,_⟩:=z
  exact .inl ⟨rfl,vs,SqL.of h⟩
 | lol xss =>
  rw [y] at z
  obtain ⟨bs,h,_⟩:=z
  exact .inl ⟨rfl,_,SqL.of h⟩
theorem qV {apos cpos:Pos} (ho:PEp K cl E X a m) (ha:PAp K cl E X [e] ms) (hbase:attributeBase a "append" X.env (eval a X.env)=eval a X.env:=by rfl)
  (hfew:((backTo cpos (starEach [e] X.env)).all (fun x=>!x.1) && (backToKw cpos (keywordEach [] X.env)).all (fun x=>x.1.isSome) && decide (([e]:List Expr).length+([]:List Keyword).length+(if ([]:List Keyword).isEmpty then 0 else 1) < 30))=true:=by rfl)
  (hline:(apos.endLine == cpos.line)=true:=by rfl) (hs:starEach [e] X.env=[(false,eval e X.env)]:=by rfl):PEp K cl E X (.Call (.Attribute a "append" apos) [e] [] cpos) (fY m ms):=by
 intro hK
 subst hK
 refine PE.imp (vY PySem.F.plainAttrs_list PySem.F.slot_list_append PySem.F.type_list_append tV (ho rfl) (ha rfl) hbase hfew hline hs rfl) fun σ H Q ⟨p,S,ρ,s,ev,h⟩=>?_
 refine bR s ev h fun q H1 k x S1 st s1 e1 r1 h1=>?_
 cases k with
 | pv v=>exact h1.elim
 | ref k =>
  refine ⟨afB s1 r1,bR s1 e1 h1 fun q2 H2 ys xs S2 st2 s2 e2 r2 h2=>?_⟩
  obtain ⟨a,ea,rfl⟩:=st2.repA r1
  unfold lX at h2
  split at h2
  ·rename_i y
   cases r2 with
   | cons r3 r4 =>
    cases r4
    rename_i x
    cases z:S2[k]? with
    | none=>rw [z] at h2; exact h2.elim
    | some o =>
     cases o with
     | lol xss=>simp only [z] at h2; exact h2.elim
     | lst zs =>
      simp only [z] at h2
      obtain ⟨vs,h3,l3,r4⟩:=s2.obj k a _ ea z
      split at h2
      ·rename_i hl
       rw [r4.length] at hl
       have hz:=fJ
       refine ⟨a,vs,x,rfl,rfl,h3,by omega,?_⟩
       obtain ⟨st3,sm3⟩:=s2.write ea (List.getElem?_eq_some_iff.mp z).1 (ps:=zs++[y]) (vs:=vs++[x]) (by rw [List.length_append,List.length_singleton]; omega) (r4.append (.cons r3 .nil))
       exact h2 _ _ .non st3 sm3 (by show Rep X.K q2.c (upd H2 a (.lst (vs++[x]))) .non .non; unfold Rep; rfl)
      ·exact h2.elim
  ·exact h2.elim
def aiu (k:Nat) (ys:List AV) (S:Sto):Res AV:=match ys with
 | [.pv (.int i)]=>if -9223372036854775808≤i∧i < 9223372036854775808 then (match S[k]? with
  | some (.lst xs)=>match seqIndex? i xs.length with
   | some j=>match xs[j]? with
    | some v=>.ok (.pv v) (S.set k (.lst (xs.eraseIdx j)))
    | none=>.fail
   | none=>.fail
  | _=>.fail) else .fail
 | _=>.fail
def wO (m:ME) (ms:MA):ME:=fun ρ S=>(m ρ S).bind fun k S1=>jR k fun k=>(ms ρ S1).bind fun ys S2=>aiu k ys S2
theorem ajw {apos cpos:Pos} (ho:PEp K cl E X a m) (ha:PAp K cl E X [e] ms) (hbase:attributeBase a "pop" X.env (eval a X.env)=eval a X.env:=by rfl)
  (hfew:((backTo cpos (starEach [e] X.env)).all (fun x=>!x.1) && (backToKw cpos (keywordEach [] X.env)).all (fun x=>x.1.isSome) && decide (([e]:List Expr).length+([]:List Keyword).length+(if ([]:List Keyword).isEmpty then 0 else 1) < 30))=true:=by rfl)
  (hline:(apos.endLine == cpos.line)=true:=by rfl) (hs:starEach [e] X.env=[(false,eval e X.env)]:=by rfl):PEp K cl E X (.Call (.Attribute a "pop" apos) [e] [] cpos) (wO m ms):=by
 intro hK
 subst hK
 refine PE.imp (vY PySem.F.plainAttrs_list PySem.F.slot_list_pop PySem.F.type_list_pop af4 (ho rfl) (ha rfl) hbase hfew hline hs rfl) fun σ H Q ⟨p,S,ρ,s,ev,h⟩=>?_
 refine bR s ev h fun q H1 k x S1 st s1 e1 r1 h1=>?_
 cases k with
 | pv v=>exact h1.elim
 | ref k =>
  refine ⟨afB s1 r1,bR s1 e1 h1 fun q2 H2 ys xs S2 st2 s2 e2 r2 h2=>?_⟩
  obtain ⟨a,ea,rfl⟩:=st2.repA r1
  unfold aiu at h2
  split at h2
  ·rename_i i
   cases r2 with
   | cons r3 r4 =>
    cases r4
    rename_i x
    have ex:x=.int i:=(show dX X.K q2 H2 (.int i) x from .inl r3).int
    subst ex
    split at h2
    ·rename_i hi
     cases z:S2[k]? with
     | none=>rw [z] at h2; exact h2.elim
     | some o =>
      cases o with
      | lol xss=>simp only [z] at h2; exact h2.elim
      | lst zs =>
       simp only [z] at h2
       obtain ⟨vs,h3,l3,r4⟩:=s2.obj k a _ ea z
       cases y:seqIndex? i zs.length with
       | none=>simp only [y] at h2; exact h2.elim
       | some j =>
        simp only [y] at h2
        cases yv:zs[j]? with
        | none=>simp only [yv] at h2; exact h2.elim
        | some v =>
         simp only [yv] at h2
         obtain ⟨u,eu,ru⟩:=r4.get yv
         refine ⟨a,vs,i,j,u,rfl,rfl,h3,hi.1,hi.2,by rw [← r4.length]; exact y,eu,?_⟩
         obtain ⟨st3,sm3⟩:=s2.write ea (List.getElem?_eq_some_iff.mp z).1 (ps:=zs.eraseIdx j) (vs:=vs.eraseIdx j) (Nat.le_trans (yY vs j) l3) (r4.eraseIdx j)
         exact h2 _ _ u st3 sm3 (st3.rep ru)
    ·exact h2.elim
  ·exact h2.elim
def vS (k:Nat) (i:AV) (v:AV) (S:Sto):Res Unit:=match i,v with
 | .pv (.int i),.pv v=>match S[k]? with
  | some (.lst xs)=>match ixN xs.length i with
   | some j=>.ok () (S.set k (.lst (xs.set j v)))
   | none=>.fail
  | _=>.fail
 | _,_=>.fail
def aew (mo mi mv:ME):MS:=fun ρ S=>cE.of (mv ρ S) fun v S1=>cE.of (mo ρ S1) fun k S2=>cE.of (mi ρ S2) fun i S3=>cE.of (jR k fun k=>vS k i v S3) fun _ S4=>.nx ρ S4
theorem afh {o i v:Expr} {mo mi mv:ME} {tpos:Pos} (hv:PEp K cl E X v mv) (ho:PEp K cl E X o mo) (hi:PEp K cl E X i mi)
  (ha:∀ v,assign (.Subscript o i tpos) X.env v=(do
   let ov ← holding [v] (eval o X.env)
   let iv ← holding [v,ov] (eval i X.env)
   standAt tpos
   holding [v,ov,iv] (setItem ov iv v)
   release [v,ov,iv] []):=by intro _; rfl)
  (hs:swapsWithSole [.Subscript o i tpos] v pos.line X.env=pure false:=by rfl) (hw:swappedStores [.Subscript o i tpos] v X.env=pure none:=by rfl)
  (h1:(assignEach [.Subscript o i tpos] X.env).map (·.2)=[assign (.Subscript o i tpos) X.env]:=by rfl):PSp K cl E X (.Assign [.Subscript o i tpos] v pos) (aew mo mi mv):=by
 intro hK
 subst hK
 refine PS.imp (agV (hv rfl) (ajG (ho rfl) (hi rfl) agx ha) hs hw h1) fun D σ H ⟨p,S,ρ,s,ev,h⟩=>?_
 refine jI s ev h fun q H1 v x S1 st s1 e1 r1 h1=>?_
 refine jI s1 e1 h1 fun q2 H2 k y S2 st2 s2 e2 r2 h2=>?_
 refine jI s2 e2 h2 fun q3 H3 i z S3 st3 s3 e3 r3 h3=>?_
 cases k with
 | pv _=>exact h3.elim
 | ref k =>
  obtain ⟨a,ea,rfl⟩:=st3.repA r2
  have rv:=st3.repA (st2.repA r1)
  have h3:dH X.K cl q3 H3 (cE.of (vS k i v S3) fun _ S4=>.nx ρ S4) D E:=h3
  unfold vS at h3
  split at h3
  ·rename_i ii vv _
   have ez:z=.int ii:=(show dX X.K q3 H3 (.int ii) z from .inl r3).int
   subst ez
   cases w:S3[k]? with
   | none=>rw [w] at h3; exact h3.elim
   | some o =>
    cases o with
    | lol xss=>simp only [w] at h3; exact h3.elim
    | lst zs =>
     simp only [w] at h3
     obtain ⟨vs,hh,ll,rr⟩:=s3.obj k a _ ea w
     cases y:ixN zs.length ii with
     | none=>simp only [y] at h3; exact h3.elim
     | some j =>
      simp only [y] at h3
      refine ⟨a,vs,ii,j,rfl,rfl,hh,by rw [← rr.length]; exact y,?_⟩
      obtain ⟨st4,sm4⟩:=s3.write ea (List.getElem?_eq_some_iff.mp w).1 (ps:=zs.set j vv) (vs:=vs.set j x) (by rw [List.length_set]; exact ll) (aU.set rv j rr)
      exact h3 _ _ _ st4 sm4 (st4.repE e3)
  ·exact h3.elim
def gF:List PV→List PV→List PV
 | x :: xs,y :: ys=>.tup [x,y] :: gF xs ys
 | _,_=>[]
theorem zE:∀ (xs ys:List PV),(gF xs ys).length=min xs.length ys.length
 | [],ys=>by cases ys <;> simp [gF]
 | x :: xs,[]=>by simp [gF]
 | x :: xs,y :: ys=>by
  unfold gF
  rw [List.length_cons,zE xs ys,List.length_cons,List.length_cons]
  omega
theorem adu:∀ {xs ys:List PV} {i:Nat} {v:PV},(gF xs ys)[i]?=some v→∃ x y,xs[i]?=some x∧ys[i]?=some y∧v=.tup [x,y]
 | [],ys,i,v,e=>by cases ys <;> simp [gF] at e
 | x :: xs,[],i,v,e=>by simp [gF] at e
 | x :: xs,y :: ys,0,v,e=>by
  unfold gF at e
  simp at e
  exact ⟨x,y,rfl,rfl,e.symm⟩
 | x :: xs,y :: ys,i+1,v,e=>by
  unfold gF at e
  obtain ⟨a,b,h1,h2,h3⟩:=adu (xs:=xs) (ys:=ys) (i:=i) (v:=v) (by simpa using e)
  exact ⟨a,b,by simpa using h1,by simpa using h2,h3⟩
def sG:List AV→Sto→Res (List PV × Gd)
 | [a,b],S=>match bW a S with
  | .ok xs _=>match bW b S with
   | .ok ys _=>.ok (gF xs.1 ys.1,xs.2++ys.2) S
   | _=>.fail
  | _=>.fail
 | _,_=>.fail
def nV (ms:MA):MI:=fun ρ S=>(ms ρ S).bind sG
theorem adf {a:AV} {x:V} {xs:List PV × Gd} {S':Sto} (s:Sim K p S H) (r:bX K p H a x) (e:bW a S=.ok xs S'):∃ f ad vs,x=.ref ad∧SqF f K H ad vs∧xs.1.length≤sizeLine∧∀ q H1 S1,bN p H q H1→Sim K q S1 H1→gOk xs.2 S1→∃ vs,SqF f K H1 ad vs∧aU K q.c H1 xs.1 vs:=by
 cases a with
 | ref j =>
  obtain ⟨a,e1,rfl⟩:=r
  unfold bW at e
  dsimp only at e
  cases z:S[j]? with
  | none=>rw [z] at e; cases e
  | some o =>
   cases o with
   | lol xss=>rw [z] at e; cases e
   | lst ys =>
    rw [z] at e
    cases e
    obtain ⟨vs,h1,l1,r1⟩:=s.obj j a _ e1 z
    refine ⟨false,a,vs,rfl,SqL.of h1,by rw [r1.length]; exact l1,fun q H1 S1 st sm g=>?_⟩
    obtain ⟨ws,h2,l2,r2⟩:=sm.obj j a _ (st.at_ e1) (g (j,ys) List.mem_cons_self)
    exact ⟨ws,SqL.of h2,r2⟩
 | pv v =>
  cases v with
  | lst ys =>
   cases e
   have r:Rep K p.c H (.lst ys) x:=r
   unfold Rep at r
   obtain ⟨a,vs,rfl,l,z,r⟩:=r
   exact ⟨false,a,vs,rfl,l.sq,by rw [r.length]; exact z,fun q H1 S1 st sm g=>⟨vs,(st.lat l).sq,st.reps r⟩⟩
  | tup ys =>
   cases e
   have r:Rep K p.c H (.tup ys) x:=r
   unfold Rep at r
   obtain ⟨a,vs,rfl,l,z,r⟩:=r
   exact ⟨true,a,vs,rfl,l,by rw [r.length]; exact z,fun q H1 S1 st sm g=>⟨vs,st.tup l,st.reps r⟩⟩
  | _=>cases e
theorem acG {elts:List Expr} {x1:Nat} {tp p:Pos} (hg:Gl X "zip") (hm:X.mg "zip"=none) (hl:PAp K cl E X [a,b] ms) (hs:starEach [a,b] X.env=[(false,eval a X.env),(false,eval b X.env)]:=by rfl) (hs2:starEach [b] X.env=[(false,eval b X.env)]:=by rfl) :
  PIp K cl E X (.Tuple elts x1 tp) (.Call (.Name "zip" p) [a,b] [] pos) (nV ms):=by
 intro hK
 subst hK
 refine PI.imp (akm hg hm (hl rfl) hs hs2) fun σ H R ⟨p,S,ρ,s,ev,h⟩=>?_
 refine bR s ev h fun q H' as xs S' stp sm ev r k=>?_
 unfold sG at k
 split at k
 ·rename_i u v
  cases r with
  | cons r1 r2 =>
   cases r2 with
   | cons r2 r3 =>
    cases r3
    split at k
    ·rename_i xs1 S1 hx
     split at k
     ·rename_i ys1 S2 hy
      obtain ⟨f1,a1,vs1,rfl,q1,z1,st1⟩:=adf sm r1 hx
      obtain ⟨f2,a2,vs2,rfl,q2,z2,st2⟩:=adf sm r2 hy
      refine ⟨f1,a1,f2,a2,vs1,vs2,rfl,q1,q2,bP.ret (R:=eC X.K) k sm ?_⟩
      refine ⟨by rw [zE]; omega,fun q3 H3 S3 st3 sm3 g3=>?_⟩
      obtain ⟨ws1,w1,rr1⟩:=st1 q3 H3 S3 st3 sm3 fun g hg=>g3 g (List.mem_append_left _ hg)
      obtain ⟨ws2,w2,rr2⟩:=st2 q3 H3 S3 st3 sm3 fun g hg=>g3 g (List.mem_append_right _ hg)
      refine ⟨fun i v e=>?_,?_⟩
      ·obtain ⟨x,y,ex,ey,rfl⟩:=adu e
       obtain ⟨x',ex',rx⟩:=rr1.get ex
       obtain ⟨y',ey',ry⟩:=rr2.get ey
       refine ⟨⟨ws1,ws2,x',y',w1,w2,ex',ey'⟩,fun z H4 hz=>?_⟩
       obtain ⟨t,x2,y2,ht,rfl,rfl,g1,g2⟩:=hz
       have e1:=(g1 ws1 w1).symm.trans ex'
       have e2:=(g2 ws2 w2).symm.trans ey'
       cases e1
       cases e2
       refine ⟨fK ht,kK sm3 (.cons rx (.cons ry .nil)) (by show 2≤sizeLine; decide) ht⟩
      ·refine ⟨ws1,ws2,w1,w2,?_⟩
       show (gF xs1.1 ys1.1).length=_∨_
       rw [zE,rr1.length,rr2.length]
       omega
     ·exact k.elim
    ·exact k.elim
 ·exact k.elim
def hJ:Nat→List PV→List PV
 | _,[]=>[]
 | n,x :: xs=>.tup [.int n,x] :: hJ (n+1) xs
theorem yO:∀ (n:Nat) (xs:List PV),(hJ n xs).length=xs.length
 | _,[]=>rfl
 | n,x :: xs=>by
  unfold hJ
  rw [List.length_cons,yO (n+1) xs,List.length_cons]
theorem abJ:∀ {n:Nat} {xs:List PV} {i:Nat} {v:PV},(hJ n xs)[i]?=some v→∃ x,xs[i]?=some x∧v=.tup [.int ((n+i:Nat):Int),x]
 | n,[],i,v,e=>by simp [hJ] at e
 | n,x :: xs,0,v,e=>by
  unfold hJ at e
  simp at e
  exact ⟨x,rfl,e.symm⟩
 | n,x :: xs,i+1,v,e=>by
  unfold hJ at e
  obtain ⟨y,h1,h2⟩:=abJ (n:=n+1) (xs:=xs) (i:=i) (v:=v) (by simpa using e)
  refine ⟨y,by simpa using h1,?_⟩
  rw [h2,show n+1+i=n+(i+1) by omega]
def afe:List AV→Sto→Res (List PV × Gd)
 | [.pv (.lst xs)],S=>.ok (hJ 0 xs,[]) S
 | [.ref k],S=>match bW (.ref k) S with
  | .ok xs _=>.ok (hJ 0 xs.1,xs.2) S
  | _=>.fail
 | _,_=>.fail
def aiS (ms:MA):MI:=fun ρ S=>(ms ρ S).bind afe
theorem ahn {xs:List PV} {G:Gd} {a:Addr} (z:xs.length≤sizeLine) (st1:∀ q H1 S1,bN p H q H1→Sim K q S1 H1→gOk G S1→∃ vs,SqL K H1 a vs∧aU K q.c H1 xs vs):eC K p H (hJ 0 xs,G) (Ite K a):=by
 refine ⟨by rw [yO]; exact z,fun q3 H3 S3 st3 sm3 g3=>?_⟩
 obtain ⟨ws1,w1,rr1⟩:=st1 q3 H3 S3 st3 sm3 g3
 refine ⟨fun i v e=>?_,?_⟩
 ·obtain ⟨x,ex,rfl⟩:=abJ e
  obtain ⟨x',ex',rx⟩:=rr1.get ex
  refine ⟨⟨ws1,x',w1,ex'⟩,fun z H4 hz=>?_⟩
  obtain ⟨t,y2,ht,rfl,rfl,g1⟩:=hz
  have e1:=(g1 ws1 w1).symm.trans ex'
  cases e1
  refine ⟨fK ht,kK sm3 (.cons ?_ (.cons rx .nil)) (by show 2≤sizeLine; decide) ht⟩
  rw [Nat.zero_add]
  exact fL (v:=.int _) rfl
 ·refine ⟨ws1,w1,?_⟩
  show _≤(hJ 0 xs).length
  rw [yO,rr1.length]
  exact Nat.le_refl _
theorem af0 {elts:List Expr} {x1:Nat} {tp p:Pos} (hg:Gl X "enumerate") (hm:X.mg "enumerate"=none) (hl:PAp K cl E X [l] ms) (hs:starEach [l] X.env=[(false,eval l X.env)]:=by rfl) :
  PIp K cl E X (.Tuple elts x1 tp) (.Call (.Name "enumerate" p) [l] [] pos) (aiS ms):=by
 intro hK
 subst hK
 refine PI.imp (ais hg hm (hl rfl) hs) fun σ H R ⟨p,S,ρ,s,ev,h⟩=>?_
 refine bR s ev h fun q H' as xs S' stp sm ev r k=>?_
 unfold afe at k
 split at k
 ·rename_i ys
  cases r with
  | cons r1 r2 =>
   cases r2
   rename_i x
   have r1:Rep X.K q.c H' (.lst ys) x:=r1
   unfold Rep at r1
   obtain ⟨a,vs,rfl,l,z,r⟩:=r1
   exact ⟨a,rfl,⟨vs,l.sq⟩,bP.ret (R:=eC X.K) k sm (ahn (by rw [r.length]; exact z) fun q H1 S1 st sm g=>⟨vs,(st.lat l).sq,st.reps r⟩)⟩
 ·rename_i j
  cases r with
  | cons r1 r2 =>
   cases r2
   split at k
   ·rename_i xs1 S1 hx
    obtain ⟨a,e1,rfl⟩:=r1
    cases z:S'[j]? with
    | none=>unfold bW at hx; simp only [z] at hx; cases hx
    | some o =>
     cases o with
     | lol xss=>unfold bW at hx; simp only [z] at hx; cases hx
     | lst ys =>
      unfold bW at hx
      simp only [z] at hx
      cases hx
      obtain ⟨vs,h1,l1,r1⟩:=sm.obj j a _ e1 z
      refine ⟨a,rfl,⟨vs,SqL.of h1⟩,bP.ret (R:=eC X.K) k sm (ahn (by rw [r1.length]; exact l1) fun q H1 S1 st sm g=>?_)⟩
      obtain ⟨ws,h2,l2,r2⟩:=sm.obj j a _ (st.at_ e1) (g (j,ys) List.mem_cons_self)
      exact ⟨ws,SqL.of h2,r2⟩
   ·exact k.elim
 ·exact k.elim
end
end L2.Pp
namespace L2.Pp
open PySem PySem.Spec PyProof.Rows Bn
theorem hu8 {A:Around} {k:Nat} (hr:cZ k A):A.units+8 < cLine:=by
 have:=hr.units
 omega
section
variable {K:PySem.W.Frag} {cl:Str→Addr} {E:XK} {X:Cx} {a b c e l tg:Expr} {es:List Expr} {m ma mb:ME} {ms:MA} {pos:Pos} {p q:Ph} {H H':Hp} {S:Sto}
def eI (n:String):PV→Option PV
 | .int _=>if n="int" then some (.bl true) else if n="bool" then some (.bl false) else none
 | .tup _=>if n="tuple" then some (.bl true) else none
 | .lst _=>if n="list" then some (.bl true) else none
 | .str _=>if n="str" then some (.bl true) else none
 | .bl _=>if n="bool" then some (.bl true) else none
 | _=>none
theorem rA (K:PySem.W.Frag) (n:String):PySem.W.kitOne K (.type n) (.type n)=some true:=by
 unfold PySem.W.kitOne
 rw [if_pos (beq_self_eq_true _)]
def alY (K:PySem.W.Frag) (n:String):V→Hp→VK→Prop:=fun x H Q=>(∃ t b,iI K H x t∧PySem.W.kitOne K t (.type n)=some b∧Q (.bl b) H)∨(n="tuple"∧∃ a xs,x=.ref a∧SqT K H a xs∧Q (.bl true) H)∨(n="list"∧∃ a xs,x=.ref a∧SqL K H a xs∧Q (.bl true) H)
theorem aeX (n:String):gA X (.builtin "isinstance") (fun xs H Q=>∃ x,xs=[x,.ty n]∧alY X.K n x H Q):=by
 intro pins s σ H xs us Q I r h
 obtain ⟨x,rfl,h⟩:=h
 obtain ⟨u,c,rfl,rx,rc⟩:=ahE r
 cases (show c=Value.type n from rc)
 rcases h with ⟨t,b,ty,e,q⟩ | ⟨rfl,a,xs,rfl,t,q⟩ | ⟨rfl,a,xs,rfl,t,q⟩
 ·exact aeR I rx ty e fun tk=>⟨.bl b,H,I.tok tk,rfl,q⟩
 ·cases rx
  obtain ⟨its,_,⟨o,h1,h2,_⟩,_⟩:=I.tuple t
  exact PySem.W.kia_one PySem.W.kitx_tuple I.kIn ⟨o,h1,h2⟩ (rA X.K "tuple") (fun z=>nomatch z) fun tk=>⟨.bl true,H,I.tok tk,rfl,q⟩
 ·cases rx
  obtain ⟨its,_,pl,_⟩:=I.list t
  obtain ⟨o,h1,h2,_⟩:=pl.isList
  exact PySem.W.kia_one PySem.W.kitx_list I.kIn ⟨o,h1,h2⟩ (rA X.K "list") (fun z=>nomatch z) fun tk=>⟨.bl true,H,I.tok tk,rfl,q⟩
theorem akY (n:String):UnS K (alY K n) (eI n):=fun {p S H a c x Q} s ra e k=>by
 have fin:∀ b,c=.bl b→Q (.bl b) H:=fun b h=>by
  subst h
  exact k H _ (cA.refl H) (by unfold Rep; rfl)
 cases a with
 | int i =>
  cases ra.int
  unfold eI at e
  dsimp only at e
  split at e
  ·rename_i hn
   cases e
   subst hn
   exact .inl ⟨_,true,.int i,rA K _,fin _ rfl⟩
  ·split at e
   ·rename_i hn
    cases e
    subst hn
    exact .inl ⟨_,false,.int i,ajk K,fin _ rfl⟩
   ·cases e
 | bl i =>
  cases ra.bl
  unfold eI at e
  dsimp only at e
  split at e
  ·rename_i hn
   cases e
   subst hn
   exact .inl ⟨_,true,.bl i,rA K _,fin _ rfl⟩
  ·cases e
 | str i =>
  cases ra.str
  unfold eI at e
  dsimp only at e
  split at e
  ·rename_i hn
   cases e
   subst hn
   exact .inl ⟨_,true,.str i,rA K _,fin _ rfl⟩
  ·cases e
 | tup xs =>
  obtain ⟨a,vs,rfl,t,_,_⟩:=ra.tup
  unfold eI at e
  dsimp only at e
  split at e
  ·rename_i hn
   cases e
   exact .inr (.inl ⟨hn,a,vs,rfl,t,fin _ rfl⟩)
  ·cases e
 | lst xs =>
  obtain ⟨a,vs,rfl,t,_,_⟩:=ra.lst
  unfold eI at e
  dsimp only at e
  split at e
  ·rename_i hn
   cases e
   exact .inr (.inr ⟨hn,a,vs,rfl,t,fin _ rfl⟩)
  ·cases e
 | non=>cases e
theorem lS {n:String} {t:Str} {p p2:Pos} (hg:Gl X "isinstance") (hm:X.mg "isinstance"=none) (hgt:Gl X t) (hmt:X.mg t=none) (hv:bootBuiltins t=some (.type n)) (ha:PEp K cl E X a m)
  (htn:t≠"__name__":=by decide) (htd:(t == ("__debug__":Str))=false:=by decide)
  (he:starEach [a,.Name t p2] X.env=(false,eval a X.env) :: starEach [.Name t p2] X.env:=by rfl) (he2:starEach [.Name t p2] X.env=[(false,eval (.Name t p2) X.env)]:=by rfl) (hpl:(backTo pos (starEach [.Name t p2] X.env)).any (·.1)=false:=by rfl) :
  PEp K cl E X (.Call (.Name "isinstance" p) [a,.Name t p2] [] pos) (mUn (eI n) m):=by
 intro hK
 subst hK
 refine PE.imp (adi (aeX n) hg hm PyProof.Rows.boot_isinstance (oW (ha rfl) (oW (ait hgt hmt hv (v:=.ty n) rfl htn htd) vA he2) he) (by decide) (by decide) he hpl) fun σ H Q ⟨p,S,ρ,s,ev,h⟩=>?_
 exact bR s ev h fun q H' as x S' stp sm ev r k=>⟨x,rfl,tR (akY n) sm r k⟩
def hU:PV→Option PV
 | .non=>some (.bl true)
 | _=>some (.bl false)
def vO (K:PySem.W.Frag):Sp:=fun vs H Q _=>∃ (a:Addr) (ns:List Int),vs=[.ref a]∧SqL K H a (ns.map V.int)∧ns.length≤63∧∀ H',Q (.bl true) H'
theorem aiI {f:FM} (ht:∀ ns:List Int,ns.length≤63→∃ S,f [.pv (.lst (ns.map .int))] []=.ok (.pv (.bl true)) S) {vs:List V} {H:Hp} {Q:VK} {E:XK} (h:vO K vs H Q E):cC K cl f vs H Q E:=by
 obtain ⟨a,ns,rfl,hS,hl,hQ⟩:=h
 obtain ⟨S,e⟩:=ht ns hl
 have rs:∀ (ns:List Int),aU K (fun _=>False) H (ns.map .int) (ns.map V.int):=fun ns=>by
  induction ns with
  | nil=>exact .nil
  | cons n ns ih=>exact .cons (by unfold Rep; rfl) ih
 refine ⟨⟨[],fun _=>False,fun _=>False⟩,[],[.pv (.lst (ns.map .int))],⟨List.nodup_nil,rfl,(fun _ h=>absurd h (List.not_mem_nil)),(fun _ h=>h),(fun _ h=>h.elim),(fun k a o e=>by simp at e)⟩,.cons ?_ .nil,?_⟩
 ·show Rep K (fun _=>False) H (.lst (ns.map .int)) (.ref a)
  unfold Rep
  refine ⟨a,_,rfl,?_,?_,rs ns⟩
  ·rcases hS with (h | h) | h
   ·exact .inl ⟨h,fun z=>z⟩
   ·exact .inr (.inl h)
   ·exact .inr (.inr h)
  ·rw [List.length_map,fJ]
   omega
 ·rw [e]
  intro q H' x st sm r
  have r:Rep K q.c H' (.bl true) x:=r
  unfold Rep at r
  rw [r]
  exact hQ H'
end
end L2.Pp
namespace L2.Pp
open PySem PySem.Spec PyProof.Rows Bn
section
variable {K:PySem.W.Frag} {cl:Str→Addr} {E:XK} {X:Cx} {e:Expr} {es:List Expr} {ms:MA} {p q:Ph} {H H':Hp} {S:Sto}
variable {k:Nat} {f:Addr} {fd:FuncData} {ps:List Str} {g:FM} {dvs:List V} {ds:List Value} {dv:List PV} {x:Str} {pp pos pos1 pos2 pos3 pc:Pos} {c n:Str} {i nn:Nat} {b₀:Stmt} {body:List Stmt} {newId:String} {up:Rho→Rho}
end
end L2.Pp
namespace L2
open PySem PySem.Spec PyProof.Rows Bn
section
variable {X:Cx} {k:Nat} {f:Addr} {fd:FuncData} {ps:List Str} {sp:Sp} {dvs:List V} {ds:List Value} {x:Str} {p pos pos1 pos2 pos3 pc:Pos} {e:Expr} {es:List Expr} {t:TA} {c n:Str} {C:Addr} {i:Nat} {b₀:Stmt} {body:List Stmt} {newId:String}
end
end L2
namespace L2.Pp
open PySem PySem.Spec PyProof.Rows Bn
section
variable {K:PySem.W.Frag} {cl:Str→Addr} {E:XK} {X:Cx} {e:Expr} {es:List Expr} {ms:MA} {p q:Ph} {H H':Hp} {S:Sto}
variable {k:Nat} {f:Addr} {fd:FuncData} {ps:List Str} {g:FM} {dvs:List V} {ds:List Value} {dv:List PV} {x:Str} {pp pos pos1 pos2 pos3 pc:Pos} {c n:Str} {i nn:Nat} {b₀:Stmt} {body:List Stmt} {newId:String} {up:Rho→Rho}
end
end L2.Pp
namespace L2.Pp
open PySem
section
variable {prog:Program} {w:World} {A:Around} {E:Value→Shared→Prop} {s:Shared}
end
end L2.Pp
namespace L2
open PySem PyProof.Rows
end L2
namespace L2.Pp
open PySem
end L2.Pp
namespace L2
open PySem PySem.Spec PyProof.Rows Bn
section
variable {X:Cx}
theorem aaO (is:List Int):∀ j,j≤is.length→preSum (fun i=>is.getD i 0) j=(is.take j).sum
 | 0,_=>by simp [preSum]
 | j+1,h=>by
  have hj:j < is.length:=h
  rw [preSum,aaO is j (by omega),List.take_add_one,List.getElem?_eq_getElem hj,Option.toList_some,List.sum_append,List.sum_singleton]
  simp only [List.getD,List.getElem?_eq_getElem hj,Option.getD_some]
theorem acj (hc:X.calm=true):gA X (.builtin "sum") (fun xs H Q=>∃ (a:Addr) (is:List Int),xs=[.ref a]∧SqL X.K H a (is.map V.int)∧Q (.int is.sum) H):=by
 intro pins s σ H xs us Q I r h
 obtain ⟨a,is,rfl,hq,q⟩:=h
 obtain ⟨u,rfl,ru⟩:=gZ r
 cases ru
 obtain ⟨its,rv,pl,hz⟩:=I.list hq
 have hl:is.length=its.length:=by
  have:=rv.length
  rwa [List.length_map] at this
 refine call_sum_walkG (wpAny_pyIter_list pl.isList ?_)
 have ha:a < s.heap.objs.size:=by
  obtain ⟨o,ho,_⟩:=pl.isList
  exact Heap.lt_size ho
 refine ⟨_,_,_,_,_,_,fun i=>is.getD i 0,rfl,Walks.list (prog:=X.prog) (w:=X.w) (A:=X.A.in1) (show X.A.in1.handled=none from I.ok.hd hc) s.heap.objs.size a (Nat.ne_of_lt ha) its.toArray,⟨⟨_,Heap.get?_push_size _ rfl,rfl,rfl⟩,Heap.IsList.at pl.isList fun o e=>Heap.get?_push_of_some _ e⟩,fun b hb=>?_,fun i v hv=>?_,fun h' tk t' kp=>?_⟩
 ·have hb':b=s.heap.objs.size∨b=a:=by simpa using hb
  rw [Heap.size_push]
  rcases hb' with e | e <;> rw [e]
  ·exact Nat.lt_succ_self _
  ·exact Nat.lt_succ_of_lt ha
 ·have hv':its[i]?=some v:=by simpa using hv
  have hi:i < is.length:=by
   have:=(List.getElem?_eq_some_iff.mp hv').1
   omega
  obtain ⟨u,hu,ru⟩:=rv.get (i:=i) (x:=.int is[i]) (by rw [List.getElem?_map,List.getElem?_eq_getElem hi]; rfl)
  rw [hv'] at hu
  cases hu
  obtain ⟨t,ht⟩:=(show ∃ t,v=Value.int is[i] t from ru)
  exact ⟨t,by rw [ht]; simp [List.getD,hi]⟩
 ·have e:preSum (fun i=>is.getD i 0) its.toArray.size=is.sum:=by
   rw [List.size_toArray,← hl,aaO is _ (Nat.le_refl _),List.take_length]
  show EP X pins σ Q (.int (preSum (fun i=>is.getD i 0) its.toArray.size) t') _
  rw [e]
  have I1:Inv X pins σ H { s with heap:=s.heap.push { cls:=.type "list_iterator",data:=.fields #[.ref a,.int 0 0] },toks:=s.toks }:=I.kept fun b o z=>Heap.get?_push_of_some _ z
  have fp:eK X pins H s.heap.objs.size:=I.fpOk (Nat.le_refl _) (I.hok.fresh (Nat.le_refl _))
  obtain ⟨f0,f1,f2,f3,f4,f5⟩:=fp
  exact ⟨.int is.sum,H,I1.turned (fun b o hb z=>kp b o (by simpa using hb) z) f0 f1 f3 f4 f5,⟨t',rfl⟩,q⟩
end
end L2
namespace L2.Pp
open PySem PySem.Spec PyProof.Rows Bn
section
variable {K:PySem.W.Frag} {cl:Str→Addr} {E:XK} {X:Cx}
def gL:List PV→Option (List Int)
 | []=>some []
 | .int b :: r=>match gL r with
  | some bs=>some (b :: bs)
  | none=>none
 | _ :: _=>none
theorem qT {c:Addr→Prop} {H:Hp}:∀ {xs:List PV} {bs:List Int} {vs:List V},gL xs=some bs→aU K c H xs vs→vs=bs.map V.int
 | [],bs,vs,e,r=>by
  cases e
  unfold aU at r
  exact r
 | .int b :: xs,bs,vs,e,r=>by
  unfold gL at e
  split at e
  ·rename_i cs h
   cases e
   unfold aU at r
   obtain ⟨v,w,rfl,r1,r2⟩:=r
   unfold Rep at r1
   rw [r1,qT h r2]
   rfl
  ·cases e
 | .non :: _,_,_,e,_=>by cases e
 | .bl _ :: _,_,_,e,_=>by cases e
 | .str _ :: _,_,_,e,_=>by cases e
 | .tup _ :: _,_,_,e,_=>by cases e
 | .lst _ :: _,_,_,e,_=>by cases e
def qA:List PV→Option PV
 | [.lst xs]=>(gL xs).map fun bs=>.int bs.sum
 | _=>none
theorem akB:CaR K (fun xs H Q=>∃ (a:Addr) (is:List Int),xs=[.ref a]∧SqL K H a (is.map V.int)∧Q (.int is.sum) H) qA:=fun {p S H as c xs Q} s ra e k=>by
 unfold qA at e
 split at e
 ·rename_i zs
  cases y:gL zs with
  | none=>rw [y] at e; cases e
  | some bs =>
   rw [y] at e
   cases e
   cases ra with
   | cons h t =>
    cases t
    obtain ⟨a,vs,rfl,l,z,r⟩:=h.lst
    rw [qT y r] at l
    exact ⟨a,bs,rfl,l,k H _ (cA.refl H) (fL (v:=.int _) rfl)⟩
 ·cases e
end
end L2.Pp
namespace L2.Pp
open PySem PySem.Spec PyProof.Rows Bn
section
variable {K:PySem.W.Frag} {cl:Str→Addr} {E:XK} {X:Cx} {p q:Ph} {H H':Hp} {S:Sto}
variable {sc:Scope} {own:List Str} {cap:List (Nat × Str)} {elt target iter:Expr} {pos:Pos} {mi:MI} {g:GM} {me:ME}
end
section
variable {K:PySem.W.Frag} {cl:Str→Addr} {E:XK} {X:Cx} {e:Expr} {m:ME} {pos p2:Pos}
end
end L2.Pp
namespace L2.Pp
open PySem PySem.Spec PyProof.Rows Bn
section
variable {K:PySem.W.Frag} {cl:Str→Addr} {E:XK} {X:Cx}
theorem zF (i:Int):∀ is:List Int,inV (.int i) (is.map V.int)=is.any (· == i)
 | []=>rfl
 | j :: is=>by
  have ih:=zF i is
  unfold inV at ih ⊢
  rw [List.map_cons,List.any_cons,List.any_cons,ih]
  rfl
theorem yV:∀ is:List Int,(is.map V.int).all kU=true
 | []=>rfl
 | j :: is=>by
  rw [List.map_cons,List.all_cons,yV is]
  rfl
def inB (neg:Bool) (i:Int) (is:List Int):Bool:=if neg then !(is.any (· == i)) else is.any (· == i)
def fIn (neg:Bool):PV→PV→Option PV
 | .int i,.lst xs=>(gL xs).map fun is=>.bl (inB neg i is)
 | .int i,.tup xs=>(gL xs).map fun is=>.bl (inB neg i is)
 | _,_=>none
theorem amv (neg:Bool):OpS K (rIn K neg) (fIn neg):=fun {p S H a b c x y Q} s ra rb e k=>by
 cases a with
 | int i =>
  cases b with
  | lst xs =>
   have e:((gL xs).map fun is=>PV.bl (inB neg i is))=some c:=e
   cases z:gL xs with
   | none=>rw [z] at e; cases e
   | some is =>
    rw [z] at e
    cases e
    obtain ⟨a1,vs,rfl,l1,z1,r1⟩:=rb.lst
    rw [qT z r1] at l1
    have hx:=ra.int
    subst hx
    refine ⟨a1,is.map V.int,rfl,.inl l1,rfl,yV is,?_⟩
    rw [zF]
    exact k H _ (cA.refl H) (fL (v:=.bl _) rfl)
  | tup xs =>
   have e:((gL xs).map fun is=>PV.bl (inB neg i is))=some c:=e
   cases z:gL xs with
   | none=>rw [z] at e; cases e
   | some is =>
    rw [z] at e
    cases e
    obtain ⟨a1,vs,rfl,l1,z1,r1⟩:=rb.tup
    rw [qT z r1] at l1
    have hx:=ra.int
    subst hx
    refine ⟨a1,is.map V.int,rfl,.inr l1,rfl,yV is,?_⟩
    rw [zF]
    exact k H _ (cA.refl H) (fL (v:=.bl _) rfl)
  | _=>cases e
 | _=>cases e
end
end L2.Pp
namespace L2
open PySem PySem.Spec PyProof.Rows Bn
open PySem.W (KasT kas_sort kas_ask KatLex KatGo KatTups kat_run kat_kind kat_lt kat_one kas_item kat_snds)
def kZ {α:Type} (lt:Nat→Nat→Bool):KasT α→α
 | .ret a=>a
 | .ask i j k=>kZ lt (k (lt i j))
def gI {α:Type} (n:Nat):KasT α→Bool
 | .ret _=>true
 | .ask i j k=>decide (i < n) && decide (j < n) && gI n (k true) && gI n (k false)
theorem adk {α:Type} {cmp:Nat→Nat→(Bool→Shared→Prop)→Shared→Prop} {lt:Nat→Nat→Bool} {n:Nat} {s:Shared} (hc:∀ i j (C:Bool→Shared→Prop),i < n→j < n→C (lt i j) s→cmp i j C s):∀ (t:KasT α) (Q:α→Shared→Prop),gI n t=true→Q (kZ lt t) s→t.kasWp cmp Q s
 | .ret a,Q,_,h=>h
 | .ask i j k,Q,ok,h=>by
  unfold gI at ok
  simp only [Bool.and_eq_true,decide_eq_true_eq] at ok
  obtain ⟨⟨⟨hi,hj⟩,h1⟩,h2⟩:=ok
  refine hc i j _ hi hj (adk hc (k (lt i j)) Q ?_ h)
  cases lt i j
  ·exact h2
  ·exact h1
def pU (h:Heap) (v:Value) (us:List Int):Prop:=∃ a o its n,v=.ref a∧h.get? a=some o∧o.cls=.type "tuple"∧o.data=.seq (List.toArray its) n∧bG (us.map V.int) its
section
variable {prog:Program} {w:World} {A:Around} {E:Value→Shared→Prop} {s:Shared}
theorem aei {Q:Bool→Shared→Prop}:∀ (us vs:List Int) (its jts:List Value) (i:Nat) (fin:Bool),bG (us.map V.int) its→bG (vs.map V.int) jts→fin=decide (us.length < vs.length)→Q (HT.lexLt us vs) s→KatLex prog w A true fin Q (its.zip jts) i s
 | [],vs,its,jts,i,fin,h1,h2,hf,hQ=>by
  cases h1
  cases vs with
  | nil =>
   subst hf
   exact PySem.W.kat_nil hQ
  | cons v vs =>
   have e:fin=true:=by rw [hf]; simp
   subst e
   exact PySem.W.kat_nil hQ
 | u :: us,[],its,jts,i,fin,h1,h2,hf,hQ=>by
  cases h2
  have e:fin=false:=by rw [hf]; simp
  subst e
  rw [List.zip_nil_right]
  exact PySem.W.kat_nil hQ
 | u :: us,v :: vs,its,jts,i,fin,h1,h2,hf,hQ=>by
  cases h1 with
  | cons r1 t1 =>
   cases h2 with
   | cons r2 t2 =>
    obtain ⟨k1,rfl⟩:=r1
    obtain ⟨k2,rfl⟩:=r2
    rw [List.zip_cons_cons]
    refine PySem.W.kat_cons (wpAny_eqBool_int ?_)
    rw [HT.lexLt_cons] at hQ
    by_cases e:u=v
    ·rw [if_pos e] at hQ
     have b:(u == v)=true:=by simpa using e
     rw [b]
     exact PySem.W.kat_yes (aei us vs _ _ (i+1) fin t1 t2 (by rw [hf]; simp) hQ)
    ·rw [if_neg e] at hQ
     have b:(u == v)=false:=by simpa using e
     rw [b]
     refine PySem.W.kat_no ?_
     by_cases hi:i=0
     ·subst hi
      exact oneLt_int hQ
     ·have b2:(true && i == 0)=false:=by simpa using hi
      rw [b2]
      exact kat_one _ _ (PySem.P.lt_int hQ)
theorem ai1 {x y:Value} {us vs:List Int} {Q:Bool→Shared→Prop} (hx:pU s.heap x us) (hy:pU s.heap y vs) (h:Q (HT.lexLt us vs) s):wpAny (model prog w) A (keyLt' (tuples' true) x y) Q E s:=by
 obtain ⟨a,o,its,n,rfl,ho,hc,hd,r⟩:=hx
 obtain ⟨b,o2,jts,k,rfl,ho2,hc2,hd2,r2⟩:=hy
 refine kat_lt ho hd ho2 hd2 ?_
 have l1:=r.length
 have l2:=r2.length
 rw [List.length_map] at l1 l2
 refine aei us vs its jts 0 _ r r2 ?_ h
 rw [List.size_toArray,List.size_toArray,l1,l2]
theorem abo:∀ (vs:List Value) (uss:List (List Int)),vs.length=uss.length→(∀ i,i < vs.length→pU s.heap (vs.getD i Value.none) (uss.getD i [])∧uss.getD i []≠[])→∃ fs,KatTups s.heap vs fs∧fs.length=vs.length∧∀ v∈fs,∃ i t,v=.int i t
 | [],uss,_,_=>⟨[],trivial,rfl,fun _ h=>absurd h List.not_mem_nil⟩
 | v :: vs,[],hl,_=>by cases hl
 | v :: vs,us :: uss,hl,h=>by
  obtain ⟨fs,k,l,q⟩:=abo vs uss (by simpa using hl) fun i hi=>by
   have:=h (i+1) (by simp; omega)
   simpa using this
  obtain ⟨⟨a,o,its,n,e,ho,hc,hd,r⟩,ne⟩:=h 0 (by simp)
  have e:v=.ref a:=e
  subst e
  cases us with
  | nil=>exact absurd rfl ne
  | cons u us =>
   have r:bG (V.int u :: us.map V.int) its:=r
   cases r with
   | cons r1 t1 =>
    obtain ⟨t,rfl⟩:=r1
    refine ⟨.int u t :: fs,KatTups.cons ho hc hd (by simp) k,by simp [l],fun x hx=>?_⟩
    rcases List.mem_cons.mp hx with rfl | hx
    ·exact ⟨u,t,rfl⟩
    ·exact q x hx
def cS (uss:List (List Int)):List Nat:=(kZ (fun i j=>HT.lexLt (uss.getD i []) (uss.getD j [])) (kas_sort uss.length)).toList
theorem abz {a:Addr} {vs:List Value} {uss:List (List Int)} {n:Nat} {P:PySem.Fin→Shared→Prop} (ho:s.heap.get? a=some (seqObj "list" vs.toArray n)) (hl:vs.length=uss.length) (h2:2≤vs.length) (h64:vs.length < 64) (ok:gI uss.length (kas_sort uss.length)=true)
  (tu:∀ i,i < vs.length→pU s.heap (vs.getD i Value.none) (uss.getD i [])∧uss.getD i []≠[])
  (h:P (.done (.ret .none)) { s with heap:=sortedHeap s.heap a vs (List.toArray ((cS uss).map fun i=>vs.getD i Value.none)) }) :
  wpAny (model prog w) A (Builtin.«list.sort» ⟨[.ref a],[]⟩) P E s:=by
 have ha:a < s.heap.objs.size:=Heap.lt_size ho
 obtain ⟨e1,ho1⟩:∃ e1,(s.heap.update a (Obj.mapSeq fun _=>(#[]:Array Value))).get? a=some (seqObj "list" #[] e1):=⟨_,get?_update_seq ho fun _=>#[]⟩
 have kp:∀ b o,b≠a→s.heap.get? b=some o→(((s.heap.update a (Obj.mapSeq fun _=>(#[]:Array Value))).push (seqObj "tuple" vs.toArray 0)).push (seqObj "list" #[] 0)).get? b=some o:=fun b o hb e =>
  Heap.get?_push_of_some _ (Heap.get?_push_of_some _ ((Heap.get?_update_ne _ _ _ _ hb).trans e))
 have tu2:∀ i,i < vs.length→pU (((s.heap.update a (Obj.mapSeq fun _=>(#[]:Array Value))).push (seqObj "tuple" vs.toArray 0)).push (seqObj "list" #[] 0)) (vs.getD i Value.none) (uss.getD i [])∧uss.getD i []≠[]:=fun i hi=>by
  obtain ⟨⟨b,o,its,m,e,hb,hc,hd,r⟩,ne⟩:=tu i hi
  refine ⟨⟨b,o,its,m,e,kp b o (fun z=>?_) hb,hc,hd,r⟩,ne⟩
  subst z
  rw [ho] at hb
  cases hb
  have hc:Value.type "list"=Value.type "tuple":=hc
  injection hc with hc
  exact absurd hc (by decide)
 have na:(((s.heap.update a (Obj.mapSeq fun _=>(#[]:Array Value))).push (seqObj "tuple" vs.toArray 0)).push (seqObj "list" #[] 0)).get? a=some (seqObj "list" #[] e1):=Heap.get?_push_of_some _ (Heap.get?_push_of_some _ ho1)
 rw [list_sort_plain]
 refine wpAny_bind (listItems_at ho rfl ?_)
 refine wpAny_bind (listUpdate_at ho rfl ?_ (by rw [List.size_toArray,sizeLine_eq]; omega) (Nat.zero_le _))
 refine wpAny_bind (seqEpoch_at ho1 rfl ?_)
 refine wpAny_bind (wpAny_newTuple ?_ (by show vs.length≤_; rw [sizeLine_eq]; omega))
 refine wpAny_bind (wpAny_newList ?_ (Nat.zero_le _))
 refine wpAny_holding ?_
 show wpAny (model prog w) A _ P E { s with heap:=((s.heap.update a (Obj.mapSeq fun _=>(#[]:Array Value))).push (seqObj "tuple" vs.toArray 0)).push (seqObj "list" #[] 0) }
 dsimp only
 have hn2:¬ vs.toArray.size < 2:=by rw [List.size_toArray]; omega
 rw [if_neg hn2,if_neg hn2]
 obtain ⟨fs,kt,lf,qf⟩:=abo (s:={ s with heap:=((s.heap.update a (Obj.mapSeq fun _=>(#[]:Array Value))).push (seqObj "tuple" vs.toArray 0)).push (seqObj "list" #[] 0) }) vs uss hl tu2
 refine wpAny_bind (kat_kind (T:=.type "int") kt (by omega) (fun v hv=>?_) rfl ?_)
 ·obtain ⟨i,t,rfl⟩:=qf v hv
  exact .now
 have bt:(Value.type "int" != Value.type "tuple")=true:=by decide
 rw [bt]
 refine wpAny_bind (wpAny_mono (kat_run (Q:=fun st' s'=>∃ p:Array Nat,p.size=vs.length∧arrOf st'=p.map (kas_item (vs.toArray.zip vs.toArray))∧failedOf st'=none∧p.toList=cS uss∧s'={ s with heap:=((s.heap.update a (Obj.mapSeq fun _=>(#[]:Array Value))).push (seqObj "tuple" vs.toArray 0)).push (seqObj "list" #[] 0) })
  (G:=fun p s'=>p.toList=cS uss∧s'={ s with heap:=((s.heap.update a (Obj.mapSeq fun _=>(#[]:Array Value))).push (seqObj "tuple" vs.toArray 0)).push (seqObj "list" #[] 0) })
  rfl h2 h64 (fun p' st' s' a1 a2 a3 a4=>⟨p',a1,a2,a3,a4⟩) ?_) ?_ fun _ _ e=>e)
 ·rw [hl]
  refine adk (lt:=fun i j=>HT.lexLt (uss.getD i []) (uss.getD j [])) (n:=uss.length) (fun i j C hi hj hC=>?_) _ _ ok ⟨rfl,rfl⟩
  exact ai1 (tu2 i (by omega)).1 (tu2 j (by omega)).1 hC
 rintro ⟨⟨⟩,st'⟩ s' ⟨p,hp,har,hf,hpl,rfl⟩
 dsimp only
 have hout:=kat_snds rfl har
 have hsz:(List.toArray (p.toList.map fun i=>vs.getD i Value.none)).size=vs.length:=by rw [List.size_toArray,List.length_map,Array.length_toList,hp]
 rw [hout]
 refine wpAny_bind (seqEpoch_at na rfl ?_)
 refine wpAny_bind (listUpdate_at na rfl ?_ (Nat.zero_le _) (Nat.le_trans (Nat.le_of_eq hsz) (by rw [sizeLine_eq]; omega)))
 rw [hf]
 simp only [bne_self_eq_false,Bool.false_eq_true,if_false]
 refine wpAny_pure ?_
 rw [hpl]
 exact h
theorem adH {l:Addr} {o:Obj} {T:String} {vs:List Value} {uss:List (List Int)} {n:Nat} {Q:Value→Shared→Prop} (hT:T="list"∨T="tuple") (ho:s.heap.get? l=some o) (hc:o.cls=.type T) (hd:o.data=.seq vs.toArray n) (hl:vs.length=uss.length) (h2:2≤vs.length) (h64:vs.length < 64) (ok:gI uss.length (kas_sort uss.length)=true)
  (tu:∀ i,i < vs.length→pU s.heap (vs.getD i Value.none) (uss.getD i [])∧uss.getD i []≠[])
  (h:∀ (h1 h':Heap) (c:Nat),(∀ b o',s.heap.get? b=some o'→h1.get? b=some o')→(∀ b o',h1.get? b=some o'→h'.get? b=some o')→h'.get? h1.objs.size=some (seqObj "list" (List.toArray ((cS uss).map fun i=>vs.getD i Value.none)) c)→Q (.ref h1.objs.size) { s with heap:=h' }) :
  wpAny (model prog w) A (call (.builtin "sorted") [.ref l]) Q E s:=by
 refine PySem.Calls.call_function_entry kind_sorted plain_sorted entry_sorted (args_sorted1 _) ?_
 unfold Builtin.«sorted»
 refine wpAny_bind (m:=checkCount "sorted" 1 1 _) (wpAny_pure ?_)
 refine wpAny_bind (wpAny_collect_seq l hT ho hc hd (fun h1 k1=>?_) (by rw [List.size_toArray,sizeLine_eq]; omega))
 refine wpAny_bind (wpAny_newList ?_ (by rw [sizeLine_eq]; simp; omega))
 have hoL:(h1.push (seqObj "list" vs.toArray 0)).get? h1.objs.size=some (seqObj "list" vs.toArray 0):=Heap.get?_push_size _ rfl
 show wpAny _ _ _ _ _ { s with heap:=h1.push (seqObj "list" vs.toArray 0) }
 refine wpAny_bind (wpAny_holding (wpAny_call_entry slot_list_sort ⟨_,hoL,rfl⟩ entry_list_sort ?body (args_list_sort _)))
 case body =>
  refine abz (s:={ s with heap:=h1.push (seqObj "list" vs.toArray 0) }) hoL hl h2 h64 ok (fun i hi=>?_) ⟨_,rfl,wpAny_pure ⟨_,rfl,?_⟩⟩
  ·obtain ⟨⟨b,o,its,m,e,hb,hc,hd,r⟩,ne⟩:=tu i hi
   exact ⟨⟨b,o,its,m,e,Heap.get?_push_of_some _ (k1 b o hb),hc,hd,r⟩,ne⟩
  ·obtain ⟨e1,ho1⟩:∃ e1,((h1.push (seqObj "list" vs.toArray 0)).update h1.objs.size (Obj.mapSeq fun _=>(#[]:Array Value))).get? h1.objs.size=some (seqObj "list" #[] e1):=⟨_,get?_update_seq hoL fun _=>#[]⟩
   have ho2:=Heap.get?_push_of_some (seqObj "list" #[] 0) (Heap.get?_push_of_some (seqObj "tuple" vs.toArray 0) ho1)
   obtain ⟨e2,ho3⟩:∃ e2,(sortedHeap (h1.push (seqObj "list" vs.toArray 0)) h1.objs.size vs (List.toArray ((cS uss).map fun i=>vs.getD i Value.none))).get? h1.objs.size=some (seqObj "list" (List.toArray ((cS uss).map fun i=>vs.getD i Value.none)) e2):=⟨_,get?_update_seq ho2 fun _=>List.toArray ((cS uss).map fun i=>vs.getD i Value.none)⟩
   refine h h1 _ e2 k1 (fun b o' hb1=>?_) ho3
   have hne:b≠h1.objs.size:=Nat.ne_of_lt (Heap.lt_size hb1)
   exact (Heap.get?_update_ne _ _ _ _ hne).trans (Heap.get?_push_of_some _ (Heap.get?_push_of_some _ ((Heap.get?_update_ne _ _ _ _ hne).trans (Heap.get?_push_of_some _ hb1))))
end
def aig (K:PySem.W.Frag) (H:Hp) (ts:List V) (uss:List (List Int)):Prop:=ts.length=uss.length∧∀ i t,ts[i]?=some t→∃ a,t=.ref a∧SqT K H a ((uss.getD i []).map V.int)∧uss.getD i []≠[]
theorem abw {X:Cx}:gA X (.builtin "sorted") (fun xs H Q=>∃ (a:Addr) (ts:List V) (uss:List (List Int)),xs=[.ref a]∧(SqL X.K H a ts∨SqT X.K H a ts)∧aig X.K H ts uss∧2≤ts.length∧ts.length < 64∧gI uss.length (kas_sort uss.length)=true∧(cS uss).length≤64 ∧
  ∀ l,H l=none→Q (.ref l) (upd H l (.lst ((cS uss).map fun i=>ts.getD i .non)))):=by
 intro pins s σ H xs us Q I r h
 obtain ⟨a,ts,uss,rfl,hq,⟨hl,ht⟩,h2,h64,ok,hpl,q⟩:=h
 obtain ⟨u,rfl,ru⟩:=gZ r
 cases ru
 have go:∀ (its:List Value) (T:String) (o:Obj) (n:Nat),bG ts its→(T="list"∨T="tuple")→s.heap.get? a=some o→o.cls=.type T→o.data=.seq its.toArray n→ts.length≤sizeLine →
   wpAny (model X.prog X.w) X.A (call (.builtin "sorted") [.ref a]) (EP X pins σ Q) X.xe s:=fun its T o n rv hT ho hc hd hz=>by
  have hlen:=rv.length
  refine adH (uss:=uss) hT ho hc hd (by omega) (by omega) (by omega) ok (fun i hi=>?_) fun h1 h' c k1 k2 e=>?_
  ·have hi':i < ts.length:=by omega
   obtain ⟨b,e1,sq,ne⟩:=ht i ts[i] (List.getElem?_eq_getElem hi')
   obtain ⟨v,e2,rel⟩:=rv.get (List.getElem?_eq_getElem hi')
   rw [e1] at rel
   cases rel
   obtain ⟨jts,rj,⟨o2,ho2,hc2,m,hd2⟩,_⟩:=I.tuple sq
   refine ⟨⟨b,o2,jts,m,?_,ho2,hc2,hd2,rj⟩,ne⟩
   rw [List.getD,e2]
   rfl
  ·have I1:Inv X pins σ H { s with heap:=h1,toks:=s.toks }:=I.kept k1
   have hz2:((cS uss).map fun i=>ts.getD i .non).length≤sizeLine:=by
    rw [List.length_map,sizeLine_eq]
    omega
   have rel:∀ ps:List Nat,bG (ps.map fun i=>ts.getD i .non) (ps.map fun i=>its.getD i Value.none):=fun ps=>by
    induction ps with
    | nil=>exact .nil
    | cons i ps ih =>
     refine .cons ?_ ih
     by_cases hi:i < ts.length
     ·obtain ⟨v,e2,rr⟩:=rv.get (List.getElem?_eq_getElem hi)
      have q1:ts.getD i .non=ts[i]:=by simp [List.getD,hi]
      have q2:its.getD i Value.none=v:=by simp [List.getD,e2]
      show bK (ts.getD i .non) (its.getD i Value.none)
      rw [q1,q2]
      exact rr
     ·have q1:ts.getD i .non=.non:=by simp [List.getD,hi]
      have q2:its.getD i Value.none=Value.none:=by simp [List.getD,show its.length≤i by omega]
      show bK (ts.getD i .non) (its.getD i Value.none)
      rw [q1,q2]
      rfl
   refine ⟨.ref h1.objs.size,_,I1.laid (t':=s.toks) (o:=.lst ((cS uss).map fun i=>ts.getD i .non)) k2 (Nat.le_refl _) ?_,rfl,q _ (I1.hok.fresh (Nat.le_refl _))⟩
   exact ⟨hz2,_,c,rel _,e⟩
 rcases hq with hq | hq
 ·obtain ⟨its,rv,pl,hz⟩:=I.list hq
  obtain ⟨o,ho,hc,n,hd⟩:=pl.isList
  exact go its "list" o n rv (.inl rfl) ho hc hd hz
 ·obtain ⟨its,rv,⟨o,ho,hc,n,hd⟩,hz⟩:=I.tuple hq
  exact go its "tuple" o n rv (.inr rfl) ho hc hd hz
end L2
namespace L2.Pp
open PySem PySem.Spec PyProof.Rows Bn
open PySem.W (kas_sort)
section
variable {K:PySem.W.Frag}
def lR:List PV→Option (List (List Int))
 | []=>some []
 | .tup us :: r=>match gL us,lR r with
  | some is,some uss=>some (is :: uss)
  | _,_=>none
 | _ :: _=>none
theorem acY:∀ {xs:List PV} {uss:List (List Int)},lR xs=some uss→xs.length=uss.length
 | [],uss,e=>by cases e; rfl
 | .tup us :: r,uss,e=>by
  unfold lR at e
  split at e
  ·rename_i is uss' h1 h2
   cases e
   rw [List.length_cons,List.length_cons,acY h2]
  ·cases e
 | .non :: _,_,e=>by cases e
 | .bl _ :: _,_,e=>by cases e
 | .int _ :: _,_,e=>by cases e
 | .str _ :: _,_,e=>by cases e
 | .lst _ :: _,_,e=>by cases e
theorem aeW {c:Addr→Prop} {H:Hp}:∀ {xs:List PV} {uss:List (List Int)} {vs:List V},lR xs=some uss→aU K c H xs vs→∀ i t,vs[i]?=some t→∃ a,t=.ref a∧SqT K H a ((uss.getD i []).map V.int)
 | [],uss,vs,e,r,i,t,h=>by
  unfold aU at r
  subst r
  simp at h
 | .tup us :: r,uss,vs,e,rr,i,t,h=>by
  unfold lR at e
  split at e
  ·rename_i is uss' h1 h2
   cases e
   unfold aU at rr
   obtain ⟨v,w,rfl,r1,r2⟩:=rr
   cases i with
   | zero =>
    cases h
    unfold Rep at r1
    obtain ⟨a,ws,rfl,sq,_,r3⟩:=r1
    rw [qT h1 r3] at sq
    exact ⟨a,rfl,sq⟩
   | succ i =>
    have:=aeW h2 r2 i t (by simpa using h)
    simpa using this
  ·cases e
 | .non :: _,_,_,e,_,_,_,_=>by cases e
 | .bl _ :: _,_,_,e,_,_,_,_=>by cases e
 | .int _ :: _,_,_,e,_,_,_,_=>by cases e
 | .str _ :: _,_,_,e,_,_,_,_=>by cases e
 | .lst _ :: _,_,_,e,_,_,_,_=>by cases e
def aiC (uss:List (List Int)):Prop:=2≤uss.length∧uss.length < 64∧gI uss.length (kas_sort uss.length)=true∧(cS uss).length≤64∧∀ us∈uss,us≠[]
def ahz (xs:List PV) (uss:List (List Int)):List PV:=(cS uss).map fun i=>xs.getD i .non
open Classical in
noncomputable def pS (xs:List PV):Option PV:=match lR xs with
 | some uss=>if aiC uss then some (.lst (ahz xs uss)) else none
 | none=>none
noncomputable def rG:List PV→Option PV
 | [.lst xs]=>pS xs
 | [.tup xs]=>pS xs
 | _=>none
theorem ab3 {c:Addr→Prop} {H:Hp} {xs:List PV} {vs:List V} (r:aU K c H xs vs):∀ ps:List Nat,aU K c H (ps.map fun i=>xs.getD i .non) (ps.map fun i=>vs.getD i .non)
 | []=>.nil
 | i :: ps=>by
  refine .cons ?_ (ab3 r ps)
  by_cases hi:i < xs.length
  ·obtain ⟨v,e1,e2⟩:=r.get (List.getElem?_eq_getElem hi)
   have q1:xs.getD i .non=xs[i]:=by simp [List.getD,hi]
   have q2:vs.getD i .non=v:=by simp [List.getD,e1]
   show Rep K c H (xs.getD i .non) (vs.getD i .non)
   rw [q1,q2]
   exact e2
  ·have hl:=r.length
   have q1:xs.getD i .non=.non:=by simp [List.getD,hi]
   have q2:vs.getD i .non=.non:=by simp [List.getD,show vs.length≤i by omega]
   show Rep K c H (xs.getD i .non) (vs.getD i .non)
   rw [q1,q2]
   unfold Rep
   rfl
theorem ag7:CaR K (fun xs H Q=>∃ (a:Addr) (ts:List V) (uss:List (List Int)),xs=[.ref a]∧(SqL K H a ts∨SqT K H a ts)∧aig K H ts uss∧2≤ts.length∧ts.length < 64∧gI uss.length (kas_sort uss.length)=true∧(cS uss).length≤64 ∧
  ∀ l,H l=none→Q (.ref l) (upd H l (.lst ((cS uss).map fun i=>ts.getD i .non)))) rG:=fun {p S H as c xs Q} s ra e k=>by
 have key:∀ (zs:List PV) (a:Addr) (vs:List V),pS zs=some c→(SqL K H a vs∨SqT K H a vs)→aU K p.c H zs vs→∃ (a':Addr) (ts:List V) (uss:List (List Int)),[V.ref a]=[.ref a']∧(SqL K H a' ts∨SqT K H a' ts)∧aig K H ts uss∧2≤ts.length∧ts.length < 64∧gI uss.length (kas_sort uss.length)=true∧(cS uss).length≤64 ∧
   ∀ l,H l=none→Q (.ref l) (upd H l (.lst ((cS uss).map fun i=>ts.getD i .non))):=fun zs a vs e sq r=>by
  unfold pS at e
  split at e
  ·rename_i uss hu
   split at e
   ·rename_i hc
    cases e
    obtain ⟨c1,c2,c3,c4,c5⟩:=hc
    have l1:=acY hu
    have l2:=r.length
    refine ⟨a,vs,uss,rfl,sq,⟨by omega,fun i t h=>?_⟩,by omega,by omega,c3,c4,fun l hl=>?_⟩
    ·obtain ⟨b,e1,e2⟩:=aeW hu r i t h
     have hi:i < uss.length:=by
      have:=(List.getElem?_eq_some_iff.mp h).1
      omega
     refine ⟨b,e1,e2,?_⟩
     rw [List.getD,List.getElem?_eq_getElem hi]
     exact c5 _ (List.getElem_mem hi)
    ·refine k _ _ (fK hl) (mZ s (ab3 r _) ?_ hl)
     rw [List.length_map,fJ]
     omega
   ·cases e
  ·cases e
 unfold rG at e
 split at e
 ·rename_i zs
  cases ra with
  | cons h t =>
   cases t
   obtain ⟨a,vs,rfl,l,z,r⟩:=h.lst
   exact key zs a vs e (.inl l) r
 ·rename_i zs
  cases ra with
  | cons h t =>
   cases t
   obtain ⟨a,vs,rfl,l,z,r⟩:=h.tup
   exact key zs a vs e (.inr l) r
 ·cases e
end
end L2.Pp
namespace L2
open PySem.W (KasT kas_sort)
theorem abn {α:Type} {lt lt':Nat→Nat→Bool} {n:Nat} (h:∀ i j,i < n→j < n→lt i j=lt' i j):∀ t:KasT α,gI n t=true→kZ lt t=kZ lt' t
 | .ret a,_=>rfl
 | .ask i j k,ok=>by
  unfold gI at ok
  simp only [Bool.and_eq_true,decide_eq_true_eq] at ok
  obtain ⟨⟨⟨hi,hj⟩,h1⟩,h2⟩:=ok
  show kZ lt (k (lt i j))=kZ lt' (k (lt' i j))
  rw [← h i j hi hj]
  refine abn h (k (lt i j)) ?_
  cases lt i j
  ·exact h2
  ·exact h1
theorem jV:∀ u:List Int,HT.lexLt u u=false
 | []=>rfl
 | x :: u=>by rw [HT.lexLt_cons,if_pos rfl,jV u]
theorem acP:∀ u v:List Int,u=v∨HT.lexLt u v=true∨HT.lexLt v u=true
 | [],[]=>.inl rfl
 | [],_ :: _=>.inr (.inl rfl)
 | _ :: _,[]=>.inr (.inr rfl)
 | x :: u,y :: v=>by
  rw [HT.lexLt_cons,HT.lexLt_cons]
  by_cases h:x=y
  ·subst h
   rw [if_pos rfl,if_pos rfl]
   rcases acP u v with h | h | h
   ·exact .inl (by rw [h])
   ·exact .inr (.inl h)
   ·exact .inr (.inr h)
  ·rw [if_neg h,if_neg (fun z=>h z.symm)]
   by_cases q:x < y
   ·exact .inr (.inl (by simpa using q))
   ·exact .inr (.inr (by simp; omega))
theorem uA:∀ u v w:List Int,HT.lexLt u v=true→HT.lexLt v w=true→HT.lexLt u w=true
 | [],[],_,h,_=>by cases h
 | [],_ :: _,[],_,h=>by cases h
 | [],_ :: _,_ :: _,_,_=>rfl
 | _ :: _,[],_,h,_=>by cases h
 | _ :: _,_ :: _,[],_,h=>by cases h
 | x :: u,y :: v,z :: w,h1,h2=>by
  rw [HT.lexLt_cons] at h1 h2 ⊢
  by_cases e1:x=y
  ·subst e1
   rw [if_pos rfl] at h1
   by_cases e2:x=z
   ·rw [if_pos e2] at h2 ⊢
    exact uA u v w h1 h2
   ·rw [if_neg e2] at h2 ⊢
    exact h2
  ·rw [if_neg e1] at h1
   have h1:x < y:=by simpa using h1
   by_cases e2:y=z
   ·subst e2
    rw [if_neg e1]
    simpa using h1
   ·rw [if_neg e2] at h2
    have h2:y < z:=by simpa using h2
    rw [if_neg (by omega)]
    simp
    omega
theorem agK {u v:List Int} (h:HT.lexLt u v=true):HT.lexLt v u=false:=by
 cases q:HT.lexLt v u with
 | false=>rfl
 | true =>
  have:=uA u v u h q
  rw [jV] at this
  cases this
theorem agt {u v:List Int} (h:HT.lexLt u v=false) (g:HT.lexLt v u=false):u=v:=by
 rcases acP u v with e | e | e
 ·exact e
 ·rw [h] at e; cases e
 ·rw [g] at e; cases e
def r3 (a b c d e f:Bool):Bool:=(!(a && b) || c) && (!(d && e) || f)
def okT (b:Nat→Nat→Bool) (n:Nat):Bool:=(List.range n).all fun i=>!(b i i) && (List.range n).all fun j=>!(b i j && b j i) && (List.range n).all fun k=>(!(b i j && b j k) || b i k) && (b i j || b j k || !(b i k))
def vR (b:Nat→Nat→Bool) (n:Nat) (ps:List (List Nat)):Bool:=let p:=(kZ b (kas_sort n)).toList
 ps.contains p && (List.range n).all fun i=>(List.range n).all fun j=>!(decide (i < j)) || !(b (p.getD j 0) (p.getD i 0))
def rO:List (List Nat):=[[0,1,2],[0,2,1],[1,0,2],[1,2,0],[2,0,1],[2,1,0]]
def rL:List (List Nat):=[[0,1,2,3],[0,1,3,2],[0,2,1,3],[0,2,3,1],[0,3,1,2],[0,3,2,1],[1,0,2,3],[1,0,3,2],[1,2,0,3],[1,2,3,0],[1,3,0,2],[1,3,2,0],
 [2,0,1,3],[2,0,3,1],[2,1,0,3],[2,1,3,0],[2,3,0,1],[2,3,1,0],[3,0,1,2],[3,0,2,1],[3,1,0,2],[3,1,2,0],[3,2,0,1],[3,2,1,0]]
def mt3 (b01 b02 b10 b12 b20 b21:Bool) (i j:Nat):Bool:=match i,j with
 | 0,1=>b01 | 0,2=>b02 | 1,0=>b10 | 1,2=>b12 | 2,0=>b20 | 2,1=>b21 | _,_=>false
def mt4 (b01 b02 b03 b10 b12 b13 b20 b21 b23 b30 b31 b32:Bool) (i j:Nat):Bool:=match i,j with
 | 0,1=>b01 | 0,2=>b02 | 0,3=>b03 | 1,0=>b10 | 1,2=>b12 | 1,3=>b13 | 2,0=>b20 | 2,1=>b21 | 2,3=>b23 | 3,0=>b30 | 3,1=>b31 | 3,2=>b32 | _,_=>false
theorem akD:gI 3 (kas_sort 3)=true:=by decide +kernel
theorem akb:gI 4 (kas_sort 4)=true:=by decide +kernel
theorem amf:∀ b01 b02 b10 b12 b20 b21:Bool,okT (mt3 b01 b02 b10 b12 b20 b21) 3=true→vR (mt3 b01 b02 b10 b12 b20 b21) 3 rO=true:=by decide +kernel
theorem aml:∀ b01 b02 b03 b10 b12 b13 b20 b21 b23 b30 b31 b32:Bool,okT (mt4 b01 b02 b03 b10 b12 b13 b20 b21 b23 b30 b31 b32) 4=true→vR (mt4 b01 b02 b03 b10 b12 b13 b20 b21 b23 b30 b31 b32) 4 rL=true:=by decide +kernel
theorem agZ {b:Nat→Nat→Bool} {n:Nat} {uss:List (List Int)} (h:∀ i j,i < n→j < n→b i j=HT.lexLt (uss.getD i []) (uss.getD j [])):okT b n=true:=by
 unfold okT
 simp only [List.all_eq_true,List.mem_range,Bool.and_eq_true,Bool.not_eq_true',Bool.or_eq_true,Bool.and_eq_false_imp]
 intro i hi
 refine ⟨by rw [h i i hi hi,jV],fun j hj=>⟨fun q=>?_,fun k hk=>⟨?_,?_⟩⟩⟩
 ·rw [h i j hi hj] at q
  rw [h j i hj hi,agK q]
 ·rw [h i j hi hj,h j k hj hk,h i k hi hk]
  cases q1:HT.lexLt (uss.getD i []) (uss.getD j []) with
  | false=>exact .inl fun z=>by cases z
  | true =>
   cases q2:HT.lexLt (uss.getD j []) (uss.getD k []) with
   | false=>exact .inl fun _=>rfl
   | true=>exact .inr (uA _ _ _ q1 q2)
 ·rw [h i j hi hj,h j k hj hk,h i k hi hk]
  cases q1:HT.lexLt (uss.getD i []) (uss.getD j []) with
  | true=>exact .inl (.inl rfl)
  | false =>
   cases q2:HT.lexLt (uss.getD j []) (uss.getD k []) with
   | true=>exact .inl (.inr rfl)
   | false =>
    refine .inr ?_
    cases q3:HT.lexLt (uss.getD i []) (uss.getD k []) with
    | false=>rfl
    | true =>
     rcases acP (uss.getD i []) (uss.getD j []) with e | e | e
     ·rw [e] at q3; rw [q2] at q3; cases q3
     ·rw [q1] at e; cases e
     ·have:=uA _ _ _ e q3
      rw [q2] at this
      cases this
end L2
namespace L2
open PySem.W (KasT kas_sort)
def cN (uss:List (List Int)):List (List Int):=(cS uss).map fun i=>uss.getD i []
def leU (u v:List Int):Prop:=HT.lexLt v u=false
theorem ab4 {uss:List (List Int)} {n:Nat} {ps:List (List Nat)} (hl:uss.length=n) (ok:gI n (kas_sort n)=true) {b:Nat→Nat→Bool} (hb:∀ i j,i < n→j < n→b i j=HT.lexLt (uss.getD i []) (uss.getD j [])) (good:vR b n ps=true) (hp:∀ p∈ps,p.Perm (List.range n)) :
  cS uss∈ps∧(cS uss).Perm (List.range n)∧(cN uss).Pairwise leU:=by
 have e:cS uss=(kZ b (kas_sort n)).toList:=by
  unfold cS
  rw [hl]
  exact congrArg Array.toList (abn (n:=n) (fun i j hi hj=>(hb i j hi hj).symm) _ ok)
 unfold vR at good
 simp only [Bool.and_eq_true,List.all_eq_true,List.mem_range] at good
 rw [← e] at good
 obtain ⟨g1,g2⟩:=good
 have m:cS uss∈ps:=by simpa using g1
 have pm:=hp _ m
 refine ⟨m,pm,?_⟩
 have ln:(cS uss).length=n:=by rw [pm.length_eq,List.length_range]
 unfold cN
 rw [List.pairwise_iff_getElem]
 intro i j hi hj hij
 rw [List.length_map] at hi hj
 have q:=g2 i (by omega) j (by omega)
 have pi:(cS uss).getD i 0=(cS uss)[i]:=by simp [List.getD,hi]
 have pj:(cS uss).getD j 0=(cS uss)[j]:=by simp [List.getD,hj]
 rw [pi,pj] at q
 have li:(cS uss)[i] < n:=by
  have:=pm.subset (List.getElem_mem hi)
  simpa using this
 have lj:(cS uss)[j] < n:=by
  have:=pm.subset (List.getElem_mem hj)
  simpa using this
 rw [hb _ _ lj li] at q
 simp only [List.getElem_map]
 unfold leU
 have d:decide (i < j)=true:=by simpa using hij
 rw [d] at q
 simpa using q
theorem agS:∀ p∈rO,p.Perm (List.range 3):=by decide
theorem agu:∀ p∈rL,p.Perm (List.range 4):=by decide
theorem acL {uss:List (List Int)} (h:uss.length=3):cS uss∈rO∧(cS uss).Perm (List.range 3)∧(cN uss).Pairwise leU:=by
 match uss,h with
 | [u0,u1,u2],_ =>
  have hb:∀ i j,i < 3→j < 3→mt3 (HT.lexLt u0 u1) (HT.lexLt u0 u2) (HT.lexLt u1 u0) (HT.lexLt u1 u2) (HT.lexLt u2 u0) (HT.lexLt u2 u1) i j=HT.lexLt (([u0,u1,u2]:List (List Int)).getD i []) (([u0,u1,u2]:List (List Int)).getD j []):=fun i j hi hj=>by
   match i,j,hi,hj with
   | 0,0,_,_=>exact (jV u0).symm
   | 0,1,_,_=>rfl
   | 0,2,_,_=>rfl
   | 1,0,_,_=>rfl
   | 1,1,_,_=>exact (jV u1).symm
   | 1,2,_,_=>rfl
   | 2,0,_,_=>rfl
   | 2,1,_,_=>rfl
   | 2,2,_,_=>exact (jV u2).symm
  exact ab4 rfl akD hb (amf _ _ _ _ _ _ (agZ hb)) agS
theorem acN {uss:List (List Int)} (h:uss.length=4):cS uss∈rL∧(cS uss).Perm (List.range 4)∧(cN uss).Pairwise leU:=by
 match uss,h with
 | [u0,u1,u2,u3],_ =>
  have hb:∀ i j,i < 4→j < 4→mt4 (HT.lexLt u0 u1) (HT.lexLt u0 u2) (HT.lexLt u0 u3) (HT.lexLt u1 u0) (HT.lexLt u1 u2) (HT.lexLt u1 u3) (HT.lexLt u2 u0) (HT.lexLt u2 u1) (HT.lexLt u2 u3) (HT.lexLt u3 u0) (HT.lexLt u3 u1) (HT.lexLt u3 u2) i j=HT.lexLt (([u0,u1,u2,u3]:List (List Int)).getD i []) (([u0,u1,u2,u3]:List (List Int)).getD j []):=fun i j hi hj=>by
   match i,j,hi,hj with
   | 0,0,_,_=>exact (jV u0).symm
   | 0,1,_,_=>rfl
   | 0,2,_,_=>rfl
   | 0,3,_,_=>rfl
   | 1,0,_,_=>rfl
   | 1,1,_,_=>exact (jV u1).symm
   | 1,2,_,_=>rfl
   | 1,3,_,_=>rfl
   | 2,0,_,_=>rfl
   | 2,1,_,_=>rfl
   | 2,2,_,_=>exact (jV u2).symm
   | 2,3,_,_=>rfl
   | 3,0,_,_=>rfl
   | 3,1,_,_=>rfl
   | 3,2,_,_=>rfl
   | 3,3,_,_=>exact (jV u3).symm
  exact ab4 rfl akb hb (aml _ _ _ _ _ _ _ _ _ _ _ _ (agZ hb)) agu
theorem lH {uss:List (List Int)} (h:uss.length=3∨uss.length=4):(cN uss).Perm uss∧(cN uss).Pairwise leU:=by
 have key:∀ n,uss.length=n→(cS uss).Perm (List.range n)→(cN uss).Perm uss:=fun n hn hp=>by
  have e:(List.range n).map (fun i=>uss.getD i [])=uss:=by
   refine List.ext_getElem (by simp [hn]) fun i h1 h2=>?_
   have hi:i < uss.length:=h2
   simp [List.getD,hi]
  have:=hp.map (fun i=>uss.getD i [])
  rw [e] at this
  exact this
 rcases h with h | h
 ·obtain ⟨_,hp,hs⟩:=acL h
  exact ⟨key 3 h hp,hs⟩
 ·obtain ⟨_,hp,hs⟩:=acN h
  exact ⟨key 4 h hp,hs⟩
theorem abI {A B:List (List Int)} (hp:A.Perm B) (ha:A.Pairwise leU) (hb:B.Pairwise leU):A=B :=
 hp.eq_of_pairwise (fun u v _ _ h g=>agt g h) ha hb
theorem abH {A B:List (List Int)} (hp:A.Perm B) (h:B.length=3∨B.length=4):cN A=cN B:=by
 obtain ⟨p1,s1⟩:=lH (uss:=A) (by rw [hp.length_eq]; exact h)
 obtain ⟨p2,s2⟩:=lH h
 exact abI (p1.trans (hp.trans p2.symm)) s1 s2
end L2
namespace L2
open PySem PySem.Spec PyProof.Rows Bn
end L2
namespace L2
open PySem PySem.Spec PyProof.Rows Bn
section
variable {M:Model} {A:Around} {E:Value→Shared→Prop} {s:Shared}
end
end L2
namespace L2
open PySem PySem.Spec PyProof.Rows Bn
section
variable {X:Cx} {sc:Scope} {own:List Str} {cap:List (Nat × Str)} {pins:List (Addr × Obj)} {σ:St} {H:Hp} {s:Shared} {elt target iter:Expr} {pos pos':Pos} {wi:TI} {g:TG} {te:TE} {Q:VK}
end
end L2
namespace L2.Pp
open PySem PySem.Spec PyProof.Rows Bn
section
variable {K:PySem.W.Frag} {cl:Str→Addr} {E:XK} {X:Cx} {p q:Ph} {H H':Hp} {S:Sto}
variable {sc:Scope} {own:List Str} {cap:List (Nat × Str)} {elt target iter:Expr} {pos:Pos} {mi:MI} {g:GM} {me:ME}
end
end L2.Pp
namespace L2.Pp
open PySem PySem.Spec PyProof.Rows Bn
section
variable {K:PySem.W.Frag} {cl:Str→Addr} {E:XK} {X:Cx} {a e:Expr} {m:ME} {ms:MA} {pos:Pos} {p q:Ph} {H H':Hp} {S:Sto}
end
section
variable {P:Program} {w:World} {K:PySem.W.Frag} {mg:Str→Option Value} {base:Heap} {cl:Str→Addr}
end
end L2.Pp
namespace L2.Pp
open PySem PySem.Spec PyProof.Rows Bn
def vL (v:AV) (S:Sto):Res Bool:=match rd S v with
 | some (.lst xs)=>.ok (!xs.isEmpty) S
 | some (.tup xs)=>.ok (!xs.isEmpty) S
 | some (.int i)=>.ok (i != 0) S
 | some (.bl b)=>.ok b S
 | _=>.fail
def wF (m:ME):MT:=fun ρ S=>(m ρ S).bind vL
theorem abc {K:PySem.W.Frag} {c:Addr→Prop} {H:Hp} {xs:List PV} {vs:List V} (r:aU K c H xs vs):vs.isEmpty=xs.isEmpty:=by
 have:=r.length
 cases xs <;> cases vs <;> simp_all
theorem ah2 {K:PySem.W.Frag} {cl:Str→Addr} {E:XK} {X:Cx} {a:Expr} {ma:ME} (ha:PEp K cl E X a ma) (he:∀ whole,isTrue a X.env whole=(do let v ← whole; standAt a.pos; holding [v] (truthy v)):=by intro _; rfl):PTp K cl E X a (wF ma):=by
 intro hK
 subst hK
 refine (agF (ha rfl) he).imp fun σ H Q ⟨p,S,ρ,s,e,h⟩=>?_
 refine bR s e h fun q H1 a x S1 st s1 e1 r1 h1=>?_
 unfold vL at h1
 cases z:rd S1 a with
 | none=>rw [z] at h1; exact h1.elim
 | some v =>
  rw [z] at h1
  have rr:=nI s1 r1 z
  cases v with
  | lst xs =>
   obtain ⟨b,vs,rfl,l,_,r⟩:=rr.lst
   exact ⟨_,.inl ⟨vs,l,by rw [abc r]⟩,bP.ret (R:=RB) h1 s1 rfl⟩
  | tup xs =>
   obtain ⟨b,vs,rfl,l,_,r⟩:=rr.tup
   exact ⟨_,.inr (.inl ⟨vs,l,by rw [abc r]⟩),bP.ret (R:=RB) h1 s1 rfl⟩
  | int i =>
   cases rr.int
   exact ⟨_,rfl,bP.ret (R:=RB) h1 s1 rfl⟩
  | bl i =>
   cases rr.bl
   exact ⟨_,rfl,bP.ret (R:=RB) h1 s1 rfl⟩
  | _=>exact h1.elim
end L2.Pp
namespace L2.Pp
open PySem PySem.Spec PyProof.Rows Bn
def Cal (P:Program) (w:World) (K:PySem.W.Frag) (mg:Str→Option Value) (base:Heap) (cl:Str→Addr) (x:Str) (k:Nat) (ps:List Str) (g:FM):Prop:=∃ (a:Addr) (d:FuncData),bF P w K mg base CX0 k a d ps (cC K cl g)∧eY K d ps []∧PySem.W.keepIn K (.ref a)=true∧mg x=some (.ref a)
section
variable {cl:Str→Addr} {E:XK} {X:Cx} {e:Expr} {es:List Expr} {ms:MA} {pos p:Pos} {k k0:Nat} {ps:List Str} {g:FM} {x:Str}
theorem bJ (C:Cal X.prog X.w X.K X.mg X.base cl x k ps g) (hr:cZ k0 X.A) (hk:k≤k0) (hg:Gl X x) (ha:PAp X.K cl E X (e :: es) ms) (hdb:(x == ("__debug__":Str))=false:=by decide) (he:starEach (e :: es) X.env=(false,eval e X.env) :: starEach es X.env:=by rfl) (hpl:(backTo pos (starEach es X.env)).any (·.1)=false:=by rfl) :
  PEp X.K cl E X (.Call (.Name x p) (e :: es) [] pos) (aY g [] ms):=by
 obtain ⟨a,d,G,b,kk,n⟩:=C
 exact afT G (hr.mono hk) hg n kk b .nil Dv.nil ha hdb he hpl
theorem akM (C:Cal X.prog X.w X.K X.mg X.base cl x k ps g) (hr:cZ k0 X.A) (hk:k≤k0) (hg:Gl X x) (ha:PAp X.K cl E X (e :: es) ms) (hdb:(x == ("__debug__":Str))=false:=by decide) (he:starEach (e :: es) X.env=(false,eval e X.env) :: starEach es X.env:=by rfl) (hpl:(backTo pos (starEach es X.env)).any (·.1)=false:=by rfl) :
  PEp X.K cl E X (.Call (.Name x p) (e :: es) [] pos) (vI g [] ms):=by
 obtain ⟨a,d,G,b,kk,n⟩:=C
 exact agA G (hr.mono hk) hg n kk b .nil Dv.nil ha hdb he hpl
end
end L2.Pp
namespace L2.Pp
open PySem PySem.Spec PyProof.Rows Bn
section
variable {X:Cx}
end
section
variable {K:PySem.W.Frag} {cl:Str→Addr} {E:XK} {X:Cx} {e:Expr} {m:ME} {pos:Pos}
end
end L2.Pp
namespace L2.Pp
open PySem PySem.Spec PyProof.Rows Bn
section
variable {K:PySem.W.Frag} {cl:Str→Addr} {E:XK} {X:Cx}
variable {a e:Expr} {m:ME} {ms:MA} {pos:Pos}
end
end L2.Pp
namespace L2.Pp
open PySem PySem.Spec PyProof.Rows Bn
section
variable {K:PySem.W.Frag} {cl:Str→Addr} {E:XK} {X:Cx}
end
end L2.Pp
namespace L2.Pp
open PySem PySem.Spec PyProof.Rows Bn
section
variable {K:PySem.W.Frag} {cl:Str→Addr} {E:XK} {X:Cx}
def GlT (K:PySem.W.Frag) (mg:Str→Option Value) (x:Str) (pv:PV):Prop:=∃ (u:Value) (v:V),mg x=some u∧bK v u∧∀ c H,Rep K c H pv v
theorem kM {x:Str} {pv:PV} {pos:Pos} (hg:Gl X x) (hm:GlT K X.mg x pv) (hd:(x == ("__debug__":Str))=false:=by decide):PEp K cl E X (.Name x pos) (mC pv):=fun _=>by
 obtain ⟨u,v,hm,r,hr⟩:=hm
 exact (aiP hg hm r hd).imp fun σ H Q ⟨p,S,ρ,s,e,h⟩=>bP.ret (R:=bX K) (x:=v) h s (hr p.c H)
theorem aiM {i:Int}:∀ c H,Rep K c H (.int i) (.int i):=fun c H=>by
 unfold Rep
 rfl
end
end L2.Pp
namespace L2.Pp
open PySem PySem.Spec PyProof.Rows Bn
section
variable {K:PySem.W.Frag} {cl:Str→Addr} {E:XK} {X:Cx}
end
end L2.Pp
namespace L2.Pp
open PySem PySem.Spec PyProof.Rows Bn
section
variable {K:PySem.W.Frag} {cl:Str→Addr} {E:XK} {X:Cx}
variable {a e:Expr} {m:ME} {ms:MA} {pos:Pos}
end
end L2.Pp
namespace L2.Pp
open PySem PySem.Spec PyProof.Rows Bn
section
variable {M:Model} {A:Around} {E:Value→Shared→Prop} {s:Shared} {env:Env}
def zP (M:Model) (A:Around) (E:Value→Shared→Prop) (Q:Value→Shared→Prop) (acc:Value) (c:Env):Result→Shared→Prop
 | .ok _,s'=>∃ m,s'.heap.Ns c.locals m∧∀ h',Heap.SameBut c.locals s'.heap h'→Q acc { s' with heap:=h' }
 | .error x,s'=>∃ m,s'.heap.Ns c.locals m∧∀ h',Heap.SameBut c.locals s'.heap h'→wpAny M A (PySem.passOn "comprehension.variables-let-go" x c:Sem Value) (fun _ _=>False) E { s' with heap:=h' }
theorem ago {e:Expr} {sc:Scope} {pos:Pos} {newAcc first:Sem Value} {g:Comprehension} {gs:List Comprehension} {cl:List (Str × Addr)} {Q:Value→Shared→Prop}
  (hc:clausesOf e=g :: gs) (hs:∀ x,foldedSetIterable g.iter env x=pure x) (hcl:closureFor sc env=pure cl) (hk:sc.kind=.function) (hn:∀ x∈sc.names,x.2=.local→sc.names.lookup x.1=some .local)
  (h:wpAny M A first (fun x s1=>wpAny M A (pyIter x) (fun it s2=>wpAny M A newAcc (fun acc s3=>wpAny M A (newFunctionEnv sc env.globals cl [] env.qual none .none (some env)) (fun c s4 =>
    codeAny M A (.compStart e 0 it acc { c with scope:=relabel sc env }) (zP M A E Q acc { c with scope:=relabel sc env }) s4) E s3) E s2) E s1) E s) :
  wpAny M A (comprehension e sc env pos newAcc false first none) Q E s:=by
 unfold comprehension
 rw [hcl,hc]
 refine wpAny_bind (thn h fun x s1 h1=>wpAny_bind (wpAny_standAt (wpAny_bind (wpAny_of_eq (hs x) (wpAny_bind (wpAny_holding (thn h1 fun it s2 h2=>?_)))))))
 refine wpAny_standIf (wpAny_bind (thn h2 fun acc s3 h3=>wpAny_bind (wpAny_pure (wpAny_bind (thn h3 fun c s4 h4=>?_)))))
 dsimp only
 have loc:∀ x∈(sc.names.filter fun x=>(x.2 == .local || x.2 == .cell) && x.1 != (".0":Str)).reverse,x.2=.local→Env.kindOf { c with scope:=relabel sc env } x.1=some .local:=fun x hx hl =>
  lookup_relabel_local (hn x (List.mem_filter.mp (List.mem_reverse.mp hx)).1 hl)
 refine wpAny_holding (wpAny_bind (wpAny_attempt (wpAny_holding (wpAny_run (codeAny_mono h4 fun r s' hr=>?_)))))
 cases r with
 | ok f =>
  obtain ⟨m,hm,hr⟩:=hr
  exact wpAny_bind (wpAny_holding (wpAny_comp_letGo (cenv:={ c with scope:=relabel sc env }) hk _ s' m loc hm fun h' _ _ sb=>wpAny_pure (hr h' sb)))
 | error x =>
  obtain ⟨m,hm,hr⟩:=hr
  exact wpAny_bind (wpAny_holding (wpAny_comp_letGo (cenv:={ c with scope:=relabel sc env }) hk _ s' m loc hm fun h' _ _ sb=>wpAny_mono (hr h' sb) (fun _ _ z=>z.elim) fun _ _ y=>y))
end
section
variable {prog:Program} {w:World} {A:Around} {R:Result→Shared→Prop} {s:Shared}
theorem ae1 {elt target iter:Expr} {sc:Scope} {pos:Pos} {it acc:Value} {env:Env} (I:Nat→Shared→Prop)
  (turn:∀ n s,I n s→wpAny (model prog w) A (pyNext it) (fun r s1=>match r with
   | none=>R (.ok .next) s1
   | some v=>wpAny (model prog w) A (letOwnedTupleGo target it v) (fun _ s2=>wpAny (model prog w) A (assign target env v) (fun _ s3=>wpAny (model prog w) A (eval elt env)
     (fun x s4=>wpAny (model prog w) A (call (.builtin "list.append") [acc,x]) (fun _ s5=>∃ m,m < n∧I m s5) (fun _ _=>False) s4) (notedBy (model prog w) A env fun x s'=>R (.error x) s') s3) (fun _ _=>False) s2) (fun _ _=>False) s1) (fun _ _=>False) s)
  (n:Nat) (h:I n s):codeAny (model prog w) A (.compLoop (.ListComp elt [⟨target,iter,[],0⟩] sc pos) 0 it acc env) R s:=by
 refine codeAny_loop rfl I (fun n s hI=>?_) n h
 show wpAny _ _ ((compTurn (.ListComp elt [⟨target,iter,[],0⟩] sc pos) 0 it acc env).onRaise (fun x=>do noteFrame x env; theTreesLotGoes x)) _ _ s
 refine wpAny_noted ?_
 rw [compTurn_list1]
 refine wpAny_bind (wpAny_standAt (wpAny_bind ?_))
 refine wpAny_mono (turn n s hI) (fun r s1 h1=>?_) fun _ _ z=>z.elim
 cases r with
 | none=>exact wpAny_pure h1
 | some v =>
  refine wpAny_bind (wpAny_mono h1 (fun _ s2 h2=>?_) fun _ _ z=>z.elim)
  refine wpAny_bind (wpAny_mono h2 (fun _ s3 h3=>?_) fun _ _ z=>z.elim)
  refine wpAny_bind (wpAny_bind (wpAny_mono h3 (fun x s4 h4=>?_) fun _ _ z=>z))
  refine wpAny_bind (wpAny_mono h4 (fun _ s5 h5=>?_) fun _ _ z=>z.elim)
  exact wpAny_pure (wpAny_pure ⟨rfl,h5⟩)
end
def jO (B:Heap) (C:Addr):Heap:={ B with objs:=B.objs.setIfInBounds C ⟨.none,none,.freed,#[]⟩ }
theorem aaX {B:Heap} {C:Addr}:(jO B C).get? C=none:=by
 unfold jO Heap.get?
 dsimp only
 by_cases h:C < B.objs.size
 ·rw [Array.getElem?_setIfInBounds_self_of_lt h]
 ·rw [Array.getElem?_eq_none (by rw [Array.size_setIfInBounds]; exact Nat.le_of_not_lt h)]
theorem tU {B:Heap} {C b:Addr} (h:b≠C):(jO B C).get? b=B.get? b:=by
 unfold jO Heap.get?
 dsimp only
 rw [Array.getElem?_setIfInBounds_ne (Ne.symm h)]
theorem xT {B:Heap} {C b:Addr} (h:B.get? b=none):(jO B C).get? b=none:=by
 by_cases z:b=C
 ·rw [z]; exact aaX
 ·rw [tU z]; exact h
theorem acT {B:Heap} {C b:Addr} {o:Obj} (h:(jO B C).get? b=some o):b≠C∧B.get? b=some o:=by
 by_cases z:b=C
 ·rw [z,aaX] at h; cases h
 ·rw [tU z] at h; exact ⟨z,h⟩
theorem afK {B h h':Heap} {l:List Env} {e L C:Addr} {cls a0:Value} (hC:∃ o,B.get? C=some o) (hh:Heap.HeldW B l e cls a0 L h) (sb:Heap.SameBut C h h'):Heap.HeldW (jO B C) l e cls a0 L h':=by
 obtain ⟨oC,hC⟩:=hC
 have ne:∀ {b},B.get? b=none→b≠C:=fun {b} hb z=>by
  rw [z,hC] at hb
  cases hb
 obtain ⟨k1,k2,k3,k4⟩:=hh
 refine ⟨fun b o hb=>?_,xT k2,?_,?_⟩
 ·obtain ⟨z,hb⟩:=acT hb
  rw [sb.2 b z]
  exact k1 b o hb
 ·clear k4
  induction l with
  | nil=>trivial
  | cons env eJ ih =>
   obtain ⟨a,⟨L0,o,hf,hn,ho,hd⟩,hr⟩:=k3
   exact ⟨a,⟨L0,o,hf,xT hn,(sb.2 L0 (ne hn)).trans ho,hd⟩,ih hr⟩
 ·obtain ⟨oe,vs,T,oT,ts,he,hcls,hd,h1,hnT,hTe,hT,hdT,h3⟩:=k4
  exact ⟨oe,vs,T,oT,ts,(sb.2 e (ne k2)).trans he,hcls,hd,h1,xT hnT,hTe,(sb.2 T (ne hnT)).trans hT,hdT,h3⟩
theorem aeC {e:Value} {c env:Env} (h:c.frame=env.frame):noteFrame e c=noteFrame e env:=by
 unfold noteFrame PySem.frameOf
 rw [h]
theorem afr {M:Model} {A:Around} {E:Value→Shared→Prop} {s:Shared} {α:Type} {Q:α→Shared→Prop} {B:Heap} {l:List Env} {e L:Addr} {cls a0:Value} {c:Env} {what:String} (hf:c.frame=some L) (hh:Heap.HeldW B l e cls a0 L s.heap)
  (h:∀ h',Heap.HeldW B l e cls a0 L h'→(∀ b o,s.heap.get? b=some o→(∀ vs,o.data≠.fields vs)→h'.get? b=some o)→E (.ref e) { s with heap:=h' }):wpAny M A (PySem.passOn what (.ref e) c:Sem α) Q E s:=by
 obtain ⟨k1,k2,k3,oe,vs,T,oT,ts,he,hcls,hd,h1,hnT,hTe,hT,hdT,h3⟩:=hh
 have hsz3:3 < ts.size:=(Array.getElem?_eq_some_iff.mp h3).1
 have other:∀ b,b≠T→(s.heap.update T (Obj.mapFields (·.setIfInBounds 3 (rawInt L)))).get? b=s.heap.get? b:=fun b hb=>Heap.get?_update_other _ _ (Ne.symm hb)
 have noRec:∀ b o,s.heap.get? b=some o→(∀ vs,o.data≠.fields vs)→b≠T:=fun b o hb hnf q=>by
  rw [q,hT] at hb; injection hb with hb; subst hb; exact hnf ts hdT
 unfold PySem.passOn
 refine wpAny_bind (wpAny_field he hd h1 ?_)
 rw [if_neg (show ¬ ((Value.ref T == Value.none)=true) from by simp)]
 refine wpAny_bind ?_
 unfold setFlight
 rw [hf]
 refine wpAny_bind (wpAny_field he hd h1 ?_)
 rw [if_pos (show (Value.ref T != Value.none)=true from by simp)]
 refine wpAny_setField hT hdT hsz3 (wpAny_throw (h _ ⟨fun b o hbo=>(other b fun q=>by rw [q,hnT] at hbo; cases hbo).trans (k1 b o hbo),k2,k3.of_keeps fun b o hb hnf=>⟨o,(other b (noRec b o hb hnf)).trans hb,rfl⟩,?_⟩ fun b o hb hnf=>(other b (noRec b o hb hnf)).trans hb))
 exact ⟨oe,vs,T,_,_,(other e (Ne.symm hTe)).trans he,hcls,hd,h1,hnT,hTe,Heap.get?_update_self _ hT (Obj.isFreed_of_fields (Obj.data_mapFields hdT _)),Obj.data_mapFields hdT _,by simp [hsz3]⟩
end L2.Pp
namespace L2
open PySem PySem.Spec PyProof.Rows Bn
section
variable {X:Cx} {pins:List (Addr × Obj)} {σ:St} {H H':Hp} {s s':Shared}
theorem Inv.flownC {B h5:Heap} {C:Addr} (I:Inv X pins σ H s) (hC:eK X pins H C) (os:s'.os=s.os) (bare:AllBare s'.gens) (un:Un (frs X.stack) [] H H' s.heap s'.heap) (hok:HOk X.prog X.w H' s'.heap)
  (cov:∀ b o,s'.heap.get? b=some o→(∃ u,H' b=some u)∨(∃ o',s.heap.get? b=some o'∧b ∉ frs X.stack)→b≠C→B.get? b=some o) (fr:∀ b∈frs X.stack,H' b=none) (hn:H' C=none)
  (st:B.StaysIn h5) (up:∀ b o,b≠C→s'.heap.get? b=some o→(∀ vs,o.data≠.fields vs)→∃ sl,h5.get? b=some { o with slots:=sl }):Inv X pins σ H' { s' with heap:=h5 }:=by
 have one:∀ {b},b ∉ [C]→b≠C:=fun {b} h z=>h (by rw [z]; exact List.mem_singleton.mpr rfl)
 have frame:∀ b∈frs X.stack,b≠C→∃ o sl,s.heap.get? b=some o∧H b=none∧h5.get? b=some { o with slots:=sl }:=fun b hb hx=>by
  obtain ⟨_,o,ho,hd⟩:=I.stack.mem hb
  have hn:=I.stkFree b hb
  obtain ⟨sl,g⟩:=un.slot b o ho hn hb (by intro z; cases z)
  obtain ⟨sl',g'⟩:=up b _ hx g hd
  exact ⟨o,sl',ho,hn,g'⟩
 refine I.call' (s':={ s' with heap:=h5 }) (ch:=[C]) os ⟨fun b o q n hb hx=>?_,fun b o q n hb hx=>?_,fun b o q n _=>un.free b o q n (by intro z; cases z),fun b o q hx=>?_,un.tups,un.frzs,un.tbls⟩ (fun b u q=>?_) bare fun b z=>?_
 ·exact st b o (cov b o (un.keep b o q n hb (by intro z; cases z)) (.inr ⟨o,q,hb⟩) (one hx))
 ·obtain ⟨o',sl,g1,_,g2⟩:=frame b hb (one hx)
  rw [q] at g1
  cases g1
  exact ⟨sl,g2⟩
 ·by_cases c:b∈frs X.stack
  ·obtain ⟨o',sl,_,_,g2⟩:=frame b c (one hx)
   exact ⟨_,g2⟩
  ·obtain ⟨o',g⟩:=un.there b o q (by intro z; cases z)
   exact ⟨o',st b o' (cov b o' g (.inr ⟨o,q,c⟩) (one hx))⟩
 ·refine (hok b u q).stay (fun c v hc g=>?_) (fun _ g=>g) fun _ _ g=>g
  have nc:∀ {y},H' c=some y→c≠C:=fun {y} e z=>by
   rw [z,hn] at e
   cases e
  rcases hc with z | z
  ·have q':H' c=some u:=by rw [z]; exact q
   exact st c v (cov c v g (.inl ⟨u,q'⟩) (nc q'))
  ·exact st c v (cov c v g (.inl ⟨_,z⟩) (nc z))
 ·have z:b=C:=List.mem_singleton.mp z
  subst z
  obtain ⟨_,f1,_,f3,f4,f5⟩:=hC
  exact ⟨f3,f1,f4,f5⟩
end
end L2
namespace L2
open PySem PySem.Spec PyProof.Rows Bn L2.Pp
section
variable {P:Program} {w:World} {K:PySem.W.Frag} {mg:Str→Option Value} {base:Heap} {N:List Str} {qual:Str} {scope:Scope} {f:Addr} {cd:Value} {A:Around} {outer:List Env} {s₀:Shared} {H₀:Hp} {E:XK}
theorem ai5 {pins:List (Addr × Obj)} {σ:St} {H2 H3:Hp} {s2 s3:Shared} {sc:Scope} {Nb:List Str} {C:Addr} {fp:List Addr} {Qf:Value→Shared→Prop} {acc:Value}
  (I2:Inv (aS (CX1 P w) P w K mg base N qual scope f cd A outer s₀ H₀ E) pins σ H2 s2) (f2:∀ b∈fp,eK (aS (CX1 P w) P w K mg base N qual scope f cd A outer s₀ H₀ E) pins H2 b) (un:Un (frs (aS (CX1 P w) P w K mg base N qual scope f cd A outer s₀ H₀ E).stack) fp H2 H3 s2.heap s3.heap) (os3:s3.os=s2.os)
  (hF:∀ H:Hp,H C=none→eK (aS (CX1 P w) P w K mg base N qual scope f cd A outer s₀ H₀ E) pins H C) (hCf:C ∉ frs (aS (CX1 P w) P w K mg base N qual scope f cd A outer s₀ H₀ E).stack) (hC0:∀ o,s₀.heap.get? C≠some o) :
  iP (CX1 P w) ((cD (aS (CX1 P w) P w K mg base N qual scope f cd A outer s₀ H₀ E) sc Nb C s3 H3 fp).wish (notedBy (model P w) (aS (CX1 P w) P w K mg base N qual scope f cd A outer s₀ H₀ E).A (cD (aS (CX1 P w) P w K mg base N qual scope f cd A outer s₀ H₀ E) sc Nb C s3 H3 fp).env fun x s''=>zP (model P w) (aS (CX1 P w) P w K mg base N qual scope f cd A outer s₀ H₀ E).A (aS (CX1 P w) P w K mg base N qual scope f cd A outer s₀ H₀ E).xe Qf acc (cD (aS (CX1 P w) P w K mg base N qual scope f cd A outer s₀ H₀ E) sc Nb C s3 H3 fp).env (.error x) s'')) E:=by
 intro pl σ' H s e s' I c
 have J:=I.unwish
 obtain ⟨x,Cl,t,B,H',rfl,os,bare,un',hok,fl,cov,hE⟩:=c
 have fr:∀ b∈frs (aS (CX1 P w) P w K mg base N qual scope f cd A outer s₀ H₀ E).stack,H' b=none:=fun b hb=>by
  obtain ⟨_,o,ho,hd⟩:=J.stack.mem hb
  exact un'.free b o ho (J.stkFree b hb) (by intro z; cases z)
 have IX:=I2.uncmp f2 un os3 J
 show wpAny _ _ (noteFrame (.ref x) _) _ _ s'
 rw [aeC (c:=(cD (aS (CX1 P w) P w K mg base N qual scope f cd A outer s₀ H₀ E) sc Nb C s3 H3 fp).env) (env:=(aS (CX1 P w) P w K mg base N qual scope f cd A outer s₀ H₀ E).env) rfl]
 refine wpAny_looks_onW IX.ok.frames rfl fl fun h1 held up=>?_
 have J5:=J.flown os bare un' hok cov fr held.1 up
 obtain ⟨m,hn,_⟩:=id J5.loc
 refine ⟨m,hn,fun h2 sb=>?_⟩
 obtain ⟨mC,hnC,_⟩:=id J.loc
 obtain ⟨oC,_,_,hoC,_⟩:=hnC
 obtain ⟨oC',gC⟩:=un'.there C oC hoC (by intro z; cases z)
 have hCB:∃ o,B.get? C=some o:=⟨oC',cov C oC' gC (.inr ⟨oC,hoC,hCf⟩)⟩
 have held2:=afK hCB held sb
 have hHC:H C=none:=J.free
 have hnC':H' C=none:=un'.free C oC hoC hHC (by intro z; cases z)
 refine afr rfl held2 fun h3 held3 keep=>?_
 show wpAny _ _ (leaving _ (.ref x)) _ _ _
 unfold leaving
 refine wpAny_bind (wpAny_noteFrame_againW rfl held3.2.2.2 ?_)
 refine wpAny_landsW held3 fun h4 fl4 up4=>?_
 have I4:=IX.flownC (s':=s') (B:=jO B C) (h5:=h4) (hF H hHC) os bare un' hok (fun b o g d hb=>by rw [tU hb]; exact cov b o g d) fr hnC' fl4.1 (fun b o hb g hnf=>by
  obtain ⟨sl,g1⟩:=up b o g hnf
  have g2:=(sb.2 b hb).trans g1
  have g3:=keep b _ g2 hnf
  obtain ⟨sl',g4⟩:=up4 b _ g3 hnf
  exact ⟨sl',g4⟩)
 have nL:∀ {b o},s₀.heap.get? b=some o→b ∉ frs outer→b ∉ frs (envOfC qual scope s₀.heap.objs.size f cd :: outer):=fun {b o} q z y=>by
  rcases List.mem_cons.mp (IX.stkSub b y) with g | g
  ·exact absurd (Nat.lt_of_lt_of_le (Heap.lt_size q) IX.ok.above) (by rw [g]; exact Nat.lt_irrefl _)
  ·exact z g
 obtain ⟨k1,k2,⟨_,_,k3⟩,k4⟩:=fl4
 refine ⟨x,Cl,t,jO B C,H',rfl,os.trans IX.os,bare,I4.base,I4.hok,⟨k1,k2,k3,k4⟩,fun b o q z=>?_,hE⟩
 have go:∀ {o2},B.get? b=some o2→b≠C→(jO B C).get? b=some o:=fun {o2} g hb=>by
  have g':(jO B C).get? b=some o2:=by rw [tU hb]; exact g
  have:=k1 b o2 g'
  have q':h4.get? b=some o:=q
  rw [q'] at this
  cases this
  exact g'
 rcases z with ⟨u,z⟩ | ⟨o',z,nz⟩
 ·obtain ⟨o2,g⟩:=(hok b u z).has
  exact go (cov b o2 g (.inl ⟨u,z⟩)) fun y=>by rw [y,hnC'] at z; cases z
 ·obtain ⟨o2,g⟩:=IX.base.there b o' z (by intro z; cases z)
  obtain ⟨o3,g3⟩:=un'.there b o2 g (by intro z; cases z)
  exact go (cov b o3 g3 (.inr ⟨o2,g,nL z nz⟩)) fun y=>hC0 o' (by rw [← y]; exact z)
end
end L2
namespace L2
open PySem PySem.Spec PyProof.Rows Bn L2.Pp
section
variable {P:Program} {w:World} {K:PySem.W.Frag} {mg:Str→Option Value} {base:Heap} {N:List Str} {qual:Str} {scope:Scope} {f:Addr} {cd:Value} {A:Around} {outer:List Env} {s₀:Shared} {H₀:Hp} {E:XK}
variable {sc:Scope} {own:List Str} {cap:List (Nat × Str)} {pins:List (Addr × Obj)} {σ:St} {H:Hp} {s:Shared} {elt target iter:Expr} {pos pos':Pos} {wi:TI} {g:TG} {te:TE} {Q:VK}
theorem adP {Qf:Value→Shared→Prop} (k:gM (aS (CX1 P w) P w K mg base N qual scope f cd A outer s₀ H₀ E) sc own cap) (hi:PI (aS (CX1 P w) P w K mg base N qual scope f cd A outer s₀ H₀ E) target iter wi) (hc:(aS (CX1 P w) P w K mg base N qual scope f cd A outer s₀ H₀ E).calm=true)
  (hg:∀ C s₁ H₁ ex,PG (cD (aS (CX1 P w) P w K mg base N qual scope f cd A outer s₀ H₀ E) sc (bI own cap) C s₁ H₁ ex) target g) (he:∀ C s₁ H₁ ex E',iP (CX1 P w) ((cD (aS (CX1 P w) P w K mg base N qual scope f cd A outer s₀ H₀ E) sc (bI own cap) C s₁ H₁ ex).wish E') E→PE ((cD (aS (CX1 P w) P w K mg base N qual scope f cd A outer s₀ H₀ E) sc (bI own cap) C s₁ H₁ ex).wish E') elt te) (I:Inv (aS (CX1 P w) P w K mg base N qual scope f cd A outer s₀ H₀ E) pins σ H s) (h:nO own cap wi g te σ H Q)
  (fin:∀ D C s' H' m,Inv (aS (CX1 P w) P w K mg base N qual scope f cd A outer s₀ H₀ E) pins σ H' s'→eK (aS (CX1 P w) P w K mg base N qual scope f cd A outer s₀ H₀ E) pins H' C→s'.heap.Ns C m→Q (.ref D) H'→∃ m,s'.heap.Ns C m∧∀ h',Heap.SameBut C s'.heap h'→Qf (.ref D) { s' with heap:=h' })
  (hs:∀ x,foldedSetIterable iter (aS (CX1 P w) P w K mg base N qual scope f cd A outer s₀ H₀ E).env x=pure x) :
  wpAny (model (aS (CX1 P w) P w K mg base N qual scope f cd A outer s₀ H₀ E).prog (aS (CX1 P w) P w K mg base N qual scope f cd A outer s₀ H₀ E).w) (aS (CX1 P w) P w K mg base N qual scope f cd A outer s₀ H₀ E).A (comprehension (.ListComp elt [⟨target,iter,[],0⟩] sc pos) sc (aS (CX1 P w) P w K mg base N qual scope f cd A outer s₀ H₀ E).env pos' (newList []) false (eval iter (aS (CX1 P w) P w K mg base N qual scope f cd A outer s₀ H₀ E).env) none) Qf (aS (CX1 P w) P w K mg base N qual scope f cd A outer s₀ H₀ E).xe s:=by
 refine ago rfl hs (zZ (k.has I.ok)) k.kind k.names ?_
 refine thn (hi pins s σ H _ I h) fun v s1 h1=>thn h1 fun itv s2 h2=>?_
 obtain ⟨it,fp,tn,J,H2,e,I2,T,st2,f2,hW⟩:=h2
 subst e
 refine wpAny_newObj_type (wpAny_newFunctionEnv k.nocell (fun y hy=>nomatch hy) (fun h4 hns hsb=>?_) k.kind)
 have I3:Inv (aS (CX1 P w) P w K mg base N qual scope f cd A outer s₀ H₀ E) pins σ (upd H2 s2.heap.objs.size (.lst [])) { s2 with heap:=s2.heap.push { cls:=.type "list",data:=.seq ([]:List Value).toArray },toks:=s2.toks }:=I2.lnew (ys:=[]) (its:=[]) .nil (Nat.zero_le _)
 have hD:H2 s2.heap.objs.size=none:=I2.fresh
 have ltf:∀ b∈fp,b < s2.heap.objs.size:=fun b hb=>by
  obtain ⟨o,ho,_⟩:=T.obj _ _ st2 b hb
  exact Heap.lt_size ho
 have f3:∀ b∈fp,eK (aS (CX1 P w) P w K mg base N qual scope f cd A outer s₀ H₀ E) pins (upd H2 s2.heap.objs.size (.lst [])) b:=fun b hb=>⟨by rw [cK (Nat.ne_of_lt (ltf b hb))]; exact (f2 b hb).1,(f2 b hb).2⟩
 have un:Un (frs (aS (CX1 P w) P w K mg base N qual scope f cd A outer s₀ H₀ E).stack) fp H2 (upd H2 s2.heap.objs.size (.lst [])) s2.heap (s2.heap.push { cls:=.type "list",data:=.seq ([]:List Value).toArray }):=Un.laid (fun b u q=>Heap.get?_push_of_some _ q) (Nat.le_refl _) hD
 have kp:∀ b o,(s2.heap.push { cls:=.type "list",data:=.seq ([]:List Value).toArray }).get? b=some o→h4.get? b=some o:=fun b o q=>hsb.extBut b o (Nat.ne_of_lt (Heap.lt_size q)) (Heap.get?_push_of_some _ q)
 have J0:=I3.cmp (t':=s2.toks+([]:List (Str × Value)).length) k f3 (fun b hb=>Nat.lt_of_lt_of_le (ltf b hb) (by rw [Heap.size_push]; exact Nat.le_succ _)) hns kp
 have stat:∀ {H':Hp},(∀ b∈fp,H' b=none)→∀ b∈fp,eK (cD (aS (CX1 P w) P w K mg base N qual scope f cd A outer s₀ H₀ E) sc (bI own cap) (s2.heap.push { cls:=.type "list",data:=.seq ([]:List Value).toArray }).objs.size { s2 with heap:=s2.heap.push { cls:=.type "list",data:=.seq ([]:List Value).toArray },toks:=s2.toks } (upd H2 s2.heap.objs.size (.lst [])) fp) [] H' b:=fun hn b hb =>
  ⟨hn b hb,(J0.ok.exf b hb).1,J0.ok.exfs b hb,.inl hb,(J0.ok.exf b hb).2,fun p hp=>absurd (show p∈([]:List (Addr × Obj)) from hp) (by simp)⟩
 have st4:tn 0 h4:=T.keep _ _ _ st2 fun b hb o q=>kp b o (Heap.get?_push_of_some _ q)
 have fr0:∀ b∈fp,(upd H2 s2.heap.objs.size (.lst [])) b=none:=fun b hb=>(f3 b hb).1
 have hCf:(s2.heap.push { cls:=.type "list",data:=.seq ([]:List Value).toArray }).objs.size ∉ frs (aS (CX1 P w) P w K mg base N qual scope f cd A outer s₀ H₀ E).stack:=fun hb=>by
  obtain ⟨_,o,ho,hd⟩:=I3.stack.mem hb
  exact Nat.lt_irrefl _ (Heap.lt_size ho)
 have hC0:∀ o,s₀.heap.get? (s2.heap.push { cls:=.type "list",data:=.seq ([]:List Value).toArray }).objs.size≠some o:=fun o ho=>by
  obtain ⟨m,⟨oL,_,_,hoL,_⟩,_⟩:=id I3.loc
  exact Nat.lt_irrefl _ (Nat.lt_trans (Nat.lt_of_lt_of_le (Heap.lt_size ho) I3.ok.above) (Heap.lt_size hoL))
 have loop:codeAny (model (aS (CX1 P w) P w K mg base N qual scope f cd A outer s₀ H₀ E).prog (aS (CX1 P w) P w K mg base N qual scope f cd A outer s₀ H₀ E).w) (aS (CX1 P w) P w K mg base N qual scope f cd A outer s₀ H₀ E).A (.compLoop (.ListComp elt [⟨target,iter,[],0⟩] sc pos) 0 (.ref it) (.ref s2.heap.objs.size) (compEnvC sc (gR (aS (CX1 P w) P w K mg base N qual scope f cd A outer s₀ H₀ E).env sc.names []) (s2.heap.push { cls:=.type "list",data:=.seq ([]:List Value).toArray }).objs.size (aS (CX1 P w) P w K mg base N qual scope f cd A outer s₀ H₀ E).env))
   (zP (model (aS (CX1 P w) P w K mg base N qual scope f cd A outer s₀ H₀ E).prog (aS (CX1 P w) P w K mg base N qual scope f cd A outer s₀ H₀ E).w) (aS (CX1 P w) P w K mg base N qual scope f cd A outer s₀ H₀ E).A (aS (CX1 P w) P w K mg base N qual scope f cd A outer s₀ H₀ E).xe Qf (.ref s2.heap.objs.size) (compEnvC sc (gR (aS (CX1 P w) P w K mg base N qual scope f cd A outer s₀ H₀ E).env sc.names []) (s2.heap.push { cls:=.type "list",data:=.seq ([]:List Value).toArray }).objs.size (aS (CX1 P w) P w K mg base N qual scope f cd A outer s₀ H₀ E).env)) { s2 with heap:=h4,toks:=s2.toks+([]:List (Str × Value)).length }:=by
  obtain ⟨W,⟨m0,w0⟩,turn⟩:=hW s2.heap.objs.size hD
  refine ae1 (fun n s'=>∃ i σ' H' ys,Inv (cD (aS (CX1 P w) P w K mg base N qual scope f cd A outer s₀ H₀ E) sc (bI own cap) (s2.heap.push { cls:=.type "list",data:=.seq ([]:List Value).toArray }).objs.size { s2 with heap:=s2.heap.push { cls:=.type "list",data:=.seq ([]:List Value).toArray },toks:=s2.toks } (upd H2 s2.heap.objs.size (.lst [])) fp) [] σ' H' s'∧tn i s'.heap∧(∀ b∈fp,H' b=none)∧W i n σ' H' ys) ?_ m0
   ⟨0,_,_,[],J0,st4,fr0,w0⟩
  rintro n s5 ⟨i,σ5,H5,ys,I5,st5,fr5,w5⟩
  obtain ⟨hD5,w5⟩:=turn i n σ5 H5 ys w5
  rcases w5 with ⟨stop,qn⟩ | ⟨go,hlt,step⟩
  ·refine thn (T.done (cD (aS (CX1 P w) P w K mg base N qual scope f cd A outer s₀ H₀ E) sc (bI own cap) (s2.heap.push { cls:=.type "list",data:=.seq ([]:List Value).toArray }).objs.size { s2 with heap:=s2.heap.push { cls:=.type "list",data:=.seq ([]:List Value).toArray },toks:=s2.toks } (upd H2 s2.heap.objs.size (.lst [])) fp) rfl rfl rfl hc i [] s5 σ5 H5 _ I5 (stat fr5) st5 stop) fun r s6 ⟨hr,I6⟩=>?_
   subst hr
   obtain ⟨m,hn,_⟩:=id I6.loc
   exact fin _ _ s6 H5 m (I2.uncmp (s3:={ s2 with heap:=s2.heap.push { cls:=.type "list",data:=.seq ([]:List Value).toArray },toks:=s2.toks }) f2 un rfl I6) (I3.fpOk (Nat.le_refl _) I6.free) hn qn
  ·refine thn (T.item (cD (aS (CX1 P w) P w K mg base N qual scope f cd A outer s₀ H₀ E) sc (bI own cap) (s2.heap.push { cls:=.type "list",data:=.seq ([]:List Value).toArray }).objs.size { s2 with heap:=s2.heap.push { cls:=.type "list",data:=.seq ([]:List Value).toArray },toks:=s2.toks } (upd H2 s2.heap.objs.size (.lst [])) fp) rfl rfl rfl hc i [] s5 σ5 H5 _ I5 (stat fr5) st5 go) fun r s6 ⟨u,hr,h6⟩=>?_
   subst hr
   refine thn h6 fun _ s7 ⟨x,H7,I7,r7,y7,st7,fr7⟩=>?_
   have I7':=I7.pinned (stat fr7) (T.obj _ _ st7)
   refine thn (hg _ _ _ _ _ s7 σ5 H7 x u _ I7' r7 (step x H7 y7)) fun _ s8 ⟨σ8,H8,I8,q8⟩=>?_
   refine thn (he _ _ _ _ _ (ai5 (s3:={ s2 with heap:=s2.heap.push { cls:=.type "list",data:=.seq ([]:List Value).toArray },toks:=s2.toks }) I2 f2 un rfl (fun H hH=>I3.fpOk (Nat.le_refl _) hH) hCf hC0) _ s8 σ8 H8 _ (I8.wish _) q8) fun v9 s9 ⟨y,H9,I9,r9,hD9,m',hm,w9⟩=>?_
   have I9:=I9.unwish
   refine thn (tV _ s9 σ8 H9 (.ref s2.heap.objs.size) [y] (.ref s2.heap.objs.size) [v9] (fun _ H'=>H'=upd H9 s2.heap.objs.size (.lst (ys++[y]))) I9 rfl (.cons r9 .nil) ⟨_,ys,y,rfl,rfl,hD9,hlt,rfl⟩) fun _ s10 ⟨_,H10,I10,_,q10⟩=>?_
   subst q10
   refine ⟨m',hm,i+1,σ8,_,_,I10.unpinned,T.keep _ _ _ st7 fun b hb o q=>(I10.pin (b,o) (List.mem_append_right _ (List.mem_append_right _ (lG hb q)))).1,fun b hb=>?_,w9⟩
   obtain ⟨o,q,d⟩:=T.obj _ _ st7 b hb
   exact (I10.pin (b,o) (List.mem_append_right _ (List.mem_append_right _ (lG hb q)))).2.1
 exact codeAny_compStart_list loop (T.self _ 0 _ _ _ st4 loop)
end
end L2
namespace L2.Pp
open PySem PySem.Spec PyProof.Rows Bn
open Classical in
noncomputable def eX (G:Gd) (g:GM) (me:ME):List PV→Rho→Sto→Res (List PV)
 | [],_,S=>if gOk G S then .ok [] S else .fail
 | x :: r,ρ,S=>if gOk G S then (match g x ρ with
  | none=>.fail
  | some ρ1=>match me ρ1 S with
   | .ok (.pv y) S1=>match eX G g me r ρ1 S1 with
    | .ok ys S2=>.ok (y :: ys) S2
    | .exc n S2=>.exc n S2
    | .fail=>.fail
   | .ok (.ref _) _=>.fail
   | .exc n S1=>.exc n S1
   | .fail=>.fail) else .fail
section
variable {K:PySem.W.Frag} {cl:Str→Addr} {E:XK} {X:Cx} {p q:Ph} {H H':Hp} {S:Sto}
def vU (K:PySem.W.Frag) (cl:Str→Addr) (E:XK) (p:Ph) (H:Hp) (D:Addr) (Q:VK) (us:List PV):Res (List PV)→Prop
 | .ok ws S2=>∀ q H' vs,bN p H q H'→Sim K q S2 H'→Sim K (q.hold D) S2 H'→q.w D→D ∉ q.f→H' D=some (.lst vs)→vs.length≤sizeLine→aU K q.c H' (us++ws) vs→Q (.ref D) H'
 | .exc n S2=>∀ q H',bN p H q H'→Sim K q S2 H'→E (.ref (cl n)) none H'
 | .fail=>False
theorem abR {G:Gd} {g:GM} {me:ME} {xs us:List PV} {ρ:Rho} {D:Addr} {Q:VK} (h:vU K cl E p H D Q us (eX G g me xs ρ S)):gOk G S:=by
 cases xs with
 | nil =>
  unfold eX at h
  split at h
  ·assumption
  ·exact h.elim
 | cons x r =>
  unfold eX at h
  split at h
  ·assumption
  ·exact h.elim
variable {sc:Scope} {own:List Str} {cap:List (Nat × Str)} {elt target iter:Expr} {pos:Pos} {mi:MI} {g:GM} {me:ME}
theorem adE {σ:St} {ρ:Rho} {xs:List PV} {G:Gd} {J:It} {Q:VK} {D:Addr} (sm:Sim K p S H) (ev:cV K p H ρ σ) (it:eC K p H (xs,G) J) (hD:H D=none) (kk:vU K cl E p H D Q [] (eX G g me xs (bS own cap ρ) S)) :
  pW J (gP K g) (tP K cl E (bX K) me) (jQ own cap σ) H D Q:=by
 obtain ⟨st0,sm0⟩:=sm.res (D:=D) (o:=.lst []) hD trivial
 have sh0:=sm.resHold (D:=D) (o:=.lst []) hD trivial
 have nf0:D ∉ p.f:=fun h=>sm.notin hD (sm.wc D (sm.sub D h))
 refine afH xs.length it.1 (fun i σ1 H1 ys=>ys.length=i∧i≤xs.length∧H1 D=some (.lst ys)∧∃ p1 S1 ρ1 us,(Sim K p1 S1 H1∧Sim K (p1.hold D) S1 H1)∧bN p H p1 H1∧p1.w D∧D ∉ p1.f∧cV K p1 H1 ρ1 σ1∧eC K p1 H1 (xs,G) J∧gOk G S1∧aU K p1.c H1 us ys∧vU K cl E p H D Q us (eX G g me (xs.drop i) ρ1 S1)) ?_ ?_ ?_ ?_ ?_
 ·refine ⟨rfl,Nat.zero_le _,gX,p.res D,S,bS own cap ρ,[],⟨sm0,sh0⟩,st0,.inr rfl,nf0,ac6 (st0.repE ev),it.step st0,?_,.nil,by simpa using kk⟩
  exact abR kk
 ·rintro i σ1 H1 ys ⟨h1,_,h2,_⟩
  exact ⟨h1,h2⟩
 ·rintro i σ1 H1 ys hi ⟨_,_,_,p1,S1,ρ1,us,⟨sm1,sh1⟩,st1,w1,f1,ev1,it1,g1,_⟩
  exact ((it1.2 p1 H1 S1 sm1.step sm1 g1).1 i xs[i] (List.getElem?_eq_getElem hi)).1
 ·rintro i σ1 H1 ys x H2 hi ⟨hl,_,hH,p1,S1,ρ1,us,⟨sm1,sh1⟩,st1,w1,f1,ev1,it1,g1,r1,c1⟩ hy
  obtain ⟨same,rx⟩:=((it1.2 p1 H1 S1 sm1.step sm1 g1).1 i xs[i] (List.getElem?_eq_getElem hi)).2 x H2 hy
  rw [List.drop_eq_getElem_cons hi] at c1
  unfold eX at c1
  rw [if_pos g1] at c1
  cases gz:g xs[i] ρ1 with
  | none=>rw [gz] at c1; exact c1.elim
  | some ρ2 =>
   rw [gz] at c1
   dsimp only at c1
   have st2:=sm1.same same
   have sm2:=sm1.ofSame same
   have smh:=sh1.ofSame same
   have stS:bN p H p1 H2:=st1.trans st2
   refine ⟨p1,S1,ρ1,xs[i],ρ2,sm2,st2.repE ev1,rx,gz,fun σ3 ev3=>⟨p1.hold D,S1,ρ2,smh,⟨ev3.len,ev3.at_⟩,?_⟩⟩
   cases mz:me ρ2 S1 with
   | fail=>rw [mz] at c1; exact c1.elim
   | exc n S3 =>
    rw [mz] at c1
    intro q H4 st4 sm4
    have hD2:H2 D=some (.lst ys):=same _ _ hH
    have hD4:H4 D=some (.lst ys):=st4.keep D _ hD2 fun z=>z.2 rfl
    have fq:D ∉ q.f:=fun h=>by
     have:=st4.nf D h f1
     rw [hD2] at this
     cases this
    have stU:=bN.unhold w1 st4 sm2
    have nq:¬ q.w D:=fun z=>by
     have:=st4.nw D z fun y=>y.2 rfl
     rw [hD2] at this
     cases this
    have smU:Sim K ⟨q.f,fun a=>q.w a∨a=D,q.c⟩ S3 H4:=⟨sm4.nd,sm4.len,fun a h=>.inl (sm4.sub a h),fun a h=>h.elim (sm4.wc a) fun z=>z ▸ st4.mono D (sm2.wc D w1),sm4.mu,fun k a o e1 e2 =>
     (sm4.obj k a o e1 e2).mono (fun _ e=>e) (fun b w f=>⟨⟨.inl w,f⟩,fun _ e=>e⟩) fun _ _ r=>r⟩
    have shU:Sim K (Ph.hold ⟨q.f,fun a=>q.w a∨a=D,q.c⟩ D) S3 H4:=⟨sm4.nd,sm4.len,fun a h=>⟨.inl (sm4.sub a h),fun z=>nq (z ▸ sm4.sub a h)⟩,fun a h=>smU.wc a h.1,sm4.mu,fun k a o e1 e2 =>
     (sm4.obj k a o e1 e2).mono (fun _ e=>e) (fun b w f=>⟨⟨⟨.inl w,fun z=>nq (z ▸ w)⟩,f⟩,fun _ e=>e⟩) fun _ _ r=>r⟩
    exact c1 _ H4 ((stS.trans stU).toLess hD) shU.toLess
   | ok av S3 =>
    cases av with
    | ref k=>rw [mz] at c1; exact c1.elim
    | pv y =>
     rw [mz] at c1
     dsimp only at c1
     intro q H4 y' st4 sm4 ry
     have hD2:H2 D=some (.lst ys):=same _ _ hH
     have hD4:H4 D=some (.lst ys):=st4.keep D _ hD2 fun z=>z.2 rfl
     have fq:D ∉ q.f:=fun h=>by
      have:=st4.nf D h f1
      rw [hD2] at this
      cases this
     have stU:=bN.unhold w1 st4 sm2
     have nq:¬ q.w D:=fun z=>by
      have:=st4.nw D z fun y=>y.2 rfl
      rw [hD2] at this
      cases this
     have smU:Sim K ⟨q.f,fun a=>q.w a∨a=D,q.c⟩ S3 H4:=⟨sm4.nd,sm4.len,fun a h=>.inl (sm4.sub a h),fun a h=>h.elim (sm4.wc a) fun z=>z ▸ st4.mono D (sm2.wc D w1),sm4.mu,fun k a o e1 e2 =>
      (sm4.obj k a o e1 e2).mono (fun _ e=>e) (fun b w f=>⟨⟨.inl w,f⟩,fun _ e=>e⟩) fun _ _ r=>r⟩
     have shU:Sim K (Ph.hold ⟨q.f,fun a=>q.w a∨a=D,q.c⟩ D) S3 H4:=⟨sm4.nd,sm4.len,fun a h=>⟨.inl (sm4.sub a h),fun z=>nq (z ▸ sm4.sub a h)⟩,fun a h=>smU.wc a h.1,sm4.mu,fun k a o e1 e2 =>
      (sm4.obj k a o e1 e2).mono (fun _ e=>e) (fun b w f=>⟨⟨⟨.inl w,fun z=>nq (z ▸ w)⟩,f⟩,fun _ e=>e⟩) fun _ _ r=>r⟩
     have c2:vU K cl E p H D Q (us++[y]) (eX G g me (xs.drop (i+1)) ρ2 S3):=by
      cases cz:eX G g me (xs.drop (i+1)) ρ2 S3 with
      | fail=>rw [cz] at c1; exact c1.elim
      | exc n S4=>rw [cz] at c1; exact c1
      | ok ws S4 =>
       rw [cz] at c1
       intro q H' vs z1 z2 z3 z4 z5 z6 z7 r
       rw [List.append_assoc] at r
       exact c1 q H' vs z1 z2 z3 z4 z5 z6 z7 r
     obtain ⟨stG,smG,shG⟩:=smU.grow (ys:=ys) (D:=D) (o:=.lst (ys++[y'])) shU (.inr rfl) fq trivial
     have stA:=st2.trans (stU.trans stG)
     refine ajh hi hD4 ⟨by rw [List.length_append,hl]; rfl,hi,gX,_,S3,ρ2,us++[y],⟨smG,shG⟩,st1.trans stA,.inr rfl,fq,stG.repE (stU.repE ev3),it1.step stA,abR c2,?_,c2⟩
     exact (stA.reps r1).append (.cons (stG.rep ry) .nil)
 ·rintro σ1 H1 ys ⟨hl,_,hH,p1,S1,ρ1,us,⟨sm1,sh1⟩,st1,w1,f1,ev1,it1,g1,r1,c1⟩
  rw [List.drop_length] at c1
  unfold eX at c1
  rw [if_pos g1] at c1
  refine ⟨(it1.2 p1 H1 _ sm1.step sm1 g1).2,?_⟩
  exact c1 p1 H1 ys st1 sm1 sh1 w1 f1 hH (by rw [hl]; exact it.1) (by rw [List.append_nil]; exact r1)
theorem abk {σ:St} {ρ:Rho} {xs:List PV × Gd} {J:It} {Q:VK} {D:Addr} (sm:Sim K p S H) (ev:cV K p H ρ σ) (it:eC K p H xs J) (k:bP K cl (bX K) p H ((eX xs.2 g me xs.1 (bS own cap ρ) S).bind fun ys S2=>.ok (.pv (.lst ys)) S2) Q E) (hD:H D=none) :
  pW J (gP K g) (tP K cl E (bX K) me) (jQ own cap σ) H D Q:=by
 refine adE sm ev it hD ?_
 cases z:eX xs.2 g me xs.1 (bS own cap ρ) S with
 | fail=>rw [z] at k; exact k.elim
 | exc n S'=>rw [z] at k; exact k
 | ok zs S2 =>
  rw [z] at k
  have k:∀ q H' x,bN p H q H'→Sim K q S2 H'→Rep K q.c H' (.lst zs) x→Q x H':=k
  intro q H' vs st1 sm1 sh1 w1 f1 hH l1 r1
  rw [List.nil_append] at r1
  refine k (q.less D) H' (.ref D) (st1.toLess hD) sh1.toLess ?_
  unfold Rep
  exact ⟨D,vs,rfl,.inl ⟨hH,fun z=>z.2 rfl⟩,l1,qM (fun a h=>h.1) r1⟩
end
noncomputable def eD (own:List Str) (cap:List (Nat × Str)) (mi:MI) (g:GM) (me:ME):ME:=fun ρ S=>(mi ρ S).bind fun xs S1=>(eX xs.2 g me xs.1 (bS own cap ρ) S1).bind fun ys S2=>.ok (.pv (.lst ys)) S2
section
variable {P:Program} {w:World} {K:PySem.W.Frag} {mg:Str→Option Value} {base:Heap} {N:List Str} {qual:Str} {scope:Scope} {f:Addr} {cd:Value} {A:Around} {outer:List Env} {s₀:Shared} {H₀:Hp} {E:XK} {cl:Str→Addr}
variable {sc:Scope} {own:List Str} {cap:List (Nat × Str)} {elt target iter:Expr} {pos:Pos} {mi:MI} {g:GM} {me:ME} {wi:TI} {tg:TG} {te:TE}
theorem agc (k:gM (aS (CX1 P w) P w K mg base N qual scope f cd A outer s₀ H₀ E) sc own cap) (hi:PI (aS (CX1 P w) P w K mg base N qual scope f cd A outer s₀ H₀ E) target iter wi) (hc:(aS (CX1 P w) P w K mg base N qual scope f cd A outer s₀ H₀ E).calm=true)
  (hg:∀ C s₁ H₁ ex,PG (cD (aS (CX1 P w) P w K mg base N qual scope f cd A outer s₀ H₀ E) sc (bI own cap) C s₁ H₁ ex) target tg) (he:∀ C s₁ H₁ ex E',iP (CX1 P w) ((cD (aS (CX1 P w) P w K mg base N qual scope f cd A outer s₀ H₀ E) sc (bI own cap) C s₁ H₁ ex).wish E') E→PE ((cD (aS (CX1 P w) P w K mg base N qual scope f cd A outer s₀ H₀ E) sc (bI own cap) C s₁ H₁ ex).wish E') elt te)
  (hs:∀ x,foldedSetIterable iter (aS (CX1 P w) P w K mg base N qual scope f cd A outer s₀ H₀ E).env x=pure x:=by intro _; rfl):PE (aS (CX1 P w) P w K mg base N qual scope f cd A outer s₀ H₀ E) (.ListComp elt [⟨target,iter,[],0⟩] sc pos) (nO own cap wi tg te):=by
 intro pins s σ H Q I h
 rw [eval_ListComp]
 refine adP k hi hc hg he I h (fun D C s' H' m I' fC hn q=>?_) hs
 refine ⟨m,hn,fun h' sb=>⟨.ref D,H',?_,rfl,q⟩⟩
 obtain ⟨f0,f1,f2,f3,f4,f5⟩:=fC
 exact I'.turned (t':=s'.toks) (fun b o hb e=>(sb.2 b hb).trans e) f0 f1 f3 f4 f5
theorem qZ (k:gM (aS (CX1 P w) P w K mg base N qual scope f cd A outer s₀ H₀ E) sc own cap) (hi:PIp K cl E (aS (CX1 P w) P w K mg base N qual scope f cd A outer s₀ H₀ E) target iter mi) (hc:(aS (CX1 P w) P w K mg base N qual scope f cd A outer s₀ H₀ E).calm=true) (hg:∀ C s₁ H₁ ex,PGp K (cD (aS (CX1 P w) P w K mg base N qual scope f cd A outer s₀ H₀ E) sc (bI own cap) C s₁ H₁ ex) target g) (he:∀ C s₁ H₁ ex E',iP (CX1 P w) ((cD (aS (CX1 P w) P w K mg base N qual scope f cd A outer s₀ H₀ E) sc (bI own cap) C s₁ H₁ ex).wish E') E→PEp K cl E ((cD (aS (CX1 P w) P w K mg base N qual scope f cd A outer s₀ H₀ E) sc (bI own cap) C s₁ H₁ ex).wish E') elt me)
  (hs:∀ x,foldedSetIterable iter (aS (CX1 P w) P w K mg base N qual scope f cd A outer s₀ H₀ E).env x=pure x:=by intro _; rfl):PEp K cl E (aS (CX1 P w) P w K mg base N qual scope f cd A outer s₀ H₀ E) (.ListComp elt [⟨target,iter,[],0⟩] sc pos) (eD own cap mi g me):=by
 intro hK
 refine PE.imp (agc k (hi hK) hc (fun C s₁ H₁ ex=>hg C s₁ H₁ ex hK) (fun C s₁ H₁ ex E' ps=>he C s₁ H₁ ex E' ps hK) hs) fun σ H Q ⟨p,S,ρ,s,ev,h⟩=>?_
 exact bR s ev h fun q H' xs J S' stp sm ev it kk D hD=>abk sm ev it kk hD
end
section
variable {K:PySem.W.Frag} {cl:Str→Addr} {E:XK} {X:Cx} {e:Expr} {es:List Expr} {ms:MA} {pos p:Pos} {k n:Nat} {f:Addr} {fd:FuncData} {ps:List Str} {g:FM} {x:Str} {dvs:List V} {ds:List Value} {dv:List PV}
theorem lK (hp:iP (CX1 X.prog X.w) X E) (F:bF X.prog X.w X.K X.mg X.base (CX1 X.prog X.w) k f fd ps (spP K cl g)) (hr:cZ k X.A) (hg:Gl X x) (hm:X.mg x=some (.ref f)) (hk:PySem.W.keepIn X.K (.ref f)=true) (hb:eY X.K fd ps ds) (hd:bG dvs ds) (hv:Dv dv dvs)
  (ha:PAp K cl E X (e :: es) ms) (hdb:(x == ("__debug__":Str))=false:=by decide) (he:starEach (e :: es) X.env=(false,eval e X.env) :: starEach es X.env:=by rfl) (hpl:(backTo pos (starEach es X.env)).any (·.1)=false:=by rfl) :
  PEp K cl E X (.Call (.Name x p) (e :: es) [] pos) (bM g dv ms):=by
 intro hK
 refine PE.imp (rD F hr hg hm hk hb hd hp (ha hK) hdb he hpl) fun σ H Q ⟨p,S,ρ,s,ev,h⟩=>?_
 exact bR s ev h fun q H' as xs S' stp sm ev r k=>⟨q,S',_,sm,oH r (hv K q H'),rB sm k⟩
end
end L2.Pp
namespace L2.Pp
open PySem PySem.Spec PyProof.Rows Bn
section
variable {K:PySem.W.Frag} {cl:Str→Addr} {E:XK} {X:Cx}
end
end L2.Pp
namespace L2.Pp
open PySem PySem.Spec PyProof.Rows Bn
section
variable {K:PySem.W.Frag} {cl:Str→Addr} {E:XK} {X:Cx} {a b e:Expr} {m:ME} {ms:MA} {pos:Pos}
theorem rR:bootBuiltins "str"=some (.type "str"):=by decide +kernel
theorem nS {c:Addr→Prop} {H:Hp} (x:Str):Rep K c H (.str x) (.str x):=by
 unfold Rep
 rfl
def cY:PV→PV→Option PV
 | .str x,.str y=>if x.length+y.length≤16777216 then some (.str (x++y)) else none
 | _,_=>none
theorem iE:OpS K (fun x y H Q=>∃ i j,x=.str i∧y=.str j∧i.length+j.length≤sizeLine∧Q (.str (i++j)) H) cY:=fun {p S H a b c x y Q} s ra rb e k=>by
 unfold cY at e
 split at e
 ·split at e
  ·rename_i h
   cases e
   rw [← fJ] at h
   exact ⟨_,_,ra.str,rb.str,h,k H _ (cA.refl H) (nS _)⟩
  ·cases e
 ·cases e
def alT (y x:Str):Bool:=!(Builtin.Str.occurrences y x 0 y.length 1).isEmpty
def nT:PV→PV→Option PV
 | .str x,.str y=>some (.bl (alT y x))
 | _,_=>none
theorem ak4:OpS K (fun x y H Q=>∃ i j,x=.str i∧y=.str j∧Q (.bl (!(Builtin.Str.occurrences j i 0 j.length 1).isEmpty)) H) nT:=fun {p S H a b c x y Q} s ra rb e k=>by
 unfold nT at e
 split at e
 ·cases e
  exact ⟨_,_,ra.str,rb.str,k H _ (cA.refl H) (fL (v:=.bl _) rfl)⟩
 ·cases e
def lW:List PV→Option PV
 | [.str x]=>if x.length≤16777216 then some (.int x.length) else none
 | _=>none
theorem ajo:CaR K (fun xs H Q=>∃ z,xs=[.str z]∧z.length≤sizeLine∧Q (.int z.length) H) lW:=fun {p S H as c xs Q} s ra e k=>by
 unfold lW at e
 split at e
 ·rename_i x
  split at e
  ·rename_i h
   cases e
   rw [← fJ] at h
   cases ra with
   | cons h1 t =>
    cases t
    exact ⟨x,by rw [h1.str],h,k H _ (cA.refl H) (fL (v:=.int _) rfl)⟩
  ·cases e
 ·cases e
def kE:List PV→Option PV
 | [.int i]=>if i.natAbs.log2 < 1920 then some (.str (toString i)) else none
 | _=>none
theorem vX:CaR K (fun xs H Q=>∃ i,xs=[.int i]∧i.natAbs.log2 < 1920∧Q (.str (toString i)) H) kE:=fun {p S H as c xs Q} s ra e k=>by
 unfold kE at e
 split at e
 ·rename_i x
  split at e
  ·rename_i h
   cases e
   cases ra with
   | cons h1 t =>
    cases t
    exact ⟨x,by rw [h1.int],h,k H _ (cA.refl H) (nS _)⟩
  ·cases e
 ·cases e
theorem abC:gA X (.type "int") (fun xs H Q=>∃ x n,xs=[.str x]∧PySem.intText? x=some n∧x.length≤640∧Q (.int n) H):=by
 intro pins s σ H xs us Q I r h
 obtain ⟨x,n,rfl,hn,hl,q⟩:=h
 obtain ⟨u,rfl,t,rfl⟩:=gZ r
 exact PySem.W.KIN.call_text hn hl ⟨.int n,H,I.tok _,⟨_,rfl⟩,q⟩
def sB:List PV→Option PV
 | [.str x]=>if x.length≤640 then (PySem.intText? x).map .int else none
 | _=>none
theorem aiW:CaR K (fun xs H Q=>∃ x n,xs=[.str x]∧PySem.intText? x=some n∧x.length≤640∧Q (.int n) H) sB:=fun {p S H as c xs Q} s ra e k=>by
 unfold sB at e
 split at e
 ·rename_i x
  split at e
  ·rename_i h
   cases z:PySem.intText? x with
   | none=>rw [z] at e; cases e
   | some n =>
    rw [z] at e
    cases e
    cases ra with
    | cons h1 t =>
     cases t
     exact ⟨x,n,by rw [h1.str],z,h,k H _ (cA.refl H) (fL (v:=.int _) rfl)⟩
  ·cases e
 ·cases e
theorem ad2 {h:Heap} {sl:Addr} {vl vu:Value} {lo hi:Option Int} (hs:h.IsSliceOf sl vl vu .none) (pl:IsPart vl lo) (pu:IsPart vu hi):∃ l u:Option (Int × Tok),h.IsSlice sl l u none∧l.map (·.1)=lo∧u.map (·.1)=hi:=by
 obtain ⟨o,e,c,d⟩:=hs
 cases pl with
 | none =>
  cases pu with
  | none=>exact ⟨none,none,⟨o,e,c,d⟩,rfl,rfl⟩
  | int j u=>exact ⟨none,some (j,u),⟨o,e,c,d⟩,rfl,rfl⟩
 | int i t =>
  cases pu with
  | none=>exact ⟨some (i,t),none,⟨o,e,c,d⟩,rfl,rfl⟩
  | int j u=>exact ⟨some (i,t),some (j,u),⟨o,e,c,d⟩,rfl,rfl⟩
theorem akw:SlR X (fun x lo hi H Q=>∃ z,x=.str z∧z.length≤sizeLine∧Q (.str (Txt.slice z lo hi)) H):=by
 intro pins s σ H x v vl vu lo hi sl Q I rx hs pl pu h
 obtain ⟨z,rfl,hz,q⟩:=h
 obtain ⟨t,rfl⟩:=rx
 obtain ⟨l,u,hs,rfl,rfl⟩:=ad2 hs pl pu
 refine ⟨"str",_,PySem.F.slot_str_getitem.lookup,typeIs_str _ _ _,?_⟩
 exact wpAny_getItem_str_slice hs rfl (post_val_or_str ⟨Nat.le_trans (Txt.slice_le z _ _) hz,fun t' k=>⟨.str _,H,I.tok _,⟨_,rfl⟩,q⟩⟩)
def alV (v:PV) (lo hi:Option Int):Option PV:=match v with
 | .str x=>if x.length≤16777216 then some (.str (Txt.slice x lo hi)) else none
 | _=>none
def mE (m:ME) (ml mh:MO):ME:=fun ρ S=>(m ρ S).bind fun v S1=>(ml ρ S1).bind fun lo S2=>(mh ρ S2).bind fun hi S3=>okO ((rd S3 v).bind fun x=>alV x lo hi) S3
theorem akE {lo hi:Option Expr} {ml mh:MO} {p2:Pos} (he:PEp K cl E X e m) (hl:POp K cl E X lo ml) (hu:POp K cl E X hi mh):PEp K cl E X (.Subscript e (.Slice lo hi none p2) pos) (mE m ml mh):=by
 intro hK
 subst hK
 refine (adD akw (he rfl) (hl rfl) (hu rfl)).imp fun σ H Q ⟨p,S,ρ,s,e,h⟩=>?_
 refine bR s e h fun q H1 a x S1 st s1 e1 r1 h1=>bR s1 e1 h1 fun q2 H2 lo lo' S2 st2 s2 e2 r2 h2=>bR s2 e2 h2 fun q3 H3 hi hi' S3 st3 s3 e3 r3 h3=>?_
 cases r2
 cases r3
 have ra:=st3.repA (st2.repA r1)
 obtain ⟨c,ec,k⟩:=lM s3 h3
 cases z:rd S3 a with
 | none=>rw [z] at ec; cases ec
 | some v =>
  rw [z] at ec
  have rv:=nI s3 ra z
  cases v with
  | str w =>
   have ec:(if w.length≤16777216 then some (PV.str (Txt.slice w lo hi)) else none)=some c:=ec
   split at ec
   ·rename_i hw
    cases ec
    rw [← fJ] at hw
    exact ⟨w,rv.str,hw,k _ _ (cA.refl _) (nS _)⟩
   ·cases ec
  | _=>cases ec
def MtS (X:Cx) (id:String) (f:Str→List PV→Option PV):Prop :=
 ∀ (pins:List (Addr × Obj)) (s:Shared) (σ:St) (H:Hp) (x:Str) (t:Tok) (as:List PV) (xs:List V) (us:List Value) (c:PV) (Q:VK),Inv X pins σ H s→bG xs us→(∃ p:Ph,aU X.K p.c H as xs)→f x as=some c →
  (∀ H' z,cA H H'→(∀ (p:Ph) S,Sim X.K p S H→aU X.K p.c H as xs→Rep X.K p.c H' c z)→Q z H')→wpAny (model X.prog X.w) X.A (call (.builtin id) (.str x t :: us)) (EP X pins σ Q) X.xe s
def dC {α:Type} (k:AV) (f:Str→Res α):Res α:=match k with
 | .pv (.str x)=>f x
 | _=>.fail
def dO (f:Str→List PV→Option PV) (m:ME) (ms:MA):ME:=fun ρ S=>(m ρ S).bind fun k S1=>dC k fun x=>(ms ρ S1).bind fun ys S2=>okO ((iV ys).bind (f x)) S2
theorem nG {name:Str} {id:String} {f:Str→List PV→Option PV} {es:List Expr} {apos cpos:Pos} (slot:Slot "str" name id) (hty:typeOf (.builtin id)=pure (.type "method_descriptor")) (hm:MtS X id f) (ho:PEp K cl E X a m) (ha:PAp K cl E X (e :: es) ms) (hbase:attributeBase a name X.env (eval a X.env)=eval a X.env:=by rfl)
  (hfew:((backTo cpos (starEach (e :: es) X.env)).all (fun x=>!x.1) && (backToKw cpos (keywordEach [] X.env)).all (fun x=>x.1.isSome)
   && decide ((e :: es).length+([]:List Keyword).length+(if ([]:List Keyword).isEmpty then 0 else 1) < 30))=true:=by rfl)
  (hline:(apos.endLine == cpos.line)=true:=by rfl) (hs:starEach (e :: es) X.env=(false,eval e X.env) :: starEach es X.env:=by rfl) (hplain:(backTo cpos (starEach es X.env)).any (·.1)=false:=by rfl) :
  PEp K cl E X (.Call (.Attribute a name apos) (e :: es) [] cpos) (dO f m ms):=by
 intro hK
 subst hK
 refine PE.imp (vY (r:=fun x xs H Q=>∃ (z:Str) (as:List PV) (c:PV),x=.str z∧(∃ p:Ph,aU X.K p.c H as xs)∧f z as=some c∧∀ H' y,cA H H'→(∀ (p:Ph) S,Sim X.K p S H→aU X.K p.c H as xs→Rep X.K p.c H' c y)→Q y H') PySem.F.plainAttrs_str slot hty (fun pins s σ H x xs v us Q I rx rs h=>?_) (ho rfl) (ha rfl) hbase hfew hline hs hplain) fun σ H Q ⟨p,S,ρ,s,ev,h⟩=>?_
 ·obtain ⟨z,as,c,rfl,hp,hf,k⟩:=h
  obtain ⟨t,rfl⟩:=rx
  exact hm pins s σ H z t as xs us c Q I rs hp hf k
 ·refine bR s ev h fun q H1 k x S1 st s1 e1 r1 h1=>?_
  unfold dC at h1
  split at h1
  ·rename_i z
   have ex:=(show dX X.K q H1 (.str z) x from .inl r1).str
   subst ex
   refine ⟨rfl,bR s1 e1 h1 fun q2 H2 ys xs S2 st2 s2 e2 r2 h2=>?_⟩
   obtain ⟨c,ec,k⟩:=lM s2 h2
   cases y:iV ys with
   | none=>rw [y] at ec; cases ec
   | some as =>
    rw [y] at ec
    have rr:=tK y r2
    exact ⟨z,as,c,rfl,⟨q2,rr⟩,ec,fun H' w sm hr=>k H' w sm (hr q2 S2 s2 rr)⟩
  ·exact h1.elim
theorem agh {c:PV} {H H':Hp} {as:List PV} {xs:List V} (h:pR c=true):∀ (p:Ph) S,Sim K p S H→aU K p.c H as xs→Rep K p.c H' c (toV c):=fun p S _ _=>fL h
theorem acO {c:Addr→Prop} {H:Hp} {y:Str} {xs:List V} (r:aU K c H [.str y] xs):xs=[.str y]:=by
 unfold aU at r
 obtain ⟨v,r1,rfl,h,t⟩:=r
 unfold aU at t
 subst t
 unfold Rep at h
 rw [h]
def jW (x:Str):List PV→Option PV
 | [.str y]=>some (.bl (Txt.startswith x y))
 | _=>none
theorem aeF:MtS X "str.startswith" jW:=by
 intro pins s σ H x t as xs us c Q I rs ⟨p,rp⟩ hf k
 unfold jW at hf
 split at hf
 ·rename_i y
  cases hf
  rw [acO rp] at rs
  obtain ⟨u,rfl,t',rfl⟩:=gZ rs
  exact SC.startswith ⟨.bl _,H,I,rfl,k H _ (cA.refl H) (agh (c:=.bl _) rfl)⟩
 ·cases hf
theorem yN:∀ l:List (Str × Tok),bG (l.map fun p=>V.str p.1) (strValues l)
 | []=>.nil
 | p :: l=>.cons ⟨p.2,rfl⟩ (yN l)
theorem yQ {c:Addr→Prop} {H:Hp}:∀ l:List Str,aU K c H (l.map PV.str) (l.map V.str)
 | []=>.nil
 | x :: l=>.cons (nS x) (yQ l)
def fH (x:Str):List PV→Option PV
 | [.str y]=>if y.length≠0∧x.length+2≤16777216 then some (.lst ((Txt.split x y).map .str)) else none
 | _=>none
theorem ae6 (x y:Str):(Txt.split x y).length≤x.length+2:=by
 unfold Txt.split
 split
 ·simp
 ·split
  ·simp
  ·have e1:=StrLaws.occ_length_le x y 0 x.length (x.length+1)
   rw [PySem.length_partsBetween]
   omega
theorem qW:MtS X "str.split" fH:=by
 intro pins s σ H x t as xs us c Q I rs ⟨p,rp⟩ hf k
 unfold fH at hf
 split at hf
 ·rename_i y
  split at hf
  ·rename_i hp
   cases hf
   rw [acO rp] at rs
   obtain ⟨u,rfl,t',rfl⟩:=gZ rs
   have hl:=ae6 x y
   have hz:((Txt.split x y).map V.str).length≤sizeLine:=by rw [List.length_map,fJ]; omega
   have hn:(Builtin.Str.partsBetween x (Builtin.Str.occurrences x y 0 x.length (x.length+1)) y.length).length≤sizeLine:=by
    have e1:=StrLaws.occ_length_le x y 0 x.length (x.length+1)
    rw [PySem.length_partsBetween,fJ]; omega
   have fin:∀ (l:List (Str × Tok)) (n:Nat) (h':Heap) (tk:Nat),l.map (·.1)=Txt.split x y→h'=s.heap.push { cls:=.type "list",data:=.seq (strValues l).toArray }→EP X pins σ Q (.ref s.heap.objs.size) { s with heap:=h',toks:=tk }:=fun l n h' tk el eh=>by
    have ev:(Txt.split x y).map V.str=l.map fun p=>V.str p.1:=by rw [← el,List.map_map]; rfl
    subst eh
    refine ⟨.ref s.heap.objs.size,_,I.laid (o:=.lst ((Txt.split x y).map V.str)) (fun b ob q=>Heap.get?_push_of_some _ q) (Nat.le_refl _) ⟨hz,_,0,by rw [ev]; exact yN l,Heap.get?_push_size _ rfl⟩,rfl,?_⟩
    have hnone:=I.hok.fresh (Nat.le_refl s.heap.objs.size)
    refine k _ _ (fK hnone) fun p S sm _=>?_
    exact mZ sm (yQ _) hz hnone
   cases h1:(decide (x.length < y.length) || decide (Builtin.Str.strKind x < Builtin.Str.strKind y))
   ·cases hf:(Builtin.Str.occurrences x y 0 x.length (x.length+1)).isEmpty
    ·refine call_meets PySem.F.slot_str_split (typeIs_str _ _ _) PySem.F.entry_str_split (PySem.F.args_str_split_2 _ _) (meets_str_split_sep x y t t' h1 (by simpa using hp.1) hf (by rw [fJ]; omega) hn) ?_
     rw [strsFrom_eq]
     exact fin (numbered s.toks _) 0 _ _ ((numbered_texts _ _).trans ((if_neg (ne_true_of_eq_false h1)).trans (if_neg (ne_true_of_eq_false hf))).symm) rfl
    ·exact call_meets PySem.F.slot_str_split (typeIs_str _ _ _) PySem.F.entry_str_split (PySem.F.args_str_split_2 _ _) (meets_str_split_not_found x y t t' h1 (by simpa using hp.1) hf)
      (fin [(x,t)] 0 _ s.toks ((if_neg (ne_true_of_eq_false h1)).trans (if_pos hf)).symm rfl)
   ·exact call_meets PySem.F.slot_str_split (typeIs_str _ _ _) PySem.F.entry_str_split (PySem.F.args_str_split_2 _ _) (meets_str_split_cannot_occur x y t t' h1)
     (fin [(x,t)] 0 _ s.toks (if_pos h1).symm rfl)
  ·cases hf
 ·cases hf
end
end L2.Pp
namespace L2
open PySem PySem.Spec PyProof.Rows Bn
def Itx (x:Str):It:=⟨fun i _=>i < x.cps.size,fun i H v H'=>H'=H∧∃ c,x.cps[i]?=some c∧v=.str ⟨#[c]⟩,fun i _=>x.cps.size≤i⟩
theorem af6 {P:Program} {w:World} {K:PySem.W.Frag} {tg:Expr} (x:Str) (t:Tok) (it:Addr):nU P w K tg (Itx x) [it] it (fun i h=>h.IsStrIter it "str_ascii_iterator" x t i) where
 mem:=by simp
 obj:=fun i h st b hb=>by
  have e:b=it:=by simpa using hb
  subst e
  obtain ⟨o,e,c,d⟩:=st
  exact ⟨o,e,fun v z=>by rw [d] at z; cases z⟩
 keep:=fun i h h' st k=>by
  obtain ⟨o,e,c,d⟩:=st
  exact ⟨o,k it (by simp) o e,c,d⟩
 item:=by
  intro X hP hw hK hc i pins s σ H E I hf st hg
  subst hP hw hK
  have hg:i < x.cps.size:=hg
  obtain ⟨f0,f1,f2,f3,f4,f5⟩:=hf it (by simp)
  have hx:x.cps[i]?=some x.cps[i]:=Array.getElem?_eq_getElem hg
  refine wpAny_pyNext_ascii_item st hx fun h' st' sb=>?_
  have I1:Inv X pins σ H { s with heap:=h',toks:=s.toks+1 }:=I.turned (fun b o hb e=>(sb.2 b hb).trans e) f0 f1 f3 f4 f5
  obtain ⟨o,e,c,d⟩:=id st'
  exact ⟨_,rfl,wC (s:={ s with heap:=h',toks:=s.toks+1 }) e c d (by decide) ⟨.str ⟨#[x.cps[i]]⟩,H,I1,⟨_,rfl⟩,⟨rfl,_,hx,rfl⟩,st',fun b hb=>(hf b hb).1⟩⟩
 done:=by
  intro X hP hw hK hc i pins s σ H E I hf st hg
  subst hP hw hK
  have hg:x.cps.size≤i:=hg
  obtain ⟨f0,f1,f2,f3,f4,f5⟩:=hf it (by simp)
  exact wpAny_pyNext_ascii_end (I.ok.hd hc) st (Array.getElem?_eq_none hg) fun h' eb=>⟨rfl,I.turned (t':=s.toks) (fun b o hb e=>eb b o hb e) f0 f1 f3 f4 f5⟩
 self:=fun _ _ _ _ _ st h=>wpAny_pyIter_striter_ascii st h
def PEx (X:Cx) (e:Expr) (te:XK→TE):Prop :=
 ∀ (pins:List (Addr × Obj)) (s:Shared) (σ:St) (H:Hp) (Q:VK) (E:XK) (Ex:Value→Shared→Prop),Inv X pins σ H s→te E σ H Q →
  (∀ s1 H1 e' s',Inv X pins σ H1 s1→CX1 X.prog X.w X.stack H1 s1 E e' s'→Ex e' s')→wpAny (model X.prog X.w) X.A (eval e X.env) (EP X pins σ Q) Ex s
section
variable {X:Cx} {k:Nat} {f:Addr} {fd:FuncData} {ps:List Str} {sp:Sp} {dvs:List V} {ds:List Value} {x:Str} {p pos pos1 pos2 pos3 pc:Pos} {e a:Expr} {es:List Expr} {t:TA} {ta:TE} {te:XK→TE} {c n:Str} {C:Addr} {i:Nat} {b₀:Stmt} {body:List Stmt} {newId:String}
theorem ags (hxe:X.xe=fun _ _=>False) (F:bF X.prog X.w X.K X.mg X.base (CX1 X.prog X.w) k f fd ps sp) (hr:cZ k X.A) (hg:Gl X x) (hm:X.mg x=some (.ref f)) (hkp:PySem.W.keepIn X.K (.ref f)=true)
  (hb:eY X.K fd ps ds) (hd:bG dvs ds) (ha:PA X (e :: es) t)
  (hdb:(x == ("__debug__":Str))=false:=by decide) (he:starEach (e :: es) X.env=(false,eval e X.env) :: starEach es X.env:=by rfl) (hpl:(backTo pos (starEach es X.env)).any (·.1)=false:=by rfl) :
  PEx X (.Call (.Name x p) (e :: es) [] pos) (fun E σ H Q=>t σ H fun vs H1=>sp (vs++dvs) H1 Q E) :=
 fun pins s σ H Q E Ex I h hx=>agf hxe F hr hg hm hkp hb hd ha I h hx hdb he hpl
theorem af2 {x1} (hxe:X.xe=fun _ _=>False) (ha:PE X a ta) (he:PEx X e te)
  (hs:starEach [a,e] X.env=[(false,eval a X.env),(false,eval e X.env)]:=by rfl) :
  PEx X (.Tuple [a,e] x1 pos) (fun E σ H Q=>ta σ H fun u H1=>te E σ H1 fun v H2=>∀ t,H2 t=none→Q (.ref t) (upd H2 t (.tup [u,v]))):=by
 intro pins s σ H Q E Ex I h hx
 refine wpAny_Tuple_spliced ?_
 rw [hs]
 show wpAny _ _ (spliced ((false,eval a X.env) :: [(false,eval e X.env)])) _ _ s
 refine Calls.spliced_cons (wpAny_mono (ha pins s σ H _ I h) (fun u s1 ⟨x,H1,I1,r1,q1⟩=>?_) fun _ _ z=>by rw [hxe] at z; exact z.elim)
 refine Calls.spliced_cons (wpAny_mono (he pins s1 σ H1 _ E Ex I1 q1 hx) (fun v s2 ⟨y,H2,I2,r2,q2⟩=>?_) fun _ _ z=>z)
 refine Calls.spliced_nil ⟨by show 2≤sizeLine; decide,?_⟩
 have hf:H2 s2.heap.objs.size=none:=I2.hok.fresh (Nat.le_refl _)
 refine ⟨.ref s2.heap.objs.size,upd H2 s2.heap.objs.size (.tup [x,y]),I2.laid (t':=s2.toks) (fun b u e=>Heap.get?_push_of_some _ e) (Nat.le_refl _) ?_,rfl,q2 _ hf⟩
 exact ⟨by show 2≤sizeLine; decide,[u,v],.cons r1 (.cons r2 .nil),⟨_,Heap.get?_push_size _ rfl,rfl,_,rfl⟩⟩
end
end L2
namespace L2.Pp
open PySem PySem.Spec PyProof.Rows Bn
section
variable {K:PySem.W.Frag} {cl:Str→Addr} {E:XK} {X:Cx} {a b c e:Expr} {m mc:ME} {ms:MA} {pos:Pos} {tg:Expr} {ma mb:ME}
def chs (x:Str):List PV:=x.cps.toList.map fun c=>.str ⟨#[c]⟩
def vQ:AV→Sto→Res (List PV × Gd)
 | .pv (.str x),S=>if x.cps.all (· < 128)=true∧x.length≤16777216 then .ok (chs x,[]) S else .fail
 | _,_=>.fail
def sJ (m:ME):MI:=fun ρ S=>(m ρ S).bind vQ
theorem ajS {p:Ph} {H:Hp} {x:Str} (hz:x.length≤16777216):eC K p H (chs x,[]) (Itx x):=by
 have hl:(chs x).length=x.cps.size:=by unfold chs; rw [List.length_map,Array.length_toList]
 refine ⟨by show (chs x).length≤sizeLine; rw [hl,fJ]; exact hz,fun q H1 S1 st _ _=>⟨fun i v e=>?_,?_⟩⟩
 ·have e:(chs x)[i]?=some v:=e
  unfold chs at e
  rw [List.getElem?_map] at e
  cases z:x.cps.toList[i]? with
  | none=>rw [z] at e; cases e
  | some d =>
   rw [z] at e
   cases e
   have z:x.cps[i]?=some d:=by simpa using z
   refine ⟨(Array.getElem?_eq_some_iff.mp z).1,fun y H2 hy=>?_⟩
   obtain ⟨rfl,d',e1,rfl⟩:=hy
   rw [z] at e1
   cases e1
   exact ⟨cA.refl _,nS _⟩
 ·show x.cps.size≤(chs x).length
  rw [hl]
  exact Nat.le_refl _
theorem ahx (h:PEp K cl E X e m):PIp K cl E X tg e (sJ m):=by
 intro hK
 subst hK
 intro pins s σ H R I hh
 obtain ⟨p,S,ρ,sm,ev,hh⟩:=hh
 have z:=h rfl pins s σ H (fun x H1=>∃ y,x=.str y∧y.cps.all (· < 128)=true∧R (Itx y) H1) I (bR sm ev hh fun q H' v x S' stp sm ev r k=>by
  unfold vQ at k
  split at k
  ·rename_i y
   split at k
   ·rename_i hy
    exact ⟨y,(show dX X.K q H' (.str y) x from .inl r).str,hy.1,bP.ret (R:=eC X.K) k sm (ajS hy.2)⟩
   ·exact k.elim
  ·exact k.elim)
 refine thn z fun v s1 ⟨x,H1,I1,r1,y,e,ha,q⟩=>?_
 subst e
 obtain ⟨t,rfl⟩:=r1
 refine wpAny_pyIter_ascii ha ?_
 refine ⟨s1.heap.objs.size,[s1.heap.objs.size],_,_,H1,rfl,I1.kept (t':=s1.toks) fun b o e=>Heap.get?_push_of_some _ e,af6 y t _,⟨_,Heap.get?_push_size _ rfl,rfl,rfl⟩,fun b hb=>?_,q⟩
 have e:b=s1.heap.objs.size:=by simpa using hb
 subst e
 exact I1.fpOk (Nat.le_refl _) (I1.hok.fresh (Nat.le_refl _))
def jZ (f f':PV→PV→Option PV) (ma mb mc:ME):ME:=fun ρ S=>(ma ρ S).bind fun x S1=>(mb ρ S1).bind fun y S2=>(fT f x y S2).bind fun z S3=>match z with
 | .pv (.bl true)=>(mc ρ S3).bind fun w S4=>fT f' y w S4
 | .pv (.bl false)=>.ok (.pv (.bl false)) S3
 | _=>.fail
theorem ac0 {op op':CmpOp} {r r':R2} {f f':PV→PV→Option PV} (ho:OpR X (compareOp op) r) (hf:OpS X.K r f) (ho':OpR X (compareOp op') r') (hf':OpS X.K r' f') (ha:PEp K cl E X a ma) (hb:PEp K cl E X b mb) (hc:PEp K cl E X c mc)
  (hm:lastMarks [op,op'] [b,c]=false:=by with_unfolding_all rfl):PEp K cl E X (.Compare a [op,op'] [b,c] pos) (jZ f f' ma mb mc):=by
 intro hK
 subst hK
 refine PE.imp (af7 ho ho' (ha rfl) (hb rfl) (hc rfl) hm) fun σ H Q ⟨p,S,ρ,s,e,h⟩=>?_
 refine bR s e h fun q H1 x x' S1 st s1 e1 r1 h1=>bR s1 e1 h1 fun q2 H2 y y' S2 st2 s2 e2 r2 h2=>?_
 cases z:fT f x y S2 with
 | fail=>rw [z] at h2; exact h2.elim
 | exc n S3 =>
  exfalso
  unfold fT at z
  cases w:((rd S2 x).bind fun x=>(rd S2 y).bind fun y=>f x y) with
  | none=>rw [w] at z; cases z
  | some u=>rw [w] at z; cases z
 | ok u S3 =>
  rw [z] at h2
  simp only [Res.bind] at h2
  have eS:S3=S2:=by
   unfold fT at z
   cases w:((rd S2 x).bind fun x=>(rd S2 y).bind fun y=>f x y) with
   | none=>rw [w] at z; cases z
   | some u=>rw [w] at z; cases z; rfl
  subst eS
  refine oN (cl:=cl) (E:=E) hf s2 (st2.repA r1) r2 ?_
  rw [z]
  intro q3 H3 w st3 s3 r3
  have e3:=st3.repE e2
  have ry:=st3.repA r2
  split at h2
  ·have:w=.bl true:=sC r3 rfl
   subst this
   refine ⟨true,rfl,if_pos rfl ▸ ?_⟩
   refine ⟨q3,S3,ρ,s3,e3,?_⟩
   have h2:bP X.K cl (bX X.K) q2 H2 ((mc ρ S3).bind fun w S4=>fT f' y w S4) Q E:=h2
   cases zc:mc ρ S3 with
   | fail=>rw [zc] at h2; exact h2.elim
   | exc n S4=>
    rw [zc] at h2
    intro q4 H4 st4 s4
    exact h2 q4 H4 (st3.trans st4) s4
   | ok v S4 =>
    rw [zc] at h2
    intro q4 H4 v' st4 s4 r4
    refine oN (cl:=cl) (E:=E) hf' s4 (st4.repA ry) r4 ?_
    exact bP.mono h2 (st3.trans st4)
  ·have:w=.bl false:=sC r3 rfl
   subst this
   refine ⟨false,rfl,?_⟩
   show Q (.bl false) H3
   exact h2 q3 H3 _ st3 s3 (by show Rep X.K q3.c H3 _ _; unfold Rep; rfl)
  ·exact h2.elim
theorem uG {x:Str}:∀ c H,Rep K c H (.str x) (.str x):=fun c H=>nS x
end
end L2.Pp
namespace L2.Pp
open PySem PySem.Spec PyProof.Rows Bn
section
variable {K:PySem.W.Frag} {cl:Str→Addr} {E:XK} {X:Cx} {e a:Expr} {es:List Expr} {ms:MA} {ma me:ME} {p q:Ph} {H H':Hp} {S:Sto}
variable {k:Nat} {f:Addr} {fd:FuncData} {ps:List Str} {g:FM} {dvs:List V} {ds:List Value} {dv:List PV} {x:Str} {pp pos pos1 pos2 pos3 pc:Pos} {c n:Str} {i nn:Nat} {b₀:Stmt} {body:List Stmt} {newId:String} {up:Rho→Rho}
variable (K cl X)
def PXp (e:Expr) (m:ME):Prop:=X.K=K→PEx X e fun E=>tP K cl E (bX K) m
variable {K cl X}
def pH (f:FM) (ds:List PV) (ms:MA):ME:=fun ρ S=>(aL (ms ρ S)).bind fun xs S1=>frz S1.length (f (xs++ds.map .pv) S1)
def pP (ma me:ME):ME:=fun ρ S=>(aL (ma ρ S)).bind fun u S1=>(me ρ S1).bind fun v S2=>pM eV [u,v] S2
theorem PEx.imp {te te':XK→TE} (h:PEx X e te) (i:∀ E σ H Q,te' E σ H Q→te E σ H Q):PEx X e te':=fun pins s σ H Q E Ex I q hx=>h pins s σ H Q E Ex I (i E σ H Q q) hx
theorem ahT (hxe:X.xe=fun _ _=>False) (F:bF X.prog X.w X.K X.mg X.base (CX1 X.prog X.w) k f fd ps (spP K cl g)) (hr:cZ k X.A) (hg:Gl X x) (hm:X.mg x=some (.ref f)) (hkp:PySem.W.keepIn X.K (.ref f)=true)
  (hb:eY X.K fd ps ds) (hd:bG dvs ds) (hv:Dv dv dvs) (ha:PAp K cl E0 X (e :: es) ms)
  (hdb:(x == ("__debug__":Str))=false:=by decide) (he:starEach (e :: es) X.env=(false,eval e X.env) :: starEach es X.env:=by rfl) (hpl:(backTo pos (starEach es X.env)).any (·.1)=false:=by rfl) :
  PXp K cl X (.Call (.Name x pp) (e :: es) [] pos) (pH g dv ms):=by
 intro hK
 refine PEx.imp (ags hxe F hr hg hm hkp hb hd (ha hK) hdb he hpl) fun E σ H Q ⟨p,S,ρ,s,ev,h⟩=>?_
 refine ⟨p,S,ρ,s,ev,?_⟩
 unfold pH at h
 cases z:ms ρ S with
 | ok xs S1 =>
  rw [z] at h
  intro q H1 vs st sm r
  exact ⟨q,S1,xs++dv.map .pv,sm,oH r (hv K q H1),rB sm (bP.mono h st)⟩
 | exc m S1=>rw [z] at h; exact h.elim
 | fail=>rw [z] at h; exact h.elim
theorem ahZ {x1} (hxe:X.xe=fun _ _=>False) (ha:PEp K cl E0 X a ma) (he:PXp K cl X e me)
  (hs:starEach [a,e] X.env=[(false,eval a X.env),(false,eval e X.env)]:=by rfl):PXp K cl X (.Tuple [a,e] x1 pos) (pP ma me):=by
 intro hK
 refine PEx.imp (af2 hxe (ha hK) (he hK) hs) fun E σ H Q ⟨p,S,ρ,s,ev,h⟩=>?_
 refine ⟨p,S,ρ,s,ev,?_⟩
 unfold pP at h
 cases z:ma ρ S with
 | exc m S1=>rw [z] at h; exact h.elim
 | fail=>rw [z] at h; exact h.elim
 | ok u S1 =>
  rw [z] at h
  have h:bP K cl (bX K) p H ((me ρ S1).bind fun v S2=>pM eV [u,v] S2) Q E:=h
  intro q H1 u' st sm r
  refine ⟨q,S1,ρ,sm,st.repE ev,?_⟩
  cases z2:me ρ S1 with
  | fail=>rw [z2] at h; exact h.elim
  | exc n S2 =>
   rw [z2] at h
   intro q2 H2 st2 sm2
   exact h q2 H2 (st.trans st2) sm2
  | ok v S2 =>
   rw [z2] at h
   have h:bP K cl (bX K) p H (pM eV [u,v] S2) Q E:=h
   intro q2 H2 v' st2 sm2 r2 t ht
   have h:=bP.mono h (st.trans st2)
   refine yX (r:=fun xs H Q=>xs.length≤sizeLine∧∀ t,H t=none→Q (.ref t) (upd H t (.tup xs))) (f:=eV) (fun {p S H as c xs Q} s r e k=>?_) sm2 (.cons (st2.repA r) (.cons r2 .nil)) h |>.2 t ht
   unfold eV at e
   split at e
   ·rename_i hl
    cases e
    rw [r.length,← fJ] at hl
    exact ⟨hl,fun t ht=>k _ _ (fK ht) (kK s r hl ht)⟩
   ·cases e
theorem abQ {c:Addr→Prop}:∀ {vs:List PV},(∀ v∈vs,pR v=true)→aU K c H vs (vs.map toV)
 | [],_=>.nil
 | v :: vs,h=>.cons (fL (h v List.mem_cons_self)) (abQ fun u hu=>h u (List.mem_cons_of_mem _ hu))
theorem cV.setT {ρ:Rho} {σ:St} (s:Sim K p S H) (ev:cV K p H ρ σ) {t:Addr} (ht:H t=none) {vs:List PV} (fl:∀ v∈vs,pR v=true) (hl:vs.length≤sizeLine) (i:Nat):cV K p (upd H t (.tup (vs.map toV))) (ρ.set i (some (.pv (.tup vs)))) (σ.set i (some (.ref t))) :=
 ((s.same (fK ht)).repE ev).set (v:=.pv (.tup vs)) (x:=.ref t) (kK s (abQ fl) (by rw [List.length_map]; exact hl) ht) i
def pQ (me:ME) (c:Str) (nn j:Nat) (up:Rho→Rho):MS:=fun ρ S=>if ρ.length=nn then (match me ρ S with
 | .ok v S2=>.nx (ρ.set j (some v)) S2
 | .exc n S2=>if n=c then .nx (up ρ) S2 else .fail
 | .fail=>.fail) else .fail
end
end L2.Pp
namespace L2.Pp
open PySem PySem.Spec PyProof.Rows Bn
section
variable {K:PySem.W.Frag} {cl:Str→Addr} {E:XK} {X:Cx} {a b:Expr} {ma mb:ME} {pos:Pos}
theorem ahS {m:ME} {σ:St} {H:Hp} {Q:VK} (z:tP X.K cl E (bX X.K) (mUn hU m) σ H Q):alP (tP X.K cl E (bX X.K) m) σ H Q:=by
 obtain ⟨p,S,ρ,s,ev,h⟩:=z
 refine bR s ev h fun q H' as x S' stp sm ev r k=>?_
 refine tR (r:=fun x H Q=>Q (.bl (decide (x=.non))) H) (f:=hU) (fun {p S H a c x Q} s ra e k=>?_) sm r k
 have z:c=.bl (decide (x=.non)):=by
  cases a with
  | non=>cases ra.non; cases e; rfl
  | int i=>cases ra.int; cases e; rfl
  | bl i=>cases ra.bl; cases e; rfl
  | str i=>cases ra.str; cases e; rfl
  | tup xs=>obtain ⟨a,vs,rfl,_⟩:=ra.tup; cases e; rfl
  | lst xs=>obtain ⟨a,vs,rfl,_⟩:=ra.lst; cases e; rfl
 subst z
 exact k H _ (cA.refl H) (by unfold Rep; rfl)
theorem ad6 {m:ME} {j pos'} (ha:PEp K cl E X a m):PTp K cl E X (.Compare a [.Is] [.Constant .none j pos'] pos) (bD (mUn hU m)):=by
 intro hK
 subst hK
 refine (ajN (aju (ha rfl))).imp fun σ H Q ⟨p,S,ρ,s,e,h⟩=>?_
 have z:tP X.K cl E (bX X.K) (mUn hU m) σ H fun x H'=>∃ k,x=.bl k∧Q k H':=bR s e h fun q H1 a x S1 st s1 e1 r1 h1=>zJ s1 r1 h1
 exact ahS z
end
end L2.Pp
namespace L2
open PySem PySem.Spec PyProof.Rows Bn
section
variable {X:Cx} {k:Nat} {p pos pos1 pos2 pos3 pc:Pos} {e:Expr} {te:XK→TE} {c:Str} {C:Addr} {b₀:Stmt} {body:List Stmt} {newId:String}
theorem ah4 {jv:Nat} {xv:Str} {posv:Pos} {ts:TS} (stk:X.stack=X.env :: X.outer) (hN:X.N.Nodup)
  (hgc:Gl X c) (hmc:X.mg c=some (.ref C)) (hxC:PySem.W.excIn X.K C eT newId=true) (he:PEx X e te)
  (hjv:X.N[jv]?=some xv) (hxv:Loc X.env.scope xv) (hs:∀ y,PSs (X.mk1 y []) (b₀ :: body) ts)
  (hsw:swapsWith e (some (.Name xv posv)) pos1.line X.env=pure false:=by rfl)
  (hfv:X.fn xv=true∨X.env.scope.names.lookup xv=some .local:=by first | exact .inl rfl | exact .inr rfl | assumption)
  (hfr:X.env.frame=some X.env.locals:=by rfl)
  (hdc:(c == ("__debug__":Str))=false:=by decide) :
  PS X (.Try [.Assign [.Name xv posv] e pos1] [.ExceptHandler (some (.Name c pc)) none (b₀ :: body) pos2] [] [] pos3)
   (fun D σ H=>te (fun cls _ H2=>cls=.ref C∧ts D σ H2) σ H (fun v H2=>D.nx (σ.set jv (some v)) H2)):=by
 intro pins s σ H D I h
 refine wpAny_Try_except (wpAny_execs_cons (wpAny_Assign_Name (wpAny_mono (he pins s σ H _ _ _ I h (fun s1 H1 e' s' I1 cx=>?_)) (fun v s1 q=>?_) fun e' s1 z=>z) hsw))
 rotate_left
 ·obtain ⟨v,H1,I1,rv,q⟩:=q
  exact mX I1 hN hjv hxv rv (fun s2 I2=>wpAny_execs_nil (wpAny_execs_nil ⟨_,H1,I2,q⟩)) hfv
 obtain ⟨y,C',tt,B,H',rfl,os,bare,un,hok,fl,cov,hE⟩:=cx
 obtain ⟨hC',hts⟩:=hE
 cases hC'
 rw [stk] at fl
 have fr:∀ b∈frs X.stack,H' b=none:=fun b hb=>by
  obtain ⟨_,o,ho,hd⟩:=I1.stack.mem hb
  exact un.free b o ho (I1.stkFree b hb) (by intro z; cases z)
 have ff:X.A.frames=some (X.env :: X.outer):=by rw [I.ok.frames,stk]
 refine wpAny_looks_onW (base:=B) ff hfr fl fun h2 held up2=>?_
 refine wpAny_landsW (base:=B) held fun h3 fl3 up3=>?_
 have up:=afP up2 up3
 have I3:=I1.flown os bare un hok cov fr fl3.1 up
 refine wpAny_handleBy_cons ?_ (by intro z; cases z)
 refine codeAny_handlers_test (rE (X:=X.mk1 y []) (I3.mk1 y [] fun p hp=>nomatch hp) hgc hmc ?_ hdc)
 obtain ⟨bm,Nn,nm,qn,bs,hdct,sn,sub,ab,col,dd,k0,k1,k2,k3,k5,mN,hC,hNs,hni,T⟩:=afL I.ok.mod.kin hxC
 obtain ⟨oe,vs,TT,oT,tts,hoe,⟨hcls,_⟩,hdat,_⟩:=fl3.2.2.2
 refine wpAny_excMatches_sub_self (I3.bk _ _ hC) hoe hcls (T.hasType (by decide)) ?_
 refine codeAny_handlers_suite (lands_againW (base:=B) fl3 fun h4 fl4 up4=>?_)
 have I4:=I1.flown os bare un hok cov fr fl4.1 (afP up up4)
 have I5:Inv (X.mk1 y []) pins σ H' _:=I4.mk1 y [] fun p hp=>nomatch hp
 refine wpAny_mono (hs y pins _ _ H' _ I5 hts) (fun fl s7 q7=>?_) fun _ _ z=>False.elim z
 cases fl with
 | next=>obtain ⟨σ',H7,I7,q⟩:=q7; exact ⟨_,_,I7.unmk1 I.ok,q⟩
 | brk=>obtain ⟨σ',H7,I7,q⟩:=q7; exact ⟨_,_,I7.unmk1 I.ok,q⟩
 | cont=>obtain ⟨σ',H7,I7,q⟩:=q7; exact ⟨_,_,I7.unmk1 I.ok,q⟩
 | ret u=>obtain ⟨v,σ',H7,I7,r,q⟩:=q7; exact ⟨v,_,_,I7.unmk1 I.ok,r,q⟩
end
end L2
namespace L2.Pp
open PySem PySem.Spec PyProof.Rows Bn
section
variable {K:PySem.W.Frag} {cl:Str→Addr} {E:XK} {X:Cx} {a b e:Expr} {m me:ME} {ms:MA} {pos pos1 pos2 pos3 pc:Pos} {c:Str} {nn:Nat} {b₀:Stmt} {body:List Stmt} {newId:String} {up:Rho→Rho}
theorem afS {jv:Nat} {xv:Str} {posv:Pos} {ts:TS} (stk:X.stack=X.env :: X.outer) (hN:X.N.Nodup)
  (hgc:Gl X c) (hmc:X.mg c=some (.ref (cl c))) (hxC:PySem.W.excIn X.K (cl c) eT newId=true) (he:PXp K cl X e me)
  (hjv:X.N[jv]?=some xv) (hxv:Loc X.env.scope xv) (hs:∀ y,PSs (X.mk1 y []) (b₀ :: body) ts)
  (hts:∀ (D:kD) (σ:St) (H:Hp) (p:Ph) (S:Sto) (ρ:Rho),Sim K p S H→σ.length=nn→cV K p H ρ σ→(∀ H' σ',cA H H'→cV K p H' (up ρ) σ'→D.nx σ' H')→ts D σ H)
  (hsw:swapsWith e (some (.Name xv posv)) pos1.line X.env=pure false:=by rfl)
  (hfv:X.fn xv=true∨X.env.scope.names.lookup xv=some .local:=by first | exact .inl rfl | exact .inr rfl | assumption)
  (hfr:X.env.frame=some X.env.locals:=by rfl)
  (hdc:(c == ("__debug__":Str))=false:=by decide) :
  PSp K cl E0 X (.Try [.Assign [.Name xv posv] e pos1] [.ExceptHandler (some (.Name c pc)) none (b₀ :: body) pos2] [] [] pos3) (pQ me c nn jv up):=by
 intro hK
 refine PS.imp (ah4 stk hN hgc hmc hxC (he hK) hjv hxv hs hsw hfv hfr hdc) fun D σ H ⟨p,S,ρ,s,ev,h⟩=>?_
 unfold pQ at h
 split at h
 ·rename_i hl
  refine ⟨p,S,ρ,s,ev,?_⟩
  cases z:me ρ S with
  | ok v S2 =>
   simp only [z] at h
   intro q2 H2 y st2 sm2 r2
   exact h q2 H2 _ st2 sm2 ((st2.repE ev).set r2 jv)
  | exc m S2 =>
   simp only [z] at h
   split at h
   ·rename_i hm
    subst hm
    intro q2 H2 st2 sm2
    refine ⟨rfl,hts D σ H2 q2 S2 ρ sm2 (by rw [← ev.len]; exact hl) (st2.repE ev) fun H' σ' hs e'=>h q2 H' σ' (st2.trans (sm2.same hs)) (sm2.ofSame hs) e'⟩
   ·exact h.elim
  | fail=>simp only [z] at h; exact h.elim
 ·exact h.elim
def kQ:List PV→Option (List Str)
 | []=>some []
 | .str x :: r=>match kQ r with
  | some xs=>some (x :: xs)
  | none=>none
 | _=>none
theorem abY {c:Addr→Prop} {H:Hp}:∀ {xs:List PV} {ts:List Str} {vs:List V},kQ xs=some ts→aU K c H xs vs→vs=ts.map V.str
 | [],ts,vs,e,r=>by
  unfold aU at r
  cases e
  exact r
 | x :: xs,ts,vs,e,r=>by
  unfold aU at r
  obtain ⟨v,r1,rfl,h,t⟩:=r
  unfold kQ at e
  split at e
  ·rename_i he; cases he
  ·rename_i y r' he
   cases he
   split at e
   ·rename_i ys hy
    cases e
    unfold Rep at h
    rw [h,abY hy t]
    rfl
   ·cases e
  ·cases e
theorem adq:∀ {ts:List Str} {its:List Value},bG (ts.map V.str) its→∃ l:List (Str × Tok),its=strValues l∧l.map (·.1)=ts
 | [],_,.nil=>⟨[],rfl,rfl⟩
 | t :: ts,_,.cons r v=>by
  obtain ⟨tk,rfl⟩:=r
  obtain ⟨l,rfl,rfl⟩:=adq v
  exact ⟨(t,tk) :: l,rfl,rfl⟩
theorem ah6:MtR X "str.join" (fun x vs H Q=>∃ (z:Str) (a:Addr) (ts:List Str),x=.str z∧vs=[.ref a]∧SqL X.K H a (ts.map V.str)∧JoinOk z ts=true∧Q (.str (Txt.join z ts)) H):=by
 intro pins s σ H x vs v us Q I rx rv h
 obtain ⟨z,a,ts,rfl,rfl,hq,hj,q⟩:=h
 obtain ⟨t,rfl⟩:=rx
 obtain ⟨u,rfl,ru⟩:=rv.one
 cases ru
 obtain ⟨its,r,pl,hz⟩:=I.list hq
 obtain ⟨l,rfl,hl⟩:=adq r
 exact SC.join pl.isList hl hj fun t' k=>⟨.str _,H,I.tok _,⟨_,rfl⟩,q⟩
def iT (z:Str):List PV→Option PV
 | [.lst xs]=>match kQ xs with
  | some ts=>if JoinOk z ts=true then some (.str (Txt.join z ts)) else none
  | none=>none
 | _=>none
theorem ad0 {z:Str} {as:List PV} {c:PV} (h:iT z as=some c):∃ zs ts,as=[.lst zs]∧kQ zs=some ts∧JoinOk z ts=true∧c=.str (Txt.join z ts):=by
 unfold iT at h
 split at h
 ·rename_i zs
  cases w:kQ zs with
  | none=>rw [w] at h; cases h
  | some ts =>
   rw [w] at h
   dsimp only at h
   split at h
   ·rename_i hj
    cases h
    exact ⟨zs,ts,rfl,w,hj,rfl⟩
   ·cases h
 ·cases h
def gO (m:ME) (ms:MA):ME:=fun ρ S=>(m ρ S).bind fun k S1=>dC k fun x=>(ms ρ S1).bind fun ys S2=>okO ((gS S2 ys).bind (iT x)) S2
theorem oS {apos cpos:Pos} (ho:PEp K cl E X a m) (ha:PAp K cl E X [e] ms) (hbase:attributeBase a "join" X.env (eval a X.env)=eval a X.env:=by rfl)
  (hfew:((backTo cpos (starEach [e] X.env)).all (fun x=>!x.1) && (backToKw cpos (keywordEach [] X.env)).all (fun x=>x.1.isSome) && decide (([e]:List Expr).length+([]:List Keyword).length+(if ([]:List Keyword).isEmpty then 0 else 1) < 30))=true:=by rfl)
  (hline:(apos.endLine == cpos.line)=true:=by rfl) (hs:starEach [e] X.env=[(false,eval e X.env)]:=by rfl):PEp K cl E X (.Call (.Attribute a "join" apos) [e] [] cpos) (gO m ms):=by
 intro hK
 subst hK
 refine PE.imp (vY PySem.F.plainAttrs_str PySem.F.slot_str_join PySem.F.type_str_join ah6 (ho rfl) (ha rfl) hbase hfew hline hs rfl) fun σ H Q ⟨p,S,ρ,s,ev,h⟩=>?_
 refine bR s ev h fun q H1 k x S1 st s1 e1 r1 h1=>?_
 unfold dC at h1
 split at h1
 ·rename_i z
  have ex:=(show dX X.K q H1 (.str z) x from .inl r1).str
  subst ex
  refine ⟨rfl,bR s1 e1 h1 fun q2 H2 ys xs S2 st2 s2 e2 r2 h2=>?_⟩
  obtain ⟨c,ec,kk⟩:=lM s2 h2
  cases y:gS S2 ys with
  | none=>rw [y] at ec; cases ec
  | some as =>
   rw [y] at ec
   have rr:=yJ s2 r2 y
   have ec:iT z as=some c:=ec
   obtain ⟨zs,ts,rfl,w,hj,rfl⟩:=ad0 ec
   cases rr with
   | cons h t =>
    cases t
    obtain ⟨b0,ws,rfl,sq,lw,rw0⟩:=h.lst
    rw [abY w rw0] at sq
    exact ⟨z,b0,ts,rfl,rfl,sq,hj,kk H2 _ (cA.refl H2) (nS _)⟩
 ·exact h1.elim
def wT:V→Bool
 | .non=>true
 | _=>false
def sI:Value→Bool
 | .none=>true
 | _=>false
def ItN (K:PySem.W.Frag) (H:Hp):V→Prop
 | .non=>True
 | .bl _=>True
 | .int _=>True
 | .str _=>True
 | .ref a=>(∃ xs,SqL K H a xs)∨∃ xs,SqT K H a xs
 | _=>False
theorem afc {H:Hp}:∀ {xs:List V} {us:List Value},bG xs us→(∀ v∈xs,ItN K H v)→us.any sI=xs.any wT
 | _,_,.nil,_=>rfl
 | y :: xs,u :: us,.cons r t,f=>by
  rw [List.any_cons,List.any_cons,afc t fun v hv=>f v (List.mem_cons_of_mem _ hv)]
  have h:=f y List.mem_cons_self
  cases y with
  | non=>cases r; rfl
  | bl b=>cases r; rfl
  | int i=>obtain ⟨t,rfl⟩:=r; rfl
  | str z=>obtain ⟨t,rfl⟩:=r; rfl
  | ref a=>cases r; rfl
  | _=>exact h.elim
theorem acf {pins:List (Addr × Obj)} {σ:St} {H:Hp} {s:Shared} (I:Inv X pins σ H s) {A:Around} (hu:A.units < cLine):∀ {xs:List V} {us:List Value},bG xs us→(∀ v∈xs,ItN X.K H v)→∀ u∈us,SeqAt.EqAt A s u .none (sI u)
 | _,_,.nil,_=>fun u hu=>by cases hu
 | y :: xs,u :: us,.cons r t,f=>fun u' hm=>by
  rcases List.mem_cons.mp hm with rfl | hm
  ·have h:=f y List.mem_cons_self
   cases y with
   | non=>cases r; exact SeqAt.EqAt.same _
   | bl b=>cases r; exact SeqAt.EqAt.bool_none b
   | int i=>obtain ⟨t,rfl⟩:=r; exact SeqAt.EqAt.int_none i t
   | str z=>obtain ⟨t,rfl⟩:=r; exact SeqAt.EqAt.str_none z t
   | ref a =>
    cases r
    rcases h with ⟨zs,h⟩ | ⟨zs,h⟩
    ·obtain ⟨its,_,pl,_⟩:=I.list h
     exact SeqAt.EqAt.list_none pl.isList hu
    ·obtain ⟨its,_,pl,_⟩:=I.tuple h
     exact SeqAt.EqAt.tuple_none pl hu
   | _=>exact h.elim
  ·exact acf I hu t (fun v hv=>f v (List.mem_cons_of_mem _ hv)) u' hm
def alQ (K:PySem.W.Frag):R2:=fun x y H Q=>∃ p xs,x=.non∧y=.ref p∧SqL K H p xs∧(∀ v∈xs,ItN K H v)∧Q (.bl (xs.any wT)) H
theorem aeE (hu:X.A.units+8 < cLine):OpR X (compareOp .In) (alQ X.K):=by
 intro pins s σ H x y v u Q I rx ry h
 obtain ⟨p,xs,rfl,rfl,hq,f,q⟩:=h
 cases rx
 cases ry
 obtain ⟨its,r,pl,hz⟩:=I.list hq
 refine SeqAt.in_listAt sI pl.isList (fun w hw=>acf I (A:=X.A.in1) (by show X.A.units+1 < cLine; omega) r f w (by simpa using hw)) ⟨.bl _,H,I,rfl,?_⟩
 rw [show its.toArray.any sI=its.any sI by simp,afc r f]
 exact q
def qD:PV→Bool
 | .non=>true
 | _=>false
theorem akl {c:Addr→Prop} {H:Hp} {v:PV} {x:V} (h:Rep K c H v x):ItN K H x∧wT x=qD v:=by
 cases v with
 | non=>unfold Rep at h; subst h; exact ⟨trivial,rfl⟩
 | bl b=>unfold Rep at h; subst h; exact ⟨trivial,rfl⟩
 | int i=>unfold Rep at h; subst h; exact ⟨trivial,rfl⟩
 | str z=>unfold Rep at h; subst h; exact ⟨trivial,rfl⟩
 | tup xs =>
  unfold Rep at h
  obtain ⟨a,vs,rfl,t,_,_⟩:=h
  exact ⟨.inr ⟨vs,t⟩,rfl⟩
 | lst xs =>
  unfold Rep at h
  obtain ⟨a,vs,rfl,t,_,_⟩:=h
  exact ⟨.inl ⟨vs,t.sq⟩,rfl⟩
theorem afq {c:Addr→Prop} {H:Hp}:∀ {xs:List PV} {vs:List V},aU K c H xs vs→(∀ v∈vs,ItN K H v)∧vs.any wT=xs.any qD
 | [],vs,r=>by
  unfold aU at r
  subst r
  exact ⟨fun v hv=>absurd hv List.not_mem_nil,rfl⟩
 | x :: xs,vs,r=>by
  unfold aU at r
  obtain ⟨v,r1,rfl,h,t⟩:=r
  obtain ⟨a,b⟩:=akl h
  obtain ⟨c1,d⟩:=afq t
  refine ⟨fun w hw=>?_,by rw [List.any_cons,List.any_cons,b,d]⟩
  rcases List.mem_cons.mp hw with rfl | hw
  ·exact a
  ·exact c1 w hw
def jT:PV→PV→Option PV
 | .non,.lst xs=>some (.bl (xs.any qD))
 | _,_=>none
theorem ahV:OpS K (alQ K) jT:=fun {p S H a b c x y Q} s ra rb e k=>by
 unfold jT at e
 split at e
 ·cases e
  obtain ⟨a1,vs,rfl,l1,z1,r1⟩:=rb.lst
  obtain ⟨f,g⟩:=afq r1
  refine ⟨a1,vs,ra.non,rfl,l1,f,?_⟩
  rw [g]
  exact k H _ (cA.refl H) (fL (v:=.bl _) rfl)
 ·cases e
end
end L2.Pp
namespace L2.Pp
open PySem PySem.Spec PyProof.Rows Bn
section
variable {M:Model} {A:Around} {E:Value→Shared→Prop} {s:Shared} {env:Env}
def acd (u:Value→Sem Unit) (M:Model) (A:Around) (E:Value→Shared→Prop) (Q:Value→Shared→Prop) (acc:Value) (c:Env):Result→Shared→Prop
 | .ok _,s'=>wpAny M A (u acc) (fun _ s''=>∃ m,s''.heap.Ns c.locals m∧∀ h',Heap.SameBut c.locals s''.heap h'→Q .none { s'' with heap:=h' }) E s'
 | .error x,s'=>∃ m,s'.heap.Ns c.locals m∧∀ h',Heap.SameBut c.locals s'.heap h'→wpAny M A (PySem.passOn "comprehension.variables-let-go" x c:Sem Value) (fun _ _=>False) E { s' with heap:=h' }
theorem afp {u:Value→Sem Unit} {e:Expr} {sc:Scope} {pos:Pos} {newAcc first:Sem Value} {g:Comprehension} {gs:List Comprehension} {cl:List (Str × Addr)} {Q:Value→Shared→Prop}
  (hc:clausesOf e=g :: gs) (hs:∀ x,foldedSetIterable g.iter env x=pure x) (hcl:closureFor sc env=pure cl) (hk:sc.kind=.function) (hn:∀ x∈sc.names,x.2=.local→sc.names.lookup x.1=some .local)
  (h:wpAny M A first (fun x s1=>wpAny M A (pyIter x) (fun it s2=>wpAny M A newAcc (fun acc s3=>wpAny M A (newFunctionEnv sc env.globals cl [] env.qual none .none (some env)) (fun c s4 =>
    codeAny M A (.compStart e 0 it acc { c with scope:=relabel sc env }) (acd u M A E Q acc { c with scope:=relabel sc env }) s4) E s3) E s2) E s1) E s) :
  wpAny M A (comprehension e sc env pos newAcc false first (some u)) Q E s:=by
 unfold comprehension
 rw [hcl,hc]
 refine wpAny_bind (thn h fun x s1 h1=>wpAny_bind (wpAny_standAt (wpAny_bind (wpAny_of_eq (hs x) (wpAny_bind (wpAny_holding (thn h1 fun it s2 h2=>?_)))))))
 refine wpAny_standIf (wpAny_bind (thn h2 fun acc s3 h3=>wpAny_bind (wpAny_pure (wpAny_bind (thn h3 fun c s4 h4=>?_)))))
 dsimp only
 have loc:∀ x∈(sc.names.filter fun x=>(x.2 == .local || x.2 == .cell) && x.1 != (".0":Str)).reverse,x.2=.local→Env.kindOf { c with scope:=relabel sc env } x.1=some .local:=fun x hx hl =>
  lookup_relabel_local (hn x (List.mem_filter.mp (List.mem_reverse.mp hx)).1 hl)
 have loc':∀ x∈(sc.names.filter fun x=>(x.2 == .local || x.2 == .cell) && x.1 != (".0":Str)).reverse.drop 1++(sc.names.filter fun x=>(x.2 == .local || x.2 == .cell) && x.1 != (".0":Str)).reverse.take 1,x.2=.local→Env.kindOf { c with scope:=relabel sc env } x.1=some .local:=fun x hx hl=>by
  rcases List.mem_append.mp hx with h1 | h1
  ·exact loc x (List.mem_of_mem_drop h1) hl
  ·exact loc x (List.mem_of_mem_take h1) hl
 refine wpAny_holding (wpAny_bind (wpAny_attempt (wpAny_holding (wpAny_run (codeAny_mono h4 fun r s' hr=>?_)))))
 cases r with
 | ok f =>
  refine wpAny_bind (wpAny_rule (wpAny_bind (wpAny_holding (wpAny_mono hr (fun _ s'' hr'=>?_) fun _ _ h'=>h'))))
  obtain ⟨m,hm,hr'⟩:=hr'
  exact wpAny_bind (wpAny_comp_letGo (cenv:={ c with scope:=relabel sc env }) hk _ s'' m loc' hm fun h' _ _ sb=>wpAny_pure (hr' h' sb))
 | error x =>
  obtain ⟨m,hm,hr⟩:=hr
  exact wpAny_bind (wpAny_holding (wpAny_comp_letGo (cenv:={ c with scope:=relabel sc env }) hk _ s' m loc hm fun h' _ _ sb=>wpAny_mono (hr h' sb) (fun _ _ z=>z.elim) fun _ _ y=>y))
end
end L2.Pp
namespace L2
open PySem PySem.Spec PyProof.Rows Bn L2.Pp
section
variable {P:Program} {w:World} {K:PySem.W.Frag} {mg:Str→Option Value} {base:Heap} {N:List Str} {qual:Str} {scope:Scope} {f:Addr} {cd:Value} {A:Around} {outer:List Env} {s₀:Shared} {H₀:Hp} {E:XK}
variable {sc:Scope} {own:List Str} {cap:List (Nat × Str)} {pins:List (Addr × Obj)} {σ:St} {H:Hp} {s:Shared} {elt target iter:Expr} {pos pos':Pos} {wi:TI} {g:TG} {te:TE} {Q:VK}
theorem acC {u:Value→Sem Unit} {Qf:Value→Shared→Prop} (k:gM (aS (CX1 P w) P w K mg base N qual scope f cd A outer s₀ H₀ E) sc own cap) (hi:PI (aS (CX1 P w) P w K mg base N qual scope f cd A outer s₀ H₀ E) target iter wi) (hc:(aS (CX1 P w) P w K mg base N qual scope f cd A outer s₀ H₀ E).calm=true)
  (hg:∀ C s₁ H₁ ex,PG (cD (aS (CX1 P w) P w K mg base N qual scope f cd A outer s₀ H₀ E) sc (bI own cap) C s₁ H₁ ex) target g) (he:∀ C s₁ H₁ ex E',iP (CX1 P w) ((cD (aS (CX1 P w) P w K mg base N qual scope f cd A outer s₀ H₀ E) sc (bI own cap) C s₁ H₁ ex).wish E') E→PE ((cD (aS (CX1 P w) P w K mg base N qual scope f cd A outer s₀ H₀ E) sc (bI own cap) C s₁ H₁ ex).wish E') elt te) (I:Inv (aS (CX1 P w) P w K mg base N qual scope f cd A outer s₀ H₀ E) pins σ H s) (h:nO own cap wi g te σ H Q)
  (fin:∀ D C s' H' m,Inv (aS (CX1 P w) P w K mg base N qual scope f cd A outer s₀ H₀ E) pins σ H' s'→eK (aS (CX1 P w) P w K mg base N qual scope f cd A outer s₀ H₀ E) pins H' C→s'.heap.Ns C m→Q (.ref D) H'→wpAny (model (aS (CX1 P w) P w K mg base N qual scope f cd A outer s₀ H₀ E).prog (aS (CX1 P w) P w K mg base N qual scope f cd A outer s₀ H₀ E).w) (aS (CX1 P w) P w K mg base N qual scope f cd A outer s₀ H₀ E).A (u (.ref D)) (fun _ s''=>∃ m,s''.heap.Ns C m∧∀ h',Heap.SameBut C s''.heap h'→Qf .none { s'' with heap:=h' }) (aS (CX1 P w) P w K mg base N qual scope f cd A outer s₀ H₀ E).xe s')
  (hs:∀ x,foldedSetIterable iter (aS (CX1 P w) P w K mg base N qual scope f cd A outer s₀ H₀ E).env x=pure x) :
  wpAny (model (aS (CX1 P w) P w K mg base N qual scope f cd A outer s₀ H₀ E).prog (aS (CX1 P w) P w K mg base N qual scope f cd A outer s₀ H₀ E).w) (aS (CX1 P w) P w K mg base N qual scope f cd A outer s₀ H₀ E).A (comprehension (.ListComp elt [⟨target,iter,[],0⟩] sc pos) sc (aS (CX1 P w) P w K mg base N qual scope f cd A outer s₀ H₀ E).env pos' (newList []) false (eval iter (aS (CX1 P w) P w K mg base N qual scope f cd A outer s₀ H₀ E).env) (some u)) Qf (aS (CX1 P w) P w K mg base N qual scope f cd A outer s₀ H₀ E).xe s:=by
 refine afp (u:=u) rfl hs (zZ (k.has I.ok)) k.kind k.names ?_
 refine thn (hi pins s σ H _ I h) fun v s1 h1=>thn h1 fun itv s2 h2=>?_
 obtain ⟨it,fp,tn,J,H2,e,I2,T,st2,f2,hW⟩:=h2
 subst e
 refine wpAny_newObj_type (wpAny_newFunctionEnv k.nocell (fun y hy=>nomatch hy) (fun h4 hns hsb=>?_) k.kind)
 have I3:Inv (aS (CX1 P w) P w K mg base N qual scope f cd A outer s₀ H₀ E) pins σ (upd H2 s2.heap.objs.size (.lst [])) { s2 with heap:=s2.heap.push { cls:=.type "list",data:=.seq ([]:List Value).toArray },toks:=s2.toks }:=I2.lnew (ys:=[]) (its:=[]) .nil (Nat.zero_le _)
 have hD:H2 s2.heap.objs.size=none:=I2.fresh
 have ltf:∀ b∈fp,b < s2.heap.objs.size:=fun b hb=>by
  obtain ⟨o,ho,_⟩:=T.obj _ _ st2 b hb
  exact Heap.lt_size ho
 have f3:∀ b∈fp,eK (aS (CX1 P w) P w K mg base N qual scope f cd A outer s₀ H₀ E) pins (upd H2 s2.heap.objs.size (.lst [])) b:=fun b hb=>⟨by rw [cK (Nat.ne_of_lt (ltf b hb))]; exact (f2 b hb).1,(f2 b hb).2⟩
 have un:Un (frs (aS (CX1 P w) P w K mg base N qual scope f cd A outer s₀ H₀ E).stack) fp H2 (upd H2 s2.heap.objs.size (.lst [])) s2.heap (s2.heap.push { cls:=.type "list",data:=.seq ([]:List Value).toArray }):=Un.laid (fun b u q=>Heap.get?_push_of_some _ q) (Nat.le_refl _) hD
 have kp:∀ b o,(s2.heap.push { cls:=.type "list",data:=.seq ([]:List Value).toArray }).get? b=some o→h4.get? b=some o:=fun b o q=>hsb.extBut b o (Nat.ne_of_lt (Heap.lt_size q)) (Heap.get?_push_of_some _ q)
 have J0:=I3.cmp (t':=s2.toks+([]:List (Str × Value)).length) k f3 (fun b hb=>Nat.lt_of_lt_of_le (ltf b hb) (by rw [Heap.size_push]; exact Nat.le_succ _)) hns kp
 have stat:∀ {H':Hp},(∀ b∈fp,H' b=none)→∀ b∈fp,eK (cD (aS (CX1 P w) P w K mg base N qual scope f cd A outer s₀ H₀ E) sc (bI own cap) (s2.heap.push { cls:=.type "list",data:=.seq ([]:List Value).toArray }).objs.size { s2 with heap:=s2.heap.push { cls:=.type "list",data:=.seq ([]:List Value).toArray },toks:=s2.toks } (upd H2 s2.heap.objs.size (.lst [])) fp) [] H' b:=fun hn b hb =>
  ⟨hn b hb,(J0.ok.exf b hb).1,J0.ok.exfs b hb,.inl hb,(J0.ok.exf b hb).2,fun p hp=>absurd (show p∈([]:List (Addr × Obj)) from hp) (by simp)⟩
 have st4:tn 0 h4:=T.keep _ _ _ st2 fun b hb o q=>kp b o (Heap.get?_push_of_some _ q)
 have fr0:∀ b∈fp,(upd H2 s2.heap.objs.size (.lst [])) b=none:=fun b hb=>(f3 b hb).1
 have hCf:(s2.heap.push { cls:=.type "list",data:=.seq ([]:List Value).toArray }).objs.size ∉ frs (aS (CX1 P w) P w K mg base N qual scope f cd A outer s₀ H₀ E).stack:=fun hb=>by
  obtain ⟨_,o,ho,hd⟩:=I3.stack.mem hb
  exact Nat.lt_irrefl _ (Heap.lt_size ho)
 have hC0:∀ o,s₀.heap.get? (s2.heap.push { cls:=.type "list",data:=.seq ([]:List Value).toArray }).objs.size≠some o:=fun o ho=>by
  obtain ⟨m,⟨oL,_,_,hoL,_⟩,_⟩:=id I3.loc
  exact Nat.lt_irrefl _ (Nat.lt_trans (Nat.lt_of_lt_of_le (Heap.lt_size ho) I3.ok.above) (Heap.lt_size hoL))
 have loop:codeAny (model (aS (CX1 P w) P w K mg base N qual scope f cd A outer s₀ H₀ E).prog (aS (CX1 P w) P w K mg base N qual scope f cd A outer s₀ H₀ E).w) (aS (CX1 P w) P w K mg base N qual scope f cd A outer s₀ H₀ E).A (.compLoop (.ListComp elt [⟨target,iter,[],0⟩] sc pos) 0 (.ref it) (.ref s2.heap.objs.size) (compEnvC sc (gR (aS (CX1 P w) P w K mg base N qual scope f cd A outer s₀ H₀ E).env sc.names []) (s2.heap.push { cls:=.type "list",data:=.seq ([]:List Value).toArray }).objs.size (aS (CX1 P w) P w K mg base N qual scope f cd A outer s₀ H₀ E).env))
   (acd u (model (aS (CX1 P w) P w K mg base N qual scope f cd A outer s₀ H₀ E).prog (aS (CX1 P w) P w K mg base N qual scope f cd A outer s₀ H₀ E).w) (aS (CX1 P w) P w K mg base N qual scope f cd A outer s₀ H₀ E).A (aS (CX1 P w) P w K mg base N qual scope f cd A outer s₀ H₀ E).xe Qf (.ref s2.heap.objs.size) (compEnvC sc (gR (aS (CX1 P w) P w K mg base N qual scope f cd A outer s₀ H₀ E).env sc.names []) (s2.heap.push { cls:=.type "list",data:=.seq ([]:List Value).toArray }).objs.size (aS (CX1 P w) P w K mg base N qual scope f cd A outer s₀ H₀ E).env)) { s2 with heap:=h4,toks:=s2.toks+([]:List (Str × Value)).length }:=by
  obtain ⟨W,⟨m0,w0⟩,turn⟩:=hW s2.heap.objs.size hD
  refine ae1 (fun n s'=>∃ i σ' H' ys,Inv (cD (aS (CX1 P w) P w K mg base N qual scope f cd A outer s₀ H₀ E) sc (bI own cap) (s2.heap.push { cls:=.type "list",data:=.seq ([]:List Value).toArray }).objs.size { s2 with heap:=s2.heap.push { cls:=.type "list",data:=.seq ([]:List Value).toArray },toks:=s2.toks } (upd H2 s2.heap.objs.size (.lst [])) fp) [] σ' H' s'∧tn i s'.heap∧(∀ b∈fp,H' b=none)∧W i n σ' H' ys) ?_ m0
   ⟨0,_,_,[],J0,st4,fr0,w0⟩
  rintro n s5 ⟨i,σ5,H5,ys,I5,st5,fr5,w5⟩
  obtain ⟨hD5,w5⟩:=turn i n σ5 H5 ys w5
  rcases w5 with ⟨stop,qn⟩ | ⟨go,hlt,step⟩
  ·refine thn (T.done (cD (aS (CX1 P w) P w K mg base N qual scope f cd A outer s₀ H₀ E) sc (bI own cap) (s2.heap.push { cls:=.type "list",data:=.seq ([]:List Value).toArray }).objs.size { s2 with heap:=s2.heap.push { cls:=.type "list",data:=.seq ([]:List Value).toArray },toks:=s2.toks } (upd H2 s2.heap.objs.size (.lst [])) fp) rfl rfl rfl hc i [] s5 σ5 H5 _ I5 (stat fr5) st5 stop) fun r s6 ⟨hr,I6⟩=>?_
   subst hr
   obtain ⟨m,hn,_⟩:=id I6.loc
   exact fin _ _ s6 H5 m (I2.uncmp (s3:={ s2 with heap:=s2.heap.push { cls:=.type "list",data:=.seq ([]:List Value).toArray },toks:=s2.toks }) f2 un rfl I6) (I3.fpOk (Nat.le_refl _) I6.free) hn qn
  ·refine thn (T.item (cD (aS (CX1 P w) P w K mg base N qual scope f cd A outer s₀ H₀ E) sc (bI own cap) (s2.heap.push { cls:=.type "list",data:=.seq ([]:List Value).toArray }).objs.size { s2 with heap:=s2.heap.push { cls:=.type "list",data:=.seq ([]:List Value).toArray },toks:=s2.toks } (upd H2 s2.heap.objs.size (.lst [])) fp) rfl rfl rfl hc i [] s5 σ5 H5 _ I5 (stat fr5) st5 go) fun r s6 ⟨u,hr,h6⟩=>?_
   subst hr
   refine thn h6 fun _ s7 ⟨x,H7,I7,r7,y7,st7,fr7⟩=>?_
   have I7':=I7.pinned (stat fr7) (T.obj _ _ st7)
   refine thn (hg _ _ _ _ _ s7 σ5 H7 x u _ I7' r7 (step x H7 y7)) fun _ s8 ⟨σ8,H8,I8,q8⟩=>?_
   refine thn (he _ _ _ _ _ (ai5 (Qf:=Qf) (acc:=.ref s2.heap.objs.size) (s3:={ s2 with heap:=s2.heap.push { cls:=.type "list",data:=.seq ([]:List Value).toArray },toks:=s2.toks }) I2 f2 un rfl (fun H hH=>I3.fpOk (Nat.le_refl _) hH) hCf hC0) _ s8 σ8 H8 _ (I8.wish _) q8) fun v9 s9 ⟨y,H9,I9,r9,hD9,m',hm,w9⟩=>?_
   have I9:=I9.unwish
   refine thn (tV _ s9 σ8 H9 (.ref s2.heap.objs.size) [y] (.ref s2.heap.objs.size) [v9] (fun _ H'=>H'=upd H9 s2.heap.objs.size (.lst (ys++[y]))) I9 rfl (.cons r9 .nil) ⟨_,ys,y,rfl,rfl,hD9,hlt,rfl⟩) fun _ s10 ⟨_,H10,I10,_,q10⟩=>?_
   subst q10
   refine ⟨m',hm,i+1,σ8,_,_,I10.unpinned,T.keep _ _ _ st7 fun b hb o q=>(I10.pin (b,o) (List.mem_append_right _ (List.mem_append_right _ (lG hb q)))).1,fun b hb=>?_,w9⟩
   obtain ⟨o,q,d⟩:=T.obj _ _ st7 b hb
   exact (I10.pin (b,o) (List.mem_append_right _ (List.mem_append_right _ (lG hb q)))).2.1
 exact codeAny_compStart_list loop (T.self _ 0 _ _ _ st4 loop)
theorem agC {i:Nat} {x:Str} {py spos:Pos} (hN:N.Nodup) (hx:N[i]?=some x) (hl:Loc (aS (CX1 P w) P w K mg base N qual scope f cd A outer s₀ H₀ E).env.scope x) (k:gM (aS (CX1 P w) P w K mg base N qual scope f cd A outer s₀ H₀ E) sc own cap) (hi:PI (aS (CX1 P w) P w K mg base N qual scope f cd A outer s₀ H₀ E) target iter wi) (hc:(aS (CX1 P w) P w K mg base N qual scope f cd A outer s₀ H₀ E).calm=true)
  (hg:∀ C s₁ H₁ ex,PG (cD (aS (CX1 P w) P w K mg base N qual scope f cd A outer s₀ H₀ E) sc (bI own cap) C s₁ H₁ ex) target g) (he:∀ C s₁ H₁ ex E',iP (CX1 P w) ((cD (aS (CX1 P w) P w K mg base N qual scope f cd A outer s₀ H₀ E) sc (bI own cap) C s₁ H₁ ex).wish E') E→PE ((cD (aS (CX1 P w) P w K mg base N qual scope f cd A outer s₀ H₀ E) sc (bI own cap) C s₁ H₁ ex).wish E') elt te)
  (hs:∀ x,foldedSetIterable iter (aS (CX1 P w) P w K mg base N qual scope f cd A outer s₀ H₀ E).env x=pure x:=by intro _; rfl) (hsw:swapsWith (.ListComp elt [⟨target,iter,[],0⟩] sc pos) (some (.Name x py)) spos.line (aS (CX1 P w) P w K mg base N qual scope f cd A outer s₀ H₀ E).env=pure true:=by rfl)
  (hf:(aS (CX1 P w) P w K mg base N qual scope f cd A outer s₀ H₀ E).fn x=true∨(aS (CX1 P w) P w K mg base N qual scope f cd A outer s₀ H₀ E).env.scope.names.lookup x=some .local:=by first | exact .inl rfl | exact .inr rfl | assumption) :
  PS (aS (CX1 P w) P w K mg base N qual scope f cd A outer s₀ H₀ E) (.Assign [.Name x py] (.ListComp elt [⟨target,iter,[],0⟩] sc pos) spos) (wR (nO own cap wi g te) (wB i)):=by
 intro pins s σ H D I h
 rw [exec_Assign_Name_used _ _ _ _ hsw]
 refine wpAny_bind (wpAny_standAt (wpAny_bind ?_))
 show wpAny _ (aS (CX1 P w) P w K mg base N qual scope f cd A outer s₀ H₀ E).A (comprehension (.ListComp elt [⟨target,iter,[],0⟩] sc pos) sc (aS (CX1 P w) P w K mg base N qual scope f cd A outer s₀ H₀ E).env _ (newList []) false (eval iter (aS (CX1 P w) P w K mg base N qual scope f cd A outer s₀ H₀ E).env) (some (assign (.Name x py) (aS (CX1 P w) P w K mg base N qual scope f cd A outer s₀ H₀ E).env)) >>= fun _=>pure ()) _ _ s
 refine wpAny_bind (thn (acC (u:=assign (.Name x py) (aS (CX1 P w) P w K mg base N qual scope f cd A outer s₀ H₀ E).env) (Qf:=fun _ s'=>SP (aS (CX1 P w) P w K mg base N qual scope f cd A outer s₀ H₀ E) pins D .next s') k hi hc hg he I h (fun B C s' H' m I' fC hn q=>?_) hs) fun _ s' hq=>wpAny_pure (wpAny_pure hq))
 show wpAny _ _ (assign (.Name x py) (aS (CX1 P w) P w K mg base N qual scope f cd A outer s₀ H₀ E).env (.ref B)) _ _ s'
 obtain ⟨o,es,ep,ho,hd,r⟩:=hn
 obtain ⟨f0,f1,f2,f3,f4,f5⟩:=fC
 have I'':Inv (aS (CX1 P w) P w K mg base N qual scope f cd A outer s₀ H₀ E) (pins++[(C,o)]) σ H' s':=I'.pins_of fun p hp=>(List.mem_append.mp hp).elim (fun z=>I'.pin p (List.mem_append_right _ z)) fun z=>by
  have e:p=(C,o):=by simpa using z
  subst e
  exact ⟨ho,f0,f1,f2,fun v z=>by rw [hd] at z; cases z⟩
 refine wpAny_assign_Name (mX I'' hN hx hl (v:=.ref B) rfl (fun s2 I2=>?_) hf)
 have pC:=I2.pin (C,o) (by simp)
 refine ⟨m,⟨o,es,ep,pC.1,hd,r⟩,fun h' sb=>⟨_,H',?_,q⟩⟩
 exact (I2.unpinned).turned (t':=s2.toks) (fun b o hb e=>(sb.2 b hb).trans e) f0 f1 f3 f4 f5
end
end L2
namespace L2.Pp
open PySem PySem.Spec PyProof.Rows Bn
section
variable {P:Program} {w:World} {K:PySem.W.Frag} {mg:Str→Option Value} {base:Heap} {N:List Str} {qual:Str} {scope:Scope} {f:Addr} {cd:Value} {A:Around} {outer:List Env} {s₀:Shared} {H₀:Hp} {E:XK} {cl:Str→Addr}
variable {sc:Scope} {own:List Str} {cap:List (Nat × Str)} {elt target iter:Expr} {pos:Pos} {mi:MI} {g:GM} {me:ME}
theorem abS {i:Nat} {x:Str} {py spos:Pos} (hN:N.Nodup) (hx:N[i]?=some x) (hl:Loc (aS (CX1 P w) P w K mg base N qual scope f cd A outer s₀ H₀ E).env.scope x) (k:gM (aS (CX1 P w) P w K mg base N qual scope f cd A outer s₀ H₀ E) sc own cap) (hi:PIp K cl E (aS (CX1 P w) P w K mg base N qual scope f cd A outer s₀ H₀ E) target iter mi) (hc:(aS (CX1 P w) P w K mg base N qual scope f cd A outer s₀ H₀ E).calm=true) (hg:∀ C s₁ H₁ ex,PGp K (cD (aS (CX1 P w) P w K mg base N qual scope f cd A outer s₀ H₀ E) sc (bI own cap) C s₁ H₁ ex) target g) (he:∀ C s₁ H₁ ex E',iP (CX1 P w) ((cD (aS (CX1 P w) P w K mg base N qual scope f cd A outer s₀ H₀ E) sc (bI own cap) C s₁ H₁ ex).wish E') E→PEp K cl E ((cD (aS (CX1 P w) P w K mg base N qual scope f cd A outer s₀ H₀ E) sc (bI own cap) C s₁ H₁ ex).wish E') elt me)
  (hs:∀ x,foldedSetIterable iter (aS (CX1 P w) P w K mg base N qual scope f cd A outer s₀ H₀ E).env x=pure x:=by intro _; rfl) (hsw:swapsWith (.ListComp elt [⟨target,iter,[],0⟩] sc pos) (some (.Name x py)) spos.line (aS (CX1 P w) P w K mg base N qual scope f cd A outer s₀ H₀ E).env=pure true:=by rfl)
  (hf:(aS (CX1 P w) P w K mg base N qual scope f cd A outer s₀ H₀ E).fn x=true∨(aS (CX1 P w) P w K mg base N qual scope f cd A outer s₀ H₀ E).env.scope.names.lookup x=some .local:=by first | exact .inl rfl | exact .inr rfl | assumption) :
  PSp K cl E (aS (CX1 P w) P w K mg base N qual scope f cd A outer s₀ H₀ E) (.Assign [.Name x py] (.ListComp elt [⟨target,iter,[],0⟩] sc pos) spos) (bA i (eD own cap mi g me)):=by
 intro hK
 refine PS.imp (agC hN hx hl k (hi hK) hc (fun C s₁ H₁ ex=>hg C s₁ H₁ ex hK) (fun C s₁ H₁ ex E' ps=>he C s₁ H₁ ex E' ps hK) hs hsw hf) fun D σ H ⟨p,S,ρ,s,ev,h⟩=>?_
 have h2:tP K cl E (bX K) (eD own cap mi g me) σ H fun y H1=>D.nx (σ.set i (some y)) H1:=by
  refine ⟨p,S,ρ,s,ev,?_⟩
  unfold bA at h
  cases z:eD own cap mi g me ρ S with
  | ok v S1 =>
   rw [z] at h
   exact fun q H' y st sm r=>h q H' _ st sm ((st.repE ev).set r i)
  | exc n S1=>rw [z] at h; exact h
  | fail=>rw [z] at h; exact h
 obtain ⟨p,S,ρ,s,ev,h⟩:=h2
 exact bR s ev h fun q H' xs J S' stp sm ev it kk D hD=>abk sm ev it kk hD
end
end L2.Pp
namespace L2.Pp
open PySem PySem.Spec PyProof.Rows Bn
section
variable {K:PySem.W.Frag}
def sE:List PV→Option PV
 | [.int i,.int j]=>some (.int (if j < i then j else i))
 | _=>none
theorem ajy:CaR K (fun xs H Q=>∃ i j,xs=[.int i,.int j]∧Q (.int (if j < i then j else i)) H) sE:=fun {p S H as c xs Q} s ra e k=>by
 unfold sE at e
 split at e
 ·rename_i i j
  cases e
  cases ra with
  | cons h1 t =>
   cases t with
   | cons h2 t =>
    cases t
    exact ⟨i,j,by rw [h1.int,h2.int],k H _ (cA.refl H) (fL (v:=.int _) rfl)⟩
 ·cases e
end
end L2.Pp
namespace L2.Pp
open PySem PySem.Spec PyProof.Rows Bn
section
variable {K:PySem.W.Frag} {X:Cx}
def kB (x y:Str):List Str:=match Builtin.Str.occurrences x y 0 x.length 1 with
 | i :: _=>[Builtin.Str.strSub x 0 i,y,Builtin.Str.strSub x (i+y.length) x.length]
 | []=>[x,Str.empty,Str.empty]
def rX (x:Str):List PV→Option PV
 | [.str y]=>if y.length≠0∧x.length≤16777216 then some (.tup ((kB x y).map .str)) else none
 | _=>none
theorem aib:MtS X "str.partition" rX:=by
 intro pins s σ H x t as xs us c Q I rs ⟨p,rp⟩ hf k
 unfold rX at hf
 split at hf
 ·rename_i y
  split at hf
  ·rename_i hp
   cases hf
   rw [acO rp] at rs
   obtain ⟨u,rfl,t',rfl⟩:=gZ rs
   have fin:∀ (l:List (Str × Tok)) (h':Heap) (tk:Nat),l.map (·.1)=kB x y→l.length=3→h'=s.heap.push { cls:=.type "tuple",data:=.seq (strValues l).toArray }→EP X pins σ Q (.ref s.heap.objs.size) { s with heap:=h',toks:=tk }:=fun l h' tk el l3 eh=>by
    have ev:(kB x y).map V.str=l.map fun p=>V.str p.1:=by rw [← el,List.map_map]; rfl
    have hz:((kB x y).map V.str).length≤sizeLine:=by rw [ev,List.length_map,l3,fJ]; omega
    subst eh
    refine ⟨.ref s.heap.objs.size,_,I.laid (o:=.tup ((kB x y).map V.str)) (fun b ob q=>Heap.get?_push_of_some _ q) (Nat.le_refl _) ⟨hz,strValues l,by rw [ev]; exact yN l,_,Heap.get?_push_size _ rfl,rfl,0,rfl⟩,rfl,?_⟩
    have hnone:=I.hok.fresh (Nat.le_refl s.heap.objs.size)
    refine k _ _ (fK hnone) fun p S sm _=>?_
    exact kK sm (yQ _) hz hnone
   refine call_meets PySem.F.slot_str_partition (typeIs_str _ _ _) PySem.F.entry_str_partition (PySem.F.args_str_partition_2 _ _) (meets_str_partition x y t t' (by simpa using hp.1) (by rw [fJ]; exact hp.2)) ?_
   cases e:Builtin.Str.occurrences x y 0 x.length 1 with
   | nil=>exact fin [(x,t),(Str.empty,s.toks),(Str.empty,s.toks)] _ _ (by unfold kB; rw [e]; rfl) rfl rfl
   | cons i r=>exact fin [(Builtin.Str.strSub x 0 i,s.toks),(y,t'),(Builtin.Str.strSub x (i+y.length) x.length,s.toks+1)] _ _ (by unfold kB; rw [e]; rfl) rfl rfl
  ·cases hf
 ·cases hf
end
end L2.Pp
namespace L2.Pp
open PySem
theorem eZ:bootBuiltins "len"=some (.builtin "len"):=by decide +kernel
theorem pF:bootBuiltins "abs"=some (.builtin "abs"):=by decide +kernel
theorem vC:bootBuiltins "all"=some (.builtin "all"):=by decide +kernel
theorem ahg:bootBuiltins "sum"=some (.builtin "sum"):=by decide +kernel
theorem ajU:bootBuiltins "min"=some (.builtin "min"):=by decide +kernel
theorem ab0:bootBuiltins "sorted"=some (.builtin "sorted"):=by decide +kernel
theorem ag0:bootBuiltins "int"=some (.type "int"):=by decide +kernel
theorem ahH:bootBuiltins "bool"=some (.type "bool"):=by decide +kernel
theorem uL:bootBuiltins "list"=some (.type "list"):=by decide +kernel
theorem iD:bootBuiltins "tuple"=some (.type "tuple"):=by decide +kernel
end L2.Pp
set_option Elab.async false
set_option maxRecDepth 100000
set_option maxHeartbeats 4000000
namespace Sc
noncomputable section
open PySem L2 Bn L2.Pp
abbrev afz:Stmt:=top 9
abbrev yL:Stmt:=top 10
abbrev tO:Stmt:=top 11
abbrev oK:Stmt:=top 12
abbrev nC:Stmt:=top 14
abbrev tJ:Stmt:=top 15
abbrev tM:Stmt:=top 16
abbrev sV:Stmt:=top 17
abbrev wA:Stmt:=top 18
abbrev zL:Stmt:=top 19
abbrev sT:Stmt:=top 20
abbrev afn:Stmt:=top 21
abbrev yI:Stmt:=top 23
abbrev aed:Stmt:=top 25
abbrev yU:Stmt:=top 26
abbrev xH:Stmt:=top 33
abbrev xD:Stmt:=top 34
abbrev sW:Stmt:=top 35
abbrev sP:Stmt:=top 36
abbrev xP:Stmt:=top 37
abbrev xQ:Stmt:=top 38
abbrev sO:Stmt:=top 39
abbrev xC:Stmt:=top 40
abbrev sY:Stmt:=top 41
abbrev xF:Stmt:=top 42
abbrev tE:Stmt:=top 43
abbrev qG:Stmt:=top 44
abbrev xR:Stmt:=top 45
abbrev xU:Stmt:=top 46
abbrev xO:Stmt:=top 47
abbrev qI:Stmt:=top 48
abbrev afA:Stmt:=top 50
abbrev zW:Stmt:=top 51
abbrev aeH:Stmt:=top 52
abbrev tW:Stmt:=top 53
abbrev zK:Stmt:=top 54
abbrev tQ:Stmt:=top 55
abbrev zT:Stmt:=top 56
abbrev uT:Stmt:=top 57
abbrev zG:Stmt:=top 58
abbrev uV:Stmt:=top 59
abbrev zQ:Stmt:=top 60
abbrev vG:Stmt:=top 61
abbrev yE:Stmt:=top 62
abbrev xJ:Stmt:=top 63
abbrev sM:Stmt:=top 64
abbrev xB:Stmt:=top 65
abbrev vE:Stmt:=top 66
abbrev yT:Stmt:=top 67
abbrev xV:Stmt:=top 68
abbrev sS:Stmt:=top 69
abbrev sR:Stmt:=top 70
abbrev sX:Stmt:=top 71
abbrev xI:Stmt:=top 72
abbrev sQ:Stmt:=top 73
abbrev uK:Stmt:=top 74
abbrev kX:Stmt:=top 75
def aft:MS:=(aR (sIf (bD (aB fGt (aA 0) (mC (.int 0)))) (bC (mC (.int 1))) bV)
 (aR (sIf (bD (aB fLt (aA 0) (mC (.int 0)))) (bC (mUn cQ (mC (.int 1)))) bV)
 (bC (mC (.int 0)))))
def jY:FM:=fnM 1 1 aft
def yK:MS:=(aR (nJ (bD (aB fNe (aA 1) (mC (.int 0)))) (aR (bA 2 (aB fA (aA 0) (aA 1)))
 (aR (bA 0 (aA 1))
 (bA 1 (aA 2)))))
 (bC (mR aM (aC (aA 0) aE))))
def lJ:FM:=fnM 2 3 yK
def yM:MS:=(aR (bA 1 (mC (.int 0)))
 (aR (dI (mIt (aA 0)) (gN 2) (bA 1 (aY lJ [] (aC (aA 1) (aC (aA 2) aE)))))
 (bC (bO ["number"] [(1,"common")] (mIt (aA 0)) (gN 0) (aB fN (aA 0) (aA 1))))))
def qQ:FM:=fnM 1 3 yM
def mO:MS:=(aR (sIf (bD (aB fEq (aA 1) (mC (.int 0)))) (kR "NoNumber") bV)
 (aR (bA 2 (aB bE (aY jY [] (aC (aA 1) aE)) (aY lJ [] (aC (aA 0) (aC (aA 1) aE)))))
 (bC (mN eV (aC (aB fN (aA 0) (aA 2)) (aC (aB fN (aA 1) (aA 2)) aE))))))
def iL:FM:=fnM 2 3 mO
def rJ:MS:=(aR (sIf (bD (aB fEq (aA 1) (mC (.int 0)))) (kR "NoPoint") bV)
 (bC (mR aJ (aC (bO ["number"] [(1,"bottom")] (mIt (aY qQ [] (aC (aB aH (mR aK (aC (aA 0) aE)) (mN dQ (aC (aA 1) aE))) aE))) (gN 0) (aB bE (aY jY [] (aC (aA 1) aE)) (aA 0))) aE))))
def nA:FM:=fnM 2 2 rJ
def yB:MS:=(bC (mR aJ (aC (bO ["number"] [(0,"p")] (mIt (mSl (aA 0) mO0 (mO1 (mUn cQ (mC (.int 1)))))) (gN 0) (bM iL [] (aC (aA 0) (aC (aB fIx (aA 1) (mUn cQ (mC (.int 1)))) aE)))) aE)))
def qP:FM:=fnM 1 1 yB
def tI:MS:=(aR (bA 1 (mC (.int 1)))
 (aR (dI (mIt (aA 0)) (gN 2) (bA 1 (aB bE (aA 1) (aB fIx (aA 2) (mC (.int 1))))))
 (bC (bM nA [] (aC (bO ["part"] [(1,"bottom")] (mIt (aA 0)) (gN 0) (aB bE (aB fIx (aA 0) (mC (.int 0))) (aB fN (aA 1) (aB fIx (aA 0) (mC (.int 1)))))) (aC (aA 1) aE))))))
def kH:FM:=fnM 1 3 tI
def xG:MS:=(bC (bO ["near","far"] [(0,"start"),(1,"end")] (nV (aC (mSl (aA 0) mO0 (mO1 (mUn cQ (mC (.int 1))))) (aC (mSl (aA 1) mO0 (mO1 (mUn cQ (mC (.int 1))))) aE))) (gT 2 (cM (gN 0) (cM (gN 1) eB))) (aB dJ (aB bE (aA 1) (aB fIx (aA 2) (mUn cQ (mC (.int 1))))) (aB bE (aA 0) (aB fIx (aA 3) (mUn cQ (mC (.int 1))))))))
def mI:FM:=fnM 2 2 xG
def ahR:MS:=(bC (mR qA (aC (bO ["one","other"] [] (nV (aC (aA 0) (aC (aA 1) aE))) (gT 2 (cM (gN 0) (cM (gN 1) eB))) (aB bE (aA 0) (aA 1))) aE)))
def rZ:FM:=fnM 2 2 ahR
def uF:MS:=(aR (bA 1 (aB fIx (aA 0) (mC (.int 0))))
 (aR (sIf (bD (aB fEq (mR cO (aC (aA 0) aE)) (mC (.int 1)))) (bC (mN dQ (aC (mUn cQ (aB fIx (aA 1) (mC (.int 1)))) (aC (aB fIx (aA 1) (mC (.int 0))) aE)))) bV)
 (aR (bA 2 (aB fIx (aA 0) (mC (.int 1))))
 (bC (mN dQ (aC (aB dJ (aB bE (aB fIx (aA 1) (mC (.int 1))) (aB fIx (aA 2) (mC (.int 2)))) (aB bE (aB fIx (aA 1) (mC (.int 2))) (aB fIx (aA 2) (mC (.int 1))))) (aC (aB dJ (aB bE (aB fIx (aA 1) (mC (.int 2))) (aB fIx (aA 2) (mC (.int 0)))) (aB bE (aB fIx (aA 1) (mC (.int 0))) (aB fIx (aA 2) (mC (.int 2))))) (aC (aB dJ (aB bE (aB fIx (aA 1) (mC (.int 0))) (aB fIx (aA 2) (mC (.int 1)))) (aB bE (aB fIx (aA 1) (mC (.int 1))) (aB fIx (aA 2) (mC (.int 0))))) aE))))))))
def mV:FM:=fnM 1 3 uF
def sU:MS:=(aR (bA 1 (bO ["p"] [(0,"points")] (mIt (mSl (aA 0) (mO1 (mC (.int 1))) mO0)) (gN 0) (aY mI [] (aC (aB fIx (aA 1) (mC (.int 0))) (aC (aA 0) aE)))))
 (bC (aY rZ [] (aC (aY mV [] (aC (mSl (aA 1) mO0 (mO1 (mUn cQ (mC (.int 1))))) aE)) (aC (aB fIx (aA 1) (mUn cQ (mC (.int 1)))) aE)))))
def mK:FM:=fnM 1 2 sU
def vF:MS:=(bC (aY jY [] (aC (aY mK [] (aC (aA 0) aE)) aE)))
def lU:FM:=fnM 1 1 vF
def oO:MS:=(aR (bA 1 (mR rG (aC (aA 0) aE)))
 (aR (bA 2 (aY lU [] (aC (aA 1) aE)))
 (aR (sIf (bD (aB fEq (aA 2) (mC (.int 0)))) (kR "Flat") bV)
 (aR (sIf (bD (aB fLt (aA 2) (mC (.int 0)))) (bA 1 (aB aH (mSl (aA 1) mO0 (mO1 (mUn cQ (mC (.int 2))))) (mN dQ (aC (aB fIx (aA 1) (mUn cQ (mC (.int 1)))) (aC (aB fIx (aA 1) (mUn cQ (mC (.int 2)))) aE))))) bV)
 (bC (mR aJ (aC (aA 1) aE)))))))
def jF:FM:=fnM 1 3 oO
def rK:MS:=(aR (sIf (mD (bD (aB fNe (aA 0) (mC (.int 1)))) (bD (aB fNe (aA 0) (mUn cQ (mC (.int 1)))))) (kR "NoMove") bV)
 (bC (mN eV (aC (aA 0) (aC (aA 1) aE)))))
def rV:FM:=fnM 2 2 rK
def yP:MS:=(bC (aB fEq (aB fIx (aA 0) (mC (.int 0))) (mC (.int 1))))
def qU:FM:=fnM 1 1 yP
def oD:MS:=(aR (sIf (bD (aB fGe (mR aM (aC (aA 0) aE)) (aB dE (mC (.int 10)) (mC (.int 60))))) (kR "TooGreat") bV)
 (bC (mR kE (aC (mR aM (aC (aA 0) aE)) aE))))
def oE:FM:=fnM 1 1 oD
def lB:MS:=(aR (bA 1 (bM oE [] (aC (aB fIx (aA 0) (mC (.int 0))) aE)))
 (aR (sIf (bD (aB fLt (aB fIx (aA 0) (mC (.int 0))) (mC (.int 0)))) (bA 1 (aB cY (mC (.str "-")) (aA 1))) bV)
 (aR (sIf (bD (aB fEq (aB fIx (aA 0) (mC (.int 1))) (mC (.int 1)))) (bC (aA 1)) bV)
 (bC (aB cY (aB cY (aA 1) (mC (.str "/"))) (bM oE [] (aC (aB fIx (aA 0) (mC (.int 1))) aE)))))))
def hV:FM:=fnM 1 2 lB
def lD:MS:=(bC (gO (mC (.str " ")) (aC (eD ["number"] [] (mIt (aY qP [] (aC (aA 0) aE))) (gN 0) (bM hV [] (aC (aA 0) aE))) aE)))
def gG:FM:=fnM 1 1 lD
def nZ:MS:=(bC (gO (mC (.str ", ")) (aC (eD ["p"] [] (mIt (aA 0)) (gN 0) (bM gG [] (aC (aA 0) aE))) aE)))
def iY:FM:=fnM 1 1 nZ
def sZ:MS:=(bC (mIf (wF (aA 0)) (gO (mC (.str " + ")) (aC (aA 0) aE)) (mC (.str "none"))))
def oG:FM:=fnM 1 1 sZ
def oF:MS:=(bC (aB cY (aB cY (mIf (bD (aY qU [] (aC (aA 0) aE))) (mC (.str "push")) (mC (.str "turn"))) (mC (.str " "))) (bM gG [] (aC (aB fIx (aA 0) (mC (.int 1))) aE))))
def jC:FM:=fnM 1 1 oF
def nY:MS:=(bC (aY oG [] (aC (eD ["row"] [] (mIt (aA 0)) (gN 0) (aB cY (aB cY (bM iY [] (aC (aB fIx (aA 0) (mC (.int 0))) aE)) (mC (.str " by "))) (bM jC [] (aC (aB fIx (aA 0) (mC (.int 1))) aE)))) aE)))
def lA:FM:=fnM 1 1 nY
def fO:MS:=(sIf (fD (bD (aA 0))) (kR "NoText") bV)
def fE:FM:=fnM 1 1 fO
def oI:MS:=(aR (eF (bM fE [] (aC (kS (jZ fLe fLe (mC (.int 1)) (mR lW (aC (aA 0) aE)) (mC (.int 60))) (mR iK (aC (bO ["sign"] [] (sJ (aA 0)) (gN 0) (aB nT (aA 0) (mC (.str "0123456789")))) aE))) aE)))
 (bC (mR sB (aC (aA 0) aE))))
def fV:FM:=fnM 1 1 oI
def jA:MS:=(aR (bA 1 (dO fH (aA 0) (aC (mC (.str "/")) aE)))
 (aR (eF (bM fE [] (aC (aB fLe (mR cO (aC (aA 1) aE)) (mC (.int 2))) aE)))
 (aR (bA 2 (dO jW (aB fIx (aA 1) (mC (.int 0))) (aC (mC (.str "-")) aE)))
 (aR (bA 3 (bM fV [] (aC (mIf (bD (aA 2)) (mE (aB fIx (aA 1) (mC (.int 0))) (mO1 (mC (.int 1))) mO0) (aB fIx (aA 1) (mC (.int 0)))) aE)))
 (aR (bA 4 (mIf (bD (aB fEq (mR cO (aC (aA 1) aE)) (mC (.int 2)))) (bM fV [] (aC (aB fIx (aA 1) (mC (.int 1))) aE)) (mC (.int 1))))
 (aR (eF (bM fE [] (aC (aB fNe (aA 4) (mC (.int 0))) aE)))
 (bC (bM iL [] (aC (mIf (bD (aA 2)) (mUn cQ (aA 3)) (aA 3)) (aC (aA 4) aE))))))))))
def eN:FM:=fnM 1 5 jA
def mL:MS:=(aR (bA 1 (eD ["text"] [] (mIt (dO fH (aA 0) (aC (mC (.str " ")) aE))) (gN 0) (bM eN [] (aC (aA 0) aE))))
 (aR (eF (bM fE [] (aC (wI (aB fEq (mR cO (aC (aA 1) aE)) (mC (.int 2))) (aB fEq (mR cO (aC (aA 1) aE)) (mC (.int 3)))) aE)))
 (bC (aY kH [] (aC (aA 1) aE)))))
def jB:FM:=fnM 1 2 mL
def qF:MS:=(aR (bA 1 (eD ["part"] [] (mIt (dO fH (aA 0) (aC (mC (.str ", ")) aE))) (gN 0) (bM jB [] (aC (aA 0) aE))))
 (aR (eF (bM fE [] (aC (mR iK (aC (bO ["p"] [(1,"corners")] (mIt (aA 1)) (gN 0) (aB fEq (mR cO (aC (aA 0) aE)) (mR cO (aC (aA 1) aE)))) aE)) aE)))
 (bC (aA 1))))
def qH:FM:=fnM 1 2 qF
def tH:MS:=(bC (mIf (bD (aB fEq (aA 0) (mC (.str "none")))) (mN dQ aE) (dO fH (aA 0) (aC (mC (.str " + ")) aE))))
def mM:FM:=fnM 1 1 tH
def qL:MS:=(aR (bA 1 (dO rX (aA 0) (aC (mC (.str " ")) aE)))
 (aR (eF (bM fE [] (aC (wI (aB fEq (aB fIx (aA 1) (mC (.int 0))) (mC (.str "push"))) (aB fEq (aB fIx (aA 1) (mC (.int 0))) (mC (.str "turn")))) aE)))
 (bC (bM rV [] (aC (mIf (bD (aB fEq (aB fIx (aA 1) (mC (.int 0))) (mC (.str "push")))) (mC (.int 1)) (mUn cQ (mC (.int 1)))) (aC (bM jB [] (aC (aB fIx (aA 1) (mC (.int 2))) aE)) aE))))))
def qN:FM:=fnM 1 2 qL
def qK:MS:=(aR (bA 1 (dO fH (aA 0) (aC (mC (.str " by ")) aE)))
 (aR (eF (bM fE [] (aC (aB fEq (mR cO (aC (aA 1) aE)) (mC (.int 2))) aE)))
 (bC (mN eV (aC (bM qH [] (aC (aB fIx (aA 1) (mC (.int 0))) aE)) (aC (bM qN [] (aC (aB fIx (aA 1) (mC (.int 1))) aE)) aE))))))
def lF:FM:=fnM 1 2 qK
def qE:MS:=(aR (bA 1 (eD ["text"] [] (mIt (aY mM [] (aC (aA 0) aE))) (gN 0) (bM lF [] (aC (aA 0) aE))))
 (aR (dI (mIt (aA 1)) (gT 2 (cM (gN 2) (cM (gN 3) eB))) (eF (bM fE [] (aC (jZ fEq fEq (mR cO (aC (aA 2) aE)) (mR cO (aC (aB fIx (aA 3) (mC (.int 1))) aE)) (mR cO (aC (aB fIx (aB fIx (aA 1) (mC (.int 0))) (mC (.int 0))) aE))) aE))))
 (bC (mR aJ (aC (eD ["corners","one"] [] (mIt (aA 1)) (gT 2 (cM (gN 0) (cM (gN 1) eB))) (mN eV (aC (bM jF [] (aC (aA 0) aE)) (aC (aA 1) aE)))) aE)))))
def oB:FM:=fnM 1 4 qE
def afI:MS:=(aR (bA 1 (iJ aE))
 (aR (dI (aiS (aC (mSl (aA 0) mO0 (mO1 (mC (.int 63)))) aE)) (gT 2 (cM (gN 2) (cM (gN 3) eB))) (sIf (bD (aB fGe (aA 3) (aB dE (mC (.int 10)) (mC (.int 18))))) (eF (fY (aA 1) (aC (aB dJ (aA 3) (aB dE (mC (.int 10)) (mC (.int 18)))) aE))) (aR (bA 4 (aB fA (aB bE (aB aH (aB aH (aB aH (aA 3) (aB bE (aB bE (mC (.int 7)) (aA 2)) (aA 2))) (aB bE (mC (.int 13)) (aA 2))) (mC (.int 5))) (mC (.int 48271))) (mC (.int 2147483647))))
 (aR (bA 5 (aB fA (aB bE (aB aH (aB aH (aB aH (aA 3) (aB bE (aB bE (mC (.int 11)) (aA 2)) (aA 2))) (aB bE (mC (.int 17)) (aA 2))) (mC (.int 3))) (mC (.int 40692))) (mC (.int 2147483399))))
 (aR (bA 6 (aB fA (aB bE (aB aH (aB aH (aB aH (aA 3) (aB bE (aB bE (mC (.int 5)) (aA 2)) (aA 2))) (aB bE (mC (.int 29)) (aA 2))) (mC (.int 8))) (mC (.int 39373))) (mC (.int 2147483587))))
 (aR (bA 4 (aB fA (aB bE (aA 4) (mC (.int 52021))) (mC (.int 1000000007))))
 (aR (bA 5 (aB fA (aB bE (aA 5) (mC (.int 30011))) (mC (.int 998244353))))
 (aR (bA 6 (aB fA (aB bE (aA 6) (mC (.int 45989))) (mC (.int 1000000009))))
 (eF (fY (aA 1) (aC (aB aH (aB bE (aB aH (aB bE (aA 4) (mC (.int 998244353))) (aA 5)) (mC (.int 1000000009))) (aA 6)) aE)))))))))))
 (bC (aA 1))))
def pG:FM:=fnM 1 7 afI
def uN:MS:=(aR (nJ (mD (bD (aB fGt (mR cO (aC (aA 0) aE)) (mC (.int 0)))) (bD (aB fEq (aB fIx (aA 0) (mC (.int 0))) (mC (.int 0))))) (eF (wO (aA 0) (aC (mC (.int 0)) aE))))
 (aR (sIf (bD (aB fEq (mR cO (aC (aA 0) aE)) (mC (.int 0)))) (bC (mC (.int 0))) bV)
 (aR (bA 2 (aB fA (aB fIx (aA 0) (mC (.int 0))) (aA 1)))
 (aR (aew (aA 0) (mC (.int 0)) (aB fN (aB fIx (aA 0) (mC (.int 0))) (aA 1)))
 (bC (aA 2))))))
def cG:FM:=fnM 2 3 uN
def aem:MS:=(aR (bA 0 (mR aM (aC (aA 0) aE)))
 (aR (bA 1 (mR aM (aC (aA 1) aE)))
 (aR (nJ (bD (aB fGt (aA 1) (mC (.int 0)))) (wP 0 1 (aC (aA 1) (aC (aB fA (aA 0) (aA 1)) aE))))
 (bC (aA 0)))))
def pD:FM:=fnM 2 2 aem
def tX:MS:=(aR (bA 1 (mC (.int 0)))
 (aR (dI (mIt (aA 0)) (gN 2) (bA 1 (aY pD [] (aC (aA 1) (aC (aA 2) aE)))))
 (aR (sIf (bD (aB fEq (aA 1) (mC (.int 0)))) (bC (mR aJ (aC (aA 0) aE))) bV)
 (bC (mR aJ (aC (bO ["_law_number"] [(1,"_law_by")] (mIt (aA 0)) (gN 0) (aB fN (aA 0) (aA 1))) aE))))))
def fG:FM:=fnM 1 3 tX
def zN:MS:=(bC (kS (mUn (eI "int") (aA 0)) (mUn sK (mUn (eI "bool") (aA 0)))))
def kJ:FM:=fnM 1 1 zN
def yW:MS:=(aR (sIf (mOr (fD (bD (mUn (eI "tuple") (aA 0)))) (bD (aB fNe (mR cO (aC (aA 0) aE)) (aA 1)))) (bC (mC (.bl false))) bV)
 (bC (mR iK (aC (bO ["_law_number"] [] (mIt (aA 0)) (gN 0) (aY kJ [] (aC (aA 0) aE))) aE))))
def qS:FM:=fnM 2 2 yW
def zY:MS:=(aR (sIf (bD (aB fLt (aA 1) (mC (.int 0)))) (bC (aY fG [] (aC (mN dQ (aC (aB dJ (mC (.int 0)) (aA 0)) (aC (aB dJ (mC (.int 0)) (aA 1)) aE))) aE))) bV)
 (bC (aY fG [] (aC (mN dQ (aC (aA 0) (aC (aA 1) aE))) aE))))
def oR:FM:=fnM 2 2 zY
def aer:MS:=(bC (bO ["_law_k"] [(1,"_law_q"),(0,"_law_p")] (fR (aC (aB dJ (mR cO (aC (aA 0) aE)) (mC (.int 1))) aE)) (gN 0) (aB dJ (aB bE (aB fIx (aA 1) (aA 0)) (aB fIx (aA 2) (mUn cQ (mC (.int 1))))) (aB bE (aB fIx (aA 2) (aA 0)) (aB fIx (aA 1) (mUn cQ (mC (.int 1))))))))
def nE:FM:=fnM 2 2 aer
def zC:MS:=(aR (bA 2 (aB dJ (aB bE (aB fIx (aA 0) (mC (.int 1))) (aB fIx (aA 1) (mC (.int 2)))) (aB bE (aB fIx (aA 0) (mC (.int 2))) (aB fIx (aA 1) (mC (.int 1))))))
 (aR (bA 3 (aB dJ (aB bE (aB fIx (aA 0) (mC (.int 2))) (aB fIx (aA 1) (mC (.int 0)))) (aB bE (aB fIx (aA 0) (mC (.int 0))) (aB fIx (aA 1) (mC (.int 2))))))
 (aR (bA 4 (aB dJ (aB bE (aB fIx (aA 0) (mC (.int 0))) (aB fIx (aA 1) (mC (.int 1)))) (aB bE (aB fIx (aA 0) (mC (.int 1))) (aB fIx (aA 1) (mC (.int 0))))))
 (bC (mN dQ (aC (aA 2) (aC (aA 3) (aC (aA 4) aE))))))))
def qX:FM:=fnM 2 5 zC
def afb:MS:=(bC (mR qA (aC (bO ["_law_one","_law_other"] [] (nV (aC (aA 0) (aC (aA 1) aE))) (gT 2 (cM (gN 0) (cM (gN 1) eB))) (aB bE (aA 0) (aA 1))) aE)))
def rM:FM:=fnM 2 2 afb
def oY:MS:=(aR (sIf (bD (aB fEq (mR cO (aC (aA 0) aE)) (mC (.int 2)))) (bC (aB dJ (aB bE (aB fIx (aB fIx (aA 0) (mC (.int 0))) (mC (.int 0))) (aB fIx (aB fIx (aA 0) (mC (.int 1))) (mC (.int 1)))) (aB bE (aB fIx (aB fIx (aA 0) (mC (.int 0))) (mC (.int 1))) (aB fIx (aB fIx (aA 0) (mC (.int 1))) (mC (.int 0)))))) bV)
 (bC (aY rM [] (aC (aY qX [] (aC (aB fIx (aA 0) (mC (.int 0))) (aC (aB fIx (aA 0) (mC (.int 1))) aE))) (aC (aB fIx (aA 0) (mC (.int 2))) aE)))))
def jK:FM:=fnM 1 1 oY
def pJ:MS:=(bC (aY jK [] (aC (bO ["_law_p"] [(0,"_law_points")] (mIt (mSl (aA 0) (mO1 (mC (.int 1))) mO0)) (gN 0) (aY nE [] (aC (aB fIx (aA 1) (mC (.int 0))) (aC (aA 0) aE)))) aE)))
def fM:FM:=fnM 1 1 pJ
def oM:MS:=(aR (bA 1 (mR rG (aC (aA 0) aE)))
 (aR (sIf (bD (aB fLt (aY fM [] (aC (aA 1) aE)) (mC (.int 0)))) (bA 1 (aB aH (mSl (aA 1) mO0 (mO1 (mUn cQ (mC (.int 2))))) (mN dQ (aC (aB fIx (aA 1) (mUn cQ (mC (.int 1)))) (aC (aB fIx (aA 1) (mUn cQ (mC (.int 2)))) aE))))) bV)
 (bC (mR aJ (aC (aA 1) aE)))))
def iB:FM:=fnM 1 2 oM
def xN:MS:=(aR (sIf (mOr (fD (bD (aY qS [] (aC (aA 0) (aC (aB aH (aA 1) (mC (.int 1))) aE))))) (bD (aB fLt (aB fIx (aA 0) (mUn cQ (mC (.int 1)))) (mC (.int 1))))) (bC (mC (.bl false))) bV)
 (bC (aB fEq (aY fG [] (aC (aA 0) aE)) (aA 0))))
def iZ:FM:=fnM 2 2 xN
def xA:MS:=(aR (sIf (mOr (fD (bD (mUn (eI "tuple") (aA 0)))) (bD (aB fNe (mR cO (aC (aA 0) aE)) (aB aH (aA 1) (mC (.int 1)))))) (bC (mC (.bl false))) bV)
 (aR (sIf (fD (bD (mR iK (aC (bO ["_law_p"] [(1,"_law_many")] (mIt (aA 0)) (gN 0) (aY iZ [] (aC (aA 0) (aC (aA 1) aE)))) aE)))) (bC (mC (.bl false))) bV)
 (bC (kS (aB fNe (aY fM [] (aC (aA 0) aE)) (mC (.int 0))) (aB fEq (aY iB [] (aC (aA 0) aE)) (aA 0))))))
def nW:FM:=fnM 2 2 xA
def wY:MS:=(aR (sIf (fD (bD (mUn (eI "tuple") (aA 0)))) (bC (mC (.bl false))) bV)
 (aR (dI (mIt (aA 0)) (gN 3) (aR (sIf (mOr (fD (bD (mUn (eI "tuple") (aA 3)))) (mOr (bD (aB fNe (mR cO (aC (aA 3) aE)) (mC (.int 2)))) (fD (bD (aY nW [] (aC (aB fIx (aA 3) (mC (.int 0))) (aC (aA 1) aE))))))) (bC (mC (.bl false))) bV)
 (aR (sIf (mOr (fD (bD (mUn (eI "tuple") (aB fIx (aA 3) (mC (.int 1)))))) (bD (aB fNe (mR cO (aC (aB fIx (aA 3) (mC (.int 1))) aE)) (mC (.int 2))))) (bC (mC (.bl false))) bV)
 (sIf (mOr (fD (bD (aY kJ [] (aC (aB fIx (aB fIx (aA 3) (mC (.int 1))) (mC (.int 0))) aE)))) (mOr (bD (aB (fIn true) (aB fIx (aB fIx (aA 3) (mC (.int 1))) (mC (.int 0))) (aA 2))) (fD (bD (aY iZ [] (aC (aB fIx (aB fIx (aA 3) (mC (.int 1))) (mC (.int 1))) (aC (aA 1) aE))))))) (bC (mC (.bl false))) bV))))
 (bC (mC (.bl true)))))
def nX:FM:=fnM 3 4 wY
def aeZ:MS:=(aR (bA 2 (aY cG [] (aC (aA 0) (aC (mC (.int 4)) aE))))
 (aR (bA 3 (aB fIx (mN dQ (aC (mC (.int 0)) (aC (mC (.int 3)) (aC (mC (.int 9)) (aC (aB dE (mC (.int 10)) (mC (.int 12))) aE))))) (aA 2)))
 (aR (bA 4 (aB aH (mC (.int 1)) (aB bE (aY cG [] (aC (aA 0) (aC (mC (.int 9)) aE))) (aB fN (aA 2) (mC (.int 2))))))
 (aR (bA 5 (bO ["_law_k"] [(3,"_law_wide"),(0,"_law_row_here")] (fR (aC (aA 1) aE)) (gN 0) (aB dJ (aY cG [] (aC (aA 2) (aC (aB aH (aB bE (mC (.int 2)) (aA 1)) (mC (.int 1))) aE))) (aA 1))))
 (bC (aY fG [] (aC (aB aH (aA 5) (mN dQ (aC (aA 4) aE))) aE)))))))
def lQ:FM:=fnM 2 6 aeZ
def tT:MS:=(aR (sIf (bD (aB fEq (aY cG [] (aC (aA 0) (aC (mC (.int 2)) aE))) (mC (.int 1)))) (bC (mR aJ (aC (aA 1) aE))) bV)
 (bC (mR aK (aC (aA 1) aE))))
def lI:FM:=fnM 2 2 tT
def qO:MS:=(aR (pX (gT 2 (cM (gN 0) (cM (gN 1) eB))) (aY oR [] (aC (aA 0) (aC (aA 1) aE))))
 (aR (sIf (mOr (bD (aB fGe (mR aM (aC (aA 0) aE)) (aB dE (mC (.int 10)) (mC (.int 60))))) (bD (aB fGe (aA 1) (aB dE (mC (.int 10)) (mC (.int 60)))))) (bC (mC .non)) bV)
 (aR (sIf (bD (aB fEq (aA 1) (mC (.int 1)))) (bC (mR kE (aC (aA 0) aE))) bV)
 (bC (aB cY (aB cY (mR kE (aC (aA 0) aE)) (mC (.str "/"))) (mR kE (aC (aA 1) aE)))))))
def jU:FM:=fnM 2 2 qO
def xK:MS:=(aR (bA 1 (bO ["_law_number"] [(0,"_law_p")] (mIt (mSl (aA 0) mO0 (mO1 (mUn cQ (mC (.int 1)))))) (gN 0) (aY jU [] (aC (aA 0) (aC (aB fIx (aA 1) (mUn cQ (mC (.int 1)))) aE)))))
 (aR (sIf (bD (aB jT (mC .non) (aA 1))) (bC (mC .non)) bV)
 (bC (gO (mC (.str " ")) (aC (aA 1) aE)))))
def hZ:FM:=fnM 1 2 xK
def xE:MS:=(aR (bA 1 (bO ["_law_p"] [] (mIt (aA 0)) (gN 0) (aY hZ [] (aC (aA 0) aE))))
 (aR (sIf (bD (aB jT (mC .non) (aA 1))) (bC (mC .non)) bV)
 (bC (gO (mC (.str ", ")) (aC (aA 1) aE)))))
def qJ:FM:=fnM 1 2 xE
def xL:MS:=(aR (bA 3 (aB fIx (mN dQ (aC (mC (.int 2)) (aC (mC (.int 9)) (aC (aB dE (mC (.int 10)) (mC (.int 20))) (aC (aB dE (mC (.int 10)) (mC (.int 61))) aE))))) (aY cG [] (aC (aA 0) (aC (mC (.int 4)) aE)))))
 (aR (bA 4 (aY cG [] (aC (aA 0) (aC (aB aH (aA 2) (mC (.int 1))) aE))))
 (aR (bA 5 (mC (.int 12)))
 (aR (sIf (bD (aB fEq (aY cG [] (aC (aA 0) (aC (mC (.int 8)) aE))) (mC (.int 7)))) (aR (bA 5 (aB fIx (mN dQ (aC (aB dE (mC (.int 10)) (mC (.int 20))) (aC (aB dE (mC (.int 10)) (mC (.int 61))) aE))) (aY cG [] (aC (aA 0) (aC (mC (.int 2)) aE)))))
 (bA 4 (mR sE (aC (aA 4) (aC (mC (.int 1)) aE))))) bV)
 (aR (bA 6 (iJ aE))
 (aR (dI (fR (aC (aA 4) aE)) (gN 7) (aR (bA 8 (iJ aE))
 (aR (dI (fR (aC (aB aH (aA 1) (mC (.int 1))) aE)) (gN 9) (aR (bA 10 (bO ["_law_n"] [(3,"_law_wide"),(0,"_law_row_here")] (fR (aC (aA 1) aE)) (gN 0) (aB dJ (aY cG [] (aC (aA 2) (aC (aB aH (aB bE (mC (.int 2)) (aA 1)) (mC (.int 1))) aE))) (aA 1))))
 (eF (fY (aA 8) (aC (aY fG [] (aC (aB aH (aA 10) (mN dQ (aC (aB aH (mC (.int 1)) (aY cG [] (aC (aA 0) (aC (aA 5) aE)))) aE))) aE)) aE)))))
 (sIf (bD (aB fNe (aY fM [] (aC (aA 8) aE)) (mC (.int 0)))) (eF (fY (aA 6) (aC (aY iB [] (aC (aA 8) aE)) aE))) bV))))
 (bC (aA 6))))))))
def mJ:FM:=fnM 3 11 xL
def xM:MS:=(aR (bA 1 (aY qJ [] (aC (aB fIx (aA 0) (mC (.int 0))) aE)))
 (aR (bA 2 (aY hZ [] (aC (aB fIx (aB fIx (aA 0) (mC (.int 1))) (mC (.int 1))) aE)))
 (aR (sIf (mOr (bD (mUn hU (aA 1))) (bD (mUn hU (aA 2)))) (bC (mC .non)) bV)
 (bC (aB cY (aB cY (aB cY (aB cY (aA 1) (mC (.str " by "))) (aB fIx (mN dQ (aC (mC (.str "turn")) (aC (mC (.str "")) (aC (mC (.str "push")) aE)))) (aB aH (aB fIx (aB fIx (aA 0) (mC (.int 1))) (mC (.int 0))) (mC (.int 1))))) (mC (.str " "))) (aA 2))))))
def lE:FM:=fnM 1 3 xM
def wZ:MS:=(aR (sIf (bD (aB fEq (mR cO (aC (aA 0) aE)) (mC (.int 0)))) (bC (mC (.str "none"))) bV)
 (aR (bA 1 (bO ["_law_piece"] [] (mIt (aA 0)) (gN 0) (aY lE [] (aC (aA 0) aE))))
 (aR (sIf (bD (aB jT (mC .non) (aA 1))) (bC (mC .non)) bV)
 (bC (gO (mC (.str " + ")) (aC (aA 1) aE))))))
def oA:FM:=fnM 1 2 wZ
def zS:MS:=(aR (bA 1 (aB aH (mC (.int 2)) (aY cG [] (aC (aA 0) (aC (mC (.int 2)) aE)))))
 (aR (bA 2 (iJ aE))
 (aR (dI (mIt (aY mJ [] (aC (aA 0) (aC (aA 1) (aC (mC (.int 3)) aE))))) (gN 3) (aR (bA 4 (aY lQ [] (aC (aA 0) (aC (aA 1) aE))))
 (aR (sIf (bD (aB fEq (aY cG [] (aC (aA 0) (aC (mC (.int 6)) aE))) (mC (.int 5)))) (aR (bA 4 (bO ["_law_k"] [(0,"_law_row_here")] (fR (aC (aA 1) aE)) (gN 0) (aY cG [] (aC (aA 1) (aC (aB dE (mC (.int 10)) (mC (.int 61))) aE)))))
 (bA 4 (aY fG [] (aC (aB aH (aA 4) (mN dQ (aC (aB aH (mC (.int 1)) (aY cG [] (aC (aA 0) (aC (aB fIx (mN dQ (aC (mC (.int 3)) (aC (aB dE (mC (.int 10)) (mC (.int 61))) aE))) (aY cG [] (aC (aA 0) (aC (mC (.int 2)) aE)))) aE)))) aE))) aE)))) bV)
 (eF (fY (aA 2) (aC (mN eV (aC (aA 3) (aC (mN eV (aC (aB dJ (mC (.int 1)) (aB bE (mC (.int 2)) (aY cG [] (aC (aA 0) (aC (mC (.int 2)) aE))))) (aC (aA 4) aE))) aE))) aE))))))
 (aR (bA 5 (aY lI [] (aC (aA 0) (aC (aA 2) aE))))
 (aR (bA 6 (aY oA [] (aC (aA 2) aE)))
 (aR (bA 7 (mC .non))
 (aR (pQ (pP (mC (.str "told")) (pH lA [] (aC (aA 5) aE))) "TooGreat" 9 7 (fun ρ=>(ρ.set 7 (some (.pv (.tup [.str "refused",.non]))))))
 (aR (sIf (bD (aB fNe (mR aK (aC (aA 5) aE)) (aA 2))) (bC (mC (.bl false))) bV)
 (aR (sIf (bD (mUn hU (aA 6))) (bC (aB fEq (aA 7) (mN eV (aC (mC (.str "refused")) (aC (mC .non) aE))))) bV)
 (aR (sIf (mOr (bD (aB fNe (aB fIx (aA 7) (mC (.int 0))) (mC (.str "told")))) (mOr (fD (bD (mUn (eI "str") (aB fIx (aA 7) (mC (.int 1)))))) (bD (aB fNe (aB fIx (aA 7) (mC (.int 1))) (aA 6))))) (bC (mC (.bl false))) bV)
 (aR (bA 8 (bM oB [] (aC (aA 6) aE)))
 (bC (kS (aY nX [] (aC (aA 8) (aC (aA 1) (aC (mN dQ (aC (mC (.int 1)) (aC (mUn cQ (mC (.int 1))) aE))) aE)))) (aB fEq (mR aK (aC (aA 8) aE)) (aA 2)))))))))))))))
def oU:FM:=fnM 1 9 zS
def aip:MS:=(aR (bA 1 (vI pG [] (aC (aA 0) aE)))
 (bC (kS (aY oU [] (aC (aA 1) aE)) (aY oU [] (aC (aA 1) aE)))))
def ahM:FM:=fnM 1 2 aip
def dP (P:Program) (w:World) (K:PySem.W.Frag) (mg:Str→Option Value) (base:Heap) (cl:Str→Addr) (x:Str) (k:Nat) (ps:List Str) (g:FM):Prop:=∃ (a:Addr) (d:FuncData),bF P w K mg base (CX1 P w) k a d ps (spP K cl g)∧bF P w K mg base CX0 k a d ps (cC K cl g)∧eY K d ps []∧PySem.W.keepIn K (.ref a)=true∧mg x=some (.ref a)
theorem fU {P:Program} {w:World} {K:PySem.W.Frag} {mg:Str→Option Value} {base:Heap} {cl:Str→Addr} {x:Str} {k:Nat} {ps:List Str} {g:FM} {a:Addr} {d:FuncData} (G:bF P w K mg base (CX1 P w) k a d ps (spP K cl g)) (b:eY K d ps []) (kp:PySem.W.keepIn K (.ref a)=true) (n:mg x=some (.ref a)):dP P w K mg base cl x k ps g:=⟨_,_,G,x0 G,b,kp,n⟩
theorem scM {N ps:List Str} {sc:Scope} (a:sc.kind=.function:=by rfl) (b:sc.isCoroutine=false:=by rfl) (c:sc.isGenerator=false:=by rfl) (d:N.Nodup:=by decide +kernel) (e:N.take ps.length=ps:=by rfl) (f:∀ x∈ps,sc.names.lookup x=some .local∨sc.names.lookup x=some .cell:=by decide +kernel) (g:∀ y∈sc.names,y.2≠.free:=by decide +kernel):bL N ps sc:=⟨a,b,c,d,e,f,g⟩
theorem bd1 {K:PySem.W.Frag} {x:Str} {st:Stmt} {f:Addr} {fd:FuncData} {p0:Str} (F:Fun K x x st f fd) (h:∀ (kV doc pm:Value) (an:Option Addr) (cdv ct u0:Value),bindArgs (PySem.W.fnOf x x (fX st) (eR st) (aW st) .none kV doc pm an cdv ct) ⟨[u0],[]⟩=pure ([p0].zip [u0])):eY K fd [p0] []:=F.binds fun _ _ _ _ _ _ us hl=>match us,hl with | [_],_=>h _ _ _ _ _ _ _
theorem bd2 {K:PySem.W.Frag} {x:Str} {st:Stmt} {f:Addr} {fd:FuncData} {p0 p1:Str} (F:Fun K x x st f fd) (h:∀ (kV doc pm:Value) (an:Option Addr) (cdv ct u0 u1:Value),bindArgs (PySem.W.fnOf x x (fX st) (eR st) (aW st) .none kV doc pm an cdv ct) ⟨[u0,u1],[]⟩=pure ([p0,p1].zip [u0,u1])):eY K fd [p0,p1] []:=F.binds fun _ _ _ _ _ _ us hl=>match us,hl with | [_,_],_=>h _ _ _ _ _ _ _ _
theorem bd3 {K:PySem.W.Frag} {x:Str} {st:Stmt} {f:Addr} {fd:FuncData} {p0 p1 p2:Str} (F:Fun K x x st f fd) (h:∀ (kV doc pm:Value) (an:Option Addr) (cdv ct u0 u1 u2:Value),bindArgs (PySem.W.fnOf x x (fX st) (eR st) (aW st) .none kV doc pm an cdv ct) ⟨[u0,u1,u2],[]⟩=pure ([p0,p1,p2].zip [u0,u1,u2])):eY K fd [p0,p1,p2] []:=F.binds fun _ _ _ _ _ _ us hl=>match us,hl with | [_,_,_],_=>h _ _ _ _ _ _ _ _ _
section
variable {P:Program} {w:World} {K:PySem.W.Frag} {mg:Str→Option Value} {base:Heap} {cl:Str→Addr}
theorem ae4:bL ["number"] ["number"] (aW afz):=scM
theorem aiv {f:Addr} {fd:FuncData} (F:Fun K "sign" "sign" afz f fd)
  : bF P w K mg base CX0 1 f fd ["number"] (cC K cl jY):=by
 have nd:=ae4.nd
 refine okP (np:=1) (n:=1) F ae4 (by decide) (by decide) (b:=aft) (k:=0) fun cdv A outer s H E hr=>?_
 exact (aX (cP (cJ ah1 akN (aD 0) aG (bT _)) (aZ (bH aG)) cR)
   (aX (cP (cJ pN qB (aD 0) aG (bT _)) (aZ (bH (eG eE eH aG))) cR)
   (aZ (bH aG))))
theorem aby:bL ["one","other","rest"] ["one","other"] (aW yL):=scM
theorem adJ {f:Addr} {fd:FuncData} (F:Fun K "divisor" "divisor" yL f fd)
  (m_abs:mg "abs"=none)
  : bF P w K mg base CX0 1 f fd ["one","other"] (cC K cl lJ):=by
 have nd:=aby.nd
 refine okP (np:=2) (n:=3) F aby (by decide) (by decide) (b:=yK) (k:=0) fun cdv A outer s H E hr=>?_
 exact (aX (yZ PassesOwn.never (cJ (iF (hu8 hr)) iG (aD 1) aG (bT _)) (aX (bQ (i:=2) nd rfl (Or.inl rfl) (aV kO kT (aD 0) (aD 1)))
   (aX (bQ (i:=0) nd rfl (Or.inl rfl) (aD 1))
   (aZ (bQ (i:=1) nd rfl (Or.inl rfl) (aD 2))))))
   (aZ (bH (cW oQ pO rfl m_abs pF (aF (aD 0) aI)))))
theorem abp:bL ["numbers","common","number"] ["numbers"] (aW tO):=scM
theorem ad1 {f:Addr} {fd:FuncData} (F:Fun K "reduced" "reduced" tO f fd)
  (C_divisor:Cal P w K mg base cl "divisor" 1 ["one","other"] lJ)
  : bF P w K mg base CX0 2 f fd ["numbers"] (cC K cl qQ):=by
 have nd:=abp.nd
 refine okP (np:=1) (n:=3) F abp (by decide) (by decide) (b:=yM) (k:=1) fun cdv A outer s H E hr=>?_
 exact (aX (bQ (i:=1) nd rfl (Or.inr rfl) aG)
   (aX (kL PassesOwn.never rfl (dY (aD 0)) (cF (i:=2) nd rfl (Or.inl rfl)) (aZ (bQ (i:=1) nd rfl (Or.inr rfl) (bJ C_divisor hr (by decide) rfl (aF (aD 1) (aF (aD 2) aI))))))
   (aZ (bH (gY (own:=["number"]) (cap:=[(1,"common")]) (dM (aW tO) ["numbers","common","number"] rfl rfl rfl (by decide +kernel) (by decide +kernel) (by decide +kernel) (by decide +kernel) (by decide +kernel)) (dY (aD 0)) rfl (fun _ _ _ _=>(cF (i:=0) (show (bI ["number"] [(1,"common")]).Nodup by decide +kernel) rfl (Or.inl rfl) (Or.inr rfl))) (fun _ _ _ _=>(aV mY nF (aD 0) (aD 1))))))))
theorem aaV:bL ["top","bottom","common"] ["top","bottom"] (aW oK):=scM
theorem acz {f:Addr} {fd:FuncData} {dsv:Array Value} (F:mF K "fraction" "fraction" oK f fd dsv)
  (C_sign:Cal P w K mg base cl "sign" 1 ["number"] jY)
  (C_divisor:Cal P w K mg base cl "divisor" 1 ["one","other"] lJ)
  (q_NoNumber:mg "NoNumber"=some (.ref (cl "NoNumber"))) (x_NoNumber:PySem.W.excIn K (cl "NoNumber") eT "ValueError.__new__"=true)
  : bF P w K mg base (CX1 P w) 2 f fd ["top","bottom"] (spP K cl iL):=by
 have nd:=aaV.nd
 refine alZ (np:=2) (n:=3) F aaV (by decide) (by decide) (b:=mO) (k:=1) fun cdv A outer s H E hr=>?_
 exact (aX (cP (cJ (dF (hu8 hr)) dG (aD 1) aG (bT _)) (aZ (oP rfl q_NoNumber x_NoNumber)) cR)
   (aX (bQ (i:=2) nd rfl (Or.inl rfl) (aV cH cL (bJ C_sign hr (by decide) rfl (aF (aD 1) aI)) (bJ C_divisor hr (by decide) rfl (aF (aD 0) (aF (aD 1) aI)))))
   (aZ (bH (nK (aF (aV mY nF (aD 0) (aD 2)) (aF (aV mY nF (aD 1) (aD 2)) aI)))))))
theorem adm:bL ["numbers","bottom"] ["numbers","bottom"] (aW nC):=scM
theorem agw {f:Addr} {fd:FuncData} {dsv:Array Value} (F:mF K "point" "point" nC f fd dsv)
  (C_reduced:Cal P w K mg base cl "reduced" 2 ["numbers"] qQ)
  (C_sign:Cal P w K mg base cl "sign" 1 ["number"] jY)
  (m_list:mg "list"=none)
  (m_tuple:mg "tuple"=none)
  (q_NoPoint:mg "NoPoint"=some (.ref (cl "NoPoint"))) (x_NoPoint:PySem.W.excIn K (cl "NoPoint") eT "ValueError.__new__"=true)
  : bF P w K mg base (CX1 P w) 3 f fd ["numbers","bottom"] (spP K cl nA):=by
 have nd:=adm.nd
 refine alZ (np:=2) (n:=2) F adm (by decide) (by decide) (b:=rJ) (k:=2) fun cdv A outer s H E hr=>?_
 exact (aX (cP (cJ (dF (hu8 hr)) dG (aD 1) aG (bT _)) (aZ (oP rfl q_NoPoint x_NoPoint)) cR)
   (aZ (bH (fW lC lL rfl m_tuple iD (aF (gY (own:=["number"]) (cap:=[(1,"bottom")]) (dM (aW nC) ["numbers","bottom"] rfl rfl rfl (by decide +kernel) (by decide +kernel) (by decide +kernel) (by decide +kernel) (by decide +kernel)) (dY (bJ C_reduced hr (by decide) rfl (aF (aV dL dN (fW tF uM rfl m_list uL (aF (aD 0) aI)) (fS (aF (aD 1) aI))) aI))) rfl (fun _ _ _ _=>(cF (i:=0) (show (bI ["number"] [(1,"bottom")]).Nodup by decide +kernel) rfl (Or.inl rfl) (Or.inr rfl))) (fun _ _ _ _=>(aV cH cL (bJ C_sign hr (by decide) rfl (aF (aD 1) aI)) (aD 0)))) aI)))))
theorem aaL:bL ["p"] ["p"] (aW tJ):=scM
theorem acU {f:Addr} {fd:FuncData} (F:Fun K "measures" "measures" tJ f fd)
  (H_fraction:dP P w K mg base cl "fraction" 2 ["top","bottom"] iL)
  (m_tuple:mg "tuple"=none)
  : bF P w K mg base CX0 3 f fd ["p"] (cC K cl qP):=by
 obtain ⟨a_fraction,d_fraction,GX_fraction,G_fraction,mO,k_fraction,n_fraction⟩:=H_fraction
 have nd:=aaL.nd
 refine okP (np:=1) (n:=1) F aaL (by decide) (by decide) (b:=yB) (k:=2) fun cdv A outer s H E hr=>?_
 exact (aZ (bH (fW lC lL rfl m_tuple iD (aF (gY (own:=["number"]) (cap:=[(0,"p")]) (dM (aW tJ) ["p"] rfl rfl rfl (by decide +kernel) (by decide +kernel) (by decide +kernel) (by decide +kernel) (by decide +kernel)) (dY (kC (aD 0) jG (jH (eG eE eH aG)))) rfl (fun _ _ _ _=>(cF (i:=0) (show (bI ["number"] [(0,"p")]).Nodup by decide +kernel) rfl (Or.inl rfl) (Or.inr rfl))) (fun _ _ _ _=>(acX G_fraction (hr.mono (by decide)) rfl n_fraction k_fraction mO .nil Dv.nil (aF (aD 0) (aF (bB (aD 1) (eG eE eH aG)) aI))))) aI))))
theorem aaZ:bL ["parts","bottom","part"] ["parts"] (aW tM):=scM
theorem acw {f:Addr} {fd:FuncData} (F:Fun K "point_at" "point_at" tM f fd)
  (H_point:dP P w K mg base cl "point" 3 ["numbers","bottom"] nA)
  : bF P w K mg base CX0 4 f fd ["parts"] (cC K cl kH):=by
 obtain ⟨a_point,d_point,GX_point,G_point,rJ,k_point,n_point⟩:=H_point
 have nd:=aaZ.nd
 refine okP (np:=1) (n:=3) F aaZ (by decide) (by decide) (b:=tI) (k:=3) fun cdv A outer s H E hr=>?_
 exact (aX (bQ (i:=1) nd rfl (Or.inr rfl) aG)
   (aX (kL PassesOwn.never rfl (dY (aD 0)) (cF (i:=2) nd rfl (Or.inl rfl)) (aZ (bQ (i:=1) nd rfl (Or.inr rfl) (aV cH cL (aD 1) (bB (aD 2) aG)))))
   (aZ (bH (acX G_point (hr.mono (by decide)) rfl n_point k_point rJ .nil Dv.nil (aF (gY (own:=["part"]) (cap:=[(1,"bottom")]) (dM (aW tM) ["parts","bottom","part"] rfl rfl rfl (by decide +kernel) (by decide +kernel) (by decide +kernel) (by decide +kernel) (by decide +kernel)) (dY (aD 0)) rfl (fun _ _ _ _=>(cF (i:=0) (show (bI ["part"] [(1,"bottom")]).Nodup by decide +kernel) rfl (Or.inl rfl) (Or.inr rfl))) (fun _ _ _ _=>(aV cH cL (bB (aD 0) aG) (aV mY nF (aD 1) (bB (aD 0) aG))))) (aF (aD 1) aI)))))))
theorem aam:bL ["start","end"] ["start","end"] (aW sV):=scM
theorem aa3 {f:Addr} {fd:FuncData} (F:Fun K "whole_arrow" "whole_arrow" sV f fd)
  (m_zip:mg "zip"=none)
  : bF P w K mg base CX0 1 f fd ["start","end"] (cC K cl mI):=by
 have nd:=aam.nd
 refine okP (np:=2) (n:=2) F aam (by decide) (by decide) (b:=xG) (k:=0) fun cdv A outer s H E hr=>?_
 exact (aZ (bH (gY (own:=["near","far"]) (cap:=[(0,"start"),(1,"end")]) (dM (aW sV) ["start","end"] rfl rfl rfl (by decide +kernel) (by decide +kernel) (by decide +kernel) (by decide +kernel) (by decide +kernel)) (acG rfl m_zip (aF (kC (aD 0) jG (jH (eG eE eH aG))) (aF (kC (aD 1) jG (jH (eG eE eH aG))) aI))) rfl (fun _ _ _ _=>(nB rfl (gU (cF (i:=0) (show (bI ["near","far"] [(0,"start"),(1,"end")]).Nodup by decide +kernel) rfl (Or.inl rfl) (Or.inr rfl)) (gU (cF (i:=1) (show (bI ["near","far"] [(0,"start"),(1,"end")]).Nodup by decide +kernel) rfl (Or.inl rfl) (Or.inr rfl)) mW)))) (fun _ _ _ _=>(aV fZ gD (aV cH cL (aD 1) (bB (aD 2) (eG eE eH aG))) (aV cH cL (aD 0) (bB (aD 3) (eG eE eH aG))))))))
theorem ag9:bL ["u","v"] ["u","v"] (aW wA):=scM
theorem akc {f:Addr} {fd:FuncData} (F:Fun K "dot" "dot" wA f fd)
  (m_sum:mg "sum"=none)
  (m_zip:mg "zip"=none)
  : bF P w K mg base CX0 1 f fd ["u","v"] (cC K cl rZ):=by
 have nd:=ag9.nd
 refine okP (np:=2) (n:=2) F ag9 (by decide) (by decide) (b:=ahR) (k:=0) fun cdv A outer s H E hr=>?_
 exact (aZ (bH (cW (acj rfl) akB rfl m_sum ahg (aF (gY (own:=["one","other"]) (cap:=[]) (dM (aW wA) ["u","v"] rfl rfl rfl (by decide +kernel) (by decide +kernel) (by decide +kernel) (by decide +kernel) (by decide +kernel)) (acG rfl m_zip (aF (aD 0) (aF (aD 1) aI))) rfl (fun _ _ _ _=>(nB rfl (gU (cF (i:=0) (show (bI ["one","other"] []).Nodup by decide +kernel) rfl (Or.inl rfl) (Or.inr rfl)) (gU (cF (i:=1) (show (bI ["one","other"] []).Nodup by decide +kernel) rfl (Or.inl rfl) (Or.inr rfl)) mW)))) (fun _ _ _ _=>(aV cH cL (aD 0) (aD 1)))) aI))))
theorem ab1:bL ["arrows","u","v"] ["arrows"] (aW zL):=scM
theorem aeg {f:Addr} {fd:FuncData} (F:Fun K "normal" "normal" zL f fd)
  (m_len:mg "len"=none)
  : bF P w K mg base CX0 1 f fd ["arrows"] (cC K cl mV):=by
 have nd:=ab1.nd
 refine okP (np:=1) (n:=3) F ab1 (by decide) (by decide) (b:=uF) (k:=0) fun cdv A outer s H E hr=>?_
 exact (aX (bQ (i:=1) nd rfl (Or.inl rfl) (bB (aD 0) aG))
   (aX (cP (cJ (dF (hu8 hr)) dG (cW fF fI rfl m_len eZ (aF (aD 0) aI)) aG (bT _)) (aZ (bH (fS (aF (eG eE eH (bB (aD 1) aG)) (aF (bB (aD 1) aG) aI))))) cR)
   (aX (bQ (i:=2) nd rfl (Or.inl rfl) (bB (aD 0) aG))
   (aZ (bH (fS (aF (aV fZ gD (aV cH cL (bB (aD 1) aG) (bB (aD 2) aG)) (aV cH cL (bB (aD 1) aG) (bB (aD 2) aG))) (aF (aV fZ gD (aV cH cL (bB (aD 1) aG) (bB (aD 2) aG)) (aV cH cL (bB (aD 1) aG) (bB (aD 2) aG))) (aF (aV fZ gD (aV cH cL (bB (aD 1) aG) (bB (aD 2) aG)) (aV cH cL (bB (aD 1) aG) (bB (aD 2) aG))) aI)))))))))
theorem aas:bL ["points","rows"] ["points"] (aW sT):=scM
theorem aa6 {f:Addr} {fd:FuncData} (F:Fun K "determinant" "determinant" sT f fd)
  (C_whole_arrow:Cal P w K mg base cl "whole_arrow" 1 ["start","end"] mI)
  (C_dot:Cal P w K mg base cl "dot" 1 ["u","v"] rZ)
  (C_normal:Cal P w K mg base cl "normal" 1 ["arrows"] mV)
  : bF P w K mg base CX0 2 f fd ["points"] (cC K cl mK):=by
 have nd:=aas.nd
 refine okP (np:=1) (n:=2) F aas (by decide) (by decide) (b:=sU) (k:=1) fun cdv A outer s H E hr=>?_
 exact (aX (mU (i:=1) (own:=["p"]) (cap:=[(0,"points")]) nd rfl (Or.inl rfl) (dM (aW sT) ["points","rows"] rfl rfl rfl (by decide +kernel) (by decide +kernel) (by decide +kernel) (by decide +kernel) (by decide +kernel)) (dY (kC (aD 0) (jH aG) jG)) rfl (fun _ _ _ _=>(cF (i:=0) (show (bI ["p"] [(0,"points")]).Nodup by decide +kernel) rfl (Or.inl rfl) (Or.inr rfl))) (fun _ _ _ _=>(bJ C_whole_arrow hr (by decide) rfl (aF (bB (aD 1) aG) (aF (aD 0) aI)))))
   (aZ (bH (bJ C_dot hr (by decide) rfl (aF (bJ C_normal hr (by decide) rfl (aF (kC (aD 1) jG (jH (eG eE eH aG))) aI)) (aF (bB (aD 1) (eG eE eH aG)) aI))))))
theorem aeG:bL ["points"] ["points"] (aW afn):=scM
theorem air {f:Addr} {fd:FuncData} (F:Fun K "side" "side" afn f fd)
  (C_sign:Cal P w K mg base cl "sign" 1 ["number"] jY)
  (C_determinant:Cal P w K mg base cl "determinant" 2 ["points"] mK)
  : bF P w K mg base CX0 3 f fd ["points"] (cC K cl lU):=by
 have nd:=aeG.nd
 refine okP (np:=1) (n:=1) F aeG (by decide) (by decide) (b:=vF) (k:=2) fun cdv A outer s H E hr=>?_
 exact (aZ (bH (bJ C_sign hr (by decide) rfl (aF (bJ C_determinant hr (by decide) rfl (aF (aD 0) aI)) aI))))
theorem abd:bL ["points","corners","turn"] ["points"] (aW yI):=scM
theorem adX {f:Addr} {fd:FuncData} (F:Fun K "simplex" "simplex" yI f fd)
  (C_side:Cal P w K mg base cl "side" 3 ["points"] lU)
  (m_sorted:mg "sorted"=none)
  (m_tuple:mg "tuple"=none)
  (q_Flat:mg "Flat"=some (.ref (cl "Flat"))) (x_Flat:PySem.W.excIn K (cl "Flat") eT "ValueError.__new__"=true)
  : bF P w K mg base (CX1 P w) 4 f fd ["points"] (spP K cl jF):=by
 have nd:=abd.nd
 refine okX (np:=1) (n:=3) F abd (by decide) (by decide) (b:=oO) (k:=3) fun cdv A outer s H E hr=>?_
 exact (aX (bQ (i:=1) nd rfl (Or.inl rfl) (cW abw ag7 rfl m_sorted ab0 (aF (aD 0) aI)))
   (aX (bQ (i:=2) nd rfl (Or.inl rfl) (bJ C_side hr (by decide) rfl (aF (aD 1) aI)))
   (aX (cP (cJ (dF (hu8 hr)) dG (aD 2) aG (bT _)) (aZ (oP rfl q_Flat x_Flat)) cR)
   (aX (cP (cJ pN qB (aD 2) aG (bT _)) (aZ (bQ (i:=1) nd rfl (Or.inl rfl) (aV dL dN (kC (aD 1) jG (jH (eG eE eH aG))) (fS (aF (bB (aD 1) (eG eE eH aG)) (aF (bB (aD 1) (eG eE eH aG)) aI)))))) cR)
   (aZ (bH (fW lC lL rfl m_tuple iD (aF (aD 1) aI))))))))
theorem afF:bL ["way","arrow"] ["way","arrow"] (aW aed):=scM
theorem ail {f:Addr} {fd:FuncData} (F:Fun K "move" "move" aed f fd)
  (q_NoMove:mg "NoMove"=some (.ref (cl "NoMove"))) (x_NoMove:PySem.W.excIn K (cl "NoMove") eT "ValueError.__new__"=true)
  : bF P w K mg base (CX1 P w) 1 f fd ["way","arrow"] (spP K cl rV):=by
 have nd:=afF.nd
 refine okX (np:=2) (n:=2) F afF (by decide) (by decide) (b:=rK) (k:=0) fun cdv A outer s H E hr=>?_
 exact (aX (cP (PWp.pt (aeJ (cJ (iF (hu8 hr)) iG (aD 0) aG (bT _)) (ac9 (cJ (iF (hu8 hr)) iG (aD 0) (eG eE eH aG) (bT _))))) (aZ (oP rfl q_NoMove x_NoMove)) cR)
   (aZ (bH (nK (aF (aD 0) (aF (aD 1) aI))))))
theorem abu:bL ["move"] ["move"] (aW yU):=scM
theorem ad3 {f:Addr} {fd:FuncData} (F:Fun K "is_push" "is_push" yU f fd)
  : bF P w K mg base CX0 1 f fd ["move"] (cC K cl qU):=by
 have nd:=abu.nd
 refine okP (np:=1) (n:=1) F abu (by decide) (by decide) (b:=yP) (k:=0) fun cdv A outer s H E hr=>?_
 exact (aZ (bH (gK (dF (hu8 hr)) dG (bB (aD 0) aG) aG (bT _))))
theorem aar:bL ["number"] ["number"] (aW xH):=scM
theorem aa0 {f:Addr} {fd:FuncData} (F:Fun K "shown_whole" "shown_whole" xH f fd)
  (m_abs:mg "abs"=none)
  (m_str:mg "str"=none)
  (q_TooGreat:mg "TooGreat"=some (.ref (cl "TooGreat"))) (x_TooGreat:PySem.W.excIn K (cl "TooGreat") eT "ValueError.__new__"=true)
  : bF P w K mg base (CX1 P w) 1 f fd ["number"] (spP K cl oE):=by
 have nd:=aar.nd
 refine okX (np:=1) (n:=1) F aar (by decide) (by decide) (b:=oD) (k:=0) fun cdv A outer s H E hr=>?_
 exact (aX (cP (cJ vP wV (cW oQ pO rfl m_abs pF (aF (aD 0) aI)) (aV iO iR aG aG) (bT _)) (aZ (oP rfl q_TooGreat x_TooGreat)) cR)
   (aZ (bH (fW tD vX rfl m_str rR (aF (cW oQ pO rfl m_abs pF (aF (aD 0) aI)) aI)))))
theorem aaj:bL ["number","text"] ["number"] (aW xD):=scM
theorem aaT {f:Addr} {fd:FuncData} (F:Fun K "shown_number" "shown_number" xD f fd)
  (H_shown_whole:dP P w K mg base cl "shown_whole" 1 ["number"] oE)
  : bF P w K mg base (CX1 P w) 2 f fd ["number"] (spP K cl hV):=by
 obtain ⟨a_shown_whole,d_shown_whole,GX_shown_whole,G_shown_whole,oD,k_shown_whole,n_shown_whole⟩:=H_shown_whole
 have nd:=aaj.nd
 refine okX (np:=1) (n:=2) F aaj (by decide) (by decide) (b:=lB) (k:=1) fun cdv A outer s H E hr=>?_
 exact (aX (bQ (i:=1) nd rfl (Or.inl rfl) (fQ GX_shown_whole (hr.mono (by decide)) rfl n_shown_whole k_shown_whole oD .nil Dv.nil (aF (bB (aD 0) aG) aI)))
   (aX (cP (cJ pN qB (bB (aD 0) aG) aG (bT _)) (aZ (bQ (i:=1) nd rfl (Or.inl rfl) (aV iA iE dS (aD 1)))) cR)
   (aX (cP (cJ (dF (hu8 hr)) dG (bB (aD 0) aG) aG (bT _)) (aZ (bH (aD 1))) cR)
   (aZ (bH (aV iA iE (aV iA iE (aD 1) dS) (fQ GX_shown_whole (hr.mono (by decide)) rfl n_shown_whole k_shown_whole oD .nil Dv.nil (aF (bB (aD 0) aG) aI))))))))
theorem aaq:bL ["p"] ["p"] (aW sW):=scM
theorem aa4 {f:Addr} {fd:FuncData} (F:Fun K "shown_point" "shown_point" sW f fd)
  (C_measures:Cal P w K mg base cl "measures" 3 ["p"] qP)
  (H_shown_number:dP P w K mg base cl "shown_number" 2 ["number"] hV)
  : bF P w K mg base (CX1 P w) 4 f fd ["p"] (spP K cl gG):=by
 obtain ⟨a_shown_number,d_shown_number,GX_shown_number,G_shown_number,lB,k_shown_number,n_shown_number⟩:=H_shown_number
 have nd:=aaq.nd
 refine okX (np:=1) (n:=1) F aaq (by decide) (by decide) (b:=lD) (k:=3) fun cdv A outer s H E hr=>?_
 exact (aZ (bH (oS dS (aF (qZ (own:=["number"]) (cap:=[]) (dM (aW sW) ["p"] rfl rfl rfl (by decide +kernel) (by decide +kernel) (by decide +kernel) (by decide +kernel) (by decide +kernel)) (dY (bJ C_measures hr (by decide) rfl (aF (aD 0) aI))) rfl (fun _ _ _ _=>(cF (i:=0) (show (bI ["number"] []).Nodup by decide +kernel) rfl (Or.inl rfl) (Or.inr rfl))) (fun _ _ _ _ _ hp=>(lK hp GX_shown_number (hr.mono (by decide)) rfl n_shown_number k_shown_number lB .nil Dv.nil (aF (aD 0) aI)))) aI))))
theorem aaa:bL ["piece"] ["piece"] (aW sP):=scM
theorem aaH {f:Addr} {fd:FuncData} (F:Fun K "shown_simplex" "shown_simplex" sP f fd)
  (H_shown_point:dP P w K mg base cl "shown_point" 4 ["p"] gG)
  : bF P w K mg base (CX1 P w) 5 f fd ["piece"] (spP K cl iY):=by
 obtain ⟨a_shown_point,d_shown_point,GX_shown_point,G_shown_point,lD,k_shown_point,n_shown_point⟩:=H_shown_point
 have nd:=aaa.nd
 refine okX (np:=1) (n:=1) F aaa (by decide) (by decide) (b:=nZ) (k:=4) fun cdv A outer s H E hr=>?_
 exact (aZ (bH (oS dS (aF (qZ (own:=["p"]) (cap:=[]) (dM (aW sP) ["piece"] rfl rfl rfl (by decide +kernel) (by decide +kernel) (by decide +kernel) (by decide +kernel) (by decide +kernel)) (dY (aD 0)) rfl (fun _ _ _ _=>(cF (i:=0) (show (bI ["p"] []).Nodup by decide +kernel) rfl (Or.inl rfl) (Or.inr rfl))) (fun _ _ _ _ _ hp=>(lK hp GX_shown_point (hr.mono (by decide)) rfl n_shown_point k_shown_point lD .nil Dv.nil (aF (aD 0) aI)))) aI))))
theorem aay:bL ["texts"] ["texts"] (aW xP):=scM
theorem abG {f:Addr} {fd:FuncData} (F:Fun K "shown_rows" "shown_rows" xP f fd)
  (gt_NOTHING:GlT K mg "NOTHING" (.str "none"))
  : bF P w K mg base CX0 1 f fd ["texts"] (cC K cl oG):=by
 have nd:=aay.nd
 refine okP (np:=1) (n:=1) F aay (by decide) (by decide) (b:=sZ) (k:=0) fun cdv A outer s H E hr=>?_
 exact (aZ (bH (nQ (ah2 (aD 0)) (oS dS (aF (aD 0) aI)) (kM rfl gt_NOTHING))))
theorem aaw:bL ["one"] ["one"] (aW xQ):=scM
theorem abE {f:Addr} {fd:FuncData} (F:Fun K "shown_move" "shown_move" xQ f fd)
  (C_is_push:Cal P w K mg base cl "is_push" 1 ["move"] qU)
  (H_shown_point:dP P w K mg base cl "shown_point" 4 ["p"] gG)
  (gt_PUSH:GlT K mg "PUSH" (.str "push"))
  (gt_TURN:GlT K mg "TURN" (.str "turn"))
  : bF P w K mg base (CX1 P w) 5 f fd ["one"] (spP K cl jC):=by
 obtain ⟨a_shown_point,d_shown_point,GX_shown_point,G_shown_point,lD,k_shown_point,n_shown_point⟩:=H_shown_point
 have nd:=aaw.nd
 refine okX (np:=1) (n:=1) F aaw (by decide) (by decide) (b:=oF) (k:=4) fun cdv A outer s H E hr=>?_
 exact (aZ (bH (aV iA iE (aV iA iE (nQ (gH (bJ C_is_push hr (by decide) rfl (aF (aD 0) aI))) (kM rfl gt_PUSH) (kM rfl gt_TURN)) dS) (fQ GX_shown_point (hr.mono (by decide)) rfl n_shown_point k_shown_point lD .nil Dv.nil (aF (bB (aD 0) aG) aI)))))
theorem aaf:bL ["cutting"] ["cutting"] (aW sO):=scM
theorem aaE {f:Addr} {fd:FuncData} (F:Fun K "shown_cutting" "shown_cutting" sO f fd)
  (C_shown_rows:Cal P w K mg base cl "shown_rows" 1 ["texts"] oG)
  (H_shown_simplex:dP P w K mg base cl "shown_simplex" 5 ["piece"] iY)
  (H_shown_move:dP P w K mg base cl "shown_move" 5 ["one"] jC)
  : bF P w K mg base (CX1 P w) 6 f fd ["cutting"] (spP K cl lA):=by
 obtain ⟨a_shown_simplex,d_shown_simplex,GX_shown_simplex,G_shown_simplex,nZ,k_shown_simplex,n_shown_simplex⟩:=H_shown_simplex
 obtain ⟨a_shown_move,d_shown_move,GX_shown_move,G_shown_move,oF,k_shown_move,n_shown_move⟩:=H_shown_move
 have nd:=aaf.nd
 refine okX (np:=1) (n:=1) F aaf (by decide) (by decide) (b:=nY) (k:=5) fun cdv A outer s H E hr=>?_
 exact (aZ (bH (bJ C_shown_rows hr (by decide) rfl (aF (qZ (own:=["row"]) (cap:=[]) (dM (aW sO) ["cutting"] rfl rfl rfl (by decide +kernel) (by decide +kernel) (by decide +kernel) (by decide +kernel) (by decide +kernel)) (dY (aD 0)) rfl (fun _ _ _ _=>(cF (i:=0) (show (bI ["row"] []).Nodup by decide +kernel) rfl (Or.inl rfl) (Or.inr rfl))) (fun _ _ _ _ _ hp=>(aV iA iE (aV iA iE (lK hp GX_shown_simplex (hr.mono (by decide)) rfl n_shown_simplex k_shown_simplex nZ .nil Dv.nil (aF (bB (aD 0) aG) aI)) dS) (lK hp GX_shown_move (hr.mono (by decide)) rfl n_shown_move k_shown_move oF .nil Dv.nil (aF (bB (aD 0) aG) aI))))) aI))))
theorem aac:bL ["fits"] ["fits"] (aW xC):=scM
theorem aaJ {f:Addr} {fd:FuncData} (F:Fun K "refuse_unless" "refuse_unless" xC f fd)
  (q_NoText:mg "NoText"=some (.ref (cl "NoText"))) (x_NoText:PySem.W.excIn K (cl "NoText") eT "ValueError.__new__"=true)
  : bF P w K mg base (CX1 P w) 1 f fd ["fits"] (spP K cl fE):=by
 have nd:=aac.nd
 refine okX (np:=1) (n:=1) F aac (by decide) (by decide) (b:=fO) (k:=0) fun cdv A outer s H E hr=>?_
 exact (aZ (cP (iN (gH (aD 0))) (aZ (oP rfl q_NoText x_NoText)) cR))
theorem aav:bL ["text"] ["text"] (aW sY):=scM
theorem abA {f:Addr} {fd:FuncData} (F:Fun K "read_whole" "read_whole" sY f fd)
  (H_refuse_unless:dP P w K mg base cl "refuse_unless" 1 ["fits"] fE)
  (m_all:mg "all"=none)
  (m_int:mg "int"=none)
  (m_len:mg "len"=none)
  (gt_FIGURES:GlT K mg "FIGURES" (.str "0123456789"))
  (gt_MOST_FIGURES:GlT K mg "MOST_FIGURES" (.int 60))
  : bF P w K mg base (CX1 P w) 2 f fd ["text"] (spP K cl fV):=by
 obtain ⟨a_refuse_unless,d_refuse_unless,GX_refuse_unless,G_refuse_unless,fO,k_refuse_unless,n_refuse_unless⟩:=H_refuse_unless
 have nd:=aav.nd
 refine okX (np:=1) (n:=1) F aav (by decide) (by decide) (b:=oI) (k:=1) fun cdv A outer s H E hr=>?_
 exact (aX (gW (fQ GX_refuse_unless (hr.mono (by decide)) rfl n_refuse_unless k_refuse_unless fO .nil Dv.nil (aF (rS (ac0 aiR akL aiR akL aG (cW abV ajo rfl m_len eZ (aF (aD 0) aI)) (kM rfl gt_MOST_FIGURES)) (nH (cW (uC rfl) vN rfl m_all vC (aF (gY (own:=["sign"]) (cap:=[]) (dM (aW sY) ["text"] rfl rfl rfl (by decide +kernel) (by decide +kernel) (by decide +kernel) (by decide +kernel) (by decide +kernel)) (ahx (aD 0)) rfl (fun _ _ _ _=>(cF (i:=0) (show (bI ["sign"] []).Nodup by decide +kernel) rfl (Or.inl rfl) (Or.inr rfl))) (fun _ _ _ _=>(gK afO ak4 (aD 0) (kM rfl gt_FIGURES) rfl))) aI)))) aI)))
   (aZ (bH (fW abC aiW rfl m_int ag0 (aF (aD 0) aI)))))
theorem aal:bL ["line","parts","below","top","bottom"] ["line"] (aW xF):=scM
theorem aa8 {f:Addr} {fd:FuncData} (F:Fun K "read_number" "read_number" xF f fd)
  (H_refuse_unless:dP P w K mg base cl "refuse_unless" 1 ["fits"] fE)
  (H_read_whole:dP P w K mg base cl "read_whole" 2 ["text"] fV)
  (H_fraction:dP P w K mg base cl "fraction" 2 ["top","bottom"] iL)
  (m_len:mg "len"=none)
  : bF P w K mg base (CX1 P w) 3 f fd ["line"] (spP K cl eN):=by
 obtain ⟨a_refuse_unless,d_refuse_unless,GX_refuse_unless,G_refuse_unless,fO,k_refuse_unless,n_refuse_unless⟩:=H_refuse_unless
 obtain ⟨a_read_whole,d_read_whole,GX_read_whole,G_read_whole,oI,k_read_whole,n_read_whole⟩:=H_read_whole
 obtain ⟨a_fraction,d_fraction,GX_fraction,G_fraction,mO,k_fraction,n_fraction⟩:=H_fraction
 have nd:=aal.nd
 refine okX (np:=1) (n:=5) F aal (by decide) (by decide) (b:=jA) (k:=2) fun cdv A outer s H E hr=>?_
 exact (aX (bQ (i:=1) nd rfl (Or.inl rfl) (nG PySem.F.slot_str_split PySem.F.type_str_split qW (aD 0) (aF dS aI)))
   (aX (gW (fQ GX_refuse_unless (hr.mono (by decide)) rfl n_refuse_unless k_refuse_unless fO .nil Dv.nil (aF (gK aiR akL (cW fF fI rfl m_len eZ (aF (aD 1) aI)) aG (bT _)) aI)))
   (aX (bQ (i:=2) nd rfl (Or.inl rfl) (nG PySem.F.slot_str_startswith PySem.F.type_str_startswith aeF (bB (aD 1) aG) (aF dS aI)))
   (aX (bQ (i:=3) nd rfl (Or.inl rfl) (fQ GX_read_whole (hr.mono (by decide)) rfl n_read_whole k_read_whole oI .nil Dv.nil (aF (nQ (gH (aD 2)) (akE (bB (aD 1) aG) (jH aG) jG) (bB (aD 1) aG)) aI)))
   (aX (bQ (i:=4) nd rfl (Or.inl rfl) (nQ (cJ (dF (hu8 hr)) dG (cW fF fI rfl m_len eZ (aF (aD 1) aI)) aG (bT _)) (fQ GX_read_whole (hr.mono (by decide)) rfl n_read_whole k_read_whole oI .nil Dv.nil (aF (bB (aD 1) aG) aI)) aG))
   (aX (gW (fQ GX_refuse_unless (hr.mono (by decide)) rfl n_refuse_unless k_refuse_unless fO .nil Dv.nil (aF (gK (iF (hu8 hr)) iG (aD 4) aG (bT _)) aI)))
   (aZ (bH (fQ GX_fraction (hr.mono (by decide)) rfl n_fraction k_fraction mO .nil Dv.nil (aF (nQ (gH (aD 2)) (eG eE eH (aD 3)) (aD 3)) (aF (aD 4) aI)))))))))))
theorem aau:bL ["line","parts"] ["line"] (aW tE):=scM
theorem abF {f:Addr} {fd:FuncData} (F:Fun K "read_point" "read_point" tE f fd)
  (H_read_number:dP P w K mg base cl "read_number" 3 ["line"] eN)
  (H_refuse_unless:dP P w K mg base cl "refuse_unless" 1 ["fits"] fE)
  (C_point_at:Cal P w K mg base cl "point_at" 4 ["parts"] kH)
  (m_len:mg "len"=none)
  : bF P w K mg base (CX1 P w) 5 f fd ["line"] (spP K cl jB):=by
 obtain ⟨a_read_number,d_read_number,GX_read_number,G_read_number,jA,k_read_number,n_read_number⟩:=H_read_number
 obtain ⟨a_refuse_unless,d_refuse_unless,GX_refuse_unless,G_refuse_unless,fO,k_refuse_unless,n_refuse_unless⟩:=H_refuse_unless
 have nd:=aau.nd
 refine okX (np:=1) (n:=2) F aau (by decide) (by decide) (b:=mL) (k:=4) fun cdv A outer s H E hr=>?_
 exact (aX (abS (i:=1) (own:=["text"]) (cap:=[]) nd rfl (Or.inl rfl) (dM (aW tE) ["line","parts"] rfl rfl rfl (by decide +kernel) (by decide +kernel) (by decide +kernel) (by decide +kernel) (by decide +kernel)) (dY (nG PySem.F.slot_str_split PySem.F.type_str_split qW (aD 0) (aF dS aI))) rfl (fun _ _ _ _=>(cF (i:=0) (show (bI ["text"] []).Nodup by decide +kernel) rfl (Or.inl rfl) (Or.inr rfl))) (fun _ _ _ _ _ hp=>(lK hp GX_read_number (hr.mono (by decide)) rfl n_read_number k_read_number jA .nil Dv.nil (aF (aD 0) aI))))
   (aX (gW (fQ GX_refuse_unless (hr.mono (by decide)) rfl n_refuse_unless k_refuse_unless fO .nil Dv.nil (aF (akk (gK (dF (hu8 hr)) dG (cW fF fI rfl m_len eZ (aF (aD 1) aI)) aG (bT _)) (nH (gK (dF (hu8 hr)) dG (cW fF fI rfl m_len eZ (aF (aD 1) aI)) aG (bT _)))) aI)))
   (aZ (bH (bJ C_point_at hr (by decide) rfl (aF (aD 1) aI))))))
theorem aah:bL ["text","corners"] ["text"] (aW qG):=scM
theorem aaQ {f:Addr} {fd:FuncData} (F:Fun K "read_corners" "read_corners" qG f fd)
  (H_read_point:dP P w K mg base cl "read_point" 5 ["line"] jB)
  (H_refuse_unless:dP P w K mg base cl "refuse_unless" 1 ["fits"] fE)
  (m_all:mg "all"=none)
  (m_len:mg "len"=none)
  : bF P w K mg base (CX1 P w) 6 f fd ["text"] (spP K cl qH):=by
 obtain ⟨a_read_point,d_read_point,GX_read_point,G_read_point,mL,k_read_point,n_read_point⟩:=H_read_point
 obtain ⟨a_refuse_unless,d_refuse_unless,GX_refuse_unless,G_refuse_unless,fO,k_refuse_unless,n_refuse_unless⟩:=H_refuse_unless
 have nd:=aah.nd
 refine okX (np:=1) (n:=2) F aah (by decide) (by decide) (b:=qF) (k:=5) fun cdv A outer s H E hr=>?_
 exact (aX (bQ (i:=1) nd rfl (Or.inr rfl) (qZ (own:=["part"]) (cap:=[]) (dM (aW qG) ["text","corners"] rfl rfl rfl (by decide +kernel) (by decide +kernel) (by decide +kernel) (by decide +kernel) (by decide +kernel)) (dY (nG PySem.F.slot_str_split PySem.F.type_str_split qW (aD 0) (aF dS aI))) rfl (fun _ _ _ _=>(cF (i:=0) (show (bI ["part"] []).Nodup by decide +kernel) rfl (Or.inl rfl) (Or.inr rfl))) (fun _ _ _ _ _ hp=>(lK hp GX_read_point (hr.mono (by decide)) rfl n_read_point k_read_point mL .nil Dv.nil (aF (aD 0) aI)))))
   (aX (gW (fQ GX_refuse_unless (hr.mono (by decide)) rfl n_refuse_unless k_refuse_unless fO .nil Dv.nil (aF (cW (uC rfl) vN rfl m_all vC (aF (gY (own:=["p"]) (cap:=[(1,"corners")]) (dM (aW qG) ["text","corners"] rfl rfl rfl (by decide +kernel) (by decide +kernel) (by decide +kernel) (by decide +kernel) (by decide +kernel)) (dY (aD 1)) rfl (fun _ _ _ _=>(cF (i:=0) (show (bI ["p"] [(1,"corners")]).Nodup by decide +kernel) rfl (Or.inl rfl) (Or.inr rfl))) (fun _ _ _ _=>(gK (dF (hu8 hr)) dG (cW fF fI rfl m_len eZ (aF (aD 0) aI)) (cW fF fI rfl m_len eZ (aF (aD 1) aI)) (bT _)))) aI)) aI)))
   (aZ (bH (aD 1)))))
theorem aaB:bL ["line"] ["line"] (aW xR):=scM
theorem ace {f:Addr} {fd:FuncData} (F:Fun K "read_rows" "read_rows" xR f fd)
  (gt_NOTHING:GlT K mg "NOTHING" (.str "none"))
  : bF P w K mg base CX0 1 f fd ["line"] (cC K cl mM):=by
 have nd:=aaB.nd
 refine okP (np:=1) (n:=1) F aaB (by decide) (by decide) (b:=tH) (k:=0) fun cdv A outer s H E hr=>?_
 exact (aZ (bH (nQ (cJ (dF (hu8 hr)) dG (aD 0) (kM rfl gt_NOTHING) (bT _)) (fS aI) (nG PySem.F.slot_str_split PySem.F.type_str_split qW (aD 0) (aF dS aI)))))
theorem aaA:bL ["text","parts"] ["text"] (aW xU):=scM
theorem abK {f:Addr} {fd:FuncData} (F:Fun K "read_move" "read_move" xU f fd)
  (H_refuse_unless:dP P w K mg base cl "refuse_unless" 1 ["fits"] fE)
  (H_move:dP P w K mg base cl "move" 1 ["way","arrow"] rV)
  (H_read_point:dP P w K mg base cl "read_point" 5 ["line"] jB)
  (gt_PUSH:GlT K mg "PUSH" (.str "push"))
  (gt_TURN:GlT K mg "TURN" (.str "turn"))
  : bF P w K mg base (CX1 P w) 6 f fd ["text"] (spP K cl qN):=by
 obtain ⟨a_refuse_unless,d_refuse_unless,GX_refuse_unless,G_refuse_unless,fO,k_refuse_unless,n_refuse_unless⟩:=H_refuse_unless
 obtain ⟨a_move,d_move,GX_move,G_move,rK,k_move,n_move⟩:=H_move
 obtain ⟨a_read_point,d_read_point,GX_read_point,G_read_point,mL,k_read_point,n_read_point⟩:=H_read_point
 have nd:=aaA.nd
 refine okX (np:=1) (n:=2) F aaA (by decide) (by decide) (b:=qL) (k:=5) fun cdv A outer s H E hr=>?_
 exact (aX (bQ (i:=1) nd rfl (Or.inl rfl) (nG PySem.F.slot_str_partition PySem.F.type_str_partition aib (aD 0) (aF dS aI)))
   (aX (gW (fQ GX_refuse_unless (hr.mono (by decide)) rfl n_refuse_unless k_refuse_unless fO .nil Dv.nil (aF (akk (gK (dF (hu8 hr)) dG (bB (aD 1) aG) (kM rfl gt_PUSH) (bT _)) (nH (gK (dF (hu8 hr)) dG (bB (aD 1) aG) (kM rfl gt_TURN) (bT _)))) aI)))
   (aZ (bH (fQ GX_move (hr.mono (by decide)) rfl n_move k_move rK .nil Dv.nil (aF (nQ (cJ (dF (hu8 hr)) dG (bB (aD 1) aG) (kM rfl gt_PUSH) (bT _)) aG (eG eE eH aG)) (aF (fQ GX_read_point (hr.mono (by decide)) rfl n_read_point k_read_point mL .nil Dv.nil (aF (bB (aD 1) aG) aI)) aI)))))))
theorem aaz:bL ["text","parts"] ["text"] (aW xO):=scM
theorem abB {f:Addr} {fd:FuncData} (F:Fun K "read_piece" "read_piece" xO f fd)
  (H_refuse_unless:dP P w K mg base cl "refuse_unless" 1 ["fits"] fE)
  (H_read_move:dP P w K mg base cl "read_move" 6 ["text"] qN)
  (H_read_corners:dP P w K mg base cl "read_corners" 6 ["text"] qH)
  (m_len:mg "len"=none)
  : bF P w K mg base (CX1 P w) 7 f fd ["text"] (spP K cl lF):=by
 obtain ⟨a_refuse_unless,d_refuse_unless,GX_refuse_unless,G_refuse_unless,fO,k_refuse_unless,n_refuse_unless⟩:=H_refuse_unless
 obtain ⟨a_read_move,d_read_move,GX_read_move,G_read_move,qL,k_read_move,n_read_move⟩:=H_read_move
 obtain ⟨a_read_corners,d_read_corners,GX_read_corners,G_read_corners,qF,k_read_corners,n_read_corners⟩:=H_read_corners
 have nd:=aaz.nd
 refine okX (np:=1) (n:=2) F aaz (by decide) (by decide) (b:=qK) (k:=6) fun cdv A outer s H E hr=>?_
 exact (aX (bQ (i:=1) nd rfl (Or.inl rfl) (nG PySem.F.slot_str_split PySem.F.type_str_split qW (aD 0) (aF dS aI)))
   (aX (gW (fQ GX_refuse_unless (hr.mono (by decide)) rfl n_refuse_unless k_refuse_unless fO .nil Dv.nil (aF (gK (dF (hu8 hr)) dG (cW fF fI rfl m_len eZ (aF (aD 1) aI)) aG (bT _)) aI)))
   (aZ (bH (nK (aF (fQ GX_read_corners (hr.mono (by decide)) rfl n_read_corners k_read_corners qF .nil Dv.nil (aF (bB (aD 1) aG) aI)) (aF (fQ GX_read_move (hr.mono (by decide)) rfl n_read_move k_read_move qL .nil Dv.nil (aF (bB (aD 1) aG) aI)) aI)))))))
theorem aai:bL ["line","rows","corners","one"] ["line"] (aW qI):=scM
theorem aaY {f:Addr} {fd:FuncData} (F:Fun K "read_cutting" "read_cutting" qI f fd)
  (C_read_rows:Cal P w K mg base cl "read_rows" 1 ["line"] mM)
  (H_read_piece:dP P w K mg base cl "read_piece" 7 ["text"] lF)
  (H_refuse_unless:dP P w K mg base cl "refuse_unless" 1 ["fits"] fE)
  (H_simplex:dP P w K mg base cl "simplex" 4 ["points"] jF)
  (m_len:mg "len"=none)
  (m_tuple:mg "tuple"=none)
  : bF P w K mg base (CX1 P w) 8 f fd ["line"] (spP K cl oB):=by
 obtain ⟨a_read_piece,d_read_piece,GX_read_piece,G_read_piece,qK,k_read_piece,n_read_piece⟩:=H_read_piece
 obtain ⟨a_refuse_unless,d_refuse_unless,GX_refuse_unless,G_refuse_unless,fO,k_refuse_unless,n_refuse_unless⟩:=H_refuse_unless
 obtain ⟨a_simplex,d_simplex,GX_simplex,G_simplex,oO,k_simplex,n_simplex⟩:=H_simplex
 have nd:=aai.nd
 refine okX (np:=1) (n:=4) F aai (by decide) (by decide) (b:=qE) (k:=7) fun cdv A outer s H E hr=>?_
 exact (aX (abS (i:=1) (own:=["text"]) (cap:=[]) nd rfl (Or.inl rfl) (dM (aW qI) ["line","rows","corners","one"] rfl rfl rfl (by decide +kernel) (by decide +kernel) (by decide +kernel) (by decide +kernel) (by decide +kernel)) (dY (bJ C_read_rows hr (by decide) rfl (aF (aD 0) aI))) rfl (fun _ _ _ _=>(cF (i:=0) (show (bI ["text"] []).Nodup by decide +kernel) rfl (Or.inl rfl) (Or.inr rfl))) (fun _ _ _ _ _ hp=>(lK hp GX_read_piece (hr.mono (by decide)) rfl n_read_piece k_read_piece qK .nil Dv.nil (aF (aD 0) aI))))
   (aX (kL PassesOwn.leaving rfl (dY (aD 1)) (nB rfl (gU (cF (i:=2) nd rfl (Or.inl rfl)) (gU (cF (i:=3) nd rfl (Or.inl rfl)) mW))) (aZ (gW (fQ GX_refuse_unless (hr.mono (by decide)) rfl n_refuse_unless k_refuse_unless fO .nil Dv.nil (aF (ac0 (dF (hu8 hr)) dG (dF (hu8 hr)) dG (cW fF fI rfl m_len eZ (aF (aD 2) aI)) (cW fF fI rfl m_len eZ (aF (bB (aD 3) aG) aI)) (cW fF fI rfl m_len eZ (aF (bB (bB (aD 1) aG) aG) aI))) aI)))))
   (aZ (bH (fW lC lL rfl m_tuple iD (aF (qZ (own:=["corners","one"]) (cap:=[]) (dM (aW qI) ["line","rows","corners","one"] rfl rfl rfl (by decide +kernel) (by decide +kernel) (by decide +kernel) (by decide +kernel) (by decide +kernel)) (dY (aD 1)) rfl (fun _ _ _ _=>(nB rfl (gU (cF (i:=0) (show (bI ["corners","one"] []).Nodup by decide +kernel) rfl (Or.inl rfl) (Or.inr rfl)) (gU (cF (i:=1) (show (bI ["corners","one"] []).Nodup by decide +kernel) rfl (Or.inl rfl) (Or.inr rfl)) mW)))) (fun _ _ _ _ _ hp=>(nK (aF (lK hp GX_simplex (hr.mono (by decide)) rfl n_simplex k_simplex oO .nil Dv.nil (aF (aD 0) aI)) (aF (aD 1) aI))))) aI))))))
theorem ad8:bL ["_law_script","_law_row_here","_law_k","_law_cell","_law_one","_law_two","_law_three"] ["_law_script"] (aW afA):=scM
theorem aik {f:Addr} {fd:FuncData} (F:Fun K "_law_row" "_law_row" afA f fd)
  (m_enumerate:mg "enumerate"=none)
  : bF P w K mg base CX0 1 f fd ["_law_script"] (cC K cl pG):=by
 have nd:=ad8.nd
 refine okP (np:=1) (n:=7) F ad8 (by decide) (by decide) (b:=afI) (k:=0) fun cdv A outer s H E hr=>?_
 exact (aX (bQ (i:=1) nd rfl (Or.inl rfl) (uO aI))
   (aX (kL PassesOwn.never rfl (af0 rfl m_enumerate (aF (kC (aD 0) jG (jH aG)) aI)) (nB rfl (gU (cF (i:=2) nd rfl (Or.inl rfl)) (gU (cF (i:=3) nd rfl (Or.inl rfl)) mW))) (aZ (cP (cJ vP wV (aD 3) (aV iO iR aG aG) (bT _)) (aZ (gW (qV (aD 1) (aF (aV fZ gD (aD 3) (aV iO iR aG aG)) aI)))) (aX (bQ (i:=4) nd rfl (Or.inl rfl) (aV kO kT (aV cH cL (aV dL dN (aV dL dN (aV dL dN (aD 3) (aV cH cL (aV cH cL aG (aD 2)) (aD 2))) (aV cH cL aG (aD 2))) aG) aG) aG))
   (aX (bQ (i:=5) nd rfl (Or.inl rfl) (aV kO kT (aV cH cL (aV dL dN (aV dL dN (aV dL dN (aD 3) (aV cH cL (aV cH cL aG (aD 2)) (aD 2))) (aV cH cL aG (aD 2))) aG) aG) aG))
   (aX (bQ (i:=6) nd rfl (Or.inl rfl) (aV kO kT (aV cH cL (aV dL dN (aV dL dN (aV dL dN (aD 3) (aV cH cL (aV cH cL aG (aD 2)) (aD 2))) (aV cH cL aG (aD 2))) aG) aG) aG))
   (aX (bQ (i:=4) nd rfl (Or.inl rfl) (aV kO kT (aV cH cL (aD 4) aG) aG))
   (aX (bQ (i:=5) nd rfl (Or.inl rfl) (aV kO kT (aV cH cL (aD 5) aG) aG))
   (aX (bQ (i:=6) nd rfl (Or.inl rfl) (aV kO kT (aV cH cL (aD 6) aG) aG))
   (aZ (gW (qV (aD 1) (aF (aV dL dN (aV cH cL (aV dL dN (aV cH cL (aD 4) aG) (aD 5)) aG) (aD 6)) aI)))))))))))))
   (aZ (bH (aD 1)))))
theorem adh:bL ["_law_row_here","_law_many","_law_found"] ["_law_row_here","_law_many"] (aW zW):=scM
theorem agd {f:Addr} {fd:FuncData} (F:Fun K "_law_take" "_law_take" zW f fd)
  (m_len:mg "len"=none)
  : bF P w K mg base CX0 1 f fd ["_law_row_here","_law_many"] (cC K cl cG):=by
 have nd:=adh.nd
 refine okP (np:=2) (n:=3) F adh (by decide) (by decide) (b:=uN) (k:=0) fun cdv A outer s H E hr=>?_
 exact (aX (yZ PassesOwn.never (PWp.pt (aeJ (cJ ah1 akN (cW fF fI rfl m_len eZ (aF (aD 0) aI)) aG (bT _)) (ac9 (cJ (dF (hu8 hr)) dG (bB (aD 0) aG) aG (bT _))))) (aZ (gW (ajw (aD 0) (aF aG aI)))))
   (aX (cP (cJ (dF (hu8 hr)) dG (cW fF fI rfl m_len eZ (aF (aD 0) aI)) aG (bT _)) (aZ (bH aG)) cR)
   (aX (bQ (i:=2) nd rfl (Or.inl rfl) (aV kO kT (bB (aD 0) aG) (aD 1)))
   (aX (afh (aV mY nF (bB (aD 0) aG) (aD 1)) (aD 0) aG)
   (aZ (bH (aD 2)))))))
theorem aev:bL ["_law_one","_law_other"] ["_law_one","_law_other"] (aW aeH):=scM
theorem aiA {f:Addr} {fd:FuncData} (F:Fun K "_law_gcd" "_law_gcd" aeH f fd)
  (m_abs:mg "abs"=none)
  : bF P w K mg base CX0 1 f fd ["_law_one","_law_other"] (cC K cl pD):=by
 have nd:=aev.nd
 refine okP (np:=2) (n:=2) F aev (by decide) (by decide) (b:=aem) (k:=0) fun cdv A outer s H E hr=>?_
 exact (aX (bQ (i:=0) nd rfl (Or.inl rfl) (cW oQ pO rfl m_abs pF (aF (aD 0) aI)))
   (aX (bQ (i:=1) nd rfl (Or.inl rfl) (cW oQ pO rfl m_abs pF (aF (aD 1) aI)))
   (aX (yZ PassesOwn.never (cJ ah1 akN (aD 1) aG (bT _)) (aZ (ain (i:=0) (j:=1) rfl nd rfl rfl (by decide) rfl rfl (aF (aD 1) (aF (aV kO kT (aD 0) (aD 1)) aI)) rfl)))
   (aZ (bH (aD 0))))))
theorem abt:bL ["_law_numbers","_law_by","_law_number"] ["_law_numbers"] (aW tW):=scM
theorem adU {f:Addr} {fd:FuncData} (F:Fun K "_law_lowest" "_law_lowest" tW f fd)
  (C_wgcd:Cal P w K mg base cl "_law_gcd" 1 ["_law_one","_law_other"] pD)
  (m_tuple:mg "tuple"=none)
  : bF P w K mg base CX0 2 f fd ["_law_numbers"] (cC K cl fG):=by
 have nd:=abt.nd
 refine okP (np:=1) (n:=3) F abt (by decide) (by decide) (b:=tX) (k:=1) fun cdv A outer s H E hr=>?_
 exact (aX (bQ (i:=1) nd rfl (Or.inr rfl) aG)
   (aX (kL PassesOwn.never rfl (dY (aD 0)) (cF (i:=2) nd rfl (Or.inl rfl)) (aZ (bQ (i:=1) nd rfl (Or.inr rfl) (bJ C_wgcd hr (by decide) rfl (aF (aD 1) (aF (aD 2) aI))))))
   (aX (cP (cJ (dF (hu8 hr)) dG (aD 1) aG (bT _)) (aZ (bH (fW lC lL rfl m_tuple iD (aF (aD 0) aI)))) cR)
   (aZ (bH (fW lC lL rfl m_tuple iD (aF (gY (own:=["_law_number"]) (cap:=[(1,"_law_by")]) (dM (aW tW) ["_law_numbers","_law_by","_law_number"] rfl rfl rfl (by decide +kernel) (by decide +kernel) (by decide +kernel) (by decide +kernel) (by decide +kernel)) (dY (aD 0)) rfl (fun _ _ _ _=>(cF (i:=0) (show (bI ["_law_number"] [(1,"_law_by")]).Nodup by decide +kernel) rfl (Or.inl rfl) (Or.inr rfl))) (fun _ _ _ _=>(aV mY nF (aD 0) (aD 1)))) aI)))))))
theorem abN:bL ["_law_number"] ["_law_number"] (aW zK):=scM
theorem aeS {f:Addr} {fd:FuncData} (F:Fun K "_law_whole" "_law_whole" zK f fd)
  (m_bool:mg "bool"=none)
  (m_int:mg "int"=none)
  (m_isinstance:mg "isinstance"=none)
  : bF P w K mg base CX0 1 f fd ["_law_number"] (cC K cl kJ):=by
 have nd:=abN.nd
 refine okP (np:=1) (n:=1) F abN (by decide) (by decide) (b:=zN) (k:=0) fun cdv A outer s H E hr=>?_
 exact (aZ (bH (rS (lS (n:="int") rfl m_isinstance rfl m_int ag0 (aD 0)) (nH (akg (lS (n:="bool") rfl m_isinstance rfl m_bool ahH (aD 0)))))))
theorem abb:bL ["_law_told","_law_many"] ["_law_told","_law_many"] (aW tQ):=scM
theorem adM {f:Addr} {fd:FuncData} (F:Fun K "_law_wholes" "_law_wholes" tQ f fd)
  (C_wwhole:Cal P w K mg base cl "_law_whole" 1 ["_law_number"] kJ)
  (m_all:mg "all"=none)
  (m_isinstance:mg "isinstance"=none)
  (m_len:mg "len"=none)
  (m_tuple:mg "tuple"=none)
  : bF P w K mg base CX0 2 f fd ["_law_told","_law_many"] (cC K cl qS):=by
 have nd:=abb.nd
 refine okP (np:=2) (n:=2) F abb (by decide) (by decide) (b:=yW) (k:=1) fun cdv A outer s H E hr=>?_
 exact (aX (cP (PWp.pt (iQ (iN (gH (lS (n:="tuple") rfl m_isinstance rfl m_tuple iD (aD 0)))) (kN (cJ (iF (hu8 hr)) iG (cW fF fI rfl m_len eZ (aF (aD 0) aI)) (aD 1) (bT _))))) (aZ (bH jP)) cR)
   (aZ (bH (cW (uC rfl) vN rfl m_all vC (aF (gY (own:=["_law_number"]) (cap:=[]) (dM (aW tQ) ["_law_told","_law_many"] rfl rfl rfl (by decide +kernel) (by decide +kernel) (by decide +kernel) (by decide +kernel) (by decide +kernel)) (dY (aD 0)) rfl (fun _ _ _ _=>(cF (i:=0) (show (bI ["_law_number"] []).Nodup by decide +kernel) rfl (Or.inl rfl) (Or.inr rfl))) (fun _ _ _ _=>(bJ C_wwhole hr (by decide) rfl (aF (aD 0) aI)))) aI)))))
theorem adw:bL ["_law_top","_law_bottom"] ["_law_top","_law_bottom"] (aW zT):=scM
theorem agJ {f:Addr} {fd:FuncData} (F:Fun K "_law_frac" "_law_frac" zT f fd)
  (C_wlowest:Cal P w K mg base cl "_law_lowest" 2 ["_law_numbers"] fG)
  : bF P w K mg base CX0 3 f fd ["_law_top","_law_bottom"] (cC K cl oR):=by
 have nd:=adw.nd
 refine okP (np:=2) (n:=2) F adw (by decide) (by decide) (b:=zY) (k:=2) fun cdv A outer s H E hr=>?_
 exact (aX (cP (cJ pN qB (aD 1) aG (bT _)) (aZ (bH (bJ C_wlowest hr (by decide) rfl (aF (fS (aF (aV fZ gD aG (aD 0)) (aF (aV fZ gD aG (aD 1)) aI))) aI)))) cR)
   (aZ (bH (bJ C_wlowest hr (by decide) rfl (aF (fS (aF (aD 0) (aF (aD 1) aI))) aI)))))
theorem aen:bL ["_law_p","_law_q"] ["_law_p","_law_q"] (aW uT):=scM
theorem aid {f:Addr} {fd:FuncData} (F:Fun K "_law_gap" "_law_gap" uT f fd)
  (m_len:mg "len"=none)
  (m_range:mg "range"=none)
  : bF P w K mg base CX0 1 f fd ["_law_p","_law_q"] (cC K cl nE):=by
 have nd:=aen.nd
 refine okP (np:=2) (n:=2) F aen (by decide) (by decide) (b:=aer) (k:=0) fun cdv A outer s H E hr=>?_
 exact (aZ (bH (gY (own:=["_law_k"]) (cap:=[(1,"_law_q"),(0,"_law_p")]) (dM (aW uT) ["_law_p","_law_q"] rfl rfl rfl (by decide +kernel) (by decide +kernel) (by decide +kernel) (by decide +kernel) (by decide +kernel)) (oJ rfl m_range (aF (aV fZ gD (cW fF fI rfl m_len eZ (aF (aD 0) aI)) aG) aI)) rfl (fun _ _ _ _=>(cF (i:=0) (show (bI ["_law_k"] [(1,"_law_q"),(0,"_law_p")]).Nodup by decide +kernel) rfl (Or.inl rfl) (Or.inr rfl))) (fun _ _ _ _=>(aV fZ gD (aV cH cL (bB (aD 1) (aD 0)) (bB (aD 2) (eG eE eH aG))) (aV cH cL (bB (aD 2) (aD 0)) (bB (aD 1) (eG eE eH aG))))))))
theorem abZ:bL ["_law_u","_law_v","_law_x","_law_y","_law_z"] ["_law_u","_law_v"] (aW zG):=scM
theorem afj {f:Addr} {fd:FuncData} (F:Fun K "_law_cross" "_law_cross" zG f fd)
  : bF P w K mg base CX0 1 f fd ["_law_u","_law_v"] (cC K cl qX):=by
 have nd:=abZ.nd
 refine okP (np:=2) (n:=5) F abZ (by decide) (by decide) (b:=zC) (k:=0) fun cdv A outer s H E hr=>?_
 exact (aX (bQ (i:=2) nd rfl (Or.inl rfl) (aV fZ gD (aV cH cL (bB (aD 0) aG) (bB (aD 1) aG)) (aV cH cL (bB (aD 0) aG) (bB (aD 1) aG))))
   (aX (bQ (i:=3) nd rfl (Or.inl rfl) (aV fZ gD (aV cH cL (bB (aD 0) aG) (bB (aD 1) aG)) (aV cH cL (bB (aD 0) aG) (bB (aD 1) aG))))
   (aX (bQ (i:=4) nd rfl (Or.inl rfl) (aV fZ gD (aV cH cL (bB (aD 0) aG) (bB (aD 1) aG)) (aV cH cL (bB (aD 0) aG) (bB (aD 1) aG))))
   (aZ (bH (fS (aF (aD 2) (aF (aD 3) (aF (aD 4) aI)))))))))
theorem afy:bL ["_law_u","_law_v"] ["_law_u","_law_v"] (aW uV):=scM
theorem aiF {f:Addr} {fd:FuncData} (F:Fun K "_law_dot" "_law_dot" uV f fd)
  (m_sum:mg "sum"=none)
  (m_zip:mg "zip"=none)
  : bF P w K mg base CX0 1 f fd ["_law_u","_law_v"] (cC K cl rM):=by
 have nd:=afy.nd
 refine okP (np:=2) (n:=2) F afy (by decide) (by decide) (b:=afb) (k:=0) fun cdv A outer s H E hr=>?_
 exact (aZ (bH (cW (acj rfl) akB rfl m_sum ahg (aF (gY (own:=["_law_one","_law_other"]) (cap:=[]) (dM (aW uV) ["_law_u","_law_v"] rfl rfl rfl (by decide +kernel) (by decide +kernel) (by decide +kernel) (by decide +kernel) (by decide +kernel)) (acG rfl m_zip (aF (aD 0) (aF (aD 1) aI))) rfl (fun _ _ _ _=>(nB rfl (gU (cF (i:=0) (show (bI ["_law_one","_law_other"] []).Nodup by decide +kernel) rfl (Or.inl rfl) (Or.inr rfl)) (gU (cF (i:=1) (show (bI ["_law_one","_law_other"] []).Nodup by decide +kernel) rfl (Or.inl rfl) (Or.inr rfl)) mW)))) (fun _ _ _ _=>(aV cH cL (aD 0) (aD 1)))) aI))))
theorem ady:bL ["_law_ways"] ["_law_ways"] (aW zQ):=scM
theorem agq {f:Addr} {fd:FuncData} (F:Fun K "_law_turn" "_law_turn" zQ f fd)
  (C_wdot:Cal P w K mg base cl "_law_dot" 1 ["_law_u","_law_v"] rM)
  (C_wcross:Cal P w K mg base cl "_law_cross" 1 ["_law_u","_law_v"] qX)
  (m_len:mg "len"=none)
  : bF P w K mg base CX0 2 f fd ["_law_ways"] (cC K cl jK):=by
 have nd:=ady.nd
 refine okP (np:=1) (n:=1) F ady (by decide) (by decide) (b:=oY) (k:=1) fun cdv A outer s H E hr=>?_
 exact (aX (cP (cJ (dF (hu8 hr)) dG (cW fF fI rfl m_len eZ (aF (aD 0) aI)) aG (bT _)) (aZ (bH (aV fZ gD (aV cH cL (bB (bB (aD 0) aG) aG) (bB (bB (aD 0) aG) aG)) (aV cH cL (bB (bB (aD 0) aG) aG) (bB (bB (aD 0) aG) aG))))) cR)
   (aZ (bH (bJ C_wdot hr (by decide) rfl (aF (bJ C_wcross hr (by decide) rfl (aF (bB (aD 0) aG) (aF (bB (aD 0) aG) aI))) (aF (bB (aD 0) aG) aI))))))
theorem afJ:bL ["_law_points"] ["_law_points"] (aW vG):=scM
theorem ahy {f:Addr} {fd:FuncData} (F:Fun K "_law_det" "_law_det" vG f fd)
  (C_wturn:Cal P w K mg base cl "_law_turn" 2 ["_law_ways"] jK)
  (C_wgap:Cal P w K mg base cl "_law_gap" 1 ["_law_p","_law_q"] nE)
  : bF P w K mg base CX0 3 f fd ["_law_points"] (cC K cl fM):=by
 have nd:=afJ.nd
 refine okP (np:=1) (n:=1) F afJ (by decide) (by decide) (b:=pJ) (k:=2) fun cdv A outer s H E hr=>?_
 exact (aZ (bH (bJ C_wturn hr (by decide) rfl (aF (gY (own:=["_law_p"]) (cap:=[(0,"_law_points")]) (dM (aW vG) ["_law_points"] rfl rfl rfl (by decide +kernel) (by decide +kernel) (by decide +kernel) (by decide +kernel) (by decide +kernel)) (dY (kC (aD 0) (jH aG) jG)) rfl (fun _ _ _ _=>(cF (i:=0) (show (bI ["_law_p"] [(0,"_law_points")]).Nodup by decide +kernel) rfl (Or.inl rfl) (Or.inr rfl))) (fun _ _ _ _=>(bJ C_wgap hr (by decide) rfl (aF (bB (aD 1) aG) (aF (aD 0) aI))))) aI))))
theorem aaK:bL ["_law_points","_law_told"] ["_law_points"] (aW yE):=scM
theorem acB {f:Addr} {fd:FuncData} (F:Fun K "_law_simplex" "_law_simplex" yE f fd)
  (C_wdet:Cal P w K mg base cl "_law_det" 3 ["_law_points"] fM)
  (m_sorted:mg "sorted"=none)
  (m_tuple:mg "tuple"=none)
  : bF P w K mg base CX0 4 f fd ["_law_points"] (cC K cl iB):=by
 have nd:=aaK.nd
 refine okP (np:=1) (n:=2) F aaK (by decide) (by decide) (b:=oM) (k:=3) fun cdv A outer s H E hr=>?_
 exact (aX (bQ (i:=1) nd rfl (Or.inl rfl) (cW abw ag7 rfl m_sorted ab0 (aF (aD 0) aI)))
   (aX (cP (cJ pN qB (bJ C_wdet hr (by decide) rfl (aF (aD 1) aI)) aG (bT _)) (aZ (bQ (i:=1) nd rfl (Or.inl rfl) (aV dL dN (kC (aD 1) jG (jH (eG eE eH aG))) (fS (aF (bB (aD 1) (eG eE eH aG)) (aF (bB (aD 1) (eG eE eH aG)) aI)))))) cR)
   (aZ (bH (fW lC lL rfl m_tuple iD (aF (aD 1) aI))))))
theorem aan:bL ["_law_p","_law_many"] ["_law_p","_law_many"] (aW xJ):=scM
theorem aa5 {f:Addr} {fd:FuncData} (F:Fun K "_law_point_form" "_law_point_form" xJ f fd)
  (C_wwholes:Cal P w K mg base cl "_law_wholes" 2 ["_law_told","_law_many"] qS)
  (C_wlowest:Cal P w K mg base cl "_law_lowest" 2 ["_law_numbers"] fG)
  : bF P w K mg base CX0 3 f fd ["_law_p","_law_many"] (cC K cl iZ):=by
 have nd:=aan.nd
 refine okP (np:=2) (n:=2) F aan (by decide) (by decide) (b:=xN) (k:=2) fun cdv A outer s H E hr=>?_
 exact (aX (cP (PWp.pt (iQ (iN (gH (bJ C_wwholes hr (by decide) rfl (aF (aD 0) (aF (aV dL dN (aD 1) aG) aI))))) (kN (cJ pN qB (bB (aD 0) (eG eE eH aG)) aG (bT _))))) (aZ (bH jP)) cR)
   (aZ (bH (gK (dF (hu8 hr)) dG (bJ C_wlowest hr (by decide) rfl (aF (aD 0) aI)) (aD 0) (bT _)))))
theorem aad:bL ["_law_points","_law_many"] ["_law_points","_law_many"] (aW sM):=scM
theorem aaD {f:Addr} {fd:FuncData} (F:Fun K "_law_simplex_form" "_law_simplex_form" sM f fd)
  (C_wpoint_form:Cal P w K mg base cl "_law_point_form" 3 ["_law_p","_law_many"] iZ)
  (C_wdet:Cal P w K mg base cl "_law_det" 3 ["_law_points"] fM)
  (C_wsimplex:Cal P w K mg base cl "_law_simplex" 4 ["_law_points"] iB)
  (m_all:mg "all"=none)
  (m_isinstance:mg "isinstance"=none)
  (m_len:mg "len"=none)
  (m_tuple:mg "tuple"=none)
  : bF P w K mg base CX0 5 f fd ["_law_points","_law_many"] (cC K cl nW):=by
 have nd:=aad.nd
 refine okP (np:=2) (n:=2) F aad (by decide) (by decide) (b:=xA) (k:=4) fun cdv A outer s H E hr=>?_
 exact (aX (cP (PWp.pt (iQ (iN (gH (lS (n:="tuple") rfl m_isinstance rfl m_tuple iD (aD 0)))) (kN (cJ (iF (hu8 hr)) iG (cW fF fI rfl m_len eZ (aF (aD 0) aI)) (aV dL dN (aD 1) aG) (bT _))))) (aZ (bH jP)) cR)
   (aX (cP (iN (gH (cW (uC rfl) vN rfl m_all vC (aF (gY (own:=["_law_p"]) (cap:=[(1,"_law_many")]) (dM (aW sM) ["_law_points","_law_many"] rfl rfl rfl (by decide +kernel) (by decide +kernel) (by decide +kernel) (by decide +kernel) (by decide +kernel)) (dY (aD 0)) rfl (fun _ _ _ _=>(cF (i:=0) (show (bI ["_law_p"] [(1,"_law_many")]).Nodup by decide +kernel) rfl (Or.inl rfl) (Or.inr rfl))) (fun _ _ _ _=>(bJ C_wpoint_form hr (by decide) rfl (aF (aD 0) (aF (aD 1) aI))))) aI)))) (aZ (bH jP)) cR)
   (aZ (bH (rS (gK (iF (hu8 hr)) iG (bJ C_wdet hr (by decide) rfl (aF (aD 0) aI)) aG (bT _)) (nH (gK (dF (hu8 hr)) dG (bJ C_wsimplex hr (by decide) rfl (aF (aD 0) aI)) (aD 0) (bT _))))))))
theorem aab:bL ["_law_told","_law_many","_law_ways","_law_row_here"] ["_law_told","_law_many","_law_ways"] (aW xB):=scM
theorem aaF {f:Addr} {fd:FuncData} (F:Fun K "_law_cutting_form" "_law_cutting_form" xB f fd)
  (C_wsimplex_form:Cal P w K mg base cl "_law_simplex_form" 5 ["_law_points","_law_many"] nW)
  (C_wwhole:Cal P w K mg base cl "_law_whole" 1 ["_law_number"] kJ)
  (C_wpoint_form:Cal P w K mg base cl "_law_point_form" 3 ["_law_p","_law_many"] iZ)
  (m_isinstance:mg "isinstance"=none)
  (m_len:mg "len"=none)
  (m_tuple:mg "tuple"=none)
  : bF P w K mg base CX0 6 f fd ["_law_told","_law_many","_law_ways"] (cC K cl nX):=by
 have nd:=aab.nd
 refine okP (np:=3) (n:=4) F aab (by decide) (by decide) (b:=wY) (k:=5) fun cdv A outer s H E hr=>?_
 exact (aX (cP (iN (gH (lS (n:="tuple") rfl m_isinstance rfl m_tuple iD (aD 0)))) (aZ (bH jP)) cR)
   (aX (kL PassesOwn.never rfl (dY (aD 0)) (cF (i:=3) nd rfl (Or.inl rfl)) (aX (cP (PWp.pt (iQ (iN (gH (lS (n:="tuple") rfl m_isinstance rfl m_tuple iD (aD 3)))) (iQ (cJ (iF (hu8 hr)) iG (cW fF fI rfl m_len eZ (aF (aD 3) aI)) aG (bT _)) (kN (iN (gH (bJ C_wsimplex_form hr (by decide) rfl (aF (bB (aD 3) aG) (aF (aD 1) aI))))))))) (aZ (bH jP)) cR)
   (aX (cP (PWp.pt (iQ (iN (gH (lS (n:="tuple") rfl m_isinstance rfl m_tuple iD (bB (aD 3) aG)))) (kN (cJ (iF (hu8 hr)) iG (cW fF fI rfl m_len eZ (aF (bB (aD 3) aG) aI)) aG (bT _))))) (aZ (bH jP)) cR)
   (aZ (cP (PWp.pt (iQ (iN (gH (bJ C_wwhole hr (by decide) rfl (aF (bB (bB (aD 3) aG) aG) aI)))) (iQ (cJ acr (amv true) (bB (bB (aD 3) aG) aG) (aD 2) rfl) (kN (iN (gH (bJ C_wpoint_form hr (by decide) rfl (aF (bB (bB (aD 3) aG) aG) (aF (aD 1) aI))))))))) (aZ (bH jP)) cR)))))
   (aZ (bH jP))))
theorem aeB:bL ["_law_row_here","_law_dims","_law_kind","_law_wide","_law_under","_law_far_here"] ["_law_row_here","_law_dims"] (aW vE):=scM
theorem ahU {f:Addr} {fd:FuncData} (F:Fun K "_law_far" "_law_far" vE f fd)
  (C_wtake:Cal P w K mg base cl "_law_take" 1 ["_law_row_here","_law_many"] cG)
  (C_wlowest:Cal P w K mg base cl "_law_lowest" 2 ["_law_numbers"] fG)
  (m_range:mg "range"=none)
  : bF P w K mg base CX0 3 f fd ["_law_row_here","_law_dims"] (cC K cl lQ):=by
 have nd:=aeB.nd
 refine okP (np:=2) (n:=6) F aeB (by decide) (by decide) (b:=aeZ) (k:=2) fun cdv A outer s H E hr=>?_
 exact (aX (bQ (i:=2) nd rfl (Or.inl rfl) (bJ C_wtake hr (by decide) rfl (aF (aD 0) (aF aG aI))))
   (aX (bQ (i:=3) nd rfl (Or.inr rfl) (bB (fS (aF aG (aF aG (aF aG (aF (aV iO iR aG aG) aI))))) (aD 2)))
   (aX (bQ (i:=4) nd rfl (Or.inl rfl) (aV dL dN aG (aV cH cL (bJ C_wtake hr (by decide) rfl (aF (aD 0) (aF aG aI))) (aV mY nF (aD 2) aG))))
   (aX (mU (i:=5) (own:=["_law_k"]) (cap:=[(3,"_law_wide"),(0,"_law_row_here")]) nd rfl (Or.inl rfl) (dM (aW vE) ["_law_row_here","_law_dims","_law_kind","_law_wide","_law_under","_law_far_here"] rfl rfl rfl (by decide +kernel) (by decide +kernel) (by decide +kernel) (by decide +kernel) (by decide +kernel)) (oJ rfl m_range (aF (aD 1) aI)) rfl (fun _ _ _ _=>(cF (i:=0) (show (bI ["_law_k"] [(3,"_law_wide"),(0,"_law_row_here")]).Nodup by decide +kernel) rfl (Or.inl rfl) (Or.inr rfl))) (fun _ _ _ _=>(aV fZ gD (bJ C_wtake hr (by decide) rfl (aF (aD 2) (aF (aV dL dN (aV cH cL aG (aD 1)) aG) aI))) (aD 1))))
   (aZ (bH (bJ C_wlowest hr (by decide) rfl (aF (aV dL dN (aD 5) (fS (aF (aD 4) aI))) aI))))))))
theorem abm:bL ["_law_row_here","_law_rows"] ["_law_row_here","_law_rows"] (aW yT):=scM
theorem adV {f:Addr} {fd:FuncData} (F:Fun K "_law_handed" "_law_handed" yT f fd)
  (C_wtake:Cal P w K mg base cl "_law_take" 1 ["_law_row_here","_law_many"] cG)
  (m_list:mg "list"=none)
  (m_tuple:mg "tuple"=none)
  : bF P w K mg base CX0 2 f fd ["_law_row_here","_law_rows"] (cC K cl lI):=by
 have nd:=abm.nd
 refine okP (np:=2) (n:=2) F abm (by decide) (by decide) (b:=tT) (k:=1) fun cdv A outer s H E hr=>?_
 exact (aX (cP (cJ (dF (hu8 hr)) dG (bJ C_wtake hr (by decide) rfl (aF (aD 0) (aF aG aI))) aG (bT _)) (aZ (bH (fW lC lL rfl m_tuple iD (aF (aD 1) aI)))) cR)
   (aZ (bH (fW tF uM rfl m_list uL (aF (aD 1) aI)))))
theorem aaS:bL ["_law_top","_law_bottom"] ["_law_top","_law_bottom"] (aW xV):=scM
theorem acx {f:Addr} {fd:FuncData} (F:Fun K "_law_written" "_law_written" xV f fd)
  (C_wfrac:Cal P w K mg base cl "_law_frac" 3 ["_law_top","_law_bottom"] oR)
  (m_abs:mg "abs"=none)
  (m_str:mg "str"=none)
  : bF P w K mg base CX0 4 f fd ["_law_top","_law_bottom"] (cC K cl jU):=by
 have nd:=aaS.nd
 refine okP (np:=2) (n:=2) F aaS (by decide) (by decide) (b:=qO) (k:=3) fun cdv A outer s H E hr=>?_
 exact (aX (aiO (bJ C_wfrac hr (by decide) rfl (aF (aD 0) (aF (aD 1) aI))) (nB rfl (gU (cF (i:=0) nd rfl (Or.inl rfl)) (gU (cF (i:=1) nd rfl (Or.inl rfl)) mW))))
   (aX (cP (PWp.pt (iQ (cJ vP wV (cW oQ pO rfl m_abs pF (aF (aD 0) aI)) (aV iO iR aG aG) (bT _)) (kN (cJ vP wV (aD 1) (aV iO iR aG aG) (bT _))))) (aZ (bH kA)) cR)
   (aX (cP (cJ (dF (hu8 hr)) dG (aD 1) aG (bT _)) (aZ (bH (fW tD vX rfl m_str rR (aF (aD 0) aI)))) cR)
   (aZ (bH (aV iA iE (aV iA iE (fW tD vX rfl m_str rR (aF (aD 0) aI)) dS) (fW tD vX rfl m_str rR (aF (aD 1) aI))))))))
theorem aat:bL ["_law_p","_law_words"] ["_law_p"] (aW sS):=scM
theorem aa9 {f:Addr} {fd:FuncData} (F:Fun K "_law_point_text" "_law_point_text" sS f fd)
  (C_wwritten:Cal P w K mg base cl "_law_written" 4 ["_law_top","_law_bottom"] jU)
  : bF P w K mg base CX0 5 f fd ["_law_p"] (cC K cl hZ):=by
 have nd:=aat.nd
 refine okP (np:=1) (n:=2) F aat (by decide) (by decide) (b:=xK) (k:=4) fun cdv A outer s H E hr=>?_
 exact (aX (mU (i:=1) (own:=["_law_number"]) (cap:=[(0,"_law_p")]) nd rfl (Or.inl rfl) (dM (aW sS) ["_law_p","_law_words"] rfl rfl rfl (by decide +kernel) (by decide +kernel) (by decide +kernel) (by decide +kernel) (by decide +kernel)) (dY (kC (aD 0) jG (jH (eG eE eH aG)))) rfl (fun _ _ _ _=>(cF (i:=0) (show (bI ["_law_number"] [(0,"_law_p")]).Nodup by decide +kernel) rfl (Or.inl rfl) (Or.inr rfl))) (fun _ _ _ _=>(bJ C_wwritten hr (by decide) rfl (aF (aD 0) (aF (bB (aD 1) (eG eE eH aG)) aI)))))
   (aX (cP (cJ (aeE (hu8 hr)) ahV kA (aD 1) rfl) (aZ (bH kA)) cR)
   (aZ (bH (oS dS (aF (aD 1) aI))))))
theorem aag:bL ["_law_points","_law_words"] ["_law_points"] (aW sR):=scM
theorem aaM {f:Addr} {fd:FuncData} (F:Fun K "_law_points_text" "_law_points_text" sR f fd)
  (C_wpoint_text:Cal P w K mg base cl "_law_point_text" 5 ["_law_p"] hZ)
  : bF P w K mg base CX0 6 f fd ["_law_points"] (cC K cl qJ):=by
 have nd:=aag.nd
 refine okP (np:=1) (n:=2) F aag (by decide) (by decide) (b:=xE) (k:=5) fun cdv A outer s H E hr=>?_
 exact (aX (mU (i:=1) (own:=["_law_p"]) (cap:=[]) nd rfl (Or.inl rfl) (dM (aW sR) ["_law_points","_law_words"] rfl rfl rfl (by decide +kernel) (by decide +kernel) (by decide +kernel) (by decide +kernel) (by decide +kernel)) (dY (aD 0)) rfl (fun _ _ _ _=>(cF (i:=0) (show (bI ["_law_p"] []).Nodup by decide +kernel) rfl (Or.inl rfl) (Or.inr rfl))) (fun _ _ _ _=>(bJ C_wpoint_text hr (by decide) rfl (aF (aD 0) aI))))
   (aX (cP (cJ (aeE (hu8 hr)) ahV kA (aD 1) rfl) (aZ (bH kA)) cR)
   (aZ (bH (oS dS (aF (aD 1) aI))))))
theorem aao:bL ["_law_row_here","_law_dims","_law_most","_law_wide","_law_many","_law_under","_law_told","_law_k","_law_points","_law_m","_law_far_here"] ["_law_row_here","_law_dims","_law_most"] (aW sX):=scM
theorem aa7 {f:Addr} {fd:FuncData} (F:Fun K "_law_great_heap" "_law_great_heap" sX f fd)
  (C_wtake:Cal P w K mg base cl "_law_take" 1 ["_law_row_here","_law_many"] cG)
  (C_wlowest:Cal P w K mg base cl "_law_lowest" 2 ["_law_numbers"] fG)
  (C_wdet:Cal P w K mg base cl "_law_det" 3 ["_law_points"] fM)
  (C_wsimplex:Cal P w K mg base cl "_law_simplex" 4 ["_law_points"] iB)
  (m_min:mg "min"=none)
  (m_range:mg "range"=none)
  : bF P w K mg base CX0 5 f fd ["_law_row_here","_law_dims","_law_most"] (cC K cl mJ):=by
 have nd:=aao.nd
 refine okP (np:=3) (n:=11) F aao (by decide) (by decide) (b:=xL) (k:=4) fun cdv A outer s H E hr=>?_
 exact (aX (bQ (i:=3) nd rfl (Or.inr rfl) (bB (fS (aF aG (aF aG (aF (aV iO iR aG aG) (aF (aV iO iR aG aG) aI))))) (bJ C_wtake hr (by decide) rfl (aF (aD 0) (aF aG aI)))))
   (aX (bQ (i:=4) nd rfl (Or.inl rfl) (bJ C_wtake hr (by decide) rfl (aF (aD 0) (aF (aV dL dN (aD 2) aG) aI))))
   (aX (bQ (i:=5) nd rfl (Or.inl rfl) aG)
   (aX (cP (cJ (dF (hu8 hr)) dG (bJ C_wtake hr (by decide) rfl (aF (aD 0) (aF aG aI))) aG (bT _)) (aX (bQ (i:=5) nd rfl (Or.inl rfl) (bB (fS (aF (aV iO iR aG aG) (aF (aV iO iR aG aG) aI))) (bJ C_wtake hr (by decide) rfl (aF (aD 0) (aF aG aI)))))
   (aZ (bQ (i:=4) nd rfl (Or.inl rfl) (cW (ael rfl) ajy rfl m_min ajU (aF (aD 4) (aF aG aI)))))) cR)
   (aX (bQ (i:=6) nd rfl (Or.inl rfl) (uO aI))
   (aX (kL PassesOwn.never rfl (oJ rfl m_range (aF (aD 4) aI)) (cF (i:=7) nd rfl (Or.inl rfl)) (aX (bQ (i:=8) nd rfl (Or.inl rfl) (uO aI))
   (aX (kL PassesOwn.never rfl (oJ rfl m_range (aF (aV dL dN (aD 1) aG) aI)) (cF (i:=9) nd rfl (Or.inl rfl)) (aX (mU (i:=10) (own:=["_law_n"]) (cap:=[(3,"_law_wide"),(0,"_law_row_here")]) nd rfl (Or.inl rfl) (dM (aW sX) ["_law_row_here","_law_dims","_law_most","_law_wide","_law_many","_law_under","_law_told","_law_k","_law_points","_law_m","_law_far_here"] rfl rfl rfl (by decide +kernel) (by decide +kernel) (by decide +kernel) (by decide +kernel) (by decide +kernel)) (oJ rfl m_range (aF (aD 1) aI)) rfl (fun _ _ _ _=>(cF (i:=0) (show (bI ["_law_n"] [(3,"_law_wide"),(0,"_law_row_here")]).Nodup by decide +kernel) rfl (Or.inl rfl) (Or.inr rfl))) (fun _ _ _ _=>(aV fZ gD (bJ C_wtake hr (by decide) rfl (aF (aD 2) (aF (aV dL dN (aV cH cL aG (aD 1)) aG) aI))) (aD 1))))
   (aZ (gW (qV (aD 8) (aF (bJ C_wlowest hr (by decide) rfl (aF (aV dL dN (aD 10) (fS (aF (aV dL dN aG (bJ C_wtake hr (by decide) rfl (aF (aD 0) (aF (aD 5) aI)))) aI))) aI)) aI))))))
   (aZ (cP (cJ (iF (hu8 hr)) iG (bJ C_wdet hr (by decide) rfl (aF (aD 8) aI)) aG (bT _)) (aZ (gW (qV (aD 6) (aF (bJ C_wsimplex hr (by decide) rfl (aF (aD 8) aI)) aI)))) cR)))))
   (aZ (bH (aD 6)))))))))
theorem aak:bL ["_law_piece","_law_one","_law_other"] ["_law_piece"] (aW xI):=scM
theorem aa2 {f:Addr} {fd:FuncData} (F:Fun K "_law_piece_text" "_law_piece_text" xI f fd)
  (C_wpoints_text:Cal P w K mg base cl "_law_points_text" 6 ["_law_points"] qJ)
  (C_wpoint_text:Cal P w K mg base cl "_law_point_text" 5 ["_law_p"] hZ)
  : bF P w K mg base CX0 7 f fd ["_law_piece"] (cC K cl lE):=by
 have nd:=aak.nd
 refine okP (np:=1) (n:=3) F aak (by decide) (by decide) (b:=xM) (k:=6) fun cdv A outer s H E hr=>?_
 exact (aX (bQ (i:=1) nd rfl (Or.inl rfl) (bJ C_wpoints_text hr (by decide) rfl (aF (bB (aD 0) aG) aI)))
   (aX (bQ (i:=2) nd rfl (Or.inl rfl) (bJ C_wpoint_text hr (by decide) rfl (aF (bB (bB (aD 0) aG) aG) aI)))
   (aX (cP (PWp.pt (iQ (ad6 (aD 1)) (kN (ad6 (aD 2))))) (aZ (bH kA)) cR)
   (aZ (bH (aV iA iE (aV iA iE (aV iA iE (aV iA iE (aD 1) dS) (bB (fS (aF dS (aF dS (aF dS aI)))) (aV dL dN (bB (bB (aD 0) aG) aG) aG))) dS) (aD 2)))))))
theorem aae:bL ["_law_rows","_law_words"] ["_law_rows"] (aW sQ):=scM
theorem aaI {f:Addr} {fd:FuncData} (F:Fun K "_law_cutting_text" "_law_cutting_text" sQ f fd)
  (C_wpiece_text:Cal P w K mg base cl "_law_piece_text" 7 ["_law_piece"] lE)
  (m_len:mg "len"=none)
  : bF P w K mg base CX0 8 f fd ["_law_rows"] (cC K cl oA):=by
 have nd:=aae.nd
 refine okP (np:=1) (n:=2) F aae (by decide) (by decide) (b:=wZ) (k:=7) fun cdv A outer s H E hr=>?_
 exact (aX (cP (cJ (dF (hu8 hr)) dG (cW fF fI rfl m_len eZ (aF (aD 0) aI)) aG (bT _)) (aZ (bH dS)) cR)
   (aX (mU (i:=1) (own:=["_law_piece"]) (cap:=[]) nd rfl (Or.inl rfl) (dM (aW sQ) ["_law_rows","_law_words"] rfl rfl rfl (by decide +kernel) (by decide +kernel) (by decide +kernel) (by decide +kernel) (by decide +kernel)) (dY (aD 0)) rfl (fun _ _ _ _=>(cF (i:=0) (show (bI ["_law_piece"] []).Nodup by decide +kernel) rfl (Or.inl rfl) (Or.inr rfl))) (fun _ _ _ _=>(bJ C_wpiece_text hr (by decide) rfl (aF (aD 0) aI))))
   (aX (cP (cJ (aeE (hu8 hr)) ahV kA (aD 1) rfl) (aZ (bH kA)) cR)
   (aZ (bH (oS dS (aF (aD 1) aI)))))))
theorem adc:bL ["_law_row_here","_law_dims","_law_rows","_law_points","_law_far_here","_law_handed_here","_law_due","_law_found","_law_again"] ["_law_row_here"] (aW uK):=scM
theorem agj {f:Addr} {fd:FuncData} (F:Fun K "_law_once" "_law_once" uK f fd)
  (C_wtake:Cal P w K mg base cl "_law_take" 1 ["_law_row_here","_law_many"] cG)
  (C_wgreat_heap:Cal P w K mg base cl "_law_great_heap" 5 ["_law_row_here","_law_dims","_law_most"] mJ)
  (C_wfar:Cal P w K mg base cl "_law_far" 3 ["_law_row_here","_law_dims"] lQ)
  (C_wlowest:Cal P w K mg base cl "_law_lowest" 2 ["_law_numbers"] fG)
  (C_whanded:Cal P w K mg base cl "_law_handed" 2 ["_law_row_here","_law_rows"] lI)
  (C_wcutting_text:Cal P w K mg base cl "_law_cutting_text" 8 ["_law_rows"] oA)
  (H_shown_cutting:dP P w K mg base cl "shown_cutting" 6 ["cutting"] lA)
  (H_read_cutting:dP P w K mg base cl "read_cutting" 8 ["line"] oB)
  (C_wcutting_form:Cal P w K mg base cl "_law_cutting_form" 6 ["_law_told","_law_many","_law_ways"] nX)
  (m_isinstance:mg "isinstance"=none)
  (m_list:mg "list"=none)
  (m_range:mg "range"=none)
  (m_str:mg "str"=none)
  (q_TooGreat:mg "TooGreat"=some (.ref (cl "TooGreat"))) (x_TooGreat:PySem.W.excIn K (cl "TooGreat") eT "ValueError.__new__"=true)
  : bF P w K mg base CX0 9 f fd ["_law_row_here"] (cC K cl oU):=by
 obtain ⟨a_shown_cutting,d_shown_cutting,GX_shown_cutting,G_shown_cutting,nY,k_shown_cutting,n_shown_cutting⟩:=H_shown_cutting
 obtain ⟨a_read_cutting,d_read_cutting,GX_read_cutting,G_read_cutting,qE,k_read_cutting,n_read_cutting⟩:=H_read_cutting
 have nd:=adc.nd
 refine okP (np:=1) (n:=9) F adc (by decide) (by decide) (b:=zS) (k:=8) fun cdv A outer s H E hr=>?_
 exact (aX (bQ (i:=1) nd rfl (Or.inl rfl) (aV dL dN aG (bJ C_wtake hr (by decide) rfl (aF (aD 0) (aF aG aI)))))
   (aX (bQ (i:=2) nd rfl (Or.inl rfl) (uO aI))
   (aX (kL PassesOwn.never rfl (dY (bJ C_wgreat_heap hr (by decide) rfl (aF (aD 0) (aF (aD 1) (aF aG aI))))) (cF (i:=3) nd rfl (Or.inl rfl)) (aX (bQ (i:=4) nd rfl (Or.inl rfl) (bJ C_wfar hr (by decide) rfl (aF (aD 0) (aF (aD 1) aI))))
   (aX (cP (cJ (dF (hu8 hr)) dG (bJ C_wtake hr (by decide) rfl (aF (aD 0) (aF aG aI))) aG (bT _)) (aX (mU (i:=4) (own:=["_law_k"]) (cap:=[(0,"_law_row_here")]) nd rfl (Or.inl rfl) (dM (aW uK) ["_law_row_here","_law_dims","_law_rows","_law_points","_law_far_here","_law_handed_here","_law_due","_law_found","_law_again"] rfl rfl rfl (by decide +kernel) (by decide +kernel) (by decide +kernel) (by decide +kernel) (by decide +kernel)) (oJ rfl m_range (aF (aD 1) aI)) rfl (fun _ _ _ _=>(cF (i:=0) (show (bI ["_law_k"] [(0,"_law_row_here")]).Nodup by decide +kernel) rfl (Or.inl rfl) (Or.inr rfl))) (fun _ _ _ _=>(bJ C_wtake hr (by decide) rfl (aF (aD 1) (aF (aV iO iR aG aG) aI)))))
   (aZ (bQ (i:=4) nd rfl (Or.inl rfl) (bJ C_wlowest hr (by decide) rfl (aF (aV dL dN (aD 4) (fS (aF (aV dL dN aG (bJ C_wtake hr (by decide) rfl (aF (aD 0) (aF (bB (fS (aF aG (aF (aV iO iR aG aG) aI))) (bJ C_wtake hr (by decide) rfl (aF (aD 0) (aF aG aI)))) aI)))) aI))) aI))))) cR)
   (aZ (gW (qV (aD 2) (aF (nK (aF (aD 3) (aF (nK (aF (aV fZ gD aG (aV cH cL aG (bJ C_wtake hr (by decide) rfl (aF (aD 0) (aF aG aI))))) (aF (aD 4) aI))) aI))) aI)))))))
   (aX (bQ (i:=5) nd rfl (Or.inl rfl) (bJ C_whanded hr (by decide) rfl (aF (aD 0) (aF (aD 2) aI))))
   (aX (bQ (i:=6) nd rfl (Or.inl rfl) (bJ C_wcutting_text hr (by decide) rfl (aF (aD 2) aI)))
   (aX (bQ (i:=7) nd rfl (Or.inl rfl) kA)
   (aX (afS (jv:=7) (nn:=9) (c:="TooGreat") (up:=fun ρ=>(ρ.set 7 (some (.pv (.tup [.str "refused",.non]))))) rfl nd rfl q_TooGreat x_TooGreat (ahZ rfl dS (ahT rfl GX_shown_cutting (hr.mono (by decide)) rfl n_shown_cutting k_shown_cutting nY .nil Dv.nil (aF (aD 5) aI))) rfl (Or.inl rfl) (fun y=>(afd (ahu (i:=7) nd rfl (Or.inl rfl) (aha (oW afw (oW ahh vA)))))) (fun D σ H p S ρ sm hl ev k=>by
    match σ,hl,ev with
    | [s0,s1,s2,s3,s4,s5,s6,s7,s8],_,ev=>exact ⟨(by show 2≤PySem.sizeLine; decide),fun t ht=>k _ _ (fK ht) (cV.setT (vs:=[.str "refused",.non]) sm ev ht (by decide) (by decide) 7)⟩))
   (aX (cP (cJ (iF (hu8 hr)) iG (fW tF uM rfl m_list uL (aF (aD 5) aI)) (aD 2) (bT _)) (aZ (bH jP)) cR)
   (aX (cP (ad6 (aD 6)) (aZ (bH (gK (dF (hu8 hr)) dG (aD 7) (nK (aF dS (aF kA aI))) (bT _)))) cR)
   (aX (cP (PWp.pt (iQ (cJ (iF (hu8 hr)) iG (bB (aD 7) aG) dS (bT _)) (iQ (iN (gH (lS (n:="str") rfl m_isinstance rfl m_str rR (bB (aD 7) aG)))) (kN (cJ (iF (hu8 hr)) iG (bB (aD 7) aG) (aD 6) (bT _)))))) (aZ (bH jP)) cR)
   (aX (bQ (i:=8) nd rfl (Or.inl rfl) (acX G_read_cutting (hr.mono (by decide)) rfl n_read_cutting k_read_cutting qE .nil Dv.nil (aF (aD 6) aI)))
   (aZ (bH (rS (bJ C_wcutting_form hr (by decide) rfl (aF (aD 8) (aF (aD 1) (aF (fS (aF aG (aF (eG eE eH aG) aI))) aI)))) (nH (gK (dF (hu8 hr)) dG (fW tF uM rfl m_list uL (aF (aD 8) aI)) (aD 2) (bT _)))))))))))))))))
theorem ahr:bL ["_law_script","_law_row_here"] ["_law_script"] (aW kX):=scM
theorem aj3 {f:Addr} {fd:FuncData} (F:Fun K "law" "law" kX f fd)
  (C_wrow:Cal P w K mg base cl "_law_row" 1 ["_law_script"] pG)
  (C_wonce:Cal P w K mg base cl "_law_once" 9 ["_law_row_here"] oU)
  : bF P w K mg base CX0 10 f fd ["_law_script"] (cC K cl ahM):=by
 have nd:=ahr.nd
 refine okP (np:=1) (n:=2) F ahr (by decide) (by decide) (b:=aip) (k:=9) fun cdv A outer s H E hr=>?_
 exact (aX (bQ (i:=1) nd rfl (Or.inl rfl) (akM C_wrow hr (by decide) rfl (aF (aD 0) aI)))
   (aZ (bH (rS (bJ C_wonce hr (by decide) rfl (aF (aD 1) aI)) (nH (bJ C_wonce hr (by decide) rfl (aF (aD 1) aI)))))))
end
def EC:=And.intro @jL.eq_1 (And.intro @aR.eq_1 (And.intro @sIf.eq_1 (And.intro @bD.eq_1 (And.intro @fD.eq_1 (And.intro @mD.eq_1 (And.intro @mOr.eq_1 (And.intro @kS.eq_1 (And.intro @wI.eq_1 (And.intro @mIf.eq_1 (And.intro @aB.eq_1 (And.intro @mUn.eq_1 (And.intro @mR.eq_1 (And.intro @mN.eq_1 (And.intro @aC.eq_1 (And.intro @aA.eq_1 (And.intro @mC.eq_1 (And.intro @aE.eq_1 (And.intro @Res.bind.eq_1 (And.intro @Res.bind.eq_2 (And.intro @Res.bind.eq_3 (And.intro @sF.eq_1 (And.intro @fT.eq_1 (And.intro @lY.eq_1 (And.intro @pM.eq_1 (And.intro @gS.eq_1 (And.intro @gS.eq_2 (And.intro @rd.eq_1 (And.intro @rd.eq_2 (And.intro @iV.eq_1 (And.intro @iV.eq_2 (And.intro @iV.eq_3 (And.intro @okO.eq_1 (And.intro @okO.eq_2 (And.intro @cO.eq_1 (And.intro @cO.eq_2 (And.intro @cO.eq_3 (And.intro @eV.eq_1 (And.intro @dQ.eq_1 (And.intro @cQ.eq_1 (And.intro @cQ.eq_2 (And.intro @sK.eq_1 (And.intro @sK.eq_2 (And.intro @tst.eq_1 (And.intro @tst.eq_2 (And.intro @cE.of.eq_1 (And.intro @cE.of.eq_2 (And.intro @cE.of.eq_3 (And.intro @bC.eq_1 (And.intro @ak1.eq_1 (And.intro @bV.eq_1 (And.intro @eF.eq_1 (And.intro @bA.eq_1 (And.intro @jM.eq_1 (And.intro @jM.eq_2 (And.intro @jM.eq_3 (And.intro @jM.eq_4 (And.intro @lV.eq_1 (And.intro @lV.eq_2 (And.intro @aY.eq_1 (And.intro @bM.eq_1 (@vI.eq_1)))))))))))))))))))))))))))))))))))))))))))))))))))))))))))))
theorem adA (S:Sto) (k:Nat) (o:SO):(S.set k o).take S.length=S.set k o:=List.take_of_length_le (by simp)
def Row (S:Sto) (k:Nat) (ns:List Int):Prop:=S[k]?=some (.lst (ns.map .int))
theorem Row.lt {S:Sto} {k:Nat} {ns:List Int} (h:Row S k ns):k < S.length:=(List.getElem?_eq_some_iff.mp h).1
theorem Row.set {S:Sto} {k:Nat} {ns:List Int} (h:Row S k ns) (ms:List Int):Row (S.set k (.lst (ms.map .int))) k ms:=List.getElem?_set_self h.lt
theorem abx {r:Rho} {k:Nat} {m:AV}:∀ (ns:List Int) (S:Sto),Row S k ns→∃ n ns',dB (mD (bD (aB fGt (mR cO (aC (aA 0) aE)) (mC (.int 0)))) (bD (aB fEq (aB fIx (aA 0) (mC (.int 0))) (mC (.int 0))))) (eF (wO (aA 0) (aC (mC (.int 0)) aE))) n (some (.ref k) :: some m :: r) S=.nx (some (.ref k) :: some m :: r) (S.set k (.lst (ns'.map .int)))∧ns'.length≤ns.length∧(ns'=[]∨∃ i t,ns'=i :: t∧i≠0)
 | [],S,h=>by
  refine ⟨1,[],?_,Nat.le_refl _,.inl rfl⟩
  have h':S[k]?=some (.lst []):=h
  have e:S.set k (.lst (([]:List Int).map .int))=S:=List.ext_getElem? fun i=>by
   by_cases q:k=i
   ·subst q; rw [List.getElem?_set_self h.lt,h']; rfl
   ·rw [List.getElem?_set_ne q]
  rw [e]
  simp [dB,mD,bD,aB,mR,aC,aA,mC,aE,Res.bind,lY,gS,rd,h',okO,cO,fT,fGt,i2,tst,cE.of]
 | i :: t,S,h=>by
  have h':S[k]?=some (.lst (.int i :: t.map .int)):=h
  by_cases hi:i=0
  ·subst hi
   have hr:Row (S.set k (.lst (t.map .int))) k t:=h.set t
   obtain ⟨n,ns',e,l,q⟩:=abx (r:=r) (m:=m) t _ hr
   refine ⟨n+1,ns',?_,by simp; omega,q⟩
   rw [List.set_set] at e
   rw [← e]
   have hl:(0:Int) < (t.length:Int)+1:=by omega
   simp [dB,mD,bD,aB,mR,aC,aA,mC,aE,Res.bind,lY,gS,rd,h',okO,cO,fT,fGt,i2,tst,cE.of,fIx,atI,ixN,fEq,eqN,eF,wO,jR,aiu,seqIndex?,hl]
  ·refine ⟨1,i :: t,?_,Nat.le_refl _,.inr ⟨i,t,rfl,hi⟩⟩
   have e:S.set k (.lst ((i :: t).map .int))=S:=List.ext_getElem? fun j=>by
    by_cases q:k=j
    ·subst q; rw [List.getElem?_set_self h.lt,h']; rfl
    ·rw [List.getElem?_set_ne q]
   rw [e]
   have hl:(0:Int) < (t.length:Int)+1:=by omega
   simp [dB,mD,bD,aB,mR,aC,aA,mC,aE,Res.bind,lY,gS,rd,h',okO,cO,fT,fGt,i2,tst,cE.of,fIx,atI,ixN,fEq,eqN,hl,hi]
theorem lO {S:Sto} {k:Nat} {ns:List Int} {m:Int} (h:Row S k ns) (hm:0 < m) (b:Bd 8000 m):∃ (v:Int) (ns':List Int),cG [.ref k,.pv (.int m)] S=.ok (.pv (.int v)) (S.set k (.lst (ns'.map .int)))∧0≤v∧v < m∧ns'.length≤ns.length:=by
 obtain ⟨n,ns',e,l,q⟩:=abx (r:=[none]) (m:=.pv (.int m)) ns S h
 have hr:=h.set ns'
 have hl1:(S.set k (.lst (ns'.map .int))).length=S.length:=by simp
 have hss:∀ x,(S.set k (.lst (ns'.map .int))).set k x=S.set k x:=fun x=>List.set_set ..
 generalize hS1:S.set k (.lst (ns'.map .int))=S1 at e hr hl1 hss
 have w:=zA e (by simp)
 rcases q with rfl | ⟨i,t,rfl,hi⟩
 ·refine ⟨0,[],?_,Int.le_refl 0,hm,Nat.zero_le _⟩
  rw [hS1]
  have hr':S1[k]?=some (.lst []):=hr
  have tk:List.take S.length S1=S1:=List.take_of_length_le (by omega)
  unfold cG fnM uN
  simp [jL,aR,w,sIf,bD,aB,mR,aC,aA,mC,aE,Res.bind,lY,gS,rd,hr',okO,cO,fT,fEq,eqN,tst,cE.of,bC,jM,lV,tk]
 ·have hr':S1[k]?=some (.lst (.int i :: t.map .int)):=hr
  refine ⟨i.fmod m,i.fdiv m :: t,?_,Int.fmod_nonneg_of_pos i hm,Int.fmod_lt_of_pos i hm,l⟩
  rw [← hss]
  have tk:∀ x,List.take S.length (S1.set k x)=S1.set k x:=fun x=>List.take_of_length_le (by simp; omega)
  have hl:¬ ((t.length:Int)+1=0):=by omega
  have hq:nR i m:=⟨by omega,b⟩
  have hm0:m≠0:=by omega
  unfold cG fnM uN
  simp [jL,aR,w,sIf,bD,aB,mR,aC,aA,mC,aE,Res.bind,lY,gS,rd,hr',okO,cO,fT,fEq,eqN,tst,cE.of,bC,jM,lV,tk,bV,hl,bA,fA,fN,i2,cI,fIx,atI,ixN,hm0,hq,aew,jR,vS]
theorem aP (i j:Int):fGt (.int i) (.int j)=some (.bl (decide (j < i))):=rfl
theorem aO (i j:Int):fLt (.int i) (.int j)=some (.bl (decide (i < j))):=rfl
theorem aQ (i j:Int):fGe (.int i) (.int j)=some (.bl (decide (j≤i))):=rfl
theorem aN (i j:Int):fLe (.int i) (.int j)=some (.bl (decide (i≤j))):=rfl
theorem aT (i j:Int):dJ (.int i) (.int j)=some (.int (i - j)):=rfl
theorem iM {i j:Int} (h:nP i j):bE (.int i) (.int j)=some (.int (i*j)):=by
 simp [bE,i2,cI,h]
theorem qY {i j:Int} (h:nR i j):fN (.int i) (.int j)=some (.int (i.fdiv j)):=by
 simp [fN,i2,cI,h]
theorem lN {i j:Int} (h:j≠0):fA (.int i) (.int j)=some (.int (i.fmod j)):=by
 simp [fA,i2,cI,h]
theorem rC {i j:Int} (h:wN i j):dE (.int i) (.int j)=some (.int (i ^ j.toNat)):=by
 simp [dE,i2,cI,h]
theorem uP (n:Int) (S:Sto):jY [.pv (.int n)] S=.ok (.pv (.int (sg n))) S:=by
 unfold jY fnM aft sg
 by_cases h1:0 < n
 ·simp [jL,aR,sIf,bD,aB,aA,mC,Res.bind,fT,rd,okO,fGt,i2,tst,cE.of,bC,jM,lV,h1]
 ·by_cases h2:n < 0
  ·simp [jL,aR,sIf,bD,aB,aA,mC,Res.bind,fT,rd,okO,fGt,fLt,i2,tst,cE.of,bC,jM,lV,h1,h2,bV,mUn,sF,cQ]
  ·simp [jL,aR,sIf,bD,aB,aA,mC,Res.bind,fT,rd,okO,fGt,fLt,i2,tst,cE.of,bC,jM,lV,h1,h2,bV,mUn,sF,cQ]
theorem aax (S:Sto):∀ (m:Nat) (a b:Int) (x:Option AV),b.natAbs≤m→∃ (n:Nat) (g:Int) (x':Option AV),dB (bD (aB fNe (aA 1) (mC (.int 0)))) (aR (bA 2 (aB fA (aA 0) (aA 1))) (aR (bA 0 (aA 1)) (bA 1 (aA 2)))) n [some (.pv (.int a)),some (.pv (.int b)),x] S=.nx [some (.pv (.int g)),some (.pv (.int 0)),x'] S∧g.natAbs=Int.gcd a b
 | 0,a,b,x,h=>by
  have hb:b=0:=by omega
  subst hb
  refine ⟨1,a,x,?_,by simp⟩
  simp [EC,dB,aM,aJ,aK,fIx,atI,ixN,fEq,fNe,eqN,aP,aO,aQ,aN,aH,aT,frz,aL]
 | m+1,a,b,x,h=>by
  by_cases hb:b=0
  ·subst hb
   refine ⟨1,a,x,?_,by simp⟩
   simp [EC,dB,aM,aJ,aK,fIx,atI,ixN,fEq,fNe,eqN,aP,aO,aQ,aN,aH,aT,frz,aL]
  ·have hl:=ab2 a hb
   obtain ⟨n,g,x',e,q⟩:=aax S m b (a.fmod b) (some (.pv (.int (a.fmod b)))) (by omega)
   refine ⟨n+1,g,x',?_,by rw [q,ac8]⟩
   rw [← e]
   simp [EC,dB,aM,aJ,aK,fIx,atI,ixN,fEq,fNe,eqN,aP,aO,aQ,aN,aH,aT,frz,aL,lN hb,hb]
theorem abh (a b:Int) (S:Sto):lJ [.pv (.int a),.pv (.int b)] S=.ok (.pv (.int (Int.gcd a b:Nat))) S:=by
 obtain ⟨n,g,x',e,q⟩:=aax S b.natAbs a b none (Nat.le_refl _)
 have w:=zA e (by simp)
 unfold lJ fnM yK
 have hg:(if g < 0 then -g else g)=((Int.gcd a b:Nat):Int):=by rw [← q]; exact afx g
 simp [EC,aM,aJ,aK,fIx,atI,ixN,fEq,fNe,eqN,aP,aO,aQ,aN,aH,aT,frz,aL,w,hg]
theorem abT (S:Sto):∀ (m:Nat) (a b:Int),0≤a→0≤b→b.natAbs≤m→∃ (n:Nat),dB (bD (aB fGt (aA 1) (mC (.int 0)))) (wP 0 1 (aC (aA 1) (aC (aB fA (aA 0) (aA 1)) aE))) n [some (.pv (.int a)),some (.pv (.int b))] S=.nx [some (.pv (.int (Int.gcd a b:Nat))),some (.pv (.int 0))] S
 | 0,a,b,ha,hb,h=>by
  have hb:b=0:=by omega
  subst hb
  have ea:((Int.gcd a 0:Nat):Int)=a:=by simp; omega
  refine ⟨1,?_⟩
  rw [ea]
  simp [EC,dB,aM,aJ,aK,fIx,atI,ixN,fEq,fNe,eqN,aP,aO,aQ,aN,aH,aT,frz,aL]
 | m+1,a,b,ha,hb,h=>by
  by_cases h0:b=0
  ·subst h0
   have ea:((Int.gcd a 0:Nat):Int)=a:=by simp; omega
   refine ⟨1,?_⟩
   rw [ea]
   simp [EC,dB,aM,aJ,aK,fIx,atI,ixN,fEq,fNe,eqN,aP,aO,aQ,aN,aH,aT,frz,aL]
  ·have hl:=ab2 a h0
   have hp:0 < b:=by omega
   obtain ⟨n,e⟩:=abT S m b (a.fmod b) hb (Int.fmod_nonneg_of_pos a hp) (by omega)
   refine ⟨n+1,?_⟩
   rw [← ac8,← e]
   simp [EC,dB,aM,aJ,aK,fIx,atI,ixN,fEq,fNe,eqN,aP,aO,aQ,aN,aH,aT,frz,aL,lN h0,hp,wP]
theorem aky (a b:Int) (S:Sto):pD [.pv (.int a),.pv (.int b)] S=.ok (.pv (.int (Int.gcd a b:Nat))) S:=by
 have ha:0≤(if a < 0 then -a else a):=by split <;> omega
 have hb:0≤(if b < 0 then -b else b):=by split <;> omega
 obtain ⟨n,e⟩:=abT S _ _ _ ha hb (Nat.le_refl _)
 have w:=zA e (by simp)
 have eg:Int.gcd (if a < 0 then -a else a) (if b < 0 then -b else b)=Int.gcd a b:=by
  rw [afx,afx]
  simp [Int.gcd]
 rw [eg] at w
 unfold pD fnM aem
 simp [EC,aM,aJ,aK,fIx,atI,ixN,fEq,fNe,eqN,aP,aO,aQ,aN,aH,aT,frz,aL,w]
theorem zD (S:Sto) (v2:Option AV):∀ (ns:List Int) (g:Int) (a:AV),∃ v',dD [] (gN 2) (bA 1 (aY pD [] (aC (aA 1) (aC (aA 2) aE)))) (ns.map .int) [some a,some (.pv (.int g)),v2] S=.nx [some a,some (.pv (.int (gl ns g))),v'] S
 | [],g,a=>⟨v2,jE⟩
 | n :: ns,g,a=>by
  obtain ⟨v',e⟩:=zD S (some (.pv (.int n))) ns (Int.gcd g n:Nat) a
  refine ⟨v',?_⟩
  show dD [] _ _ (.int n :: ns.map .int) _ S=_
  rw [jD]
  simp [EC,gN,aM,aJ,aK,fIx,atI,ixN,fEq,fNe,eqN,aP,aO,aQ,aN,aH,aT,frz,aL,aky]
  exact e
theorem uH (S:Sto) (g:Int) (hg:g≠0) (b:Bd 8000 g):∀ (ns:List Int) (x:Option AV),bY [] (gN 0) (aB fN (aA 0) (aA 1)) (ns.map .int) [x,some (.pv (.int g))] S=.ok ((ns.map fun n=>n.fdiv g).map .int) S
 | [],x=>eO
 | n :: ns,x=>by
  have ih:=uH S g hg b ns (some (.pv (.int n)))
  show bY [] _ _ (.int n :: ns.map .int) _ S=_
  rw [eW]
  simp [EC,gN,aM,aJ,aK,fIx,atI,ixN,fEq,fNe,eqN,aP,aO,aQ,aN,aH,aT,frz,aL,qY (show nR n g from ⟨hg,b⟩),ih]
theorem qR (ns:List Int) (S:Sto) (hb:∀ n∈ns,Bd 8000 n):fG [.pv (.lst (ns.map .int))] S=.ok (.pv (.tup ((low ns).map .int))) S:=by
 obtain ⟨v',e⟩:=zD S none ns 0 (.pv (.lst (ns.map .int)))
 unfold fG fnM tX
 by_cases h:gl ns 0=0
 ·have el:low ns=ns:=by unfold low; rw [if_pos h]
  simp [EC,aM,aJ,aK,fIx,atI,ixN,fEq,fNe,eqN,aP,aO,aQ,aN,aH,aT,frz,aL,dI,mIt,bW,e,h,el]
 ·have el:low ns=ns.map fun n=>n.fdiv (gl ns 0):=by
   unfold low
   rw [if_neg h]
   exact List.map_congr_left fun n hn=>(Int.fdiv_eq_ediv_of_dvd ((jX ns 0).2 n hn)).symm
  have bg:Bd 8000 (gl ns 0):=vT (Bd.of (n:=0) (by simp) (Nat.two_pow_pos 8000)) hb
  have ec:=uH S (gl ns 0) h bg ns none
  simp [EC,aM,aJ,aK,fIx,atI,ixN,fEq,fNe,eqN,aP,aO,aQ,aN,aH,aT,frz,aL,dI,mIt,bW,e,h,el,bO,bS,ec]
theorem ada (n:Int) (S:Sto):kJ [.pv (.int n)] S=.ok (.pv (.bl true)) S:=by
 unfold kJ fnM zN
 simp [EC,aM,aJ,aK,fIx,atI,ixN,fEq,fNe,eqN,aP,aO,aQ,aN,aH,aT,frz,aL,eI]
theorem aaU (S:Sto):∀ (ns:List Int) (x:Option AV),bY [] (gN 0) (aY kJ [] (aC (aA 0) aE)) (ns.map .int) [x] S=.ok (ns.map fun _=>.bl true) S
 | [],x=>eO
 | n :: ns,x=>by
  have ih:=aaU S ns (some (.pv (.int n)))
  show bY [] _ _ (.int n :: ns.map .int) _ S=_
  rw [eW]
  simp [EC,gN,aM,aJ,aK,fIx,atI,ixN,fEq,fNe,eqN,aP,aO,aQ,aN,aH,aT,frz,aL,ada,ih]
theorem adz:∀ (ns:List Int),iS (ns.map fun _=>PV.bl true)=some (ns.map fun _=>true)
 | []=>rfl
 | n :: ns=>by
  show iS (.bl true :: ns.map fun _=>PV.bl true)=_
  unfold iS
  rw [adz ns]
  rfl
theorem aeD (ns:List Int) (S:Sto):qS [.pv (.tup (ns.map .int)),.pv (.int ns.length)] S=.ok (.pv (.bl true)) S:=by
 unfold qS fnM yW
 have e:=aaU S ns none
 have ea:((ns.map fun _=>true).all id)=true:=by simp
 simp [EC,aM,aJ,aK,fIx,atI,ixN,fEq,fNe,eqN,aP,aO,aQ,aN,aH,aT,frz,aL,eI,bO,mIt,bW,bS,e,iK,adz]
theorem afE:∀ (n:Nat) (ns:List Int),gJ (List.zipWith (eqN n) (ns.map .int) (ns.map .int))=some (ns.map fun _=>true)
 | n,[]=>rfl
 | n,m :: ns=>by
  have ih:=afE n ns
  simp only [List.map_cons,List.zipWith_cons_cons]
  have e:eqN n (.int m) (.int m)=some true:=by cases n <;> simp [eqN]
  rw [e]
  unfold gJ
  rw [ih]
theorem zV (n:Nat) (ns:List Int):eqN (n+1) (.tup (ns.map .int)) (.tup (ns.map .int))=some true:=by
 rw [eqN,afE]
 simp
theorem adQ (ns:List Int) (S:Sto) (hb:∀ n∈ns,Bd 8000 n):fG [.pv (.tup (ns.map .int))] S=.ok (.pv (.tup ((low ns).map .int))) S:=by
 obtain ⟨v',e⟩:=zD S none ns 0 (.pv (.tup (ns.map .int)))
 unfold fG fnM tX
 by_cases h:gl ns 0=0
 ·have el:low ns=ns:=by unfold low; rw [if_pos h]
  simp [EC,aM,aJ,aK,fIx,atI,ixN,fEq,fNe,eqN,aP,aO,aQ,aN,aH,aT,frz,aL,dI,mIt,bW,e,h,el]
 ·have el:low ns=ns.map fun n=>n.fdiv (gl ns 0):=by
   unfold low
   rw [if_neg h]
   exact List.map_congr_left fun n hn=>(Int.fdiv_eq_ediv_of_dvd ((jX ns 0).2 n hn)).symm
  have bg:Bd 8000 (gl ns 0):=vT (Bd.of (n:=0) (by simp) (Nat.two_pow_pos 8000)) hb
  have ec:=uH S (gl ns 0) h bg ns none
  simp [EC,aM,aJ,aK,fIx,atI,ixN,fEq,fNe,eqN,aP,aO,aQ,aN,aH,aT,frz,aL,dI,mIt,bW,e,h,el,bO,bS,ec]
theorem kW (i:Int) {j:Int} (h1:-(2 ^ 64) < j) (h2:j < 2 ^ 64):bE (.int i) (.int j)=some (.int (i*j)):=iM (.inl (.inr ⟨h1,h2⟩))
theorem p18:dE (.int 10) (.int 18)=some (.int 1000000000000000000):=rC (i:=10) (j:=18) ⟨by decide,by decide,by decide⟩
theorem zI {k:Nat} {a:AV}:∀ (cs:List Int) (n:Nat) (acc:List Int) (S:Sto) (v2 v3 v4 v5 v6:Option AV),Row S k acc→acc.length+cs.length≤63→n+cs.length≤63→∃ (acc':List Int) (w2 w3 w4 w5 w6:Option AV),dD [] (gT 2 (cM (gN 2) (cM (gN 3) eB))) ((sIf (bD (aB fGe (aA 3) (aB dE (mC (.int 10)) (mC (.int 18))))) (eF (fY (aA 1) (aC (aB dJ (aA 3) (aB dE (mC (.int 10)) (mC (.int 18)))) aE))) (aR (bA 4 (aB fA (aB bE (aB aH (aB aH (aB aH (aA 3) (aB bE (aB bE (mC (.int 7)) (aA 2)) (aA 2))) (aB bE (mC (.int 13)) (aA 2))) (mC (.int 5))) (mC (.int 48271))) (mC (.int 2147483647))))
 (aR (bA 5 (aB fA (aB bE (aB aH (aB aH (aB aH (aA 3) (aB bE (aB bE (mC (.int 11)) (aA 2)) (aA 2))) (aB bE (mC (.int 17)) (aA 2))) (mC (.int 3))) (mC (.int 40692))) (mC (.int 2147483399))))
 (aR (bA 6 (aB fA (aB bE (aB aH (aB aH (aB aH (aA 3) (aB bE (aB bE (mC (.int 5)) (aA 2)) (aA 2))) (aB bE (mC (.int 29)) (aA 2))) (mC (.int 8))) (mC (.int 39373))) (mC (.int 2147483587))))
 (aR (bA 4 (aB fA (aB bE (aA 4) (mC (.int 52021))) (mC (.int 1000000007))))
 (aR (bA 5 (aB fA (aB bE (aA 5) (mC (.int 30011))) (mC (.int 998244353))))
 (aR (bA 6 (aB fA (aB bE (aA 6) (mC (.int 45989))) (mC (.int 1000000009))))
 (eF (fY (aA 1) (aC (aB aH (aB bE (aB aH (aB bE (aA 4) (mC (.int 998244353))) (aA 5)) (mC (.int 1000000009))) (aA 6)) aE))))))))))) (hJ n (cs.map .int)) [some a,some (.ref k),v2,v3,v4,v5,v6] S=.nx [some a,some (.ref k),w2,w3,w4,w5,w6] (S.set k (.lst (acc'.map .int)))∧acc'.length≤63
 | [],n,acc,S,v2,v3,v4,v5,v6,h,hl,_=>by
  refine ⟨acc,v2,v3,v4,v5,v6,?_,by simpa using hl⟩
  have e:S.set k (.lst (acc.map .int))=S:=List.ext_getElem? fun j=>by
   by_cases q:k=j
   ·subst q; rw [List.getElem?_set_self h.lt]; exact h.symm
   ·rw [List.getElem?_set_ne q]
  rw [e]
  exact jE
 | x :: cs,n,acc,S,v2,v3,v4,v5,v6,h,hl,hn=>by
  simp only [List.length_cons] at hl hn
  have h':S[k]?=some (.lst (acc.map .int)):=h
  have hlen:acc.length < 16777216:=by omega
  have hk1:-(2 ^ 64) < (n:Int):=by omega
  have hk2:(n:Int) < 2 ^ 64:=by omega
  by_cases c:(1000000000000000000:Int)≤x
  ·obtain ⟨acc',w2,w3,w4,w5,w6,e,q⟩:=zI (k:=k) (a:=a) cs (n+1) (acc++[x - 1000000000000000000]) (S.set k (.lst ((acc++[x - 1000000000000000000]).map .int))) (some (.pv (.int n))) (some (.pv (.int x))) v4 v5 v6 (h.set _) (by simp; omega) (by omega)
   refine ⟨acc',w2,w3,w4,w5,w6,?_,q⟩
   rw [List.set_set] at e
   rw [← e]
   show dD [] _ _ (.tup [.int n,.int x] :: hJ (n+1) (cs.map .int)) _ S=_
   rw [jD]
   simp [EC,gT,cM,eB,gN,aM,aJ,aK,fIx,atI,ixN,fEq,fNe,eqN,aP,aO,aQ,aN,aH,aT,frz,aL,p18,c,fY,jR,lX,h',hlen]
  ·obtain ⟨acc',w2,w3,w4,w5,w6,e,q⟩:=zI (k:=k) (a:=a) cs (n+1) (acc++[((((x+7*n*n+13*n+5)*48271).fmod 2147483647*52021).fmod 1000000007*998244353+(((x+11*n*n+17*n+3)*40692).fmod 2147483399*30011).fmod 998244353)*1000000009+(((x+5*n*n+29*n+8)*39373).fmod 2147483587*45989).fmod 1000000009]) (S.set k (.lst ((acc++[((((x+7*n*n+13*n+5)*48271).fmod 2147483647*52021).fmod 1000000007*998244353+(((x+11*n*n+17*n+3)*40692).fmod 2147483399*30011).fmod 998244353)*1000000009+(((x+5*n*n+29*n+8)*39373).fmod 2147483587*45989).fmod 1000000009]).map .int))) (some (.pv (.int n))) (some (.pv (.int x))) (some (.pv (.int ((((x+7*n*n+13*n+5)*48271).fmod 2147483647*52021).fmod 1000000007)))) (some (.pv (.int ((((x+11*n*n+17*n+3)*40692).fmod 2147483399*30011).fmod 998244353)))) (some (.pv (.int ((((x+5*n*n+29*n+8)*39373).fmod 2147483587*45989).fmod 1000000009)))) (h.set _) (by simp; omega) (by omega)
   refine ⟨acc',w2,w3,w4,w5,w6,?_,q⟩
   rw [List.set_set] at e
   rw [← e]
   show dD [] _ _ (.tup [.int n,.int x] :: hJ (n+1) (cs.map .int)) _ S=_
   rw [jD]
   simp [EC,gT,cM,eB,gN,aM,aJ,aK,fIx,atI,ixN,fEq,fNe,eqN,aP,aO,aQ,aN,aH,aT,frz,aL,p18,c,fY,jR,lX,h',hlen,kW _ hk1 hk2,kW _ (show -(2 ^ 64) < (48271:Int) by decide) (by decide),kW _ (show -(2 ^ 64) < (40692:Int) by decide) (by decide),kW _ (show -(2 ^ 64) < (39373:Int) by decide) (by decide),kW _ (show -(2 ^ 64) < (52021:Int) by decide) (by decide),kW _ (show -(2 ^ 64) < (30011:Int) by decide) (by decide),kW _ (show -(2 ^ 64) < (45989:Int) by decide) (by decide),kW _ (show -(2 ^ 64) < (998244353:Int) by decide) (by decide),kW _ (show -(2 ^ 64) < (1000000009:Int) by decide) (by decide),lN (show (2147483647:Int)≠0 by decide),lN (show (2147483399:Int)≠0 by decide),lN (show (2147483587:Int)≠0 by decide),lN (show (1000000007:Int)≠0 by decide),lN (show (998244353:Int)≠0 by decide),lN (show (1000000009:Int)≠0 by decide)]
theorem akf (ns:List Int) (S:Sto) (h:ns.length≤63):∃ ms:List Int,pG [.pv (.lst (ns.map .int))] S=.ok (.ref S.length) (S++[.lst (ms.map .int)])∧ms.length≤63:=by
 have hr:Row (S++[.lst []]) S.length []:=by unfold Row; simp
 obtain ⟨ms,w2,w3,w4,w5,w6,e,q⟩:=zI (a:=.pv (.lst (ns.map .int))) ns 0 [] (S++[.lst []]) none none none none none hr (by simpa using h) (by simpa using h)
 have ec:iH (ns.map .int) none (some 63)=ns.map .int:=by
  unfold iH
  have e1:HT.sIx (ns.map PV.int).length 0 none=0:=rfl
  have e2:HT.sIx (ns.map PV.int).length (ns.map PV.int).length (some 63)=(ns.map PV.int).length:=by
   have:=HT.sIx_nat (ns.map PV.int).length (ns.map PV.int).length 63
   rw [show ((63:Nat):Int)=63 from rfl] at this
   rw [this,List.length_map]
   omega
  rw [e1,e2,List.drop_zero,Nat.sub_zero,List.take_length]
 refine ⟨ms,?_,q⟩
 have es:(S++[SO.lst []]).set S.length (.lst (ms.map .int))=S++[.lst (ms.map .int)]:=by simp
 rw [es] at e
 unfold pG fnM afI
 simp [EC,aM,aJ,aK,fIx,atI,ixN,fEq,fNe,eqN,aP,aO,aQ,aN,aH,aT,frz,aL,dI,iJ,nN,aiS,mSl,mO0,mO1,dZ,fSl,afe,ec,e]
def PT (L:List Int) (b:Int):List Int:=(low (L++[b])).map (sg b*·)
theorem amd {L:List Int} {b:Int} (hb:b≠0):gl (L++[b]) 0≠0:=sD (kI L b) hb
theorem aj2 {L:List Int} {b:Int} (hb:0 < b):PT L b=low (L++[b]):=by
 unfold PT sg
 rw [if_pos hb]
 conv=>rhs; rw [← List.map_id (low (L++[b]))]
 exact List.map_congr_left fun n _=>Int.one_mul n
theorem ads (S:Sto) (v2:Option AV):∀ (ns:List Int) (g:Int) (a:AV),∃ v',dD [] (gN 2) (bA 1 (aY lJ [] (aC (aA 1) (aC (aA 2) aE)))) (ns.map .int) [some a,some (.pv (.int g)),v2] S=.nx [some a,some (.pv (.int (gl ns g))),v'] S
 | [],g,a=>⟨v2,jE⟩
 | n :: ns,g,a=>by
  obtain ⟨v',e⟩:=ads S (some (.pv (.int n))) ns (Int.gcd g n:Nat) a
  refine ⟨v',?_⟩
  show dD [] _ _ (.int n :: ns.map .int) _ S=_
  rw [jD]
  simp [EC,gN,aM,aJ,aK,fIx,atI,ixN,fEq,fNe,eqN,aP,aO,aQ,aN,aH,aT,frz,aL,abh]
  exact e
theorem adZ (ns:List Int) (S:Sto) (hb:∀ n∈ns,Bd 8000 n) (h:gl ns 0≠0):qQ [.pv (.lst (ns.map .int))] S=.ok (.pv (.lst ((low ns).map .int))) S:=by
 obtain ⟨v',e⟩:=ads S none ns 0 (.pv (.lst (ns.map .int)))
 have el:low ns=ns.map fun n=>n.fdiv (gl ns 0):=by
  unfold low
  rw [if_neg h]
  exact List.map_congr_left fun n hn=>(Int.fdiv_eq_ediv_of_dvd ((jX ns 0).2 n hn)).symm
 have bg:Bd 8000 (gl ns 0):=vT (Bd.of (n:=0) (by simp) (Nat.two_pow_pos 8000)) hb
 have ec:=uH S (gl ns 0) h bg ns none
 unfold qQ fnM yM
 simp [EC,aM,aJ,aK,fIx,atI,ixN,fEq,fNe,eqN,aP,aO,aQ,aN,aH,aT,frz,aL,dI,mIt,bW,e,h,el,bO,bS,ec]
theorem adl (S:Sto) (b:Int):∀ (ns:List Int) (x:Option AV),bY [] (gN 0) (aB bE (aY jY [] (aC (aA 1) aE)) (aA 0)) (ns.map .int) [x,some (.pv (.int b))] S=.ok ((ns.map (sg b*·)).map .int) S
 | [],x=>eO
 | n :: ns,x=>by
  have ih:=adl S b ns (some (.pv (.int n)))
  have hm:bE (.int (sg b)) (.int n)=some (.int (sg b*n)):=iM (.inl (.inl (agz b)))
  show bY [] _ _ (.int n :: ns.map .int) _ S=_
  rw [eW]
  simp [EC,gN,aM,aJ,aK,fIx,atI,ixN,fEq,fNe,eqN,aP,aO,aQ,aN,aH,aT,frz,aL,uP,hm,ih]
theorem afY {w:PV} (L:List Int) (b:Int) (S:Sto) (hw:w=.lst (L.map .int)∨w=.tup (L.map .int)) (hL:∀ n∈L,Bd 8000 n) (bb:Bd 8000 b) (hb:b≠0) (hl:L.length≤100):nA [.pv w,.pv (.int b)] S=.ok (.pv (.tup ((PT L b).map .int))) S:=by
 have e1:=adZ (L++[b]) S (fun n hn=>by
  rcases List.mem_append.mp hn with z | z
  ·exact hL n z
  ·have:n=b:=by simpa using z
   rw [this]; exact bb) (amd hb)
 have e2:=adl S b (low (L++[b])) none
 have hz:L.length+1≤16777216:=by omega
 simp only [List.map_append,List.map_cons,List.map_nil] at e1
 unfold PT nA fnM rJ
 rcases hw with rfl | rfl <;> simp [EC,aM,aJ,aK,fIx,atI,ixN,fEq,fNe,eqN,aP,aO,aQ,aN,aH,aT,frz,aL,hb,hz,e1,mIt,bW,bO,bS,e2]
theorem agn (zs:List Int) (z:Int):iH ((zs++[z]).map .int) none (some (-1))=zs.map .int:=by
 unfold iH
 have e1:HT.sIx ((zs++[z]).map PV.int).length 0 none=0:=rfl
 have e2:HT.sIx ((zs++[z]).map PV.int).length ((zs++[z]).map PV.int).length (some (-1))=zs.length:=by
  rw [List.length_map,List.length_append]
  exact zO zs.length _
 rw [e1,e2]
 simp
theorem ae9 (zs:List Int) (z:Int):¬ (HT.sIx ((zs++[z]).map PV.int).length 0 none=0∧HT.sIx ((zs++[z]).map PV.int).length ((zs++[z]).map PV.int).length (some (-1))=((zs++[z]).map PV.int).length):=by
 rintro ⟨_,e⟩
 have e2:HT.sIx ((zs++[z]).map PV.int).length ((zs++[z]).map PV.int).length (some (-1))=zs.length:=by
  rw [List.length_map,List.length_append]
  exact zO zs.length _
 rw [e2,List.length_map,List.length_append] at e
 simp at e
theorem uJ (zs:List Int) (z:Int):fSl (.tup ((zs++[z]).map .int)) none (some (-1))=some (.tup (zs.map .int)):=by
 unfold fSl
 dsimp only
 rw [if_neg (ae9 zs z),agn]
theorem mS (zs:List Int) (z:Int):fIx (.tup ((zs++[z]).map .int)) (.int (-1))=some (.int z):=by
 show atI ((zs++[z]).map PV.int) (-1)=_
 rw [List.map_append]
 exact af1 _ _
theorem sm8 {m:Int} (h0:0≤m) (h:m < 1024):Bd 8000 m:=Bd.of (n:=1023) (by omega) (Nat.lt_of_lt_of_le (show 1023 < 2 ^ 10 by decide) (Nat.pow_le_pow_right (by decide) (by decide)))
theorem bZ (n:Nat) (a b:Int):eqN n (.int a) (.int b)=some (a == b):=by cases n <;> rfl
theorem mB {a b:Int} (h:Bd 2000 a) (g:Bd 2000 b):bE (.int a) (.int b)=some (.int (a*b)):=iM (.inr ⟨h.mono (by decide),g.mono (by decide)⟩)
structure Pt (n:Nat) (xs:List Int) (w:Int):Prop where
 len:xs.length=n
 pos:0 < w
 low:low (xs++[w])=xs++[w]
 bx:∀ x∈xs,Bd 300 x
 bw:Bd 300 w
theorem ag5 (zs:List Int) (z:Int) (j:Nat) (h:j < zs.length):fIx (.tup ((zs++[z]).map .int)) (.int (j:Nat))=some (.int (zs.getD j 0)):=by
 show atI ((zs++[z]).map PV.int) (j:Int)=_
 refine ae0 ?_
 rw [List.getElem?_map,List.getElem?_append_left h,List.getElem?_eq_getElem h]
 simp [List.getD,h]
theorem aea {xs:List Int} {k:Nat} (h:∀ x∈xs,Bd k x) (j:Nat):Bd k (xs.getD j 0):=by
 by_cases hj:j < xs.length
 ·have e:xs.getD j 0=xs[j]:=by simp [List.getD,hj]
  rw [e]
  exact h _ (List.getElem_mem hj)
 ·have e:xs.getD j 0=0:=by simp [List.getD,hj]
  rw [e]
  exact Bd.of (n:=0) (by decide) (Nat.two_pow_pos k)
theorem afl {xs ys:List Int} (hl:xs.length=ys.length) (f:Int→Int→Int):(List.range xs.length).map (fun j=>f (xs.getD j 0) (ys.getD j 0))=List.zipWith f xs ys:=by
 refine List.ext_getElem (by simp [hl]) fun i h1 h2=>?_
 have hi:i < xs.length:=by simpa using h1
 have hj:i < ys.length:=by omega
 simp [List.getD,hi,hj]
theorem adj {k:Nat} {W:Int} (W0:0≤W) (W1:W≤1000000000000):∀ (is:List PV) (S:Sto) (ns:List Int) (x:Option AV),Row S k ns→∃ (xs ns':List Int),bY [] (gN 0) (aB dJ (aY cG [] (aC (aA 2) (aC (aB aH (aB bE (mC (.int 2)) (aA 1)) (mC (.int 1))) aE))) (aA 1)) is [x,some (.pv (.int W)),some (.ref k)] S=.ok (xs.map .int) (S.set k (.lst (ns'.map .int)))∧xs.length=is.length∧∀ n∈xs,Bd 50 n
 | [],S,ns,x,h=>by
  refine ⟨[],ns,?_,rfl,fun _ h=>absurd h List.not_mem_nil⟩
  have e:S.set k (.lst (ns.map .int))=S:=List.ext_getElem? fun j=>by
   by_cases q:k=j
   ·subst q; rw [List.getElem?_set_self h.lt]; exact h.symm
   ·rw [List.getElem?_set_ne q]
  rw [e]
  exact eO
 | i :: is,S,ns,x,h=>by
  obtain ⟨t,n1,e1,t0,t1,_⟩:=lO (m:=2*W+1) h (by omega) ((Bd.of (k:=50) (n:=2000000000001) (by omega) (by decide)).mono (by decide))
  obtain ⟨xs,n2,e2,l2,b2⟩:=adj W0 W1 is _ n1 (some (.pv i)) (h.set n1)
  rw [List.set_set] at e2
  have m2:bE (.int 2) (.int W)=some (.int (2*W)):=iM (.inl (.inl ⟨by decide,by decide⟩))
  refine ⟨(t - W) :: xs,n2,?_,by simp [l2],fun n hn=>?_⟩
  ·rw [eW]
   generalize S.set k (.lst (n1.map .int))=S1 at e1 e2
   simp [EC,gN,aM,aJ,aK,fIx,atI,ixN,fEq,fNe,eqN,aP,aO,aQ,aN,aH,aT,frz,aL,m2,e1,e2]
  ·rcases List.mem_cons.mp hn with rfl | hn
   ·exact Bd.of (n:=1000000000000) (by omega) (by decide)
   ·exact b2 n hn
theorem alH {v:Int} (h0:0≤v) (h1:v < 4):∃ M:Int,fIx (.lst [.int 0,.int 3,.int 9,.int 1000000000000]) (.int v)=some (.int M)∧0≤M∧M≤1000000000000:=by
 have c:v=0∨v=1∨v=2∨v=3:=by omega
 rcases c with rfl | rfl | rfl | rfl
 ·exact ⟨0,rfl,by decide,by decide⟩
 ·exact ⟨3,rfl,by decide,by decide⟩
 ·exact ⟨9,rfl,by decide,by decide⟩
 ·exact ⟨1000000000000,rfl,by decide,by decide⟩
theorem p12:dE (.int 10) (.int 12)=some (.int 1000000000000):=rC (i:=10) (j:=12) ⟨by decide,by decide,by decide⟩
theorem akU {v:Int} (h0:0≤v) (h1:v < 4):0≤v.fdiv 2∧v.fdiv 2≤1:=by
 have c:v=0∨v=1∨v=2∨v=3:=by omega
 rcases c with rfl | rfl | rfl | rfl <;> decide
theorem ako {n k:Nat} {L:List Int} {b:Int} (hb:0 < b) (hl:L.length=n) (hk:k≤300) (hL:∀ x∈L,Bd k x) (bb:Bd k b):∃ (zs:List Int) (z:Int),low (L++[b])=zs++[z]∧Pt n zs z∧(∀ x∈zs,Bd k x)∧Bd k z:=by
 obtain ⟨zs,z,g,e,hg,hz,_,_,hzl⟩:=aex L hb
 have hbd:=agX (k:=k) (ns:=L++[b]) fun m hm=>by
  rcases List.mem_append.mp hm with y | y
  ·exact hL m y
  ·have:m=b:=by simpa using y
   rw [this]; exact bb
 have hlow:=aeY L hb
 rw [e] at hbd hlow
 have b1:∀ x∈zs,Bd k x:=fun x hx=>hbd x (List.mem_append_left _ hx)
 have b2:Bd k z:=hbd z (kI zs z)
 exact ⟨zs,z,e,⟨hzl.trans hl,hz,hlow,fun x hx=>(b1 x hx).mono hk,b2.mono hk⟩,b1,b2⟩
theorem aji {S:Sto} {k:Nat} {ns:List Int} (n:Nat) (hn:n=2∨n=3) (h:Row S k ns):∃ (xs:List Int) (w:Int) (ns':List Int),lQ [.ref k,.pv (.int n)] S=.ok (.pv (.tup ((xs++[w]).map .int))) (S.set k (.lst (ns'.map .int)))∧Pt n xs w∧(∀ x∈xs,Bd 100 x)∧Bd 100 w:=by
 obtain ⟨c,n1,e1,c0,c1,_⟩:=lO (m:=4) h (by decide) (sm8 (by decide) (by decide))
 obtain ⟨M,em,M0,M1⟩:=alH c0 c1
 obtain ⟨t,n2,e2,t0,t1,_⟩:=lO (m:=9) (h.set n1) (by decide) (sm8 (by decide) (by decide))
 rw [List.set_set] at e2
 obtain ⟨xs,n3,e3,l3,b3⟩:=adj M0 M1 (dA 0 n) _ n2 none (h.set n2)
 rw [List.set_set] at e3
 have hc:=akU c0 c1
 have mt:bE (.int t) (.int (c.fdiv 2))=some (.int (t*c.fdiv 2)):=iM (.inl (.inl ⟨by omega,by omega⟩))
 have qt:fN (.int c) (.int 2)=some (.int (c.fdiv 2)):=qY ⟨by decide,sm8 (by decide) (by decide)⟩
 have hm:0≤t*c.fdiv 2∧t*c.fdiv 2≤8:=by
  have c2:c.fdiv 2=0∨c.fdiv 2=1:=by omega
  rcases c2 with z | z <;> rw [z] <;> omega
 have lx:xs.length=n:=by rw [l3]; unfold dA; simp
 generalize t*c.fdiv 2=tc at mt hm
 obtain ⟨zs,z,ez,P,b1,b2⟩:=ako (n:=n) (k:=100) (L:=xs) (b:=1+tc) (by omega) lx (by decide) (fun x hx=>(b3 x hx).mono (by decide)) (Bd.of (n:=9) (by omega) (by decide))
 have el:=qR (xs++[1+tc]) (S.set k (.lst (n3.map .int))) (fun m hm=>by
  rcases List.mem_append.mp hm with y | y
  ·exact (b3 m y).mono (by decide)
  ·have:m=1+tc:=by simpa using y
   rw [this]
   exact (Bd.of (k:=4) (n:=9) (by omega) (by decide)).mono (by decide))
 rw [ez] at el
 refine ⟨zs,z,n3,?_,P,b1,b2⟩
 have tk3:=adA S k (.lst (n3.map .int))
 have hz:xs.length+1≤16777216:=by omega
 generalize S.set k (.lst (n1.map .int))=S1 at e1 e2
 generalize S.set k (.lst (n2.map .int))=S2 at e2 e3
 generalize S.set k (.lst (n3.map .int))=S3 at e3 el tk3
 have hr:lZ [.pv (.int (n:Int))] S2=.ok (dA 0 n,[]) S2:=by
  unfold lZ
  dsimp only
  rw [if_pos ⟨by omega,by omega⟩]
  rfl
 conv at el=>lhs; rw [List.map_append]
 simp only [List.map_cons,List.map_nil] at el
 generalize (zs++[z]).map PV.int=ZL at el
 unfold lQ fnM aeZ
 simp [EC,aM,aJ,aK,fEq,fNe,bZ,aP,aO,aQ,aN,aH,aT,frz,aL,p12,e1,em,e2,mt,qt,bO,fR,hr,bS,e3,hz,el,tk3]
structure Pq (n k:Nat) (xs:List Int) (w:Int):Prop where
 len:xs.length=n
 pos:0 < w
 low:low (xs++[w])=xs++[w]
 bx:∀ x∈xs,Bd k x
 bw:Bd k w
def Vl (n:Nat) (xs:List Int) (w:Int) (N:Nat→Int) (D:Int):Prop:=∀ j,j < n→xs.getD j 0*D=N j*w
theorem Vl.self (n:Nat) (xs:List Int) (w:Int):Vl n xs w (fun j=>xs.getD j 0) w:=fun _ _=>rfl
theorem ajH {a b c:Int} (h:0 < c) (e:a*c=b*c):a=b:=Int.eq_of_mul_eq_mul_right (by omega) e
theorem Pq.same {n k k':Nat} {xs ys:List Int} {w v:Int} (P:Pq n k xs w) (Q:Pq n k' ys v) (h:∀ j,j < n→xs.getD j 0*v=ys.getD j 0*w):xs++[w]=ys++[v]:=by
 rw [← P.low,← Q.low]
 refine ac3 (k:=v) (m:=w) Q.pos P.pos (sD (kI xs w) (by have:=P.pos; omega)) ?_
 rw [List.map_append,List.map_append]
 congr 1
 ·refine List.ext_getElem (by simp [P.len,Q.len]) fun j h1 h2=>?_
  have hj:j < n:=by rw [← P.len]; simpa using h1
  have e:=h j hj
  have a1:xs.getD j 0=xs[j]'(by rw [P.len]; exact hj):=by simp [List.getD,P.len,hj]
  have a2:ys.getD j 0=ys[j]'(by rw [Q.len]; exact hj):=by simp [List.getD,Q.len,hj]
  rw [a1,a2] at e
  rw [List.getElem_map,List.getElem_map]
  rw [Int.mul_comm v,Int.mul_comm w]
  exact e
 ·simp only [List.map_cons,List.map_nil]
  rw [Int.mul_comm]
theorem Pq.eq {n k k':Nat} {xs ys:List Int} {w v:Int} {N M:Nat→Int} {D E:Int} (P:Pq n k xs w) (Q:Pq n k' ys v) (a:Vl n xs w N D) (b:Vl n ys v M E) (hD:0 < D) (hE:0 < E) (h:∀ j,j < n→N j*E=M j*D):xs++[w]=ys++[v]:=by
 refine P.same Q fun j hj=>?_
 have e1:=a j hj
 have e2:=b j hj
 have e3:=h j hj
 refine ajH (c:=D*E) (Int.mul_pos hD hE) ?_
 grind
theorem Pt.pq {n k:Nat} {xs:List Int} {w:Int} (P:Pt n xs w) (b:∀ x∈xs,Bd k x) (bw:Bd k w):Pq n k xs w:=⟨P.len,P.pos,P.low,b,bw⟩
theorem Pq.mono {n k l:Nat} {xs:List Int} {w:Int} (P:Pq n k xs w) (h:k≤l):Pq n l xs w:=⟨P.len,P.pos,P.low,fun x hx=>(P.bx x hx).mono h,P.bw.mono h⟩
theorem acZ {xs:List Int} {w:Int} {n k:Nat} (S:Sto) (hk:k≤2000) (h:Pq n k xs w):iZ [.pv (.tup ((xs++[w]).map .int)),.pv (.int n)] S=.ok (.pv (.bl true)) S:=by
 have e1:=aeD (xs++[w]) S
 have hl:((xs++[w]).length:Int)=(n:Int)+1:=by simp [h.len]
 rw [hl] at e1
 have ip:=mS xs w
 have el:=adQ (xs++[w]) S (fun m hm=>by
  rcases List.mem_append.mp hm with z | z
  ·exact (h.bx m z).mono (by omega)
  ·have:m=w:=by simpa using z
   rw [this]; exact h.bw.mono (by omega))
 rw [h.low] at el
 have q:eqN 8 (.tup ((xs++[w]).map .int)) (.tup ((xs++[w]).map .int))=some true:=zV 7 _
 have hw:¬ w < 1:=by have:=h.pos; omega
 generalize (xs++[w]).map PV.int=PL at e1 ip el q
 unfold iZ fnM xN
 simp [EC,aM,aJ,aK,fEq,fNe,bZ,aP,aO,aQ,aN,aH,aT,frz,aL,e1,ip,hw,el,q]
theorem aiH (t b:Int) (S:Sto) (ht:Bd 8000 t) (hb:Bd 8000 b):oR [.pv (.int t),.pv (.int b)] S=.ok (.pv (.tup ((fr t b).map .int))) S:=by
 unfold oR fnM zY fr
 have e1:=qR [0 - t,0 - b] S (by
  intro n hn
  rcases List.mem_cons.mp hn with rfl | hn
  ·rw [Int.zero_sub]; exact ht.neg
  ·have:n=0 - b:=by simpa using hn
   rw [this,Int.zero_sub]; exact hb.neg)
 have e2:=qR [t,b] S (by
  intro n hn
  rcases List.mem_cons.mp hn with rfl | hn
  ·exact ht
  ·have:n=b:=by simpa using hn
   rw [this]; exact hb)
 by_cases h:b < 0
 ·simp only [List.map_cons,List.map_nil,Int.zero_sub] at e1
  simp [EC,aM,aJ,aK,fIx,atI,ixN,fEq,fNe,eqN,aP,aO,aQ,aN,aH,aT,frz,aL,h,e1]
 ·simp only [List.map_cons,List.map_nil] at e2
  simp [EC,aM,aJ,aK,fIx,atI,ixN,fEq,fNe,eqN,aP,aO,aQ,aN,aH,aT,frz,aL,h,e2]
theorem aaN (t b:Int) (S:Sto) (ht:Bd 7000 t) (hb:Bd 7000 b) (h:b≠0):iL [.pv (.int t),.pv (.int b)] S=.ok (.pv (.tup ((fr t b).map .int))) S:=by
 have gb:Bd 7000 ((Int.gcd t b:Nat):Int):=ht.gcd hb
 have sb:Bd 2 (sg b):=by
  unfold sg
  split
  ·unfold Bd; simp
  ·split <;> (unfold Bd; simp)
 have mb:nP (sg b) (Int.gcd t b:Nat):=.inr ⟨sb.mono (by decide),gb.mono (by decide)⟩
 have nz:sg b*(Int.gcd t b:Nat)≠0:=by
  have gp:=uU (mH t b) h
  rw [vJ] at gp
  rcases adg h with ⟨_,s⟩ | ⟨_,s⟩ <;> rw [s] <;> omega
 have qb:∀ x,nR x (sg b*(Int.gcd t b:Nat)):=fun x=>⟨nz,(sb.mul gb).mono (by decide)⟩
 rw [← afa h]
 unfold iL fnM mO
 simp [EC,aM,aJ,aK,fIx,atI,ixN,fEq,fNe,eqN,aP,aO,aQ,aN,aH,aT,frz,aL,h,uP,abh,iM mb,qY (qb t),qY (qb b)]
theorem xX:∀ is:List Int,gL (is.map .int)=some is
 | []=>rfl
 | i :: is=>by
  have ih:=xX is
  show (match gL (is.map .int) with | some bs=>some (i :: bs) | none=>none)=_
  rw [ih]
theorem acp (is:List Int):qA [.lst (is.map .int)]=some (.int is.sum):=by
 simp only [qA,xX,Option.map_some]
def wa (xs:List Int) (w:Int) (ys:List Int) (v:Int):List Int:=List.zipWith (fun x y=>y*w - x*v) xs ys
theorem aeV (S:Sto) (PL QL:List PV) (w v:Int) (hp:fIx (.tup PL) (.int (-1))=some (.int w)) (hq:fIx (.tup QL) (.int (-1))=some (.int v)) (bw:Bd 2000 w) (bv:Bd 2000 v):∀ (xs ys:List Int) (x y:Option AV),xs.length=ys.length→(∀ x∈xs,Bd 2000 x)→(∀ y∈ys,Bd 2000 y) →
  bY [] (gT 2 (cM (gN 0) (cM (gN 1) eB))) (aB dJ (aB bE (aA 1) (aB fIx (aA 2) (mUn cQ (mC (.int 1))))) (aB bE (aA 0) (aB fIx (aA 3) (mUn cQ (mC (.int 1)))))) (gF (xs.map .int) (ys.map .int)) [x,y,some (.pv (.tup PL)),some (.pv (.tup QL))] S=.ok ((wa xs w ys v).map .int) S
 | [],ys,x,y,hl,_,_=>by
  have:ys=[]:=List.length_eq_zero_iff.mp hl.symm
  subst this
  exact eO
 | a :: xs,[],x,y,hl,_,_=>by cases hl
 | a :: xs,b :: ys,x,y,hl,hx,hy=>by
  have ih:=aeV S PL QL w v hp hq bw bv xs ys (some (.pv (.int a))) (some (.pv (.int b))) (by simpa using hl) (fun m hm=>hx m (List.mem_cons_of_mem _ hm)) (fun m hm=>hy m (List.mem_cons_of_mem _ hm))
  have m1:=mB (hx a List.mem_cons_self) bv
  have m2:=mB (hy b List.mem_cons_self) bw
  show bY [] _ _ (.tup [.int a,.int b] :: gF (xs.map .int) (ys.map .int)) _ S=_
  rw [eW]
  simp [gT,cM,eB,gN,EC,aM,aJ,aK,fEq,fNe,bZ,aP,aO,aQ,aN,aH,aT,frz,aL,hp,hq,m1,m2,ih,wa]
theorem adr {xs ys:List Int} {w v:Int} (S:Sto) (hl:xs.length=ys.length) (hx:∀ x∈xs,Bd 2000 x) (hy:∀ y∈ys,Bd 2000 y) (bw:Bd 2000 w) (bv:Bd 2000 v) :
  mI [.pv (.tup ((xs++[w]).map .int)),.pv (.tup ((ys++[v]).map .int))] S=.ok (.pv (.lst ((wa xs w ys v).map .int))) S:=by
 have ip:=mS xs w
 have iq:=mS ys v
 have sp:=uJ xs w
 have sq:=uJ ys v
 have ec:=aeV S _ _ w v ip iq bw bv xs ys none none hl hx hy
 generalize (xs++[w]).map PV.int=PL at ip sp ec
 generalize (ys++[v]).map PV.int=QL at iq sq ec
 unfold mI fnM xG
 simp [EC,aM,aJ,aK,fEq,fNe,bZ,aP,aO,aQ,aN,aH,aT,frz,aL,bO,nV,sG,bW,mSl,mO0,mO1,dZ,sp,sq,bS,ec]
theorem zB (S:Sto):∀ (us vs:List Int) (x y:Option AV),(∀ x∈us,Bd 100000 x)→(∀ y∈vs,Bd 100000 y) →
  bY [] (gT 2 (cM (gN 0) (cM (gN 1) eB))) (aB bE (aA 0) (aA 1)) (gF (us.map .int) (vs.map .int)) [x,y] S=.ok ((List.zipWith (·*·) us vs).map .int) S
 | [],vs,x,y,_,_=>by
  show bY [] _ _ [] _ S=_
  exact eO
 | a :: us,[],x,y,_,_=>by
  show bY [] _ _ [] _ S=_
  exact eO
 | a :: us,b :: vs,x,y,hx,hy=>by
  have ih:=zB S us vs (some (.pv (.int a))) (some (.pv (.int b))) (fun m hm=>hx m (List.mem_cons_of_mem _ hm)) (fun m hm=>hy m (List.mem_cons_of_mem _ hm))
  have m1:bE (.int a) (.int b)=some (.int (a*b)):=iM (.inr ⟨(hx a List.mem_cons_self).mono (by decide),(hy b List.mem_cons_self).mono (by decide)⟩)
  show bY [] _ _ (.tup [.int a,.int b] :: gF (us.map .int) (vs.map .int)) _ S=_
  rw [eW]
  simp [gT,cM,eB,gN,EC,aM,aJ,aK,fEq,fNe,bZ,aP,aO,aQ,aN,aH,aT,frz,aL,m1,ih]
def dt (us vs:List Int):Int:=(List.zipWith (·*·) us vs).sum
def Sq (A:PV) (us:List Int):Prop:=A=.lst (us.map .int)∨A=.tup (us.map .int)
theorem ahi {A B:PV} {us vs:List Int} (S:Sto) (hA:Sq A us) (hB:Sq B vs) (hx:∀ x∈us,Bd 100000 x) (hy:∀ y∈vs,Bd 100000 y):rZ [.pv A,.pv B] S=.ok (.pv (.int (dt us vs))) S:=by
 have ec:=zB S us vs none none hx hy
 have es:=acp (List.zipWith (·*·) us vs)
 unfold dt
 generalize (List.zipWith (·*·) us vs).map PV.int=ZL at ec es
 generalize (List.zipWith (·*·) us vs).sum=Z at es
 unfold rZ fnM ahR
 rcases hA with rfl | rfl <;> rcases hB with rfl | rfl <;>
  (generalize us.map PV.int=UL at ec ⊢; generalize vs.map PV.int=VL at ec ⊢; simp [EC,aM,aJ,aK,fEq,fNe,bZ,aP,aO,aQ,aN,aH,aT,frz,aL,bO,nV,sG,bW,bS,ec,es])
theorem ae7 {A B:PV} {us vs:List Int} (S:Sto) (hA:Sq A us) (hB:Sq B vs) (hx:∀ x∈us,Bd 100000 x) (hy:∀ y∈vs,Bd 100000 y):rM [.pv A,.pv B] S=.ok (.pv (.int (dt us vs))) S:=by
 have ec:=zB S us vs none none hx hy
 have es:=acp (List.zipWith (·*·) us vs)
 unfold dt
 generalize (List.zipWith (·*·) us vs).map PV.int=ZL at ec es
 generalize (List.zipWith (·*·) us vs).sum=Z at es
 unfold rM fnM afb
 rcases hA with rfl | rfl <;> rcases hB with rfl | rfl <;>
  (generalize us.map PV.int=UL at ec ⊢; generalize vs.map PV.int=VL at ec ⊢; simp [EC,aM,aJ,aK,fEq,fNe,bZ,aP,aO,aQ,aN,aH,aT,frz,aL,bO,nV,sG,bW,bS,ec,es])
theorem mBB {k l:Nat} {a b:Int} (h:Bd k a) (g:Bd l b) (hk:k≤1000000:=by decide) (hl:l≤1000000:=by decide):bE (.int a) (.int b)=some (.int (a*b)):=iM (.inr ⟨h.mono hk,g.mono hl⟩)
theorem ahY (a b:Int) (S:Sto):mV [.pv (.lst [.lst [.int a,.int b]])] S=.ok (.pv (.lst [.int (-b),.int a])) S:=by
 unfold mV fnM uF
 simp [EC,aM,aJ,aK,fIx,atI,ixN,fEq,fNe,eqN,aP,aO,aQ,aN,aH,aT,frz,aL]
theorem aiK {a b c d e f:Int} (S:Sto) (ha:Bd 10000 a) (hb:Bd 10000 b) (hc:Bd 10000 c) (hd:Bd 10000 d) (he:Bd 10000 e) (hf:Bd 10000 f):mV [.pv (.lst [.lst [.int a,.int b,.int c],.lst [.int d,.int e,.int f]])] S=.ok (.pv (.lst [.int (b*f - c*e),.int (c*d - a*f),.int (a*e - b*d)])) S:=by
 have m1:=mBB hb hf
 have m2:=mBB hc he
 have m3:=mBB hc hd
 have m4:=mBB ha hf
 have m5:=mBB ha he
 have m6:=mBB hb hd
 unfold mV fnM uF
 simp [EC,aM,aJ,aK,fIx,atI,ixN,fEq,fNe,eqN,aP,aO,aQ,aN,aH,aT,frz,aL,m1,m2,m3,m4,m5,m6]
theorem ado {A B:PV} {a b c d e f:Int} (S:Sto) (hA:Sq A [a,b,c]) (hB:Sq B [d,e,f]) (ha:Bd 10000 a) (hb:Bd 10000 b) (hc:Bd 10000 c) (hd:Bd 10000 d) (he:Bd 10000 e) (hf:Bd 10000 f):qX [.pv A,.pv B] S=.ok (.pv (.lst [.int (b*f - c*e),.int (c*d - a*f),.int (a*e - b*d)])) S:=by
 have m1:=mBB hb hf
 have m2:=mBB hc he
 have m3:=mBB hc hd
 have m4:=mBB ha hf
 have m5:=mBB ha he
 have m6:=mBB hb hd
 unfold qX fnM zC
 rcases hA with rfl | rfl <;> rcases hB with rfl | rfl <;> simp [EC,aM,aJ,aK,fIx,atI,ixN,fEq,fNe,eqN,aP,aO,aQ,aN,aH,aT,frz,aL,m1,m2,m3,m4,m5,m6]
structure P2 (x y w:Int):Prop where
 bx:Bd 1000 x
 by_:Bd 1000 y
 bw:Bd 1000 w
 pos:0 < w
structure P3 (x y z w:Int):Prop where
 bx:Bd 1000 x
 by_:Bd 1000 y
 bz:Bd 1000 z
 bw:Bd 1000 w
 pos:0 < w
abbrev v2 (x y w:Int):PV:=.tup [.int x,.int y,.int w]
abbrev v3 (x y z w:Int):PV:=.tup [.int x,.int y,.int z,.int w]
def Sv (A:PV) (L:List PV):Prop:=A=.lst L∨A=.tup L
theorem alU (p:PV) (L:List PV):iH (p :: L) (some 1) none=L:=by
 unfold iH
 have e1:HT.sIx (p :: L).length 0 (some 1)=1:=by
  rw [show (some (1:Int))=some ((1:Nat):Int) from rfl,HT.sIx_nat,List.length_cons]
  omega
 rw [e1]
 show ((p :: L).drop 1).take ((p :: L).length - 1)=L
 simp
theorem pV (p:PV) (L:List PV):fSl (.lst (p :: L)) (some 1) none=some (.lst L):=by
 unfold fSl
 dsimp only
 rw [alU]
theorem wD (p:PV) (L:List PV):fSl (.tup (p :: L)) (some 1) none=some (.tup L):=by
 unfold fSl
 dsimp only
 have e1:HT.sIx (p :: L).length 0 (some 1)=1:=by
  rw [show (some (1:Int))=some ((1:Nat):Int) from rfl,HT.sIx_nat,List.length_cons]
  omega
 rw [if_neg (by rw [e1]; simp),alU]
theorem ahl (L:List PV) (p:PV):fSl (.lst (L++[p])) none (some (-1))=some (.lst L):=by
 unfold fSl
 dsimp only
 unfold iH
 have e1:HT.sIx (L++[p]).length (L++[p]).length (some (-1))=L.length:=by
  rw [List.length_append]
  exact zO L.length _
 rw [e1]
 show some (PV.lst (((L++[p]).drop 0).take (L.length - 0)))=_
 simp
theorem ag6 {x0 y0 w0 x1 y1 w1:Int} (S:Sto) (p:P2 x0 y0 w0) (q:P2 x1 y1 w1):mI [.pv (v2 x0 y0 w0),.pv (v2 x1 y1 w1)] S=.ok (.pv (.lst [.int (x1*w0 - x0*w1),.int (y1*w0 - y0*w1)])) S:=by
 have e:=adr (xs:=[x0,y0]) (ys:=[x1,y1]) (w:=w0) (v:=w1) S rfl (by simp; exact ⟨p.bx.mono (by decide),p.by_.mono (by decide)⟩) (by simp; exact ⟨q.bx.mono (by decide),q.by_.mono (by decide)⟩) (p.bw.mono (by decide)) (q.bw.mono (by decide))
 exact e
theorem afD {x0 y0 z0 w0 x1 y1 z1 w1:Int} (S:Sto) (p:P3 x0 y0 z0 w0) (q:P3 x1 y1 z1 w1):mI [.pv (v3 x0 y0 z0 w0),.pv (v3 x1 y1 z1 w1)] S=.ok (.pv (.lst [.int (x1*w0 - x0*w1),.int (y1*w0 - y0*w1),.int (z1*w0 - z0*w1)])) S:=by
 have e:=adr (xs:=[x0,y0,z0]) (ys:=[x1,y1,z1]) (w:=w0) (v:=w1) S rfl (by simp; exact ⟨p.bx.mono (by decide),p.by_.mono (by decide),p.bz.mono (by decide)⟩) (by simp; exact ⟨q.bx.mono (by decide),q.by_.mono (by decide),q.bz.mono (by decide)⟩) (p.bw.mono (by decide)) (q.bw.mono (by decide))
 exact e
theorem sb {x0 w0 x1 w1:Int} (a:Bd 1000 x0) (b:Bd 1000 w0) (c:Bd 1000 x1) (d:Bd 1000 w1):Bd 2001 (x1*w0 - x0*w1):=((c.mul b).mono (show 1000+1000≤2000 by decide)).sub ((a.mul d).mono (show 1000+1000≤2000 by decide))
theorem cb {a b c d:Int} (h1:Bd 2001 a) (h2:Bd 2001 b) (h3:Bd 2001 c) (h4:Bd 2001 d):Bd 4003 (a*b - c*d):=((h1.mul h2).mono (show 2001+2001≤4002 by decide)).sub ((h3.mul h4).mono (show 2001+2001≤4002 by decide))
def D2 (x0 y0 w0 x1 y1 w1 x2 y2 w2:Int):Int:=w0*(x1*y2 - y1*x2) - w1*(x0*y2 - y0*x2)+w2*(x0*y1 - y0*x1)
def D3 (x0 y0 z0 w0 x1 y1 z1 w1 x2 y2 z2 w2 x3 y3 z3 w3:Int):Int :=
 w0*((y1*z2 - z1*y2)*x3+(z1*x2 - x1*z2)*y3+(x1*y2 - y1*x2)*z3) - w1*((y0*z2 - z0*y2)*x3+(z0*x2 - x0*z2)*y3+(x0*y2 - y0*x2)*z3)
 + w2*((y0*z1 - z0*y1)*x3+(z0*x1 - x0*z1)*y3+(x0*y1 - y0*x1)*z3) - w3*((y0*z1 - z0*y1)*x2+(z0*x1 - x0*z1)*y2+(x0*y1 - y0*x1)*z2)
theorem akW (x0 y0 w0 x1 y1 w1 x2 y2 w2:Int):dt [-(y1*w0 - y0*w1),x1*w0 - x0*w1] [x2*w0 - x0*w2,y2*w0 - y0*w2]=w0*D2 x0 y0 w0 x1 y1 w1 x2 y2 w2:=by
 simp only [dt,D2,List.zipWith_cons_cons,List.zipWith_nil_left,List.sum_cons,List.sum_nil]
 grind
theorem aiJ (x0 y0 z0 w0 x1 y1 z1 w1 x2 y2 z2 w2 x3 y3 z3 w3:Int):dt [(y1*w0 - y0*w1)*(z2*w0 - z0*w2) - (z1*w0 - z0*w1)*(y2*w0 - y0*w2),(z1*w0 - z0*w1)*(x2*w0 - x0*w2) - (x1*w0 - x0*w1)*(z2*w0 - z0*w2),(x1*w0 - x0*w1)*(y2*w0 - y0*w2) - (y1*w0 - y0*w1)*(x2*w0 - x0*w2)] [x3*w0 - x0*w3,y3*w0 - y0*w3,z3*w0 - z0*w3]=w0*w0*D3 x0 y0 z0 w0 x1 y1 z1 w1 x2 y2 z2 w2 x3 y3 z3 w3:=by
 simp only [dt,D3,List.zipWith_cons_cons,List.zipWith_nil_left,List.sum_cons,List.sum_nil]
 grind
theorem pK {w d:Int} (h:0 < w):sg (w*d)=sg d:=by
 unfold sg
 by_cases h1:0 < d
 ·rw [if_pos (Int.mul_pos h h1),if_pos h1]
 ·by_cases h2:d < 0
  ·have:w*d < 0:=Int.mul_neg_of_pos_of_neg h h2
   rw [if_neg (by omega),if_pos this,if_neg h1,if_pos h2]
  ·have:d=0:=by omega
   subst this
   rw [Int.mul_zero]
theorem ah3 {A:PV} {x0 y0 w0 x1 y1 w1 x2 y2 w2:Int} (S:Sto) (hA:Sv A [v2 x0 y0 w0,v2 x1 y1 w1,v2 x2 y2 w2]) (p:P2 x0 y0 w0) (q:P2 x1 y1 w1) (r:P2 x2 y2 w2):mK [.pv A] S=.ok (.pv (.int (w0*D2 x0 y0 w0 x1 y1 w1 x2 y2 w2))) S:=by
 have a1:=ag6 S p q
 have a2:=ag6 S p r
 have bu:=sb p.bx p.bw q.bx q.bw
 have bv:=sb p.by_ p.bw q.by_ q.bw
 have bu2:=sb p.bx p.bw r.bx r.bw
 have bv2:=sb p.by_ p.bw r.by_ r.bw
 have id:=akW x0 y0 w0 x1 y1 w1 x2 y2 w2
 generalize y2*w0 - y0*w2=V1,x2*w0 - x0*w2=V0,y1*w0 - y0*w1=U1,x1*w0 - x0*w1=U0,w0*D2 x0 y0 w0 x1 y1 w1 x2 y2 w2=D at *
 have en:=ahY U0 U1 S
 have ed:=ahi (A:=.lst [.int (-U1),.int U0]) (B:=.lst [.int V0,.int V1]) (us:=[-U1,U0]) (vs:=[V0,V1]) S (.inl rfl) (.inl rfl) (by simp; exact ⟨bv.neg.mono (by decide),bu.mono (by decide)⟩) (by simp; exact ⟨bu2.mono (by decide),bv2.mono (by decide)⟩)
 rw [id] at ed
 have pre:=ahl [.lst [.int U0,.int U1]] (.lst [.int V0,.int V1])
 simp only [List.cons_append,List.nil_append] at pre
 generalize v2 x2 y2 w2=R,v2 x1 y1 w1=Q,v2 x0 y0 w0=P at *
 unfold mK fnM sU
 rcases hA with rfl | rfl
 ·have s1:=pV P [Q,R]
  simp [EC,aM,aJ,aK,fIx,atI,ixN,fEq,fNe,eqN,aP,aO,aQ,aN,aH,aT,frz,aL,bO,mIt,bW,mSl,mO0,mO1,dZ,s1,bS,eW,eO,gN,a1,a2,pre,en,ed]
 ·have s1:=wD P [Q,R]
  simp [EC,aM,aJ,aK,fIx,atI,ixN,fEq,fNe,eqN,aP,aO,aQ,aN,aH,aT,frz,aL,bO,mIt,bW,mSl,mO0,mO1,dZ,s1,bS,eW,eO,gN,a1,a2,pre,en,ed]
theorem aio {A:PV} {x0 y0 z0 w0 x1 y1 z1 w1 x2 y2 z2 w2 x3 y3 z3 w3:Int} (S:Sto) (hA:Sv A [v3 x0 y0 z0 w0,v3 x1 y1 z1 w1,v3 x2 y2 z2 w2,v3 x3 y3 z3 w3]) (p:P3 x0 y0 z0 w0) (q:P3 x1 y1 z1 w1) (r:P3 x2 y2 z2 w2) (s:P3 x3 y3 z3 w3):mK [.pv A] S=.ok (.pv (.int (w0*w0*D3 x0 y0 z0 w0 x1 y1 z1 w1 x2 y2 z2 w2 x3 y3 z3 w3))) S:=by
 have a1:=afD S p q
 have a2:=afD S p r
 have a3:=afD S p s
 have b1:=sb p.bx p.bw q.bx q.bw
 have b2:=sb p.by_ p.bw q.by_ q.bw
 have b3:=sb p.bz p.bw q.bz q.bw
 have b4:=sb p.bx p.bw r.bx r.bw
 have b5:=sb p.by_ p.bw r.by_ r.bw
 have b6:=sb p.bz p.bw r.bz r.bw
 have b7:=sb p.bx p.bw s.bx s.bw
 have b8:=sb p.by_ p.bw s.by_ s.bw
 have b9:=sb p.bz p.bw s.bz s.bw
 have id:=aiJ x0 y0 z0 w0 x1 y1 z1 w1 x2 y2 z2 w2 x3 y3 z3 w3
 generalize z3*w0 - z0*w3=T2,y3*w0 - y0*w3=T1,x3*w0 - x0*w3=T0,z2*w0 - z0*w2=V2,y2*w0 - y0*w2=V1,x2*w0 - x0*w2=V0,z1*w0 - z0*w1=U2,y1*w0 - y0*w1=U1,x1*w0 - x0*w1=U0,w0*w0*D3 x0 y0 z0 w0 x1 y1 z1 w1 x2 y2 z2 w2 x3 y3 z3 w3=D at *
 have h:∀ {a:Int},Bd 2001 a→Bd 10000 a:=fun h=>h.mono (by decide)
 have h4:∀ {a:Int},Bd 4003 a→Bd 100000 a:=fun h=>h.mono (by decide)
 have h2:∀ {a:Int},Bd 2001 a→Bd 100000 a:=fun h=>h.mono (by decide)
 have en:=aiK S (h b1) (h b2) (h b3) (h b4) (h b5) (h b6)
 have c1:=cb b2 b6 b3 b5
 have c2:=cb b3 b4 b1 b6
 have c3:=cb b1 b5 b2 b4
 have ed:=ahi (A:=.lst [.int (U1*V2 - U2*V1),.int (U2*V0 - U0*V2),.int (U0*V1 - U1*V0)]) (B:=.lst [.int T0,.int T1,.int T2]) (us:=[U1*V2 - U2*V1,U2*V0 - U0*V2,U0*V1 - U1*V0]) (vs:=[T0,T1,T2]) S (.inl rfl) (.inl rfl) (by simp; exact ⟨h4 c1,h4 c2,h4 c3⟩) (by simp; exact ⟨h2 b7,h2 b8,h2 b9⟩)
 rw [id] at ed
 generalize U0*V1 - U1*V0=N2,U2*V0 - U0*V2=N1,U1*V2 - U2*V1=N0 at *
 have pre:=ahl [.lst [.int U0,.int U1,.int U2],.lst [.int V0,.int V1,.int V2]] (.lst [.int T0,.int T1,.int T2])
 simp only [List.cons_append,List.nil_append] at pre
 generalize v3 x3 y3 z3 w3=T,v3 x2 y2 z2 w2=R,v3 x1 y1 z1 w1=Q,v3 x0 y0 z0 w0=P at *
 unfold mK fnM sU
 rcases hA with rfl | rfl
 ·have s1:=pV P [Q,R,T]
  simp [EC,aM,aJ,aK,fIx,atI,ixN,fEq,fNe,eqN,aP,aO,aQ,aN,aH,aT,frz,aL,bO,mIt,bW,mSl,mO0,mO1,dZ,s1,bS,eW,eO,gN,a1,a2,a3,pre,en,ed]
 ·have s1:=wD P [Q,R,T]
  simp [EC,aM,aJ,aK,fIx,atI,ixN,fEq,fNe,eqN,aP,aO,aQ,aN,aH,aT,frz,aL,bO,mIt,bW,mSl,mO0,mO1,dZ,s1,bS,eW,eO,gN,a1,a2,a3,pre,en,ed]
theorem afX {A:PV} {x0 y0 w0 x1 y1 w1 x2 y2 w2:Int} (S:Sto) (hA:Sv A [v2 x0 y0 w0,v2 x1 y1 w1,v2 x2 y2 w2]) (p:P2 x0 y0 w0) (q:P2 x1 y1 w1) (r:P2 x2 y2 w2):lU [.pv A] S=.ok (.pv (.int (sg (D2 x0 y0 w0 x1 y1 w1 x2 y2 w2)))) S:=by
 have e1:=ah3 S hA p q r
 have e2:=uP (w0*D2 x0 y0 w0 x1 y1 w1 x2 y2 w2) S
 rw [pK p.pos] at e2
 unfold lU fnM vF
 simp [EC,aM,aJ,aK,fIx,atI,ixN,fEq,fNe,eqN,aP,aO,aQ,aN,aH,aT,frz,aL,e1,e2]
theorem agE {A:PV} {x0 y0 z0 w0 x1 y1 z1 w1 x2 y2 z2 w2 x3 y3 z3 w3:Int} (S:Sto) (hA:Sv A [v3 x0 y0 z0 w0,v3 x1 y1 z1 w1,v3 x2 y2 z2 w2,v3 x3 y3 z3 w3]) (p:P3 x0 y0 z0 w0) (q:P3 x1 y1 z1 w1) (r:P3 x2 y2 z2 w2) (s:P3 x3 y3 z3 w3):lU [.pv A] S=.ok (.pv (.int (sg (D3 x0 y0 z0 w0 x1 y1 z1 w1 x2 y2 z2 w2 x3 y3 z3 w3)))) S:=by
 have e1:=aio S hA p q r s
 have e2:=uP (w0*w0*D3 x0 y0 z0 w0 x1 y1 z1 w1 x2 y2 z2 w2 x3 y3 z3 w3) S
 rw [pK (Int.mul_pos p.pos p.pos)] at e2
 unfold lU fnM vF
 simp [EC,aM,aJ,aK,fIx,atI,ixN,fEq,fNe,eqN,aP,aO,aQ,aN,aH,aT,frz,aL,e1,e2]
def Gp (n k:Nat) (v:PV):Prop:=∃ xs w,v=.tup ((xs++[w]).map .int)∧Pq n k xs w
theorem Gp.two {v:PV} (h:Gp 2 1000 v):∃ x y w,v=v2 x y w∧P2 x y w:=by
 obtain ⟨xs,w,rfl,P⟩:=h
 match xs,P.len with
 | [x,y],_=>exact ⟨x,y,w,rfl,P.bx x (by simp),P.bx y (by simp),P.bw,P.pos⟩
theorem Gp.three {v:PV} (h:Gp 3 1000 v):∃ x y z w,v=v3 x y z w∧P3 x y z w:=by
 obtain ⟨xs,w,rfl,P⟩:=h
 match xs,P.len with
 | [x,y,z],_=>exact ⟨x,y,z,w,rfl,P.bx x (by simp),P.bx y (by simp),P.bx z (by simp),P.bw,P.pos⟩
theorem ahw {n k m:Nat} {v:PV} (h:Gp n k v):eqN (m+1) v v=some true:=by
 obtain ⟨xs,w,rfl,_⟩:=h
 exact zV m _
theorem xW:∀ L:List PV,∀ m,(∀ v∈L,eqN m v v=some true)→gJ (List.zipWith (eqN m) L L)=some (L.map fun _=>true)
 | [],m,_=>rfl
 | v :: L,m,h=>by
  rw [List.zipWith_cons_cons,h v List.mem_cons_self,gJ,xW L m fun u hu=>h u (List.mem_cons_of_mem _ hu)]
  rfl
theorem ah9 {m:Nat} {L:List PV} (h:∀ v∈L,eqN m v v=some true):eqN (m+1) (.lst L) (.lst L)=some true:=by
 rw [eqN,if_pos rfl,xW L m h]
 simp
theorem uI {m:Nat} {L:List PV} (h:∀ v∈L,eqN m v v=some true):eqN (m+1) (.tup L) (.tup L)=some true:=by
 rw [eqN,xW L m h]
 simp
theorem aeu {S:Sto} {k j:Nat} {ns:List Int} {L:List PV} (h:Row S k ns) (hj:S[j]?=some (.lst L)) (hkj:k≠j):∃ (A:PV) (ns':List Int),lI [.ref k,.ref j] S=.ok (.pv A) (S.set k (.lst (ns'.map .int)))∧Sv A L:=by
 obtain ⟨t,n1,e1,t0,t1,_⟩:=lO (m:=2) h (by decide) (sm8 (by decide) (by decide))
 have hj1:(S.set k (.lst (n1.map .int)))[j]?=some (.lst L):=by rw [List.getElem?_set_ne hkj]; exact hj
 have tk:=adA S k (.lst (n1.map .int))
 generalize hS:S.set k (.lst (n1.map .int))=S1 at e1 hj1 tk
 by_cases ht:t=1
 ·subst ht
  refine ⟨.tup L,n1,?_,.inr rfl⟩
  rw [hS]
  unfold lI fnM tT
  simp [EC,aM,aJ,aK,fIx,atI,ixN,fEq,fNe,eqN,aP,aO,aQ,aN,aH,aT,frz,aL,e1,hj1,tk]
 ·refine ⟨.lst L,n1,?_,.inl rfl⟩
  rw [hS]
  unfold lI fnM tT
  simp [EC,aM,aJ,aK,fIx,atI,ixN,fEq,fNe,eqN,aP,aO,aQ,aN,aH,aT,frz,aL,e1,hj1,tk,ht]
theorem ac4 (S:Sto) (PL QL:List PV) (xs ys:List Int) (w v:Int) (hp:fIx (.tup PL) (.int (-1))=some (.int w)) (hq:fIx (.tup QL) (.int (-1))=some (.int v)) (hpj:∀ j:Nat,j < xs.length→fIx (.tup PL) (.int (j:Nat))=some (.int (xs.getD j 0))) (hqj:∀ j:Nat,j < xs.length→fIx (.tup QL) (.int (j:Nat))=some (.int (ys.getD j 0)))
  (bw:Bd 1000 w) (bv:Bd 1000 v) (hx:∀ j,Bd 1000 (xs.getD j 0)) (hy:∀ j,Bd 1000 (ys.getD j 0)):∀ (js:List Nat) (x:Option AV),(∀ j∈js,j < xs.length) →
  bY [] (gN 0) (aB dJ (aB bE (aB fIx (aA 1) (aA 0)) (aB fIx (aA 2) (mUn cQ (mC (.int 1))))) (aB bE (aB fIx (aA 2) (aA 0)) (aB fIx (aA 1) (mUn cQ (mC (.int 1)))))) (js.map fun j=>.int (0+(j:Nat))) [x,some (.pv (.tup QL)),some (.pv (.tup PL))] S=.ok ((js.map fun j=>ys.getD j 0*w - xs.getD j 0*v).map .int) S
 | [],x,_=>eO
 | j :: js,x,h=>by
  have ih:=ac4 S PL QL xs ys w v hp hq hpj hqj bw bv hx hy js (some (.pv (.int (0+(j:Nat))))) fun i hi=>h i (List.mem_cons_of_mem _ hi)
  have e1:=hpj j (h j List.mem_cons_self)
  have e2:=hqj j (h j List.mem_cons_self)
  have m1:=mB ((hx j).mono (show 1000≤2000 by decide)) (bv.mono (show 1000≤2000 by decide))
  have m2:=mB ((hy j).mono (show 1000≤2000 by decide)) (bw.mono (show 1000≤2000 by decide))
  show bY [] _ _ (.int (0+(j:Nat)) :: js.map fun j=>.int (0+(j:Nat))) _ S=_
  rw [eW]
  simp only [Int.zero_add] at ih ⊢
  generalize hX:xs.getD j 0=X at e1 m1
  generalize hY:ys.getD j 0=Y at e2 m2
  simp [gN,EC,aM,aJ,aK,fEq,fNe,bZ,aP,aO,aQ,aN,aH,aT,frz,aL,e1,e2,hp,hq,m1,m2,ih]
  simp only [List.getD_eq_getElem?_getD] at hX hY
  rw [hX,hY]
theorem ag4 {xs ys:List Int} {w v:Int} (S:Sto) (hl:xs.length=ys.length) (h9:xs.length≤9) (hx:∀ x∈xs,Bd 1000 x) (hy:∀ y∈ys,Bd 1000 y) (bw:Bd 1000 w) (bv:Bd 1000 v) :
  nE [.pv (.tup ((xs++[w]).map .int)),.pv (.tup ((ys++[v]).map .int))] S=.ok (.pv (.lst ((wa xs w ys v).map .int))) S:=by
 have ip:=mS xs w
 have iq:=mS ys v
 have ec:=ac4 S _ _ xs ys w v ip iq (fun j h=>ag5 xs w j h) (fun j h=>ag5 ys v j (by omega)) bw bv (aea hx) (aea hy) (List.range xs.length) none fun j hj=>by simpa using hj
 have er:(List.range xs.length).map (fun j=>ys.getD j 0*w - xs.getD j 0*v)=wa xs w ys v:=afl hl fun x y=>y*w - x*v
 rw [er] at ec
 have hlen:((xs++[w]).map PV.int).length=xs.length+1:=by simp
 have hr:lZ [.pv (.int (((xs.length+1:Nat):Int) - 1))] S=.ok ((List.range xs.length).map fun j=>.int (0+(j:Nat)),[]) S:=by
  unfold lZ
  dsimp only
  rw [if_pos ⟨by omega,by omega⟩]
  have:(((xs.length+1:Nat):Int) - 1).toNat=xs.length:=by omega
  rw [this]
  rfl
 generalize (wa xs w ys v).map PV.int=ZL at ec
 generalize (List.range xs.length).map (fun j=>PV.int (0+(j:Nat)))=RL at ec hr
 generalize hP:(xs++[w]).map PV.int=PL at ip ec hlen
 generalize (ys++[v]).map PV.int=QL at iq ec
 unfold nE fnM aer
 have hr2:=hr
 rw [← hlen] at hr2
 simp [EC,aM,aJ,aK,fEq,fNe,bZ,aP,aO,aQ,aN,aH,aT,frz,aL,bO,fR,hr2,bS,ec]
theorem wW {x0 y0 w0 x1 y1 w1:Int} (S:Sto) (p:P2 x0 y0 w0) (q:P2 x1 y1 w1):nE [.pv (v2 x0 y0 w0),.pv (v2 x1 y1 w1)] S=.ok (.pv (.lst [.int (x1*w0 - x0*w1),.int (y1*w0 - y0*w1)])) S:=by
 have e:=ag4 (xs:=[x0,y0]) (ys:=[x1,y1]) (w:=w0) (v:=w1) S rfl (by simp) (by simp; exact ⟨p.bx,p.by_⟩) (by simp; exact ⟨q.bx,q.by_⟩) p.bw q.bw
 exact e
theorem pY {x0 y0 z0 w0 x1 y1 z1 w1:Int} (S:Sto) (p:P3 x0 y0 z0 w0) (q:P3 x1 y1 z1 w1):nE [.pv (v3 x0 y0 z0 w0),.pv (v3 x1 y1 z1 w1)] S=.ok (.pv (.lst [.int (x1*w0 - x0*w1),.int (y1*w0 - y0*w1),.int (z1*w0 - z0*w1)])) S:=by
 have e:=ag4 (xs:=[x0,y0,z0]) (ys:=[x1,y1,z1]) (w:=w0) (v:=w1) S rfl (by simp) (by simp; exact ⟨p.bx,p.by_,p.bz⟩) (by simp; exact ⟨q.bx,q.by_,q.bz⟩) p.bw q.bw
 exact e
theorem adC {A:PV} {x0 y0 w0 x1 y1 w1 x2 y2 w2:Int} (S:Sto) (hA:Sv A [v2 x0 y0 w0,v2 x1 y1 w1,v2 x2 y2 w2]) (p:P2 x0 y0 w0) (q:P2 x1 y1 w1) (r:P2 x2 y2 w2):fM [.pv A] S=.ok (.pv (.int (w0*D2 x0 y0 w0 x1 y1 w1 x2 y2 w2))) S:=by
 have a1:=wW S p q
 have a2:=wW S p r
 have bu:=sb p.bx p.bw q.bx q.bw
 have bv:=sb p.by_ p.bw q.by_ q.bw
 have bu2:=sb p.bx p.bw r.bx r.bw
 have bv2:=sb p.by_ p.bw r.by_ r.bw
 have id:(x1*w0 - x0*w1)*(y2*w0 - y0*w2) - (y1*w0 - y0*w1)*(x2*w0 - x0*w2)=w0*D2 x0 y0 w0 x1 y1 w1 x2 y2 w2:=by
  unfold D2
  grind
 generalize y2*w0 - y0*w2=V1,x2*w0 - x0*w2=V0,y1*w0 - y0*w1=U1,x1*w0 - x0*w1=U0,w0*D2 x0 y0 w0 x1 y1 w1 x2 y2 w2=D at *
 have m1:=mBB bu bv2
 have m2:=mBB bv bu2
 generalize v2 x2 y2 w2=R,v2 x1 y1 w1=Q,v2 x0 y0 w0=P at *
 have et:jK [.pv (.lst [.lst [.int U0,.int U1],.lst [.int V0,.int V1]])] S=.ok (.pv (.int D)) S:=by
  unfold jK fnM oY
  simp [EC,aM,aJ,aK,fIx,atI,ixN,fEq,fNe,eqN,aP,aO,aQ,aN,aH,aT,frz,aL,m1,m2,id]
 unfold fM fnM pJ
 rcases hA with rfl | rfl
 ·have s1:=pV P [Q,R]
  simp [EC,aM,aJ,aK,fIx,atI,ixN,fEq,fNe,eqN,aP,aO,aQ,aN,aH,aT,frz,aL,bO,mIt,bW,mSl,mO0,mO1,dZ,s1,bS,eW,eO,gN,a1,a2,et]
 ·have s1:=wD P [Q,R]
  simp [EC,aM,aJ,aK,fIx,atI,ixN,fEq,fNe,eqN,aP,aO,aQ,aN,aH,aT,frz,aL,bO,mIt,bW,mSl,mO0,mO1,dZ,s1,bS,eW,eO,gN,a1,a2,et]
theorem adp {A:PV} {x0 y0 z0 w0 x1 y1 z1 w1 x2 y2 z2 w2 x3 y3 z3 w3:Int} (S:Sto) (hA:Sv A [v3 x0 y0 z0 w0,v3 x1 y1 z1 w1,v3 x2 y2 z2 w2,v3 x3 y3 z3 w3]) (p:P3 x0 y0 z0 w0) (q:P3 x1 y1 z1 w1) (r:P3 x2 y2 z2 w2) (s:P3 x3 y3 z3 w3):fM [.pv A] S=.ok (.pv (.int (w0*w0*D3 x0 y0 z0 w0 x1 y1 z1 w1 x2 y2 z2 w2 x3 y3 z3 w3))) S:=by
 have a1:=pY S p q
 have a2:=pY S p r
 have a3:=pY S p s
 have b1:=sb p.bx p.bw q.bx q.bw
 have b2:=sb p.by_ p.bw q.by_ q.bw
 have b3:=sb p.bz p.bw q.bz q.bw
 have b4:=sb p.bx p.bw r.bx r.bw
 have b5:=sb p.by_ p.bw r.by_ r.bw
 have b6:=sb p.bz p.bw r.bz r.bw
 have b7:=sb p.bx p.bw s.bx s.bw
 have b8:=sb p.by_ p.bw s.by_ s.bw
 have b9:=sb p.bz p.bw s.bz s.bw
 have id:=aiJ x0 y0 z0 w0 x1 y1 z1 w1 x2 y2 z2 w2 x3 y3 z3 w3
 generalize z3*w0 - z0*w3=T2,y3*w0 - y0*w3=T1,x3*w0 - x0*w3=T0,z2*w0 - z0*w2=V2,y2*w0 - y0*w2=V1,x2*w0 - x0*w2=V0,z1*w0 - z0*w1=U2,y1*w0 - y0*w1=U1,x1*w0 - x0*w1=U0,w0*w0*D3 x0 y0 z0 w0 x1 y1 z1 w1 x2 y2 z2 w2 x3 y3 z3 w3=D at *
 have h:∀ {a:Int},Bd 2001 a→Bd 10000 a:=fun h=>h.mono (by decide)
 have h4:∀ {a:Int},Bd 4003 a→Bd 100000 a:=fun h=>h.mono (by decide)
 have h2:∀ {a:Int},Bd 2001 a→Bd 100000 a:=fun h=>h.mono (by decide)
 have en:=ado (A:=.lst [.int U0,.int U1,.int U2]) (B:=.lst [.int V0,.int V1,.int V2]) S (.inl rfl) (.inl rfl) (h b1) (h b2) (h b3) (h b4) (h b5) (h b6)
 have c1:=cb b2 b6 b3 b5
 have c2:=cb b3 b4 b1 b6
 have c3:=cb b1 b5 b2 b4
 have ed:=ae7 (A:=.lst [.int (U1*V2 - U2*V1),.int (U2*V0 - U0*V2),.int (U0*V1 - U1*V0)]) (B:=.lst [.int T0,.int T1,.int T2]) (us:=[U1*V2 - U2*V1,U2*V0 - U0*V2,U0*V1 - U1*V0]) (vs:=[T0,T1,T2]) S (.inl rfl) (.inl rfl) (by simp; exact ⟨h4 c1,h4 c2,h4 c3⟩) (by simp; exact ⟨h2 b7,h2 b8,h2 b9⟩)
 rw [id] at ed
 generalize v3 x3 y3 z3 w3=T,v3 x2 y2 z2 w2=R,v3 x1 y1 z1 w1=Q,v3 x0 y0 z0 w0=P,U0*V1 - U1*V0=N2,U2*V0 - U0*V2=N1,U1*V2 - U2*V1=N0 at *
 have et:jK [.pv (.lst [.lst [.int U0,.int U1,.int U2],.lst [.int V0,.int V1,.int V2],.lst [.int T0,.int T1,.int T2]])] S=.ok (.pv (.int D)) S:=by
  unfold jK fnM oY
  simp [EC,aM,aJ,aK,fIx,atI,ixN,fEq,fNe,eqN,aP,aO,aQ,aN,aH,aT,frz,aL,en,ed]
 unfold fM fnM pJ
 rcases hA with rfl | rfl
 ·have s1:=pV P [Q,R,T]
  simp [EC,aM,aJ,aK,fIx,atI,ixN,fEq,fNe,eqN,aP,aO,aQ,aN,aH,aT,frz,aL,bO,mIt,bW,mSl,mO0,mO1,dZ,s1,bS,eW,eO,gN,a1,a2,a3,et]
 ·have s1:=wD P [Q,R,T]
  simp [EC,aM,aJ,aK,fIx,atI,ixN,fEq,fNe,eqN,aP,aO,aQ,aN,aH,aT,frz,aL,bO,mIt,bW,mSl,mO0,mO1,dZ,s1,bS,eW,eO,gN,a1,a2,a3,et]
theorem amn {S:Sto} {k:Nat} {ns:List Int} (n:Nat) (hn:n=2∨n=3) (h:Row S k ns):∃ (v:PV) (ns':List Int),lQ [.ref k,.pv (.int n)] S=.ok (.pv v) (S.set k (.lst (ns'.map .int)))∧Gp n 100 v:=by
 obtain ⟨xs,w,n1,e1,P,b1,b2⟩:=aji n hn h
 exact ⟨_,n1,e1,xs,w,rfl,P.pq b1 b2⟩
theorem ahD {G:Gd} {g:GM} {me:ME} {x:PV} {r:List PV} {ρ:Rho} {S:Sto} (h:gOk G S):bY G g me (x :: r) ρ S=(match g x ρ with
  | none=>.fail
  | some ρ1=>match me ρ1 S with
   | .ok (.pv y) S1=>match bY G g me r ρ1 S1 with
    | .ok ys S2=>.ok (y :: ys) S2
    | _=>.fail
   | _=>.fail):=by
 rw [bY,if_pos h]
 all_goals rfl
theorem agM {G:Gd} {g:GM} {me:ME} {ρ:Rho} {S:Sto} (h:gOk G S):bY G g me [] ρ S=.ok [] S:=by
 rw [bY,if_pos h]
structure R2 (x y w X Y D:Int):Prop where
 pos:0 < w
 dos:0 < D
 ex:x*D=X*w
 ey:y*D=Y*w
theorem Pq.p2 {k:Nat} {x y w:Int} (P:Pq 2 k [x,y] w) (h:k≤1000):P2 x y w:=⟨(P.bx x (by simp)).mono h,(P.bx y (by simp)).mono h,P.bw.mono h,P.pos⟩
theorem Pq.p3 {k:Nat} {x y z w:Int} (P:Pq 3 k [x,y,z] w) (h:k≤1000):P3 x y z w:=⟨(P.bx x (by simp)).mono h,(P.bx y (by simp)).mono h,(P.bx z (by simp)).mono h,P.bw.mono h,P.pos⟩
def sgP:List PV→Int
 | [.tup [.int x0,.int y0,.int w0],.tup [.int x1,.int y1,.int w1],.tup [.int x2,.int y2,.int w2]]=>sg (D2 x0 y0 w0 x1 y1 w1 x2 y2 w2)
 | [.tup [.int x0,.int y0,.int z0,.int w0],.tup [.int x1,.int y1,.int z1,.int w1],.tup [.int x2,.int y2,.int z2,.int w2],.tup [.int x3,.int y3,.int z3,.int w3]]=>sg (D3 x0 y0 z0 w0 x1 y1 z1 w1 x2 y2 z2 w2 x3 y3 z3 w3)
 | _=>0
theorem ahK {n:Nat} (hn:n=2∨n=3) {A:PV} {L:List PV} (S:Sto) (hl:L.length=n+1) (hg:∀ v∈L,Gp n 1000 v) (hA:Sv A L):lU [.pv A] S=.ok (.pv (.int (sgP L))) S:=by
 rcases hn with rfl | rfl
 ·match L,hl with
  | [P,Q,R],_ =>
   obtain ⟨x0,y0,w0,rfl,p⟩:=(hg P (by simp)).two
   obtain ⟨x1,y1,w1,rfl,q⟩:=(hg Q (by simp)).two
   obtain ⟨x2,y2,w2,rfl,r⟩:=(hg R (by simp)).two
   exact afX S hA p q r
 ·match L,hl with
  | [P,Q,R,T],_ =>
   obtain ⟨x0,y0,z0,w0,rfl,p⟩:=(hg P (by simp)).three
   obtain ⟨x1,y1,z1,w1,rfl,q⟩:=(hg Q (by simp)).three
   obtain ⟨x2,y2,z2,w2,rfl,r⟩:=(hg R (by simp)).three
   obtain ⟨x3,y3,z3,w3,rfl,s⟩:=(hg T (by simp)).three
   exact agE S hA p q r s
theorem aj9 (D:Int):sg (-D)=- sg D:=by
 unfold sg
 split <;> split <;> (try split) <;> (try split) <;> omega
abbrev tv (us:List Int):PV:=.tup (us.map .int)
def Gu (n k:Nat) (us:List Int):Prop:=∃ xs w,us=xs++[w]∧Pq n k xs w
theorem Gu.gp {n k:Nat} {us:List Int} (h:Gu n k us):Gp n k (tv us):=by
 obtain ⟨xs,w,rfl,P⟩:=h
 exact ⟨xs,w,rfl,P⟩
theorem Gu.ne {n k:Nat} {us:List Int} (h:Gu n k us):us≠[]:=by
 obtain ⟨xs,w,rfl,P⟩:=h
 simp
theorem gps {n k:Nat} {uss:List (List Int)} (h:∀ us∈uss,Gu n k us):∀ v∈uss.map tv,Gp n k v:=fun v hv=>by
 obtain ⟨us,hu,rfl⟩:=List.mem_map.mp hv
 exact (h us hu).gp
theorem abr:∀ uss:List (List Int),lR (uss.map tv)=some uss
 | []=>rfl
 | us :: uss=>by
  have ih:=abr uss
  show (match gL (us.map .int),lR (uss.map tv) with | some is,some uss=>some (is :: uss) | _,_=>none)=_
  rw [ih,xX]
theorem ab7 {uss:List (List Int)} {n:Nat} (hl:uss.length=n) (hp:(cS uss).Perm (List.range n)):ahz (uss.map tv) uss=(cN uss).map tv:=by
 unfold ahz cN
 rw [List.map_map]
 refine List.map_congr_left fun i hi=>?_
 have h:i < uss.length:=by
  have:=hp.subset hi
  rw [hl]
  simpa using this
 simp [List.getD,h]
theorem xZ {A:PV} {uss:List (List Int)} (hl:uss.length=3∨uss.length=4) (hA:Sv A (uss.map tv)) (hne:∀ us∈uss,us≠[]):rG [A]=some (.lst ((cN uss).map tv)):=by
 have e:pS (uss.map tv)=some (.lst ((cN uss).map tv)):=by
  unfold pS
  rw [abr]
  dsimp only
  rcases hl with h | h
  ·obtain ⟨_,hp,_⟩:=acL h
   rw [if_pos (show aiC uss from ⟨by omega,by omega,by rw [h]; exact akD,by rw [hp.length_eq]; simp,hne⟩),ab7 h hp]
  ·obtain ⟨_,hp,_⟩:=acN h
   rw [if_pos (show aiC uss from ⟨by omega,by omega,by rw [h]; exact akb,by rw [hp.length_eq]; simp,hne⟩),ab7 h hp]
 rcases hA with rfl | rfl
 ·exact e
 ·exact e
def swl {α:Type}:List α→List α
 | [a,b,c]=>[a,c,b]
 | [a,b,c,d]=>[a,b,d,c]
 | l=>l
theorem acK {α β:Type} (f:α→β) (l:List α):(swl l).map f=swl (l.map f):=by
 unfold swl
 split
 ·rfl
 ·rfl
 ·rename_i h1 h2
  split
  ·rename_i e
   match l,e with
   | [a,b,c],_=>exact absurd rfl (h1 a b c)
  ·rename_i e
   match l,e with
   | [a,b,c,d],_=>exact absurd rfl (h2 a b c d)
  ·rfl
theorem agk {α:Type} (l:List α):(swl l).Perm l:=by
 unfold swl
 split
 ·exact .cons _ (.swap _ _ _)
 ·exact .cons _ (.cons _ (.swap _ _ _))
 ·exact .refl _
def dU:List (List Int)→Int
 | [[x0,y0,w0],[x1,y1,w1],[x2,y2,w2]]=>D2 x0 y0 w0 x1 y1 w1 x2 y2 w2
 | [[x0,y0,z0,w0],[x1,y1,z1,w1],[x2,y2,z2,w2],[x3,y3,z3,w3]]=>D3 x0 y0 z0 w0 x1 y1 z1 w1 x2 y2 z2 w2 x3 y3 z3 w3
 | _=>0
theorem Gu.two {k:Nat} {us:List Int} (h:Gu 2 k us) (hk:k≤1000):∃ x y w,us=[x,y,w]∧P2 x y w:=by
 obtain ⟨xs,w,rfl,P⟩:=h
 match xs,P.len,P with
 | [x,y],_,P=>exact ⟨x,y,w,rfl,P.p2 hk⟩
theorem Gu.three {k:Nat} {us:List Int} (h:Gu 3 k us) (hk:k≤1000):∃ x y z w,us=[x,y,z,w]∧P3 x y z w:=by
 obtain ⟨xs,w,rfl,P⟩:=h
 match xs,P.len,P with
 | [x,y,z],_,P=>exact ⟨x,y,z,w,rfl,P.p3 hk⟩
theorem rP {n k:Nat} (hn:n=2∨n=3) (hk:k≤1000) {uss:List (List Int)} (hl:uss.length=n+1) (hg:∀ us∈uss,Gu n k us):sgP (uss.map tv)=sg (dU uss):=by
 rcases hn with rfl | rfl
 ·match uss,hl with
  | [a,b,c],_ =>
   obtain ⟨x0,y0,w0,rfl,_⟩:=(hg a (by simp)).two hk
   obtain ⟨x1,y1,w1,rfl,_⟩:=(hg b (by simp)).two hk
   obtain ⟨x2,y2,w2,rfl,_⟩:=(hg c (by simp)).two hk
   rfl
 ·match uss,hl with
  | [a,b,c,d],_ =>
   obtain ⟨x0,y0,z0,w0,rfl,_⟩:=(hg a (by simp)).three hk
   obtain ⟨x1,y1,z1,w1,rfl,_⟩:=(hg b (by simp)).three hk
   obtain ⟨x2,y2,z2,w2,rfl,_⟩:=(hg c (by simp)).three hk
   obtain ⟨x3,y3,z3,w3,rfl,_⟩:=(hg d (by simp)).three hk
   rfl
theorem akF {x0 y0 w0 x1 y1 w1 x2 y2 w2:Int} {p:List Nat} (hp:p∈rO):dU (p.map fun i=>([[x0,y0,w0],[x1,y1,w1],[x2,y2,w2]]:List (List Int)).getD i [])=dU [[x0,y0,w0],[x1,y1,w1],[x2,y2,w2]]∨dU (p.map fun i=>([[x0,y0,w0],[x1,y1,w1],[x2,y2,w2]]:List (List Int)).getD i [])=- dU [[x0,y0,w0],[x1,y1,w1],[x2,y2,w2]]:=by
 have hp:p=[0,1,2]∨p=[0,2,1]∨p=[1,0,2]∨p=[1,2,0]∨p=[2,0,1]∨p=[2,1,0]:=by simpa [rO] using hp
 rcases hp with rfl | rfl | rfl | rfl | rfl | rfl
 all_goals simp only [List.map,List.getD_cons_zero,List.getD_cons_succ,dU,D2]
 ·left; grind
 ·right; grind
 ·right; grind
 ·left; grind
 ·left; grind
 ·right; grind
theorem akh {x0 y0 z0 w0 x1 y1 z1 w1 x2 y2 z2 w2 x3 y3 z3 w3:Int} {p:List Nat} (hp:p∈rL):dU (p.map fun i=>([[x0,y0,z0,w0],[x1,y1,z1,w1],[x2,y2,z2,w2],[x3,y3,z3,w3]]:List (List Int)).getD i [])=dU [[x0,y0,z0,w0],[x1,y1,z1,w1],[x2,y2,z2,w2],[x3,y3,z3,w3]]∨dU (p.map fun i=>([[x0,y0,z0,w0],[x1,y1,z1,w1],[x2,y2,z2,w2],[x3,y3,z3,w3]]:List (List Int)).getD i [])=- dU [[x0,y0,z0,w0],[x1,y1,z1,w1],[x2,y2,z2,w2],[x3,y3,z3,w3]]:=by
 have hp:p=[0,1,2,3]∨p=[0,1,3,2]∨p=[0,2,1,3]∨p=[0,2,3,1]∨p=[0,3,1,2]∨p=[0,3,2,1]∨p=[1,0,2,3]∨p=[1,0,3,2]∨p=[1,2,0,3]∨p=[1,2,3,0]∨p=[1,3,0,2]∨p=[1,3,2,0]∨p=[2,0,1,3]∨p=[2,0,3,1]∨p=[2,1,0,3]∨p=[2,1,3,0]∨p=[2,3,0,1]∨p=[2,3,1,0]∨p=[3,0,1,2]∨p=[3,0,2,1]∨p=[3,1,0,2]∨p=[3,1,2,0]∨p=[3,2,0,1]∨p=[3,2,1,0]:=by simpa [rL] using hp
 rcases hp with rfl | rfl | rfl | rfl | rfl | rfl | rfl | rfl | rfl | rfl | rfl | rfl | rfl | rfl | rfl | rfl | rfl | rfl | rfl | rfl | rfl | rfl | rfl | rfl
 all_goals simp only [List.map,List.getD_cons_zero,List.getD_cons_succ,dU,D3]
 ·left; grind
 ·right; grind
 ·right; grind
 ·left; grind
 ·left; grind
 ·right; grind
 ·right; grind
 ·left; grind
 ·left; grind
 ·right; grind
 ·right; grind
 ·left; grind
 ·left; grind
 ·right; grind
 ·right; grind
 ·left; grind
 ·left; grind
 ·right; grind
 ·right; grind
 ·left; grind
 ·left; grind
 ·right; grind
 ·right; grind
 ·left; grind
theorem aee {n k:Nat} (hn:n=2∨n=3) (hk:k≤1000) {uss:List (List Int)} (hl:uss.length=n+1) (hg:∀ us∈uss,Gu n k us):dU (cN uss)=dU uss∨dU (cN uss)=- dU uss:=by
 rcases hn with rfl | rfl
 ·obtain ⟨m,hp,_⟩:=acL hl
  unfold cN
  generalize cS uss=p at *
  match uss,hl with
  | [a,b,c],_ =>
   obtain ⟨x0,y0,w0,rfl,_⟩:=(hg a (by simp)).two hk
   obtain ⟨x1,y1,w1,rfl,_⟩:=(hg b (by simp)).two hk
   obtain ⟨x2,y2,w2,rfl,_⟩:=(hg c (by simp)).two hk
   exact akF m
 ·obtain ⟨m,hp,_⟩:=acN hl
  unfold cN
  generalize cS uss=p at *
  match uss,hl with
  | [a,b,c,d],_ =>
   obtain ⟨x0,y0,z0,w0,rfl,_⟩:=(hg a (by simp)).three hk
   obtain ⟨x1,y1,z1,w1,rfl,_⟩:=(hg b (by simp)).three hk
   obtain ⟨x2,y2,z2,w2,rfl,_⟩:=(hg c (by simp)).three hk
   obtain ⟨x3,y3,z3,w3,rfl,_⟩:=(hg d (by simp)).three hk
   exact akh m
theorem vV {n:Nat} (hn:n=2∨n=3) {uss:List (List Int)} (hl:uss.length=n+1):uss.length=3∨uss.length=4:=by
 rcases hn with rfl | rfl
 ·exact .inl hl
 ·exact .inr hl
theorem agG {n:Nat} (hn:n=2∨n=3) {uss:List (List Int)} (hl:uss.length=n+1) (hg:∀ us∈uss,Gu n 1000 us):sgP ((cN uss).map tv)=sgP (uss.map tv)∨sgP ((cN uss).map tv)=- sgP (uss.map tv):=by
 have hp:=(lH (vV hn hl)).1
 rw [rP hn (Nat.le_refl 1000) (by rw [hp.length_eq,hl]) (fun us hu=>hg us (hp.subset hu)),rP hn (Nat.le_refl 1000) hl hg]
 rcases aee hn (Nat.le_refl 1000) hl hg with e | e
 ·exact .inl (by rw [e])
 ·exact .inr (by rw [e,aj9])
theorem acR {n:Nat} (hn:n=2∨n=3) {A:PV} {L:List PV} (S:Sto) (hl:L.length=n+1) (hg:∀ v∈L,Gp n 1000 v) (hA:Sv A L):∃ d:Int,fM [.pv A] S=.ok (.pv (.int d)) S∧sg d=sgP L:=by
 rcases hn with rfl | rfl
 ·match L,hl with
  | [P,Q,R],_ =>
   obtain ⟨x0,y0,w0,rfl,p⟩:=(hg P (by simp)).two
   obtain ⟨x1,y1,w1,rfl,q⟩:=(hg Q (by simp)).two
   obtain ⟨x2,y2,w2,rfl,r⟩:=(hg R (by simp)).two
   exact ⟨_,adC S hA p q r,pK p.pos⟩
 ·match L,hl with
  | [P,Q,R,T],_ =>
   obtain ⟨x0,y0,z0,w0,rfl,p⟩:=(hg P (by simp)).three
   obtain ⟨x1,y1,z1,w1,rfl,q⟩:=(hg Q (by simp)).three
   obtain ⟨x2,y2,z2,w2,rfl,r⟩:=(hg R (by simp)).three
   obtain ⟨x3,y3,z3,w3,rfl,s⟩:=(hg T (by simp)).three
   exact ⟨_,adp S hA p q r s,pK (Int.mul_pos p.pos p.pos)⟩
def cnr (uss:List (List Int)):List (List Int):=if sgP ((cN uss).map tv) < 0 then swl (cN uss) else cN uss
theorem aiG {n:Nat} (hn:n=2∨n=3) {L:List PV} (hl:L.length=n+1):∃ a b M,fSl (.lst L) none (some (-2))=some (.lst M)∧fIx (.lst L) (.int (-1))=some a∧fIx (.lst L) (.int (-2))=some b∧aH (.lst M) (.lst [a,b])=some (.lst (swl L)):=by
 rcases hn with rfl | rfl
 ·match L,hl with
  | [P,Q,R],_=>exact ⟨R,Q,[P],rfl,rfl,rfl,rfl⟩
 ·match L,hl with
  | [P,Q,R,T],_=>exact ⟨T,R,[P,Q],rfl,rfl,rfl,rfl⟩
theorem acH {n:Nat} (hn:n=2∨n=3) {A:PV} {uss:List (List Int)} (S:Sto) (hl:uss.length=n+1) (hg:∀ us∈uss,Gu n 1000 us) (hA:Sv A (uss.map tv)):iB [.pv A] S=.ok (.pv (.tup ((cnr uss).map tv))) S:=by
 have h34:uss.length=3∨uss.length=4:=by omega
 have e1:=xZ h34 hA fun us hu=>(hg us hu).ne
 obtain ⟨pm,_⟩:=lH h34
 have hl2:((cN uss).map tv).length=n+1:=by rw [List.length_map,pm.length_eq]; exact hl
 have hg2:∀ v∈(cN uss).map tv,Gp n 1000 v:=gps fun us hu=>hg us (pm.subset hu)
 obtain ⟨d,e2,hd⟩:=acR (A:=.lst ((cN uss).map tv)) hn S hl2 hg2 (.inl rfl)
 obtain ⟨a,b,M,t1,t2,t3,t4⟩:=aiG hn hl2
 unfold cnr
 have hlt:d < 0↔sgP ((cN uss).map tv) < 0:=by
  rw [← hd]
  unfold sg
  split
  ·omega
  ·split <;> omega
 by_cases h:d < 0
 ·rw [if_pos (hlt.mp h),acK]
  generalize (cN uss).map tv=L at *
  unfold iB fnM oM
  simp [EC,aM,aJ,aK,fEq,fNe,bZ,aP,aO,aQ,aN,frz,aL,e1,e2,h,mSl,mO0,mO1,dZ,t1,t2,t3,t4]
 ·rw [if_neg (fun z=>h (hlt.mpr z))]
  generalize (cN uss).map tv=L at *
  unfold iB fnM oM
  simp [EC,aM,aJ,aK,fEq,fNe,bZ,aP,aO,aQ,aN,frz,aL,e1,e2,h]
theorem adK {n:Nat} (hn:n=2∨n=3) {A:PV} {uss:List (List Int)} (S:Sto) (hl:uss.length=n+1) (hg:∀ us∈uss,Gu n 1000 us) (hA:Sv A (uss.map tv)) (h0:sgP (uss.map tv)≠0):jF [.pv A] S=.ok (.pv (.tup ((cnr uss).map tv))) S:=by
 have h34:uss.length=3∨uss.length=4:=by omega
 have e1:=xZ h34 hA fun us hu=>(hg us hu).ne
 obtain ⟨pm,_⟩:=lH h34
 have hl2:((cN uss).map tv).length=n+1:=by rw [List.length_map,pm.length_eq]; exact hl
 have hg2:∀ v∈(cN uss).map tv,Gp n 1000 v:=gps fun us hu=>hg us (pm.subset hu)
 have e2:=ahK (A:=.lst ((cN uss).map tv)) hn S hl2 hg2 (.inl rfl)
 have h1:sgP ((cN uss).map tv)≠0:=by rcases agG hn hl hg with e | e <;> omega
 obtain ⟨a,b,M,t1,t2,t3,t4⟩:=aiG hn hl2
 unfold cnr
 by_cases h:sgP ((cN uss).map tv) < 0
 ·rw [if_pos h,acK]
  generalize (cN uss).map tv=L at *
  generalize sgP L=D at *
  unfold jF fnM oO
  simp [EC,aM,aJ,aK,fEq,fNe,bZ,aP,aO,aQ,aN,frz,aL,e1,e2,h,h1,mSl,mO0,mO1,dZ,t1,t2,t3,t4]
 ·rw [if_neg h]
  generalize (cN uss).map tv=L at *
  generalize sgP L=D at *
  unfold jF fnM oO
  simp [EC,aM,aJ,aK,fEq,fNe,bZ,aP,aO,aQ,aN,frz,aL,e1,e2,h,h1]
theorem adb {uss:List (List Int)} (h:uss.length=3∨uss.length=4):(cnr uss).Perm uss:=by
 obtain ⟨pm,_⟩:=lH h
 unfold cnr
 split
 ·exact (agk _).trans pm
 ·exact pm
theorem ahX {uss:List (List Int)} (h:uss.length=3∨uss.length=4):cnr (cnr uss)=cnr uss:=by
 have e:=abH (adb h) h
 unfold cnr at e ⊢
 rw [e]
theorem Gu.mono {n k l:Nat} {us:List Int} (h:Gu n k us) (hl:k≤l):Gu n l us:=by
 obtain ⟨xs,w,e,P⟩:=h
 exact ⟨xs,w,e,P.mono hl⟩
theorem acF {d:Int}:sg d=0↔d=0:=by
 unfold sg
 split
 ·omega
 ·split <;> omega
theorem akG {d:Int}:sg d < 0↔d < 0:=by
 unfold sg
 split
 ·omega
 ·split <;> omega
theorem aiV {n k:Nat} (hn:n=2∨n=3) (hk:k≤1000) {uss:List (List Int)} (hl:uss.length=n+1) (hg:∀ us∈uss,Gu n k us):dU (swl uss)=- dU uss:=by
 rcases hn with rfl | rfl
 ·match uss,hl with
  | [a,b,c],_ =>
   obtain ⟨x0,y0,w0,rfl,_⟩:=(hg a (by simp)).two hk
   obtain ⟨x1,y1,w1,rfl,_⟩:=(hg b (by simp)).two hk
   obtain ⟨x2,y2,w2,rfl,_⟩:=(hg c (by simp)).two hk
   show D2 x0 y0 w0 x2 y2 w2 x1 y1 w1=-(D2 x0 y0 w0 x1 y1 w1 x2 y2 w2)
   unfold D2
   grind
 ·match uss,hl with
  | [a,b,c,d],_ =>
   obtain ⟨x0,y0,z0,w0,rfl,_⟩:=(hg a (by simp)).three hk
   obtain ⟨x1,y1,z1,w1,rfl,_⟩:=(hg b (by simp)).three hk
   obtain ⟨x2,y2,z2,w2,rfl,_⟩:=(hg c (by simp)).three hk
   obtain ⟨x3,y3,z3,w3,rfl,_⟩:=(hg d (by simp)).three hk
   show D3 x0 y0 z0 w0 x1 y1 z1 w1 x3 y3 z3 w3 x2 y2 z2 w2=-(D3 x0 y0 z0 w0 x1 y1 z1 w1 x2 y2 z2 w2 x3 y3 z3 w3)
   unfold D3
   grind
theorem ajK {n k:Nat} (hn:n=2∨n=3) (hk:k≤1000) {uss:List (List Int)} (hl:uss.length=n+1) (hg:∀ us∈uss,Gu n k us):dU (cnr uss)=((dU uss).natAbs:Int):=by
 have hp:=(lH (vV hn hl)).1
 have gs:∀ us∈cN uss,Gu n k us:=fun us hu=>hg us (hp.subset hu)
 have ls:(cN uss).length=n+1:=by rw [hp.length_eq,hl]
 have e:=aee hn hk hl hg
 have s:=aiV hn hk ls gs
 have q:=rP hn hk ls gs
 unfold cnr
 split
 ·rename_i h
  rw [q,akG] at h
  rw [s]
  omega
 ·rename_i h
  rw [q,akG] at h
  omega
structure Sx (n k:Nat) (uss:List (List Int)):Prop where
 len:uss.length=n+1
 gu:∀ us∈uss,Gu n k us
 nz:dU uss≠0
 cn:cnr uss=uss
abbrev px (uss:List (List Int)):PV:=.tup (uss.map tv)
theorem alg {n k:Nat} (hn:n=2∨n=3) (hk:k≤1000) {uss:List (List Int)} (hl:uss.length=n+1) (hg:∀ us∈uss,Gu n k us) (nz:dU uss≠0):Sx n k (cnr uss):=by
 have hp:=adb (vV hn hl)
 refine ⟨by rw [hp.length_eq,hl],fun us hu=>hg us (hp.subset hu),?_,ahX (vV hn hl)⟩
 rw [ajK hn hk hl hg]
 omega
theorem mP {G:Gd} {S:Sto} (hG:gOk G S) {me:ME} {tail:Rho} {α:Type} (A B:α→PV):∀ (L:List α) (x:Option AV),(∀ v∈L,me (some (.pv (A v)) :: tail) S=.ok (.pv (B v)) S)→bY G (gN 0) me (L.map A) (x :: tail) S=.ok (L.map B) S
 | [],x,_=>agM hG
 | v :: L,x,h=>by
  have e:=h v List.mem_cons_self
  have e':=mP hG A B L (some (.pv (A v))) fun u hu=>h u (List.mem_cons_of_mem _ hu)
  rw [List.map_cons,ahD hG]
  simp [gN,e,e']
theorem alr {k:Nat} {x0 y0 w0 x1 y1 w1 x2 y2 w2:Int} (a0:Bd k x0) (b0:Bd k y0) (c0:Bd k w0) (a1:Bd k x1) (b1:Bd k y1) (c1:Bd k w1) (a2:Bd k x2) (b2:Bd k y2) (c2:Bd k w2):Bd (3*k+3) (D2 x0 y0 w0 x1 y1 w1 x2 y2 w2):=by
 have m:∀ {a b:Int},Bd k a→Bd k b→Bd (2*k) (a*b):=fun h g=>(h.mul g).mono (by omega)
 have s:∀ {a b c d:Int},Bd k a→Bd k b→Bd k c→Bd k d→Bd (2*k+1) (a*b - c*d):=fun h g i j=>(m h g).sub (m i j)
 have t:∀ {w e:Int},Bd k w→Bd (2*k+1) e→Bd (3*k+1) (w*e):=fun h g=>(h.mul g).mono (by omega)
 unfold D2
 exact ((t c0 (s a1 b2 b1 a2)).sub (t c1 (s a0 b2 b0 a2))).add ((t c2 (s a0 b1 b0 a1)).mono (by omega))
theorem alI {k:Nat} {x0 y0 z0 w0 x1 y1 z1 w1 x2 y2 z2 w2 x3 y3 z3 w3:Int} (a0:Bd k x0) (b0:Bd k y0) (d0:Bd k z0) (c0:Bd k w0) (a1:Bd k x1) (b1:Bd k y1) (d1:Bd k z1) (c1:Bd k w1) (a2:Bd k x2) (b2:Bd k y2) (d2:Bd k z2) (c2:Bd k w2) (a3:Bd k x3) (b3:Bd k y3) (d3:Bd k z3) (c3:Bd k w3):Bd (4*k+6) (D3 x0 y0 z0 w0 x1 y1 z1 w1 x2 y2 z2 w2 x3 y3 z3 w3):=by
 have m:∀ {a b:Int},Bd k a→Bd k b→Bd (2*k) (a*b):=fun h g=>(h.mul g).mono (by omega)
 have s:∀ {a b c d:Int},Bd k a→Bd k b→Bd k c→Bd k d→Bd (2*k+1) (a*b - c*d):=fun h g i j=>(m h g).sub (m i j)
 have t:∀ {e w:Int},Bd (2*k+1) e→Bd k w→Bd (3*k+1) (e*w):=fun h g=>(h.mul g).mono (by omega)
 have u:∀ {e f g w:Int},Bd (3*k+1) e→Bd (3*k+1) f→Bd (3*k+1) g→Bd k w→Bd (4*k+3) (w*(e+f+g)):=fun h i j l=>(l.mul ((h.add i).add (j.mono (by omega)))).mono (by omega)
 unfold D3
 refine (((u (t (s b1 d2 d1 b2) a3) (t (s d1 a2 a1 d2) b3) (t (s a1 b2 b1 a2) d3) c0).sub (u (t (s b0 d2 d0 b2) a3) (t (s d0 a2 a0 d2) b3) (t (s a0 b2 b0 a2) d3) c1)).add ((u (t (s b0 d1 d0 b1) a3) (t (s d0 a1 a0 d1) b3) (t (s a0 b1 b0 a1) d3) c2).mono (by omega))).sub ((u (t (s b0 d1 d0 b1) a2) (t (s d0 a1 a0 d1) b2) (t (s a0 b1 b0 a1) d2) c3).mono (by omega))
theorem Gu.two' {k:Nat} {us:List Int} (h:Gu 2 k us):∃ x y w,us=[x,y,w]∧0 < w∧Bd k x∧Bd k y∧Bd k w:=by
 obtain ⟨xs,w,rfl,P⟩:=h
 match xs,P.len,P with
 | [x,y],_,P=>exact ⟨x,y,w,rfl,P.pos,P.bx x (by simp),P.bx y (by simp),P.bw⟩
theorem Gu.three' {k:Nat} {us:List Int} (h:Gu 3 k us):∃ x y z w,us=[x,y,z,w]∧0 < w∧Bd k x∧Bd k y∧Bd k z∧Bd k w:=by
 obtain ⟨xs,w,rfl,P⟩:=h
 match xs,P.len,P with
 | [x,y,z],_,P=>exact ⟨x,y,z,w,rfl,P.pos,P.bx x (by simp),P.bx y (by simp),P.bx z (by simp),P.bw⟩
theorem abi {n:Nat} (S:Sto):∀ (L:List PV) (x:Option AV),(∀ v∈L,Gp n 1000 v)→bY [] (gN 0) (aY iZ [] (aC (aA 0) (aC (aA 1) aE))) L [x,some (.pv (.int n))] S=.ok (L.map fun _=>.bl true) S
 | [],x,_=>eO
 | v :: L,x,h=>by
  have ih:=abi (n:=n) S L (some (.pv v)) fun u hu=>h u (List.mem_cons_of_mem _ hu)
  obtain ⟨xs,w,rfl,P⟩:=h v List.mem_cons_self
  have e:=acZ S (by decide) P
  rw [eW]
  generalize (n:Int)=N,(xs++[w]).map PV.int=XL at *
  simp [gN,EC,aM,aJ,aK,fIx,atI,ixN,fEq,fNe,eqN,aP,aO,aQ,aN,aH,aT,frz,aL,e,ih]
theorem acb:∀ L:List PV,iK [.lst (L.map fun _=>.bl true)]=some (.bl true):=fun L=>by
 have e:iS (L.map fun _=>PV.bl true)=some (L.map fun _=>true):=by
  induction L with
  | nil=>rfl
  | cons v L ih =>
   show (match iS (L.map fun _=>PV.bl true) with | some bs=>some (true :: bs) | none=>none)=_
   rw [ih]
   rfl
 simp only [iK,e,Option.map_some]
 simp
theorem agO {n:Nat} (hn:n=2∨n=3) {uss:List (List Int)} (S:Sto) (hl:uss.length=n+1) (hg:∀ us∈uss,Gu n 1000 us) (h0:sgP (uss.map tv)≠0) (hc:cnr uss=uss):nW [.pv (.tup (uss.map tv)),.pv (.int n)] S=.ok (.pv (.bl true)) S:=by
 have gp:=gps hg
 have hl2:(uss.map tv).length=n+1:=by rw [List.length_map]; exact hl
 have ec:=abi S (uss.map tv) none gp
 have ea:=acb (uss.map tv)
 obtain ⟨d,e2,hd⟩:=acR (A:=.tup (uss.map tv)) hn S hl2 gp (.inr rfl)
 have hd0:d≠0:=fun z=>h0 (by rw [← hd,z]; rfl)
 have hdb:(d == 0)=false:=by simpa using hd0
 have e3:=acH (A:=.tup (uss.map tv)) hn S hl hg (.inr rfl)
 rw [hc] at e3
 have q:eqN 8 (.tup (uss.map tv)) (.tup (uss.map tv))=some true:=uI fun v hv=>ahw (m:=6) (gp v hv)
 have a3:aH (.int (n:Int)) (.int 1)=some (.int ((uss.map tv).length:Nat)):=by rw [aH,hl2]; rfl
 generalize uss.map tv=L at *
 generalize L.map (fun _=>PV.bl true)=BL at *
 unfold nW fnM xA
 generalize (n:Int)=N at *
 simp [EC,aM,aJ,aK,fEq,fNe,bZ,aP,aO,aQ,aN,frz,aL,eI,a3,bO,mIt,bW,bS,ec,ea,e2,hdb,e3,q]
theorem ajx {n k m:Nat} {uss:List (List Int)} (h:∀ us∈uss,Gu n k us):eqN (m+2) (px uss) (px uss)=some true :=
 uI fun v hv=>by
  obtain ⟨us,hu,rfl⟩:=List.mem_map.mp hv
  exact ahw (h us hu).gp
abbrev li (xs:List Int):List PV:=xs.map .int
theorem rgn (S:Sto) {n:Nat} (h:n≤9):lZ [.pv (.int (n:Int))] S=.ok (dA 0 n,[]) S:=by
 have e:lZ [.pv (.int (n:Int))] S=@ite _ ((n:Int)≤16777216∧-16777216≤(n:Int)) (Classical.propDecidable _) (.ok (dA 0 (n:Int).toNat,[]) S) .fail:=rfl
 rw [e,if_pos ⟨by omega,by omega⟩,Int.toNat_natCast]
theorem agH {S:Sto} {k:Nat} {ns:List Int} (h:Row S k ns):S.set k (.lst (ns.map .int))=S:=List.ext_getElem? fun j=>by
 by_cases q:k=j
 ·subst q
  rw [List.getElem?_set_self h.lt]
  exact h.symm
 ·rw [List.getElem?_set_ne q]
theorem rN {n k:Nat} {L:List Int} {b:Int} (hb:0 < b) (hl:L.length=n) (hL:∀ x∈L,Bd k x) (bb:Bd k b):∃ (zs:List Int) (z:Int),low (L++[b])=zs++[z]∧Pq n k zs z∧∀ j,j < n→zs.getD j 0*b=L.getD j 0*z:=by
 obtain ⟨zs,z,g,e,hg,hz,g1,g2,hzl⟩:=aex L hb
 have hlow:=aeY L hb
 have hbd:=agX (k:=k) (ns:=L++[b]) fun m hm=>by
  rcases List.mem_append.mp hm with y | y
  ·exact hL m y
  ·have:m=b:=by simpa using y
   rw [this]; exact bb
 rw [e] at hlow hbd
 refine ⟨zs,z,e,⟨hzl.trans hl,hz,hlow,fun x hx=>hbd x (List.mem_append_left _ hx),hbd z (kI zs z)⟩,fun j hj=>?_⟩
 have hj':j < zs.length:=by omega
 have e1:L.getD j 0=g*zs.getD j 0:=by
  rw [g1]
  simp [List.getD,hj']
 rw [e1,g2]
 grind
theorem ake {k:Nat} {x0 y0 w0 x1 y1 w1 x2 y2 w2:Int} (S:Sto) (h:S[k]?=some (.lst [v2 x0 y0 w0,v2 x1 y1 w1,v2 x2 y2 w2])) (p:P2 x0 y0 w0) (q:P2 x1 y1 w1) (r:P2 x2 y2 w2):fM [.ref k] S=.ok (.pv (.int (w0*D2 x0 y0 w0 x1 y1 w1 x2 y2 w2))) S:=by
 have a1:=wW S p q
 have a2:=wW S p r
 have bu:=sb p.bx p.bw q.bx q.bw
 have bv:=sb p.by_ p.bw q.by_ q.bw
 have bu2:=sb p.bx p.bw r.bx r.bw
 have bv2:=sb p.by_ p.bw r.by_ r.bw
 have id:(x1*w0 - x0*w1)*(y2*w0 - y0*w2) - (y1*w0 - y0*w1)*(x2*w0 - x0*w2)=w0*D2 x0 y0 w0 x1 y1 w1 x2 y2 w2:=by
  unfold D2
  grind
 generalize y2*w0 - y0*w2=V1,x2*w0 - x0*w2=V0,y1*w0 - y0*w1=U1,x1*w0 - x0*w1=U0,w0*D2 x0 y0 w0 x1 y1 w1 x2 y2 w2=D at *
 have m1:=mBB bu bv2
 have m2:=mBB bv bu2
 generalize v2 x2 y2 w2=R,v2 x1 y1 w1=Q,v2 x0 y0 w0=P at *
 have et:jK [.pv (.lst [.lst [.int U0,.int U1],.lst [.int V0,.int V1]])] S=.ok (.pv (.int D)) S:=by
  unfold jK fnM oY
  simp [EC,aM,aJ,aK,fIx,atI,ixN,fEq,fNe,eqN,aP,aO,aQ,aN,aH,aT,frz,aL,m1,m2,id]
 unfold fM fnM pJ
 have s1:=pV P [Q,R]
 simp [EC,aM,aJ,aK,fIx,atI,ixN,fEq,fNe,eqN,aP,aO,aQ,aN,aH,aT,frz,aL,bO,mIt,bW,mSl,mO0,mO1,dZ,s1,bS,eW,eO,gN,a1,a2,et,h]
theorem ai2 {k:Nat} {x0 y0 z0 w0 x1 y1 z1 w1 x2 y2 z2 w2 x3 y3 z3 w3:Int} (S:Sto) (h:S[k]?=some (.lst [v3 x0 y0 z0 w0,v3 x1 y1 z1 w1,v3 x2 y2 z2 w2,v3 x3 y3 z3 w3])) (p:P3 x0 y0 z0 w0) (q:P3 x1 y1 z1 w1) (r:P3 x2 y2 z2 w2) (s:P3 x3 y3 z3 w3):fM [.ref k] S=.ok (.pv (.int (w0*w0*D3 x0 y0 z0 w0 x1 y1 z1 w1 x2 y2 z2 w2 x3 y3 z3 w3))) S:=by
 have a1:=pY S p q
 have a2:=pY S p r
 have a3:=pY S p s
 have b1:=sb p.bx p.bw q.bx q.bw
 have b2:=sb p.by_ p.bw q.by_ q.bw
 have b3:=sb p.bz p.bw q.bz q.bw
 have b4:=sb p.bx p.bw r.bx r.bw
 have b5:=sb p.by_ p.bw r.by_ r.bw
 have b6:=sb p.bz p.bw r.bz r.bw
 have b7:=sb p.bx p.bw s.bx s.bw
 have b8:=sb p.by_ p.bw s.by_ s.bw
 have b9:=sb p.bz p.bw s.bz s.bw
 have id:=aiJ x0 y0 z0 w0 x1 y1 z1 w1 x2 y2 z2 w2 x3 y3 z3 w3
 generalize z3*w0 - z0*w3=T2,y3*w0 - y0*w3=T1,x3*w0 - x0*w3=T0,z2*w0 - z0*w2=V2,y2*w0 - y0*w2=V1,x2*w0 - x0*w2=V0,z1*w0 - z0*w1=U2,y1*w0 - y0*w1=U1,x1*w0 - x0*w1=U0,w0*w0*D3 x0 y0 z0 w0 x1 y1 z1 w1 x2 y2 z2 w2 x3 y3 z3 w3=D at *
 have hh:∀ {a:Int},Bd 2001 a→Bd 10000 a:=fun h=>h.mono (by decide)
 have h4:∀ {a:Int},Bd 4003 a→Bd 100000 a:=fun h=>h.mono (by decide)
 have h2:∀ {a:Int},Bd 2001 a→Bd 100000 a:=fun h=>h.mono (by decide)
 have en:=ado (A:=.lst [.int U0,.int U1,.int U2]) (B:=.lst [.int V0,.int V1,.int V2]) S (.inl rfl) (.inl rfl) (hh b1) (hh b2) (hh b3) (hh b4) (hh b5) (hh b6)
 have c1:=cb b2 b6 b3 b5
 have c2:=cb b3 b4 b1 b6
 have c3:=cb b1 b5 b2 b4
 have ed:=ae7 (A:=.lst [.int (U1*V2 - U2*V1),.int (U2*V0 - U0*V2),.int (U0*V1 - U1*V0)]) (B:=.lst [.int T0,.int T1,.int T2]) (us:=[U1*V2 - U2*V1,U2*V0 - U0*V2,U0*V1 - U1*V0]) (vs:=[T0,T1,T2]) S (.inl rfl) (.inl rfl) (by simp; exact ⟨h4 c1,h4 c2,h4 c3⟩) (by simp; exact ⟨h2 b7,h2 b8,h2 b9⟩)
 rw [id] at ed
 generalize v3 x3 y3 z3 w3=T,v3 x2 y2 z2 w2=R,v3 x1 y1 z1 w1=Q,v3 x0 y0 z0 w0=P,U0*V1 - U1*V0=N2,U2*V0 - U0*V2=N1,U1*V2 - U2*V1=N0 at *
 have et:jK [.pv (.lst [.lst [.int U0,.int U1,.int U2],.lst [.int V0,.int V1,.int V2],.lst [.int T0,.int T1,.int T2]])] S=.ok (.pv (.int D)) S:=by
  unfold jK fnM oY
  simp [EC,aM,aJ,aK,fIx,atI,ixN,fEq,fNe,eqN,aP,aO,aQ,aN,aH,aT,frz,aL,en,ed]
 unfold fM fnM pJ
 have s1:=pV P [Q,R,T]
 simp [EC,aM,aJ,aK,fIx,atI,ixN,fEq,fNe,eqN,aP,aO,aQ,aN,aH,aT,frz,aL,bO,mIt,bW,mSl,mO0,mO1,dZ,s1,bS,eW,eO,gN,a1,a2,a3,et,h]
theorem akS {n:Nat} (hn:n=2∨n=3) {uss:List (List Int)} (hl:uss.length=n+1) (hg:∀ us∈uss,Gu n 1000 us):∃ d:Int,sg d=sg (dU uss)∧Bd 8000 d∧(∀ S,fM [.pv (px uss)] S=.ok (.pv (.int d)) S)∧∀ (S:Sto) (k:Nat),S[k]?=some (.lst (uss.map tv))→fM [.ref k] S=.ok (.pv (.int d)) S:=by
 rcases hn with rfl | rfl
 ·match uss,hl,hg with
  | [a,b,c],_,hg =>
   obtain ⟨x0,y0,w0,rfl,q0,a0,b0,c0⟩:=(hg a (by simp)).two'
   obtain ⟨x1,y1,w1,rfl,q1,a1,b1,c1⟩:=(hg b (by simp)).two'
   obtain ⟨x2,y2,w2,rfl,q2,a2,b2,c2⟩:=(hg c (by simp)).two'
   refine ⟨w0*D2 x0 y0 w0 x1 y1 w1 x2 y2 w2,pK q0,(c0.mul (alr a0 b0 c0 a1 b1 c1 a2 b2 c2)).mono (by decide),fun S=>?_,fun S k h=>?_⟩
   ·exact adC S (.inr rfl) ⟨a0,b0,c0,q0⟩ ⟨a1,b1,c1,q1⟩ ⟨a2,b2,c2,q2⟩
   ·exact ake S h ⟨a0,b0,c0,q0⟩ ⟨a1,b1,c1,q1⟩ ⟨a2,b2,c2,q2⟩
 ·match uss,hl,hg with
  | [a,b,c,d],_,hg =>
   obtain ⟨x0,y0,z0,w0,rfl,q0,a0,b0,d0,c0⟩:=(hg a (by simp)).three'
   obtain ⟨x1,y1,z1,w1,rfl,q1,a1,b1,d1,c1⟩:=(hg b (by simp)).three'
   obtain ⟨x2,y2,z2,w2,rfl,q2,a2,b2,d2,c2⟩:=(hg c (by simp)).three'
   obtain ⟨x3,y3,z3,w3,rfl,q3,a3,b3,d3,c3⟩:=(hg d (by simp)).three'
   refine ⟨w0*w0*D3 x0 y0 z0 w0 x1 y1 z1 w1 x2 y2 z2 w2 x3 y3 z3 w3,pK (Int.mul_pos q0 q0),((c0.mul c0).mul (alI a0 b0 d0 c0 a1 b1 d1 c1 a2 b2 d2 c2 a3 b3 d3 c3)).mono (by decide),fun S=>?_,fun S k h=>?_⟩
   ·exact adp S (.inr rfl) ⟨a0,b0,d0,c0,q0⟩ ⟨a1,b1,d1,c1,q1⟩ ⟨a2,b2,d2,c2,q2⟩ ⟨a3,b3,d3,c3,q3⟩
   ·exact ai2 S h ⟨a0,b0,d0,c0,q0⟩ ⟨a1,b1,d1,c1,q1⟩ ⟨a2,b2,d2,c2,q2⟩ ⟨a3,b3,d3,c3,q3⟩
abbrev tx (L:List Nat):Str:=⟨L.toArray⟩
theorem oV (x:Str):tx x.cps.toList=x:=by
 cases x
 simp [tx]
theorem dR (L:List Nat):(tx L).length=L.length:=by
 show L.toArray.size=L.length
 simp
theorem rQ (A B:List Nat):tx A++tx B=tx (A++B):=by
 have e:=PySem.W.KT.app_list (tx A) (tx B)
 rw [← oV (tx A++tx B),e]
theorem ag1 {A B:List Nat} (h:tx A=tx B):A=B:=by
 have e:=congrArg (fun x:Str=>x.cps.toList) h
 simpa using e
theorem agU (A B:List Nat):(tx A == tx B)=decide (A=B):=by
 by_cases h:A=B
 ·subst h
  simp
 ·have:tx A≠tx B:=fun z=>h (ag1 z)
  simp [h,this]
theorem aeM:("/":Str)=tx [47]:=by kernel_rfl
theorem aeT:("-":Str)=tx [45]:=by kernel_rfl
def isD (c:Nat):Bool:=decide (48≤c) && decide (c≤57)
theorem agI:∀ c:Nat,c < 128→alT "0123456789" ⟨#[c]⟩=isD c:=by decide +kernel
theorem ajl {L:List Nat} (h:∀ c∈L,c < 128):(tx L).cps.all (· < 128)=true:=by
 simpa [tx] using h
theorem af9 (bs:List Bool):iK [.lst (bs.map .bl)]=some (.bl (bs.all id)):=by
 have e:iS (bs.map PV.bl)=some bs:=by
  induction bs with
  | nil=>rfl
  | cons v L ih =>
   show (match iS (L.map PV.bl) with | some bs=>some (v :: bs) | none=>none)=_
   rw [ih]
 simp only [iK,e,Option.map_some]
theorem aey (S:Sto) (L:List Nat) (h:∀ c∈L,c < 128):bY [] (gN 0) (aB nT (aA 0) (mC (.str "0123456789"))) (chs (tx L)) [none] S=.ok ((L.map isD).map .bl) S:=by
 have e:chs (tx L)=L.map fun c=>PV.str ⟨#[c]⟩:=by unfold chs; simp
 rw [e,List.map_map]
 refine mP (jJ S) (fun c:Nat=>PV.str ⟨#[c]⟩) (fun c=>.bl (isD c)) L none fun c hc=>?_
 have q:=agI c (h c hc)
 simp [aB,aA,mC,Res.bind,fT,rd,nT,q,okO]
def okD (L:List Nat):Bool:=decide (1≤L.length) && decide (L.length≤60) && L.all isD
def vD (L:List Nat):Int:=((PySem.NumText.digitsVal L:Nat):Int)
theorem aiL {L:List Nat} (h:okD L=true):sB [.str (tx L)]=some (.int (vD L)):=by
 unfold okD at h
 rw [Bool.and_eq_true,Bool.and_eq_true,decide_eq_true_eq,decide_eq_true_eq] at h
 have hl:(tx L).length≤640:=by rw [dR]; omega
 have hd:PySem.NumText.AllDigits (tx L).cps.toList:=by
  intro c hc
  have hc:c∈L:=by simpa [tx] using hc
  have:=List.all_eq_true.mp h.2 c hc
  unfold isD at this
  rw [Bool.and_eq_true,decide_eq_true_eq,decide_eq_true_eq] at this
  exact this
 have hn:(tx L).cps.toList≠[]:=by
  intro z
  have:L=[]:=by simpa [tx] using z
  rw [this] at h
  exact absurd h.1.1 (by decide)
 have e:=PySem.intText_digits hd hn (by omega)
 show (if (tx L).length≤640 then (PySem.intText? (tx L)).map PV.int else none)=_
 rw [if_pos hl,e]
 simp [vD,tx]
theorem acl:∀ (L:List Nat) (a:Nat),(∀ c∈L,isD c=true)→L.foldl (fun acc c=>acc*10+(c - 48)) a < (a+1)*10 ^ L.length
 | [],a,_=>by simp
 | c :: L,a,h=>by
  have hc:=h c List.mem_cons_self
  unfold isD at hc
  rw [Bool.and_eq_true,decide_eq_true_eq,decide_eq_true_eq] at hc
  have ih:=acl L (a*10+(c - 48)) fun d hd=>h d (List.mem_cons_of_mem _ hd)
  rw [List.foldl_cons,List.length_cons,Nat.pow_succ]
  have:a*10+(c - 48)+1≤(a+1)*10:=by omega
  have:=Nat.mul_le_mul_right (10 ^ L.length) this
  have e:(a+1)*10*10 ^ L.length=(a+1)*(10 ^ L.length*10):=by rw [Nat.mul_assoc,Nat.mul_comm 10]
  omega
theorem aie {L:List Nat} (h:okD L=true):0≤vD L∧vD L < 10 ^ 60:=by
 unfold okD at h
 rw [Bool.and_eq_true,Bool.and_eq_true,decide_eq_true_eq,decide_eq_true_eq] at h
 have a:=acl L 0 (List.all_eq_true.mp h.2)
 have b:10 ^ L.length≤10 ^ 60:=Nat.pow_le_pow_right (by decide) h.1.2
 unfold vD PySem.NumText.digitsVal
 refine ⟨by omega,?_⟩
 have:List.foldl (fun acc c=>acc*10+(c - 48)) 0 L < 10 ^ 60:=by omega
 exact_mod_cast this
theorem iC (S:Sto) (b:Bool):fE [.pv (.bl b)] S=if b=true then .ok (.pv .non) S else .exc "NoText" S:=by
 unfold fE fnM fO
 cases b <;> simp [EC,aM,aJ,aK,fIx,atI,ixN,fEq,fNe,eqN,aP,aO,aQ,aN,aH,aT,frz,aL,kR]
theorem acn (S:Sto) {L:List Nat} (ha:∀ c∈L,c < 128) (hl:L.length≤10000):fV [.pv (.str (tx L))] S=if okD L=true then .ok (.pv (.int (vD L))) S else .exc "NoText" S:=by
 have z:(tx L).length≤16777216:=by rw [dR]; omega
 have ec:=aey S L ha
 have eb:=af9 (L.map isD)
 have ll:((tx L).length:Int)=(L.length:Int):=by rw [dR]
 have a8:=ajl ha
 have ei:=@aiL L
 have rf:=iC S
 have hb:oI=(aR (eF (bM fE [] (aC (kS (jZ fLe fLe (mC (.int 1)) (mR lW (aC (aA 0) aE)) (mC (.int 60))) (mR iK (aC (bO ["sign"] [] (sJ (aA 0)) (gN 0) (aB nT (aA 0) (mC (.str "0123456789")))) aE))) aE))) (bC (mR sB (aC (aA 0) aE)))):=rfl
 have al:(L.map isD).all id=L.all isD:=by simp [List.all_map]
 rw [al] at eb
 unfold okD at ei ⊢
 generalize tx L=T,L.length=N,vD L=V,L.all isD=B,(L.map isD).map PV.bl=BL,(aB nT (aA 0) (mC (.str "0123456789")))=ME1 at *
 unfold fV fnM
 rw [hb]
 by_cases h1:(1:Int)≤(N:Int)
 ·have h1':1≤N:=by omega
  by_cases h2:(N:Int)≤60
  ·have h2':N≤60:=by omega
   cases B with
   | true =>
    have ei:=ei (by simp [h1',h2'])
    simp [EC,aM,aJ,aK,fIx,atI,ixN,fEq,fNe,eqN,aP,aO,aQ,aN,aH,aT,frz,aL,jZ,lW,z,ll,h1,h2,h1',h2',bO,bS,sJ,vQ,a8,ec,eb,rf,ei]
   | false=>simp [EC,aM,aJ,aK,fIx,atI,ixN,fEq,fNe,eqN,aP,aO,aQ,aN,aH,aT,frz,aL,jZ,lW,z,ll,h1,h2,h1',h2',bO,bS,sJ,vQ,a8,ec,eb,rf]
  ·have h2':¬ N≤60:=by omega
   simp [EC,aM,aJ,aK,fIx,atI,ixN,fEq,fNe,eqN,aP,aO,aQ,aN,aH,aT,frz,aL,jZ,lW,z,ll,h1,h2,h1',h2',rf]
 ·have h1':¬ 1≤N:=by omega
  simp [EC,aM,aJ,aK,fIx,atI,ixN,fEq,fNe,eqN,aP,aO,aQ,aN,aH,aT,frz,aL,jZ,lW,z,ll,h1,h1',rf]
theorem ah8 (L:List Nat) (i:Nat):Txt.slice (tx L) (some (i:Int)) none=tx (L.drop i):=by
 have hl:=dR L
 by_cases h:i≤L.length
 ·rw [PyProof.Rows.slice_from_eq (b:=((tx L).length:Int)) (by omega) (by omega) rfl]
  have e1:((i:Int)).toNat=i:=by omega
  have e2:(((tx L).length:Int) - (i:Int)).toNat=L.length - i:=by omega
  rw [e1,e2]
  have:(tx L).cps.toList=L:=by simp [tx]
  rw [this,List.take_of_length_le (by rw [List.length_drop]; exact Nat.le_refl _)]
 ·rw [PyProof.Rows.slice_beyond (by omega),List.drop_of_length_le (by omega)]
  rfl
theorem aiN (L:List Nat) (c:Nat):Txt.startswith (tx L) (tx [c])=decide (L.head?=some c):=by
 have e:=StrLaws.subAt_one (tx L) c 0
 have h0:(tx L).cps.toList[0]?=L.head?:=by
  have:(tx L).cps.toList=L:=by simp [tx]
  rw [this]
  cases L <;> rfl
 rw [h0] at e
 unfold Txt.startswith
 by_cases h:L.head?=some c
 ·obtain ⟨a,b⟩:=e.mpr h
  have a:0+(tx [c]).length≤(tx L).length:=a
  have b:Builtin.Str.subAt (tx L) (tx [c]) 0=true:=b
  rw [Nat.zero_add] at a
  simp [h,a,b]
 ·have n:¬ (0+(tx [c]).length≤(tx L).length∧Builtin.Str.subAt (tx L) (tx [c]) 0=true):=fun z=>h (e.mp z)
  simp only [h,decide_false]
  by_cases a:0+(tx [c]).length≤(tx L).length
  ·have b:Builtin.Str.subAt (tx L) (tx [c]) 0=false:=by
    cases q:Builtin.Str.subAt (tx L) (tx [c]) 0 with
    | false=>rfl
    | true=>exact absurd ⟨a,q⟩ n
   simp [b]
  ·rw [Nat.zero_add] at a
   simp [a]
theorem afg (L:List Nat) (c i:Nat):StrLaws.At (tx L) (tx [c]) (tx L).length i↔L[i]?=some c:=by
 have e:=StrLaws.subAt_one (tx L) c i
 have:(tx L).cps.toList=L:=by simp [tx]
 rw [this] at e
 exact e
theorem ahL {A B:List Nat} {c:Nat} (h:c ∉ A):Txt.find (tx (A++c :: B)) (tx [c])=(A.length:Int):=by
 have here:(A++c :: B)[A.length]?=some c:=by simp
 rcases PyProof.Rows.find_whole (tx (A++c :: B)) (tx [c]) with ⟨_,n⟩ | ⟨i,e,a,n⟩
 ·exact absurd ((afg _ c A.length).mpr here) (n A.length)
 ·rw [e]
  have ha:=(afg _ c i).mp a
  have h1:¬ i < A.length:=fun z=>by
   rw [List.getElem?_append_left z] at ha
   exact h (List.mem_of_getElem? ha)
  have h2:¬ A.length < i:=fun z=>n A.length z ((afg _ c A.length).mpr here)
  have:i=A.length:=by omega
  rw [this]
def dW (c:Nat):List (List Nat)→List Nat
 | []=>[]
 | [p]=>p
 | p :: q :: r=>p++c :: dW c (q :: r)
theorem aez (c:Nat):∀ P:List (List Nat),Str.join (tx [c]) (P.map tx)=tx (dW c P)
 | []=>rfl
 | [p]=>rfl
 | p :: q :: r=>by
  show tx p++tx [c]++Str.join (tx [c]) ((q :: r).map tx)=tx (p++c :: dW c (q :: r))
  rw [aez c (q :: r),rQ,rQ,List.append_assoc]
  rfl
theorem aeO (L:List Nat) (c:Nat):∃ P:List (List Nat),Txt.split (tx L) (tx [c])=P.map tx∧(∀ p∈P,c ∉ p)∧dW c P=L∧P≠[]:=by
 refine ⟨(Txt.split (tx L) (tx [c])).map fun x=>x.cps.toList,?_,?_,?_,?_⟩
 ·rw [List.map_map]
  have:(tx ∘ fun x:Str=>x.cps.toList)=id:=by
   funext x
   exact oV x
  rw [this,List.map_id]
 ·intro p hp
  obtain ⟨x,hx,rfl⟩:=List.mem_map.mp hp
  exact StrLaws.split_free (tx L) c x hx
 ·have e:=StrLaws.join_split (tx L) (tx [c])
  apply ag1
  rw [← aez,List.map_map]
  have:(tx ∘ fun x:Str=>x.cps.toList)=id:=by
   funext x
   exact oV x
  rw [this,List.map_id]
  exact e
 ·intro z
  have:=PyProof.Rows.split_pos (tx L) (tx [c])
  rw [List.map_eq_nil_iff.mp z] at this
  exact absurd this (by decide)
theorem yC {c:Nat}:∀ {A A' B B':List Nat},c ∉ A→c ∉ A'→A++c :: B=A'++c :: B'→A=A'∧B=B'
 | [],[],B,B',_,_,e=>⟨rfl,(List.cons.inj e).2⟩
 | [],a :: A',B,B',_,h,e=>absurd (by rw [(List.cons.inj e).1]; exact List.mem_cons_self) h
 | a :: A,[],B,B',h,_,e=>absurd (by rw [← (List.cons.inj e).1]; exact List.mem_cons_self) h
 | a :: A,b :: A',B,B',h,h',e=>by
  obtain ⟨e1,e2⟩:=List.cons.inj e
  obtain ⟨r1,r2⟩:=yC (fun z=>h (List.mem_cons_of_mem _ z)) (fun z=>h' (List.mem_cons_of_mem _ z)) e2
  exact ⟨by rw [e1,r1],r2⟩
theorem tZ {c:Nat}:∀ {P Q:List (List Nat)},P≠[]→Q≠[]→(∀ p∈P,c ∉ p)→(∀ p∈Q,c ∉ p)→dW c P=dW c Q→P=Q
 | [],_,h,_,_,_,_=>absurd rfl h
 | _,[],_,h,_,_,_=>absurd rfl h
 | [p],[q],_,_,_,_,e=>by
  have e:p=q:=e
  rw [e]
 | [p],q :: q' :: r,_,_,hp,_,e=>by
  have e:p=q++c :: dW c (q' :: r):=e
  exact absurd (by rw [e]; simp) (hp p List.mem_cons_self)
 | p :: p' :: r,[q],_,_,_,hq,e=>by
  have e:p++c :: dW c (p' :: r)=q:=e
  exact absurd (by rw [← e]; simp) (hq q List.mem_cons_self)
 | p :: p' :: r,q :: q' :: t,_,_,hp,hq,e=>by
  have e:p++c :: dW c (p' :: r)=q++c :: dW c (q' :: t):=e
  obtain ⟨e1,e2⟩:=yC (hp p List.mem_cons_self) (hq q List.mem_cons_self) e
  have:=tZ (by simp) (by simp) (fun x hx=>hp x (List.mem_cons_of_mem _ hx)) (fun x hx=>hq x (List.mem_cons_of_mem _ hx)) e2
  rw [e1,this]
def bd (p:List Nat):List Nat:=if p.head?=some 45 then p.tail else p
def sN (p:List Nat):Int:=if p.head?=some 45 then -(vD (bd p)) else vD (bd p)
def rdN:List (List Nat)→Option (Int × Int)
 | [p]=>if okD (bd p)=true then some (sN p,1) else none
 | [p,q]=>if okD (bd p)=true∧okD q=true∧vD q≠0 then some (sN p,vD q) else none
 | _=>none
theorem b60 {v:Int} (h:0≤v∧v < 10 ^ 60):Bd 200 v∧Bd 200 (-v):=by
 have a:Bd 200 v:=Bd.of (n:=10 ^ 60) (by omega) (by decide +kernel)
 exact ⟨a,a.neg⟩
theorem vW {p:List Nat} (h:okD (bd p)=true):Bd 200 (sN p):=by
 have:=b60 (aie h)
 unfold sN
 split
 ·exact this.2
 ·exact this.1
theorem ahc:Bd 200 (1:Int):=(Bd.of (k:=2) (n:=1) (by decide) (by decide)).mono (by decide)
theorem ajJ {p:List Nat} {c:Nat} (h:c∈bd p):c∈p:=by
 unfold bd at h
 split at h
 ·exact List.mem_of_mem_tail h
 ·exact h
theorem ajC (p:List Nat):(bd p).length≤p.length:=by
 unfold bd
 split
 ·rw [List.length_tail]; omega
 ·exact Nat.le_refl _
def alC (r:Option (Int × Int)) (S:Sto):Res AV:=match r with
 | some (t,b)=>.ok (.pv (.tup ((fr t b).map .int))) S
 | none=>.exc "NoText" S
def Bod (b:Bool) (T0 T1:Str):Prop:=(b=true∧alV (.str T0) (some 1) none=some (.str T1))∨(b=false∧T1=T0)
theorem aiB {S:Sto} {TL T0 T1:Str} {b:Bool} {V:Int} {F:AV} (es:fH TL [.str "/"]=some (.lst [.str T0])) (st:jW T0 [.str "-"]=some (.bl b)) (hb:Bod b T0 T1) (r1:fV [.pv (.str T1)] S=.ok (.pv (.int V)) S) (fq:iL [.pv (.int (if b=true then -V else V)),.pv (.int 1)] S=.ok F S) (hF:∀ k,F≠.ref k):eN [.pv (.str TL)] S=.ok F S:=by
 have rf:=iC S
 unfold eN fnM jA
 cases F with
 | ref k=>exact absurd rfl (hF k)
 | pv F =>
  rcases hb with ⟨rfl,hb⟩ | ⟨rfl,rfl⟩
  ·simp only [if_true] at fq
   simp [EC,aM,aJ,aK,fIx,atI,ixN,fEq,fNe,eqN,aP,aO,aQ,aN,aH,aT,frz,aL,dO,dC,es,rf,st,mE,mO0,mO1,dZ,hb,r1,fq]
  ·simp only [Bool.false_eq_true,if_false] at fq
   simp [EC,aM,aJ,aK,fIx,atI,ixN,fEq,fNe,eqN,aP,aO,aQ,aN,aH,aT,frz,aL,dO,dC,es,rf,st,r1,fq]
theorem adW {S:Sto} {TL T0 T1:Str} {b:Bool} (es:fH TL [.str "/"]=some (.lst [.str T0])) (st:jW T0 [.str "-"]=some (.bl b)) (hb:Bod b T0 T1) (r1:fV [.pv (.str T1)] S=.exc "NoText" S):eN [.pv (.str TL)] S=.exc "NoText" S:=by
 have rf:=iC S
 unfold eN fnM jA
 rcases hb with ⟨rfl,hb⟩ | ⟨rfl,rfl⟩
 ·simp [EC,aM,aJ,aK,fIx,atI,ixN,fEq,fNe,eqN,aP,aO,aQ,aN,aH,aT,frz,aL,dO,dC,es,rf,st,mE,mO0,mO1,dZ,hb,r1]
 ·simp [EC,aM,aJ,aK,fIx,atI,ixN,fEq,fNe,eqN,aP,aO,aQ,aN,aH,aT,frz,aL,dO,dC,es,rf,st,r1]
theorem ah7 {S:Sto} {TL T0 T1 T2:Str} {b:Bool} {V V2:Int} {F:AV} (es:fH TL [.str "/"]=some (.lst [.str T0,.str T2])) (st:jW T0 [.str "-"]=some (.bl b)) (hb:Bod b T0 T1) (r1:fV [.pv (.str T1)] S=.ok (.pv (.int V)) S) (r2:fV [.pv (.str T2)] S=.ok (.pv (.int V2)) S) (hz:V2≠0) (fq:iL [.pv (.int (if b=true then -V else V)),.pv (.int V2)] S=.ok F S) (hF:∀ k,F≠.ref k):eN [.pv (.str TL)] S=.ok F S:=by
 have rf:=iC S
 have hz':(V2 == 0)=false:=by simpa using hz
 unfold eN fnM jA
 cases F with
 | ref k=>exact absurd rfl (hF k)
 | pv F =>
  rcases hb with ⟨rfl,hb⟩ | ⟨rfl,rfl⟩
  ·simp only [if_true] at fq
   simp [EC,aM,aJ,aK,fIx,atI,ixN,fEq,fNe,eqN,aP,aO,aQ,aN,aH,aT,frz,aL,dO,dC,es,rf,st,mE,mO0,mO1,dZ,hb,r1,r2,hz',fq]
  ·simp only [Bool.false_eq_true,if_false] at fq
   simp [EC,aM,aJ,aK,fIx,atI,ixN,fEq,fNe,eqN,aP,aO,aQ,aN,aH,aT,frz,aL,dO,dC,es,rf,st,r1,r2,hz',fq]
theorem acV {S:Sto} {TL T0 T1 T2:Str} {b:Bool} (es:fH TL [.str "/"]=some (.lst [.str T0,.str T2])) (st:jW T0 [.str "-"]=some (.bl b)) (hb:Bod b T0 T1) (r1:fV [.pv (.str T1)] S=.exc "NoText" S):eN [.pv (.str TL)] S=.exc "NoText" S:=by
 have rf:=iC S
 unfold eN fnM jA
 rcases hb with ⟨rfl,hb⟩ | ⟨rfl,rfl⟩
 ·simp [EC,aM,aJ,aK,fIx,atI,ixN,fEq,fNe,eqN,aP,aO,aQ,aN,aH,aT,frz,aL,dO,dC,es,rf,st,mE,mO0,mO1,dZ,hb,r1]
 ·simp [EC,aM,aJ,aK,fIx,atI,ixN,fEq,fNe,eqN,aP,aO,aQ,aN,aH,aT,frz,aL,dO,dC,es,rf,st,r1]
theorem acM {S:Sto} {TL T0 T1 T2:Str} {b:Bool} {V:Int} (es:fH TL [.str "/"]=some (.lst [.str T0,.str T2])) (st:jW T0 [.str "-"]=some (.bl b)) (hb:Bod b T0 T1) (r1:fV [.pv (.str T1)] S=.ok (.pv (.int V)) S) (r2:fV [.pv (.str T2)] S=.exc "NoText" S):eN [.pv (.str TL)] S=.exc "NoText" S:=by
 have rf:=iC S
 unfold eN fnM jA
 rcases hb with ⟨rfl,hb⟩ | ⟨rfl,rfl⟩
 ·simp [EC,aM,aJ,aK,fIx,atI,ixN,fEq,fNe,eqN,aP,aO,aQ,aN,aH,aT,frz,aL,dO,dC,es,rf,st,mE,mO0,mO1,dZ,hb,r1,r2]
 ·simp [EC,aM,aJ,aK,fIx,atI,ixN,fEq,fNe,eqN,aP,aO,aQ,aN,aH,aT,frz,aL,dO,dC,es,rf,st,r1,r2]
theorem aca {S:Sto} {TL T0 T1 T2:Str} {b:Bool} {V:Int} (es:fH TL [.str "/"]=some (.lst [.str T0,.str T2])) (st:jW T0 [.str "-"]=some (.bl b)) (hb:Bod b T0 T1) (r1:fV [.pv (.str T1)] S=.ok (.pv (.int V)) S) (r2:fV [.pv (.str T2)] S=.ok (.pv (.int 0)) S):eN [.pv (.str TL)] S=.exc "NoText" S:=by
 have rf:=iC S
 unfold eN fnM jA
 rcases hb with ⟨rfl,hb⟩ | ⟨rfl,rfl⟩
 ·simp [EC,aM,aJ,aK,fIx,atI,ixN,fEq,fNe,eqN,aP,aO,aQ,aN,aH,aT,frz,aL,dO,dC,es,rf,st,mE,mO0,mO1,dZ,hb,r1,r2]
 ·simp [EC,aM,aJ,aK,fIx,atI,ixN,fEq,fNe,eqN,aP,aO,aQ,aN,aH,aT,frz,aL,dO,dC,es,rf,st,r1,r2]
theorem agy {S:Sto} {TL:Str} {R:List PV} (es:fH TL [.str "/"]=some (.lst R)) (h:2 < R.length):eN [.pv (.str TL)] S=.exc "NoText" S:=by
 have rf:=iC S
 have h3:¬ ((R.length:Int)≤2):=by omega
 unfold eN fnM jA
 simp [EC,aM,aJ,aK,fIx,atI,ixN,fEq,fNe,eqN,aP,aO,aQ,aN,aH,aT,frz,aL,dO,dC,es,rf,h3]
theorem ahq {p:List Nat} (h:p.length≤10000):jW (tx p) [.str "-"]=some (.bl (decide (p.head?=some 45)))∧Bod (decide (p.head?=some 45)) (tx p) (tx (bd p)):=by
 refine ⟨?_,?_⟩
 ·rw [aeT]
  show some (PV.bl (Txt.startswith (tx p) (tx [45])))=_
  rw [aiN]
 ·unfold bd
  by_cases h45:p.head?=some 45
  ·left
   rw [if_pos h45]
   refine ⟨by simp [h45],?_⟩
   show (if (tx p).length≤16777216 then some (PV.str (Txt.slice (tx p) (some 1) none)) else none)=_
   rw [if_pos (by rw [dR]; omega)]
   have:=ah8 p 1
   rw [show ((1:Nat):Int)=1 from rfl,List.drop_one] at this
   rw [this]
  ·right
   rw [if_neg h45]
   exact ⟨by simp [h45],rfl⟩
theorem aks (p:List Nat):(if decide (p.head?=some 45)=true then -(vD (bd p)) else vD (bd p))=sN p:=by
 unfold sN
 by_cases h45:p.head?=some 45 <;> simp [h45]
theorem akJ (p:List Nat):rdN [p]=if okD (bd p)=true then some (sN p,1) else none:=rfl
theorem aly (p q:List Nat):rdN [p,q]=if okD (bd p)=true∧okD q=true∧vD q≠0 then some (sN p,vD q) else none:=rfl
theorem yS (S:Sto) {L:List Nat} {P:List (List Nat)} (hs:Txt.split (tx L) (tx [47])=P.map tx) (hp:P≠[]) (ha:∀ p∈P,∀ c∈p,c < 128) (hl:∀ p∈P,p.length≤10000) (hL:L.length≤10000):eN [.pv (.str (tx L))] S=alC (rdN P) S:=by
 have es:fH (tx L) [.str "/"]=some (.lst (P.map fun p=>.str (tx p))):=by
  rw [aeM]
  show (if (tx [47]).length≠0∧(tx L).length+2≤16777216 then some (PV.lst ((Txt.split (tx L) (tx [47])).map .str)) else none)=_
  rw [if_pos ⟨by rw [dR]; decide,by rw [dR]; omega⟩,hs,List.map_map]
  rfl
 have top:∀ p∈P,fV [.pv (.str (tx (bd p)))] S=if okD (bd p)=true then .ok (.pv (.int (vD (bd p)))) S else .exc "NoText" S:=fun p h=>acn S (fun c hc=>ha p h c (ajJ hc)) (Nat.le_trans (ajC p) (hl p h))
 have wh:∀ p∈P,fV [.pv (.str (tx p))] S=if okD p=true then .ok (.pv (.int (vD p))) S else .exc "NoText" S:=fun p h=>acn S (ha p h) (hl p h)
 have fq:∀ t b:Int,Bd 200 t→Bd 200 b→b≠0→iL [.pv (.int t),.pv (.int b)] S=.ok (.pv (.tup ((fr t b).map .int))) S:=fun t b ht hb h=>aaN t b S (ht.mono (by decide)) (hb.mono (by decide)) h
 match P,hp,hl,es,top,wh with
 | [p],_,hl,es,top,wh =>
  have tp:=top p (by simp)
  obtain ⟨st,bo⟩:=ahq (hl p (by simp))
  simp only [List.map_cons,List.map_nil] at es
  rw [akJ]
  by_cases hk:okD (bd p)=true
  ·rw [if_pos hk] at tp ⊢
   exact aiB es st bo tp (by rw [aks]; exact fq (sN p) 1 (vW hk) ahc (by decide)) (fun _ z=>by cases z)
  ·rw [if_neg hk] at tp ⊢
   exact adW es st bo tp
 | [p,q],_,hl,es,top,wh =>
  have tp:=top p (by simp)
  have tq:=wh q (by simp)
  obtain ⟨st,bo⟩:=ahq (hl p (by simp))
  simp only [List.map_cons,List.map_nil] at es
  rw [aly]
  by_cases hk:okD (bd p)=true
  ·rw [if_pos hk] at tp
   by_cases hq:okD q=true
   ·rw [if_pos hq] at tq
    by_cases hz:vD q=0
    ·rw [if_neg (fun z=>z.2.2 hz)]
     rw [hz] at tq
     exact aca es st bo tp tq
    ·rw [if_pos ⟨hk,hq,hz⟩]
     exact ah7 es st bo tp tq hz (by rw [aks]; exact fq (sN p) (vD q) (vW hk) (b60 (aie hq)).1 hz) (fun _ z=>by cases z)
   ·rw [if_neg hq] at tq
    rw [if_neg (fun z=>hq z.2.1)]
    exact acM es st bo tp tq
  ·rw [if_neg hk] at tp
   rw [if_neg (fun z=>hk z.1)]
   exact acV es st bo tp
 | p :: q :: r :: t,_,hl,es,top,wh =>
  exact agy es (by simp)
def al4 (r:Option (Int × Int)):AV:=match r with
 | some (t,b)=>.pv (.tup ((fr t b).map .int))
 | none=>.pv .non
theorem ach {c:Nat}:∀ {P:List (List Nat)} {p:List Nat},p∈P→∀ d∈p,d∈dW c P
 | [q],p,h,d,hd=>by
  have:p=q:=by simpa using h
  rw [← this]; exact hd
 | q :: q' :: r,p,h,d,hd=>by
  show d∈q++c :: dW c (q' :: r)
  rcases List.mem_cons.mp h with rfl | h
  ·exact List.mem_append_left _ hd
  ·exact List.mem_append_right _ (List.mem_cons_of_mem _ (ach h d hd))
theorem abP {c:Nat}:∀ {P:List (List Nat)} {p:List Nat},p∈P→p.length≤(dW c P).length
 | [q],p,h=>by
  have:p=q:=by simpa using h
  rw [this]; exact Nat.le_refl _
 | q :: q' :: r,p,h=>by
  show _≤(q++c :: dW c (q' :: r)).length
  rw [List.length_append,List.length_cons]
  rcases List.mem_cons.mp h with rfl | h
  ·omega
  ·have:=abP (c:=c) h
   omega
def dg (m:Nat):List Nat:=(Nat.toDigits 10 m).map Char.toNat
theorem ag3 (m:Nat):(Str.ofString (toString ((m:Nat):Int)):Str)=tx (dg m):=by
 rw [← oV (Str.ofString (toString ((m:Nat):Int))),PySem.W.KIN.signs_num]
 rfl
theorem kP {m c:Nat} (h:c∈dg m):isD c=true:=by
 obtain ⟨ch,hch,rfl⟩:=List.mem_map.mp h
 have r:=PyProof.Rows.digit_range (Nat.isDigit_of_mem_toDigits (by decide) (by decide) hch)
 unfold isD
 simp [r.1,r.2]
theorem ahv (m:Nat):vD (dg m)=(m:Int):=by
 unfold vD dg
 rw [PySem.W.KIN.val_back]
theorem aki (m:Nat):1≤(dg m).length:=by
 unfold dg
 rw [List.length_map]
 exact PySem.toDigits_len_ge 10 m
theorem lP:∀ (k m:Nat),m < 10 ^ (k+1)→(dg m).length≤k+1
 | 0,m,h=>by
  unfold dg
  rw [Nat.toDigits_of_lt_base (by omega)]
  simp
 | k+1,m,h=>by
  by_cases h10:m < 10
  ·unfold dg
   rw [Nat.toDigits_of_lt_base h10]
   simp
  ·have hm:m % 10 < 10:=Nat.mod_lt m (by decide)
   have t:Nat.toDigits 10 (m / 10)++Nat.toDigits 10 (m % 10)=Nat.toDigits 10 (10*(m / 10)+m % 10):=Nat.toDigits_append_toDigits (by decide) (by omega) hm
   rw [Nat.div_add_mod] at t
   have ih:=lP k (m / 10) (by rw [Nat.pow_succ] at h; omega)
   unfold dg at ih ⊢
   rw [← t,Nat.toDigits_of_lt_base hm]
   rw [List.length_map] at ih ⊢
   rw [List.length_append]
   simp
   omega
theorem vK {c:Nat} (h:isD c=true):c < 128∧c≠45∧c≠47:=by
 unfold isD at h
 rw [Bool.and_eq_true,decide_eq_true_eq,decide_eq_true_eq] at h
 omega
theorem alj {v:Int} (h0:0≤v) (h1:v < 10 ^ 61):kE [.int v]=some (.str (tx (dg v.toNat)))∧(dg v.toNat).length≤61:=by
 obtain ⟨m,rfl⟩:=Int.eq_ofNat_of_zero_le h0
 have hm:m < 10 ^ 61:=by exact_mod_cast h1
 have hl:((m:Int)).natAbs.log2 < 1920:=by
  have e:((m:Int)).natAbs=m:=by omega
  rw [e]
  by_cases hz:m=0
  ·subst hz; decide
  ·refine (Nat.log2_lt hz).mpr (Nat.lt_of_lt_of_le hm ?_)
   decide +kernel
 refine ⟨?_,?_⟩
 ·show (if ((m:Int)).natAbs.log2 < 1920 then some (PV.str (Str.ofString (toString (m:Int)))) else none)=_
  rw [if_pos hl,ag3]
  rfl
 ·exact lP 60 m hm
theorem al3 (ns:List Int) {m:Int} (hm:0 < m) (b:Bd 8000 m):∃ (v:Int) (ns':List Int),cG [.ref 0,.pv (.int m)] [.lst (li ns)]=.ok (.pv (.int v)) [.lst (li ns')]∧0≤v∧v < m:=by
 obtain ⟨v,n1,e,a,c,_⟩:=lO (S:=[.lst (li ns)]) (k:=0) (ns:=ns) (m:=m) rfl hm b
 exact ⟨v,n1,e,a,c⟩
theorem q20:dE (.int 10) (.int 20)=some (.int 100000000000000000000):=rC (i:=10) (j:=20) ⟨by decide,by decide,by decide⟩
theorem p60:dE (.int 10) (.int 60)=some (.int 1000000000000000000000000000000000000000000000000000000000000):=rC (i:=10) (j:=60) ⟨by decide,by decide,by decide⟩
theorem p61:dE (.int 10) (.int 61)=some (.int 10000000000000000000000000000000000000000000000000000000000000):=rC (i:=10) (j:=61) ⟨by decide,by decide,by decide⟩
def G60:Int:=1000000000000000000000000000000000000000000000000000000000000
theorem ahf:G60=10 ^ 60:=by decide +kernel
theorem ajv {t b:Int} {k:Nat} (hb:0 < b) (ht:Bd k t) (hbb:Bd k b):∃ p q:Int,fr t b=[p,q]∧0 < q∧Bd k p∧Bd k q∧fr p q=[p,q]:=by
 obtain ⟨zs,z,e,Z,_⟩:=rN (n:=1) (L:=[t]) (b:=b) hb rfl (fun x hx=>by
  have:x=t:=by simpa using hx
  rw [this]; exact ht) hbb
 have el:=Z.len
 match zs,el,e,Z with
 | [p],_,e,Z =>
  have e:low [t,b]=[p,z]:=e
  have f1:fr t b=low [t,b]:=if_neg (by omega)
  have zp:=Z.pos
  have f2:fr p z=low [p,z]:=if_neg (by omega)
  refine ⟨p,z,by rw [f1,e],Z.pos,Z.bx p (by simp),Z.bw,?_⟩
  rw [f2]
  exact Z.low
def tN (p:Int):List Nat:=if p < 0 then 45 :: dg p.natAbs else dg p.natAbs
theorem ahJ (m:Nat):(Str.ofString (toString (Int.negSucc m)):Str)=tx (45 :: dg (m+1)):=by
 rw [← oV (Str.ofString (toString (Int.negSucc m))),PyProof.Rows.signs_ofString]
 have e:toString (Int.negSucc m)="-"++Nat.repr (m+1):=rfl
 rw [e,String.toList_append,List.map_append]
 have e2:(Nat.repr (m+1)).toList=Nat.toDigits 10 (m+1):=Nat.toList_repr
 rw [e2]
 rfl
theorem ajz {p:Int} (h:p.natAbs < 10 ^ 61):p.natAbs.log2 < 1920:=by
 by_cases hz:p.natAbs=0
 ·rw [hz]; decide
 ·refine (Nat.log2_lt hz).mpr (Nat.lt_of_lt_of_le h ?_)
  decide +kernel
theorem ahe {p:Int} (h:p.natAbs < 10 ^ 61):kE [.int p]=some (.str (tx (tN p))):=by
 show (if p.natAbs.log2 < 1920 then some (PV.str (Str.ofString (toString p))) else none)=_
 rw [if_pos (ajz h)]
 unfold tN
 cases p with
 | ofNat m =>
  rw [if_neg (by exact Int.not_lt.mpr (Int.natCast_nonneg m))]
  exact congrArg (fun x=>some (PV.str x)) (ag3 m)
 | negSucc m =>
  rw [if_pos (Int.negSucc_lt_zero m)]
  exact congrArg (fun x=>some (PV.str x)) (ahJ m)
theorem aec (p:Int):aM [.int p]=some (.int ((p.natAbs:Nat):Int)):=by
 show some (PV.int (if p < 0 then -p else p))=_
 congr 2
 split <;> omega
theorem g60 (n:Nat):(10 ^ 60≤n)↔G60≤(n:Int):=by
 rw [ahf]
 constructor
 ·intro h; exact_mod_cast h
 ·intro h; exact_mod_cast h
theorem alM:dE (.int 10) (.int 60)=some (.int G60):=p60
theorem ab5 (S:Sto) (p:Int):oE [.pv (.int p)] S=if G60≤((p.natAbs:Nat):Int) then .exc "TooGreat" S else .ok (.pv (.str (tx (dg p.natAbs)))) S:=by
 have ab:=aec p
 have es:¬ G60≤((p.natAbs:Nat):Int)→kE [.int ((p.natAbs:Nat):Int)]=some (.str (tx (dg p.natAbs))):=fun h=>by
  have h2:p.natAbs < 10 ^ 60:=Nat.lt_of_not_le fun z=>h ((g60 p.natAbs).mp z)
  have:=alj (v:=((p.natAbs:Nat):Int)) (by omega) (by
   have:p.natAbs < 10 ^ 61:=Nat.lt_trans h2 (by decide +kernel)
   exact_mod_cast this)
  exact this.1
 have q:=alM
 unfold oE fnM
 unfold oD
 generalize ((p.natAbs:Nat):Int)=A,tx (dg p.natAbs)=T,G60=G at *
 have eAbs:∀ xs,aM xs=aM xs:=fun _=>rfl
 by_cases h:G≤A
 ·simp [EC,aJ,aK,fIx,atI,ixN,fEq,fNe,eqN,aP,aO,aQ,aN,aH,aT,frz,aL,ab,q,h,kR]
 ·have es:=es h
  simp [EC,aJ,aK,fIx,atI,ixN,fEq,fNe,eqN,aP,aO,aQ,aN,aH,aT,frz,aL,ab,q,h,es]
def txt (p q:Int):List Nat:=if q=1 then tN p else tN p++47 :: dg q.natAbs
theorem aef {p:Int} (h:p.natAbs < 10 ^ 60):(tN p).length≤61:=by
 have:=lP 59 p.natAbs h
 unfold tN
 split
 ·rw [List.length_cons]; omega
 ·omega
theorem iX {p:Int} (h:¬ G60≤((p.natAbs:Nat):Int)):p.natAbs < 10 ^ 60:=Nat.lt_of_not_le fun z=>h ((g60 p.natAbs).mp z)
theorem jN {A B:List Nat} (h:A.length+B.length≤10000):cY (.str (tx A)) (.str (tx B))=some (.str (tx (A++B))):=by
 show (if (tx A).length+(tx B).length≤16777216 then some (PV.str (tx A++tx B)) else none)=_
 rw [if_pos (by rw [dR,dR]; omega),rQ]
theorem uZ {p q:Int} (hp:p.natAbs < 10 ^ 60) (hq:q.natAbs < 10 ^ 60):cY (.str "-") (.str (tx (dg p.natAbs)))=some (.str (tx (45 :: dg p.natAbs)))∧cY (.str (tx (tN p))) (.str "/")=some (.str (tx (tN p++[47])))∧cY (.str (tx (tN p++[47]))) (.str (tx (dg q.natAbs)))=some (.str (tx (tN p++47 :: dg q.natAbs))):=by
 have l1:=aef hp
 have l2:=lP 59 p.natAbs hp
 have l3:=lP 59 q.natAbs hq
 refine ⟨?_,?_,?_⟩
 ·rw [aeT,jN (by simp; omega)]
  rfl
 ·rw [aeM,jN (by simp; omega)]
 ·rw [jN (by simp; omega),List.append_assoc]
  rfl
theorem afW (S:Sto) {p q:Int}:hV [.pv (.tup [.int p,.int q])] S=if G60≤((p.natAbs:Nat):Int)∨(q≠1∧G60≤((q.natAbs:Nat):Int)) then .exc "TooGreat" S else .ok (.pv (.str (tx (txt p q)))) S:=by
 have e1:=ab5 S p
 have e2:=ab5 S q
 by_cases hp:G60≤((p.natAbs:Nat):Int)
 ·rw [if_pos hp] at e1
  rw [if_pos (.inl hp)]
  unfold hV fnM lB
  simp [EC,aM,aJ,aK,fIx,atI,ixN,fEq,fNe,eqN,aP,aO,aQ,aN,aH,aT,frz,aL,e1]
 ·rw [if_neg hp] at e1
  by_cases h1:q=1
  ·subst h1
   rw [if_neg (fun z=>z.elim hp fun z=>z.1 rfl)]
   obtain ⟨a1,_,_⟩:=uZ (p:=p) (q:=1) (iX hp) (by decide +kernel)
   unfold txt tN hV fnM lB
   rw [if_pos rfl]
   by_cases hn:p < 0
   ·rw [if_pos hn]
    generalize tx (45 :: dg p.natAbs)=T2,tx (dg p.natAbs)=T at *
    simp [EC,aM,aJ,aK,fIx,atI,ixN,fEq,fNe,eqN,aP,aO,aQ,aN,aH,aT,frz,aL,e1,hn,a1]
   ·rw [if_neg hn]
    generalize tx (dg p.natAbs)=T at *
    simp [EC,aM,aJ,aK,fIx,atI,ixN,fEq,fNe,eqN,aP,aO,aQ,aN,aH,aT,frz,aL,e1,hn]
  ·have h1':(q == 1)=false:=by simpa using h1
   by_cases hq:G60≤((q.natAbs:Nat):Int)
   ·rw [if_pos hq] at e2
    rw [if_pos (.inr ⟨h1,hq⟩)]
    obtain ⟨a1,a2,_⟩:=uZ (p:=p) (q:=1) (iX hp) (by decide +kernel)
    unfold hV fnM lB
    unfold tN at a2
    by_cases hn:p < 0
    ·rw [if_pos hn] at a2
     generalize tx (45 :: dg p.natAbs++[47])=T3,tx (45 :: dg p.natAbs)=T2,tx (dg p.natAbs)=T at *
     simp [EC,aM,aJ,aK,fIx,atI,ixN,fEq,fNe,eqN,aP,aO,aQ,aN,aH,aT,frz,aL,e1,hn,a1,h1',a2,e2]
    ·rw [if_neg hn] at a2
     generalize tx (dg p.natAbs++[47])=T3,tx (dg p.natAbs)=T at *
     simp [EC,aM,aJ,aK,fIx,atI,ixN,fEq,fNe,eqN,aP,aO,aQ,aN,aH,aT,frz,aL,e1,hn,h1',a2,e2]
   ·rw [if_neg hq] at e2
    rw [if_neg (fun z=>z.elim hp fun z=>hq z.2)]
    obtain ⟨a1,a2,a3⟩:=uZ (p:=p) (q:=q) (iX hp) (iX hq)
    unfold hV fnM lB txt
    rw [if_neg h1]
    unfold tN at a2 a3 ⊢
    by_cases hn:p < 0
    ·rw [if_pos hn] at a2 a3 ⊢
     generalize tx (dg q.natAbs)=U,tx (dg p.natAbs)=T,tx (45 :: dg p.natAbs)=T2,tx (45 :: dg p.natAbs++[47])=T3,tx (45 :: dg p.natAbs++47 :: dg q.natAbs)=T4 at *
     simp [EC,aM,aJ,aK,fIx,atI,ixN,fEq,fNe,eqN,aP,aO,aQ,aN,aH,aT,frz,aL,e1,hn,a1,h1',a2,e2,a3]
    ·rw [if_neg hn] at a2 a3 ⊢
     generalize tx (dg q.natAbs)=U,tx (dg p.natAbs)=T,tx (dg p.natAbs++[47])=T3,tx (dg p.natAbs++47 :: dg q.natAbs)=T4 at *
     simp [EC,aM,aJ,aK,fIx,atI,ixN,fEq,fNe,eqN,aP,aO,aQ,aN,aH,aT,frz,aL,e1,hn,h1',a2,e2,a3]
theorem ad5 {q:Int} (h0:0 < q) (h:q.natAbs < 10 ^ 60):kE [.int q]=some (.str (tx (dg q.natAbs))):=by
 have:=ahe (p:=q) (Nat.lt_trans h (by decide +kernel))
 unfold tN at this
 rw [if_neg (by omega)] at this
 exact this
theorem adL (S:Sto) {t b p q:Int} (ef:oR [.pv (.int t),.pv (.int b)] S=.ok (.pv (.tup [.int p,.int q])) S) (hq:0 < q):jU [.pv (.int t),.pv (.int b)] S=.ok (if G60≤((p.natAbs:Nat):Int)∨(q≠1∧G60≤((q.natAbs:Nat):Int)) then .pv .non else .pv (.str (tx (txt p q)))) S:=by
 have ab:=aec p
 have q6:=alM
 have qa:((q.natAbs:Nat):Int)=q:=by omega
 by_cases hp:G60≤((p.natAbs:Nat):Int)
 ·rw [if_pos (.inl hp)]
  unfold jU fnM
  unfold qO
  generalize ((p.natAbs:Nat):Int)=A,G60=G at *
  simp [EC,aJ,aK,fIx,atI,ixN,fEq,fNe,eqN,aP,aO,aQ,aN,aH,aT,frz,aL,pX,gT,cM,eB,gN,ef,ab,q6,hp]
 ·have s1:=ahe (p:=p) (Nat.lt_trans (iX hp) (by decide +kernel))
  by_cases hg:G60≤((q.natAbs:Nat):Int)
  ·have h1:q≠1:=fun z=>by
    rw [z] at hg
    exact absurd hg (by rw [ahf]; decide +kernel)
   rw [if_pos (.inr ⟨h1,hg⟩)]
   rw [qa] at hg
   unfold jU fnM
   unfold qO
   generalize ((p.natAbs:Nat):Int)=A,G60=G at *
   simp [EC,aJ,aK,fIx,atI,ixN,fEq,fNe,eqN,aP,aO,aQ,aN,aH,aT,frz,aL,pX,gT,cM,eB,gN,ef,ab,q6,hp,hg]
  ·rw [if_neg (fun z=>z.elim hp fun z=>hg z.2)]
   have s2:=ad5 hq (iX hg)
   obtain ⟨_,a2,a3⟩:=uZ (p:=p) (q:=q) (iX hp) (iX hg)
   rw [qa] at hg
   unfold jU fnM txt
   unfold qO
   by_cases h1:q=1
   ·subst h1
    rw [if_pos rfl]
    generalize tx (tN p)=T,((p.natAbs:Nat):Int)=A,G60=G at *
    simp [EC,aJ,aK,fIx,atI,ixN,fEq,fNe,eqN,aP,aO,aQ,aN,aH,aT,frz,aL,pX,gT,cM,eB,gN,ef,ab,q6,hp,hg,s1]
   ·rw [if_neg h1]
    have h1':(q == 1)=false:=by simpa using h1
    generalize tx (dg q.natAbs)=U,tx (tN p)=T,tx (tN p++[47])=T3,tx (tN p++47 :: dg q.natAbs)=T4,((p.natAbs:Nat):Int)=A,G60=G at *
    simp [EC,aJ,aK,fIx,atI,ixN,fEq,fNe,eqN,aP,aO,aQ,aN,aH,aT,frz,aL,pX,gT,cM,eB,gN,ef,ab,q6,hp,hg,h1',s1,a2,s2,a3]
theorem ad9 {m:Nat} (h:m < 10 ^ 60):okD (dg m)=true:=by
 have a:=aki m
 have b:=lP 59 m h
 unfold okD
 have c:(dg m).all isD=true:=List.all_eq_true.mpr fun x hx=>kP hx
 rw [c]
 simp [a,b]
theorem ahA (p:Int):bd (tN p)=dg p.natAbs∧(((tN p).head?=some 45)↔p < 0):=by
 have hd:(dg p.natAbs).head?≠some 45:=fun z=>by
  have:=kP (m:=p.natAbs) (c:=45) (by
   cases h:dg p.natAbs with
   | nil=>rw [h] at z; cases z
   | cons a L=>rw [h] at z; cases z; simp)
  exact absurd this (by decide)
 unfold tN bd
 by_cases h:p < 0
 ·rw [if_pos h]
  simp [h]
 ·rw [if_neg h]
  exact ⟨if_neg hd,fun z=>absurd z hd,fun z=>absurd z h⟩
theorem ajP (p:Int):sN (tN p)=p:=by
 obtain ⟨a,b⟩:=ahA p
 unfold sN
 rw [a,ahv]
 by_cases h:p < 0
 ·rw [if_pos (b.mpr h)]; omega
 ·rw [if_neg (fun z=>h (b.mp z))]; omega
theorem afk (p:Int):(∀ c∈tN p,c < 128)∧47 ∉ tN p:=by
 have d:∀ c∈dg p.natAbs,c < 128∧c≠45∧c≠47:=fun c hc=>vK (kP hc)
 unfold tN
 split
 ·refine ⟨fun c hc=>?_,fun z=>?_⟩
  ·rcases List.mem_cons.mp hc with rfl | hc
   ·decide
   ·exact (d c hc).1
  ·rcases List.mem_cons.mp z with z | z
   ·cases z
   ·exact (d 47 z).2.2 rfl
 ·exact ⟨fun c hc=>(d c hc).1,fun z=>(d 47 z).2.2 rfl⟩
theorem af5 (S:Sto) {p q:Int} (hp:p.natAbs < 10 ^ 60) (hq:q.natAbs < 10 ^ 60) (h0:0 < q) (ef:fr p q=[p,q]):eN [.pv (.str (tx (txt p q)))] S=.ok (.pv (.tup [.int p,.int q])) S:=by
 obtain ⟨P,es,hf,hi,hne⟩:=aeO (txt p q) 47
 obtain ⟨f1,f2⟩:=afk p
 have l1:=aef hp
 have l3:=lP 59 q.natAbs hq
 have fd:(∀ c∈dg q.natAbs,c < 128)∧47 ∉ dg q.natAbs:=⟨fun c hc=>(vK (kP hc)).1,fun z=>(vK (kP z)).2.2 rfl⟩
 by_cases h1:q=1
 ·subst h1
  have eP:P=[tN p]:=tZ hne (by simp) hf (by simpa using f2) (by rw [hi]; rfl)
  subst eP
  rw [yS S es hne (by simpa using f1) (by simpa using Nat.le_trans l1 (by decide)) (by show (tN p).length≤10000; omega),akJ,if_pos (by rw [(ahA p).1]; exact ad9 hp),ajP]
  show Res.ok (AV.pv (.tup ((fr p 1).map .int))) S=_
  rw [ef]
  rfl
 ·have et:txt p q=tN p++47 :: dg q.natAbs:=if_neg h1
  have eP:P=[tN p,dg q.natAbs]:=tZ hne (by simp) hf (by
   intro x hx
   have:x=tN p∨x=dg q.natAbs:=by simpa using hx
   rcases this with rfl | rfl
   ·exact f2
   ·exact fd.2) (by rw [hi,et]; rfl)
  subst eP
  have qv:vD (dg q.natAbs)=q:=by rw [ahv]; omega
  rw [yS S es hne (fun x hx=>by
   have:x=tN p∨x=dg q.natAbs:=by simpa using hx
   rcases this with rfl | rfl
   ·exact f1
   ·exact fd.1) (fun x hx=>by
   have:x=tN p∨x=dg q.natAbs:=by simpa using hx
   rcases this with rfl | rfl <;> omega) (by rw [et,List.length_append,List.length_cons]; omega),aly,if_pos ⟨by rw [(ahA p).1]; exact ad9 hp,ad9 hq,by rw [qv]; omega⟩,ajP,qv]
  show Res.ok (AV.pv (.tup ((fr p q).map .int))) S=_
  rw [ef]
  rfl
theorem acm {g:GM} {me:ME} {ρ:Rho} {S:Sto}:eX [] g me [] ρ S=.ok [] S:=by
 unfold eX
 rw [if_pos (jJ S)]
theorem yD {g:GM} {me:ME} {x:PV} {r:List PV} {ρ:Rho} {S:Sto}:eX [] g me (x :: r) ρ S=(match g x ρ with
  | none=>.fail
  | some ρ1=>match me ρ1 S with
   | .ok (.pv y) S1=>match eX [] g me r ρ1 S1 with
    | .ok ys S2=>.ok (y :: ys) S2
    | .exc n S2=>.exc n S2
    | .fail=>.fail
   | .ok (.ref _) _=>.fail
   | .exc n S1=>.exc n S1
   | .fail=>.fail):=by
 conv=>lhs; unfold eX
 rw [if_pos (jJ S)]
 all_goals (rcases g x ρ with _ | ρ1 <;> dsimp only <;> first | rfl | (rcases me ρ1 S with ⟨a,S1⟩ | ⟨n,S1⟩ | _ <;> first | rfl | (cases a <;> rfl)))
theorem mQ {S:Sto} {me:ME} {tail:Rho} {α:Type} (A B:α→PV):∀ (L:List α) (x:Option AV),(∀ v∈L,me (some (.pv (A v)) :: tail) S=.ok (.pv (B v)) S)→eX [] (gN 0) me (L.map A) (x :: tail) S=.ok (L.map B) S
 | [],x,_=>acm
 | v :: L,x,h=>by
  have e:=h v List.mem_cons_self
  have e':=mQ A B L (some (.pv (A v))) fun u hu=>h u (List.mem_cons_of_mem _ hu)
  rw [List.map_cons,yD]
  simp [gN,e,e']
theorem oX:(" ":Str)=tx [32]:=by kernel_rfl
def pT (w x:Int):Int:=(fr x w).getD 0 0
def pB (w x:Int):Int:=(fr x w).getD 1 0
theorem sA {k:Nat} {w x:Int} (hw:0 < w) (bw:Bd k w) (bx:Bd k x):fr x w=[pT w x,pB w x]∧0 < pB w x∧Bd k (pT w x)∧Bd k (pB w x)∧fr (pT w x) (pB w x)=[pT w x,pB w x]:=by
 obtain ⟨p,q,e,a,b,c,d⟩:=ajv hw bx bw
 have e1:pT w x=p:=by unfold pT; rw [e]; rfl
 have e2:pB w x=q:=by unfold pB; rw [e]; rfl
 rw [e1,e2]
 exact ⟨e,a,b,c,d⟩
def GR (w x:Int):Prop:=G60≤(((pT w x).natAbs:Nat):Int)∨(pB w x≠1∧G60≤(((pB w x).natAbs:Nat):Int))
def mT (w x:Int):List Nat:=txt (pT w x) (pB w x)
theorem pI {w x:Int} (h:¬ GR w x):(mT w x).length≤130:=by
 have h1:=aef (iX fun z=>h (.inl z))
 unfold mT txt
 split
 ·omega
 ·rename_i hq
  have h2:=lP 59 _ (iX (p:=pB w x) fun z=>h (.inr ⟨hq,z⟩))
  rw [List.length_append,List.length_cons]
  omega
theorem zR {w x:Int}:(∀ c∈mT w x,c < 128)∧32 ∉ mT w x:=by
 obtain ⟨a,b⟩:=afk (pT w x)
 have a2:32 ∉ tN (pT w x):=fun z=>by
  have d:∀ c∈dg (pT w x).natAbs,isD c=true:=fun c hc=>kP hc
  unfold tN at z
  split at z
  ·rcases List.mem_cons.mp z with z | z
   ·cases z
   ·exact absurd (d 32 z) (by decide)
  ·exact absurd (d 32 z) (by decide)
 unfold mT txt
 split
 ·exact ⟨a,a2⟩
 ·refine ⟨fun c hc=>?_,fun z=>?_⟩
  ·rcases List.mem_append.mp hc with z | z
   ·exact a c z
   ·rcases List.mem_cons.mp z with rfl | z
    ·decide
    ·exact (vK (kP z)).1
  ·rcases List.mem_append.mp z with z | z
   ·exact a2 z
   ·rcases List.mem_cons.mp z with z | z
    ·cases z
    ·exact absurd (kP z) (by decide)
theorem tL {S:Sto} {me:ME} {tail:Rho} {α:Type} (A B:α→PV) (bad:α→Prop) (n:Str):∀ (L:List α) (x:Option AV),(∀ v∈L,(bad v→me (some (.pv (A v)) :: tail) S=.exc n S)∧(¬ bad v→me (some (.pv (A v)) :: tail) S=.ok (.pv (B v)) S))→(∃ v∈L,bad v)→eX [] (gN 0) me (L.map A) (x :: tail) S=.exc n S
 | [],x,_,h=>by obtain ⟨v,hv,_⟩:=h; cases hv
 | v :: L,x,h,hb=>by
  obtain ⟨a,b⟩:=h v List.mem_cons_self
  rw [List.map_cons,yD]
  by_cases hv:bad v
  ·simp [gN,a hv]
  ·have:∃ u∈L,bad u:=by
    obtain ⟨u,hu,z⟩:=hb
    rcases List.mem_cons.mp hu with rfl | hu
    ·exact absurd z hv
    ·exact ⟨u,hu,z⟩
   have e':=tL A B bad n L (some (.pv (A v))) (fun u hu=>h u (List.mem_cons_of_mem _ hu)) this
   simp [gN,b hv,e']
theorem abv:∀ Ls:List (List Nat),kQ (Ls.map fun l=>PV.str (tx l))=some (Ls.map tx)
 | []=>rfl
 | l :: Ls=>by
  show (match kQ (Ls.map fun l=>PV.str (tx l)) with | some xs=>some (tx l :: xs) | none=>none)=_
  rw [abv Ls]
  rfl
def jn (s:List Nat):List (List Nat)→List Nat
 | []=>[]
 | [p]=>p
 | p :: q :: r=>p++(s++jn s (q :: r))
theorem aeP (s:List Nat):∀ P:List (List Nat),Str.join (tx s) (P.map tx)=tx (jn s P)
 | []=>rfl
 | [p]=>rfl
 | p :: q :: r=>by
  show tx p++tx s++Str.join (tx s) ((q :: r).map tx)=tx (p++(s++jn s (q :: r)))
  rw [aeP s (q :: r),rQ,rQ,List.append_assoc]
open Classical in
def wv {α:Type} (bad:α→Prop) (T:α→List Nat) (a:α):PV:=if bad a then .non else .str (tx (T a))
theorem aet {α:Type} {bad:α→Prop} {T:α→List Nat} {xs:List α}:((∃ x∈xs,bad x)→(xs.map (wv bad T)).any qD=true)∧((∀ x∈xs,¬ bad x)→(xs.map (wv bad T)).any qD=false∧xs.map (wv bad T)=xs.map fun x=>.str (tx (T x))):=by
 refine ⟨fun ⟨x,hx,h⟩=>List.any_eq_true.mpr ⟨wv bad T x,List.mem_map.mpr ⟨x,hx,rfl⟩,?_⟩,fun h=>?_⟩
 ·unfold wv
  rw [if_pos h]
  rfl
 ·have e:xs.map (wv bad T)=xs.map fun x=>.str (tx (T x)):=List.map_congr_left fun x hx=>if_neg (h x hx)
  refine ⟨?_,e⟩
  rw [e,List.any_map]
  exact List.any_eq_false.mpr fun x hx=>by simp [qD]
theorem rW {s:List Nat} {Ls:List (List Nat)} {B:Nat} (hs:s.length≤9) (hB:∀ l∈Ls,l.length≤B) (hn:Ls.length≤200) (hb:B≤20000):iT (tx s) [.lst (Ls.map fun l=>.str (tx l))]=some (.str (tx (jn s Ls))):=by
 have ok:JoinOk (tx s) (Ls.map tx)=true:=by
  unfold JoinOk
  rw [StrLaws.joinFits (B:=B) (fun y hy=>by
   obtain ⟨l,hl,rfl⟩:=List.mem_map.mp hy
   rw [dR]; exact hB l hl) (by
   rw [List.length_map,dR]
   have h1:Ls.length*B≤200*20000:=Nat.mul_le_mul hn hb
   have h2:Ls.length*s.length≤200*9:=Nat.mul_le_mul hn hs
   show Ls.length*B+Ls.length*s.length≤16777216
   omega)]
  rfl
 show (match kQ (Ls.map fun l=>PV.str (tx l)) with | some ts=>if JoinOk (tx s) ts=true then some (PV.str (Txt.join (tx s) ts)) else none | none=>none)=_
 rw [abv]
 dsimp only
 rw [if_pos ok]
 have:Txt.join (tx s) (Ls.map tx)=tx (jn s Ls):=by
  show Builtin.Str.glued (tx s) (Ls.map tx)=_
  rw [StrLaws.glued_eq_join,aeP]
 rw [this]
theorem uD (c:Nat):∀ P:List (List Nat),dW c P=jn [c] P
 | []=>rfl
 | [p]=>rfl
 | p :: q :: r=>by
  show p++c :: dW c (q :: r)=p++([c]++jn [c] (q :: r))
  rw [uD c (q :: r)]
  rfl
theorem vM {s:List Nat} {B:Nat}:∀ {P:List (List Nat)},(∀ p∈P,p.length≤B)→(jn s P).length≤P.length*(B+s.length)
 | [],_=>Nat.zero_le _
 | [p],h=>by
  have:=h p (by simp)
  show p.length≤1*(B+s.length)
  omega
 | p :: q :: r,h=>by
  have h1:=h p (by simp)
  have h2:=vM (s:=s) (P:=q :: r) fun x hx=>h x (List.mem_cons_of_mem _ hx)
  show (p++(s++jn s (q :: r))).length≤_
  rw [List.length_append,List.length_append]
  have:(p :: q :: r).length*(B+s.length)=(q :: r).length*(B+s.length)+(B+s.length):=by
   rw [List.length_cons (as:=q :: r),Nat.succ_mul]
  omega
theorem afo {c:Nat} {Ls:List (List Nat)} {B:Nat} (hB:∀ l∈Ls,l.length≤B) (hn:Ls.length≤200) (hb:B≤20000):iT (tx [c]) [.lst (Ls.map fun l=>.str (tx l))]=some (.str (tx (dW c Ls))):=by
 rw [uD]
 exact rW (show 1≤9 by decide) hB hn hb
theorem ai4 {n k:Nat} (S:Sto) {xs:List Int} {w:Int} (P:Pq n k xs w) (hk:k≤1000):qP [.pv (tv (xs++[w]))] S=.ok (.pv (.tup (xs.map fun x=>.tup [.int (pT w x),.int (pB w x)]))) S:=by
 have e1:=uJ xs w
 have e2:=mS xs w
 have e:bY [] (gN 0) (bM iL [] (aC (aA 0) (aC (aB fIx (aA 1) (mUn cQ (mC (.int 1)))) aE))) (xs.map .int) [none,some (.pv (tv (xs++[w])))] S=.ok (xs.map fun x=>.tup [.int (pT w x),.int (pB w x)]) S:=by
  refine mP (jJ S) PV.int (fun x=>.tup [.int (pT w x),.int (pB w x)]) xs none fun x hx=>?_
  have f:=aaN x w S ((P.bx x hx).mono (by omega)) (P.bw.mono (by omega)) (by have:=P.pos; omega)
  rw [(sA P.pos P.bw (P.bx x hx)).1] at f
  simp only [List.map_cons,List.map_nil] at f
  show _=Res.ok (AV.pv (.tup [.int (pT w x),.int (pB w x)])) S
  have e2:fIx (tv (xs++[w])) (.int (-1))=some (.int w):=e2
  generalize pB w x=q,pT w x=p,tv (xs++[w])=TV at *
  simp [EC,aM,aJ,aK,fEq,fNe,bZ,aP,aO,aQ,aN,aH,aT,frz,aL,e2,f]
 unfold qP fnM
 unfold yB
 have e1:fSl (tv (xs++[w])) none (some (-1))=some (.tup (xs.map .int)):=e1
 generalize (xs.map fun x=>PV.tup [.int (pT w x),.int (pB w x)])=ML,tv (xs++[w])=TV,(bM iL [] (aC (aA 0) (aC (aB fIx (aA 1) (mUn cQ (mC (.int 1)))) aE)))=ME1 at *
 simp [EC,aM,aJ,aK,fEq,fNe,bZ,aP,aO,aQ,aN,aH,aT,frz,aL,bO,bS,mIt,bW,mSl,mO0,mO1,dZ,e1,e]
theorem age {n k:Nat} (S:Sto) {xs:List Int} {w:Int} (P:Pq n k xs w) (hk:k≤1000) (hn:n≤3):((∃ x∈xs,GR w x)→gG [.pv (tv (xs++[w]))] S=.exc "TooGreat" S)∧((∀ x∈xs,¬ GR w x)→gG [.pv (tv (xs++[w]))] S=.ok (.pv (.str (tx (dW 32 (xs.map (mT w)))))) S):=by
 have em:=ai4 S P hk
 have step:∀ x∈xs,(GR w x→(bM hV [] (aC (aA 0) aE)) (some (.pv (.tup [.int (pT w x),.int (pB w x)])) :: []) S=.exc "TooGreat" S)∧(¬ GR w x→(bM hV [] (aC (aA 0) aE)) (some (.pv (.tup [.int (pT w x),.int (pB w x)])) :: []) S=.ok (.pv (.str (tx (mT w x)))) S):=fun x hx=>by
  have e:=afW S (p:=pT w x) (q:=pB w x)
  refine ⟨fun h=>?_,fun h=>?_⟩
  ·unfold GR at h
   rw [if_pos h] at e
   simp [EC,aM,aJ,aK,fIx,atI,ixN,fEq,fNe,eqN,aP,aO,aQ,aN,aH,aT,frz,aL,e]
  ·unfold GR at h
   rw [if_neg h] at e
   have e:hV [.pv (.tup [.int (pT w x),.int (pB w x)])] S=.ok (.pv (.str (tx (mT w x)))) S:=e
   generalize tx (mT w x)=T at *
   simp [EC,aM,aJ,aK,fIx,atI,ixN,fEq,fNe,eqN,aP,aO,aQ,aN,aH,aT,frz,aL,e]
 refine ⟨fun h=>?_,fun h=>?_⟩
 ·have ec:=tL (fun x=>.tup [.int (pT w x),.int (pB w x)]) (fun x=>.str (tx (mT w x))) (GR w) "TooGreat" xs none step h
  unfold gG fnM
  unfold lD
  generalize tv (xs++[w])=TV,(xs.map fun x=>PV.tup [.int (pT w x),.int (pB w x)])=ML,(bM hV [] (aC (aA 0) aE))=ME1 at *
  simp [EC,aM,aJ,aK,fIx,atI,ixN,fEq,fNe,eqN,aP,aO,aQ,aN,aH,aT,frz,aL,gO,dC,eD,bS,mIt,bW,em,ec]
 ·have ec:=mQ (fun x=>.tup [.int (pT w x),.int (pB w x)]) (fun x=>PV.str (tx (mT w x))) xs none fun x hx=>(step x hx).2 (h x hx)
  have ej:=afo (c:=32) (Ls:=xs.map (mT w)) (B:=130) (fun l hl=>by
   obtain ⟨x,hx,rfl⟩:=List.mem_map.mp hl
   exact pI (h x hx)) (by rw [List.length_map,P.len]; omega) (by decide)
  rw [List.map_map,← oX] at ej
  have ej:iT " " [.lst (xs.map fun x=>.str (tx (mT w x)))]=some (.str (tx (dW 32 (xs.map (mT w))))):=ej
  unfold gG fnM
  unfold lD
  generalize tv (xs++[w])=TV,tx (dW 32 (xs.map (mT w)))=TT,(xs.map fun x=>PV.tup [.int (pT w x),.int (pB w x)])=ML,(xs.map fun x=>PV.str (tx (mT w x)))=SL,(bM hV [] (aC (aA 0) aE))=ME1 at *
  simp [EC,aM,aJ,aK,fIx,atI,ixN,fEq,fNe,eqN,aP,aO,aQ,aN,aH,aT,frz,aL,gO,dC,eD,bS,mIt,bW,em,ec,ej]
theorem agv {n k:Nat} (S:Sto) {xs:List Int} {w:Int} (P:Pq n k xs w) (hk:k≤1000) (hn:n≤3):((∃ x∈xs,GR w x)→hZ [.pv (tv (xs++[w]))] S=.ok (.pv .non) S)∧((∀ x∈xs,¬ GR w x)→hZ [.pv (tv (xs++[w]))] S=.ok (.pv (.str (tx (dW 32 (xs.map (mT w)))))) S):=by
 have e1:fSl (tv (xs++[w])) none (some (-1))=some (.tup (xs.map .int)):=uJ xs w
 have e2:fIx (tv (xs++[w])) (.int (-1))=some (.int w):=mS xs w
 have ec:bY [] (gN 0) (aY jU [] (aC (aA 0) (aC (aB fIx (aA 1) (mUn cQ (mC (.int 1)))) aE))) (xs.map .int) [none,some (.pv (tv (xs++[w])))] S=.ok (xs.map (wv (GR w) (mT w))) S:=by
  refine mP (jJ S) PV.int (wv (GR w) (mT w)) xs none fun x hx=>?_
  obtain ⟨f,q0,_⟩:=sA P.pos P.bw (P.bx x hx)
  have ef:=aiH x w S ((P.bx x hx).mono (by omega)) (P.bw.mono (by omega))
  rw [f] at ef
  have ew:=adL S ef q0
  have:(if G60≤(((pT w x).natAbs:Nat):Int)∨(pB w x≠1∧G60≤(((pB w x).natAbs:Nat):Int)) then AV.pv .non else AV.pv (.str (tx (txt (pT w x) (pB w x)))))=AV.pv (wv (GR w) (mT w) x):=by
   unfold wv GR mT
   split <;> rfl
  rw [this] at ew
  generalize wv (GR w) (mT w) x=W,tv (xs++[w])=TV at *
  simp [EC,aM,aJ,aK,fEq,fNe,bZ,aP,aO,aQ,aN,aH,aT,frz,aL,e2,ew]
 obtain ⟨a1,a2⟩:=aet (bad:=GR w) (T:=mT w) (xs:=xs)
 unfold hZ fnM
 unfold xK
 refine ⟨fun h=>?_,fun h=>?_⟩
 ·have a1:=a1 h
  generalize tv (xs++[w])=TV,xs.map (wv (GR w) (mT w))=WL,(aY jU [] (aC (aA 0) (aC (aB fIx (aA 1) (mUn cQ (mC (.int 1)))) aE)))=ME1 at *
  simp [EC,aM,aJ,aK,fEq,fNe,bZ,aP,aO,aQ,aN,aH,aT,frz,aL,bO,bS,mIt,bW,mSl,mO0,mO1,dZ,e1,ec,jT,a1]
 ·obtain ⟨a2,a3⟩:=a2 h
  have ej:=afo (c:=32) (Ls:=xs.map (mT w)) (B:=130) (fun l hl=>by
   obtain ⟨x,hx,rfl⟩:=List.mem_map.mp hl
   exact pI (h x hx)) (by rw [List.length_map,P.len]; omega) (by decide)
  rw [List.map_map,← oX] at ej
  have ej:iT " " [.lst (xs.map fun x=>.str (tx (mT w x)))]=some (.str (tx (dW 32 (xs.map (mT w))))):=ej
  rw [← a3] at ej
  generalize tv (xs++[w])=TV,tx (dW 32 (xs.map (mT w)))=TT,xs.map (wv (GR w) (mT w))=WL,(aY jU [] (aC (aA 0) (aC (aB fIx (aA 1) (mUn cQ (mC (.int 1)))) aE)))=ME1 at *
  simp [EC,aM,aJ,aK,fEq,fNe,bZ,aP,aO,aQ,aN,aH,aT,frz,aL,bO,bS,mIt,bW,mSl,mO0,mO1,dZ,e1,ec,jT,a2,gO,dC,ej]
theorem rY {a b:Int} (hb:0 < b) (bb:Bd 1000 b):fN (.int (a*b)) (.int b)=some (.int a):=by
 rw [qY (i:=a*b) (j:=b) ⟨by omega,bb.mono (by decide)⟩,Int.fdiv_eq_ediv_of_nonneg _ (by omega),Int.mul_ediv_cancel _ (by omega)]
structure Fz (u:Int × Int):Prop where
 pos:0 < u.2
 b1:Bd 300 u.1
 b2:Bd 300 u.2
abbrev fz (u:Int × Int):PV:=.tup [.int u.1,.int u.2]
def cT:List (Int × Int)→List Int
 | [u,v]=>[u.1*v.2,v.1*u.2]
 | [u,v,t]=>[u.1*(v.2*t.2),v.1*(u.2*t.2),t.1*(u.2*v.2)]
 | _=>[]
def cB:List (Int × Int)→Int
 | [u,v]=>u.2*v.2
 | [u,v,t]=>u.2*v.2*t.2
 | _=>1
theorem b3 {k l:Nat} {a b:Int} (h:Bd k a) (g:Bd l b) (hs:k+l≤1000):Bd 1000 (a*b):=(h.mul g).mono hs
theorem ai7 {ab:List (Int × Int)} (hl:ab.length=2∨ab.length=3) (h:∀ u∈ab,Fz u):0 < cB ab∧Bd 1000 (cB ab)∧(cT ab).length=ab.length∧∀ x∈cT ab,Bd 1000 x:=by
 match ab,hl,h with
 | [u,v],_,h =>
  have hu:=h u (by simp)
  have hv:=h v (by simp)
  refine ⟨Int.mul_pos hu.pos hv.pos,b3 hu.b2 hv.b2 (by decide),rfl,fun x hx=>?_⟩
  have:x=u.1*v.2∨x=v.1*u.2:=by simpa [cT] using hx
  rcases this with rfl | rfl
  ·exact b3 hu.b1 hv.b2 (by decide)
  ·exact b3 hv.b1 hu.b2 (by decide)
 | [u,v,t],_,h =>
  have hu:=h u (by simp)
  have hv:=h v (by simp)
  have ht:=h t (by simp)
  refine ⟨Int.mul_pos (Int.mul_pos hu.pos hv.pos) ht.pos,b3 (hu.b2.mul hv.b2) ht.b2 (by decide),rfl,fun x hx=>?_⟩
  have:x=u.1*(v.2*t.2)∨x=v.1*(u.2*t.2)∨x=t.1*(u.2*v.2):=by simpa [cT] using hx
  rcases this with rfl | rfl | rfl
  ·exact b3 hu.b1 (hv.b2.mul ht.b2) (by decide)
  ·exact b3 hv.b1 (hu.b2.mul ht.b2) (by decide)
  ·exact b3 ht.b1 (hu.b2.mul hv.b2) (by decide)
theorem acv (S:Sto) {ab:List (Int × Int)} (hl:ab.length=2∨ab.length=3) (h:∀ u∈ab,Fz u):kH [.pv (.lst (ab.map fz))] S=.ok (.pv (tv (low (cT ab++[cB ab])))) S:=by
 obtain ⟨p0,pb,pl,px⟩:=ai7 hl h
 have ep:=afY (w:=.lst ((cT ab).map .int)) (cT ab) (cB ab) S (.inl rfl) (fun x hx=>(px x hx).mono (by decide)) (pb.mono (by decide)) (by omega) (by omega)
 rw [aj2 p0] at ep
 match ab,hl,h,ep with
 | [u,v],_,h,ep =>
  have hu:=h u (by simp)
  have hv:=h v (by simp)
  obtain ⟨a,b⟩:=u
  obtain ⟨c,d⟩:=v
  have m1:bE (.int 1) (.int b)=some (.int b):=by rw [iM (.inl (.inl ⟨by decide,by decide⟩)),Int.one_mul]
  have m2:bE (.int b) (.int d)=some (.int (b*d)):=mBB hu.b2 hv.b2
  have q1:fN (.int (b*d)) (.int b)=some (.int d):=by rw [Int.mul_comm]; exact rY hu.pos (hu.b2.mono (by decide))
  have q2:fN (.int (b*d)) (.int d)=some (.int b):=rY hv.pos (hv.b2.mono (by decide))
  have m3:bE (.int a) (.int d)=some (.int (a*d)):=mBB hu.b1 hv.b2
  have m4:bE (.int c) (.int b)=some (.int (c*b)):=mBB hv.b1 hu.b2
  have ep:nA [.pv (.lst [.int (a*d),.int (c*b)]),.pv (.int (b*d))] S=.ok (.pv (tv (low ([a*d,c*b]++[b*d])))) S:=ep
  show kH [.pv (.lst [.tup [.int a,.int b],.tup [.int c,.int d]])] S=.ok (.pv (tv (low ([a*d,c*b]++[b*d])))) S
  generalize tv (low ([a*d,c*b]++[b*d]))=R at *
  unfold kH fnM tI
  simp [EC,aM,aJ,aK,fIx,atI,ixN,fEq,fNe,eqN,aP,aO,aQ,aN,aH,aT,frz,aL,dI,mIt,bW,jD,jE,eW,eO,gN,m1,m2,bO,bS,q1,q2,m3,m4,ep]
 | [u,v,t],_,h,ep =>
  have hu:=h u (by simp)
  have hv:=h v (by simp)
  have ht:=h t (by simp)
  obtain ⟨a,b⟩:=u
  obtain ⟨c,d⟩:=v
  obtain ⟨e,f⟩:=t
  have m1:bE (.int 1) (.int b)=some (.int b):=by rw [iM (.inl (.inl ⟨by decide,by decide⟩)),Int.one_mul]
  have m2:bE (.int b) (.int d)=some (.int (b*d)):=mBB hu.b2 hv.b2
  have m2':bE (.int (b*d)) (.int f)=some (.int (b*d*f)):=mBB (hu.b2.mul hv.b2) ht.b2
  have q1:fN (.int (b*d*f)) (.int b)=some (.int (d*f)):=by
   rw [show b*d*f=d*f*b by grind]; exact rY hu.pos (hu.b2.mono (by decide))
  have q2:fN (.int (b*d*f)) (.int d)=some (.int (b*f)):=by
   rw [show b*d*f=b*f*d by grind]; exact rY hv.pos (hv.b2.mono (by decide))
  have q3:fN (.int (b*d*f)) (.int f)=some (.int (b*d)):=rY ht.pos (ht.b2.mono (by decide))
  have m3:bE (.int a) (.int (d*f))=some (.int (a*(d*f))):=mBB hu.b1 (hv.b2.mul ht.b2)
  have m4:bE (.int c) (.int (b*f))=some (.int (c*(b*f))):=mBB hv.b1 (hu.b2.mul ht.b2)
  have m5:bE (.int e) (.int (b*d))=some (.int (e*(b*d))):=mBB ht.b1 (hu.b2.mul hv.b2)
  have ep:nA [.pv (.lst [.int (a*(d*f)),.int (c*(b*f)),.int (e*(b*d))]),.pv (.int (b*d*f))] S=.ok (.pv (tv (low ([a*(d*f),c*(b*f),e*(b*d)]++[b*d*f])))) S:=ep
  show kH [.pv (.lst [.tup [.int a,.int b],.tup [.int c,.int d],.tup [.int e,.int f]])] S=.ok (.pv (tv (low ([a*(d*f),c*(b*f),e*(b*d)]++[b*d*f])))) S
  generalize tv (low ([a*(d*f),c*(b*f),e*(b*d)]++[b*d*f]))=R at *
  unfold kH fnM tI
  simp [EC,aM,aJ,aK,fIx,atI,ixN,fEq,fNe,eqN,aP,aO,aQ,aN,aH,aT,frz,aL,dI,mIt,bW,jD,jE,eW,eO,gN,m1,m2,m2',bO,bS,q1,q2,q3,m3,m4,m5,ep]
theorem acy {L:List Nat} {Ps:List (List Nat)} (hs:Txt.split (tx L) (tx [32])=Ps.map tx) (hL:L.length≤9000):fH (tx L) [.str " "]=some (.lst (Ps.map fun p=>.str (tx p))):=by
 rw [oX]
 show (if (tx [32]).length≠0∧(tx L).length+2≤16777216 then some (PV.lst ((Txt.split (tx L) (tx [32])).map .str)) else none)=_
 rw [if_pos ⟨by rw [dR]; decide,by rw [dR]; omega⟩,hs,List.map_map]
 rfl
def rr (p:List Nat):Option (Int × Int):=rdN ((Txt.split (tx p) (tx [47])).map fun x=>x.cps.toList)
theorem aka (S:Sto) {p:List Nat} (ha:∀ c∈p,c < 128) (hl:p.length≤9000):eN [.pv (.str (tx p))] S=alC (rr p) S∧True:=by
 obtain ⟨P,es,hf,hi,hp⟩:=aeO p 47
 have e:rr p=rdN P:=by
  unfold rr
  rw [es,List.map_map]
  have:((fun x:Str=>x.cps.toList) ∘ tx)=id:=by
   funext l
   simp [tx]
  rw [this,List.map_id]
 rw [e]
 exact ⟨yS S es hp (fun q h c hc=>ha c (by rw [← hi]; exact ach h c hc)) (fun q h=>by have z:=abP (c:=47) h; rw [hi] at z; omega) (by omega),trivial⟩
def rF (p:List Nat):Int × Int:=match rr p with
 | some (t,b)=>(pT b t,pB b t)
 | none=>(0,1)
theorem aiX {p:List Nat} {t b:Int} (h:rr p=some (t,b)):0 < b∧Bd 200 t∧Bd 200 b:=by
 unfold rr at h
 generalize ((Txt.split (tx p) (tx [47])).map fun x=>x.cps.toList)=P at h
 match P,h with
 | [q],h =>
  rw [akJ] at h
  split at h
  ·rename_i hk
   cases h
   exact ⟨by decide,vW hk,ahc⟩
  ·cases h
 | [q,r],h =>
  rw [aly] at h
  split at h
  ·rename_i hk
   cases h
   have v:=aie hk.2.1
   exact ⟨by have:=hk.2.2; omega,vW hk.1,(b60 v).1⟩
  ·cases h
theorem ajQ {p:List Nat} (h:rr p≠none):Fz (rF p)∧(∀ S,alC (rr p) S=.ok (.pv (fz (rF p))) S)∧al4 (rr p)=.pv (fz (rF p)):=by
 cases e:rr p with
 | none=>exact absurd e h
 | some u =>
  obtain ⟨t,b⟩:=u
  obtain ⟨h0,ht,hb⟩:=aiX e
  obtain ⟨f,q0,b1,b2,_⟩:=sA h0 hb ht
  have er:rF p=(pT b t,pB b t):=by unfold rF; rw [e]
  rw [er]
  refine ⟨⟨q0,b1.mono (by decide),b2.mono (by decide)⟩,fun S=>?_,?_⟩
  ·show Res.ok (AV.pv (.tup ((fr t b).map .int))) S=_
   rw [f]
   rfl
  ·show AV.pv (.tup ((fr t b).map .int))=_
   rw [f]
   rfl
theorem adO (S:Sto) {L:List Nat} {Ps:List (List Nat)} {ab:List Nat→Int × Int} (hs:Txt.split (tx L) (tx [32])=Ps.map tx) (hL:L.length≤9000) (hl:Ps.length=2∨Ps.length=3) (hr:∀ p∈Ps,Fz (ab p)∧eN [.pv (.str (tx p))] S=.ok (.pv (fz (ab p))) S):jB [.pv (.str (tx L))] S=.ok (.pv (tv (low (cT (Ps.map ab)++[cB (Ps.map ab)])))) S:=by
 have es:=acy hs hL
 have rf:=iC S
 have ec:=mQ (S:=S) (me:=bM eN [] (aC (aA 0) aE)) (tail:=[]) (fun p=>.str (tx p)) (fun p=>fz (ab p)) Ps none fun p hp=>by
  have e:=(hr p hp).2
  generalize tx p=T,fz (ab p)=F at *
  simp [EC,aM,aJ,aK,fIx,atI,ixN,fEq,fNe,eqN,aP,aO,aQ,aN,aH,aT,frz,aL,e]
 have ep:=acv S (ab:=Ps.map ab) (by rw [List.length_map]; exact hl) fun u hu=>by
  obtain ⟨p,hp,rfl⟩:=List.mem_map.mp hu
  exact (hr p hp).1
 rw [List.map_map] at ep
 have ep:kH [.pv (.lst (Ps.map fun p=>fz (ab p)))] S=.ok (.pv (tv (low (cT (Ps.map ab)++[cB (Ps.map ab)])))) S:=ep
 have ln:((Ps.map fun p=>fz (ab p)).length:Int)=(Ps.length:Int):=by rw [List.length_map]
 unfold jB fnM
 unfold mL
 generalize tx L=TL,(Ps.map fun p=>fz (ab p))=FL,(Ps.map fun p=>PV.str (tx p))=SL,tv (low (cT (Ps.map ab)++[cB (Ps.map ab)]))=R,(bM eN [] (aC (aA 0) aE))=ME1 at *
 rcases hl with h | h
 ·rw [h] at ln
  simp [EC,aM,aJ,aK,fIx,atI,ixN,fEq,fNe,eqN,aP,aO,aQ,aN,aH,aT,frz,aL,eD,bS,mIt,dO,dC,es,bW,ec,ln,rf,ep]
 ·rw [h] at ln
  simp [EC,aM,aJ,aK,fIx,atI,ixN,fEq,fNe,eqN,aP,aO,aQ,aN,aH,aT,frz,aL,eD,bS,mIt,dO,dC,es,bW,ec,ln,rf,ep]
theorem agR {k:Nat} {w x:Int} (hw:0 < w) (bw:Bd k w) (bx:Bd k x):pT w x*w=x*pB w x:=by
 obtain ⟨zs,z,e,Z,h⟩:=rN (n:=1) (L:=[x]) (b:=w) hw rfl (fun y hy=>by
  have:y=x:=by simpa using hy
  rw [this]; exact bx) bw
 have el:=Z.len
 match zs,el,e,h with
 | [p],_,e,h =>
  have e:low [x,w]=[p,z]:=e
  have f1:fr x w=[p,z]:=by rw [← e]; exact if_neg (by omega)
  have h0:p*w=x*z:=h 0 (by decide)
  have e1:pT w x=p:=by unfold pT; rw [f1]; rfl
  have e2:pB w x=z:=by unfold pB; rw [f1]; rfl
  rw [e1,e2]
  exact h0
theorem agB {n k:Nat} {xs:List Int} {w:Int} (hn:n=2∨n=3) (P:Pq n k xs w) (hk:k≤300):(∀ u∈xs.map (fun x=>(pT w x,pB w x)),Fz u)∧low (cT (xs.map fun x=>(pT w x,pB w x))++[cB (xs.map fun x=>(pT w x,pB w x))])=xs++[w]:=by
 have fz1:∀ u∈xs.map (fun x=>(pT w x,pB w x)),Fz u:=fun u hu=>by
  obtain ⟨x,hx,rfl⟩:=List.mem_map.mp hu
  obtain ⟨_,q0,b1,b2,_⟩:=sA P.pos P.bw (P.bx x hx)
  exact ⟨q0,b1.mono hk,b2.mono hk⟩
 refine ⟨fz1,?_⟩
 have cr:∀ x∈xs,pT w x*w=x*pB w x:=fun x hx=>agR P.pos P.bw (P.bx x hx)
 obtain ⟨p0,pb,pl,px⟩:=ai7 (ab:=xs.map fun x=>(pT w x,pB w x)) (by rw [List.length_map,P.len]; exact hn) fz1
 obtain ⟨zs,z,e,Z,h⟩:=rN (n:=n) p0 (by rw [pl,List.length_map,P.len]) px pb
 rw [e]
 refine Pq.eq Z P (N:=fun j=>(cT (xs.map fun x=>(pT w x,pB w x))).getD j 0) (D:=cB (xs.map fun x=>(pT w x,pB w x))) h (Vl.self n xs w) p0 P.pos fun j hj=>?_
 have hl:=P.len
 rcases hn with rfl | rfl
 ·match xs,hl,cr with
  | [x,y],_,cr =>
   have c1:=cr x (by simp)
   have c2:=cr y (by simp)
   have:j=0∨j=1:=by omega
   rcases this with rfl | rfl
   ·show pT w x*pB w y*w=x*(pB w x*pB w y)
    grind
   ·show pT w y*pB w x*w=y*(pB w x*pB w y)
    grind
 ·match xs,hl,cr with
  | [x,y,t],_,cr =>
   have c1:=cr x (by simp)
   have c2:=cr y (by simp)
   have c3:=cr t (by simp)
   have:j=0∨j=1∨j=2:=by omega
   rcases this with rfl | rfl | rfl
   ·show pT w x*(pB w y*pB w t)*w=x*(pB w x*pB w y*pB w t)
    grind
   ·show pT w y*(pB w x*pB w t)*w=y*(pB w x*pB w y*pB w t)
    grind
   ·show pT w t*(pB w x*pB w y)*w=t*(pB w x*pB w y*pB w t)
    grind
theorem adt {c B:Nat} {P:List (List Nat)} (h:∀ p∈P,p.length≤B):(dW c P).length≤P.length*(B+1):=by
 rw [uD]
 exact vM h
theorem ajI {n k:Nat} {xs:List Int} {w x:Int} (P:Pq n k xs w) (hx:x∈xs) (hg:¬ GR w x):rr (mT w x)≠none∧rF (mT w x)=(pT w x,pB w x):=by
 obtain ⟨_,q0,b1,b2,ef⟩:=sA P.pos P.bw (P.bx x hx)
 have hp:(pT w x).natAbs < 10 ^ 60:=iX fun z=>hg (.inl z)
 have hq:(pB w x).natAbs < 10 ^ 60:=by
  by_cases h1:pB w x=1
  ·rw [h1]; decide +kernel
  ·exact iX fun z=>hg (.inr ⟨h1,z⟩)
 have e:=af5 [] hp hq q0 ef
 have l:=pI hg
 have e2:=(aka [] (p:=mT w x) zR.1 (by omega)).1
 have e:eN [.pv (.str (tx (mT w x)))] []=.ok (.pv (.tup [.int (pT w x),.int (pB w x)])) []:=e
 rw [e] at e2
 have hn:rr (mT w x)≠none:=fun z=>by
  rw [z] at e2
  cases e2
 refine ⟨hn,?_⟩
 rw [(ajQ hn).2.1 []] at e2
 generalize rF (mT w x)=u at *
 obtain ⟨a,b⟩:=u
 generalize pB w x=q,pT w x=p at *
 injection e2 with e3 e4
 injection e3 with e5
 injection e5 with e6
 injection e6 with e7 e8
 injection e8 with e9 _
 injection e7 with e7
 injection e9 with e9
 rw [e7,e9]
theorem ajV {n k:Nat} (S:Sto) {xs:List Int} {w:Int} (hn:n=2∨n=3) (P:Pq n k xs w) (hk:k≤300) (hg:∀ x∈xs,¬ GR w x):jB [.pv (.str (tx (dW 32 (xs.map (mT w)))))] S=.ok (.pv (tv (xs++[w]))) S:=by
 obtain ⟨Q,es,hf,hi,hne⟩:=aeO (dW 32 (xs.map (mT w))) 32
 have xl:=P.len
 have eQ:Q=xs.map (mT w):=tZ hne (by
  intro z
  have:xs.length=0:=by rw [← List.length_map (f:=mT w),z]; rfl
  omega) hf (fun p hp=>by
  obtain ⟨x,hx,rfl⟩:=List.mem_map.mp hp
  exact zR.2) hi
 subst eQ
 have hu:=adt (c:=32) (B:=130) (P:=xs.map (mT w)) fun p hp=>by
  obtain ⟨x,hx,rfl⟩:=List.mem_map.mp hp
  exact pI (hg x hx)
 rw [List.length_map] at hu
 have e:=adO S (ab:=rF) es (by omega) (by rw [List.length_map]; omega) fun p hp=>by
  obtain ⟨x,hx,rfl⟩:=List.mem_map.mp hp
  obtain ⟨a,b⟩:=ajI P hx (hg x hx)
  obtain ⟨c,d,_⟩:=ajQ a
  have l:=pI (hg x hx)
  refine ⟨c,?_⟩
  rw [(aka S (p:=mT w x) zR.1 (by omega)).1,d S]
 have em:(xs.map (mT w)).map rF=xs.map fun x=>(pT w x,pB w x):=by
  rw [List.map_map]
  exact List.map_congr_left fun x hx=>(ajI P hx (hg x hx)).2
 rw [em,(agB hn P hk).2] at e
 exact e
theorem abL {k:Nat} {W:Int} (W0:0≤W) (W1:W≤10 ^ 61):∀ (is:List PV) (S:Sto) (ns:List Int) (x:Option AV),Row S k ns→∃ (xs ns':List Int),bY [] (gN 0) (aB dJ (aY cG [] (aC (aA 2) (aC (aB aH (aB bE (mC (.int 2)) (aA 1)) (mC (.int 1))) aE))) (aA 1)) is [x,some (.pv (.int W)),some (.ref k)] S=.ok (xs.map .int) (S.set k (.lst (ns'.map .int)))∧xs.length=is.length∧∀ n∈xs,Bd 210 n
 | [],S,ns,x,h=>by
  refine ⟨[],ns,?_,rfl,fun _ h=>absurd h List.not_mem_nil⟩
  have e:S.set k (.lst (ns.map .int))=S:=List.ext_getElem? fun j=>by
   by_cases q:k=j
   ·subst q; rw [List.getElem?_set_self h.lt]; exact h.symm
   ·rw [List.getElem?_set_ne q]
  rw [e]
  exact eO
 | i :: is,S,ns,x,h=>by
  obtain ⟨t,n1,e1,t0,t1,_⟩:=lO (m:=2*W+1) h (by omega) ((Bd.of (k:=210) (n:=2*10 ^ 61+1) (by omega) (by decide +kernel)).mono (by decide))
  obtain ⟨xs,n2,e2,l2,b2⟩:=abL W0 W1 is _ n1 (some (.pv i)) (h.set n1)
  rw [List.set_set] at e2
  have m2:bE (.int 2) (.int W)=some (.int (2*W)):=iM (.inl (.inl ⟨by decide,by decide⟩))
  refine ⟨(t - W) :: xs,n2,?_,by simp [l2],fun n hn=>?_⟩
  ·rw [eW]
   generalize S.set k (.lst (n1.map .int))=S1 at e1 e2
   simp [gN,EC,aM,aJ,aK,fIx,atI,ixN,fEq,fNe,eqN,aP,aO,aQ,aN,aH,aT,frz,aL,m2,e1,e2]
  ·rcases List.mem_cons.mp hn with rfl | hn
   ·exact Bd.of (n:=10 ^ 61) (by omega) (by decide +kernel)
   ·exact b2 n hn
theorem abW {n:Nat} (hn:n=2∨n=3) {k:Nat} {uss:List (List Int)} (S:Sto) (hl:uss.length=n+1) (hg:∀ us∈uss,Gu n 1000 us) (hS:S[k]?=some (.lst (uss.map tv))):iB [.ref k] S=.ok (.pv (.tup ((cnr uss).map tv))) S:=by
 have h34:uss.length=3∨uss.length=4:=by omega
 have e1:=xZ (A:=.lst (uss.map tv)) h34 (.inl rfl) fun us hu=>(hg us hu).ne
 obtain ⟨pm,_⟩:=lH h34
 have hl2:((cN uss).map tv).length=n+1:=by rw [List.length_map,pm.length_eq]; exact hl
 have hg2:∀ v∈(cN uss).map tv,Gp n 1000 v:=gps fun us hu=>hg us (pm.subset hu)
 obtain ⟨d,e2,hd⟩:=acR (A:=.lst ((cN uss).map tv)) hn S hl2 hg2 (.inl rfl)
 obtain ⟨a,b,M,t1,t2,t3,t4⟩:=aiG hn hl2
 unfold cnr
 have hlt:d < 0↔sgP ((cN uss).map tv) < 0:=by
  rw [← hd]
  unfold sg
  split
  ·omega
  ·split <;> omega
 by_cases h:d < 0
 ·rw [if_pos (hlt.mp h),acK]
  generalize (cN uss).map tv=L at *
  unfold iB fnM oM
  simp [EC,aM,aJ,aK,fEq,fNe,bZ,aP,aO,aQ,aN,frz,aL,hS,e1,e2,h,mSl,mO0,mO1,dZ,t1,t2,t3,t4]
 ·rw [if_neg (fun z=>h (hlt.mpr z))]
  generalize (cN uss).map tv=L at *
  unfold iB fnM oM
  simp [EC,aM,aJ,aK,fEq,fNe,bZ,aP,aO,aQ,aN,frz,aL,hS,e1,e2,h]
theorem zU:(", ":Str)=tx [44,32]:=by kernel_rfl
theorem aes:(" + ":Str)=tx [32,43,32]:=by kernel_rfl
theorem uR:("none":Str)=tx [110,111,110,101]:=by kernel_rfl
theorem aeN {L s:List Nat} {k:Nat}:StrLaws.At (tx L) (tx s) (tx L).length k↔k+s.length≤L.length∧∃ B,L.drop k=s++B:=by
 unfold StrLaws.At
 rw [StrLaws.subAt_eq,dR,dR]
 have e1:(tx L).cps.toList=L:=by simp [tx]
 have e2:(tx s).cps.toList=s:=by simp [tx]
 rw [e1,e2]
 refine ⟨fun ⟨a,b⟩=>⟨a,(L.drop k).drop s.length,?_⟩,fun ⟨a,B,b⟩=>⟨a,?_⟩⟩
 ·have b:(L.drop k).take s.length=s:=by simpa using b
  have:=List.take_append_drop s.length (L.drop k)
  rw [b] at this
  exact this.symm
 ·rw [b]
  simp
theorem uS (L:List Nat) (a b:Nat):Builtin.Str.strSub (tx L) a b=tx ((L.drop a).take (b - a)):=by
 have e1:(tx L).cps.toList=L:=by simp [tx]
 have e2:=StrLaws.strSub_toList (tx L) a b
 rw [e1] at e2
 rw [← oV (Builtin.Str.strSub (tx L) a b),e2]
theorem ade {L s1 s2:List Nat} {c:Nat} (h1:c ∉ s1):∀ (P:List (List Nat)) (a:Nat) (cuts:List Nat) (f:Nat),P≠[]→(∀ p∈P,c ∉ p)→L.drop a=jn (s1++c :: s2) P→a≤L.length→StrLaws.ChainG (tx L) (tx (s1++c :: s2)) (tx L).length a cuts f→(∀ k,f≤k→¬ StrLaws.At (tx L) (tx (s1++c :: s2)) (tx L).length k)→StrLaws.partsFrom (tx L) (tx (s1++c :: s2)).length a cuts=P.map tx
 | [],_,_,_,h,_,_,_,_,_=>absurd rfl h
 | [p],a,[],f,_,hp,hd,ha,hc,hf=>by
  have hd:L.drop a=p:=hd
  show [Builtin.Str.strSub (tx L) a (tx L).length]=[tx p]
  rw [uS,dR,hd,List.take_of_length_le]
  rw [← hd,List.length_drop]
  exact Nat.le_refl _
 | [p],a,d :: r,f,_,hp,hd,ha,hc,hf=>by
  have hd:L.drop a=p:=hd
  obtain ⟨h2,h3,_,_⟩:=hc
  obtain ⟨_,B,h4⟩:=aeN.mp h3
  have e:L.drop d=p.drop (d - a):=by rw [← hd,List.drop_drop]; congr 1; omega
  rw [e] at h4
  have:c∈p.drop (d - a):=by rw [h4]; simp
  exact absurd (List.mem_of_mem_drop this) (hp p (by simp))
 | p :: q :: r,a,cuts,f,_,hp,hd,ha,hc,hf=>by
  have hd:L.drop a=p++((s1++c :: s2)++jn (s1++c :: s2) (q :: r)):=hd
  have ll:L.length - a=p.length+((s1++c :: s2).length+(jn (s1++c :: s2) (q :: r)).length):=by rw [← List.length_drop,hd,List.length_append,List.length_append]
  have here:StrLaws.At (tx L) (tx (s1++c :: s2)) (tx L).length (a+p.length):=aeN.mpr ⟨by omega,jn (s1++c :: s2) (q :: r),by rw [← List.drop_drop,hd,List.drop_left]⟩
  have none':∀ k,a≤k→k < a+p.length→¬ StrLaws.At (tx L) (tx (s1++c :: s2)) (tx L).length k:=fun k k1 k2 z=>by
   obtain ⟨_,B,h4⟩:=aeN.mp z
   have e:L.drop k=(L.drop a).drop (k - a):=by rw [List.drop_drop]; congr 1; omega
   rw [e,hd,List.drop_append_of_le_length (by omega)] at h4
   have h5:(p.drop (k - a)++s1)++c :: (s2++jn (s1++c :: s2) (q :: r))=s1++c :: (s2++B):=by
    simpa [List.append_assoc] using h4
   have:=(yC (by
    intro y
    rcases List.mem_append.mp y with y | y
    ·exact hp p (by simp) (List.mem_of_mem_drop y)
    ·exact h1 y) h1 h5).1
   have:=congrArg List.length this
   rw [List.length_append,List.length_drop] at this
   omega
  match cuts,hc with
  | [],hc =>
   have:f=a:=hc
   exact absurd here (hf _ (by omega))
  | d :: r',hc =>
   obtain ⟨h2,h3,h4,h5⟩:=hc
   have d1:¬ d < a+p.length:=fun z=>none' d h2 z h3
   have d2:¬ a+p.length < d:=fun z=>h4 _ (by omega) z here
   have ed:d=a+p.length:=by omega
   subst ed
   have hd2:L.drop (a+p.length+(tx (s1++c :: s2)).length)=jn (s1++c :: s2) (q :: r):=by
    rw [dR,Nat.add_assoc,← List.drop_drop,hd,← List.append_assoc,← List.length_append,List.drop_left]
   have ih:=ade h1 (q :: r) (a+p.length+(tx (s1++c :: s2)).length) r' f (by simp) (fun x hx=>hp x (List.mem_cons_of_mem _ hx)) hd2 (by rw [dR]; omega) h5 hf
   show Builtin.Str.strSub (tx L) a (a+p.length) :: StrLaws.partsFrom (tx L) (tx (s1++c :: s2)).length (a+p.length+(tx (s1++c :: s2)).length) r'=tx p :: (q :: r).map tx
   rw [ih,uS,hd]
   congr 2
   rw [show a+p.length - a=p.length by omega,List.take_left]
theorem akt {s1 s2:List Nat} {c:Nat} (h1:c ∉ s1) (ha:∀ d∈s1++c :: s2,d < 128) {P:List (List Nat)} (h0:P≠[]) (hp:∀ p∈P,c ∉ p):Txt.split (tx (jn (s1++c :: s2) P)) (tx (s1++c :: s2))=P.map tx:=by
 obtain ⟨f,hG,hn⟩:=StrLaws.occ_tight (tx (jn (s1++c :: s2) P)) (tx (s1++c :: s2)) (by rw [dR]; simp; omega)
 have key:=ade h1 P 0 _ f h0 hp (by rfl) (Nat.zero_le _) hG hn
 unfold Txt.split
 split
 ·rename_i hc
  rw [Bool.or_eq_true,decide_eq_true_eq,decide_eq_true_eq] at hc
  have hk:¬ Builtin.Str.strKind (tx (jn (s1++c :: s2) P)) < Builtin.Str.strKind (tx (s1++c :: s2)):=by
   have e:Builtin.Str.strKind (tx (s1++c :: s2))=1:=by
    unfold Builtin.Str.strKind
    rw [if_pos]
    rw [← Array.all_toList,List.all_eq_true]
    intro d hd
    have:d∈s1++c :: s2:=by simpa [tx] using hd
    have:=ha d this
    exact decide_eq_true (by omega)
   rw [e]
   unfold Builtin.Str.strKind
   split
   ·decide
   ·split <;> decide
  have hl:=hc.resolve_right hk
  match P,h0,hl with
  | [p],_,_=>rfl
  | p :: q :: r,_,hl =>
   exfalso
   have:jn (s1++c :: s2) (p :: q :: r)=p++((s1++c :: s2)++jn (s1++c :: s2) (q :: r)):=rfl
   rw [this,dR,dR,List.length_append,List.length_append] at hl
   omega
 ·split
  ·rename_i he
   have e0:=List.isEmpty_iff.mp he
   rw [e0] at key
   rw [← key]
   show _=[Builtin.Str.strSub _ 0 _]
   rw [StrLaws.sub_whole]
  ·rw [StrLaws.partsBetween_eq]
   exact key
theorem aij {s:List Nat} {c:Nat} (hs:c ∉ s):∀ {P:List (List Nat)},(∀ p∈P,c ∉ p)→c ∉ jn s P
 | [],_=>fun z=>by cases z
 | [p],h=>h p (by simp)
 | p :: q :: r,h=>fun z=>by
  have z:c∈p++(s++jn s (q :: r)):=z
  rcases List.mem_append.mp z with z | z
  ·exact h p (by simp) z
  ·rcases List.mem_append.mp z with z | z
   ·exact hs z
   ·exact aij hs (P:=q :: r) (fun x hx=>h x (List.mem_cons_of_mem _ hx)) z
theorem alf {w x:Int} {c:Nat} (h1:isD c=false) (h2:c≠45) (h3:c≠47):c ∉ mT w x:=by
 have nd:∀ m:Nat,c ∉ dg m:=fun m z=>by rw [kP z] at h1; cases h1
 have nt:c ∉ tN (pT w x):=fun z=>by
  unfold tN at z
  split at z
  ·rcases List.mem_cons.mp z with z | z
   ·exact h2 z
   ·exact nd _ z
  ·exact nd _ z
 unfold mT txt
 split
 ·exact nt
 ·intro z
  rcases List.mem_append.mp z with z | z
  ·exact nt z
  ·rcases List.mem_cons.mp z with z | z
   ·exact h3 z
   ·exact nd _ z
def ptx (us:List Int):List Nat:=dW 32 (us.dropLast.map (mT (us.getLastD 0)))
def gp (us:List Int):Prop:=∃ x∈us.dropLast,GR (us.getLastD 0) x
theorem vZ (xs:List Int) (w:Int):(xs++[w]).dropLast=xs∧(xs++[w]).getLastD 0=w:=⟨by simp,by simp⟩
theorem ag2 {n k:Nat} (S:Sto) {us:List Int} (h:Gu n k us) (hk:k≤1000) (hn:n≤3):(gp us→gG [.pv (tv us)] S=.exc "TooGreat" S)∧(¬ gp us→gG [.pv (tv us)] S=.ok (.pv (.str (tx (ptx us)))) S):=by
 obtain ⟨xs,w,rfl,P⟩:=h
 obtain ⟨a,b⟩:=vZ xs w
 have s:=age S P hk hn
 unfold gp ptx
 rw [a,b]
 exact ⟨s.1,fun z=>s.2 fun x hx y=>z ⟨x,hx,y⟩⟩
theorem aho {n k:Nat} (S:Sto) {us:List Int} (h:Gu n k us) (hk:k≤1000) (hn:n≤3):(gp us→hZ [.pv (tv us)] S=.ok (.pv .non) S)∧(¬ gp us→hZ [.pv (tv us)] S=.ok (.pv (.str (tx (ptx us)))) S):=by
 obtain ⟨xs,w,rfl,P⟩:=h
 obtain ⟨a,b⟩:=vZ xs w
 have s:=agv S P hk hn
 unfold gp ptx
 rw [a,b]
 exact ⟨s.1,fun z=>s.2 fun x hx y=>z ⟨x,hx,y⟩⟩
theorem aeI {n k:Nat} (S:Sto) {us:List Int} (hn:n=2∨n=3) (h:Gu n k us) (hk:k≤300) (hg:¬ gp us):jB [.pv (.str (tx (ptx us)))] S=.ok (.pv (tv us)) S:=by
 obtain ⟨xs,w,rfl,P⟩:=h
 obtain ⟨a,b⟩:=vZ xs w
 unfold gp at hg
 unfold ptx
 rw [a,b] at hg ⊢
 exact ajV S hn P hk fun x hx y=>hg ⟨x,hx,y⟩
theorem oZ {n k:Nat} {us:List Int} (h:Gu n k us) (hn:n≤3) (hg:¬ gp us):(ptx us).length≤400:=by
 obtain ⟨xs,w,rfl,P⟩:=h
 obtain ⟨a,b⟩:=vZ xs w
 unfold gp at hg
 unfold ptx
 rw [a,b] at hg ⊢
 have:=adt (c:=32) (B:=130) (P:=xs.map (mT w)) fun p hp=>by
  obtain ⟨x,hx,rfl⟩:=List.mem_map.mp hp
  exact pI fun y=>hg ⟨x,hx,y⟩
 rw [List.length_map,P.len] at this
 omega
theorem vB {us:List Int} {c:Nat} (h1:isD c=false) (h2:c≠45) (h3:c≠47) (h4:c≠32):c ∉ ptx us:=by
 unfold ptx
 rw [uD]
 refine aij (by simpa using h4) fun p hp=>?_
 obtain ⟨x,hx,rfl⟩:=List.mem_map.mp hp
 exact alf h1 h2 h3
def sTx (uss:List (List Int)):List Nat:=jn [44,32] (uss.map ptx)
def gs (uss:List (List Int)):Prop:=∃ us∈uss,gp us
theorem ajX {n k:Nat} (S:Sto) {uss:List (List Int)} (hl:uss.length=n+1) (h:∀ us∈uss,Gu n k us) (hk:k≤1000) (hn:n≤3):(gs uss→iY [.pv (px uss)] S=.exc "TooGreat" S)∧(¬ gs uss→iY [.pv (px uss)] S=.ok (.pv (.str (tx (sTx uss)))) S):=by
 have step:∀ us∈uss,(gp us→(bM gG [] (aC (aA 0) aE)) (some (.pv (tv us)) :: []) S=.exc "TooGreat" S)∧(¬ gp us→(bM gG [] (aC (aA 0) aE)) (some (.pv (tv us)) :: []) S=.ok (.pv (.str (tx (ptx us)))) S):=fun us hu=>by
  obtain ⟨e1,e2⟩:=ag2 S (h us hu) hk hn
  refine ⟨fun z=>?_,fun z=>?_⟩
  ·have e:=e1 z
   generalize tv us=TV at *
   simp [EC,aM,aJ,aK,fIx,atI,ixN,fEq,fNe,eqN,aP,aO,aQ,aN,aH,aT,frz,aL,e]
  ·have e:=e2 z
   generalize tv us=TV,tx (ptx us)=T at *
   simp [EC,aM,aJ,aK,fIx,atI,ixN,fEq,fNe,eqN,aP,aO,aQ,aN,aH,aT,frz,aL,e]
 refine ⟨fun z=>?_,fun z=>?_⟩
 ·have ec:=tL tv (fun us=>.str (tx (ptx us))) gp "TooGreat" uss none step z
  unfold iY fnM px
  unfold nZ
  generalize uss.map tv=UL,(bM gG [] (aC (aA 0) aE))=ME1 at *
  simp [EC,aM,aJ,aK,fIx,atI,ixN,fEq,fNe,eqN,aP,aO,aQ,aN,aH,aT,frz,aL,gO,dC,eD,bS,mIt,bW,ec]
 ·have hg:∀ us∈uss,¬ gp us:=fun us hu y=>z ⟨us,hu,y⟩
  have ec:=mQ tv (fun us=>PV.str (tx (ptx us))) uss none fun us hu=>(step us hu).2 (hg us hu)
  have ej:=rW (s:=[44,32]) (Ls:=uss.map ptx) (B:=400) (by decide) (fun l hl=>by
   obtain ⟨x,hx,rfl⟩:=List.mem_map.mp hl
   exact oZ (h x hx) hn (hg x hx)) (by rw [List.length_map,hl]; omega) (by decide)
  rw [List.map_map,← zU] at ej
  have ej:iT ", " [.lst (uss.map fun us=>.str (tx (ptx us)))]=some (.str (tx (sTx uss))):=ej
  unfold iY fnM px
  unfold nZ
  generalize uss.map tv=UL,tx (sTx uss)=TT,(uss.map fun us=>PV.str (tx (ptx us)))=SL,(bM gG [] (aC (aA 0) aE))=ME1 at *
  simp [EC,aM,aJ,aK,fIx,atI,ixN,fEq,fNe,eqN,aP,aO,aQ,aN,aH,aT,frz,aL,gO,dC,eD,bS,mIt,bW,ec,ej]
theorem ajD {n k:Nat} (S:Sto) {uss:List (List Int)} (hl:uss.length=n+1) (h:∀ us∈uss,Gu n k us) (hk:k≤1000) (hn:n≤3):qJ [.pv (px uss)] S=.ok (.pv (wv gs sTx uss)) S:=by
 have ec:bY [] (gN 0) (aY hZ [] (aC (aA 0) aE)) (uss.map tv) [none] S=.ok (uss.map (wv gp ptx)) S:=by
  refine mP (jJ S) tv (wv gp ptx) uss none fun us hu=>?_
  obtain ⟨e1,e2⟩:=aho S (h us hu) hk hn
  unfold wv
  by_cases z:gp us
  ·rw [if_pos z]
   have e:=e1 z
   generalize tv us=TV at *
   simp [EC,aM,aJ,aK,fIx,atI,ixN,fEq,fNe,eqN,aP,aO,aQ,aN,aH,aT,frz,aL,e]
  ·rw [if_neg z]
   have e:=e2 z
   generalize tv us=TV,tx (ptx us)=T at *
   simp [EC,aM,aJ,aK,fIx,atI,ixN,fEq,fNe,eqN,aP,aO,aQ,aN,aH,aT,frz,aL,e]
 obtain ⟨a1,a2⟩:=aet (bad:=gp) (T:=ptx) (xs:=uss)
 unfold qJ fnM px
 unfold xE
 by_cases z:gs uss
 ·have ew:wv gs sTx uss=.non:=if_pos z
  have a1:=a1 z
  rw [ew]
  generalize uss.map tv=UL,uss.map (wv gp ptx)=WL,(aY hZ [] (aC (aA 0) aE))=ME1 at *
  simp [EC,aM,aJ,aK,fIx,atI,ixN,fEq,fNe,eqN,aP,aO,aQ,aN,aH,aT,frz,aL,bO,bS,mIt,bW,ec,jT,a1]
 ·have hg:∀ us∈uss,¬ gp us:=fun us hu y=>z ⟨us,hu,y⟩
  obtain ⟨a2,a3⟩:=a2 hg
  have ew:wv gs sTx uss=.str (tx (sTx uss)):=if_neg z
  rw [ew]
  have ej:=rW (s:=[44,32]) (Ls:=uss.map ptx) (B:=400) (by decide) (fun l hl=>by
   obtain ⟨x,hx,rfl⟩:=List.mem_map.mp hl
   exact oZ (h x hx) hn (hg x hx)) (by rw [List.length_map,hl]; omega) (by decide)
  rw [List.map_map,← zU] at ej
  have ej:iT ", " [.lst (uss.map fun us=>.str (tx (ptx us)))]=some (.str (tx (sTx uss))):=ej
  rw [← a3] at ej
  generalize uss.map tv=UL,tx (sTx uss)=TT,uss.map (wv gp ptx)=WL,(aY hZ [] (aC (aA 0) aE))=ME1 at *
  simp [EC,aM,aJ,aK,fIx,atI,ixN,fEq,fNe,eqN,aP,aO,aQ,aN,aH,aT,frz,aL,bO,bS,mIt,bW,ec,jT,a2,gO,dC,ej]
theorem acQ {n k:Nat} {uss:List (List Int)} (hl:uss.length=n+1) (h:∀ us∈uss,Gu n k us) (hn:n≤3) (hg:¬ gs uss):(sTx uss).length≤1608:=by
 have:=vM (s:=[44,32]) (B:=400) (P:=uss.map ptx) fun p hp=>by
  obtain ⟨x,hx,rfl⟩:=List.mem_map.mp hp
  exact oZ (h x hx) hn fun y=>hg ⟨x,hx,y⟩
 rw [List.length_map,hl] at this
 have h2:(n+1)*(400+[44,32].length)≤4*402:=Nat.mul_le_mul (by omega) (Nat.le_refl _)
 unfold sTx
 omega
theorem ahb {uss:List (List Int)} {c:Nat} (h1:isD c=false) (h2:c≠45) (h3:c≠47) (h4:c≠32) (h5:c≠44):c ∉ sTx uss:=by
 unfold sTx
 refine aij (by simp [h4,h5]) fun p hp=>?_
 obtain ⟨x,hx,rfl⟩:=List.mem_map.mp hp
 exact vB h1 h2 h3 h4
theorem acE {s1 s2:List Nat} {c:Nat} (h1:c ∉ s1) (ha:∀ d∈s1++c :: s2,d < 128) {P:List (List Nat)} (h0:P≠[]) (hp:∀ p∈P,c ∉ p) (hL:(jn (s1++c :: s2) P).length≤9000000):fH (tx (jn (s1++c :: s2) P)) [.str (tx (s1++c :: s2))]=some (.lst (P.map fun p=>.str (tx p))):=by
 have hs:=akt h1 ha h0 hp (s2:=s2)
 show (if (tx (s1++c :: s2)).length≠0∧(tx (jn (s1++c :: s2) P)).length+2≤16777216 then some (PV.lst ((Txt.split (tx (jn (s1++c :: s2) P)) (tx (s1++c :: s2))).map .str)) else none)=_
 rw [if_pos ⟨by rw [dR,List.length_append,List.length_cons]; omega,by rw [dR]; omega⟩,hs,List.map_map]
 rfl
theorem amg {α:Type} (L:List α):iK [.lst (L.map fun _=>PV.bl true)]=some (.bl true):=by
 have:=acb (L.map fun _=>PV.non)
 rw [List.map_map] at this
 exact this
theorem agY {n k:Nat} {us:List Int} (h:Gu n k us):us.length=n+1:=by
 obtain ⟨xs,w,rfl,P⟩:=h
 rw [List.length_append,P.len]
 rfl
theorem abM {n k:Nat} (S:Sto) (hn:n=2∨n=3) {uss:List (List Int)} (hl:uss.length=n+1) (h:∀ us∈uss,Gu n k us) (hk:k≤300) (hg:¬ gs uss):qH [.pv (.str (tx (sTx uss)))] S=.ok (.pv (.lst (uss.map tv))) S:=by
 have hg2:∀ us∈uss,¬ gp us:=fun us hu y=>hg ⟨us,hu,y⟩
 have ll:=acQ hl h (by omega) hg
 have es:=acE (s1:=[]) (c:=44) (s2:=[32]) (P:=uss.map ptx) (by simp) (by simp) (fun z=>by
  have:=congrArg List.length z
  rw [List.length_map,hl] at this
  cases this) (fun p hp=>by
  obtain ⟨us,hu,rfl⟩:=List.mem_map.mp hp
  exact vB rfl (by decide) (by decide) (by decide)) (Nat.le_trans ll (by decide))
 rw [List.map_map] at es
 have es:fH (tx (sTx uss)) [.str (tx [44,32])]=some (.lst (uss.map fun us=>.str (tx (ptx us)))):=es
 rw [← zU] at es
 have ec:=mQ (S:=S) (me:=bM jB [] (aC (aA 0) aE)) (tail:=[]) (fun us=>.str (tx (ptx us))) tv uss none fun us hu=>by
  have e:=aeI S hn (h us hu) hk (hg2 us hu)
  generalize tx (ptx us)=T,tv us=TV at *
  simp [EC,aM,aJ,aK,fIx,atI,ixN,fEq,fNe,eqN,aP,aO,aQ,aN,aH,aT,frz,aL,e]
 have ea:bY [] (gN 0) (aB fEq (mR cO (aC (aA 0) aE)) (mR cO (aC (aA 1) aE))) (uss.map tv) [none,some (.pv (.lst (uss.map tv)))] S=.ok (uss.map fun _=>.bl true) S:=by
  refine mP (jJ S) tv (fun _=>.bl true) uss none fun us hu=>?_
  have l1:((us.map PV.int).length:Int)=n+1:=by rw [List.length_map,agY (h us hu)]; rfl
  have l2:((uss.map tv).length:Int)=n+1:=by rw [List.length_map,hl]; rfl
  show (aB fEq (mR cO (aC (aA 0) aE)) (mR cO (aC (aA 1) aE))) [some (.pv (.tup (us.map .int))),some (.pv (.lst (uss.map tv)))] S=.ok (.pv (.bl true)) S
  generalize uss.map tv=V,us.map PV.int=U at *
  simp [EC,aM,aJ,aK,fIx,atI,ixN,fEq,fNe,eqN,aP,aO,aQ,aN,aH,aT,frz,aL,l1,l2]
 have eb:=amg uss
 have rf:=iC S true
 rw [if_pos rfl] at rf
 unfold qH fnM
 unfold qF
 generalize tx (sTx uss)=TT,uss.map tv=UL,(uss.map fun us=>PV.str (tx (ptx us)))=SL,(uss.map fun _=>PV.bl true)=BL,(aB fEq (mR cO (aC (aA 0) aE)) (mR cO (aC (aA 1) aE)))=ME2,(bM jB [] (aC (aA 0) aE))=ME1 at *
 simp [EC,aM,aJ,aK,fIx,atI,ixN,fEq,fNe,eqN,aP,aO,aQ,aN,aH,aT,frz,aL,eD,bO,bS,mIt,dO,dC,es,bW,ec,ea,eb,rf]
abbrev Rr:=List (List Int) × Int × List Int
abbrev rv (r:Rr):PV:=.tup [px r.1,.tup [.int r.2.1,tv r.2.2]]
structure Rt (n k l:Nat) (r:Rr):Prop where
 sx:Sx n k r.1
 way:r.2.1=1∨r.2.1=-1
 gu:Gu n l r.2.2
theorem in2 {g:Int} (h:g=1∨g=-1):fIn true (.int g) (.lst [.int 1,.int (-1)])=some (.bl false):=by
 rcases h with rfl | rfl <;> rfl
theorem akZ {n k:Nat} (S:Sto) (hk:k≤2000) {f:List Int} (h:Gu n k f):iZ [.pv (tv f),.pv (.int n)] S=.ok (.pv (.bl true)) S:=by
 obtain ⟨xs,w,rfl,P⟩:=h
 exact acZ S hk P
abbrev fB:MS:=(aR (sIf (mOr (fD (bD (mUn (eI "tuple") (aA 3)))) (mOr (bD (aB fNe (mR cO (aC (aA 3) aE)) (mC (.int 2)))) (fD (bD (aY nW [] (aC (aB fIx (aA 3) (mC (.int 0))) (aC (aA 1) aE))))))) (bC (mC (.bl false))) bV)
 (aR (sIf (mOr (fD (bD (mUn (eI "tuple") (aB fIx (aA 3) (mC (.int 1)))))) (bD (aB fNe (mR cO (aC (aB fIx (aA 3) (mC (.int 1))) aE)) (mC (.int 2))))) (bC (mC (.bl false))) bV)
 (sIf (mOr (fD (bD (aY kJ [] (aC (aB fIx (aB fIx (aA 3) (mC (.int 1))) (mC (.int 0))) aE)))) (mOr (bD (aB (fIn true) (aB fIx (aB fIx (aA 3) (mC (.int 1))) (mC (.int 0))) (aA 2))) (fD (bD (aY iZ [] (aC (aB fIx (aB fIx (aA 3) (mC (.int 1))) (mC (.int 1))) (aC (aA 1) aE))))))) (bC (mC (.bl false))) bV)))
theorem abf {n k l:Nat} (hn:n=2∨n=3) (S:Sto) (hk:k≤1000) (hl:l≤1000) (x0:Option AV):∀ (rs:List Rr) (x3:Option AV),(∀ r∈rs,Rt n k l r)→∃ y3,dD [] (gN 3) fB (rs.map rv) [x0,some (.pv (.int (n:Int))),some (.pv (.lst [.int 1,.int (-1)])),x3] S=.nx [x0,some (.pv (.int (n:Int))),some (.pv (.lst [.int 1,.int (-1)])),y3] S
 | [],x3,_=>⟨x3,jE⟩
 | r :: rs,x3,h=>by
  obtain ⟨y3,e⟩:=abf hn S hk hl x0 rs (some (.pv (rv r))) fun q hq=>h q (List.mem_cons_of_mem _ hq)
  refine ⟨y3,?_⟩
  have R:=h r List.mem_cons_self
  have e1:=agO hn S R.sx.len (fun us hu=>(R.sx.gu us hu).mono hk) (by rw [rP hn hk R.sx.len R.sx.gu]; exact fun z=>R.sx.nz (acF.mp z)) R.sx.cn
  have e2:=akZ S (show l≤2000 by omega) R.gu
  have e3:=in2 R.way
  have e4:=ada r.2.1 S
  rw [List.map_cons,jD]
  simp only [gN,List.set_cons_succ,List.set_cons_zero]
  have es:fB [x0,some (.pv (.int (n:Int))),some (.pv (.lst [.int 1,.int (-1)])),some (.pv (rv r))] S=.nx [x0,some (.pv (.int (n:Int))),some (.pv (.lst [.int 1,.int (-1)])),some (.pv (rv r))] S:=by
   have hrv:rv r=.tup [px r.1,.tup [.int r.2.1,tv r.2.2]]:=rfl
   have hp:px r.1=.tup (r.1.map tv):=rfl
   rw [hrv,hp]
   generalize r.1.map tv=P1 at *
   have e2:iZ [.pv (.tup (r.2.2.map .int)),.pv (.int (n:Int))] S=.ok (.pv (.bl true)) S:=e2
   simp only [tv]
   generalize (n:Int)=N,r.2.1=W,r.2.2.map PV.int=T1 at *
   unfold fB
   simp [EC,aM,aJ,aK,fIx,atI,ixN,fEq,fNe,eqN,aP,aO,aQ,aN,aH,aT,frz,aL,eI,e1,e2,e3,e4]
  rw [es]
  exact e
theorem afR {n k l:Nat} (hn:n=2∨n=3) (S:Sto) (hk:k≤1000) (hl:l≤1000) {rs:List Rr} (h:∀ r∈rs,Rt n k l r):nX [.pv (.tup (rs.map rv)),.pv (.int (n:Int)),.pv (.lst [.int 1,.int (-1)])] S=.ok (.pv (.bl true)) S:=by
 obtain ⟨y3,e⟩:=abf hn S hk hl (some (.pv (.tup (rs.map rv)))) rs none h
 have hb:wY=(aR (sIf (fD (bD (mUn (eI "tuple") (aA 0)))) (bC (mC (.bl false))) bV) (aR (dI (mIt (aA 0)) (gN 3) fB) (bC (mC (.bl true))))):=rfl
 unfold nX fnM
 rw [hb]
 generalize (n:Int)=N,rs.map rv=RL,fB=FB at *
 simp [EC,aM,aJ,aK,fIx,atI,ixN,fEq,fNe,eqN,aP,aO,aQ,aN,aH,aT,frz,aL,eI,dI,mIt,bW,e]
def ppB:MS:=(aR (bA 10 (bO ["_law_n"] [(3,"_law_wide"),(0,"_law_row_here")] (fR (aC (aA 1) aE)) (gN 0) (aB dJ (aY cG [] (aC (aA 2) (aC (aB aH (aB bE (mC (.int 2)) (aA 1)) (mC (.int 1))) aE))) (aA 1))))
 (eF (fY (aA 8) (aC (aY fG [] (aC (aB aH (aA 10) (mN dQ (aC (aB aH (mC (.int 1)) (aY cG [] (aC (aA 0) (aC (aA 5) aE)))) aE))) aE)) aE))))
def ggB:MS:=(aR (bA 8 (iJ aE))
 (aR (dI (fR (aC (aB aH (aA 1) (mC (.int 1))) aE)) (gN 9) ppB)
 (sIf (bD (aB fNe (aY fM [] (aC (aA 8) aE)) (mC (.int 0)))) (eF (fY (aA 6) (aC (aY iB [] (aC (aA 8) aE)) aE))) bV)))
theorem aii {S:Sto} {k:Nat} (hk:k≠0) (a a' b b':SO):(((S.set 0 a).set k b).set 0 a').set k b'=(S.set 0 a').set k b':=by
 rw [List.set_comm (l:=S.set 0 a) b a' hk,List.set_set,List.set_set]
theorem akI {S:Sto} {k:Nat} (h:k < S.length) (a b:SO):((S.set 0 a).set k b)[k]?=some b:=List.getElem?_set_self (by rw [List.length_set]; exact h)
theorem akd {S:Sto} {k:Nat} (hk:k≠0) (h:0 < S.length) (a b:SO):((S.set 0 a).set k b)[0]?=some a:=by
 rw [List.getElem?_set_ne hk]
 exact List.getElem?_set_self h
theorem alw {n:Nat} (hn:n=2∨n=3) {W U:Int} (W0:0≤W) (W1:W≤10 ^ 61) (U0:0 < U) (U1:U≤10 ^ 61) {S:Sto} {ns:List Int} (h0:Row S 0 ns) {k:Nat} (hk:k≠0) {uss:List (List Int)} (hS:S[k]?=some (.lst (uss.map tv))) (hl:uss.length≤99) (x2 x4 x6 x7 x9 x10:Option AV):∃ (us:List Int) (ns':List Int) (y10:Option AV),ppB [some (.ref 0),some (.pv (.int (n:Int))),x2,some (.pv (.int W)),x4,some (.pv (.int U)),x6,x7,some (.ref k),x9,x10] S=.nx [some (.ref 0),some (.pv (.int (n:Int))),x2,some (.pv (.int W)),x4,some (.pv (.int U)),x6,x7,some (.ref k),x9,y10] ((S.set 0 (.lst (li ns'))).set k (.lst ((uss++[us]).map tv)))∧Gu n 210 us:=by
 obtain ⟨xs,n1,e1,l1,b1⟩:=abL (k:=0) W0 W1 (dA 0 n) S ns none h0
 have h1:=h0.set n1
 obtain ⟨b,n2,e2,b0,b2,_⟩:=lO (m:=U) h1 U0 ((Bd.of (k:=210) (n:=10 ^ 61) (by omega) (by decide +kernel)).mono (by decide))
 rw [List.set_set] at e2
 have l:(dA 0 n).length=n:=by unfold dA; simp
 rw [l] at l1
 have bb:Bd 210 (1+b):=Bd.of (n:=10 ^ 61+1) (by omega) (by decide +kernel)
 obtain ⟨zs,z,el,Z,_⟩:=rN (n:=n) (k:=210) (L:=xs) (b:=1+b) (by omega) l1 b1 bb
 have ew:=qR (xs++[1+b]) (S.set 0 (.lst (li n2))) fun x hx=>by
  rcases List.mem_append.mp hx with y | y
  ·exact (b1 x y).mono (by decide)
  ·have:x=1+b:=by simpa using y
   rw [this]; exact bb.mono (by decide)
 rw [el,List.map_append] at ew
 have ew:fG [.pv (.lst (xs.map .int++[.int (1+b)]))] (S.set 0 (.lst (li n2)))=.ok (.pv (tv (zs++[z]))) (S.set 0 (.lst (li n2))):=ew
 have rg:=rgn S (n:=n) (by omega)
 have A2:aH (.int 1) (.int b)=some (.int (1+b)):=rfl
 have A3:aH (.lst (xs.map .int)) (.lst [.int (1+b)])=some (.lst (xs.map .int++[.int (1+b)])):=if_pos (by rw [List.length_map,l1]; show n+1≤16777216; omega)
 have hS2:(S.set 0 (.lst (li n2)))[k]?=some (.lst (uss.map tv)):=by rw [List.getElem?_set_ne (fun z=>hk z.symm)]; exact hS
 have lz:(uss.map tv).length < 16777216:=by rw [List.length_map]; omega
 have em:(uss++[zs++[z]]).map tv=uss.map tv++[tv (zs++[z])]:=by simp
 refine ⟨zs++[z],n2,some (.pv (.lst (xs.map .int))),?_,⟨zs,z,rfl,Z⟩⟩
 rw [em]
 unfold ppB
 have e1:bY [] (gN 0) (aB dJ (aY cG [] (aC (aA 2) (aC (aB aH (aB bE (mC (.int 2)) (aA 1)) (mC (.int 1))) aE))) (aA 1)) (dA 0 n) [none,some (.pv (.int W)),some (.ref 0)] S=.ok (xs.map .int) (S.set 0 (.lst (li n1))):=e1
 have e2:cG [.ref 0,.pv (.int U)] (S.set 0 (.lst (li n1)))=.ok (.pv (.int b)) (S.set 0 (.lst (li n2))):=e2
 generalize (n:Int)=N,1+b=B1,uss.map tv=UL,xs.map PV.int=XL,dA 0 n=IL,S.set 0 (.lst (li n2))=S2,S.set 0 (.lst (li n1))=S1,tv (zs++[z])=TV,(aB dJ (aY cG [] (aC (aA 2) (aC (aB aH (aB bE (mC (.int 2)) (aA 1)) (mC (.int 1))) aE))) (aA 1))=ME1 at *
 simp [EC,aM,aJ,aK,fEq,fNe,bZ,aP,aO,aQ,aN,frz,aL,bO,bS,fR,rg,e1,e2,A2,A3,ew,fY,jR,lX,hS2,lz]
theorem akj {n:Nat} (hn:n=2∨n=3) {W U:Int} (W0:0≤W) (W1:W≤10 ^ 61) (U0:0 < U) (U1:U≤10 ^ 61) {k:Nat} (hk:k≠0) (x2 x4 x6 x7:Option AV):∀ (is:List PV) (S:Sto) (ns:List Int) (uss:List (List Int)) (x9 x10:Option AV),Row S 0 ns→S[k]?=some (.lst (uss.map tv))→uss.length+is.length≤99→(∀ us∈uss,Gu n 210 us)→∃ (vss:List (List Int)) (ns':List Int) (y9 y10:Option AV),dD [] (gN 9) ppB is [some (.ref 0),some (.pv (.int (n:Int))),x2,some (.pv (.int W)),x4,some (.pv (.int U)),x6,x7,some (.ref k),x9,x10] S=.nx [some (.ref 0),some (.pv (.int (n:Int))),x2,some (.pv (.int W)),x4,some (.pv (.int U)),x6,x7,some (.ref k),y9,y10] ((S.set 0 (.lst (li ns'))).set k (.lst (vss.map tv)))∧vss.length=uss.length+is.length∧∀ us∈vss,Gu n 210 us
 | [],S,ns,uss,x9,x10,h0,hS,_,hg=>by
  refine ⟨uss,ns,x9,x10,?_,rfl,hg⟩
  have e1:S.set 0 (.lst (li ns))=S:=agH h0
  have e2:S.set k (.lst (uss.map tv))=S:=List.ext_getElem? fun j=>by
   by_cases q:k=j
   ·subst q
    rw [List.getElem?_set_self (List.getElem?_eq_some_iff.mp hS).1]
    exact hS.symm
   ·rw [List.getElem?_set_ne q]
  rw [e1,e2]
  exact jE
 | i :: is,S,ns,uss,x9,x10,h0,hS,h9,hg=>by
  have h9:uss.length+(is.length+1)≤99:=h9
  obtain ⟨us,n1,y10,e1,g1⟩:=alw hn W0 W1 U0 U1 h0 hk hS (by omega) x2 x4 x6 x7 (some (.pv i)) x10
  have kl:=(List.getElem?_eq_some_iff.mp hS).1
  obtain ⟨vss,n2,z9,z10,e2,l2,g2⟩:=akj hn W0 W1 U0 U1 hk x2 x4 x6 x7 is ((S.set 0 (.lst (li n1))).set k (.lst ((uss++[us]).map tv))) n1 (uss++[us]) (some (.pv i)) y10 (akd hk h0.lt _ _) (akI kl _ _) (by rw [List.length_append,List.length_singleton]; omega) (fun u hu=>by
   rcases List.mem_append.mp hu with y | y
   ·exact hg u y
   ·have:u=us:=by simpa using y
    rw [this]; exact g1)
  rw [aii hk] at e2
  refine ⟨vss,n2,z9,z10,?_,by rw [l2,List.length_append,List.length_singleton,List.length_cons]; omega,g2⟩
  rw [jD]
  simp only [gN,List.set_cons_succ,List.set_cons_zero]
  rw [e1]
  exact e2
theorem alm {n:Nat} (hn:n=2∨n=3) {W U:Int} (W0:0≤W) (W1:W≤10 ^ 61) (U0:0 < U) (U1:U≤10 ^ 61) {S:Sto} {ns:List Int} {ts:List (List (List Int))} (h0:Row S 0 ns) (h1:S[2]?=some (.lst (ts.map px))) (hts:ts.length≤99) (hx:∀ uss∈ts,Sx n 210 uss) (x2 x4 x7 x8 x9 x10:Option AV):∃ (S':Sto) (ns':List Int) (ts':List (List (List Int))) (y8 y9 y10:Option AV),ggB [some (.ref 0),some (.pv (.int (n:Int))),x2,some (.pv (.int W)),x4,some (.pv (.int U)),some (.ref 2),x7,x8,x9,x10] S=.nx [some (.ref 0),some (.pv (.int (n:Int))),x2,some (.pv (.int W)),x4,some (.pv (.int U)),some (.ref 2),x7,y8,y9,y10] S'∧Row S' 0 ns'∧S'[2]?=some (.lst (ts'.map px))∧(∀ uss∈ts',Sx n 210 uss)∧ts'.length≤ts.length+1∧S'[1]?=S[1]?:=by
 have s1:=(List.getElem?_eq_some_iff.mp h1).1
 have hk0:S.length≠0:=by omega
 have hk1:S.length≠2:=by omega
 have r0:Row (S++[.lst []]) 0 ns:=by
  show (S++[.lst []])[0]?=_
  rw [List.getElem?_append_left (by omega)]
  exact h0
 have rk:(S++[SO.lst []])[S.length]?=some (.lst (([]:List (List Int)).map tv)):=by
  rw [List.getElem?_append_right (Nat.le_refl _),Nat.sub_self]
  rfl
 obtain ⟨vss,n1,y9,y10,e1,l1,g1⟩:=akj hn W0 W1 U0 U1 hk0 x2 x4 (some (.ref 2)) x7 (dA 0 (n+1)) (S++[.lst []]) ns [] x9 x10 r0 rk (by unfold dA; simp; omega) (fun _ h=>by cases h)
 have lv3:vss.length=n+1:=by rw [l1]; unfold dA; simp
 have sl:S.length < (S++[SO.lst []]).length:=by rw [List.length_append]; simp
 have q0:(((S++[SO.lst []]).set 0 (.lst (li n1))).set S.length (.lst (vss.map tv)))[0]?=some (.lst (li n1)):=akd hk0 r0.lt _ _
 have q1:(((S++[SO.lst []]).set 0 (.lst (li n1))).set S.length (.lst (vss.map tv)))[2]?=some (.lst (ts.map px)):=by
  rw [List.getElem?_set_ne hk1,List.getElem?_set_ne (by decide),List.getElem?_append_left s1]
  exact h1
 have qk:(((S++[SO.lst []]).set 0 (.lst (li n1))).set S.length (.lst (vss.map tv)))[S.length]?=some (.lst (vss.map tv)):=akI sl _ _
 have q3:(((S++[SO.lst []]).set 0 (.lst (li n1))).set S.length (.lst (vss.map tv)))[1]?=S[1]?:=by
  rw [List.getElem?_set_ne (by omega),List.getElem?_set_ne (by decide),List.getElem?_append_left (by omega)]
 obtain ⟨d,hd,_,_,ed⟩:=akS hn lv3 (fun us hu=>(g1 us hu).mono (by decide))
 have ed:=ed _ _ qk
 have es:=abW hn (((S++[SO.lst []]).set 0 (.lst (li n1))).set S.length (.lst (vss.map tv))) lv3 (fun us hu=>(g1 us hu).mono (by decide)) qk
 have es:iB [.ref S.length] (((S++[SO.lst []]).set 0 (.lst (li n1))).set S.length (.lst (vss.map tv)))=.ok (.pv (px (cnr vss))) (((S++[SO.lst []]).set 0 (.lst (li n1))).set S.length (.lst (vss.map tv))):=es
 have rg:=rgn (S++[.lst []]) (n:=n+1) (by omega)
 unfold ggB
 have e1':=e1
 have lz:(ts.map px).length < 16777216:=by rw [List.length_map]; omega
 have a1:aH (.int (n:Int)) (.int 1)=some (.int ((n+1:Nat):Int)):=rfl
 generalize ((S++[SO.lst []]).set 0 (.lst (li n1))).set S.length (.lst (vss.map tv))=S2 at *
 by_cases hz:d=0
 ·refine ⟨S2,n1,ts,some (.ref S.length),y9,y10,?_,q0,q1,hx,by omega,q3⟩
  subst hz
  generalize (n:Int)=N,((n+1:Nat):Int)=N1,dA 0 (n+1)=IL,ppB=PBX at *
  simp [EC,aM,aJ,aK,fEq,fNe,bZ,aP,aO,aQ,aN,frz,aL,iJ,nN,dI,fR,a1,rg,e1,ed]
 ·have nz:dU vss≠0:=fun z=>by
   rw [z] at hd
   exact hz (acF.mp (by rw [hd]; rfl))
  have sx:=alg hn (by decide) lv3 g1 nz
  refine ⟨S2.set 2 (.lst ((ts++[cnr vss]).map px)),n1,ts++[cnr vss],some (.ref S.length),y9,y10,?_,?_,?_,fun u hu=>?_,by rw [List.length_append]; exact Nat.le_refl _,by rw [List.getElem?_set_ne (by decide)]; exact q3⟩
  ·have em:(ts++[cnr vss]).map px=ts.map px++[px (cnr vss)]:=by simp
   rw [em]
   have hz:(d == 0)=false:=by simpa using hz
   generalize (n:Int)=N,((n+1:Nat):Int)=N1,dA 0 (n+1)=IL,ts.map px=TL,px (cnr vss)=PX,ppB=PBX at *
   simp [EC,aM,aJ,aK,fEq,fNe,bZ,aP,aO,aQ,aN,frz,aL,iJ,nN,dI,fR,a1,rg,e1,ed,hz,es,fY,jR,lX,q1,lz]
  ·show (S2.set 2 _)[0]?=_
   rw [List.getElem?_set_ne (by decide)]
   exact q0
  ·exact List.getElem?_set_self (List.getElem?_eq_some_iff.mp q1).1
  ·rcases List.mem_append.mp hu with y | y
   ·exact hx u y
   ·have:u=cnr vss:=by simpa using y
    rw [this]; exact sx
theorem ajF {n:Nat} (hn:n=2∨n=3) {W U:Int} (W0:0≤W) (W1:W≤10 ^ 61) (U0:0 < U) (U1:U≤10 ^ 61) (x2 x4:Option AV):∀ (is:List PV) (S:Sto) (ns:List Int) (ts:List (List (List Int))) (x7 x8 x9 x10:Option AV),Row S 0 ns→S[2]?=some (.lst (ts.map px))→ts.length+is.length≤99→(∀ uss∈ts,Sx n 210 uss)→∃ (S':Sto) (ns':List Int) (ts':List (List (List Int))) (y7 y8 y9 y10:Option AV),dD [] (gN 7) ggB is [some (.ref 0),some (.pv (.int (n:Int))),x2,some (.pv (.int W)),x4,some (.pv (.int U)),some (.ref 2),x7,x8,x9,x10] S=.nx [some (.ref 0),some (.pv (.int (n:Int))),x2,some (.pv (.int W)),x4,some (.pv (.int U)),some (.ref 2),y7,y8,y9,y10] S'∧Row S' 0 ns'∧S'[2]?=some (.lst (ts'.map px))∧(∀ uss∈ts',Sx n 210 uss)∧ts'.length≤ts.length+is.length∧S'[1]?=S[1]?
 | [],S,ns,ts,x7,x8,x9,x10,h0,h1,_,hx=>⟨S,ns,ts,x7,x8,x9,x10,jE,h0,h1,hx,Nat.le_refl _,rfl⟩
 | i :: is,S,ns,ts,x7,x8,x9,x10,h0,h1,h9,hx=>by
  have h9:ts.length+(is.length+1)≤99:=h9
  obtain ⟨S1,n1,t1,y8,y9,y10,e1,r1,q1,g1,l1,k1⟩:=alm hn W0 W1 U0 U1 h0 h1 (by omega) hx x2 x4 (some (.pv i)) x8 x9 x10
  obtain ⟨S2,n2,t2,z7,z8,z9,z10,e2,r2,q2,g2,l2,k2⟩:=ajF hn W0 W1 U0 U1 x2 x4 is S1 n1 t1 (some (.pv i)) y8 y9 y10 r1 q1 (by omega) g1
  refine ⟨S2,n2,t2,z7,z8,z9,z10,?_,r2,q2,g2,by rw [List.length_cons]; omega,k2.trans k1⟩
  rw [jD]
  simp only [gN,List.set_cons_succ,List.set_cons_zero]
  rw [e1]
  exact e2
theorem ak7:(" by ":Str)=tx [32,98,121,32]:=by kernel_rfl
theorem uW:("push":Str)=tx [112,117,115,104]:=by kernel_rfl
theorem uQ:("turn":Str)=tx [116,117,114,110]:=by kernel_rfl
def wy (w:Int):List Nat:=if w=1 then [112,117,115,104] else [116,117,114,110]
def mvT (w:Int) (us:List Int):List Nat:=wy w++32 :: ptx us
def rT (r:Rr):List Nat:=sTx r.1++([32,98,121,32]++mvT r.2.1 r.2.2)
def gr (r:Rr):Prop:=gs r.1∨gp r.2.2
theorem pE (w:Int):(wy w).length=4:=by unfold wy; split <;> rfl
theorem ajY (w:Int):32 ∉ wy w∧43 ∉ wy w∧98 ∉ wy w:=by unfold wy; split <;> decide
theorem ahm {w:Int} {us:List Int}:43 ∉ mvT w us∧98 ∉ mvT w us:=by
 obtain ⟨_,a,b⟩:=ajY w
 refine ⟨fun z=>?_,fun z=>?_⟩
 ·rcases List.mem_append.mp z with z | z
  ·exact a z
  ·rcases List.mem_cons.mp z with z | z
   ·cases z
   ·exact vB rfl (by decide) (by decide) (by decide) z
 ·rcases List.mem_append.mp z with z | z
  ·exact b z
  ·rcases List.mem_cons.mp z with z | z
   ·cases z
   ·exact vB rfl (by decide) (by decide) (by decide) z
theorem ald {r:Rr}:43 ∉ rT r:=fun z=>by
 rcases List.mem_append.mp z with z | z
 ·exact ahb rfl (by decide) (by decide) (by decide) (by decide) z
 ·rcases List.mem_append.mp z with z | z
  ·exact absurd z (by decide)
  ·exact ahm.1 z
theorem pL {n k l:Nat} {r:Rr} (h:Rt n k l r) (hn:n≤3) (hg:¬ gr r):(rT r).length≤2100∧(sTx r.1).length≤1608∧(ptx r.2.2).length≤400:=by
 have a:=acQ h.sx.len h.sx.gu hn fun z=>hg (.inl z)
 have b:=oZ h.gu hn fun z=>hg (.inr z)
 have c:=pE r.2.1
 refine ⟨?_,a,b⟩
 have ml:(mvT r.2.1 r.2.2).length=4+((ptx r.2.2).length+1):=by
  unfold mvT
  rw [List.length_append,List.length_cons,c]
 unfold rT
 rw [List.length_append,List.length_append,ml]
 show (sTx r.1).length+(4+_)≤2100
 omega
theorem agr {n l:Nat} (S:Sto) {w:Int} {us:List Int} (hw:w=1∨w=-1) (h:Gu n l us) (hl:l≤1000) (hn:n≤3):(gp us→jC [.pv (.tup [.int w,tv us])] S=.exc "TooGreat" S)∧(¬ gp us→jC [.pv (.tup [.int w,tv us])] S=.ok (.pv (.str (tx (mvT w us)))) S):=by
 obtain ⟨e1,e2⟩:=ag2 S h hl hn
 have ep:qU [.pv (.tup [.int w,tv us])] S=.ok (.pv (.bl (w == 1))) S:=by
  generalize tv us=TV
  unfold qU fnM yP
  simp [EC,aM,aJ,aK,fIx,atI,ixN,fEq,fNe,eqN,aP,aO,aQ,aN,aH,aT,frz,aL]
 have i1:fIx (.tup [.int w,tv us]) (.int 1)=some (tv us):=rfl
 have a1:cY (.str (if (w == 1)=true then "push" else "turn")) (.str " ")=some (.str (tx (wy w++[32]))):=by
  have:(if (w == 1)=true then ("push":Str) else "turn")=tx (wy w):=by
   unfold wy
   rcases hw with rfl | rfl
   ·exact uW
   ·exact uQ
  rw [this,oX]
  exact jN (by rw [pE]; decide)
 refine ⟨fun z=>?_,fun z=>?_⟩
 ·have e:=e1 z
  unfold jC fnM
  unfold oF
  generalize tv us=TV at *
  generalize PV.tup [.int w,TV]=MV at *
  rcases hw with rfl | rfl
  ·simp only [show ((1:Int) == 1)=true from rfl,if_true] at a1 ep
   simp [EC,aM,aJ,aK,fEq,fNe,bZ,aP,aO,aQ,aN,aH,aT,frz,aL,ep,a1,i1,e]
  ·simp only [show ((-1:Int) == 1)=false from rfl,Bool.false_eq_true,if_false] at a1 ep
   simp [EC,aM,aJ,aK,fEq,fNe,bZ,aP,aO,aQ,aN,aH,aT,frz,aL,ep,a1,i1,e]
 ·have e:=e2 z
  have lp:=oZ h hn z
  have a2:cY (.str (tx (wy w++[32]))) (.str (tx (ptx us)))=some (.str (tx (mvT w us))):=by
   rw [jN (by rw [List.length_append,pE]; show 4+1+_≤_; omega),List.append_assoc]
   rfl
  unfold jC fnM
  unfold oF
  generalize tv us=TV at *
  generalize tx (wy w++[32])=T3,tx (mvT w us)=T2,tx (ptx us)=T1,PV.tup [.int w,TV]=MV at *
  rcases hw with rfl | rfl
  ·simp only [show ((1:Int) == 1)=true from rfl,if_true] at a1 ep
   simp [EC,aM,aJ,aK,fEq,fNe,bZ,aP,aO,aQ,aN,aH,aT,frz,aL,ep,a1,i1,e,a2]
  ·simp only [show ((-1:Int) == 1)=false from rfl,Bool.false_eq_true,if_false] at a1 ep
   simp [EC,aM,aJ,aK,fEq,fNe,bZ,aP,aO,aQ,aN,aH,aT,frz,aL,ep,a1,i1,e,a2]
theorem aht {n k l:Nat} {r:Rr} (h:Rt n k l r) (hn:n≤3) (hg:¬ gr r):cY (.str (tx (sTx r.1))) (.str " by ")=some (.str (tx (sTx r.1++[32,98,121,32])))∧cY (.str (tx (sTx r.1++[32,98,121,32]))) (.str (tx (mvT r.2.1 r.2.2)))=some (.str (tx (rT r))):=by
 obtain ⟨a,b,c⟩:=pL h hn hg
 have ml:(mvT r.2.1 r.2.2).length≤405:=by
  unfold mvT
  rw [List.length_append,List.length_cons,pE]
  omega
 refine ⟨by rw [ak7]; exact jN (by show _+4≤_; omega),?_⟩
 rw [jN (by rw [List.length_append]; show _+4+_≤_; omega),List.append_assoc]
 rfl
theorem agp {n k l:Nat} (S:Sto) {r:Rr} (h:Rt n k l r) (hk:k≤1000) (hl:l≤1000) (hn:n≤3):(gr r→(aB cY (aB cY (bM iY [] (aC (aB fIx (aA 0) (mC (.int 0))) aE)) (mC (.str " by "))) (bM jC [] (aC (aB fIx (aA 0) (mC (.int 1))) aE))) (some (.pv (rv r)) :: []) S=.exc "TooGreat" S)∧(¬ gr r→(aB cY (aB cY (bM iY [] (aC (aB fIx (aA 0) (mC (.int 0))) aE)) (mC (.str " by "))) (bM jC [] (aC (aB fIx (aA 0) (mC (.int 1))) aE))) (some (.pv (rv r)) :: []) S=.ok (.pv (.str (tx (rT r)))) S):=by
 obtain ⟨e1,e2⟩:=ajX S h.sx.len h.sx.gu hk hn
 obtain ⟨f1,f2⟩:=agr S h.way h.gu hl hn
 have i0:fIx (rv r) (.int 0)=some (px r.1):=rfl
 have i1:fIx (rv r) (.int 1)=some (.tup [.int r.2.1,tv r.2.2]):=rfl
 refine ⟨fun z=>?_,fun z=>?_⟩
 ·by_cases y:gs r.1
  ·have e:=e1 y
   generalize rv r=RV,px r.1=PX,PV.tup [.int r.2.1,tv r.2.2]=MV at *
   simp [EC,aM,aJ,aK,fEq,fNe,bZ,aP,aO,aQ,aN,aH,aT,frz,aL,i0,e]
  ·have e:=e2 y
   have f:=f1 (z.resolve_left y)
   have ls:=acQ h.sx.len h.sx.gu hn y
   have a1:cY (.str (tx (sTx r.1))) (.str " by ")=some (.str (tx (sTx r.1++[32,98,121,32]))):=by rw [ak7]; exact jN (by show _+4≤_; omega)
   generalize tx (sTx r.1)=T1,tx (sTx r.1++[32,98,121,32])=T2,rv r=RV,px r.1=PX,PV.tup [.int r.2.1,tv r.2.2]=MV at *
   simp [EC,aM,aJ,aK,fEq,fNe,bZ,aP,aO,aQ,aN,aH,aT,frz,aL,i0,e,a1,i1,f]
 ·have e:=e2 fun y=>z (.inl y)
  have f:=f2 fun y=>z (.inr y)
  obtain ⟨a1,a2⟩:=aht h hn z
  generalize tx (sTx r.1)=T1,tx (sTx r.1++[32,98,121,32])=T2,tx (mvT r.2.1 r.2.2)=T3,tx (rT r)=T4,rv r=RV,px r.1=PX,PV.tup [.int r.2.1,tv r.2.2]=MV at *
  simp [EC,aM,aJ,aK,fEq,fNe,bZ,aP,aO,aQ,aN,aH,aT,frz,aL,i0,e,a1,i1,f,a2]
def cX (rs:List Rr):List Nat:=if rs=[] then [110,111,110,101] else jn [32,43,32] (rs.map rT)
def gc (rs:List Rr):Prop:=∃ r∈rs,gr r
theorem ajA (S:Sto) {rs:List Rr} (hl:rs.length≤200) (h:∀ r∈rs,(rT r).length≤2100):oG [.pv (.lst (rs.map fun r=>.str (tx (rT r))))] S=.ok (.pv (.str (tx (cX rs)))) S:=by
 have ej:=rW (s:=[32,43,32]) (Ls:=rs.map rT) (B:=2100) (by decide) (fun l hl=>by
  obtain ⟨x,hx,rfl⟩:=List.mem_map.mp hl
  exact h x hx) (by rw [List.length_map]; exact hl) (by decide)
 rw [List.map_map,← aes] at ej
 have ej:iT " + " [.lst (rs.map fun r=>.str (tx (rT r)))]=some (.str (tx (jn [32,43,32] (rs.map rT)))):=ej
 cases rs with
 | nil =>
  have eh:cX []=[110,111,110,101]:=if_pos rfl
  rw [eh,← uR]
  unfold oG fnM sZ
  simp [EC,aM,aJ,aK,fIx,atI,ixN,fEq,fNe,eqN,aP,aO,aQ,aN,aH,aT,frz,aL,wF,vL]
 | cons u r =>
  have eh:cX (u :: r)=jn [32,43,32] ((u :: r).map rT):=if_neg (by simp)
  rw [eh]
  unfold oG fnM sZ
  have ne:((u :: r).map fun r=>PV.str (tx (rT r))).isEmpty=false:=rfl
  generalize tx (jn [32,43,32] ((u :: r).map rT))=TT,((u :: r).map fun r=>PV.str (tx (rT r)))=SL at *
  simp [EC,aM,aJ,aK,fIx,atI,ixN,fEq,fNe,eqN,aP,aO,aQ,aN,aH,aT,frz,aL,wF,vL,ne,gO,dC,ej]
theorem akC {n k l:Nat} (S:Sto) {rs:List Rr} {A:PV} (hA:Sv A (rs.map rv)) (hm:rs.length≤200) (h:∀ r∈rs,Rt n k l r) (hk:k≤1000) (hl:l≤1000) (hn:n≤3):(gc rs→lA [.pv A] S=.exc "TooGreat" S)∧(¬ gc rs→lA [.pv A] S=.ok (.pv (.str (tx (cX rs)))) S):=by
 have step:∀ r∈rs,_:=fun r hr=>agp S (h r hr) hk hl hn
 have sq:∀ ρ:Rho,ρ[0]?=some (some (.pv A))→mIt (aA 0) ρ S=.ok (rs.map rv,[]) S:=fun ρ h=>by
  rcases hA with rfl | rfl
  ·simp [mIt,aA,h,Res.bind,bW]
  ·simp [mIt,aA,h,Res.bind,bW]
 have sq:=sq (jL 1 [.pv A]) rfl
 refine ⟨fun z=>?_,fun z=>?_⟩
 ·have ec:=tL rv (fun r=>.str (tx (rT r))) gr "TooGreat" rs none step z
  unfold lA fnM
  unfold nY
  generalize rs.map rv=UL,mIt (aA 0)=IT,(aB cY (aB cY (bM iY [] (aC (aB fIx (aA 0) (mC (.int 0))) aE)) (mC (.str " by "))) (bM jC [] (aC (aB fIx (aA 0) (mC (.int 1))) aE)))=ME1 at *
  simp [EC,aM,aJ,aK,fIx,atI,ixN,fEq,fNe,eqN,aP,aO,aQ,aN,aH,aT,frz,aL,eD,bS,ec] at sq ⊢
  simp [EC,aM,aJ,aK,fIx,atI,ixN,fEq,fNe,eqN,aP,aO,aQ,aN,aH,aT,frz,aL,eD,bS,sq,ec]
 ·have hg:∀ r∈rs,¬ gr r:=fun r hu y=>z ⟨r,hu,y⟩
  have ec:=mQ rv (fun r=>PV.str (tx (rT r))) rs none fun r hr=>(step r hr).2 (hg r hr)
  have er:=ajA S hm fun r hr=>(pL (h r hr) hn (hg r hr)).1
  unfold lA fnM
  unfold nY
  generalize rs.map rv=UL,tx (cX rs)=TT,(rs.map fun r=>PV.str (tx (rT r)))=SL,mIt (aA 0)=IT,(aB cY (aB cY (bM iY [] (aC (aB fIx (aA 0) (mC (.int 0))) aE)) (mC (.str " by "))) (bM jC [] (aC (aB fIx (aA 0) (mC (.int 1))) aE)))=ME1 at *
  simp [EC,aM,aJ,aK,fIx,atI,ixN,fEq,fNe,eqN,aP,aO,aQ,aN,aH,aT,frz,aL,eD,bS,ec] at sq ⊢
  simp [EC,aM,aJ,aK,fIx,atI,ixN,fEq,fNe,eqN,aP,aO,aQ,aN,aH,aT,frz,aL,eD,bS,sq,ec,er]
theorem ajt {n k l:Nat} (S:Sto) {r:Rr} (h:Rt n k l r) (hk:k≤1000) (hl:l≤1000) (hn:n≤3):lE [.pv (rv r)] S=.ok (.pv (wv gr rT r)) S:=by
 have e1:=ajD S h.sx.len h.sx.gu hk hn
 obtain ⟨f1,f2⟩:=aho S h.gu hl hn
 have i0:fIx (rv r) (.int 0)=some (px r.1):=rfl
 have i1:fIx (rv r) (.int 1)=some (.tup [.int r.2.1,tv r.2.2]):=rfl
 have i2:fIx (.tup [.int r.2.1,tv r.2.2]) (.int 0)=some (.int r.2.1):=rfl
 have i3:fIx (.tup [.int r.2.1,tv r.2.2]) (.int 1)=some (tv r.2.2):=rfl
 unfold lE fnM
 unfold xM
 by_cases z1:gs r.1
 ·have ew:wv gr rT r=.non:=if_pos (.inl z1)
  have ew1:wv gs sTx r.1=.non:=if_pos z1
  rw [ew]
  rw [ew1] at e1
  by_cases z2:gp r.2.2
  ·have f:=f1 z2
   generalize rv r=RV,px r.1=PX,tv r.2.2=TV,PV.tup [.int r.2.1,tv r.2.2]=MV at *
   simp [EC,aM,aJ,aK,fEq,fNe,bZ,aP,aO,aQ,aN,aH,aT,frz,aL,i0,e1,i1,i3,f,hU]
  ·have f:=f2 z2
   generalize tx (ptx r.2.2)=T,rv r=RV,px r.1=PX,tv r.2.2=TV,PV.tup [.int r.2.1,tv r.2.2]=MV at *
   simp [EC,aM,aJ,aK,fEq,fNe,bZ,aP,aO,aQ,aN,aH,aT,frz,aL,i0,e1,i1,i3,f,hU]
 ·have ew1:wv gs sTx r.1=.str (tx (sTx r.1)):=if_neg z1
  rw [ew1] at e1
  by_cases z2:gp r.2.2
  ·have ew:wv gr rT r=.non:=if_pos (.inr z2)
   rw [ew]
   have f:=f1 z2
   generalize tx (sTx r.1)=T,rv r=RV,px r.1=PX,tv r.2.2=TV,PV.tup [.int r.2.1,tv r.2.2]=MV at *
   simp [EC,aM,aJ,aK,fEq,fNe,bZ,aP,aO,aQ,aN,aH,aT,frz,aL,i0,e1,i1,i3,f,hU]
  ·have z:¬ gr r:=fun y=>y.elim z1 z2
   have ew:wv gr rT r=.str (tx (rT r)):=if_neg z
   rw [ew]
   have f:=f2 z2
   obtain ⟨a1,_⟩:=aht h hn z
   obtain ⟨_,l1,l2⟩:=pL h hn z
   have lw:=pE r.2.1
   obtain ⟨ws,iw,ew⟩:∃ ws:Str,fIx (.lst [.str "turn",.str "",.str "push"]) (.int (r.2.1+1))=some (.str ws)∧ws=tx (wy r.2.1):=by
    rcases h.way with e | e
    ·rw [e]; exact ⟨"push",rfl,uW⟩
    ·rw [e]; exact ⟨"turn",rfl,uQ⟩
   have a2:cY (.str (tx (sTx r.1++[32,98,121,32]))) (.str ws)=some (.str (tx (sTx r.1++[32,98,121,32]++wy r.2.1))):=by
    rw [ew]
    exact jN (by rw [List.length_append]; show _+4+_≤_; omega)
   have a3:cY (.str (tx (sTx r.1++[32,98,121,32]++wy r.2.1))) (.str " ")=some (.str (tx (sTx r.1++[32,98,121,32]++wy r.2.1++[32]))):=by
    rw [oX]
    exact jN (by rw [List.length_append,List.length_append]; show _+4+_+1≤_; omega)
   have a4:cY (.str (tx (sTx r.1++[32,98,121,32]++wy r.2.1++[32]))) (.str (tx (ptx r.2.2)))=some (.str (tx (rT r))):=by
    rw [jN (by rw [List.length_append,List.length_append,List.length_append]; show _+4+_+1+_≤_; omega)]
    unfold rT mvT
    simp
   have ad:aH (.int r.2.1) (.int 1)=some (.int (r.2.1+1)):=rfl
   generalize r.2.1=W0,r.2.1+1=W1,tx (sTx r.1)=T1,tx (sTx r.1++[32,98,121,32])=T2,tx (sTx r.1++[32,98,121,32]++wy r.2.1)=T3,tx (sTx r.1++[32,98,121,32]++wy r.2.1++[32])=T4,tx (ptx r.2.2)=T5,tx (rT r)=T6,rv r=RV,px r.1=PX,tv r.2.2=TV,PV.tup [.int r.2.1,tv r.2.2]=MV at *
   simp [EC,aM,aJ,aK,fEq,fNe,bZ,aP,aO,aQ,aN,frz,aL,i0,e1,i1,i2,i3,f,hU,a1,ad,iw,a2,a3,a4]
theorem agg {n k l:Nat} (S:Sto) {rs:List Rr} (hS:S[1]?=some (.lst (rs.map rv))) (hm:rs.length≤200) (h:∀ r∈rs,Rt n k l r) (hk:k≤1000) (hl:l≤1000) (hn:n≤3):oA [.ref 1] S=.ok (.pv (wv gc cX rs)) S:=by
 have hG:gOk [(1,rs.map rv)] S:=fun g hg=>by
  have:g=(1,rs.map rv):=by simpa using hg
  rw [this]; exact hS
 have ec:bY [(1,rs.map rv)] (gN 0) (aY lE [] (aC (aA 0) aE)) (rs.map rv) [none] S=.ok (rs.map (wv gr rT)) S:=by
  refine mP hG rv (wv gr rT) rs none fun r hr=>?_
  have e:=ajt S (h r hr) hk hl hn
  generalize rv r=TV,wv gr rT r=V at *
  simp [EC,aM,aJ,aK,fIx,atI,ixN,fEq,fNe,eqN,aP,aO,aQ,aN,aH,aT,frz,aL,e]
 obtain ⟨a1,a2⟩:=aet (bad:=gr) (T:=rT) (xs:=rs)
 unfold oA fnM
 unfold wZ
 cases rs with
 | nil =>
  have ew:wv gc cX []=.str "none":=by
   unfold wv
   rw [if_neg (fun ⟨_,z,_⟩=>by cases z),uR]
   rfl
  rw [ew]
  have hS:S[1]?=some (.lst []):=hS
  simp [EC,aM,aJ,aK,fIx,atI,ixN,fEq,fNe,eqN,aP,aO,aQ,aN,aH,aT,frz,aL,hS]
 | cons u r =>
  have l0:((((u :: r).map rv).length:Int) == 0)=false:=by
   rw [List.length_map,List.length_cons]
   have:¬ (((r.length+1:Nat):Int)=0):=by omega
   simpa using this
  by_cases z:gc (u :: r)
  ·have ew:wv gc cX (u :: r)=.non:=if_pos z
   have a1:=a1 z
   rw [ew]
   generalize (u :: r).map rv=UL,(u :: r).map (wv gr rT)=WL,(aY lE [] (aC (aA 0) aE))=ME1 at *
   simp [EC,aM,aJ,aK,fIx,atI,ixN,fEq,fNe,eqN,aP,aO,aQ,aN,aH,aT,frz,aL,hS,l0,bO,bS,mIt,bW,ec,jT,a1]
  ·have hg:∀ us∈u :: r,¬ gr us:=fun us hu y=>z ⟨us,hu,y⟩
   obtain ⟨a2,a3⟩:=a2 hg
   have ew:wv gc cX (u :: r)=.str (tx (jn [32,43,32] ((u :: r).map rT))):=by
    unfold wv
    rw [if_neg z]
    rfl
   rw [ew]
   have ej:=rW (s:=[32,43,32]) (Ls:=(u :: r).map rT) (B:=2100) (by decide) (fun l hl=>by
    obtain ⟨x,hx,rfl⟩:=List.mem_map.mp hl
    exact (pL (h x hx) hn (hg x hx)).1) (by rw [List.length_map]; exact hm) (by decide)
   rw [List.map_map,← aes] at ej
   have ej:iT " + " [.lst ((u :: r).map fun r=>.str (tx (rT r)))]=some (.str (tx (jn [32,43,32] ((u :: r).map rT)))):=ej
   rw [← a3] at ej
   generalize (u :: r).map rv=UL,tx (jn [32,43,32] ((u :: r).map rT))=TT,(u :: r).map (wv gr rT)=WL,(aY lE [] (aC (aA 0) aE))=ME1 at *
   simp [EC,aM,aJ,aK,fIx,atI,ixN,fEq,fNe,eqN,aP,aO,aQ,aN,aH,aT,frz,aL,hS,l0,bO,bS,mIt,bW,ec,jT,a2,gO,dC,ej]
theorem adR {A B:List Nat} (h:32 ∉ A) (hl:(A++32 :: B).length≤9000):rX (tx (A++32 :: B)) [.str " "]=some (.tup [.str (tx A),.str " ",.str (tx B)]):=by
 have f:=ahL (B:=B) h
 rw [oX]
 show (if (tx [32]).length≠0∧(tx (A++32 :: B)).length≤16777216 then some (PV.tup ((kB (tx (A++32 :: B)) (tx [32])).map .str)) else none)=_
 rw [if_pos ⟨by rw [dR]; decide,by rw [dR]; omega⟩]
 have e:kB (tx (A++32 :: B)) (tx [32])=[tx A,tx [32],tx B]:=by
  unfold kB
  unfold Txt.find at f
  cases o:Builtin.Str.occurrences (tx (A++32 :: B)) (tx [32]) 0 (tx (A++32 :: B)).length 1 with
  | nil =>
   rw [o] at f
   have f:(-1:Int)=(A.length:Int):=f
   omega
  | cons i r =>
   rw [o] at f
   have f:((i:Nat):Int)=(A.length:Int):=f
   have f:i=A.length:=by omega
   subst f
   show [_,_,_]=_
   rw [uS,uS,dR,dR]
   have e1:((A++32 :: B).drop 0).take (A.length - 0)=A:=by simp
   have e2:(A++32 :: B).drop (A.length+[32].length)=B:=by
    show (A++32 :: B).drop (A.length+1)=B
    rw [← List.drop_drop]
    simp
   rw [e1,e2,List.take_of_length_le (by rw [List.length_append,List.length_cons]; show B.length≤_ - (A.length+1); omega)]
 rw [e]
 rfl
theorem ahF {n l:Nat} (S:Sto) (hn:n=2∨n=3) {w:Int} {us:List Int} (hw:w=1∨w=-1) (h:Gu n l us) (hl:l≤300) (hg:¬ gp us):qN [.pv (.str (tx (mvT w us)))] S=.ok (.pv (.tup [.int w,tv us])) S:=by
 have lp:=oZ h (by omega) hg
 have ep:=adR (A:=wy w) (B:=ptx us) (ajY w).1 (by rw [List.length_append,List.length_cons,pE]; omega)
 have ep:rX (tx (mvT w us)) [.str " "]=some (.tup [.str (tx (wy w)),.str " ",.str (tx (ptx us))]):=ep
 have er:=aeI S hn h hl hg
 have rf:=iC S true
 rw [if_pos rfl] at rf
 have em:rV [.pv (.int w),.pv (tv us)] S=.ok (.pv (.tup [.int w,tv us])) S:=by
  generalize tv us=TV
  unfold rV fnM rK
  rcases hw with rfl | rfl <;> simp [EC,aM,aJ,aK,fIx,atI,ixN,fEq,fNe,eqN,aP,aO,aQ,aN,aH,aT,frz,aL]
 have i0:∀ x y z:PV,fIx (.tup [x,y,z]) (.int 0)=some x:=fun _ _ _=>rfl
 have i2:∀ x y z:PV,fIx (.tup [x,y,z]) (.int 2)=some z:=fun _ _ _=>rfl
 unfold qN fnM
 unfold qL
 rcases hw with rfl | rfl
 ·have ew:tx (wy 1)="push":=uW.symm
  rw [ew] at ep
  have q1:eqN 8 (.str "push") (.str "push")=some true:=by simp [eqN]
  generalize tx (ptx us)=T2,tx (mvT 1 us)=T1,tv us=TV at *
  simp [EC,aM,aJ,aK,fEq,fNe,bZ,aP,aO,aQ,aN,aH,aT,frz,aL,dO,dC,ep,i0,i2,q1,rf,er,em]
 ·have ew:tx (wy (-1))="turn":=uQ.symm
  rw [ew] at ep
  have q1:eqN 8 (.str "turn") (.str "push")=some false:=by
   rw [uQ,uW]
   show some (tx _ == tx _)=_
   rw [agU]
   rfl
  have q2:eqN 8 (.str "turn") (.str "turn")=some true:=by simp [eqN]
  generalize tx (ptx us)=T2,tx (mvT (-1) us)=T1,tv us=TV at *
  simp [EC,aM,aJ,aK,fEq,fNe,bZ,aP,aO,aQ,aN,aH,aT,frz,aL,dO,dC,ep,i0,i2,q1,q2,rf,er,em]
abbrev rw' (r:Rr):PV:=.tup [.lst (r.1.map tv),.tup [.int r.2.1,tv r.2.2]]
theorem ahN {n k l:Nat} (S:Sto) (hn:n=2∨n=3) {r:Rr} (h:Rt n k l r) (hk:k≤300) (hl:l≤300) (hg:¬ gr r):lF [.pv (.str (tx (rT r)))] S=.ok (.pv (rw' r)) S:=by
 obtain ⟨l1,l2,l3⟩:=pL h (by omega) hg
 have es:=acE (s1:=[32]) (c:=98) (s2:=[121,32]) (P:=[sTx r.1,mvT r.2.1 r.2.2]) (by decide) (by decide) (by simp) (fun p hp=>by
  have:p=sTx r.1∨p=mvT r.2.1 r.2.2:=by simpa using hp
  rcases this with rfl | rfl
  ·exact ahb rfl (by decide) (by decide) (by decide) (by decide)
  ·exact ahm.2) (by
  show (rT r).length≤9000000
  omega)
 have es:fH (tx (rT r)) [.str (tx [32,98,121,32])]=some (.lst [.str (tx (sTx r.1)),.str (tx (mvT r.2.1 r.2.2))]):=es
 rw [← ak7] at es
 have e1:=abM S hn h.sx.len h.sx.gu hk fun z=>hg (.inl z)
 have e2:=ahF S hn h.way h.gu hl fun z=>hg (.inr z)
 have rf:=iC S true
 rw [if_pos rfl] at rf
 have i0:∀ x y:PV,fIx (.lst [x,y]) (.int 0)=some x:=fun _ _=>rfl
 have i1:∀ x y:PV,fIx (.lst [x,y]) (.int 1)=some y:=fun _ _=>rfl
 unfold lF fnM rw'
 unfold qK
 generalize tx (mvT r.2.1 r.2.2)=T3,tx (sTx r.1)=T2,tx (rT r)=T1,r.1.map tv=CL,PV.tup [.int r.2.1,tv r.2.2]=MV at *
 simp [EC,aM,aJ,aK,fEq,fNe,bZ,aP,aO,aQ,aN,aH,aT,frz,aL,dO,dC,es,i0,i1,rf,e1,e2]
theorem aih (S:Sto) {rs:List Rr} (hl:rs.length≤200) (h:∀ r∈rs,(rT r).length≤2100):mM [.pv (.str (tx (cX rs)))] S=.ok (.pv (.lst (rs.map fun r=>.str (tx (rT r))))) S:=by
 cases rs with
 | nil =>
  have eh:cX []=[110,111,110,101]:=if_pos rfl
  rw [eh,← uR]
  have q:eqN 8 (.str "none") (.str "none")=some true:=by simp [eqN]
  unfold mM fnM tH
  simp [EC,aM,aJ,aK,fEq,fNe,bZ,aP,aO,aQ,aN,aH,aT,frz,aL,q]
 | cons u r =>
  have eh:cX (u :: r)=jn [32,43,32] ((u :: r).map rT):=if_neg (by simp)
  have lu:=vM (s:=[32,43,32]) (B:=2100) (P:=(u :: r).map rT) fun p hp=>by
   obtain ⟨x,hx,rfl⟩:=List.mem_map.mp hp
   exact h x hx
  rw [List.length_map] at lu
  have lv2:(u :: r).length*(2100+[32,43,32].length)≤200*2103:=Nat.mul_le_mul hl (Nat.le_refl _)
  have es:=acE (s1:=[32]) (c:=43) (s2:=[32]) (P:=(u :: r).map rT) (by simp) (by simp) (by simp) (fun p hp=>by
   obtain ⟨us,hu,rfl⟩:=List.mem_map.mp hp
   exact ald) (by
   show (jn [32,43,32] ((u :: r).map rT)).length≤9000000
   omega)
  rw [List.map_map] at es
  have es:fH (tx (jn [32,43,32] ((u :: r).map rT))) [.str (tx [32,43,32])]=some (.lst ((u :: r).map fun r=>.str (tx (rT r)))):=es
  rw [← aes] at es
  rw [eh]
  have has:32∈jn [32,43,32] ((u :: r).map rT):=by
   have hu:32∈rT u:=by unfold rT; simp
   cases r with
   | nil=>exact hu
   | cons v r =>
    show 32∈rT u++([32,43,32]++jn [32,43,32] ((v :: r).map rT))
    exact List.mem_append_left _ hu
  have q:eqN 8 (.str (tx (jn [32,43,32] ((u :: r).map rT)))) (.str "none")=some false:=by
   rw [uR]
   show some (tx _ == tx _)=_
   rw [agU]
   congr 1
   refine decide_eq_false fun z=>?_
   rw [z] at has
   exact absurd has (by decide)
  unfold mM fnM tH
  generalize tx (jn [32,43,32] ((u :: r).map rT))=TT,((u :: r).map fun r=>PV.str (tx (rT r)))=SL at *
  simp [EC,aM,aJ,aK,fEq,fNe,bZ,aP,aO,aQ,aN,aH,aT,frz,aL,q,dO,dC,es]
def rcL:MS:=(eF (bM fE [] (aC (jZ fEq fEq (mR cO (aC (aA 2) aE)) (mR cO (aC (aB fIx (aA 3) (mC (.int 1))) aE)) (mR cO (aC (aB fIx (aB fIx (aA 1) (mC (.int 0))) (mC (.int 0))) aE))) aE)))
theorem ae2 {n k l:Nat} (S:Sto) {x0:Option AV} {HL:List PV} {u:List (List Int)} {MV:PV} (i0:fIx (.lst HL) (.int 0)=some (.tup [.lst (u.map tv),MV])) (hu:u.length=n+1):∀ (rs:List Rr) (x2 x3:Option AV),(∀ r∈rs,Rt n k l r)→∃ y2 y3,dD [] (gT 2 (cM (gN 2) (cM (gN 3) eB))) rcL (rs.map rw') [x0,some (.pv (.lst HL)),x2,x3] S=.nx [x0,some (.pv (.lst HL)),y2,y3] S
 | [],x2,x3,_=>⟨x2,x3,jE⟩
 | r :: rs,x2,x3,h=>by
  have R:=h r List.mem_cons_self
  obtain ⟨y2,y3,e⟩:=ae2 S (x0:=x0) i0 hu rs (some (.pv (.lst (r.1.map tv)))) (some (.pv (.tup [.int r.2.1,tv r.2.2]))) fun q hq=>h q (List.mem_cons_of_mem _ hq)
  have rf:=iC S true
  rw [if_pos rfl] at rf
  have l1:((r.1.map tv).length:Int)=n+1:=by rw [List.length_map,R.sx.len]; rfl
  have l2:((r.2.2.map PV.int).length:Int)=n+1:=by rw [List.length_map,agY R.gu]; rfl
  have l3:((u.map tv).length:Int)=n+1:=by rw [List.length_map,hu]; rfl
  have j0:fIx (.tup [.lst (u.map tv),MV]) (.int 0)=some (.lst (u.map tv)):=rfl
  have j1:∀ v:PV,fIx (.tup [.int r.2.1,v]) (.int 1)=some v:=fun _=>rfl
  have es:rcL [x0,some (.pv (.lst HL)),some (.pv (.lst (r.1.map tv))),some (.pv (.tup [.int r.2.1,.tup (r.2.2.map .int)]))] S=.nx [x0,some (.pv (.lst HL)),some (.pv (.lst (r.1.map tv))),some (.pv (.tup [.int r.2.1,.tup (r.2.2.map .int)]))] S:=by
   unfold rcL
   generalize u.map tv=UL,r.1.map tv=CL,r.2.2.map PV.int=FL at *
   simp [EC,aM,aJ,aK,fEq,fNe,bZ,aP,aO,aQ,aN,aH,aT,frz,aL,jZ,l1,l2,l3,i0,j0,j1,rf]
  refine ⟨y2,y3,?_⟩
  show dD [] _ rcL (rw' r :: rs.map rw') _ S=_
  rw [jD]
  have eg:gT 2 (cM (gN 2) (cM (gN 3) eB)) (rw' r) [x0,some (.pv (.lst HL)),x2,x3]=some [x0,some (.pv (.lst HL)),some (.pv (.lst (r.1.map tv))),some (.pv (.tup [.int r.2.1,tv r.2.2]))]:=rfl
  rw [eg]
  dsimp only
  have es:rcL [x0,some (.pv (.lst HL)),some (.pv (.lst (r.1.map tv))),some (.pv (.tup [.int r.2.1,tv r.2.2]))] S=.nx [x0,some (.pv (.lst HL)),some (.pv (.lst (r.1.map tv))),some (.pv (.tup [.int r.2.1,tv r.2.2]))] S:=es
  rw [es]
  exact e
theorem afm {n k l:Nat} (S:Sto) (hn:n=2∨n=3) (hk:k≤1000):∀ (rs:List Rr) (x0 x1:Option AV),(∀ r∈rs,Rt n k l r)→eX [] (gT 2 (cM (gN 0) (cM (gN 1) eB))) (mN eV (aC (bM jF [] (aC (aA 0) aE)) (aC (aA 1) aE))) (rs.map rw') [x0,x1] S=.ok (rs.map rv) S
 | [],x0,x1,_=>acm
 | r :: rs,x0,x1,h=>by
  have R:=h r List.mem_cons_self
  have e':=afm S hn hk rs (some (.pv (.lst (r.1.map tv)))) (some (.pv (.tup [.int r.2.1,tv r.2.2]))) fun q hq=>h q (List.mem_cons_of_mem _ hq)
  have s:=R.sx
  have e:=adK (A:=.lst (r.1.map tv)) hn S s.len (fun us hu=>(s.gu us hu).mono hk) (.inl rfl) (by rw [rP hn (k:=k) hk s.len s.gu]; exact fun z=>s.nz (acF.mp z))
  rw [s.cn] at e
  have e:jF [.pv (.lst (r.1.map tv))] S=.ok (.pv (px r.1)) S:=e
  have em:(mN eV (aC (bM jF [] (aC (aA 0) aE)) (aC (aA 1) aE))) [some (.pv (.lst (r.1.map tv))),some (.pv (.tup [.int r.2.1,tv r.2.2]))] S=.ok (.pv (rv r)) S:=by
   show _=Res.ok (AV.pv (.tup [px r.1,.tup [.int r.2.1,tv r.2.2]])) S
   generalize r.1.map tv=CL,px r.1=PX,PV.tup [.int r.2.1,tv r.2.2]=MV at *
   simp [EC,aM,aJ,aK,fIx,atI,ixN,fEq,fNe,eqN,aP,aO,aQ,aN,aH,aT,frz,aL,e]
  show eX [] _ _ (rw' r :: rs.map rw') _ S=_
  rw [yD]
  have eg:gT 2 (cM (gN 0) (cM (gN 1) eB)) (rw' r) [x0,x1]=some [some (.pv (.lst (r.1.map tv))),some (.pv (.tup [.int r.2.1,tv r.2.2]))]:=rfl
  rw [eg]
  dsimp only
  rw [em]
  dsimp only
  rw [e']
  rfl
theorem agN {n k l:Nat} (S:Sto) (hn:n=2∨n=3) {rs:List Rr} (hm:rs.length≤200) (h:∀ r∈rs,Rt n k l r) (hk:k≤300) (hl:l≤300) (hg:¬ gc rs):oB [.pv (.str (tx (cX rs)))] S=.ok (.pv (.tup (rs.map rv))) S:=by
 have hg2:∀ r∈rs,¬ gr r:=fun r hr y=>hg ⟨r,hr,y⟩
 have er:=aih S hm fun r hr=>(pL (h r hr) (by omega) (hg2 r hr)).1
 have ec:=mQ (S:=S) (me:=bM lF [] (aC (aA 0) aE)) (tail:=[]) (fun r=>.str (tx (rT r))) rw' rs none fun r hr=>by
  have e:=ahN S hn (h r hr) hk hl (hg2 r hr)
  generalize tx (rT r)=T,rw' r=TV at *
  simp [EC,aM,aJ,aK,fIx,atI,ixN,fEq,fNe,eqN,aP,aO,aQ,aN,aH,aT,frz,aL,e]
 obtain ⟨y2,y3,el⟩:∃ y2 y3,dD [] (gT 2 (cM (gN 2) (cM (gN 3) eB))) rcL (rs.map rw') [some (.pv (.str (tx (cX rs)))),some (.pv (.lst (rs.map rw'))),none,none] S=.nx [some (.pv (.str (tx (cX rs)))),some (.pv (.lst (rs.map rw'))),y2,y3] S:=by
  cases rs with
  | nil=>exact ⟨none,none,jE⟩
  | cons u r=>exact ae2 (n:=n) (k:=k) (l:=l) (u:=u.1) (MV:=.tup [.int u.2.1,tv u.2.2]) S (ae0 (j:=0) rfl) (h u (by simp)).sx.len (u :: r) none none h
 have ex:=afm S hn (by omega) rs none none h
 have hb:qE=(aR (bA 1 (eD ["text"] [] (mIt (aY mM [] (aC (aA 0) aE))) (gN 0) (bM lF [] (aC (aA 0) aE))))
 (aR (dI (mIt (aA 1)) (gT 2 (cM (gN 2) (cM (gN 3) eB))) rcL)
 (bC (mR aJ (aC (eD ["corners","one"] [] (mIt (aA 1)) (gT 2 (cM (gN 0) (cM (gN 1) eB))) (mN eV (aC (bM jF [] (aC (aA 0) aE)) (aC (aA 1) aE)))) aE))))):=rfl
 unfold oB fnM
 rw [hb]
 generalize tx (cX rs)=TT,rs.map rv=UL,rs.map rw'=HL,(rs.map fun r=>PV.str (tx (rT r)))=SL,rcL=RL,(bM lF [] (aC (aA 0) aE))=ME1,(mN eV (aC (bM jF [] (aC (aA 0) aE)) (aC (aA 1) aE)))=ME3 at *
 simp [EC,aM,aJ,aK,fIx,atI,ixN,fEq,fNe,eqN,aP,aO,aQ,aN,aH,aT,frz,aL,eD,bO,bS,dI,mIt,er,bW,ec,el,ex]
theorem alb {S:Sto} {x y:SO} (h:S[0]?=some x) (g:S[1]?=some y):S.take 2=[x,y]:=by
 match S,h,g with
 | a :: b :: r,h,g =>
  have h:a=x:=by simpa using h
  have g:b=y:=by simpa using g
  rw [h,g]
  rfl
theorem kF (ns:List Int) (O:SO) {m:Int} (hm:0 < m) (b:Bd 8000 m):∃ (v:Int) (ns':List Int),cG [.ref 0,.pv (.int m)] [.lst (li ns),O]=.ok (.pv (.int v)) [.lst (li ns'),O]∧0≤v∧v < m:=by
 obtain ⟨v,n1,e,a,c,_⟩:=lO (S:=[.lst (li ns),O]) (k:=0) (ns:=ns) (m:=m) rfl hm b
 exact ⟨v,n1,e,a,c⟩
def tgB:MS:=(aR (bA 6 (iJ aE))
 (aR (dI (fR (aC (aA 4) aE)) (gN 7) ggB)
 (bC (aA 6))))
theorem ahj {n:Nat} (hn:n=2∨n=3) {W U:Int} (W0:0≤W) (W1:W≤10 ^ 61) (U0:0 < U) (U1:U≤10 ^ 61) {M:Nat} (hM:M≤9) (ns:List Int) (O:SO) (x2:Option AV):∃ (S':Sto) (ns':List Int) (ts:List (List (List Int))),tgB [some (.ref 0),some (.pv (.int (n:Int))),x2,some (.pv (.int W)),some (.pv (.int (M:Int))),some (.pv (.int U)),none,none,none,none,none] [.lst (li ns),O]=.rt (.ref 2) S'∧S'.take 2=[.lst (li ns'),O]∧S'[2]?=some (.lst (ts.map px))∧(∀ uss∈ts,Sx n 210 uss)∧ts.length≤9:=by
 obtain ⟨S',n1,ts,y7,y8,y9,y10,e1,r1,q1,g1,l1,k1⟩:=ajF hn W0 W1 U0 U1 x2 (some (.pv (.int (M:Int)))) (dA 0 M) [.lst (li ns),O,.lst []] ns [] none none none none rfl rfl (by unfold dA; simp; omega) (fun _ h=>by cases h)
 have l:(dA 0 M).length=M:=by unfold dA; simp
 rw [l] at l1
 have rg:=rgn [.lst (li ns),O,.lst []] (n:=M) hM
 refine ⟨S',n1,ts,?_,alb r1 k1,q1,g1,by simpa using Nat.le_trans l1 (by simpa using hM)⟩
 unfold tgB
 generalize (n:Int)=N,(M:Int)=MM,dA 0 M=IL,ggB=GBX at *
 simp [EC,aM,aJ,aK,fIx,atI,ixN,fEq,fNe,eqN,aP,aO,aQ,aN,aH,aT,frz,aL,iJ,nN,dI,fR,rg,e1]
theorem agi {n:Nat} (hn:n=2∨n=3) (ns:List Int) (O:SO):∃ (ts:List (List (List Int))) (ns':List Int),mJ [.ref 0,.pv (.int (n:Int)),.pv (.int 3)] [.lst (li ns),O]=.ok (.ref 2) [.lst (li ns'),O,.lst (ts.map px)]∧(∀ uss∈ts,Sx n 210 uss)∧ts.length≤9:=by
 obtain ⟨v,n1,e1,v0,v1⟩:=kF ns O (m:=4) (by decide) (sm8 (by decide) (by decide))
 obtain ⟨m,n2,e2,m0,m1⟩:=kF n1 O (m:=4) (by decide) (sm8 (by decide) (by decide))
 obtain ⟨t,n3,e3,t0,t1⟩:=kF n2 O (m:=8) (by decide) (sm8 (by decide) (by decide))
 obtain ⟨u,n4,e4,u0,u1⟩:=kF n3 O (m:=2) (by decide) (sm8 (by decide) (by decide))
 obtain ⟨W,iW,W0,W1⟩:∃ W:Int,fIx (.lst [.int 2,.int 9,.int 100000000000000000000,.int 10000000000000000000000000000000000000000000000000000000000000]) (.int v)=some (.int W)∧0≤W∧W≤10 ^ 61:=by
  have:v=0∨v=1∨v=2∨v=3:=by omega
  rcases this with rfl | rfl | rfl | rfl
  ·exact ⟨2,rfl,by decide +kernel,by decide +kernel⟩
  ·exact ⟨9,rfl,by decide +kernel,by decide +kernel⟩
  ·exact ⟨100000000000000000000,rfl,by decide +kernel,by decide +kernel⟩
  ·exact ⟨10000000000000000000000000000000000000000000000000000000000000,rfl,by decide +kernel,by decide +kernel⟩
 obtain ⟨U,iU,U0,U1⟩:∃ U:Int,fIx (.lst [.int 100000000000000000000,.int 10000000000000000000000000000000000000000000000000000000000000]) (.int u)=some (.int U)∧0 < U∧U≤10 ^ 61:=by
  have:u=0∨u=1:=by omega
  rcases this with rfl | rfl
  ·exact ⟨100000000000000000000,rfl,by decide +kernel,by decide +kernel⟩
  ·exact ⟨10000000000000000000000000000000000000000000000000000000000000,rfl,by decide +kernel,by decide +kernel⟩
 have hb:xL=(aR (bA 3 (aB fIx (mN dQ (aC (mC (.int 2)) (aC (mC (.int 9)) (aC (aB dE (mC (.int 10)) (mC (.int 20))) (aC (aB dE (mC (.int 10)) (mC (.int 61))) aE))))) (aY cG [] (aC (aA 0) (aC (mC (.int 4)) aE)))))
 (aR (bA 4 (aY cG [] (aC (aA 0) (aC (aB aH (aA 2) (mC (.int 1))) aE))))
 (aR (bA 5 (mC (.int 12)))
 (aR (sIf (bD (aB fEq (aY cG [] (aC (aA 0) (aC (mC (.int 8)) aE))) (mC (.int 7)))) (aR (bA 5 (aB fIx (mN dQ (aC (aB dE (mC (.int 10)) (mC (.int 20))) (aC (aB dE (mC (.int 10)) (mC (.int 61))) aE))) (aY cG [] (aC (aA 0) (aC (mC (.int 2)) aE)))))
 (bA 4 (mR sE (aC (aA 4) (aC (mC (.int 1)) aE))))) bV)
 tgB)))):=rfl
 have a1:aH (.int 3) (.int 1)=some (.int 4):=rfl
 by_cases ht:t=7
 ·obtain ⟨M,eM,hM⟩:∃ M:Nat,sE [.int m,.int 1]=some (.int (M:Int))∧M≤9:=by
   refine ⟨(if (1:Int) < m then 1 else m).toNat,?_,?_⟩
   ·show some (PV.int (if (1:Int) < m then 1 else m))=_
    congr 2
    split <;> omega
   ·split <;> omega
  obtain ⟨S',n5,ts,e5,k5,q5,g5,l5⟩:=ahj hn W0 W1 U0 U1 hM n4 O (some (.pv (.int 3)))
  refine ⟨ts,n5,?_,g5,l5⟩
  unfold mJ fnM
  rw [hb]
  subst ht
  generalize ts.map px=TL,(n:Int)=N,(M:Int)=MM,tgB=TG at *
  simp [EC,aM,aJ,aK,fEq,fNe,bZ,aP,aO,aQ,aN,frz,aL,a1,e1,q20,p61,iW,e2,e3,e4,iU,eM,e5,k5,q5]
 ·obtain ⟨M,eM,hM⟩:∃ M:Nat,m=(M:Int)∧M≤9:=⟨m.toNat,by omega,by omega⟩
  subst eM
  obtain ⟨S',n5,ts,e5,k5,q5,g5,l5⟩:=ahj hn W0 W1 (U:=12) (by decide) (by decide +kernel) hM n3 O (some (.pv (.int 3)))
  refine ⟨ts,n5,?_,g5,l5⟩
  have ht:(t == 7)=false:=by simpa using ht
  unfold mJ fnM
  rw [hb]
  generalize ts.map px=TL,(n:Int)=N,(M:Int)=MM,tgB=TG at *
  simp [EC,aM,aJ,aK,fEq,fNe,bZ,aP,aO,aQ,aN,frz,aL,a1,e1,q20,p61,iW,e2,e3,ht,e5,k5,q5]
theorem ac7 {O:SO}:∀ (is:List PV) (ns:List Int) (x:Option AV),∃ (xs ns':List Int),bY [] (gN 0) (aY cG [] (aC (aA 1) (aC (aB dE (mC (.int 10)) (mC (.int 61))) aE))) is [x,some (.ref 0)] [.lst (li ns),O]=.ok (xs.map .int) [.lst (li ns'),O]∧xs.length=is.length∧∀ n∈xs,Bd 210 n
 | [],ns,x=>⟨[],ns,eO,rfl,fun _ h=>by cases h⟩
 | i :: is,ns,x=>by
  obtain ⟨t,n1,e1,t0,t1⟩:=kF ns O (m:=10000000000000000000000000000000000000000000000000000000000000) (by decide +kernel) ((Bd.of (k:=210) (n:=10 ^ 61) (by decide +kernel) (by decide +kernel)).mono (by decide))
  obtain ⟨xs,n2,e2,l2,b2⟩:=ac7 (O:=O) is n1 (some (.pv i))
  refine ⟨t :: xs,n2,?_,by simp [l2],fun n hn=>?_⟩
  ·rw [eW]
   generalize [SO.lst (li n1),O]=S1 at e1 e2
   simp [gN,EC,aM,aJ,aK,fIx,atI,ixN,fEq,fNe,eqN,aP,aO,aQ,aN,aH,aT,frz,aL,p61,e1,e2]
  ·rcases List.mem_cons.mp hn with rfl | hn
   ·exact Bd.of (n:=10 ^ 61) (by omega) (by decide +kernel)
   ·exact b2 n hn
def ccB:MS:=(aR (bA 4 (aY lQ [] (aC (aA 0) (aC (aA 1) aE))))
 (aR (sIf (bD (aB fEq (aY cG [] (aC (aA 0) (aC (mC (.int 6)) aE))) (mC (.int 5)))) (aR (bA 4 (bO ["_law_k"] [(0,"_law_row_here")] (fR (aC (aA 1) aE)) (gN 0) (aY cG [] (aC (aA 1) (aC (aB dE (mC (.int 10)) (mC (.int 61))) aE)))))
 (bA 4 (aY fG [] (aC (aB aH (aA 4) (mN dQ (aC (aB aH (mC (.int 1)) (aY cG [] (aC (aA 0) (aC (aB fIx (mN dQ (aC (mC (.int 3)) (aC (aB dE (mC (.int 10)) (mC (.int 61))) aE))) (aY cG [] (aC (aA 0) (aC (mC (.int 2)) aE)))) aE)))) aE))) aE)))) bV)
 (eF (fY (aA 2) (aC (mN eV (aC (aA 3) (aC (mN eV (aC (aB dJ (mC (.int 1)) (aB bE (mC (.int 2)) (aY cG [] (aC (aA 0) (aC (mC (.int 2)) aE))))) (aC (aA 4) aE))) aE))) aE)))))
theorem alt {n:Nat} (hn:n=2∨n=3) (ns:List Int) (rs:List Rr) (hl:rs.length≤99) {uss:List (List Int)} (w:Sx n 210 uss) (x4 x5 x6 x7 x8:Option AV):∃ (r:Rr) (ns':List Int) (y4:Option AV),Rt n 210 210 r∧ccB [some (.ref 0),some (.pv (.int (n:Int))),some (.ref 1),some (.pv (px uss)),x4,x5,x6,x7,x8] [.lst (li ns),.lst (rs.map rv)]=.nx [some (.ref 0),some (.pv (.int (n:Int))),some (.ref 1),some (.pv (px uss)),y4,x5,x6,x7,x8] [.lst (li ns'),.lst ((rs++[r]).map rv)]:=by
 obtain ⟨v,n1,e1,G⟩:=amn n hn (show Row [.lst (li ns),.lst (rs.map rv)] 0 ns from rfl)
 obtain ⟨ys,y,rfl,P⟩:=G
 have e1:lQ [.ref 0,.pv (.int (n:Int))] [.lst (li ns),.lst (rs.map rv)]=.ok (.pv (tv (ys++[y]))) [.lst (li n1),.lst (rs.map rv)]:=e1
 have Gf:Gu n 210 (ys++[y]):=Gu.mono (k:=100) ⟨ys,y,rfl,P⟩ (by decide)
 obtain ⟨t,n2,e2,t0,t1⟩:=kF n1 (.lst (rs.map rv)) (m:=6) (by decide) (sm8 (by decide) (by decide))
 have lz:(rs.map rv).length < 16777216:=by rw [List.length_map]; omega
 have em:∀ r,(rs++[r]).map rv=rs.map rv++[rv r]:=fun r=>by simp
 have mc:∀ c:Int,bE (.int 2) (.int c)=some (.int (2*c)):=fun c=>iM (.inl (.inl ⟨by decide,by decide⟩))
 by_cases ht:t=5
 ·subst ht
  obtain ⟨xs,n3,e3,l3,b3⟩:=ac7 (O:=.lst (rs.map rv)) (dA 0 n) n2 none
  have l:(dA 0 n).length=n:=by unfold dA; simp
  rw [l] at l3
  have rg:=rgn [.lst (li n2),.lst (rs.map rv)] (n:=n) (by omega)
  obtain ⟨u,n4,e4,u0,u1⟩:=kF n3 (.lst (rs.map rv)) (m:=2) (by decide) (sm8 (by decide) (by decide))
  obtain ⟨U,iU,U0,U1⟩:∃ U:Int,fIx (.lst [.int 3,.int 10000000000000000000000000000000000000000000000000000000000000]) (.int u)=some (.int U)∧0 < U∧U≤10 ^ 61:=by
   have:u=0∨u=1:=by omega
   rcases this with rfl | rfl
   ·exact ⟨3,rfl,by decide +kernel,by decide +kernel⟩
   ·exact ⟨10000000000000000000000000000000000000000000000000000000000000,rfl,by decide +kernel,by decide +kernel⟩
  obtain ⟨b,n5,e5,b0,b2⟩:=kF n4 (.lst (rs.map rv)) (m:=U) U0 ((Bd.of (k:=210) (n:=10 ^ 61) (by omega) (by decide +kernel)).mono (by decide))
  have bb:Bd 210 (1+b):=Bd.of (n:=10 ^ 61+1) (by omega) (by decide +kernel)
  obtain ⟨zs,z,el,Z,_⟩:=rN (n:=n) (k:=210) (L:=xs) (b:=1+b) (by omega) l3 b3 bb
  have ew:=qR (xs++[1+b]) [.lst (li n5),.lst (rs.map rv)] fun x hx=>by
   rcases List.mem_append.mp hx with y | y
   ·exact (b3 x y).mono (by decide)
   ·have:x=1+b:=by simpa using y
    rw [this]; exact bb.mono (by decide)
  rw [el,List.map_append] at ew
  have ew:fG [.pv (.lst (xs.map .int++[.int (1+b)]))] [.lst (li n5),.lst (rs.map rv)]=.ok (.pv (tv (zs++[z]))) [.lst (li n5),.lst (rs.map rv)]:=ew
  have A2:aH (.int 1) (.int b)=some (.int (1+b)):=rfl
  have A3:aH (.lst (xs.map .int)) (.lst [.int (1+b)])=some (.lst (xs.map .int++[.int (1+b)])):=if_pos (by rw [List.length_map,l3]; show n+1≤16777216; omega)
  obtain ⟨c,n6,e6,c0,c1⟩:=kF n5 (.lst (rs.map rv)) (m:=2) (by decide) (sm8 (by decide) (by decide))
  have hway:1 - 2*c=1∨1 - 2*c=-1:=by omega
  have A4:dJ (.int 1) (.int (2*c))=some (.int (1 - 2*c)):=rfl
  have mc:=mc c
  refine ⟨(uss,1 - 2*c,zs++[z]),n6,some (.pv (tv (zs++[z]))),⟨w,hway,⟨zs,z,rfl,Z⟩⟩,?_⟩
  rw [em]
  show _=cE.nx _ [.lst (li n6),.lst (rs.map rv++[.tup [px uss,.tup [.int (1 - 2*c),tv (zs++[z])]]])]
  unfold ccB
  generalize (n:Int)=N,1 - 2*c=C1,1+b=B1,xs.map PV.int=XL,dA 0 n=IL,rs.map rv=RL,px uss=PX,tv (ys++[y])=TY,tv (zs++[z])=TV,(aY cG [] (aC (aA 1) (aC (aB dE (mC (.int 10)) (mC (.int 61))) aE)))=ME1 at *
  simp [EC,aM,aJ,aK,fEq,fNe,bZ,aP,aO,aQ,aN,frz,aL,e1,e2,bO,bS,fR,rg,e3,p61,e4,iU,e5,A2,A3,ew,e6,mc,A4,fY,jR,lX,lz]
 ·have ht:(t == 5)=false:=by simpa using ht
  obtain ⟨c,n6,e6,c0,c1⟩:=kF n2 (.lst (rs.map rv)) (m:=2) (by decide) (sm8 (by decide) (by decide))
  have hway:1 - 2*c=1∨1 - 2*c=-1:=by omega
  have A4:dJ (.int 1) (.int (2*c))=some (.int (1 - 2*c)):=rfl
  have mc:=mc c
  refine ⟨(uss,1 - 2*c,ys++[y]),n6,some (.pv (tv (ys++[y]))),⟨w,hway,Gf⟩,?_⟩
  rw [em]
  show _=cE.nx _ [.lst (li n6),.lst (rs.map rv++[.tup [px uss,.tup [.int (1 - 2*c),tv (ys++[y])]]])]
  unfold ccB
  generalize (n:Int)=N,1 - 2*c=C1,rs.map rv=RL,px uss=PX,tv (ys++[y])=TY at *
  simp [EC,aM,aJ,aK,fEq,fNe,bZ,aP,aO,aQ,aN,frz,aL,e1,e2,ht,e6,mc,A4,fY,jR,lX,lz]
theorem akr {n:Nat} (hn:n=2∨n=3) (x5 x6 x7 x8:Option AV):∀ (ts:List (List (List Int))) (rs:List Rr) (ns:List Int) (x3 x4:Option AV),(∀ uss∈ts,Sx n 210 uss)→(∀ r∈rs,Rt n 210 210 r)→rs.length+ts.length≤90→∃ (rs':List Rr) (ns':List Int) (y3 y4:Option AV),dD [] (gN 3) ccB (ts.map px) [some (.ref 0),some (.pv (.int (n:Int))),some (.ref 1),x3,x4,x5,x6,x7,x8] [.lst (li ns),.lst (rs.map rv)]=.nx [some (.ref 0),some (.pv (.int (n:Int))),some (.ref 1),y3,y4,x5,x6,x7,x8] [.lst (li ns'),.lst (rs'.map rv)]∧(∀ r∈rs',Rt n 210 210 r)∧rs'.length=rs.length+ts.length
 | [],rs,ns,x3,x4,_,hr,_=>⟨rs,ns,x3,x4,jE,hr,rfl⟩
 | u :: ts,rs,ns,x3,x4,h,hr,h9=>by
  have h9:rs.length+(ts.length+1)≤90:=h9
  obtain ⟨r,n1,y4,R,e1⟩:=alt hn ns rs (by omega) (h u List.mem_cons_self) x4 x5 x6 x7 x8
  obtain ⟨rs',n2,z3,z4,e2,g2,l2⟩:=akr hn x5 x6 x7 x8 ts (rs++[r]) n1 (some (.pv (px u))) y4 (fun q hq=>h q (List.mem_cons_of_mem _ hq)) (fun q hq=>by
   rcases List.mem_append.mp hq with y | y
   ·exact hr q y
   ·have:q=r:=by simpa using y
    rw [this]; exact R) (by rw [List.length_append,List.length_singleton]; omega)
  refine ⟨rs',n2,z3,z4,?_,g2,by rw [l2,List.length_append,List.length_singleton,List.length_cons]; omega⟩
  show dD [] _ ccB (px u :: ts.map px) _ _=_
  rw [jD]
  simp only [gN,List.set_cons_succ,List.set_cons_zero]
  rw [e1]
  exact e2
theorem akp {n k l m:Nat} {rs:List Rr} (h:∀ r∈rs,Rt n k l r):eqN (m+4) (.lst (rs.map rv)) (.lst (rs.map rv))=some true:=by
 refine ah9 fun v hv=>?_
 obtain ⟨r,hr,rfl⟩:=List.mem_map.mp hv
 have a:eqN (m+2) (px r.1) (px r.1)=some true:=ajx (h r hr).sx.gu
 have b:eqN (m+1) (tv r.2.2) (tv r.2.2)=some true:=zV m r.2.2
 have c:eqN (m+1) (.int r.2.1) (.int r.2.1)=some true:=by rw [bZ]; simp
 have d:eqN (m+2) (.tup [.int r.2.1,tv r.2.2]) (.tup [.int r.2.1,tv r.2.2])=some true:=uI fun v hv=>by
  have:v=.int r.2.1∨v=tv r.2.2:=by simpa using hv
  rcases this with rfl | rfl
  ·exact c
  ·exact b
 exact uI fun v hv=>by
  have:v=px r.1∨v=.tup [.int r.2.1,tv r.2.2]:=by simpa using hv
  rcases this with rfl | rfl
  ·exact a
  ·exact d
def tlB:MS:=(aR (bA 5 (aY lI [] (aC (aA 0) (aC (aA 2) aE))))
 (aR (bA 6 (aY oA [] (aC (aA 2) aE)))
 (aR (bA 7 (mC .non))
 (aR (pQ (pP (mC (.str "told")) (pH lA [] (aC (aA 5) aE))) "TooGreat" 9 7 (fun ρ=>(ρ.set 7 (some (.pv (.tup [.str "refused",.non]))))))
 (aR (sIf (bD (aB fNe (mR aK (aC (aA 5) aE)) (aA 2))) (bC (mC (.bl false))) bV)
 (aR (sIf (bD (mUn hU (aA 6))) (bC (aB fEq (aA 7) (mN eV (aC (mC (.str "refused")) (aC (mC .non) aE))))) bV)
 (aR (sIf (mOr (bD (aB fNe (aB fIx (aA 7) (mC (.int 0))) (mC (.str "told")))) (mOr (fD (bD (mUn (eI "str") (aB fIx (aA 7) (mC (.int 1)))))) (bD (aB fNe (aB fIx (aA 7) (mC (.int 1))) (aA 6))))) (bC (mC (.bl false))) bV)
 (aR (bA 8 (bM oB [] (aC (aA 6) aE)))
 (bC (kS (aY nX [] (aC (aA 8) (aC (aA 1) (aC (mN dQ (aC (mC (.int 1)) (aC (mUn cQ (mC (.int 1))) aE))) aE)))) (aB fEq (mR aK (aC (aA 8) aE)) (aA 2))))))))))))
theorem alz {n:Nat} (hn:n=2∨n=3) {rs:List Rr} (hm:rs.length≤200) (h:∀ r∈rs,Rt n 210 210 r) (ns:List Int) (x3 x4:Option AV):∃ ns':List Int,tlB [some (.ref 0),some (.pv (.int (n:Int))),some (.ref 1),x3,x4,none,none,none,none] [.lst (li ns),.lst (rs.map rv)]=.rt (.pv (.bl true)) [.lst (li ns'),.lst (rs.map rv)]:=by
 obtain ⟨A,n1,e1,hA⟩:=aeu (S:=[.lst (li ns),.lst (rs.map rv)]) (k:=0) (j:=1) (L:=rs.map rv) (ns:=ns) rfl rfl (by decide)
 have e1:lI [.ref 0,.ref 1] [.lst (li ns),.lst (rs.map rv)]=.ok (.pv A) [.lst (li n1),.lst (rs.map rv)]:=e1
 have eA:aK [A]=some (.lst (rs.map rv)):=by rcases hA with rfl | rfl <;> rfl
 have et:=agg [.lst (li n1),.lst (rs.map rv)] rfl hm h (by decide) (by decide) (by omega)
 have es:=akC [.lst (li n1),.lst (rs.map rv)] hA hm h (by decide) (by decide) (by omega)
 have q:eqN 8 (.lst (rs.map rv)) (.lst (rs.map rv))=some true:=akp (m:=4) h
 have qs:eqN 8 (.str "told") (.str "told")=some true:=by simp [eqN]
 have qr:eqN 8 (.tup [.str "refused",.non]) (.tup [.str "refused",.non])=some true:=by simp [eqN,gJ]
 have i0:∀ x y:PV,fIx (.tup [x,y]) (.int 0)=some x:=fun _ _=>rfl
 have i1:∀ x y:PV,fIx (.tup [x,y]) (.int 1)=some y:=fun _ _=>rfl
 refine ⟨n1,?_⟩
 unfold tlB
 by_cases z:gc rs
 ·have ew:wv gc cX rs=.non:=if_pos z
  rw [ew] at et
  have es:=es.1 z
  generalize (n:Int)=N,rs.map rv=HL at *
  simp [EC,aM,aJ,fEq,fNe,bZ,aP,aO,aQ,aN,aH,aT,frz,aL,e1,et,pQ,pP,pH,es,eA,q,hU,qr]
 ·have ew:wv gc cX rs=.str (tx (cX rs)):=if_neg z
  rw [ew] at et
  have es:=es.2 z
  have er:=agN [.lst (li n1),.lst (rs.map rv)] hn hm h (by decide) (by decide) z
  have ef:=afR hn [.lst (li n1),.lst (rs.map rv)] (by decide) (by decide) h
  have eL:aK [.tup (rs.map rv)]=some (.lst (rs.map rv)):=rfl
  have qt:eqN 8 (.str (tx (cX rs))) (.str (tx (cX rs)))=some true:=by simp [eqN]
  generalize (n:Int)=N,rs.map rv=HL,tx (cX rs)=TT at *
  simp [EC,aM,aJ,fEq,fNe,bZ,aP,aO,aQ,aN,aH,aT,frz,aL,e1,et,pQ,pP,pH,es,eA,q,hU,eI,qs,qt,i0,i1,er,ef,eL]
theorem akn:zS=(aR (bA 1 (aB aH (mC (.int 2)) (aY cG [] (aC (aA 0) (aC (mC (.int 2)) aE)))))
 (aR (bA 2 (iJ aE))
 (aR (dI (mIt (aY mJ [] (aC (aA 0) (aC (aA 1) (aC (mC (.int 3)) aE))))) (gN 3) ccB)
 tlB))):=rfl
theorem afs (ms:List Int):∃ ns':List Int,oU [.ref 0] [.lst (li ms)]=.ok (.pv (.bl true)) [.lst (li ns')]:=by
 obtain ⟨a,n1,e1,a0,a1⟩:=al3 ms (m:=2) (by decide) (sm8 (by decide) (by decide))
 obtain ⟨n,hn,ea⟩:∃ n:Nat,(n=2∨n=3)∧2+a=(n:Int):=⟨(2+a).toNat,by omega,by omega⟩
 obtain ⟨ts,n2,e2,g2,l2⟩:=agi hn n1 (.lst [])
 have A1:aH (.int 2) (.int a)=some (.int (n:Int)):=by rw [aH,ea]
 obtain ⟨rs,n3,y3,y4,e3,g3,l3⟩:=akr hn none none none none ts [] n2 none none g2 (fun _ h=>by cases h) (by show 0+ts.length≤90; omega)
 have e3:dD [] (gN 3) ccB (ts.map px) [some (.ref 0),some (.pv (.int (n:Int))),some (.ref 1),none,none,none,none,none,none] [.lst (li n2),.lst []]=.nx [some (.ref 0),some (.pv (.int (n:Int))),some (.ref 1),y3,y4,none,none,none,none] [.lst (li n3),.lst (rs.map rv)]:=e3
 obtain ⟨n4,e4⟩:=alz hn (by rw [l3]; show 0+ts.length≤200; omega) g3 n3 y3 y4
 refine ⟨n4,?_⟩
 unfold oU fnM
 rw [akn]
 generalize (n:Int)=N,rs.map rv=RL,ts.map px=TL,ccB=CBX,tlB=TB at *
 simp [EC,aM,aJ,aK,fEq,fNe,bZ,aP,aO,aQ,aN,frz,aL,e1,A1,iJ,nN,dI,mIt,e2,bW,e3,e4]
theorem agl (ns:List Int) (h:ns.length≤63):∃ S,ahM [.pv (.lst (ns.map .int))] []=.ok (.pv (.bl true)) S:=by
 obtain ⟨ms,e0,_⟩:=akf ns [] h
 have e0:pG [.pv (.lst (ns.map .int))] []=.ok (.ref 0) [.lst (li ms)]:=e0
 obtain ⟨n1,e1⟩:=afs ms
 obtain ⟨n2,e2⟩:=afs n1
 refine ⟨[],?_⟩
 generalize ns.map PV.int=NL at *
 unfold ahM fnM aip
 simp [EC,aM,aJ,aK,fIx,atI,ixN,fEq,fNe,eqN,aP,aO,aQ,aN,aH,aT,frz,aL,e0,e1,e2]
def HF (K:PySem.W.Frag) (x:Str) (st:Stmt):Prop:=∃ (f:Addr) (fd:FuncData),PySem.W.nsIn K mainGlobals x=some (some (.ref f))∧Fun K x x st f fd
theorem bU {K:PySem.W.Frag} {x:Str} {st:Stmt} {h:Heap} {mg:Str→Option Value} (X:K.In h) (G:h.Ns mainGlobals mg) (q:HF K x st):∃ f fd,Fun K x x st f fd∧PySem.W.keepIn K (.ref f)=true∧mg x=some (.ref f):=by
 obtain ⟨f,fd,a,F⟩:=q
 exact ⟨f,fd,F,F.kp,PySem.W.mg_of X G a⟩
theorem hF_of {K:PySem.W.Frag} {x:Str} {st:Stmt} {f:Addr} {oc:Value} {od an:Option Addr} {osl:Array (Option Value)} {kV doc pm cdv ct:Value} (a:PySem.W.nsIn K mainGlobals x=some (some (.ref f))) (l:K.lookup f=some ⟨oc,od,.func (PySem.W.fnOf x x (fX st) (eR st) (aW st) .none kV doc pm an cdv ct),osl⟩)
  (c:PySem.W.codeIn K cdv x=true) (k:PySem.W.keepIn K (.ref f)=true):HF K x st:=⟨_,_,a,ahk l c k⟩
theorem cU {P:Program} {w:World} {K:PySem.W.Frag} {mg:Str→Option Value} {base:Heap} {cl:Str→Addr} {x:Str} {k:Nat} {ps:List Str} {g:FM} {a:Addr} {d:FuncData} (G:bF P w K mg base CX0 k a d ps (cC K cl g)) (b:eY K d ps []) (kp:PySem.W.keepIn K (.ref a)=true) (n:mg x=some (.ref a)):Cal P w K mg base cl x k ps g:=⟨_,_,G,b,kp,n⟩
theorem all_mk {l:PySem.W.OpenLaw} {w:World} {K:PySem.W.Frag} {h:Heap} {mg:Str→Option Value} {fa:Addr} (X:K.In h) (G:h.Ns mainGlobals mg) (hfa:mg "law"=some (.ref fa))
  (h50:HF K "_law_row" afA)
  (h51:HF K "_law_take" zW)
  (h52:HF K "_law_gcd" aeH)
  (h53:HF K "_law_lowest" tW)
  (h59:HF K "_law_dot" uV)
  (h58:HF K "_law_cross" zG)
  (h60:HF K "_law_turn" zQ)
  (h57:HF K "_law_gap" uT)
  (h61:HF K "_law_det" vG)
  (h62:HF K "_law_simplex" yE)
  (h71:HF K "_law_great_heap" sX)
  (h66:HF K "_law_far" vE)
  (h67:HF K "_law_handed" yT)
  (h56:HF K "_law_frac" zT)
  (h68:HF K "_law_written" xV)
  (h69:HF K "_law_point_text" sS)
  (h70:HF K "_law_points_text" sR)
  (h72:HF K "_law_piece_text" xI)
  (h73:HF K "_law_cutting_text" sQ)
  (h37:HF K "shown_rows" xP)
  (h9:HF K "sign" afz)
  (h10:HF K "divisor" yL)
  {f12:Addr} {od12 an12:Option Addr} {sl12:Array (Option Value)} {oc12 kV12 dc12 pm12 cd12 ct12:Value}
  {T12:Addr} {tc12:Value} {td12:Option Addr} {tl12:Array (Option Value)} {tt12:Tok} {tn12:Nat}
  (a12:PySem.W.nsIn K mainGlobals "fraction"=some (some (.ref f12))) (l12:K.lookup f12=some ⟨oc12,od12,.func (PySem.W.fnOf "fraction" "fraction" (fX oK) (eR oK) (aW oK) (.ref T12) kV12 dc12 pm12 an12 cd12 ct12),sl12⟩) (c12:PySem.W.codeIn K cd12 "fraction"=true) (k12:PySem.W.keepIn K (.ref f12)=true)
  (t12:K.lookup T12=some ⟨tc12,td12,.seq #[.int 1 tt12] tn12,tl12⟩)
  (h15:HF K "measures" tJ)
  (h33:HF K "shown_whole" xH)
  (h34:HF K "shown_number" xD)
  (h35:HF K "shown_point" sW)
  (h36:HF K "shown_simplex" sP)
  (h26:HF K "is_push" yU)
  (h38:HF K "shown_move" xQ)
  (h39:HF K "shown_cutting" sO)
  (h45:HF K "read_rows" xR)
  (h40:HF K "refuse_unless" xC)
  (h25:HF K "move" aed)
  (h41:HF K "read_whole" sY)
  (h42:HF K "read_number" xF)
  (h11:HF K "reduced" tO)
  {f14:Addr} {od14 an14:Option Addr} {sl14:Array (Option Value)} {oc14 kV14 dc14 pm14 cd14 ct14:Value}
  {T14:Addr} {tc14:Value} {td14:Option Addr} {tl14:Array (Option Value)} {tt14:Tok} {tn14:Nat}
  (a14:PySem.W.nsIn K mainGlobals "point"=some (some (.ref f14))) (l14:K.lookup f14=some ⟨oc14,od14,.func (PySem.W.fnOf "point" "point" (fX nC) (eR nC) (aW nC) (.ref T14) kV14 dc14 pm14 an14 cd14 ct14),sl14⟩) (c14:PySem.W.codeIn K cd14 "point"=true) (k14:PySem.W.keepIn K (.ref f14)=true)
  (t14:K.lookup T14=some ⟨tc14,td14,.seq #[.int 1 tt14] tn14,tl14⟩)
  (h16:HF K "point_at" tM)
  (h43:HF K "read_point" tE)
  (h46:HF K "read_move" xU)
  (h44:HF K "read_corners" qG)
  (h47:HF K "read_piece" xO)
  (h17:HF K "whole_arrow" sV)
  (h18:HF K "dot" wA)
  (h19:HF K "normal" zL)
  (h20:HF K "determinant" sT)
  (h21:HF K "side" afn)
  (h23:HF K "simplex" yI)
  (h48:HF K "read_cutting" qI)
  (h54:HF K "_law_whole" zK)
  (h55:HF K "_law_wholes" tQ)
  (h63:HF K "_law_point_form" xJ)
  (h64:HF K "_law_simplex_form" sM)
  (h65:HF K "_law_cutting_form" xB)
  (h74:HF K "_law_once" uK)
  {f75:Addr} {od75 an75:Option Addr} {sl75:Array (Option Value)} {oc75 kV75 dc75 pm75 cd75 ct75:Value}
  (a75:PySem.W.nsIn K mainGlobals "law"=some (some (.ref f75))) (l75:K.lookup f75=some ⟨oc75,od75,.func (PySem.W.fnOf "law" "law" (fX kX) (eR kX) (aW kX) .none kV75 dc75 pm75 an75 cd75 ct75),sl75⟩) (c75:PySem.W.codeIn K cd75 "law"=true) (k75:PySem.W.keepIn K (.ref f75)=true)
  (z1:PySem.W.nsIn K mainGlobals "abs"=some none)
  (z2:PySem.W.nsIn K mainGlobals "all"=some none)
  (z3:PySem.W.nsIn K mainGlobals "bool"=some none)
  (z4:PySem.W.nsIn K mainGlobals "enumerate"=some none)
  (z5:PySem.W.nsIn K mainGlobals "int"=some none)
  (z6:PySem.W.nsIn K mainGlobals "isinstance"=some none)
  (z7:PySem.W.nsIn K mainGlobals "len"=some none)
  (z8:PySem.W.nsIn K mainGlobals "list"=some none)
  (z9:PySem.W.nsIn K mainGlobals "min"=some none)
  (z10:PySem.W.nsIn K mainGlobals "range"=some none)
  (z11:PySem.W.nsIn K mainGlobals "sorted"=some none)
  (z12:PySem.W.nsIn K mainGlobals "str"=some none)
  (z13:PySem.W.nsIn K mainGlobals "sum"=some none)
  (z14:PySem.W.nsIn K mainGlobals "tuple"=some none)
  (z15:PySem.W.nsIn K mainGlobals "zip"=some none)
  {C1 C2 C3 C4 C5 C6:Addr}
  (y1:PySem.W.nsIn K mainGlobals "Flat"=some (some (.ref C1))) (x1:PySem.W.excIn K C1 eT "ValueError.__new__"=true)
  (y2:PySem.W.nsIn K mainGlobals "NoMove"=some (some (.ref C2))) (x2:PySem.W.excIn K C2 eT "ValueError.__new__"=true)
  (y3:PySem.W.nsIn K mainGlobals "NoNumber"=some (some (.ref C3))) (x3:PySem.W.excIn K C3 eT "ValueError.__new__"=true)
  (y4:PySem.W.nsIn K mainGlobals "NoPoint"=some (some (.ref C4))) (x4:PySem.W.excIn K C4 eT "ValueError.__new__"=true)
  (y5:PySem.W.nsIn K mainGlobals "NoText"=some (some (.ref C5))) (x5:PySem.W.excIn K C5 eT "ValueError.__new__"=true)
  (y6:PySem.W.nsIn K mainGlobals "TooGreat"=some (some (.ref C6))) (x6:PySem.W.excIn K C6 eT "ValueError.__new__"=true)
  {gk1:Tok}
  {gk2:Tok}
  {gk3:Tok}
  {gk4:Tok}
  {gk5:Tok}
  (v1:PySem.W.nsIn K mainGlobals "FIGURES"=some (some (.str "0123456789" gk1)))
  (v2:PySem.W.nsIn K mainGlobals "MOST_FIGURES"=some (some (.int 60 gk2)))
  (v3:PySem.W.nsIn K mainGlobals "NOTHING"=some (some (.str "none" gk3)))
  (v4:PySem.W.nsIn K mainGlobals "PUSH"=some (some (.str "push" gk4)))
  (v5:PySem.W.nsIn K mainGlobals "TURN"=some (some (.str "turn" gk5)))
  : ∃ fd:FuncData,(∀ (s:Shared) (v:Value),BindsTo s fd ⟨[v],[]⟩ [("_law_script",v)])∧∀ base:Heap,K.In base→base.Ns mainGlobals mg→bF l.prog w K mg base CX0 10 fa fd ["_law_script"] (vO K):=by
 let cl:Str→Addr:=fun n=>if n="Flat" then C1 else if n="NoMove" then C2 else if n="NoNumber" then C3 else if n="NoPoint" then C4 else if n="NoText" then C5 else if n="TooGreat" then C6 else 0
 have e:=hfa.symm.trans (PySem.W.mg_of X G a75)
 cases e
 obtain ⟨f50,d50,F50,k50,n50⟩:=bU X G h50
 obtain ⟨f51,d51,F51,k51,n51⟩:=bU X G h51
 obtain ⟨f52,d52,F52,k52,n52⟩:=bU X G h52
 obtain ⟨f53,d53,F53,k53,n53⟩:=bU X G h53
 obtain ⟨f59,d59,F59,k59,n59⟩:=bU X G h59
 obtain ⟨f58,d58,F58,k58,n58⟩:=bU X G h58
 obtain ⟨f60,d60,F60,k60,n60⟩:=bU X G h60
 obtain ⟨f57,d57,F57,k57,n57⟩:=bU X G h57
 obtain ⟨f61,d61,F61,k61,n61⟩:=bU X G h61
 obtain ⟨f62,d62,F62,k62,n62⟩:=bU X G h62
 obtain ⟨f71,d71,F71,k71,n71⟩:=bU X G h71
 obtain ⟨f66,d66,F66,k66,n66⟩:=bU X G h66
 obtain ⟨f67,d67,F67,k67,n67⟩:=bU X G h67
 obtain ⟨f56,d56,F56,k56,n56⟩:=bU X G h56
 obtain ⟨f68,d68,F68,k68,n68⟩:=bU X G h68
 obtain ⟨f69,d69,F69,k69,n69⟩:=bU X G h69
 obtain ⟨f70,d70,F70,k70,n70⟩:=bU X G h70
 obtain ⟨f72,d72,F72,k72,n72⟩:=bU X G h72
 obtain ⟨f73,d73,F73,k73,n73⟩:=bU X G h73
 obtain ⟨f37,d37,F37,k37,n37⟩:=bU X G h37
 obtain ⟨f9,d9,F9,k9,n9⟩:=bU X G h9
 obtain ⟨f10,d10,F10,k10,n10⟩:=bU X G h10
 have F12:=afC (st:=oK) l12 c12 k12 t12 rfl
 obtain ⟨f15,d15,F15,k15,n15⟩:=bU X G h15
 obtain ⟨f33,d33,F33,k33,n33⟩:=bU X G h33
 obtain ⟨f34,d34,F34,k34,n34⟩:=bU X G h34
 obtain ⟨f35,d35,F35,k35,n35⟩:=bU X G h35
 obtain ⟨f36,d36,F36,k36,n36⟩:=bU X G h36
 obtain ⟨f26,d26,F26,k26,n26⟩:=bU X G h26
 obtain ⟨f38,d38,F38,k38,n38⟩:=bU X G h38
 obtain ⟨f39,d39,F39,k39,n39⟩:=bU X G h39
 obtain ⟨f45,d45,F45,k45,n45⟩:=bU X G h45
 obtain ⟨f40,d40,F40,k40,n40⟩:=bU X G h40
 obtain ⟨f25,d25,F25,k25,n25⟩:=bU X G h25
 obtain ⟨f41,d41,F41,k41,n41⟩:=bU X G h41
 obtain ⟨f42,d42,F42,k42,n42⟩:=bU X G h42
 obtain ⟨f11,d11,F11,k11,n11⟩:=bU X G h11
 have F14:=afC (st:=nC) l14 c14 k14 t14 rfl
 obtain ⟨f16,d16,F16,k16,n16⟩:=bU X G h16
 obtain ⟨f43,d43,F43,k43,n43⟩:=bU X G h43
 obtain ⟨f46,d46,F46,k46,n46⟩:=bU X G h46
 obtain ⟨f44,d44,F44,k44,n44⟩:=bU X G h44
 obtain ⟨f47,d47,F47,k47,n47⟩:=bU X G h47
 obtain ⟨f17,d17,F17,k17,n17⟩:=bU X G h17
 obtain ⟨f18,d18,F18,k18,n18⟩:=bU X G h18
 obtain ⟨f19,d19,F19,k19,n19⟩:=bU X G h19
 obtain ⟨f20,d20,F20,k20,n20⟩:=bU X G h20
 obtain ⟨f21,d21,F21,k21,n21⟩:=bU X G h21
 obtain ⟨f23,d23,F23,k23,n23⟩:=bU X G h23
 obtain ⟨f48,d48,F48,k48,n48⟩:=bU X G h48
 obtain ⟨f54,d54,F54,k54,n54⟩:=bU X G h54
 obtain ⟨f55,d55,F55,k55,n55⟩:=bU X G h55
 obtain ⟨f63,d63,F63,k63,n63⟩:=bU X G h63
 obtain ⟨f64,d64,F64,k64,n64⟩:=bU X G h64
 obtain ⟨f65,d65,F65,k65,n65⟩:=bU X G h65
 obtain ⟨f74,d74,F74,k74,n74⟩:=bU X G h74
 have F75:=ahk (st:=kX) l75 c75 k75
 have b12:=F12.binds (ps:=["top","bottom"]) (dd:=[]) fun _ _ _ _ _ _ _ us hl=>match us,hl with | [_,_],_=>⟨_,rfl,rfl⟩
 have bD12:=F12.binds (ps:=["top","bottom"]) (dd:=[.int 1 tt12]) fun _ _ _ _ _ _ _ us hl=>match us,(show us.length=1 by simpa using hl) with | [_],_=>⟨_,rfl,rfl⟩
 have b14:=F14.binds (ps:=["numbers","bottom"]) (dd:=[]) fun _ _ _ _ _ _ _ us hl=>match us,hl with | [_,_],_=>⟨_,rfl,rfl⟩
 have bD14:=F14.binds (ps:=["numbers","bottom"]) (dd:=[.int 1 tt14]) fun _ _ _ _ _ _ _ us hl=>match us,(show us.length=1 by simpa using hl) with | [_],_=>⟨_,rfl,rfl⟩
 have m_abs:=PySem.W.mg_none_of X G z1
 have m_all:=PySem.W.mg_none_of X G z2
 have m_bool:=PySem.W.mg_none_of X G z3
 have m_enumerate:=PySem.W.mg_none_of X G z4
 have m_int:=PySem.W.mg_none_of X G z5
 have m_isinstance:=PySem.W.mg_none_of X G z6
 have m_len:=PySem.W.mg_none_of X G z7
 have m_list:=PySem.W.mg_none_of X G z8
 have m_min:=PySem.W.mg_none_of X G z9
 have m_range:=PySem.W.mg_none_of X G z10
 have m_sorted:=PySem.W.mg_none_of X G z11
 have m_str:=PySem.W.mg_none_of X G z12
 have m_sum:=PySem.W.mg_none_of X G z13
 have m_tuple:=PySem.W.mg_none_of X G z14
 have m_zip:=PySem.W.mg_none_of X G z15
 have q_Flat:mg "Flat"=some (.ref (cl "Flat")):=PySem.W.mg_of X G y1
 have x_Flat:PySem.W.excIn K (cl "Flat") eT "ValueError.__new__"=true:=x1
 have q_NoMove:mg "NoMove"=some (.ref (cl "NoMove")):=PySem.W.mg_of X G y2
 have x_NoMove:PySem.W.excIn K (cl "NoMove") eT "ValueError.__new__"=true:=x2
 have q_NoNumber:mg "NoNumber"=some (.ref (cl "NoNumber")):=PySem.W.mg_of X G y3
 have x_NoNumber:PySem.W.excIn K (cl "NoNumber") eT "ValueError.__new__"=true:=x3
 have q_NoPoint:mg "NoPoint"=some (.ref (cl "NoPoint")):=PySem.W.mg_of X G y4
 have x_NoPoint:PySem.W.excIn K (cl "NoPoint") eT "ValueError.__new__"=true:=x4
 have q_NoText:mg "NoText"=some (.ref (cl "NoText")):=PySem.W.mg_of X G y5
 have x_NoText:PySem.W.excIn K (cl "NoText") eT "ValueError.__new__"=true:=x5
 have q_TooGreat:mg "TooGreat"=some (.ref (cl "TooGreat")):=PySem.W.mg_of X G y6
 have x_TooGreat:PySem.W.excIn K (cl "TooGreat") eT "ValueError.__new__"=true:=x6
 have gt_FIGURES:GlT K mg "FIGURES" (.str "0123456789"):=⟨_,.str "0123456789",PySem.W.mg_of X G v1,⟨_,rfl⟩,uG⟩
 have gt_MOST_FIGURES:GlT K mg "MOST_FIGURES" (.int 60):=⟨_,.int 60,PySem.W.mg_of X G v2,⟨_,rfl⟩,aiM⟩
 have gt_NOTHING:GlT K mg "NOTHING" (.str "none"):=⟨_,.str "none",PySem.W.mg_of X G v3,⟨_,rfl⟩,uG⟩
 have gt_PUSH:GlT K mg "PUSH" (.str "push"):=⟨_,.str "push",PySem.W.mg_of X G v4,⟨_,rfl⟩,uG⟩
 have gt_TURN:GlT K mg "TURN" (.str "turn"):=⟨_,.str "turn",PySem.W.mg_of X G v5,⟨_,rfl⟩,uG⟩
 have n12:=PySem.W.mg_of X G a12
 have n14:=PySem.W.mg_of X G a14
 have n75:=PySem.W.mg_of X G a75
 refine ⟨PySem.W.fnOf "law" "law" (fX kX) (eR kX) (aW kX) .none kV75 dc75 pm75 an75 cd75 ct75,fun s v=>.of_eq rfl,fun base _ _=>?_⟩
 have G50:=aik (P:=l.prog) (w:=w) (mg:=mg) (base:=base) (cl:=cl) F50 m_enumerate
 have C50:=cU G50 (bd1 F50 fun _ _ _ _ _ _ _=>rfl) k50 n50
 have G51:=agd (P:=l.prog) (w:=w) (mg:=mg) (base:=base) (cl:=cl) F51 m_len
 have C51:=cU G51 (bd2 F51 fun _ _ _ _ _ _ _ _=>rfl) k51 n51
 have G52:=aiA (P:=l.prog) (w:=w) (mg:=mg) (base:=base) (cl:=cl) F52 m_abs
 have C52:=cU G52 (bd2 F52 fun _ _ _ _ _ _ _ _=>rfl) k52 n52
 have G53:=adU F53 C52 m_tuple
 have C53:=cU G53 (bd1 F53 fun _ _ _ _ _ _ _=>rfl) k53 n53
 have G59:=aiF (P:=l.prog) (w:=w) (mg:=mg) (base:=base) (cl:=cl) F59 m_sum m_zip
 have C59:=cU G59 (bd2 F59 fun _ _ _ _ _ _ _ _=>rfl) k59 n59
 have G58:=afj (P:=l.prog) (w:=w) (mg:=mg) (base:=base) (cl:=cl) F58
 have C58:=cU G58 (bd2 F58 fun _ _ _ _ _ _ _ _=>rfl) k58 n58
 have G60:=agq F60 C59 C58 m_len
 have C60:=cU G60 (bd1 F60 fun _ _ _ _ _ _ _=>rfl) k60 n60
 have G57:=aid (P:=l.prog) (w:=w) (mg:=mg) (base:=base) (cl:=cl) F57 m_len m_range
 have C57:=cU G57 (bd2 F57 fun _ _ _ _ _ _ _ _=>rfl) k57 n57
 have G61:=ahy F61 C60 C57
 have C61:=cU G61 (bd1 F61 fun _ _ _ _ _ _ _=>rfl) k61 n61
 have G62:=acB F62 C61 m_sorted m_tuple
 have C62:=cU G62 (bd1 F62 fun _ _ _ _ _ _ _=>rfl) k62 n62
 have G71:=aa7 F71 C51 C53 C61 C62 m_min m_range
 have C71:=cU G71 (bd3 F71 fun _ _ _ _ _ _ _ _ _=>rfl) k71 n71
 have G66:=ahU F66 C51 C53 m_range
 have C66:=cU G66 (bd2 F66 fun _ _ _ _ _ _ _ _=>rfl) k66 n66
 have G67:=adV F67 C51 m_list m_tuple
 have C67:=cU G67 (bd2 F67 fun _ _ _ _ _ _ _ _=>rfl) k67 n67
 have G56:=agJ F56 C53
 have C56:=cU G56 (bd2 F56 fun _ _ _ _ _ _ _ _=>rfl) k56 n56
 have G68:=acx F68 C56 m_abs m_str
 have C68:=cU G68 (bd2 F68 fun _ _ _ _ _ _ _ _=>rfl) k68 n68
 have G69:=aa9 F69 C68
 have C69:=cU G69 (bd1 F69 fun _ _ _ _ _ _ _=>rfl) k69 n69
 have G70:=aaM F70 C69
 have C70:=cU G70 (bd1 F70 fun _ _ _ _ _ _ _=>rfl) k70 n70
 have G72:=aa2 F72 C70 C69
 have C72:=cU G72 (bd1 F72 fun _ _ _ _ _ _ _=>rfl) k72 n72
 have G73:=aaI F73 C72 m_len
 have C73:=cU G73 (bd1 F73 fun _ _ _ _ _ _ _=>rfl) k73 n73
 have G37:=abG (P:=l.prog) (w:=w) (mg:=mg) (base:=base) (cl:=cl) F37 gt_NOTHING
 have C37:=cU G37 (bd1 F37 fun _ _ _ _ _ _ _=>rfl) k37 n37
 have G9:=aiv (P:=l.prog) (w:=w) (mg:=mg) (base:=base) (cl:=cl) F9
 have C9:=cU G9 (bd1 F9 fun _ _ _ _ _ _ _=>rfl) k9 n9
 have G10:=adJ (P:=l.prog) (w:=w) (mg:=mg) (base:=base) (cl:=cl) F10 m_abs
 have C10:=cU G10 (bd2 F10 fun _ _ _ _ _ _ _ _=>rfl) k10 n10
 have GX12:=acz F12 C9 C10 q_NoNumber x_NoNumber
 have H12:=fU GX12 b12 k12 n12
 have G15:=acU F15 H12 m_tuple
 have C15:=cU G15 (bd1 F15 fun _ _ _ _ _ _ _=>rfl) k15 n15
 have GX33:=aa0 (P:=l.prog) (w:=w) (mg:=mg) (base:=base) (cl:=cl) F33 m_abs m_str q_TooGreat x_TooGreat
 have H33:=fU GX33 (bd1 F33 fun _ _ _ _ _ _ _=>rfl) k33 n33
 have GX34:=aaT F34 H33
 have H34:=fU GX34 (bd1 F34 fun _ _ _ _ _ _ _=>rfl) k34 n34
 have GX35:=aa4 F35 C15 H34
 have H35:=fU GX35 (bd1 F35 fun _ _ _ _ _ _ _=>rfl) k35 n35
 have GX36:=aaH F36 H35
 have H36:=fU GX36 (bd1 F36 fun _ _ _ _ _ _ _=>rfl) k36 n36
 have G26:=ad3 (P:=l.prog) (w:=w) (mg:=mg) (base:=base) (cl:=cl) F26
 have C26:=cU G26 (bd1 F26 fun _ _ _ _ _ _ _=>rfl) k26 n26
 have GX38:=abE F38 C26 H35 gt_PUSH gt_TURN
 have H38:=fU GX38 (bd1 F38 fun _ _ _ _ _ _ _=>rfl) k38 n38
 have GX39:=aaE F39 C37 H36 H38
 have H39:=fU GX39 (bd1 F39 fun _ _ _ _ _ _ _=>rfl) k39 n39
 have G45:=ace (P:=l.prog) (w:=w) (mg:=mg) (base:=base) (cl:=cl) F45 gt_NOTHING
 have C45:=cU G45 (bd1 F45 fun _ _ _ _ _ _ _=>rfl) k45 n45
 have GX40:=aaJ (P:=l.prog) (w:=w) (mg:=mg) (base:=base) (cl:=cl) F40 q_NoText x_NoText
 have H40:=fU GX40 (bd1 F40 fun _ _ _ _ _ _ _=>rfl) k40 n40
 have GX25:=ail (P:=l.prog) (w:=w) (mg:=mg) (base:=base) (cl:=cl) F25 q_NoMove x_NoMove
 have H25:=fU GX25 (bd2 F25 fun _ _ _ _ _ _ _ _=>rfl) k25 n25
 have GX41:=abA F41 H40 m_all m_int m_len gt_FIGURES gt_MOST_FIGURES
 have H41:=fU GX41 (bd1 F41 fun _ _ _ _ _ _ _=>rfl) k41 n41
 have GX42:=aa8 F42 H40 H41 H12 m_len
 have H42:=fU GX42 (bd1 F42 fun _ _ _ _ _ _ _=>rfl) k42 n42
 have G11:=ad1 F11 C10
 have C11:=cU G11 (bd1 F11 fun _ _ _ _ _ _ _=>rfl) k11 n11
 have GX14:=agw F14 C11 C9 m_list m_tuple q_NoPoint x_NoPoint
 have H14:=fU GX14 b14 k14 n14
 have G16:=acw F16 H14
 have C16:=cU G16 (bd1 F16 fun _ _ _ _ _ _ _=>rfl) k16 n16
 have GX43:=abF F43 H42 H40 C16 m_len
 have H43:=fU GX43 (bd1 F43 fun _ _ _ _ _ _ _=>rfl) k43 n43
 have GX46:=abK F46 H40 H25 H43 gt_PUSH gt_TURN
 have H46:=fU GX46 (bd1 F46 fun _ _ _ _ _ _ _=>rfl) k46 n46
 have GX44:=aaQ F44 H43 H40 m_all m_len
 have H44:=fU GX44 (bd1 F44 fun _ _ _ _ _ _ _=>rfl) k44 n44
 have GX47:=abB F47 H40 H46 H44 m_len
 have H47:=fU GX47 (bd1 F47 fun _ _ _ _ _ _ _=>rfl) k47 n47
 have G17:=aa3 (P:=l.prog) (w:=w) (mg:=mg) (base:=base) (cl:=cl) F17 m_zip
 have C17:=cU G17 (bd2 F17 fun _ _ _ _ _ _ _ _=>rfl) k17 n17
 have G18:=akc (P:=l.prog) (w:=w) (mg:=mg) (base:=base) (cl:=cl) F18 m_sum m_zip
 have C18:=cU G18 (bd2 F18 fun _ _ _ _ _ _ _ _=>rfl) k18 n18
 have G19:=aeg (P:=l.prog) (w:=w) (mg:=mg) (base:=base) (cl:=cl) F19 m_len
 have C19:=cU G19 (bd1 F19 fun _ _ _ _ _ _ _=>rfl) k19 n19
 have G20:=aa6 F20 C17 C18 C19
 have C20:=cU G20 (bd1 F20 fun _ _ _ _ _ _ _=>rfl) k20 n20
 have G21:=air F21 C9 C20
 have C21:=cU G21 (bd1 F21 fun _ _ _ _ _ _ _=>rfl) k21 n21
 have GX23:=adX F23 C21 m_sorted m_tuple q_Flat x_Flat
 have H23:=fU GX23 (bd1 F23 fun _ _ _ _ _ _ _=>rfl) k23 n23
 have GX48:=aaY F48 C45 H47 H40 H23 m_len m_tuple
 have H48:=fU GX48 (bd1 F48 fun _ _ _ _ _ _ _=>rfl) k48 n48
 have G54:=aeS (P:=l.prog) (w:=w) (mg:=mg) (base:=base) (cl:=cl) F54 m_bool m_int m_isinstance
 have C54:=cU G54 (bd1 F54 fun _ _ _ _ _ _ _=>rfl) k54 n54
 have G55:=adM F55 C54 m_all m_isinstance m_len m_tuple
 have C55:=cU G55 (bd2 F55 fun _ _ _ _ _ _ _ _=>rfl) k55 n55
 have G63:=aa5 F63 C55 C53
 have C63:=cU G63 (bd2 F63 fun _ _ _ _ _ _ _ _=>rfl) k63 n63
 have G64:=aaD F64 C63 C61 C62 m_all m_isinstance m_len m_tuple
 have C64:=cU G64 (bd2 F64 fun _ _ _ _ _ _ _ _=>rfl) k64 n64
 have G65:=aaF F65 C64 C54 C63 m_isinstance m_len m_tuple
 have C65:=cU G65 (bd3 F65 fun _ _ _ _ _ _ _ _ _=>rfl) k65 n65
 have G74:=agj F74 C51 C71 C66 C53 C67 C73 H39 H48 C65 m_isinstance m_list m_range m_str q_TooGreat x_TooGreat
 have C74:=cU G74 (bd1 F74 fun _ _ _ _ _ _ _=>rfl) k74 n74
 exact (aj3 (P:=l.prog) (w:=w) (mg:=mg) (base:=base) (cl:=cl) F75 C50 C74).imp fun vs H Q E h=>aiI agl h
theorem walk {l:PySem.W.OpenLaw} {q:Program} {loose:List Str} {XP:(Str→Option Value)→Heap→Prop} {YP:World→Heap→Prop} {d:DefRec} {K:Params→PySem.W.Frag} (hn:l.most=some 63) (hdf:d.params.defaults=[])
  (hY:∀ (w:World) (h:Heap),YP w h→(K w.params).In h)
  (F:∀ (w:World) (mg:Str→Option Value) (fa:Addr) (h:Heap),(K w.params).In h→h.Ns mainGlobals mg→mg d.name=some (.ref fa) →
   ∃ fd:FuncData,(∀ (s:Shared) (u:Value),BindsTo s fd ⟨[u],[]⟩ [("_law_script",u)])∧∀ base:Heap,(K w.params).In base→base.Ns mainGlobals mg→bF l.prog w (K w.params) mg base CX0 10 fa fd ["_law_script"] (vO (K w.params))) :
  PySem.W.WalkO q loose XP YP l.row.toRowW d [] (fun f vs=>PySem.call f vs) :=
 L2.walk_of (n:=63) (k:=10) (x:="_law_script") (CX:=fun _=>CX0) (sp:=fun w=>vO (K w.params)) hn (by decide) hdf ⟨rfl,by decide,by decide⟩ hY F (fun _ _ a ns hl _ hS=>⟨a,ns,rfl,hS,hl,fun _=>rfl⟩) fun _ _ _ _ _ z=>z
end
end Sc
open PySem PySem.W PyProof.Rows
set_option maxRecDepth 100000 in
set_option maxHeartbeats 0 in
theorem PySem.Challenge.cw_scissorhall_k85_cuttings_written_holds : PySem.Challenge.rw_scissorhall_k85_cuttings_written.Holds := by
 w_on; o_law
 refine holds_open (q:=Sc.VW) (loose:=[PySem.Str.ofString "fraction",PySem.Str.ofString "point"]) (Xt:=fun s=>xlAt Sc.VW [] s && recOk (RowW.records (OpenRow.toRowW (OpenLaw.row PySem.Challenge.rw_scissorhall_k85_cuttings_written))) s) (XP:=XL Sc.VW []) (Yf:=Hook.obs (kHook Sc.KK Sc.KA Sc.KE)) (Ya:=Hook.val (kHook Sc.KK Sc.KA Sc.KE)) (YP:=Hook.says (kHook Sc.KK Sc.KA Sc.KE)) (N:=6508) Sc.left (Hook.of (kHook Sc.KK Sc.KA Sc.KE)) (Hook.keeps (kHook Sc.KK Sc.KA Sc.KE)) (fun s e=>xl_of s (Bool.and_eq_true_iff.mp e).1) XL.keeps (by rfl) (by rfl) (by rfl) (fun s e=>recFacts_of (Bool.and_eq_true_iff.mp e).2) (by rfl) (by first | assumption | decide +kernel) (by decide +kernel) ⟨rfl,rfl,rfl,rfl,rfl,by decide +kernel⟩ ?hw ?hc
 case hw=>w_witness2
 k_fill
 refine Sc.walk (l:=PySem.Challenge.rw_scissorhall_k85_cuttings_written) rfl rfl (fun w h Y=>PySem.W.kIn_of Y) ?F
 case F =>
  intro w mg fa h KX G hmg
  refine' Sc.all_mk KX G hmg (Sc.hF_of ?a50 ?l50 ?c50 ?k50) (Sc.hF_of ?a51 ?l51 ?c51 ?k51) (Sc.hF_of ?a52 ?l52 ?c52 ?k52) (Sc.hF_of ?a53 ?l53 ?c53 ?k53) (Sc.hF_of ?a59 ?l59 ?c59 ?k59) (Sc.hF_of ?a58 ?l58 ?c58 ?k58) (Sc.hF_of ?a60 ?l60 ?c60 ?k60) (Sc.hF_of ?a57 ?l57 ?c57 ?k57) (Sc.hF_of ?a61 ?l61 ?c61 ?k61) (Sc.hF_of ?a62 ?l62 ?c62 ?k62) (Sc.hF_of ?a71 ?l71 ?c71 ?k71) (Sc.hF_of ?a66 ?l66 ?c66 ?k66) (Sc.hF_of ?a67 ?l67 ?c67 ?k67) (Sc.hF_of ?a56 ?l56 ?c56 ?k56) (Sc.hF_of ?a68 ?l68 ?c68 ?k68) (Sc.hF_of ?a69 ?l69 ?c69 ?k69) (Sc.hF_of ?a70 ?l70 ?c70 ?k70) (Sc.hF_of ?a72 ?l72 ?c72 ?k72) (Sc.hF_of ?a73 ?l73 ?c73 ?k73) (Sc.hF_of ?a37 ?l37 ?c37 ?k37) (Sc.hF_of ?a9 ?l9 ?c9 ?k9) (Sc.hF_of ?a10 ?l10 ?c10 ?k10) ?a12 ?l12 ?c12 ?k12 ?t12 (Sc.hF_of ?a15 ?l15 ?c15 ?k15) (Sc.hF_of ?a33 ?l33 ?c33 ?k33) (Sc.hF_of ?a34 ?l34 ?c34 ?k34) (Sc.hF_of ?a35 ?l35 ?c35 ?k35) (Sc.hF_of ?a36 ?l36 ?c36 ?k36) (Sc.hF_of ?a26 ?l26 ?c26 ?k26) (Sc.hF_of ?a38 ?l38 ?c38 ?k38) (Sc.hF_of ?a39 ?l39 ?c39 ?k39) (Sc.hF_of ?a45 ?l45 ?c45 ?k45) (Sc.hF_of ?a40 ?l40 ?c40 ?k40) (Sc.hF_of ?a25 ?l25 ?c25 ?k25) (Sc.hF_of ?a41 ?l41 ?c41 ?k41) (Sc.hF_of ?a42 ?l42 ?c42 ?k42) (Sc.hF_of ?a11 ?l11 ?c11 ?k11) ?a14 ?l14 ?c14 ?k14 ?t14 (Sc.hF_of ?a16 ?l16 ?c16 ?k16) (Sc.hF_of ?a43 ?l43 ?c43 ?k43) (Sc.hF_of ?a46 ?l46 ?c46 ?k46) (Sc.hF_of ?a44 ?l44 ?c44 ?k44) (Sc.hF_of ?a47 ?l47 ?c47 ?k47) (Sc.hF_of ?a17 ?l17 ?c17 ?k17) (Sc.hF_of ?a18 ?l18 ?c18 ?k18) (Sc.hF_of ?a19 ?l19 ?c19 ?k19) (Sc.hF_of ?a20 ?l20 ?c20 ?k20) (Sc.hF_of ?a21 ?l21 ?c21 ?k21) (Sc.hF_of ?a23 ?l23 ?c23 ?k23) (Sc.hF_of ?a48 ?l48 ?c48 ?k48) (Sc.hF_of ?a54 ?l54 ?c54 ?k54) (Sc.hF_of ?a55 ?l55 ?c55 ?k55) (Sc.hF_of ?a63 ?l63 ?c63 ?k63) (Sc.hF_of ?a64 ?l64 ?c64 ?k64) (Sc.hF_of ?a65 ?l65 ?c65 ?k65) (Sc.hF_of ?a74 ?l74 ?c74 ?k74) ?a75 ?l75 ?c75 ?k75 ?z1 ?z2 ?z3 ?z4 ?z5 ?z6 ?z7 ?z8 ?z9 ?z10 ?z11 ?z12 ?z13 ?z14 ?z15 ?y1 ?x1 ?y2 ?x2 ?y3 ?x3 ?y4 ?x4 ?y5 ?x5 ?y6 ?x6 ?v1 ?v2 ?v3 ?v4 ?v5
  (case a50 | l50 | c50 | k50 | a51 | l51 | c51 | k51 | a52 | l52 | c52 | k52 | a53 | l53 | c53 | k53 | a59 | l59 | c59 | k59 | a58 | l58 | c58 | k58 | a60 | l60 | c60 | k60 | a57 | l57 | c57 | k57 | a61 | l61 | c61 | k61 | a62 | l62 | c62 | k62 | a71 | l71 | c71 | k71 | a66 | l66 | c66 | k66 | a67 | l67 | c67 | k67 | a56 | l56 | c56 | k56 | a68 | l68 | c68 | k68 | a69 | l69 | c69 | k69 | a70 | l70 | c70 | k70 | a72 | l72 | c72 | k72 | a73 | l73 | c73 | k73 | a37 | l37 | c37 | k37 | a9 | l9 | c9 | k9 | a10 | l10 | c10 | k10 | a12 | l12 | c12 | k12 | t12 | a15 | l15 | c15 | k15 | a33 | l33 | c33 | k33 | a34 | l34 | c34 | k34 | a35 | l35 | c35 | k35 | a36 | l36 | c36 | k36 | a26 | l26 | c26 | k26 | a38 | l38 | c38 | k38 | a39 | l39 | c39 | k39 | a45 | l45 | c45 | k45 | a40 | l40 | c40 | k40 | a25 | l25 | c25 | k25 | a41 | l41 | c41 | k41 | a42 | l42 | c42 | k42 | a11 | l11 | c11 | k11 | a14 | l14 | c14 | k14 | t14 | a16 | l16 | c16 | k16 | a43 | l43 | c43 | k43 | a46 | l46 | c46 | k46 | a44 | l44 | c44 | k44 | a47 | l47 | c47 | k47 | a17 | l17 | c17 | k17 | a18 | l18 | c18 | k18 | a19 | l19 | c19 | k19 | a20 | l20 | c20 | k20 | a21 | l21 | c21 | k21 | a23 | l23 | c23 | k23 | a48 | l48 | c48 | k48 | a54 | l54 | c54 | k54 | a55 | l55 | c55 | k55 | a63 | l63 | c63 | k63 | a64 | l64 | c64 | k64 | a65 | l65 | c65 | k65 | a74 | l74 | c74 | k74 | a75 | l75 | c75 | k75 | z1 | z2 | z3 | z4 | z5 | z6 | z7 | z8 | z9 | z10 | z11 | z12 | z13 | z14 | z15 | y1=>k_is)
  (case x1=>k_exc)
  (case y2=>k_is)
  (case x2=>k_exc)
  (case y3=>k_is)
  (case x3=>k_exc)
  (case y4=>k_is)
  (case x4=>k_exc)
  (case y5=>k_is)
  (case x5=>k_exc)
  (case y6=>k_is)
  (case x6=>k_exc)
  (case v1 | v2 | v3 | v4 | v5=>k_is)
#print axioms PySem.Challenge.cw_scissorhall_k85_cuttings_written_holds
