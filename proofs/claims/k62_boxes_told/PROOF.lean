import PyProof.Rows.All
import Wide.All
import OpenK.AllK
import Wide.FinOn
import Lean
import PyProof.EqAt
import PyProof.EqKinds
import PyProof.TupleCall
import PyProof.ZipIter
import PyProof.Draws
import PyProof.CompFree
import PyProof.NeKinds
import PyProof.NsDelKeeps
import PyProof.ExcArgsOwn
import PyProof.ExcAttrAll.ValueError
import KE.KSortTup
import PySem.Challenge.RW_scissorhall_k62_boxes_told
set_option Elab.async false
set_option maxRecDepth 100000
set_option maxHeartbeats 0
namespace L2
open PySem
def aaz (s:Stmt):Arguments:=match s with
 | .FunctionDef _ a _ _ _ _ _ _ _ _=>a
 | _=>{ posonlyargs:=[],args:=[],vararg:=none,kwonlyargs:=[],kw_defaults:=[],kwarg:=none,defaults:=[] }
def aat (s:Stmt):List Stmt:=match s with
 | .FunctionDef _ _ b _ _ _ _ _ _ _=>b
 | _=>[]
def aad (s:Stmt):Scope:=match s with
 | .FunctionDef _ _ _ _ _ _ sc _ _ _=>sc
 | _=>{ kind:=.function,names:=[],isGenerator:=false,isCoroutine:=false }
end L2
namespace Sc
open PySem L2
def top (i:Nat):Stmt:=PySem.Challenge.pw_scissorhall_k62_boxes_told.main.body.getD i (.Pass ⟨0,0,0,0⟩)
abbrev vs (s:String) (t:Nat):Value:=.str (Str.ofString s) t
abbrev vi (i:Int):Value:=.int i 0
abbrev vr (a:Nat):Value:=.ref a
abbrev fo (n:String) (i:Nat) (dV dc pm cd ct:Value):Obj:=⟨.type "function",none,.func (PySem.W.fnOf (Str.ofString n) (Str.ofString n) (aaz (top i)) (aat (top i)) (aad (top i)) dV .none dc pm none cd ct),#[]⟩
abbrev fc (l:List Value):Obj:=⟨.type "code",none,.fields l.toArray,#[]⟩
abbrev fd (P:Params) (n:Nat) (l:List (String × Nat × Value)):Obj:=⟨.type "dict",none,.dict (l.map fun e=>⟨PyData.keyHash P (Str.ofString e.1),.str (Str.ofString e.1) e.2.1,e.2.2⟩).toArray n,#[]⟩
noncomputable def KK (P:Params):PySem.W.Frag :=
 (nat_lit 3,fd P 46 [("__name__",165,vs "law_scissorhall_k62_boxes_told" 366),("__doc__",166,.none),("__package__",167,.none),("__loader__",168,(.builtin "__main__.__loader__#opaque")),("__spec__",169,.none),("__annotations__",170,vr 6),("__builtins__",171,vr 4),("__file__",173,vs "/claim/cut.py" 172),("__cached__",174,.none),("HallError",206,vr 24),("NoPoint",222,vr 37),("Flat",238,vr 49),("sign",247,vr 58),("divisor",256,vr 65),("reduced",262,vr 70),("point",271,vr 76),("added",277,vr 81),("whole_arrow",283,vr 86),("dot",289,vr 91),("normal",298,vr 98),("determinant",304,vr 103),("side",311,vr 110),("simplex",322,vr 117),("FLAT_ORDERS",329,vr 120),("SPACE_ORDERS",348,vr 127),("gone",359,vr 134),("box",365,vr 139),("_law_row",380,vr 146),("_law_take",389,vr 153),("_law_gcd",397,vr 160),("_law_lowest",403,vr 165),("_law_whole",410,vr 172),("_law_wholes",416,vr 177),("_law_joined",422,vr 182),("_law_gap",428,vr 187),("_law_cross",439,vr 194),("_law_dot",445,vr 199),("_law_turn",452,vr 206),("_law_det",458,vr 211),("_law_simplex",466,vr 218),("_law_point_form",474,vr 225),("_law_simplex_form",480,vr 230),("_law_heap_form",486,vr 235),("_law_far",492,vr 240),("_law_shift",498,vr 245),("law",504,vr 250)]) ::
 (nat_lit 23,fd P 3 [("__module__",196,vs "scissorhall.errors" 187),("__firstlineno__",200,(.int 2 199)),("__static_attributes__",201,vr 22),("__weakref__",203,vr 25),("__doc__",204,.none)]) ::
 (nat_lit 24,⟨(.type "type"),none,.cls { name:="HallError",bases:=[(.type "ValueError")],mro:=[vr 24,(.type "ValueError"),(.type "Exception"),(.type "BaseException"),(.type "object")],ns:=23,qualname:="HallError",hasDict:=true,subclasses:=[vr 37,vr 49] },#[some (vr 15),none,some (vs "HallError" 189),some (vs "HallError" 197),some (.builtin "ValueError.__new__"),some (.bool true)]⟩) ::
 (nat_lit 36,fd P 2 [("__module__",214,vs "scissorhall.errors" 187),("__firstlineno__",218,(.int 4 217)),("__static_attributes__",219,vr 35),("__doc__",220,.none)]) ::
 (nat_lit 37,⟨(.type "type"),none,.cls { name:="NoPoint",bases:=[vr 24],mro:=[vr 37,vr 24,(.type "ValueError"),(.type "Exception"),(.type "BaseException"),(.type "object")],ns:=36,qualname:="NoPoint",hasDict:=true,subclasses:=[] },#[some (vr 28),none,some (vs "NoPoint" 207),some (vs "NoPoint" 215),some (.builtin "ValueError.__new__"),some (.bool true)]⟩) ::
 (nat_lit 48,fd P 2 [("__module__",230,vs "scissorhall.errors" 187),("__firstlineno__",234,(.int 6 233)),("__static_attributes__",235,vr 47),("__doc__",236,.none)]) ::
 (nat_lit 49,⟨(.type "type"),none,.cls { name:="Flat",bases:=[vr 24],mro:=[vr 49,vr 24,(.type "ValueError"),(.type "Exception"),(.type "BaseException"),(.type "object")],ns:=48,qualname:="Flat",hasDict:=true,subclasses:=[] },#[some (vr 40),none,some (vs "Flat" 223),some (vs "Flat" 231),some (.builtin "ValueError.__new__"),some (.bool true)]⟩) ::
 (nat_lit 57,fc [vs "sign" 241,vs "sign" 242,vs "/claim/cut.py" 243,vi 9,vi 1,vi 0,vi 0,vi 3,vr 52,(.bool true),vi 181,vr 53,.none,vr 54,vr 55,vr 56,vi 245,vi 9,vs "/claim/cut.py" 246]) ::
 (nat_lit 58,fo "sign" 5 .none .none (vs "scissorhall.lowest" 239) (vr 57) .none) ::
 (nat_lit 64,fc [vs "divisor" 248,vs "divisor" 249,vs "/claim/cut.py" 250,vi 15,vi 2,vi 0,vi 0,vi 3,vr 59,(.bool true),vi 181,vr 60,.none,vr 61,vr 62,vr 63,vi 254,vi 15,vs "/claim/cut.py" 255]) ::
 (nat_lit 65,fo "divisor" 6 .none .none (vs "scissorhall.lowest" 239) (vr 64) .none) ::
 (nat_lit 69,fc [vs "reduced" 257,vs "reduced" 258,vs "/claim/cut.py" 259,vi 21,vi 1,vi 0,vi 0,vi 3,vr 66,(.bool true),vi 181,vr 67,.none,.none,.none,vr 68,vi 260,vi 21,vs "/claim/cut.py" 261]) ::
 (nat_lit 70,fo "reduced" 7 .none .none (vs "scissorhall.lowest" 239) (vr 69) .none) ::
 (nat_lit 71,⟨.type "tuple",none,.seq #[(.int 1 265)] 0,#[]⟩) ::
 (nat_lit 75,fc [vs "point" 266,vs "point" 267,vs "/claim/cut.py" 268,vi 27,vi 2,vi 0,vi 0,vi 3,vr 72,(.bool true),vi 181,vr 73,.none,.none,.none,vr 74,vi 269,vi 27,vs "/claim/cut.py" 270]) ::
 (nat_lit 76,fo "point" 9 (vr 71) .none (vs "scissorhall.points" 263) (vr 75) .none) ::
 (nat_lit 80,fc [vs "added" 272,vs "added" 273,vs "/claim/cut.py" 274,vi 31,vi 2,vi 0,vi 0,vi 3,vr 77,(.bool true),vi 181,vr 78,.none,.none,.none,vr 79,vi 275,vi 31,vs "/claim/cut.py" 276]) ::
 (nat_lit 81,fo "added" 10 .none .none (vs "scissorhall.points" 263) (vr 80) .none) ::
 (nat_lit 85,fc [vs "whole_arrow" 278,vs "whole_arrow" 279,vs "/claim/cut.py" 280,vi 34,vi 2,vi 0,vi 0,vi 3,vr 82,(.bool true),vi 181,vr 83,.none,.none,.none,vr 84,vi 281,vi 34,vs "/claim/cut.py" 282]) ::
 (nat_lit 86,fo "whole_arrow" 11 .none .none (vs "scissorhall.points" 263) (vr 85) .none) ::
 (nat_lit 90,fc [vs "dot" 284,vs "dot" 285,vs "/claim/cut.py" 286,vi 36,vi 2,vi 0,vi 0,vi 3,vr 87,(.bool true),vi 181,vr 88,.none,.none,.none,vr 89,vi 287,vi 36,vs "/claim/cut.py" 288]) ::
 (nat_lit 91,fo "dot" 12 .none .none (vs "scissorhall.points" 263) (vr 90) .none) ::
 (nat_lit 97,fc [vs "normal" 290,vs "normal" 291,vs "/claim/cut.py" 292,vi 38,vi 1,vi 0,vi 0,vi 3,vr 92,(.bool true),vi 181,vr 93,.none,vr 94,vr 95,vr 96,vi 296,vi 38,vs "/claim/cut.py" 297]) ::
 (nat_lit 98,fo "normal" 13 .none .none (vs "scissorhall.points" 263) (vr 97) .none) ::
 (nat_lit 102,fc [vs "determinant" 299,vs "determinant" 300,vs "/claim/cut.py" 301,vi 44,vi 1,vi 0,vi 0,vi 3,vr 99,(.bool true),vi 181,vr 100,.none,.none,.none,vr 101,vi 302,vi 44,vs "/claim/cut.py" 303]) ::
 (nat_lit 103,fo "determinant" 14 .none .none (vs "scissorhall.points" 263) (vr 102) .none) ::
 (nat_lit 109,fc [vs "side" 305,vs "side" 306,vs "/claim/cut.py" 307,vi 47,vi 1,vi 0,vi 0,vi 3,vr 104,(.bool true),vi 181,vr 105,.none,vr 106,vr 107,vr 108,vi 309,vi 47,vs "/claim/cut.py" 310]) ::
 (nat_lit 110,fo "side" 15 .none .none (vs "scissorhall.points" 263) (vr 109) .none) ::
 (nat_lit 116,fc [vs "simplex" 314,vs "simplex" 315,vs "/claim/cut.py" 316,vi 50,vi 1,vi 0,vi 0,vi 3,vr 111,(.bool true),vi 181,vr 112,.none,vr 113,vr 114,vr 115,vi 320,vi 50,vs "/claim/cut.py" 321]) ::
 (nat_lit 117,fo "simplex" 17 .none .none (vs "scissorhall.simplexes" 312) (vr 116) .none) ::
 (nat_lit 118,⟨.type "tuple",none,.seq #[(.int 0 325),(.int 1 326)] 0,#[]⟩) ::
 (nat_lit 119,⟨.type "tuple",none,.seq #[(.int 1 327),(.int 0 328)] 0,#[]⟩) ::
 (nat_lit 120,⟨.type "tuple",none,.seq #[vr 118,vr 119] 0,#[]⟩) ::
 (nat_lit 121,⟨.type "tuple",none,.seq #[(.int 0 330),(.int 1 331),(.int 2 332)] 0,#[]⟩) ::
 (nat_lit 122,⟨.type "tuple",none,.seq #[(.int 0 333),(.int 2 334),(.int 1 335)] 0,#[]⟩) ::
 (nat_lit 123,⟨.type "tuple",none,.seq #[(.int 1 336),(.int 0 337),(.int 2 338)] 0,#[]⟩) ::
 (nat_lit 124,⟨.type "tuple",none,.seq #[(.int 1 339),(.int 2 340),(.int 0 341)] 0,#[]⟩) ::
 (nat_lit 125,⟨.type "tuple",none,.seq #[(.int 2 342),(.int 0 343),(.int 1 344)] 0,#[]⟩) ::
 (nat_lit 126,⟨.type "tuple",none,.seq #[(.int 2 345),(.int 1 346),(.int 0 347)] 0,#[]⟩) ::
 (nat_lit 127,⟨.type "tuple",none,.seq #[vr 121,vr 122,vr 123,vr 124,vr 125,vr 126] 0,#[]⟩) ::
 (nat_lit 133,fc [vs "gone" 349,vs "gone" 350,vs "/claim/cut.py" 351,vi 61,vi 3,vi 0,vi 0,vi 3,vr 128,(.bool true),vi 181,vr 129,.none,vr 130,vr 131,vr 132,vi 357,vi 61,vs "/claim/cut.py" 358]) ::
 (nat_lit 134,fo "gone" 21 .none .none (vs "scissorhall.solids" 323) (vr 133) .none) ::
 (nat_lit 138,fc [vs "box" 360,vs "box" 361,vs "/claim/cut.py" 362,vi 66,vi 2,vi 0,vi 0,vi 3,vr 135,(.bool true),vi 181,vr 136,.none,.none,.none,vr 137,vi 363,vi 66,vs "/claim/cut.py" 364]) ::
 (nat_lit 139,fo "box" 22 .none .none (vs "scissorhall.solids" 323) (vr 138) .none) ::
 (nat_lit 145,fc [vs "_law_row" 368,vs "_law_row" 369,vs "/claim/cut.py" 370,vi 70,vi 1,vi 0,vi 0,vi 3,vr 140,(.bool true),vi 181,vr 141,.none,vr 142,vr 143,vr 144,vi 378,vi 70,vs "/claim/cut.py" 379]) ::
 (nat_lit 146,fo "_law_row" 24 .none .none (vs "law_scissorhall_k62_boxes_told" 366) (vr 145) .none) ::
 (nat_lit 152,fc [vs "_law_take" 381,vs "_law_take" 382,vs "/claim/cut.py" 383,vi 84,vi 2,vi 0,vi 0,vi 3,vr 147,(.bool true),vi 181,vr 148,.none,vr 149,vr 150,vr 151,vi 387,vi 84,vs "/claim/cut.py" 388]) ::
 (nat_lit 153,fo "_law_take" 25 .none .none (vs "law_scissorhall_k62_boxes_told" 366) (vr 152) .none) ::
 (nat_lit 159,fc [vs "_law_gcd" 390,vs "_law_gcd" 391,vs "/claim/cut.py" 392,vi 92,vi 2,vi 0,vi 0,vi 3,vr 154,(.bool true),vi 181,vr 155,.none,vr 156,vr 157,vr 158,vi 395,vi 92,vs "/claim/cut.py" 396]) ::
 (nat_lit 160,fo "_law_gcd" 26 .none .none (vs "law_scissorhall_k62_boxes_told" 366) (vr 159) .none) ::
 (nat_lit 164,fc [vs "_law_lowest" 398,vs "_law_lowest" 399,vs "/claim/cut.py" 400,vi 98,vi 1,vi 0,vi 0,vi 3,vr 161,(.bool true),vi 181,vr 162,.none,.none,.none,vr 163,vi 401,vi 98,vs "/claim/cut.py" 402]) ::
 (nat_lit 165,fo "_law_lowest" 27 .none .none (vs "law_scissorhall_k62_boxes_told" 366) (vr 164) .none) ::
 (nat_lit 171,fc [vs "_law_whole" 404,vs "_law_whole" 405,vs "/claim/cut.py" 406,vi 105,vi 1,vi 0,vi 0,vi 3,vr 166,(.bool true),vi 181,vr 167,.none,vr 168,vr 169,vr 170,vi 408,vi 105,vs "/claim/cut.py" 409]) ::
 (nat_lit 172,fo "_law_whole" 28 .none .none (vs "law_scissorhall_k62_boxes_told" 366) (vr 171) .none) ::
 (nat_lit 176,fc [vs "_law_wholes" 411,vs "_law_wholes" 412,vs "/claim/cut.py" 413,vi 107,vi 2,vi 0,vi 0,vi 3,vr 173,(.bool true),vi 181,vr 174,.none,.none,.none,vr 175,vi 414,vi 107,vs "/claim/cut.py" 415]) ::
 (nat_lit 177,fo "_law_wholes" 29 .none .none (vs "law_scissorhall_k62_boxes_told" 366) (vr 176) .none) ::
 (nat_lit 181,fc [vs "_law_joined" 417,vs "_law_joined" 418,vs "/claim/cut.py" 419,vi 111,vi 3,vi 0,vi 0,vi 3,vr 178,(.bool true),vi 181,vr 179,.none,.none,.none,vr 180,vi 420,vi 111,vs "/claim/cut.py" 421]) ::
 (nat_lit 182,fo "_law_joined" 30 .none .none (vs "law_scissorhall_k62_boxes_told" 366) (vr 181) .none) ::
 (nat_lit 186,fc [vs "_law_gap" 423,vs "_law_gap" 424,vs "/claim/cut.py" 425,vi 114,vi 2,vi 0,vi 0,vi 3,vr 183,(.bool true),vi 181,vr 184,.none,.none,.none,vr 185,vi 426,vi 114,vs "/claim/cut.py" 427]) ::
 (nat_lit 187,fo "_law_gap" 31 .none .none (vs "law_scissorhall_k62_boxes_told" 366) (vr 186) .none) ::
 (nat_lit 193,fc [vs "_law_cross" 429,vs "_law_cross" 430,vs "/claim/cut.py" 431,vi 116,vi 2,vi 0,vi 0,vi 3,vr 188,(.bool true),vi 181,vr 189,.none,vr 190,vr 191,vr 192,vi 437,vi 116,vs "/claim/cut.py" 438]) ::
 (nat_lit 194,fo "_law_cross" 32 .none .none (vs "law_scissorhall_k62_boxes_told" 366) (vr 193) .none) ::
 (nat_lit 198,fc [vs "_law_dot" 440,vs "_law_dot" 441,vs "/claim/cut.py" 442,vi 121,vi 2,vi 0,vi 0,vi 3,vr 195,(.bool true),vi 181,vr 196,.none,.none,.none,vr 197,vi 443,vi 121,vs "/claim/cut.py" 444]) ::
 (nat_lit 199,fo "_law_dot" 33 .none .none (vs "law_scissorhall_k62_boxes_told" 366) (vr 198) .none) ::
 (nat_lit 205,fc [vs "_law_turn" 446,vs "_law_turn" 447,vs "/claim/cut.py" 448,vi 123,vi 1,vi 0,vi 0,vi 3,vr 200,(.bool true),vi 181,vr 201,.none,vr 202,vr 203,vr 204,vi 450,vi 123,vs "/claim/cut.py" 451]) ::
 (nat_lit 206,fo "_law_turn" 34 .none .none (vs "law_scissorhall_k62_boxes_told" 366) (vr 205) .none) ::
 (nat_lit 210,fc [vs "_law_det" 453,vs "_law_det" 454,vs "/claim/cut.py" 455,vi 127,vi 1,vi 0,vi 0,vi 3,vr 207,(.bool true),vi 181,vr 208,.none,.none,.none,vr 209,vi 456,vi 127,vs "/claim/cut.py" 457]) ::
 (nat_lit 211,fo "_law_det" 35 .none .none (vs "law_scissorhall_k62_boxes_told" 366) (vr 210) .none) ::
 (nat_lit 217,fc [vs "_law_simplex" 459,vs "_law_simplex" 460,vs "/claim/cut.py" 461,vi 129,vi 1,vi 0,vi 0,vi 3,vr 212,(.bool true),vi 181,vr 213,.none,vr 214,vr 215,vr 216,vi 464,vi 129,vs "/claim/cut.py" 465]) ::
 (nat_lit 218,fo "_law_simplex" 36 .none .none (vs "law_scissorhall_k62_boxes_told" 366) (vr 217) .none) ::
 (nat_lit 224,fc [vs "_law_point_form" 467,vs "_law_point_form" 468,vs "/claim/cut.py" 469,vi 134,vi 2,vi 0,vi 0,vi 3,vr 219,(.bool true),vi 181,vr 220,.none,vr 221,vr 222,vr 223,vi 472,vi 134,vs "/claim/cut.py" 473]) ::
 (nat_lit 225,fo "_law_point_form" 37 .none .none (vs "law_scissorhall_k62_boxes_told" 366) (vr 224) .none) ::
 (nat_lit 229,fc [vs "_law_simplex_form" 475,vs "_law_simplex_form" 476,vs "/claim/cut.py" 477,vi 138,vi 2,vi 0,vi 0,vi 3,vr 226,(.bool true),vi 181,vr 227,.none,.none,.none,vr 228,vi 478,vi 138,vs "/claim/cut.py" 479]) ::
 (nat_lit 230,fo "_law_simplex_form" 38 .none .none (vs "law_scissorhall_k62_boxes_told" 366) (vr 229) .none) ::
 (nat_lit 234,fc [vs "_law_heap_form" 481,vs "_law_heap_form" 482,vs "/claim/cut.py" 483,vi 144,vi 2,vi 0,vi 0,vi 3,vr 231,(.bool true),vi 181,vr 232,.none,.none,.none,vr 233,vi 484,vi 144,vs "/claim/cut.py" 485]) ::
 (nat_lit 235,fo "_law_heap_form" 39 .none .none (vs "law_scissorhall_k62_boxes_told" 366) (vr 234) .none) ::
 (nat_lit 239,fc [vs "_law_far" 487,vs "_law_far" 488,vs "/claim/cut.py" 489,vi 148,vi 2,vi 0,vi 0,vi 3,vr 236,(.bool true),vi 181,vr 237,.none,.none,.none,vr 238,vi 490,vi 148,vs "/claim/cut.py" 491]) ::
 (nat_lit 240,fo "_law_far" 40 .none .none (vs "law_scissorhall_k62_boxes_told" 366) (vr 239) .none) ::
 (nat_lit 244,fc [vs "_law_shift" 493,vs "_law_shift" 494,vs "/claim/cut.py" 495,vi 154,vi 2,vi 0,vi 0,vi 3,vr 241,(.bool true),vi 181,vr 242,.none,.none,.none,vr 243,vi 496,vi 154,vs "/claim/cut.py" 497]) ::
 (nat_lit 245,fo "_law_shift" 41 .none .none (vs "law_scissorhall_k62_boxes_told" 366) (vr 244) .none) ::
 (nat_lit 249,fc [vs "law" 499,vs "law" 500,vs "/claim/cut.py" 501,vi 163,vi 1,vi 0,vi 0,vi 3,vr 246,(.bool true),vi 181,vr 247,.none,.none,.none,vr 248,vi 502,vi 163,vs "/claim/cut.py" 503]) ::
 (nat_lit 250,fo "law" 42 .none .none (vs "law_scissorhall_k62_boxes_told" 366) (vr 249) .none) :: []
noncomputable def KA:List Nat:=[3,23,24,36,37,48,49,57,58,64,65,69,70,71,75,76,80,81,85,86,90,91,97,98,102,103,109,110,116,117,118,119,120,121,122,123,124,125,126,127,133,134,138,139,145,146,152,153,159,160,164,165,171,172,176,177,181,182,186,187,193,194,198,199,205,206,210,211,217,218,224,225,229,230,234,235,239,240,244,245,249,250]
noncomputable def VW:Program:={ PySem.Challenge.pw_scissorhall_k62_boxes_told with main:={ PySem.Challenge.pw_scissorhall_k62_boxes_told.main with body:=[top 1,top 2,top 3,top 5,top 6,top 7,top 10,top 11,top 12,top 13,top 14,top 15,top 17,top 19,top 20,top 21,top 22,top 24,top 25,top 26,top 27,top 28,top 29,top 30,top 31,top 32,top 33,top 34,top 35,top 36,top 37,top 38,top 39,top 40,top 41,top 42] } }
theorem KE:∀ P,KA=(KK P).map (·.1):=fun _=>by kernel_rfl
theorem left:PySem.W.LeftO PySem.Challenge.pw_scissorhall_k62_boxes_told VW [PySem.Str.ofString "point"] (fun s=>PySem.W.xlAt VW [] s && PySem.W.recOk (PySem.W.RowW.records (PySem.W.OpenRow.toRowW (PySem.W.OpenLaw.row PySem.Challenge.rw_scissorhall_k62_boxes_told))) s) (PySem.W.Hook.obs (PySem.W.kHook KK KA KE)) (PySem.W.Hook.val (PySem.W.kHook KK KA KE)) 3376:=by
 intro w
 kernel_rfl
end Sc
set_option maxHeartbeats 200000
set_option Elab.async false
set_option linter.all false
set_option maxRecDepth 100000
namespace L2
open PySem PySem.Spec PyProof.Rows
abbrev Key:=Sum Int Str
def anZ:Key→Value→Bool
 | .inl k,v=>Value.isInt k v
 | .inr x,v=>Value.isStrOf x v
def keyH (w:World):Key→Int
 | .inl k=>hashInt k
 | .inr x=>hashStr w x
theorem abp:∀ {k:Key} {v:Value},anZ k v=true→(∃ i t,k=Sum.inl i∧v=Value.int i t)∨(∃ x t,k=Sum.inr x∧v=Value.str x t)
 | .inl i,v,h=>by
  obtain ⟨t,e⟩:=Value.isInt_shape (k:=i) (v:=v) h
  exact .inl ⟨i,t,rfl,e⟩
 | .inr x,v,h=>by
  obtain ⟨t,e⟩:=Value.isStrOf_shape (x:=x) (v:=v) h
  exact .inr ⟨x,t,rfl,e⟩
theorem amJ (a b:Int):decide ((Sum.inl a:Key)=Sum.inl b)=(a == b):=by
 by_cases e:a=b
 ·subst e; simp
 ·have h:¬ (Sum.inl a:Key)=Sum.inl b:=fun q=>e (Sum.inl.inj q)
  rw [decide_eq_false h]
  exact (beq_eq_false_iff_ne.mpr e).symm
theorem anK (a b:Str):decide ((Sum.inr a:Key)=Sum.inr b)=decide (a=b):=by
 by_cases e:a=b
 ·subst e; simp
 ·have h:¬ (Sum.inr a:Key)=Sum.inr b:=fun q=>e (Sum.inr.inj q)
  rw [decide_eq_false h,decide_eq_false e]
theorem amv (a:Int) (b:Str):decide ((Sum.inl a:Key)=Sum.inr b)=false:=decide_eq_false (fun q=>nomatch q)
theorem anr (a:Str) (b:Int):decide ((Sum.inr a:Key)=Sum.inl b)=false:=decide_eq_false (fun q=>nomatch q)
def aja (prog:Program) (w:World):PySem.KeyKind prog w Key where
 is:=anZ
 hash:=keyH w
 inj:=fun v a b ha hb=>by
  rcases abp ha with ⟨i,t,rfl,rfl⟩ | ⟨x,t,rfl,rfl⟩
  ·rcases abp hb with ⟨j,u,rfl,e⟩ | ⟨y,u,rfl,e⟩
   ·injection e with e1 _; rw [e1]
   ·exact nomatch e
  ·rcases abp hb with ⟨j,u,rfl,e⟩ | ⟨y,u,rfl,e⟩
   ·exact nomatch e
   ·injection e with e1 _; rw [e1]
 byValue:=fun k v h=>by
  rcases abp h with ⟨i,t,rfl,rfl⟩ | ⟨x,t,rfl,rfl⟩ <;> rfl
 pyHash:=fun hv h=>by
  rcases abp hv with ⟨i,t,rfl,rfl⟩ | ⟨x,t,rfl,rfl⟩
  ·exact wpAny_pyHash_int h
  ·exact wpAny_pyHash_str h
 eqBool:=fun hu hv h=>by
  rcases abp hu with ⟨i,t,rfl,rfl⟩ | ⟨x,t,rfl,rfl⟩
  ·rcases abp hv with ⟨j,u,rfl,rfl⟩ | ⟨y,u,rfl,rfl⟩
   ·rw [amJ] at h; exact wpAny_eqBool_int h
   ·rw [amv] at h; exact SeqAt.EqAt.int_str i t y u _ _ _ _ h
  ·rcases abp hv with ⟨j,u,rfl,rfl⟩ | ⟨y,u,rfl,rfl⟩
   ·rw [anr] at h; exact SeqAt.EqAt.str_int x t j u _ _ _ _ h
   ·rw [anK] at h; exact wpAny_eqBool_str h
 «strs»:=fun k x t v h=>by
  rcases abp h with ⟨i,u,rfl,e⟩ | ⟨y,u,rfl,e⟩
  ·exact nomatch e
  ·injection e with e1 _
   subst e1
   cases v <;> rfl
end L2
namespace L2
open PySem PySem.Spec PyProof.Rows
inductive V where
 | non | bl (b:Bool) | int (i:Int) | str (x:Str) | byt (b:Array UInt8) | flt (b:UInt64) | ref (a:Addr) | ty (n:String)
 deriving DecidableEq
def RelV:V→Value→Prop
 | .non,u=>u=Value.none
 | .bl b,u=>u=Value.bool b
 | .int i,u=>∃ t,u=Value.int i t
 | .str x,u=>∃ t,u=Value.str x t
 | .byt b,u=>∃ t,u=Value.bytes b t
 | .flt b,u=>∃ t,u=Value.float b t
 | .ref a,u=>u=Value.ref a
 | .ty n,u=>u=Value.type n
abbrev Vals:List V→List Value→Prop:=Paired RelV
theorem Vals.length {xs:List V} {us:List Value} (r:Vals xs us):xs.length=us.length:=Paired.length r
theorem Vals.get:∀ {xs:List V} {us:List Value} {i:Nat} {x:V},Vals xs us→xs[i]?=some x→∃ u,us[i]?=some u∧RelV x u
 | _,_,_,_,.nil,e=>by simp at e
 | _,_,0,_,.cons r _,e=>by simp at e; subst e; exact ⟨_,rfl,r⟩
 | _,_,i+1,x,.cons _ t,e=>by
  obtain ⟨u,h1,h2⟩:=Vals.get (i:=i) (x:=x) t (by simpa using e)
  exact ⟨u,by simpa using h1,h2⟩
theorem Vals.set {x:V} {u:Value} (r:RelV x u):∀ {xs:List V} {us:List Value} (i:Nat),Vals xs us→Vals (xs.set i x) (us.set i u)
 | _,_,_,.nil=>.nil
 | _,_,0,.cons _ t=>.cons r t
 | _,_,i+1,.cons q t=>.cons q (Vals.set r i t)
theorem Vals.append:∀ {xs ys:List V} {us ws:List Value},Vals xs us→Vals ys ws→Vals (xs++ys) (us++ws)
 | _,_,_,_,.nil,s=>s
 | _,_,_,_,.cons r t,s=>.cons r (Vals.append t s)
theorem Vals.take:∀ {xs:List V} {us:List Value} (n:Nat),Vals xs us→Vals (xs.take n) (us.take n)
 | _,_,0,_=>.nil
 | _,_,_+1,.nil=>.nil
 | _,_,n+1,.cons r t=>.cons r (Vals.take n t)
theorem Vals.drop:∀ {xs:List V} {us:List Value} (n:Nat),Vals xs us→Vals (xs.drop n) (us.drop n)
 | _,_,0,r=>r
 | _,_,_+1,.nil=>.nil
 | _,_,n+1,.cons _ t=>Vals.drop n t
def RelO:Option V→Option Value→Prop
 | some v,some u=>RelV v u
 | none,none=>True
 | _,_=>False
def KV {κ:Type}:List (κ × V)→List (κ × Value)→Prop:=Paired fun (p:κ × V) (q:κ × Value)=>p.1=q.1∧RelV p.2 q.2
def kV:Key→V
 | .inl i=>.int i
 | .inr x=>.str x
inductive HO where
 /-- a list -/
 | lst (xs:List V)
 /-- a tuple (never changes) -/
 | tup (xs:List V)
 /-- a dict whose keys are ints and texts; one whose keys are tuples of ints and texts (the empty one is both) -/
 | dK (kvs:List (Key × V)) | dT (kvs:List (List Key × V))
 /-- a set of ints: its members,its size -/
 | set (S:Int→Bool) (n:Nat)
 /-- an instance of the class at C,its dict at dx,its attributes -/
 | ins (C dx:Addr) (fs:List (Str × V))
 /-- the dict of the instance at x -/
 | own (x:Addr)
 /-- the dict of an exception -/
 | xd (fs:List (Str × V))
 /-- a bound method,f of x -/
 | met (f x:Addr)
 /-- a range object lo,lo+1,.. below hi -/
 | rng (lo hi:Int)
 /-- a thing that is known to the object (the script; a dict while a loop walks it): read,never written while it is so -/
 | frz (o:Obj) (u:HO)
 /-- a code object's table -/
 | tbl (ps:Array Value)
 /-- any other thing,by what is true of its one object (a def of one's own: SetO a S n:=HO.ext fun h=>..) -/
 | ext (φ:Heap→Prop)
abbrev Hp:=Addr→Option HO
def upd (H:Hp) (a:Addr) (o:HO):Hp:=fun b=>if b=a then some o else H b
theorem abl {H:Hp} {a:Addr} {o:HO}:upd H a o a=some o:=by unfold upd; rw [if_pos rfl]
theorem aaF {H:Hp} {a b:Addr} {o:HO} (h:b≠a):upd H a o b=H b:=by unfold upd; rw [if_neg h]
theorem aaG {H:Hp} {a b:Addr} {o:HO} (h:H a=some o) (h':H b=none):a≠b:=by
 intro e; subst e; rw [h] at h'; cases h'
section
variable (P:Program) (w:World)
def ach (H:Hp) (h:Heap) (a:Addr):HO→Prop
 | .lst xs=>xs.length≤sizeLine∧∃ (its:List Value) (n:Nat),Vals xs its∧h.get? a=some { cls:=.type "list",data:=.seq its.toArray n }
 | .tup xs=>xs.length≤sizeLine∧∃ its:List Value,Vals xs its∧IsTup h a its.toArray
 | .dK kvs=>kvs.length≤sizeLine∧(a == sysModules)=false∧∃ vs,KV kvs vs∧h.DictOf (aja P w) a vs
 | .dT kvs=>kvs.length≤sizeLine∧(a == sysModules)=false∧∃ xs:List (List Key × Addr × Value),
   Paired (fun (p:List Key × V) (q:List Key × Addr × Value)=>p.1=q.1∧H q.2.1=some (.tup (p.1.map kV))∧RelV p.2 q.2.2) kvs xs ∧
   ∃ o es ep,h.get? a=some o∧o.ExactDict∧o.data=.dict es ep∧es.toList=xs.map (entryOfKey (tupleKind (aja P w)))∧(xs.map (·.1)).Nodup
 | .set S n=>h.SetOf (intKind P w) a S n
 | .ins C dx fs=>H dx=some (.own a)∧fs.length≤1000∧dx≠a∧h.get? a=some (PySem.W.instObj C dx) ∧
   ∃ mA,h.Ns1 dx mA∧(∀ f,RelO (fs.lookup f) (mA f))∧PySem.Within mA (fs.map (·.1))
 | .own _=>∃ o,h.get? a=some o
 | .xd fs=>∃ mA,h.Ns1 a mA∧∀ f,RelO (fs.lookup f) (mA f)
 | .rng lo hi=>∃ t u v,h.get? a=some { cls:=.type "range",data:=.fields #[.int lo t,.int hi u,.int 1 v] }
 | .frz o u=>h.get? a=some o∧ach H h a u
 | .tbl ps=>h.get? a=some { cls:=.none,data:=.fields ps }
 | .met f x=>h.get? a=some (PySem.W.methodObj (.ref f) (.ref x))
 | .ext φ=>φ h∧(∃ o,h.get? a=some o)∧∀ h1 h2:Heap,φ h1→(∀ o,h1.get? a=some o→h2.get? a=some o)→φ h2
def HOk (H:Hp) (h:Heap):Prop:=∀ a o,H a=some o→ach P w H h a o
end
section
variable {P:Program} {w:World} {H H':Hp} {h h':Heap} {a:Addr} {o:HO}
theorem ach.lt (x:ach P w H h a o):a < h.objs.size:=by
 cases o with
 | lst xs=>obtain ⟨_,_,_,_,e⟩:=x; exact Heap.lt_size e
 | tup xs=>obtain ⟨_,_,_,p⟩:=x; exact p.lt
 | dK kvs=>obtain ⟨_,_,_,_,o,_,_,e,_⟩:=x; exact Heap.lt_size e
 | dT kvs=>obtain ⟨_,_,_,_,o,_,_,e,_⟩:=x; exact Heap.lt_size e
 | set S n=>obtain ⟨o,_,_,_,e,_⟩:=x; exact Heap.lt_size e
 | ins C dx fs=>obtain ⟨_,_,_,e,_⟩:=x; exact Heap.lt_size e
 | own y=>obtain ⟨_,e⟩:=x; exact Heap.lt_size e
 | xd fs=>obtain ⟨_,⟨_,_,_,e,_⟩,_⟩:=x; exact Heap.lt_size e
 | rng lo hi=>obtain ⟨_,_,_,e⟩:=x; exact Heap.lt_size e
 | frz ob u=>obtain ⟨e,_⟩:=x; exact Heap.lt_size e
 | tbl ps=>exact Heap.lt_size (show h.get? a=some _ from x)
 | met f y=>exact Heap.lt_size (show h.get? a=some _ from x)
 | ext φ=>obtain ⟨_,⟨_,e⟩,_⟩:=x; exact Heap.lt_size e
theorem Paired.mapP {α β:Type} {F G:α→β→Prop}:∀ {l₁:List α} {l₂:List β},Paired F l₁ l₂→(∀ a b,F a b→G a b)→Paired G l₁ l₂
 | _,_,.nil,_=>.nil
 | _,_,.cons r t,f=>.cons (f _ _ r) (Paired.mapP t f)
theorem ach.stay (x:ach P w H h a o) (k:∀ b u,(b=a∨H b=some (.own a))→h.get? b=some u→h'.get? b=some u)
  (ho:∀ b,H b=some (.own a)→H' b=some (.own a)) (ht:∀ b xs,H b=some (.tup xs)→H' b=some (.tup xs)):ach P w H' h' a o:=by
 induction o with
 | lst xs=>obtain ⟨z,its,n,r,e⟩:=x; exact ⟨z,its,n,r,k _ _ (.inl rfl) e⟩
 | tup xs=>obtain ⟨z,its,r,ob,e,c⟩:=x; exact ⟨z,its,r,ob,k _ _ (.inl rfl) e,c⟩
 | dK kvs=>obtain ⟨z,y,vs,r,ob,es,ep,e,c⟩:=x; exact ⟨z,y,vs,r,ob,es,ep,k _ _ (.inl rfl) e,c⟩
 | dT kvs =>
  obtain ⟨z,y,xs,r,ob,es,ep,e,c⟩:=x
  exact ⟨z,y,xs,Paired.mapP r fun p q z=>⟨z.1,ht _ _ z.2.1,z.2.2⟩,ob,es,ep,k _ _ (.inl rfl) e,c⟩
 | set S n=>obtain ⟨ob,es,ep,t,e,c⟩:=x; exact ⟨ob,es,ep,t,k _ _ (.inl rfl) e,c⟩
 | ins C dx fs =>
  obtain ⟨d,z,ne,e,mA,⟨od,es,ep,e2,c⟩,r⟩:=x
  exact ⟨ho _ d,z,ne,k _ _ (.inl rfl) e,mA,⟨od,es,ep,k _ _ (.inr d) e2,c⟩,r⟩
 | own y=>obtain ⟨ob,e⟩:=x; exact ⟨ob,k _ _ (.inl rfl) e⟩
 | xd fs=>obtain ⟨mA,⟨od,es,ep,e,c⟩,r⟩:=x; exact ⟨mA,⟨od,es,ep,k _ _ (.inl rfl) e,c⟩,r⟩
 | rng lo hi=>obtain ⟨t,u,v,e⟩:=x; exact ⟨t,u,v,k _ _ (.inl rfl) e⟩
 | frz ob u ih=>obtain ⟨e,q⟩:=x; exact ⟨k _ _ (.inl rfl) e,ih q⟩
 | tbl ps =>
  have e:h.get? a=some { cls:=.none,data:=.fields ps }:=x
  show h'.get? a=some { cls:=.none,data:=.fields ps }
  exact k a _ (.inl rfl) e
 | met f y =>
  have e:h.get? a=some (PySem.W.methodObj (.ref f) (.ref y)):=x
  show h'.get? a=some (PySem.W.methodObj (.ref f) (.ref y))
  exact k a _ (.inl rfl) e
 | ext φ=>obtain ⟨p,⟨o,e⟩,st⟩:=x; exact ⟨st _ _ p fun o q=>k _ _ (.inl rfl) q,⟨o,k _ _ (.inl rfl) e⟩,st⟩
theorem HOk.lt (x:HOk P w H h) (e:H a=some o):a < h.objs.size:=(x a o e).lt
theorem HOk.fresh (x:HOk P w H h) (e:h.objs.size≤a):H a=none:=by
 cases q:H a with
 | none=>rfl
 | some u=>exact absurd (Nat.lt_of_lt_of_le (x.lt q) e) (Nat.lt_irrefl _)
theorem HOk.kept (x:HOk P w H h) (k:∀ b u,h.get? b=some u→h'.get? b=some u):HOk P w H h':=fun a o e =>
 (x a o e).stay (fun b u _ q=>k b u q) (fun _ q=>q) fun _ _ q=>q
theorem HOk.laid (x:HOk P w H h) (k:∀ b u,h.get? b=some u→h'.get? b=some u) (hp:h.objs.size≤a) (new:ach P w (upd H a o) h' a o):HOk P w (upd H a o) h':=fun b u e=>by
 have hn:=x.fresh hp
 by_cases hb:b=a
 ·subst hb; rw [abl] at e; cases e; exact new
 ·rw [aaF hb] at e
  exact (x b u e).stay (fun c v _ q=>k c v q) (fun c q=>by rw [aaF (aaG q hn)]; exact q) fun c xs q=>by rw [aaF (aaG q hn)]; exact q
end
def Rd (H:Hp) (a:Addr) (u:HO):Prop:=H a=some u∨∃ o,H a=some (.frz o u)
theorem Rd.of {H:Hp} {a:Addr} {u:HO} (h:H a=some u):Rd H a u:=.inl h
theorem Rd.ok {P:Program} {w:World} {H:Hp} {h:Heap} {a:Addr} {u:HO} (r:Rd H a u) (x:HOk P w H h):ach P w H h a u:=by
 rcases r with r | ⟨o,r⟩
 ·exact x a u r
 ·obtain ⟨_,q⟩:=x a _ r
  exact q
def Mut:Option HO→Prop
 | some (.lst _)=>True
 | some (.dK _)=>True
 | some (.dT _)=>True
 | some (.set _ _)=>True
 | some (.ins _ _ _)=>True
 | some (.ext _)=>True
 | _=>False
section
variable {P:Program} {w:World} {H:Hp} {h h':Heap} {x e:Addr} {o':HO}
theorem HOk.write (ok:HOk P w H h) (mu:Mut (H x)) (he:e=x∨H e=some (.own x)) (k:∀ b u,b≠e→h.get? b=some u→h'.get? b=some u) (heo:∃ u,h'.get? e=some u)
  (new:ach P w (upd H x o') h' x o'):HOk P w (upd H x o') h':=fun b u q=>by
 have nown:∀ c y,H c=some (.own y)→c≠x:=fun c y r z=>by subst z; rw [r] at mu; exact mu
 have ntup:∀ c xs,H c=some (.tup xs)→c≠x:=fun c xs r z=>by subst z; rw [r] at mu; exact mu
 by_cases hb:b=x
 ·subst hb; rw [abl] at q; cases q; exact new
 ·rw [aaF hb] at q
  by_cases hbe:b=e
  ·have q':H b=some (.own x):=by
    rcases he with z | z
    ·exact absurd (hbe.trans z) hb
    ·rw [hbe]; exact z
   rw [q] at q'; cases q'
   obtain ⟨v,hv⟩:=heo
   exact ⟨v,by rw [hbe]; exact hv⟩
  ·refine (ok b u q).stay (fun c v hc r=>k c v ?_ r) (fun c r=>by rw [aaF (nown c b r)]; exact r) fun c xs r=>by rw [aaF (ntup c xs r)]; exact r
   rcases hc with rfl | hc
   ·exact hbe
   ·rintro rfl
    rcases he with z | z
    ·exact nown c b hc z
    ·rw [hc] at z; cases z; exact hb rfl
end
structure Un (fs ex:List Addr) (H H':Hp) (h h':Heap):Prop where
 keep:∀ b o,h.get? b=some o→H b=none→b ∉ fs→b ∉ ex→h'.get? b=some o
 slot:∀ b o,h.get? b=some o→H b=none→b∈fs→b ∉ ex→∃ sl,h'.get? b=some { o with slots:=sl }
 free:∀ b o,h.get? b=some o→H b=none→b ∉ ex→H' b=none
 there:∀ b o,h.get? b=some o→b ∉ ex→∃ o',h'.get? b=some o'
 tups:∀ b xs,H b=some (.tup xs)→H' b=some (.tup xs)
 frzs:∀ b o u,H b=some (.frz o u)→H' b=some (.frz o u)
 tbls:∀ b ps,H b=some (.tbl ps)→∃ more,H' b=some (.tbl (ps++more))
section
variable {fs fs' ex ex':List Addr} {H H1 H2:Hp} {h h1 h2 h':Heap} {a x e:Addr} {o:HO}
theorem Un.any (u:Un fs ex H H1 h h1) {b:Addr} {ob:Obj} (q:h.get? b=some ob) (n:H b=none) (hx:b ∉ ex):∃ sl,h1.get? b=some { ob with slots:=sl }:=by
 by_cases hb:b∈fs
 ·exact u.slot b ob q n hb hx
 ·exact ⟨ob.slots,u.keep b ob q n hb hx⟩
theorem Un.trans (a:Un fs ex H H1 h h1) (b:Un fs ex H1 H2 h1 h2):Un fs ex H H2 h h2 where
 keep:=fun c ob q n hc hx=>b.keep c ob (a.keep c ob q n hc hx) (a.free c ob q n hx) hc hx
 slot:=fun c ob q n hc hx=>by
  obtain ⟨sl,e1⟩:=a.slot c ob q n hc hx
  obtain ⟨sl',e2⟩:=b.slot c _ e1 (a.free c ob q n hx) hc hx
  exact ⟨sl',e2⟩
 free:=fun c ob q n hx=>by
  obtain ⟨o',e1⟩:=a.there c ob q hx
  exact b.free c o' e1 (a.free c ob q n hx) hx
 there:=fun c ob q hx=>by
  obtain ⟨o',e1⟩:=a.there c ob q hx
  exact b.there c o' e1 hx
 tups:=fun c xs q=>b.tups c xs (a.tups c xs q)
 frzs:=fun c ob xs q=>b.frzs c ob xs (a.frzs c ob xs q)
 tbls:=fun c ps q=>by
  obtain ⟨m1,e1⟩:=a.tbls c ps q
  obtain ⟨m2,e2⟩:=b.tbls c _ e1
  exact ⟨m1++m2,by rw [e2,Array.append_assoc]⟩
theorem Un.kept (k:∀ b u,h.get? b=some u→h'.get? b=some u):Un fs ex H H h h' :=
 ⟨fun b ob q _ _ _=>k b ob q,fun b ob q _ _ _=>⟨ob.slots,k b ob q⟩,fun _ _ _ n _=>n,fun b ob q _=>⟨ob,k b ob q⟩,fun _ _ q=>q,fun _ _ _ q=>q,fun _ ps q=>⟨#[],by rw [q]; simp⟩⟩
theorem Un.refl:Un fs ex H H h h:=Un.kept fun _ _ q=>q
theorem Un.laid (k:∀ b u,h.get? b=some u→h'.get? b=some u) (hp:h.objs.size≤a) (hn:H a=none):Un fs ex H (upd H a o) h h' where
 keep:=fun b u q _ _ _=>k b u q
 slot:=fun b u q _ _ _=>⟨u.slots,k b u q⟩
 free:=fun b u q n _=>by rw [aaF (Nat.ne_of_lt (Nat.lt_of_lt_of_le (Heap.lt_size q) hp))]; exact n
 there:=fun b u q _=>⟨u,k b u q⟩
 tups:=fun b xs q=>by rw [aaF (aaG q hn)]; exact q
 frzs:=fun b u xs q=>by rw [aaF (aaG q hn)]; exact q
 tbls:=fun b ps q=>⟨#[],by rw [aaF (aaG q hn),q]; simp⟩
theorem Un.write (mu:Mut (H x)) (he:e=x∨H e=some (.own x)) (k:∀ b u,b≠e→h.get? b=some u→h'.get? b=some u) (heo:∃ u,h'.get? e=some u):Un fs ex H (upd H x o) h h':=by
 have hx:∀ b,H b=none→b≠x:=fun b n z=>by subst z; rw [n] at mu; exact mu
 have hb:∀ b,H b=none→b≠e:=fun b n z=>by
  subst z
  rcases he with r | r
  ·exact hx b n r
  ·rw [n] at r; cases r
 have hm:∀ b u,H b=some u→¬ Mut (some u)→b≠x:=fun b u q nm z=>by subst z; rw [q] at mu; exact nm mu
 refine ⟨fun b u q n _ _=>k b u (hb b n) q,fun b u q n _ _=>⟨u.slots,k b u (hb b n) q⟩,fun b u q n _=>by rw [aaF (hx b n)]; exact n,fun b u q _=>?_,
  fun b xs q=>by rw [aaF (hm b _ q fun z=>z)]; exact q,fun b u xs q=>by rw [aaF (hm b _ q fun z=>z)]; exact q,fun b ps q=>⟨#[],by rw [aaF (hm b _ q fun z=>z),q]; simp⟩⟩
 by_cases hbe:b=e
 ·subst hbe; exact heo
 ·exact ⟨u,k b u hbe q⟩
theorem Un.mono (u:Un fs ex H H1 h h1) (hs:∀ b∈fs,b∈fs') (hx:∀ b∈ex,b∈ex'):Un fs' ex' H H1 h h1 :=
 ⟨fun b ob q n hb he=>u.keep b ob q n (fun z=>hb (hs b z)) fun z=>he (hx b z),fun _ _ q n _ he=>u.any q n fun z=>he (hx _ z),fun b ob q n he=>u.free b ob q n fun z=>he (hx b z),fun b ob q he=>u.there b ob q fun z=>he (hx b z),u.tups,u.frzs,u.tbls⟩
end
def trk (h:Heap) (H:Hp):List Addr:=(List.range h.objs.size).filter fun a=>(H a).isSome
def hidT (h:Heap) (H:Hp):Heap:=PySem.W.hideAll h (trk h H)
theorem aiu (h:Heap) (H:Hp):(hidT h H).objs.size=h.objs.size:=PySem.W.hideAll_size _ _
theorem akk {h:Heap} {H:Hp} {b:Addr} {o:Obj} (e:h.get? b=some o) (n:H b=none):(hidT h H).get? b=some o :=
 PySem.W.hideAll_get _ e fun hm=>by
  have q:(H b).isSome=true:=(List.mem_filter.mp hm).2
  rw [n] at q; simp at q
theorem amp {h:Heap} {H:Hp} {b:Addr} {o:Obj} (e:(hidT h H).get? b=some o):h.get? b=some o∧H b=none:=by
 have e':h.get? b=some o:=PySem.W.of_hideAll (trk h H) e
 refine ⟨e',?_⟩
 cases q:H b with
 | none=>rfl
 | some x =>
  have hm:b∈trk h H:=List.mem_filter.mpr ⟨List.mem_range.mpr (Heap.lt_size e'),by simp [q]⟩
  have z:(hidT h H).get? b=none:=PySem.W.hideAll_none (trk h H) hm
  rw [z] at e; cases e
def alt (g h:Heap) (L:Addr):List (Addr × Obj):=(List.range h.objs.size).filterMap fun a=>if a=L∨(g.get? a).isSome=true then none else (h.get? a).map fun o=>(a,o)
def rest (g h:Heap) (L d:Addr):List (Addr × Obj):=(alt g h L).filter fun p=>decide (p.1≠d)
end L2
namespace L2
open PySem PySem.Spec PyProof.Rows
structure Mod (K:PySem.W.Frag) (mg:Str→Option Value) (base:Heap):Prop where
 kin:K.In base
 glob:base.Ns mainGlobals mg
 blt:∃ mb,base.Ns builtinsNs mb∧∀ x:Str,x≠"__name__"→mb x=bootBuiltins x
 nolimit:base.NoLimit
structure Cx where
 prog:Program
 w:World
 K:PySem.W.Frag
 mg:Str→Option Value
 base:Heap
 A:Around
 N:List Str
 s₀:Shared
 H₀:Hp
 env:Env
 outer:List Env
 stack:List Env
 ex:List Addr
 fn:Str→Bool
 calm:Bool
 pn:List (Addr × Obj)
 xe:Value→Shared→Prop
def frs (l:List Env):List Addr:=l.filterMap (·.frame)
abbrev Cx.fs (X:Cx):List Addr:=frs X.outer
def Vis (sc:Scope) (x:Str):Prop:=sc.names.lookup x=some .local∨sc.names.lookup x=some .cell∨sc.names.lookup x=some .free
def Loc (sc:Scope) (x:Str):Prop:=sc.names.lookup x=some .local∨sc.names.lookup x=some .cell
def Look (env:Env) (h:Heap) (m:Str→Option Value) (x:Str) (u:Value):Prop :=
 (env.kindOf x=some .local∧m x=some u)∨((env.kindOf x=some .cell∨env.kindOf x=some .free)∧∃ c,env.cells.lookup x=some c∧h.IsCell c (some u))
structure Cx.Ok (X:Cx):Prop where
 mod:Mod X.K X.mg X.base
 kind:X.env.scope.kind=.function
 glob:X.env.globals=mainGlobals
 blt:X.env.builtins=builtinsNs
 above:X.s₀.heap.objs.size≤X.env.locals
 inj:∀ x y c,X.env.cells.lookup x=some c→X.env.cells.lookup y=some c→x=y
 has:∀ x,(X.env.kindOf x=some .cell∨X.env.kindOf x=some .free)→∃ c,X.env.cells.lookup x=some c
 cab:∀ x c,X.fn x=true→X.env.cells.lookup x=some c→X.s₀.heap.objs.size≤c
 hd:X.calm=true→X.A.handled=none
 frames:X.A.frames=some X.stack
 stk:X.stack=X.outer∨(X.stack=X.env :: X.outer∧X.env.frame=some X.env.locals)
 exf:∀ b∈X.ex,b≠X.env.locals∧∀ x c,X.env.cells.lookup x=some c→c≠b
 bs:∀ b o,X.base.get? b=some o→X.s₀.heap.get? b=some o∧X.H₀ b=none
 bsz:X.base.objs.size≤X.s₀.heap.objs.size
 noex:∀ b o,X.base.get? b=some o→b ∉ X.ex
 exfs:∀ b∈X.ex,b ∉ X.fs
 funs:X.s₀.heap.FunFrames X.base X.outer
 frf:∀ b∈X.fs,X.H₀ b=none
structure Inv (X:Cx) (pins:List (Addr × Obj)) (σ:List (Option V)) (H:Hp) (s:Shared):Prop where
 ok:X.Ok
 os:s.os=X.s₀.os
 bare:AllBare s.gens
 base:Un X.fs X.ex X.H₀ H X.s₀.heap s.heap
 loc:∃ m,s.heap.Ns X.env.locals m∧∀ (i:Nat) (x:Str) (v:V),X.N[i]?=some x→σ[i]?=some (some v)→Vis X.env.scope x→∃ u,RelV v u∧Look X.env s.heap m x u
 cell:∀ x c,X.env.cells.lookup x=some c→∃ v,s.heap.IsCell c v
 free:H X.env.locals=none
 freeC:∀ x c,X.env.cells.lookup x=some c→H c=none
 pin:∀ p∈X.pn++pins,s.heap.get? p.1=some p.2∧H p.1=none∧p.1≠X.env.locals∧p.1 ∉ X.fs∧∀ v,p.2.data≠.cell v
 hok:HOk X.prog X.w H s.heap
 len:σ.length=X.N.length
section
variable {X:Cx} {pins:List (Addr × Obj)} {σ:List (Option V)} {H H':Hp} {s:Shared} {h':Heap}
theorem Cx.Ok.nofr (ok:X.Ok) {b:Addr} {o:Obj} (e:X.base.get? b=some o):b ∉ X.fs:=fun hb=>by
 have:=(ok.funs.mem hb).1
 rw [e] at this; cases this
theorem Inv.bs (I:Inv X pins σ H s):∀ b o,X.base.get? b=some o→s.heap.get? b=some o∧H b=none:=fun b o e =>
 ⟨I.base.keep b o (I.ok.bs b o e).1 (I.ok.bs b o e).2 (I.ok.nofr e) (I.ok.noex b o e),I.base.free b o (I.ok.bs b o e).1 (I.ok.bs b o e).2 (I.ok.noex b o e)⟩
theorem Inv.bk (I:Inv X pins σ H s):∀ b o,X.base.get? b=some o→s.heap.get? b=some o:=fun b o e=>(I.bs b o e).1
theorem Inv.mod (I:Inv X pins σ H s):Mod X.K X.mg X.base:=I.ok.mod
theorem Inv.kIn (I:Inv X pins σ H s):X.K.In s.heap:=I.ok.mod.kin.keeps I.bk
theorem Inv.nolimit (I:Inv X pins σ H s):s.heap.NoLimit:=I.ok.mod.nolimit.keeps I.bk
theorem Inv.fr (I:Inv X pins σ H s):∃ m,Fr X.base X.env.locals s.heap m :=
 let ⟨m,hn,_⟩:=I.loc
 ⟨m,hn,I.bk,Nat.le_trans I.ok.bsz I.ok.above⟩
theorem Inv.lt (I:Inv X pins σ H s):X.env.locals < s.heap.objs.size:=let ⟨_,hn,_⟩:=I.loc; hn.lt
theorem Inv.sz (I:Inv X pins σ H s):X.s₀.heap.objs.size≤s.heap.objs.size:=Nat.le_trans I.ok.above (Nat.le_of_lt I.lt)
theorem Inv.nofs (I:Inv X pins σ H s) {a:Addr} (h:s.heap.objs.size≤a):a ∉ X.fs:=fun hb=>by
 obtain ⟨_,o,ho,_⟩:=I.ok.funs.mem hb
 exact absurd (Nat.lt_of_lt_of_le (Heap.lt_size ho) (Nat.le_trans I.sz h)) (Nat.lt_irrefl _)
theorem Inv.cne (I:Inv X pins σ H s):∀ x c,X.env.cells.lookup x=some c→c≠X.env.locals:=fun x c e z=>by
 obtain ⟨v,o,ho,hd⟩:=I.cell x c e
 obtain ⟨m,⟨o',es,ep,ho',hd',_⟩,_⟩:=I.loc
 rw [z,ho'] at ho; cases ho; rw [hd'] at hd; cases hd
theorem Inv.funs (I:Inv X pins σ H s):s.heap.FunFrames X.base X.outer:=by
 have all:∀ (l:List Env),(∀ b∈frs l,b∈X.fs)→X.s₀.heap.FunFrames X.base l→s.heap.FunFrames X.base l:=by
  intro l
  induction l with
  | nil=>intro _ _; trivial
  | cons env r ih =>
   intro hs hl
   obtain ⟨hk,⟨L,o,hf,hn,ho,hd⟩,hr⟩:=hl
   have hL:L∈X.fs:=hs L (by unfold frs; rw [List.filterMap_cons,hf]; exact List.mem_cons_self)
   obtain ⟨sl,e⟩:=I.base.slot L o ho (I.ok.frf L hL) hL fun z=>I.ok.exfs L z hL
   exact ⟨hk,⟨L,_,hf,hn,e,hd⟩,ih (fun b hb=>hs b (by unfold frs; rw [List.filterMap_cons,hf]; exact List.mem_cons_of_mem _ hb)) hr⟩
 exact all X.outer (fun _ hb=>hb) I.ok.funs
theorem Inv.stack (I:Inv X pins σ H s):s.heap.FunFrames X.base X.stack:=by
 rcases I.ok.stk with e | ⟨e,hf⟩
 ·rw [e]; exact I.funs
 ·rw [e]
  obtain ⟨m,hn,_⟩:=I.loc
  refine .cons (by rw [I.ok.kind]; decide) hf hn ?_ I.funs
  exact Heap.get?_none_of_le (Nat.le_trans I.ok.bsz I.ok.above)
theorem Inv.stkSub (I:Inv X pins σ H s):∀ b∈frs X.stack,b∈X.env.locals :: X.fs:=fun b hb=>by
 rcases I.ok.stk with e | ⟨e,hf⟩
 ·rw [e] at hb; exact List.mem_cons_of_mem _ hb
 ·rw [e] at hb
  unfold frs at hb
  rw [List.filterMap_cons,hf] at hb
  exact hb
theorem Inv.stkFree (I:Inv X pins σ H s):∀ b∈frs X.stack,H b=none:=fun b hb=>by
 rcases List.mem_cons.mp (I.stkSub b hb) with e | hb
 ·rw [e]; exact I.free
 ·obtain ⟨_,o,ho,_⟩:=I.ok.funs.mem hb
  exact I.base.free b o ho (I.ok.frf b hb) fun z=>I.ok.exfs b z hb
theorem Inv.step {g':Array GenState} {t':Nat} {d':Drawn} {ch:List Addr} (I:Inv X pins σ H s)
  (hch:∀ b∈ch,(b∈X.ex∨X.s₀.heap.objs.size≤b)∧b≠X.env.locals∧(∀ x c,X.env.cells.lookup x=some c→c≠b)∧∀ p∈X.pn++pins,p.1≠b)
  (keep:∀ b o,b≠X.env.locals→b ∉ X.fs→b ∉ ch→s.heap.get? b=some o→H b=none→h'.get? b=some o)
  (slot:∀ b o,b≠X.env.locals→b∈X.fs→b ∉ ch→s.heap.get? b=some o→H b=none→∃ sl,h'.get? b=some { o with slots:=sl }) (free:∀ b o,b ∉ ch→s.heap.get? b=some o→H b=none→H' b=none)
  (there:∀ b o,b ∉ ch→s.heap.get? b=some o→∃ o',h'.get? b=some o')
  (tups:∀ b xs,H b=some (.tup xs)→H' b=some (.tup xs)) (frzs:∀ b o u,H b=some (.frz o u)→H' b=some (.frz o u)) (tbls:∀ b ps,H b=some (.tbl ps)→∃ more,H' b=some (.tbl (ps++more)))
  (ns:∀ m,s.heap.Ns X.env.locals m→h'.Ns X.env.locals m) (hok:HOk X.prog X.w H' h') (hg:AllBare g') :
  Inv X pins σ H' { s with heap:=h',gens:=g',drawn:=d',toks:=t' }:=by
 have neL:∀ b o,X.s₀.heap.get? b=some o→b≠X.env.locals:=fun b o e=>Nat.ne_of_lt (Nat.lt_of_lt_of_le (Heap.lt_size e) I.ok.above)
 have neC:∀ b o,X.s₀.heap.get? b=some o→b ∉ X.ex→b ∉ ch:=fun b o e hx hb=>by
  rcases (hch b hb).1 with z | z
  ·exact hx z
  ·exact absurd (Nat.lt_of_lt_of_le (Heap.lt_size e) z) (Nat.lt_irrefl _)
 have cellK:∀ x c,X.env.cells.lookup x=some c→∀ v,s.heap.IsCell c v→h'.IsCell c v:=fun x c e v ⟨o,ho,hd⟩=>by
  have nch:c ∉ ch:=fun z=>(hch c z).2.2.1 x c e rfl
  by_cases hc:c∈X.fs
  ·obtain ⟨sl,q⟩:=slot c o (I.cne x c e) hc nch ho (I.freeC x c e)
   exact ⟨_,q,hd⟩
  ·exact ⟨o,keep c o (I.cne x c e) hc nch ho (I.freeC x c e),hd⟩
 refine ⟨I.ok,I.os,hg,⟨fun b o e n hb hx=>?_,fun b o e n hb hx=>?_,fun b o e n hx=>?_,fun b o e hx=>?_,fun b xs e=>tups b xs (I.base.tups b xs e),fun b o xs e=>frzs b o xs (I.base.frzs b o xs e),fun b ps e=>?_⟩,?_,fun x c e=>?_,?_,fun x c e=>?_,fun p hp=>?_,hok,I.len⟩
 ·exact keep b o (neL b o e) hb (neC b o e hx) (I.base.keep b o e n hb hx) (I.base.free b o e n hx)
 ·obtain ⟨sl,e1⟩:=I.base.slot b o e n hb hx
  obtain ⟨sl',e2⟩:=slot b _ (neL b o e) hb (neC b o e hx) e1 (I.base.free b o e n hx)
  exact ⟨sl',e2⟩
 ·obtain ⟨o',e1⟩:=I.base.there b o e hx
  exact free b o' (neC b o e hx) e1 (I.base.free b o e n hx)
 ·obtain ⟨o',e1⟩:=I.base.there b o e hx
  exact there b o' (neC b o e hx) e1
 ·obtain ⟨m1,e1⟩:=I.base.tbls b ps e
  obtain ⟨m2,e2⟩:=tbls b _ e1
  exact ⟨m1++m2,by rw [e2,Array.append_assoc]⟩
 ·obtain ⟨m,hn,hl⟩:=I.loc
  refine ⟨m,ns m hn,fun i x v e1 e2 e3=>?_⟩
  obtain ⟨u,r,l⟩:=hl i x v e1 e2 e3
  refine ⟨u,r,?_⟩
  rcases l with l | ⟨k,c,e,z⟩
  ·exact .inl l
  ·exact .inr ⟨k,c,e,cellK x c e _ z⟩
 ·obtain ⟨v,z⟩:=I.cell x c e
  exact ⟨v,cellK x c e v z⟩
 ·obtain ⟨m,⟨o,_,_,ho,_⟩,_⟩:=I.loc
  exact free _ o (fun z=>(hch _ z).2.1 rfl) ho I.free
 ·obtain ⟨v,o,ho,hd⟩:=I.cell x c e
  exact free c o (fun z=>(hch c z).2.2.1 x c e rfl) ho (I.freeC x c e)
 ·obtain ⟨e,n,ne,nf,d⟩:=I.pin p hp
  have nch:p.1 ∉ ch:=fun z=>(hch p.1 z).2.2.2 p hp rfl
  exact ⟨keep p.1 p.2 ne nf nch e n,free p.1 p.2 nch e n,ne,nf,d⟩
theorem Inv.un {t':Nat} (I:Inv X pins σ H s) (u:Un X.fs [] H H' s.heap h') (hok:HOk X.prog X.w H' h'):Inv X pins σ H' { s with heap:=h',toks:=t' }:=by
 obtain ⟨m,⟨o,es,ep,ho,r⟩,_⟩:=id I.loc
 obtain ⟨sl,hL⟩:=u.any ho I.free (by simp)
 exact I.step (g':=s.gens) (d':=s.drawn) (ch:=[]) (fun _ z=>nomatch z) (fun b o _ hb _ e n=>u.keep b o e n hb (by simp)) (fun b o _ hb _ e n=>u.slot b o e n hb (by simp)) (fun b o _ e n=>u.free b o e n (by simp)) (fun b o _ e=>u.there b o e (by simp)) u.tups u.frzs u.tbls (fun m' hm=>by
  obtain ⟨o',es',ep',ho',r'⟩:=hm
  rw [ho] at ho'; cases ho'
  exact ⟨_,es',ep',hL,r'⟩) hok I.bare
theorem Inv.call {g':Array GenState} {t':Nat} {d':Drawn} {ch:List Addr} (I:Inv X pins σ H s) (u:Un (frs X.stack) ch H H' s.heap h') (hok:HOk X.prog X.w H' h') (hg:AllBare g')
  (hch:∀ b∈ch,(b∈X.ex∨X.s₀.heap.objs.size≤b)∧b≠X.env.locals∧(∀ x c,X.env.cells.lookup x=some c→c≠b)∧∀ p∈X.pn++pins,p.1≠b) :
  Inv X pins σ H' { s with heap:=h',gens:=g',drawn:=d',toks:=t' }:=by
 obtain ⟨m,⟨o,es,ep,ho,r⟩,_⟩:=id I.loc
 obtain ⟨sl,hL⟩:=u.any ho I.free fun z=>(hch _ z).2.1 rfl
 exact I.step (ch:=ch) hch (fun b o hL hb hc e n=>u.keep b o e n (fun z=>(List.mem_cons.mp (I.stkSub b z)).elim hL hb) hc) (fun b o _ _ hc e n=>u.any e n hc) (fun b o hc e n=>u.free b o e n hc) (fun b o hc e=>u.there b o e hc) u.tups u.frzs u.tbls (fun m' hm=>by
  obtain ⟨o',es',ep',ho',r'⟩:=hm
  rw [ho] at ho'; cases ho'
  exact ⟨_,es',ep',hL,r'⟩) hok hg
theorem Inv.turned {t':Nat} {it:Addr} (I:Inv X pins σ H s) (k:∀ b o,b≠it→s.heap.get? b=some o→h'.get? b=some o) (hn:H it=none) (hL:it≠X.env.locals)
  (h1:it∈X.ex∨X.s₀.heap.objs.size≤it) (h2:∀ x c,X.env.cells.lookup x=some c→c≠it) (h3:∀ p∈X.pn++pins,p.1≠it):Inv X pins σ H { s with heap:=h',toks:=t' }:=by
 have nit:∀ b u,H b=some u→b≠it:=fun b u e z=>by rw [z,hn] at e; cases e
 refine I.step (g':=s.gens) (d':=s.drawn) (ch:=[it]) (fun b hb=>?_) (fun b o _ _ hc e _=>k b o (fun z=>hc (by simp [z])) e) (fun b o _ _ hc e _=>⟨o.slots,k b o (fun z=>hc (by simp [z])) e⟩) (fun _ _ _ _ n=>n)
  (fun b o hc e=>⟨o,k b o (fun z=>hc (by simp [z])) e⟩) (fun _ _ e=>e) (fun _ _ _ e=>e) (fun b ps e=>⟨#[],by rw [e]; simp⟩) (fun m hm=>?_) (fun b u e=>?_) I.bare
 ·have e:b=it:=by simpa using hb
  subst e
  exact ⟨h1,hL,h2,h3⟩
 ·obtain ⟨o,es,ep,ho,r⟩:=hm
  exact ⟨o,es,ep,k _ o (Ne.symm hL) ho,r⟩
 ·refine (I.hok b u e).stay (fun c v hc q=>k c v ?_ q) (fun _ q=>q) fun _ _ q=>q
  rcases hc with z | z
  ·rw [z]; exact nit b u e
  ·exact nit c _ z
theorem Inv.tok (I:Inv X pins σ H s) (t:Nat):Inv X pins σ H { s with toks:=t }:=I.un (h':=s.heap) (t':=t) Un.refl I.hok
theorem Inv.kept {t':Nat} (I:Inv X pins σ H s) (k:∀ b u,s.heap.get? b=some u→h'.get? b=some u):Inv X pins σ H { s with heap:=h',toks:=t' }:=I.un (Un.kept k) (I.hok.kept k)
theorem Inv.laid {a:Addr} {o:HO} {t':Nat} (I:Inv X pins σ H s) (k:∀ b u,s.heap.get? b=some u→h'.get? b=some u) (hp:s.heap.objs.size≤a) (new:ach X.prog X.w (upd H a o) h' a o) :
  Inv X pins σ (upd H a o) { s with heap:=h',toks:=t' }:=I.un (Un.laid k hp (I.hok.fresh hp)) (I.hok.laid k hp new)
theorem Inv.write {x e:Addr} {o:HO} {t':Nat} (I:Inv X pins σ H s) (mu:Mut (H x)) (he:e=x∨H e=some (.own x)) (k:∀ b u,b≠e→s.heap.get? b=some u→h'.get? b=some u) (heo:∃ u,h'.get? e=some u)
  (new:ach X.prog X.w (upd H x o) h' x o):Inv X pins σ (upd H x o) { s with heap:=h',toks:=t' }:=I.un (Un.write mu he k heo) (I.hok.write mu he k heo new)
theorem Inv.pins_of {pins':List (Addr × Obj)} (I:Inv X pins σ H s) (h:∀ p∈pins',s.heap.get? p.1=some p.2∧H p.1=none∧p.1≠X.env.locals∧p.1 ∉ X.fs∧∀ v,p.2.data≠.cell v):Inv X pins' σ H s :=
 ⟨I.ok,I.os,I.bare,I.base,I.loc,I.cell,I.free,I.freeC,fun p hp=>(List.mem_append.mp hp).elim (fun z=>I.pin p (List.mem_append_left _ z)) (h p),I.hok,I.len⟩
theorem afz {N:List Str} (hN:N.Nodup) {i j:Nat} {x:Str} (a:N[i]?=some x) (b:N[j]?=some x):i=j:=by
 obtain ⟨h1,e1⟩:=List.getElem?_eq_some_iff.mp a
 obtain ⟨h2,e2⟩:=List.getElem?_eq_some_iff.mp b
 exact (List.getElem_inj hN).mp (e1.trans e2.symm)
theorem ail {M:Model} {A:Around} {E:Value→Shared→Prop} {i:Nat} {x:Str} {v:V} {u:Value} {Q:Unit→Shared→Prop} (I:Inv X pins σ H s) (hN:X.N.Nodup) (hi:X.N[i]?=some x) (hx:Loc X.env.scope x) (r:RelV v u)
  (h:∀ s',Inv X pins (σ.set i (some v)) H s'→(∃ a,Heap.SameBut a s.heap s'.heap∧(a=X.env.locals∨X.env.cells.lookup x=some a))→Q () s') (hf:X.fn x=true∨X.env.scope.names.lookup x=some .local:=by first | exact .inl rfl | exact .inr rfl | assumption):wpAny M A (storeName X.env x u) Q E s:=by
 obtain ⟨m,hn,hl⟩:=id I.loc
 have hcls:(X.env.scope.kind == .class || (X.env.scope.kind == .module && X.env.locals != X.env.globals))=false:=by rw [I.ok.kind]; rfl
 have hiσ:i < σ.length:=by rw [I.len]; exact (List.getElem?_eq_some_iff.mp hi).1
 have cne:=I.cne
 have tracked:∀ {a:Addr} {h':Heap},(∃ o,s.heap.get? a=some o∧H a=none)→Heap.SameBut a s.heap h'→HOk X.prog X.w H h':=fun {a h'} ha hs b ob e=>by
  obtain ⟨_,_,hfree⟩:=ha
  refine (I.hok b ob e).stay (fun c w' hc q=>(hs.2 c ?_).trans q) (fun _ q=>q) fun _ _ q=>q
  rintro rfl
  rcases hc with rfl | hc
  ·rw [hfree] at e; cases e
  ·rw [hfree] at hc; cases hc
 rcases hx with hk | hk
 ·refine wpAny_storeName_local hk hn (fun h' hn' hs=>?_) hcls
  obtain ⟨oL,_,_,hoL,_⟩:=id hn
  refine h _ ⟨I.ok,I.os,I.bare,⟨fun b o e n hb hx=>?_,fun b o e n hb hx=>?_,I.base.free,fun b o e hx=>?_,I.base.tups,I.base.frzs,I.base.tbls⟩,⟨_,hn',fun j y v' e1 e2 e3=>?_⟩,fun y c e=>?_,I.free,I.freeC,fun p hp=>?_,tracked ⟨oL,hoL,I.free⟩ hs,by simpa using I.len⟩ ⟨_,hs,.inl rfl⟩
  ·exact (hs.2 b (Nat.ne_of_lt (Nat.lt_of_lt_of_le (Heap.lt_size e) I.ok.above))).trans (I.base.keep b o e n hb hx)
  ·obtain ⟨sl,e1⟩:=I.base.slot b o e n hb hx
   exact ⟨sl,(hs.2 b (Nat.ne_of_lt (Nat.lt_of_lt_of_le (Heap.lt_size e) I.ok.above))).trans e1⟩
  ·obtain ⟨o',e1⟩:=I.base.there b o e hx
   exact ⟨o',(hs.2 b (Nat.ne_of_lt (Nat.lt_of_lt_of_le (Heap.lt_size e) I.ok.above))).trans e1⟩
  ·by_cases hj:j=i
   ·subst hj
    rw [hi] at e1; cases e1
    rw [List.getElem?_set_self hiσ] at e2
    cases e2
    exact ⟨u,r,.inl ⟨hk,by simp⟩⟩
   ·rw [List.getElem?_set_ne (Ne.symm hj)] at e2
    obtain ⟨u',r',q⟩:=hl j y v' e1 e2 e3
    refine ⟨u',r',?_⟩
    rcases q with ⟨k,e⟩ | ⟨k,c,e,z⟩
    ·refine .inl ⟨k,?_⟩
     have:y≠x:=fun e=>hj (afz hN e1 (e ▸ hi))
     simp [this,e]
    ·exact .inr ⟨k,c,e,z.sameBut hs (cne y c e)⟩
  ·obtain ⟨w',z⟩:=I.cell y c e
   exact ⟨w',z.sameBut hs (cne y c e)⟩
  ·obtain ⟨e,n,ne,nf,d⟩:=I.pin p hp
   exact ⟨(hs.2 p.1 ne).trans e,n,ne,nf,d⟩
 ·have hfn:X.fn x=true:=by
   rcases hf with z | z
   ·exact z
   ·rw [z] at hk; cases hk
  obtain ⟨c,hc⟩:=I.ok.has x (.inl hk)
  obtain ⟨w',z⟩:=I.cell x c hc
  refine wpAny_storeName_cell I.ok.kind hk hc z (fun h' hc' hs=>?_)
  obtain ⟨oc,hoc,hocd⟩:=id z
  refine h { s with heap:=h' } ⟨I.ok,I.os,I.bare,⟨fun b o e n hb hx=>?_,fun b o e n hb hx=>?_,I.base.free,fun b o e hx=>?_,I.base.tups,I.base.frzs,I.base.tbls⟩,⟨m,hn.sameBut hs (Ne.symm (cne x c hc)),fun j y v' e1 e2 e3=>?_⟩,fun y c' e=>?_,I.free,I.freeC,fun p hp=>?_,tracked ⟨oc,hoc,I.freeC x c hc⟩ hs,by simpa using I.len⟩ ⟨c,hs,.inr hc⟩
  ·exact (hs.2 b (Nat.ne_of_lt (Nat.lt_of_lt_of_le (Heap.lt_size e) (I.ok.cab x c hfn hc)))).trans (I.base.keep b o e n hb hx)
  ·obtain ⟨sl,e1⟩:=I.base.slot b o e n hb hx
   exact ⟨sl,(hs.2 b (Nat.ne_of_lt (Nat.lt_of_lt_of_le (Heap.lt_size e) (I.ok.cab x c hfn hc)))).trans e1⟩
  ·obtain ⟨o',e1⟩:=I.base.there b o e hx
   exact ⟨o',(hs.2 b (Nat.ne_of_lt (Nat.lt_of_lt_of_le (Heap.lt_size e) (I.ok.cab x c hfn hc)))).trans e1⟩
  ·by_cases hj:j=i
   ·subst hj
    rw [hi] at e1; cases e1
    rw [List.getElem?_set_self hiσ] at e2
    cases e2
    exact ⟨u,r,.inr ⟨.inl hk,c,hc,hc'⟩⟩
   ·rw [List.getElem?_set_ne (Ne.symm hj)] at e2
    obtain ⟨u',r',q⟩:=hl j y v' e1 e2 e3
    refine ⟨u',r',?_⟩
    rcases q with q | ⟨k,c',e,z'⟩
    ·exact .inl q
    ·refine .inr ⟨k,c',e,z'.sameBut hs ?_⟩
     rintro rfl
     exact hj (afz hN e1 (I.ok.inj _ _ _ e hc ▸ hi))
  ·by_cases hcc:c'=c
   ·subst hcc; exact ⟨_,hc'⟩
   ·obtain ⟨w2,z2⟩:=I.cell y c' e
    exact ⟨w2,z2.sameBut hs hcc⟩
  ·obtain ⟨e,n,ne,nf,d⟩:=I.pin p hp
   refine ⟨(hs.2 p.1 ?_).trans e,n,ne,nf,d⟩
   intro q
   rw [q,hoc] at e
   have q':oc=p.2:=Option.some.inj e
   exact d w' (by rw [← q']; exact hocd)
theorem acH {M:Model} {A:Around} {E:Value→Shared→Prop} {i:Nat} {x:Str} {v:V} {u:Value} {Q:Unit→Shared→Prop} (I:Inv X pins σ H s) (hN:X.N.Nodup) (hi:X.N[i]?=some x) (hx:Loc X.env.scope x) (r:RelV v u)
  (h:∀ s',Inv X pins (σ.set i (some v)) H s'→Q () s') (hf:X.fn x=true∨X.env.scope.names.lookup x=some .local:=by first | exact .inl rfl | exact .inr rfl | assumption):wpAny M A (storeName X.env x u) Q E s :=
 ail I hN hi hx r (fun s' I' _=>h s' I') hf
theorem Inv.call' {s':Shared} {ch:List Addr} (I:Inv X pins σ H s) (ho:s'.os=s.os) (u:Un (frs X.stack) ch H H' s.heap s'.heap) (hok:HOk X.prog X.w H' s'.heap) (hg:AllBare s'.gens)
  (hch:∀ b∈ch,(b∈X.ex∨X.s₀.heap.objs.size≤b)∧b≠X.env.locals∧(∀ x c,X.env.cells.lookup x=some c→c≠b)∧∀ p∈X.pn++pins,p.1≠b):Inv X pins σ H' s':=by
 obtain ⟨h',g',d',t',o'⟩:=s'
 have e:o'=s.os:=ho
 subst e
 exact I.call (g':=g') (t':=t') (d':=d') u hok hg hch
end
abbrev XK:=Value→Option Addr→Hp→Prop
abbrev St:=List (Option V)
abbrev VK:=V→Hp→Prop
abbrev TE:=St→Hp→VK→Prop
abbrev TT:=St→Hp→(Bool→Hp→Prop)→Prop
abbrev TA:=St→Hp→(List V→Hp→Prop)→Prop
structure Ends where
 nx:St→Hp→Prop
 rt:VK
 bk:St→Hp→Prop:=fun _ _=>False
 ct:St→Hp→Prop:=fun _ _=>False
abbrev TS:=Ends→St→Hp→Prop
def EP (X:Cx) (pins:List (Addr × Obj)) (σ:St) (Q:VK) (u:Value) (s':Shared):Prop:=∃ v H',Inv X pins σ H' s'∧RelV v u∧Q v H'
def TP (X:Cx) (pins:List (Addr × Obj)) (σ:St) (Q:Bool→Hp→Prop) (b:Bool) (s':Shared):Prop:=∃ H',Inv X pins σ H' s'∧Q b H'
def AP (X:Cx) (pins:List (Addr × Obj)) (σ:St) (Q:List V→Hp→Prop) (us:List Value) (s':Shared):Prop:=∃ vs H',Inv X pins σ H' s'∧Vals vs us∧Q vs H'
def SP (X:Cx) (pins:List (Addr × Obj)) (D:Ends) (f:Flow) (s':Shared):Prop :=
 match f with
 | .next=>∃ σ' H',Inv X pins σ' H' s'∧D.nx σ' H'
 | .brk=>∃ σ' H',Inv X pins σ' H' s'∧D.bk σ' H'
 | .cont=>∃ σ' H',Inv X pins σ' H' s'∧D.ct σ' H'
 | .ret u=>∃ v σ' H',Inv X pins σ' H' s'∧RelV v u∧D.rt v H'
def PE (X:Cx) (e:Expr) (t:TE):Prop :=
 ∀ (pins:List (Addr × Obj)) (s:Shared) (σ:St) (H:Hp) (Q:VK),Inv X pins σ H s→t σ H Q→wpAny (model X.prog X.w) X.A (eval e X.env) (EP X pins σ Q) X.xe s
def PT (X:Cx) (e:Expr) (t:TT):Prop :=
 ∀ (pins:List (Addr × Obj)) (s:Shared) (σ:St) (H:Hp) (Q:Bool→Hp→Prop),Inv X pins σ H s→t σ H Q→wpAny (model X.prog X.w) X.A (isTrue e X.env (eval e X.env)) (TP X pins σ Q) X.xe s
def PW (X:Cx) (e:Expr) (t:TT):Prop :=
 ∀ (whole:Sem Value) (pins:List (Addr × Obj)) (s:Shared) (σ:St) (H:Hp) (Q:Bool→Hp→Prop),Inv X pins σ H s→t σ H Q→wpAny (model X.prog X.w) X.A (isTrue e X.env whole) (TP X pins σ Q) X.xe s
theorem PW.pt {X:Cx} {e:Expr} {t:TT} (h:PW X e t):PT X e t:=h _
def PA (X:Cx) (es:List Expr) (t:TA):Prop :=
 ∀ (pos:Pos) (pins:List (Addr × Obj)) (s:Shared) (σ:St) (H:Hp) (Q:List V→Hp→Prop),Inv X pins σ H s→t σ H Q→wpAny (model X.prog X.w) X.A (spliced (backTo pos (starEach es X.env))) (AP X pins σ Q) X.xe s
def PS (X:Cx) (st:Stmt) (t:TS):Prop :=
 ∀ (pins:List (Addr × Obj)) (s:Shared) (σ:St) (H:Hp) (D:Ends),Inv X pins σ H s→t D σ H→wpAny (model X.prog X.w) X.A (exec st X.env) (SP X pins D) X.xe s
def PSs (X:Cx) (st:List Stmt) (t:TS):Prop :=
 ∀ (pins:List (Addr × Obj)) (s:Shared) (σ:St) (H:Hp) (D:Ends),Inv X pins σ H s→t D σ H→wpAny (model X.prog X.w) X.A (execs st X.env) (SP X pins D) X.xe s
theorem thn {α:Type} {t:Sem α} {Q Q':α→Shared→Prop} {M:Model} {A:Around} {E:Value→Shared→Prop} {s:Shared} (h:wpAny M A t Q E s) (hQ:∀ a s,Q a s→Q' a s):wpAny M A t Q' E s:=wpAny_mono h hQ fun _ _ x=>x
end L2
namespace L2
open PySem PySem.Spec PyProof.Rows
section
variable {X:Cx}
theorem bin {a b:Expr} {ta tb:TE} (ha:PE X a ta) (hb:PE X b tb) {pins:List (Addr × Obj)} {s:Shared} {σ:St} {H:Hp} {R:V→V→Hp→Prop} (I:Inv X pins σ H s) (h:ta σ H fun x H1=>tb σ H1 fun y H2=>R x y H2)
  {α:Type} {Q:α→Shared→Prop} {f:Value→Value→Sem α}
  (hf:∀ v u s2 x y H2,Inv X pins σ H2 s2→RelV x v→RelV y u→R x y H2→wpAny (model X.prog X.w) X.A (f v u) Q X.xe s2) :
  wpAny (model X.prog X.w) X.A (eval a X.env) (fun v s₁=>wpAny (model X.prog X.w) X.A (eval b X.env) (fun u s₂=>wpAny (model X.prog X.w) X.A (f v u) Q X.xe s₂) X.xe s₁) X.xe s:=by
 refine thn (ha pins s σ H _ I h) fun v s1 ⟨x,H1,I1,r1,q1⟩=>?_
 refine thn (hb pins s1 σ H1 _ I1 q1) fun u s2 ⟨y,H2,I2,r2,q2⟩=>?_
 exact hf v u s2 x y H2 I2 r1 r2 q2
def tVar (i:Nat):TE:=fun σ H Q=>∃ v,σ[i]?=some (some v)∧Q v H
def tC (v:V):TE:=fun _ H Q=>Q v H
theorem akT {i:Nat} {x:Str} {pos:Pos} (hN:X.N[i]?=some x) (hv:Vis X.env.scope x) (hd:(x == ("__debug__":Str))=false:=by decide) (hcd:(x == ("__classdict__":Str))=false:=by decide):PE X (.Name x pos) (tVar i):=by
 intro pins s σ H Q I h
 obtain ⟨v,e,h⟩:=h
 obtain ⟨m,hn,hl⟩:=I.loc
 obtain ⟨u,r,l⟩:=hl i x v hN e hv
 have fin:EP X pins σ Q u s:=⟨v,H,I,r,h⟩
 rcases l with ⟨hk,hm⟩ | ⟨hk,c,hc,hcell⟩
 ·exact wpAny_Name (wpAny_loadName_local I.ok.kind hk hn hm fin) hd
 ·rcases hk with hk | hk
  ·exact wpAny_Name (wpAny_loadName_cell I.ok.kind hk hc hcell fin) hd
  ·exact wpAny_Name (wpAny_loadName_free I.ok.kind hk hc hcell fin hcd) hd
theorem anS {i j pos}:PE X (.Constant (.int i) j pos) (tC (.int i)):=fun _ _ _ H _ I h=>wpAny_Constant_int ⟨.int i,H,I.tok _,⟨_,rfl⟩,h⟩
theorem aoB {b j pos}:PE X (.Constant (.bool b) j pos) (tC (.bl b)):=fun _ _ _ H _ I h=>Constant_bool ⟨.bl b,H,I,rfl,h⟩
theorem amx {j pos}:PE X (.Constant .none j pos) (tC .non):=fun _ _ _ H _ I h=>Constant_none ⟨.non,H,I,rfl,h⟩
theorem anW {x j pos}:PE X (.Constant (.str x) j pos) (tC (.str x)):=fun _ _ _ H _ I h=>Calls.Constant_str ⟨.str x,H,I.tok _,⟨_,rfl⟩,h⟩
def Gl (X:Cx) (x:Str):Prop:=X.env.kindOf x=some .globalImplicit
theorem aer {E:Value→Shared→Prop} {pins:List (Addr × Obj)} {s:Shared} {σ:St} {H:Hp} {x:Str} {u:Value} {pos:Pos} {Q:Value→Shared→Prop} (I:Inv X pins σ H s) (hg:Gl X x) (hm:X.mg x=some u) (h:Q u s)
  (hd:(x == ("__debug__":Str))=false:=by decide):wpAny (model X.prog X.w) X.A (eval (.Name x pos) X.env) Q E s :=
 Calls.Name_function_global I.ok.kind hg (Calls.loadGlobal_global (by rw [I.ok.glob]; exact I.mod.glob.keeps I.bk) hm h) hd
theorem afh {E:Value→Shared→Prop} {pins:List (Addr × Obj)} {s:Shared} {σ:St} {H:Hp} {x:Str} {u:Value} {pos:Pos} {Q:Value→Shared→Prop} (I:Inv X pins σ H s) (hg:Gl X x) (hm:X.mg x=none) (hv:bootBuiltins x=some u) (h:Q u s)
  (hn:x≠"__name__":=by decide) (hd:(x == ("__debug__":Str))=false:=by decide):wpAny (model X.prog X.w) X.A (eval (.Name x pos) X.env) Q E s:=by
 obtain ⟨mb,h1,h2⟩:=I.mod.blt
 exact Calls.Name_function_global I.ok.kind hg (Calls.loadGlobal_builtin (by rw [I.ok.glob]; exact I.mod.glob.keeps I.bk) hm (by rw [I.ok.blt]; exact h1.keeps I.bk) ((h2 x hn).trans hv) h) hd
theorem aii {x:Str} {v:V} {u:Value} {pos:Pos} (hg:Gl X x) (hm:X.mg x=some u) (r:RelV v u) (hd:(x == ("__debug__":Str))=false:=by decide):PE X (.Name x pos) (tC v) :=
 fun _ _ _ H _ I h=>aer I hg hm ⟨v,H,I,r,h⟩ hd
theorem alf {x:Str} {v:V} {u:Value} {pos:Pos} (hg:Gl X x) (hm:X.mg x=none) (hv:bootBuiltins x=some u) (r:RelV v u) (hn:x≠"__name__":=by decide) (hd:(x == ("__debug__":Str))=false:=by decide):PE X (.Name x pos) (tC v) :=
 fun _ _ _ H _ I h=>afh I hg hm hv ⟨v,H,I,r,h⟩ hn hd
variable {a b:Expr} {ta tb:TE} {pos:Pos}
def PC (X:Cx) (op:CmpOp) (a b:Expr) (t:TE):Prop :=
 ∀ (pins:List (Addr × Obj)) (s:Shared) (σ:St) (H:Hp) (Q:VK),Inv X pins σ H s→t σ H Q →
  wpAny (model X.prog X.w) X.A (eval a X.env) (fun v s₁=>wpAny (model X.prog X.w) X.A (eval b X.env) (fun u s₂=>wpAny (model X.prog X.w) X.A (compareOp op v u) (EP X pins σ Q) X.xe s₂) X.xe s₁) X.xe s
theorem ag3 (b:Expr) {op:CmpOp} (h:op≠.In) (h2:op≠.NotIn):behindInMarks op b=false:=by
 have e1:(op == CmpOp.In)=false:=by cases op <;> first | rfl | exact absurd rfl h
 have e2:(op == CmpOp.NotIn)=false:=by cases op <;> first | rfl | exact absurd rfl h2
 cases b <;> simp [behindInMarks,e1,e2]
def tIsN (ta:TE):TE:=fun σ H Q=>ta σ H fun x H1=>Q (.bl (decide (x=.non))) H1
theorem RelV.none_iff {x:V} {v:Value} (r:RelV x v):(v == Value.none)=decide (x=.non):=by
 cases x with
 | non=>cases r; rfl
 | bl _=>cases r; rfl
 | int _=>obtain ⟨t,rfl⟩:=r; rfl
 | str _=>obtain ⟨t,rfl⟩:=r; rfl
 | byt _=>obtain ⟨t,rfl⟩:=r; rfl
 | flt _=>obtain ⟨t,rfl⟩:=r; rfl
 | ref _=>cases r; rfl
 | ty _=>cases r; rfl
theorem anJ {j pos'} (ha:PE X a ta):PC X .Is a (.Constant .none j pos') (tIsN ta):=by
 intro pins s σ H Q I h
 refine thn (ha pins s σ H _ I h) fun v s1 ⟨x,H1,I1,r1,q1⟩=>?_
 exact Constant_none (is_none_gen ⟨.bl _,H1,I1,by rw [r1.none_iff]; rfl,q1⟩)
def tB (t:TE):TT:=fun σ H Q=>t σ H fun x H1=>∃ c,x=.bl c∧Q c H1
theorem amt {op:CmpOp} {t:TE} (h:PC X op a b t) (h1:behindInMarks op b=false:=by first | exact ag3 _ (by decide) (by decide) | rfl):PE X (.Compare a [op] [b] pos) t:=fun pins s σ H Q I hw=>wpAny_Compare1 (h pins s σ H Q I hw) h1
theorem aoD {op:CmpOp} {t:TE} (h:PC X op a b t) (h1:behindInMarks op b=false:=by first | exact ag3 _ (by decide) (by decide) | rfl):PT X (.Compare a [op] [b] pos) (tB t):=by
 intro pins s σ H Q I hw
 refine wpAny_isTrue_Compare1 (thn (h pins s σ H _ I hw) fun v s1 h1=>thn h1 fun u s2 h2=>thn h2 fun c s3 ⟨x,H1,I1,r1,q1⟩=>?_) h1
 obtain ⟨d,rfl,q⟩:=q1
 cases r1
 exact wpAny_truthy_bool ⟨H1,I1,q⟩
theorem ang {e:Expr} {t:TE} (h:PE X e t) (he:∀ whole,isTrue e X.env whole=(do let v ← whole; standAt e.pos; holding [v] (truthy v)):=by intro _; rfl):PT X e (tB t):=by
 intro pins s σ H Q I hw
 refine isTrue_plain (thn (h pins s σ H _ I hw) fun v s1 ⟨x,H1,I1,r1,q1⟩=>?_) (he _)
 obtain ⟨d,rfl,q⟩:=q1
 cases r1
 exact wpAny_truthy_bool ⟨H1,I1,q⟩
variable {tA tB':TT} {rest:List Expr}
def tAnd (t u:TT):TT:=fun σ H Q=>t σ H fun c H1=>if c=true then u σ H1 Q else Q false H1
def tOr (t u:TT):TT:=fun σ H Q=>t σ H fun c H1=>if c=true then Q true H1 else u σ H1 Q
def tNot (t:TT):TT:=fun σ H Q=>t σ H fun c H1=>Q (!c) H1
theorem al5 (ha:PT X a tA):PW X (.BoolOp .And [a] pos) tA:=by
 intro wh pins s σ H Q I h
 refine isTrue_and (thn (ha pins s σ H Q I h) fun c s1 e=>?_)
 cases c with
 | true=>exact isTrue_and_nil e
 | false=>exact e
theorem anI (ha:PT X a tA):PW X (.BoolOp .Or [a] pos) tA:=by
 intro wh pins s σ H Q I h
 refine isTrue_or (thn (ha pins s σ H Q I h) fun c s1 e=>?_)
 cases c with
 | false=>exact isTrue_or_nil e
 | true=>exact e
theorem anx (ha:PT X a tA) (hb:PW X (.BoolOp .And (b :: rest) pos) tB'):PW X (.BoolOp .And (a :: b :: rest) pos) (tAnd tA tB'):=by
 intro wh pins s σ H Q I h
 refine isTrue_and (thn (ha pins s σ H _ I h) fun c s1 ⟨H1,I1,q1⟩=>?_)
 cases c with
 | true=>exact hb wh pins s1 σ H1 Q I1 q1
 | false=>exact ⟨H1,I1,q1⟩
theorem an1 (ha:PT X a tA) (hb:PW X (.BoolOp .Or (b :: rest) pos) tB'):PW X (.BoolOp .Or (a :: b :: rest) pos) (tOr tA tB'):=by
 intro wh pins s σ H Q I h
 refine isTrue_or (thn (ha pins s σ H _ I h) fun c s1 ⟨H1,I1,q1⟩=>?_)
 cases c with
 | true=>exact ⟨H1,I1,q1⟩
 | false=>exact hb wh pins s1 σ H1 Q I1 q1
theorem anX (ha:PT X a tA):PT X (.UnaryOp .Not a pos) (tNot tA):=by
 intro pins s σ H Q I h
 exact isTrue_not (ha pins s σ H (fun c H1=>Q (!c) H1) I h)
def aov (ta tb:TE):TE:=fun σ H Q=>ta σ H fun x H1=>∃ c,x=.bl c∧if c=true then tb σ H1 Q else Q (.bl false) H1
def an2 (ta:TE):TE:=fun σ H Q=>ta σ H fun x H1=>∃ c,x=.bl c∧Q (.bl (!c)) H1
theorem anR {op} {t:TE} (h:PE X a t):PE X (.BoolOp op [a] pos) t:=fun pins s σ H Q I hw=>BoolOp_one (h pins s σ H Q I hw)
theorem anp (ha:PE X a ta) (hb:PE X (.BoolOp .And (b :: rest) pos) tb):PE X (.BoolOp .And (a :: b :: rest) pos) (aov ta tb):=by
 intro pins s σ H Q I h
 refine BoolOp_and (thn (ha pins s σ H _ I h) fun v s1 ⟨x,H1,I1,r1,q1⟩=>?_)
 obtain ⟨c,rfl,q1⟩:=q1
 cases r1
 refine wpAny_truthy_bool ?_
 cases c with
 | true=>exact hb pins s1 σ H1 Q I1 q1
 | false=>exact ⟨.bl false,H1,I1,rfl,q1⟩
theorem amP (ha:PE X a ta):PE X (.UnaryOp .Not a pos) (an2 ta):=by
 intro pins s σ H Q I h
 refine UnaryOp_ (thn (ha pins s σ H _ I h) fun v s1 ⟨x,H1,I1,r1,q1⟩=>?_)
 obtain ⟨c,rfl,q1⟩:=q1
 cases r1
 exact not_of (wpAny_truthy_bool ⟨.bl (!c),H1,I1,rfl,q1⟩)
def tIf (t:TT) (ta tb:TE):TE:=fun σ H Q=>t σ H fun c H1=>if c=true then ta σ H1 Q else tb σ H1 Q
theorem akB {c:Expr} (hc:PT X c tA) (ha:PE X a ta) (hb:PE X b tb):PE X (.IfExp c a b pos) (tIf tA ta tb):=by
 intro pins s σ H Q I h
 refine wpAny_IfExp (thn (hc pins s σ H _ I h) fun d s1 ⟨H1,I1,q1⟩=>?_)
 cases d with
 | true=>exact ha pins s1 σ H1 Q I1 q1
 | false=>exact hb pins s1 σ H1 Q I1 q1
end
end L2
namespace L2
open PySem PySem.Spec PyProof.Rows
def SqL (K:PySem.W.Frag) (H:Hp) (a:Addr) (xs:List V):Prop :=
 Rd H a (.lst xs) ∨
  ∃ (o:Obj) (its:Array Value) (n:Nat),K.lookup a=some o∧o.cls=.type "list"∧o.dict=none∧o.data=.seq its n∧its.size≤sizeLine∧Vals xs its.toList
def SqT (K:PySem.W.Frag) (H:Hp) (a:Addr) (xs:List V):Prop :=
 Rd H a (.tup xs) ∨
  ∃ (o:Obj) (its:Array Value) (n:Nat),K.lookup a=some o∧o.cls=.type "tuple"∧o.data=.seq its n∧its.size≤sizeLine∧Vals xs its.toList
def absV:Value→Option V
 | .none=>some .non
 | .bool b=>some (.bl b)
 | .int i _=>some (.int i)
 | .str x _=>some (.str x)
 | .bytes b _=>some (.byt b)
 | .float b _=>some (.flt b)
 | .ref a=>some (.ref a)
 | .type n=>some (.ty n)
 | _=>none
theorem RelV.abs {x:V} {u:Value} (r:RelV x u):absV u=some x:=by
 cases x with
 | non=>cases r; rfl
 | bl _=>cases r; rfl
 | int _=>obtain ⟨t,rfl⟩:=r; rfl
 | str _=>obtain ⟨t,rfl⟩:=r; rfl
 | byt _=>obtain ⟨t,rfl⟩:=r; rfl
 | flt _=>obtain ⟨t,rfl⟩:=r; rfl
 | ref _=>cases r; rfl
 | ty _=>cases r; rfl
theorem RelV.inj {x y:V} {u:Value} (r:RelV x u) (q:RelV y u):x=y:=Option.some.inj (r.abs.symm.trans q.abs)
theorem Vals.inj:∀ {xs ys:List V} {us:List Value},Vals xs us→Vals ys us→xs=ys
 | _,_,_,.nil,.nil=>rfl
 | _,_,_,.cons r t,.cons r' t'=>by rw [r.inj r',Vals.inj t t']
section
variable {X:Cx} {pins:List (Addr × Obj)} {σ:St} {H:Hp} {s:Shared} {a:Addr} {xs ys:List V}
theorem SqL.of {K:PySem.W.Frag} (h:H a=some (.lst xs)):SqL K H a xs:=.inl (.inl h)
theorem SqT.of {K:PySem.W.Frag} (h:H a=some (.tup xs)):SqT K H a xs:=.inl (.inl h)
theorem Inv.list (I:Inv X pins σ H s) (h:SqL X.K H a xs):∃ its:List Value,Vals xs its∧PlainL s.heap a its.toArray∧xs.length≤sizeLine:=by
 rcases h with h | ⟨o,its,n,hk,hc,hd,hs,hz,r⟩
 ·obtain ⟨z,its,n,r,e⟩:=h.ok I.hok
  exact ⟨its,r,⟨_,n,e,rfl,rfl,rfl⟩,z⟩
 ·refine ⟨its.toList,r,⟨o,n,I.kIn a o hk,hc,hd,by simpa using hs⟩,?_⟩
  have e:=r.length
  simp only [Array.length_toList] at e
  omega
theorem Inv.tuple (I:Inv X pins σ H s) (h:SqT X.K H a xs):∃ its:List Value,Vals xs its∧IsTup s.heap a its.toArray∧xs.length≤sizeLine:=by
 rcases h with h | ⟨o,its,n,hk,hc,hs,hz,r⟩
 ·obtain ⟨z,its,r,p⟩:=h.ok I.hok
  exact ⟨its,r,p,z⟩
 ·refine ⟨its.toList,r,⟨o,I.kIn a o hk,hc,n,by simpa using hs⟩,?_⟩
  have e:=r.length
  simp only [Array.length_toList] at e
  omega
theorem Inv.list_inj (I:Inv X pins σ H s) (h:SqL X.K H a xs) (h':SqL X.K H a ys):xs=ys:=by
 obtain ⟨its,r,⟨o,n,e,_,_,d⟩,_⟩:=I.list h
 obtain ⟨its',r',⟨o',n',e',_,_,d'⟩,_⟩:=I.list h'
 rw [e] at e'; cases e'
 rw [d] at d'
 injection d' with d1 _
 have:its=its':=by simpa using congrArg Array.toList d1
 subst this
 exact r.inj r'
theorem Inv.tuple_inj (I:Inv X pins σ H s) (h:SqT X.K H a xs) (h':SqT X.K H a ys):xs=ys:=by
 obtain ⟨its,r,⟨o,e,_,n,d⟩,_⟩:=I.tuple h
 obtain ⟨its',r',⟨o',e',_,n',d'⟩,_⟩:=I.tuple h'
 rw [e] at e'; cases e'
 rw [d] at d'
 injection d' with d1 _
 have:its=its':=by simpa using congrArg Array.toList d1
 subst this
 exact r.inj r'
end
abbrev Cx.wish (X:Cx) (E:Value→Shared→Prop):Cx:={ X with xe:=E }
abbrev Cx.nox (X:Cx):Cx:=X.wish fun _ _=>False
theorem Cx.Ok.wish {X:Cx} (ok:X.Ok) (E:Value→Shared→Prop):(X.wish E).Ok :=
 ⟨ok.mod,ok.kind,ok.glob,ok.blt,ok.above,ok.inj,ok.has,ok.cab,ok.hd,ok.frames,ok.stk,ok.exf,ok.bs,ok.bsz,ok.noex,ok.exfs,ok.funs,ok.frf⟩
theorem Cx.Ok.unwish {X:Cx} {E:Value→Shared→Prop} (ok:(X.wish E).Ok):X.Ok :=
 ⟨ok.mod,ok.kind,ok.glob,ok.blt,ok.above,ok.inj,ok.has,ok.cab,ok.hd,ok.frames,ok.stk,ok.exf,ok.bs,ok.bsz,ok.noex,ok.exfs,ok.funs,ok.frf⟩
section
variable {X:Cx} {pins:List (Addr × Obj)} {σ:St} {H:Hp} {s:Shared} {E:Value→Shared→Prop}
theorem Inv.wish (I:Inv X pins σ H s) (E:Value→Shared→Prop):Inv (X.wish E) pins σ H s:=⟨I.ok.wish E,I.os,I.bare,I.base,I.loc,I.cell,I.free,I.freeC,I.pin,I.hok,I.len⟩
theorem Inv.unwish (I:Inv (X.wish E) pins σ H s):Inv X pins σ H s:=⟨I.ok.unwish,I.os,I.bare,I.base,I.loc,I.cell,I.free,I.freeC,I.pin,I.hok,I.len⟩
theorem SP.unwish {D:Ends} {f:Flow} {s':Shared} (h:SP (X.wish E) pins D f s'):SP X pins D f s':=by
 cases f with
 | next=>obtain ⟨σ',H',I,q⟩:=h; exact ⟨σ',H',I.unwish,q⟩
 | brk=>obtain ⟨σ',H',I,q⟩:=h; exact ⟨σ',H',I.unwish,q⟩
 | cont=>obtain ⟨σ',H',I,q⟩:=h; exact ⟨σ',H',I.unwish,q⟩
 | ret u=>obtain ⟨v,σ',H',I,r,q⟩:=h; exact ⟨v,σ',H',I.unwish,r,q⟩
theorem PSs.nox {st:List Stmt} {t:TS} (h:PSs X.nox st t):PSs X st t:=fun pins s σ H D I hw =>
 wpAny_mono (h pins s σ H D (I.wish _) hw) (fun _ _ q=>q.unwish) fun _ _ z=>False.elim z
end
section
variable {X:Cx} {st:Stmt} {rest:List Stmt} {t u:TS} {e:Expr} {te:TE} {pos:Pos}
def aoa:TS:=fun D σ H=>D.nx σ H
def tSeq (t u:TS):TS:=fun D σ H=>t { D with nx:=u D } σ H
theorem alu:PSs X [] aoa:=fun _ _ σ H _ I h=>wpAny_execs_nil ⟨σ,H,I,h⟩
theorem ajO (h1:PS X st t) (h2:PSs X rest u):PSs X (st :: rest) (tSeq t u):=by
 intro pins s σ H D I h
 refine wpAny_execs_cons (thn (h1 pins s σ H { D with nx:=u D } I h) fun f s1 q=>?_)
 cases f with
 | next =>
  obtain ⟨σ',H',I',q⟩:=q
  exact h2 pins s1 σ' H' D I' q
 | ret v=>exact q
 | brk=>exact q
 | cont=>exact q
theorem aif (h1:PS X st t):PSs X [st] t:=by
 intro pins s σ H D I h
 refine wpAny_execs_cons (thn (h1 pins s σ H D I h) fun f s1 q=>?_)
 cases f with
 | next=>exact wpAny_execs_nil q
 | ret v=>exact q
 | brk=>exact q
 | cont=>exact q
theorem Inv.quiet {pins:List (Addr × Obj)} {σ:St} {H:Hp} {s:Shared} (I:Inv X pins σ H s):interactive X.env=false:=by simp [interactive,I.ok.kind]
def aor (te:TE):TS:=fun D σ H=>te σ H fun _ H1=>D.nx σ H1
theorem alI (he:PE X e te) (hs:swapsWith e none pos.line X.env=pure false:=by rfl):PS X (.Expr e pos) (aor te):=by
 intro pins s σ H D I h
 exact wpAny_Expr_any (thn (he pins s σ H _ I h) fun v s1 ⟨x,H1,I1,r1,q1⟩=>⟨σ,H1,I1,q1⟩) I.quiet hs
def tRet (te:TE):TS:=fun D σ H=>te σ H D.rt
theorem anB (he:PE X e te):PS X (.Return (some e) pos) (tRet te):=by
 intro pins s σ H D I h
 exact wpAny_Return_some (thn (he pins s σ H _ I h) fun v s1 ⟨x,H1,I1,r1,q1⟩=>⟨x,σ,H1,I1,r1,q1⟩)
def tIfS (c:TT) (t u:TS):TS:=fun D σ H=>c σ H fun b H1=>if b=true then t D σ H1 else u D σ H1
theorem aof {c:Expr} {a b:List Stmt} {tc:TT} (hc:PT X c tc) (ha:PSs X a t) (hb:PSs X b u):PS X (.If c a b pos) (tIfS tc t u):=by
 intro pins s σ H D I h
 refine wpAny_If (thn (hc pins s σ H _ I h) fun d s1 ⟨H1,I1,q1⟩=>?_)
 cases d with
 | true=>exact ha pins s1 σ H1 D I1 q1
 | false=>exact hb pins s1 σ H1 D I1 q1
end
abbrev TG:=V→St→Hp→(St→Hp→Prop)→Prop
abbrev TGs:=List V→St→Hp→(St→Hp→Prop)→Prop
def PG (X:Cx) (target:Expr) (t:TG):Prop :=
 ∀ (pins:List (Addr × Obj)) (s:Shared) (σ:St) (H:Hp) (v:V) (u:Value) (Q:St→Hp→Prop),Inv X pins σ H s→RelV v u→t v σ H Q →
  wpAny (model X.prog X.w) X.A (assign target X.env u) (fun _ s'=>∃ σ' H',Inv X pins σ' H' s'∧Q σ' H') X.xe s
def PGs (X:Cx) (ts:List Expr) (t:TGs):Prop :=
 ∀ (pins:List (Addr × Obj)) (s:Shared) (σ:St) (H:Hp) (vs:List V) (us:List Value) (Q:St→Hp→Prop),Inv X pins σ H s→Vals vs us→t vs σ H Q →
  wpAny (model X.prog X.w) X.A (assignInOrder ((assignEach ts X.env).map (·.2)) us) (fun _ s'=>∃ σ' H',Inv X pins σ' H' s'∧Q σ' H') X.xe s
abbrev TSet:=V→V→V→Hp→(Hp→Prop)→Prop
def PSet (X:Cx) (t:TSet):Prop :=
 ∀ (pins:List (Addr × Obj)) (s:Shared) (σ:St) (H:Hp) (o i v:V) (ov iv u:Value) (Q:Hp→Prop),Inv X pins σ H s→RelV o ov→RelV i iv→RelV v u→t o i v H Q →
  wpAny (model X.prog X.w) X.A (setItem ov iv u) (fun _ s'=>∃ H',Inv X pins σ H' s'∧Q H') X.xe s
abbrev TIp:=V→V→Hp→VK→Prop
def PIp (X:Cx) (op:Operator) (t:TIp):Prop :=
 ∀ (pins:List (Addr × Obj)) (s:Shared) (σ:St) (H:Hp) (x y:V) (v u:Value) (Q:VK),Inv X pins σ H s→RelV x v→RelV y u→t x y H Q →
  wpAny (model X.prog X.w) X.A (inplaceOp op v u) (EP X pins σ Q) X.xe s
section
variable {X:Cx} {pos:Pos}
def alY (i:Nat):TG:=fun v σ H Q=>Q (σ.set i (some v)) H
theorem alE {i:Nat} {x:Str} (hN:X.N.Nodup) (hi:X.N[i]?=some x) (hx:Loc X.env.scope x) (hf:X.fn x=true∨X.env.scope.names.lookup x=some .local:=by first | exact .inl rfl | exact .inr rfl | assumption):PG X (.Name x pos) (alY i):=by
 intro pins s σ H v u Q I r h
 exact wpAny_assign_Name (acH I hN hi hx r (fun s' I'=>⟨_,H,I',h⟩) hf)
def gNil:TGs:=fun vs σ H Q=>vs=[]∧Q σ H
def aok (t:TG) (u:TGs):TGs:=fun vs σ H Q=>∃ v r,vs=v :: r∧t v σ H fun σ' H'=>u r σ' H' Q
theorem al8:PGs X [] gNil:=by
 intro pins s σ H vs us Q I r h
 obtain ⟨e,h⟩:=h
 subst e
 cases r
 exact assignInOrder_nil ⟨σ,H,I,h⟩
theorem akg {e:Expr} {es:List Expr} {t:TG} {u:TGs} (h1:PG X e t) (h2:PGs X es u)
  (hs:(assignEach (e :: es) X.env).map (·.2)=assign e X.env :: (assignEach es X.env).map (·.2):=by rfl):PGs X (e :: es) (aok t u):=by
 intro pins s σ H vs us Q I r h
 obtain ⟨v,vr,e1,h⟩:=h
 subst e1
 cases r with
 | cons r rr =>
  rw [hs]
  refine assignInOrder_cons (thn (h1 pins s σ H _ _ _ I r h) fun _ s1 ⟨σ1,H1,I1,q1⟩=>?_)
  exact h2 pins s1 σ1 H1 _ _ Q I1 rr q1
def gTup (K:PySem.W.Frag) (n:Nat) (t:TGs):TG:=fun v σ H Q=>∃ a xs,v=.ref a∧SqT K H a xs∧xs.length=n∧t xs σ H Q
theorem amM {es:List Expr} {k:Nat} {t:TGs} {n:Nat} (hc:X.calm=true) (h:PGs X es t)
  (hn:(assignEach es X.env).length=n:=by rfl) (hst:(assignEach es X.env).findIdx? (·.1)=none:=by rfl):PG X (.Tuple es k pos) (gTup X.K n t):=by
 intro pins s σ H v u Q I r hw
 obtain ⟨a,xs,e1,hq,hl,hw⟩:=hw
 subst e1
 cases r
 obtain ⟨its,rv,ht,hz⟩:=I.tuple hq
 refine assign_Tuple_tuple (I.ok.hd hc) ht (by simp [hn,← hl,rv.length]) hst fun h' hx=>?_
 have I1:Inv X pins σ H { s with heap:=h' }:=I.kept (t':=s.toks) fun b o e=>hx b o (Nat.ne_of_lt (Heap.lt_size e)) e
 exact h pins _ σ H xs _ Q I1 (by simpa using rv) hw
def gSub (to ti:TE) (t:TSet):TG:=fun v σ H Q=>to σ H fun o H1=>ti σ H1 fun i H2=>t o i v H2 fun H3=>Q σ H3
theorem anU {o i:Expr} {to ti:TE} {t:TSet} (ho:PE X o to) (hi:PE X i ti) (hs:PSet X t)
  (ha:∀ v,assign (.Subscript o i pos) X.env v=(do
   let ov ← holding [v] (eval o X.env)
   let iv ← holding [v,ov] (eval i X.env)
   standAt pos
   holding [v,ov,iv] (setItem ov iv v)
   release [v,ov,iv] []):=by intro _; rfl):PG X (.Subscript o i pos) (gSub to ti t):=by
 intro pins s σ H v u Q I r h
 rw [ha]
 refine wpAny_bind (wpAny_holding (thn (ho pins s σ H _ I h) fun ov s1 ⟨x,H1,I1,r1,q1⟩=>?_))
 refine wpAny_bind (wpAny_holding (thn (hi pins s1 σ H1 _ I1 q1) fun iv s2 ⟨y,H2,I2,r2,q2⟩=>?_))
 refine wpAny_bind (wpAny_standAt (wpAny_bind (wpAny_holding (thn (hs pins s2 σ H2 x y v ov iv u _ I2 r1 r2 r q2) fun _ s3 ⟨H3,I3,q3⟩=>?_))))
 exact wpAny_release ⟨σ,H3,I3,q3⟩
def tAsg (te:TE) (g:TG):TS:=fun D σ H=>te σ H fun x H1=>g x σ H1 D.nx
theorem amC {tg e:Expr} {te:TE} {g:TG} (he:PE X e te) (hg:PG X tg g) (hs:swapsWithSole [tg] e pos.line X.env=pure false:=by rfl) (hw:swappedStores [tg] e X.env=pure none:=by rfl)
  (h1:(assignEach [tg] X.env).map (·.2)=[assign tg X.env]:=by rfl):PS X (.Assign [tg] e pos) (tAsg te g):=by
 intro pins s σ H D I h
 refine wpAny_Assign_stores (thn (he pins s σ H _ I h) fun v s1 ⟨x,H1,I1,r1,q1⟩=>?_) hs hw
 rw [h1]
 exact thn (hg pins s1 σ H1 x v _ I1 r1 q1) fun _ s2 q=>q
theorem alc {i:Nat} {x:Str} {e:Expr} {te:TE} {pos':Pos} (hN:X.N.Nodup) (hi:X.N[i]?=some x) (hx:Loc X.env.scope x) (he:PE X e te) (hs:swapsWith e (some (.Name x pos')) pos.line X.env=pure false:=by rfl) (hf:X.fn x=true∨X.env.scope.names.lookup x=some .local:=by first | exact .inl rfl | exact .inr rfl | assumption) :
  PS X (.Assign [.Name x pos'] e pos) (tAsg te (alY i)):=by
 intro pins s σ H D I h
 refine wpAny_Assign_Name (thn (he pins s σ H _ I h) fun v s1 ⟨y,H1,I1,r1,q1⟩=>?_) hs
 exact acH I1 hN hi hx r1 (fun s2 I2=>⟨_,H1,I2,q1⟩) hf
def tPar (i j:Nat) (ta:TA):TS:=fun D σ H=>ta σ H fun vs H1=>∃ v w,vs=[v,w]∧D.nx ((σ.set i (some v)).set j (some w)) H1
theorem anQ {i j:Nat} {x y:Str} {a b:Expr} {ta:TA} {px py pt:Pos} {kt k2 pt2} (hc:X.calm=true) (hN:X.N.Nodup) (hi:X.N[i]?=some x) (hj:X.N[j]?=some y) (hij:i≠j)
  (hx:X.env.scope.names.lookup x=some .local) (hy:X.env.scope.names.lookup y=some .local) (ha:PA X [a,b] ta)
  (hw:swappedStores [.Tuple [.Name x px,.Name y py] kt pt] (.Tuple [a,b] k2 pt2) X.env=pure (some [x,y]))
  (hs:swapsWithSole [.Tuple [.Name x px,.Name y py] kt pt] (.Tuple [a,b] k2 pt2) pos.line X.env=pure false:=by rfl) :
  PS X (.Assign [.Tuple [.Name x px,.Name y py] kt pt] (.Tuple [a,b] k2 pt2) pos) (tPar i j ta):=by
 intro pins s σ H D I h
 rw [exec_Assign_arm]
 refine wpAny_bind (wpAny_standAt ?_)
 rw [hs]
 refine wpAny_bind (wpAny_pure ?_)
 rw [if_neg (by decide)]
 refine wpAny_bind (Tuple_ (thn (ha _ pins s σ H _ I h) fun us s1 ⟨vs,H1,I1,r1,q1⟩=>?_))
 obtain ⟨v,w,e1,q1⟩:=q1
 subst e1
 obtain ⟨u1,u2,rfl,rv,rw'⟩:∃ u1 u2,us=[u1,u2]∧RelV v u1∧RelV w u2:=by
  cases r1 with
  | cons p q =>
   cases q with
   | cons p' q' =>
    cases q'
    exact ⟨_,_,rfl,p,p'⟩
 refine wpAny_newObj_type ?_ (by show 2≤sizeLine; decide)
 have I2:Inv X pins σ H1 { s1 with heap:=s1.heap.push { cls:=.type "tuple",data:=.seq [u1,u2].toArray } }:=I1.kept (t':=s1.toks) fun b o e=>Heap.get?_push_of_some _ e
 rw [hw]
 refine wpAny_bind (wpAny_pure ?_)
 show wpAny (model X.prog X.w) X.A (do rule "assign.swapped-stores"; let items ← unpackItems (.ref s1.heap.objs.size) 2 none; assignInOrder [fun v=>bindName X.env y v,fun v=>bindName X.env x v] items.reverse; pure Flow.next) _ _ _
 refine wpAny_bind (wpAny_rule (wpAny_bind (unpackItems_tuple (items:=#[u1,u2]) (I.ok.hd hc) (IsTup.new s1.heap _) fun h' hx'=>?_)))
 have I3:=I2.kept (h':=h') (t':=s1.toks) fun b o e=>hx' b o (Nat.ne_of_lt (Heap.lt_size e)) e
 show wpAny _ _ (assignInOrder [fun v=>bindName X.env y v,fun v=>bindName X.env x v] [u2,u1] >>= fun _=>pure Flow.next) _ _ _
 refine wpAny_bind (assignInOrder_cons (wpAny_bindName (acH I3 hN hj (.inl hy) rw' (fun s2 I4=>?_) (.inr hy))))
 refine assignInOrder_cons (wpAny_bindName (acH I4 hN hi (.inl hx) rv (fun s3 I5=>assignInOrder_nil (wpAny_pure ?_)) (.inr hx)))
 rw [List.set_comm _ _ (Ne.symm hij)] at I5
 exact ⟨_,H1,I5,q1⟩
end
section
variable {X:Cx} {pos:Pos}
def ane (c:TT) (tb:TS):TS:=fun D σ H=>∃ W:Nat→St→Hp→Prop,(∃ m,W m σ H)∧∀ m σ H,W m σ H →
 c σ H fun b H1=>if b=true then ∃ N:St→Hp→Prop,(∀ σ' H',N σ' H'→∃ m',m' < m∧W m' σ' H')∧tb { D with nx:=N,ct:=N,bk:=D.nx } σ H1 else D.nx σ H1
theorem akt {c:Expr} {body:List Stmt} {tc:TT} {tb:TS} (hp:PassesOwn (model X.prog X.w) X.A X.env X.xe) (hc:PT X c tc) (hb:PSs X body tb):PS X (.While c body [] pos) (ane tc tb):=by
 intro pins s σ H D I h
 obtain ⟨W,⟨m0,w0⟩,turn⟩:=h
 refine wpAny_While (codeAny_whileLoop (fun n s'=>∃ σ' H',Inv X pins σ' H' s'∧W n σ' H') ?_ m0 ⟨σ,H,I,w0⟩)
 rintro n s1 ⟨σ1,H1,I1,w1⟩
 refine wpAny_passesOwn hp (thn (hc pins s1 σ1 H1 _ I1 (turn n σ1 H1 w1)) fun b s2 ⟨H2,I2,q2⟩=>?_)
 cases b with
 | true =>
  obtain ⟨N,hN,q2⟩:=q2
  rw [if_pos rfl]
  refine wpAny_passesOwn hp (thn (hb pins s2 σ1 H2 _ I2 q2) fun f s3 q3=>?_)
  cases f with
  | next =>
   obtain ⟨σ3,H3,I3,n3⟩:=q3
   obtain ⟨m',hm,w3⟩:=hN σ3 H3 n3
   exact ⟨m',hm,σ3,H3,I3,w3⟩
  | cont =>
   obtain ⟨σ3,H3,I3,n3⟩:=q3
   obtain ⟨m',hm,w3⟩:=hN σ3 H3 n3
   exact ⟨m',hm,σ3,H3,I3,w3⟩
  | brk=>exact q3
  | ret v=>exact q3
 | false =>
  rw [if_neg Bool.false_ne_true]
  exact wpAny_execs_nil ⟨σ1,H2,I2,q2⟩
end
structure It where
 go:Nat→Hp→Prop
 yld:Nat→Hp→V→Hp→Prop
 stop:Nat→Hp→Prop
def FpOk (X:Cx) (pins:List (Addr × Obj)) (H:Hp) (b:Addr):Prop :=
 H b=none∧b≠X.env.locals∧b ∉ X.fs∧(b∈X.ex∨X.s₀.heap.objs.size≤b)∧(∀ x c,X.env.cells.lookup x=some c→c≠b)∧∀ p∈X.pn++pins,p.1≠b
theorem Inv.fpOk {X:Cx} {pins:List (Addr × Obj)} {σ:St} {H H':Hp} {s:Shared} {b:Addr} (I:Inv X pins σ H s) (hb:s.heap.objs.size≤b) (hn:H' b=none):FpOk X pins H' b:=by
 refine ⟨hn,Nat.ne_of_gt (Nat.lt_of_lt_of_le I.lt hb),I.nofs hb,.inr (Nat.le_trans I.sz hb),fun x c e z=>?_,fun p hp z=>?_⟩
 ·obtain ⟨v,q⟩:=I.cell x c e
  exact absurd (Nat.lt_of_lt_of_le q.lt (by rw [z]; exact hb)) (Nat.lt_irrefl _)
 ·exact absurd (Nat.lt_of_lt_of_le (Heap.lt_size (I.pin p hp).1) (by rw [z]; exact hb)) (Nat.lt_irrefl _)
structure Turn (P:Program) (w:World) (K:PySem.W.Frag) (tg:Expr) (J:It) (fp:List Addr) (it:Addr) (tn:Nat→Heap→Prop):Prop where
 mem:it∈fp
 obj:∀ i h,tn i h→∀ b∈fp,∃ o,h.get? b=some o∧∀ v,o.data≠.cell v
 keep:∀ i h h',tn i h→(∀ b∈fp,∀ o,h.get? b=some o→h'.get? b=some o)→tn i h'
 item:∀ (X:Cx),X.prog=P→X.w=w→X.K=K→X.calm=true→∀ (i:Nat) (pins:List (Addr × Obj)) (s:Shared) (σ:St) (H:Hp) (E:Value→Shared→Prop),Inv X pins σ H s→(∀ b∈fp,FpOk X pins H b)→tn i s.heap→J.go i H →
  wpAny (model P w) X.A (pyNext (.ref it)) (fun r s1=>∃ u,r=some u ∧
   wpAny (model P w) X.A (letOwnedTupleGo tg (.ref it) u) (fun _ s2=>∃ x H',Inv X pins σ H' s2∧RelV x u∧J.yld i H x H'∧tn (i+1) s2.heap∧∀ b∈fp,H' b=none) E s1) E s
 done:∀ (X:Cx),X.prog=P→X.w=w→X.K=K→X.calm=true→∀ (i:Nat) (pins:List (Addr × Obj)) (s:Shared) (σ:St) (H:Hp) (E:Value→Shared→Prop),Inv X pins σ H s→(∀ b∈fp,FpOk X pins H b)→tn i s.heap→J.stop i H →
  wpAny (model P w) X.A (pyNext (.ref it)) (fun r s1=>r=none∧Inv X pins σ H s1) E s
 self:∀ (A:Around) (i:Nat) (s:Shared) (Q:Value→Shared→Prop) (E:Value→Shared→Prop),tn i s.heap→Q (.ref it) s→wpAny (model P w) A (pyIter (.ref it)) Q E s
abbrev TI:=St→Hp→(It→Hp→Prop)→Prop
def PIE (X:Cx) (pins:List (Addr × Obj)) (σ:St) (tg:Expr) (R:It→Hp→Prop) (itv:Value) (s2:Shared):Prop :=
 ∃ (it:Addr) (fp:List Addr) (tn:Nat→Heap→Prop) (J:It) (H':Hp),itv=.ref it∧Inv X pins σ H' s2∧Turn X.prog X.w X.K tg J fp it tn∧tn 0 s2.heap∧(∀ b∈fp,FpOk X pins H' b)∧R J H'
def PI (X:Cx) (tg iter:Expr) (wi:TI):Prop :=
 ∀ (pins:List (Addr × Obj)) (s:Shared) (σ:St) (H:Hp) (R:It→Hp→Prop),Inv X pins σ H s→wi σ H R →
  wpAny (model X.prog X.w) X.A (eval iter X.env) (fun v s1=>wpAny (model X.prog X.w) X.A (pyIter v) (PIE X pins σ tg R) X.xe s1) X.xe s
theorem alh {M : Model} {A : Around} {E : Value → Shared → Prop} {s : Shared} {tg : Expr} {it : Addr} {u : Value} {o : Obj} {n : String} {vs : Array Value} {Q : Unit → Shared → Prop} (ho : s.heap.get? it = some o) (hc : o.cls = .type n) (hd : o.data = .fields vs)
    (hn : ["enumerate", "zip", "dict_itemiterator", "dict_reverseitemiterator", "odict_iterator", "itertools.zip_longest", "itertools.pairwise"].contains n = false) (hQ : Q () s) : wpAny M A (letOwnedTupleGo tg (.ref it) u) Q E s := by
  unfold letOwnedTupleGo
  cases tg <;> first
    | exact wpAny_pure hQ
    | (cases u <;> first
        | exact wpAny_pure hQ
        | (refine wpAny_bind (wpAny_load ho ?_)
           rw [hc, hd]
           show wpAny M A (if (["enumerate", "zip", "dict_itemiterator", "dict_reverseitemiterator", "odict_iterator", "itertools.zip_longest", "itertools.pairwise"].contains n && vs[0]? == some (rawInt _)) = true then _ else _) Q E s
           rw [if_neg (by intro h; rw [hn, Bool.false_and] at h; cases h)]
           exact wpAny_pure hQ))
def Itl (K:PySem.W.Frag) (a:Addr):It :=
 ⟨fun i H=>∃ xs x,SqL K H a xs∧xs[i]?=some x,fun i H x H'=>H'=H∧∀ xs,SqL K H a xs→xs[i]?=some x,fun i H=>∃ xs,SqL K H a xs∧xs.length≤i⟩
def Itt (K:PySem.W.Frag) (a:Addr):It :=
 ⟨fun i H=>∃ xs x,SqT K H a xs∧xs[i]?=some x,fun i H x H'=>H'=H∧∀ xs,SqT K H a xs→xs[i]?=some x,fun i H=>∃ xs,SqT K H a xs∧xs.length≤i⟩
def Itr (lo:Int) (n:Nat):It:=⟨fun i _=>i < n,fun i H x H'=>H'=H∧x=.int (lo+i),fun i _=>n≤i⟩
theorem aiM {P:Program} {w:World} {K:PySem.W.Frag} {tg:Expr} (a it:Addr):Turn P w K tg (Itl K a) [it] it (fun i h=>h.IsListIter it a i) where
 mem:=by simp
 obj:=fun i h st b hb=>by
  have e:b=it:=by simpa using hb
  subst e
  obtain ⟨o,e,c,d⟩:=st
  exact ⟨o,e,fun v z=>by rw [d] at z; cases z⟩
 keep:=fun i h h' st k=>st.at fun o e=>k it (by simp) o e
 item:=by
  intro X hP hw hK hc i pins s σ H E I hf st hg
  subst hP hw hK
  obtain ⟨xs,x,hq,hx⟩:=hg
  obtain ⟨its,rv,p,hz⟩:=I.list hq
  obtain ⟨u,hu,ru⟩:=rv.get hx
  obtain ⟨f0,f1,f2,f3,f4,f5⟩:=hf it (by simp)
  refine wpAny_pyNext_list_item st p.isList (x:=u) (by simpa using hu) fun h' st' sb=>?_
  have I1:Inv X pins σ H { s with heap:=h' }:=I.turned (t':=s.toks) (fun b o hb e=>(sb.2 b hb).trans e) f0 f1 f3 f4 f5
  obtain ⟨o,e,c,d⟩:=id st'
  exact ⟨u,rfl,alh (s:={ s with heap:=h' }) e c d (by decide) ⟨x,H,I1,ru,⟨rfl,fun ys hy=>by rw [I.list_inj hy hq]; exact hx⟩,st',fun b hb=>(hf b hb).1⟩⟩
 done:=by
  intro X hP hw hK hc i pins s σ H E I hf st hg
  subst hP hw hK
  obtain ⟨xs,hq,hx⟩:=hg
  obtain ⟨its,rv,p,hz⟩:=I.list hq
  obtain ⟨f0,f1,f2,f3,f4,f5⟩:=hf it (by simp)
  have hl:=rv.length
  exact wpAny_pyNext_list_end (I.ok.hd hc) st p.isList (by simp; omega) fun h' eb=>⟨rfl,I.turned (t':=s.toks) (fun b o hb e=>eb b o hb e) f0 f1 f3 f4 f5⟩
 self:=fun _ _ _ _ _ st h=>wpAny_pyIter_listiter st h
theorem ahQ {P:Program} {w:World} {K:PySem.W.Frag} {tg:Expr} (a it:Addr):Turn P w K tg (Itt K a) [it] it (fun i h=>h.IsTupleIter it a i) where
 mem:=by simp
 obj:=fun i h st b hb=>by
  have e:b=it:=by simpa using hb
  subst e
  obtain ⟨o,e,c,d⟩:=st
  exact ⟨o,e,fun v z=>by rw [d] at z; cases z⟩
 keep:=fun i h h' st k=>st.at fun o e=>k it (by simp) o e
 item:=by
  intro X hP hw hK hc i pins s σ H E I hf st hg
  subst hP hw hK
  obtain ⟨xs,x,hq,hx⟩:=hg
  obtain ⟨its,rv,p,hz⟩:=I.tuple hq
  obtain ⟨u,hu,ru⟩:=rv.get hx
  obtain ⟨f0,f1,f2,f3,f4,f5⟩:=hf it (by simp)
  refine wpAny_pyNext_tuple_item st (show s.heap.IsTuple a its.toArray from p) (x:=u) (by simpa using hu) fun h' st' sb=>?_
  have I1:Inv X pins σ H { s with heap:=h' }:=I.turned (t':=s.toks) (fun b o hb e=>(sb.2 b hb).trans e) f0 f1 f3 f4 f5
  obtain ⟨o,e,c,d⟩:=id st'
  exact ⟨u,rfl,alh (s:={ s with heap:=h' }) e c d (by decide) ⟨x,H,I1,ru,⟨rfl,fun ys hy=>by rw [I.tuple_inj hy hq]; exact hx⟩,st',fun b hb=>(hf b hb).1⟩⟩
 done:=by
  intro X hP hw hK hc i pins s σ H E I hf st hg
  subst hP hw hK
  obtain ⟨xs,hq,hx⟩:=hg
  obtain ⟨its,rv,p,hz⟩:=I.tuple hq
  obtain ⟨f0,f1,f2,f3,f4,f5⟩:=hf it (by simp)
  have hl:=rv.length
  exact wpAny_pyNext_tuple_end (I.ok.hd hc) st (show s.heap.IsTuple a its.toArray from p) (by simp; omega) fun h' eb=>⟨rfl,I.turned (t':=s.toks) (fun b o hb e=>eb b o hb e) f0 f1 f3 f4 f5⟩
 self:=fun _ _ _ _ _ st h=>wpAny_pyIter_tupleiter st h
theorem ahU {P:Program} {w:World} {K:PySem.W.Frag} {tg:Expr} (it:Addr) (lo:Int) (n:Nat):Turn P w K tg (Itr lo n) [it] it (fun i h=>IsRangeIter h it (lo+(i:Nat)*1) ((n:Int) - (i:Nat)) 1) where
 mem:=by simp
 obj:=fun i h st b hb=>by
  have e:b=it:=by simpa using hb
  subst e
  exact ⟨_,st,fun v z=>by
   have z':Data.fields _=Data.cell v:=z
   cases z'⟩
 keep:=fun i h h' st k=>k it (by simp) _ st
 item:=by
  intro X hP hw hK hc i pins s σ H E I hf st hg
  subst hP hw hK
  obtain ⟨f0,f1,f2,f3,f4,f5⟩:=hf it (by simp)
  have W:=Walks.range (prog:=X.prog) (w:=X.w) (I.ok.hd hc) it lo 1 n
  refine W.item i s _ _ hg st fun v h' tk hv st' kk=>?_
  obtain ⟨t,rfl⟩:=hv
  have I1:Inv X pins σ H { s with heap:=h',toks:=tk }:=I.turned (fun b o hb e=>kk b o (by simpa using hb) e) f0 f1 f3 f4 f5
  refine ⟨_,rfl,alh (s:={ s with heap:=h',toks:=tk }) (n:="range_iterator") st' rfl rfl (by decide) ⟨.int (lo+i),H,I1,⟨t,?_⟩,⟨rfl,rfl⟩,st',fun b hb=>(hf b hb).1⟩⟩
  rw [Int.mul_one]
 done:=by
  intro X hP hw hK hc i pins s σ H E I hf st hg
  subst hP hw hK
  obtain ⟨f0,f1,f2,f3,f4,f5⟩:=hf it (by simp)
  exact wpAny_pyNext_range_end (I.ok.hd hc) st (by have:n≤i:=hg; omega) fun h' eb=>⟨rfl,I.turned (t':=s.toks) (fun b o hb e=>eb b o hb e) f0 f1 f3 f4 f5⟩
 self:=fun _ _ _ _ _ st h=>wpAny_pyIter_rangeiter st h
end L2
namespace L2
open PySem PySem.Spec PyProof.Rows
section
variable {X:Cx} {tg:Expr}
theorem akz {pins:List (Addr × Obj)} {σ:St} {H:Hp} {s:Shared} {R:It→Hp→Prop} {E:Value→Shared→Prop} {lo hi:Int} {t u v:Tok} {tk:Nat} (I:Inv X pins σ H s) (h1:-(2 ^ 62)≤lo) (h2:lo < 2 ^ 62) (h3:-(2 ^ 62)≤hi) (h4:hi < 2 ^ 62)
  (q:R (Itr lo (hi - lo).toNat) H):wpAny (model X.prog X.w) X.A (pyIter (.ref s.heap.objs.size)) (PIE X pins σ tg R) E { s with heap:=s.heap.push { cls:=.type "range",data:=.fields #[.int lo t,.int hi u,.int 1 v] },toks:=tk }:=by
 refine wpAny_pyIter_range (IsRange.new ..) (small_one h1 h2 h3 h4) ?_
 have I1:Inv X pins σ H { s with heap:=s.heap.push { cls:=.type "range",data:=.fields #[.int lo t,.int hi u,.int 1 v] },toks:=tk }:=I.kept fun b o e=>Heap.get?_push_of_some _ e
 refine ⟨(s.heap.push { cls:=.type "range",data:=.fields #[.int lo t,.int hi u,.int 1 v] }).objs.size,[(s.heap.push { cls:=.type "range",data:=.fields #[.int lo t,.int hi u,.int 1 v] }).objs.size],_,_,H,rfl,
  I1.kept (t':=tk) fun b o e=>Heap.get?_push_of_some _ e,ahU _ lo (hi - lo).toNat,?_,fun b hb=>?_,q⟩
 ·have e1:lo+((0:Nat):Int)*1=lo:=by simp
  have e2:(((hi - lo).toNat:Nat):Int) - ((0:Nat):Int)=Builtin.Range.rangeSize lo hi 1:=by rw [rangeSize_one]; split <;> omega
  show IsRangeIter _ _ (lo+((0:Nat):Int)*1) ((((hi - lo).toNat:Nat):Int) - ((0:Nat):Int)) 1
  rw [e1,e2]
  exact Heap.get?_push_size _ rfl
 ·have e:b=(s.heap.push { cls:=.type "range",data:=.fields #[.int lo t,.int hi u,.int 1 v] }).objs.size:=by simpa using hb
  subst e
  exact I1.fpOk (Nat.le_refl _) (I1.hok.fresh (Nat.le_refl _))
def aoC (ta:TA):TI:=fun σ H R=>ta σ H fun vs H1=>∃ j:Int,vs=[.int j]∧-(2 ^ 62)≤j∧j < 2 ^ 62∧R (Itr 0 j.toNat) H1
theorem ajJ {a:Expr} {ta:TA} {p pos:Pos} (hg:Gl X "range") (hm:X.mg "range"=none) (ha:PA X [a] ta) (hs:starEach [a] X.env=[(false,eval a X.env)]:=by rfl):PI X tg (.Call (.Name "range" p) [a] [] pos) (aoC ta):=by
 intro pins s σ H R I h
 refine Call_ (afh I hg hm boot_range (PyProof.Rows.callWith_type1 (thn (ha pos pins s σ H _ I h) fun us s1 ⟨vs,H1,I1,r1,q1⟩=>?_) hs rfl))
 obtain ⟨j,e,q1,q2,q⟩:=q1
 subst e
 cases r1 with
 | cons r rr =>
  cases rr
  obtain ⟨t,rfl⟩:=r
  exact call_range_1 (akz I1 (by omega) (by omega) q1 q2 (by simpa using q))
def tFor (wi:TI) (g:TG) (tb:TS):TS:=fun D σ H=>wi σ H fun J H1=>∃ W:Nat→Nat→St→Hp→Prop,(∃ m,W 0 m σ H1)∧∀ i m σ H,W i m σ H →
 (J.stop i H∧D.nx σ H)∨(J.go i H∧∃ N:St→Hp→Prop,(∀ σ' H',N σ' H'→∃ m',m' < m∧W (i+1) m' σ' H')∧∀ x H',J.yld i H x H'→g x σ H' fun σ2 H2=>tb { D with nx:=N,ct:=N,bk:=D.nx } σ2 H2)
def ahw (fp:List Addr) (h:Heap):List (Addr × Obj):=fp.filterMap fun b=>(h.get? b).map fun o=>(b,o)
theorem ab9 {fp:List Addr} {h:Heap} {b:Addr} {o:Obj} (hb:b∈fp) (e:h.get? b=some o):(b,o)∈ahw fp h:=List.mem_filterMap.mpr ⟨b,hb,by rw [e]; rfl⟩
theorem aju {fp:List Addr} {h:Heap} {p:Addr × Obj} (hp:p∈ahw fp h):p.1∈fp∧h.get? p.1=some p.2:=by
 obtain ⟨b,hb,e⟩:=List.mem_filterMap.mp hp
 cases q:h.get? b with
 | none=>rw [q] at e; cases e
 | some o =>
  rw [q] at e
  have e':(b,o)=p:=Option.some.inj e
  subst e'
  exact ⟨hb,q⟩
theorem Inv.pinned {pins:List (Addr × Obj)} {σ:St} {H:Hp} {s:Shared} {fp:List Addr} (I:Inv X pins σ H s) (hf:∀ b∈fp,FpOk X pins H b) (ho:∀ b∈fp,∃ o,s.heap.get? b=some o∧∀ v,o.data≠.cell v):Inv X (pins++ahw fp s.heap) σ H s :=
 I.pins_of fun p hp=>(List.mem_append.mp hp).elim (fun z=>I.pin p (List.mem_append_right _ z)) fun z=>by
  obtain ⟨hb,e⟩:=aju z
  obtain ⟨f0,f1,f2,_⟩:=hf p.1 hb
  obtain ⟨o,e',d⟩:=ho p.1 hb
  rw [e] at e'; cases e'
  exact ⟨e,f0,f1,f2,d⟩
theorem Inv.unpinned {pins pl:List (Addr × Obj)} {σ:St} {H:Hp} {s:Shared} (I:Inv X (pins++pl) σ H s):Inv X pins σ H s:=I.pins_of fun p hp=>I.pin p (List.mem_append_right _ (List.mem_append_left _ hp))
theorem am7 {iter:Expr} {body:List Stmt} {wi:TI} {g:TG} {tb:TS} {pos:Pos} (hp:PassesOwn (model X.prog X.w) X.A X.env X.xe) (hc:X.calm=true) (hi:PI X tg iter wi) (hg:PG X tg g) (hb:PSs X body tb)
  (hs:∀ x,foldedSetIterable iter X.env x=pure x:=by intro _; rfl):PS X (.For tg iter body [] pos) (tFor wi g tb):=by
 intro pins s σ H D I h
 refine wpAny_For (thn (hi pins s σ H _ I h) fun v s1 h1=>thn h1 fun itv s2 h2=>?_) hs
 obtain ⟨it,fp,tn,J,H2,e,I2,T,st2,f2,W,⟨m0,w0⟩,turn⟩:=h2
 subst e
 -- what stays true of the iterator's objects through the loop
 have stat:∀ {H':Hp},(∀ b∈fp,H' b=none)→∀ b∈fp,FpOk X pins H' b:=fun hn b hb=>⟨hn b hb,(f2 b hb).2⟩
 refine codeAny_forLoop_any (fun n s'=>∃ i σ' H',Inv X pins σ' H' s'∧tn i s'.heap∧(∀ b∈fp,H' b=none)∧W i n σ' H') ?_ m0 ⟨0,σ,H2,I2,st2,fun b hb=>(f2 b hb).1,w0⟩
 rintro n s3 ⟨i,σ3,H3,I3,st3,fr3,w3⟩
 rcases turn i n σ3 H3 w3 with ⟨stop,qn⟩ | ⟨go,N,hN,step⟩
 ·refine wpAny_passesOwn hp (thn (T.done X rfl rfl rfl hc i pins s3 σ3 H3 X.xe I3 (stat fr3) st3 stop) fun r s4 ⟨hr,I4⟩=>?_)
  subst hr
  exact wpAny_execs_nil ⟨σ3,H3,I4,qn⟩
 ·refine wpAny_passesOwn hp (thn (T.item X rfl rfl rfl hc i pins s3 σ3 H3 X.xe I3 (stat fr3) st3 go) fun r s4 ⟨u,hr,h4⟩=>?_)
  subst hr
  refine wpAny_passesOwn hp (thn h4 fun _ s5 ⟨x,H5,I5,r5,y5,st5,fr5⟩=>?_)
  have I5':=I5.pinned (stat fr5) (T.obj _ _ st5)
  refine wpAny_passesOwn hp (thn (hg _ s5 σ3 H5 x u _ I5' r5 (step x H5 y5)) fun _ s6 ⟨σ6,H6,I6,q6⟩=>?_)
  refine wpAny_passesOwn hp (thn (hb _ s6 σ6 H6 _ I6 q6) fun f s7 q7=>?_)
  have again:∀ {σ7:St} {H7:Hp},Inv X (pins++ahw fp s5.heap) σ7 H7 s7→N σ7 H7→∃ m,m < n∧∃ i σ' H',Inv X pins σ' H' s7∧tn i s7.heap∧(∀ b∈fp,H' b=none)∧W i m σ' H':=fun {σ7 H7} I7 n7=>by
   obtain ⟨m',hm,w7⟩:=hN σ7 H7 n7
   refine ⟨m',hm,i+1,σ7,H7,I7.unpinned,T.keep _ _ _ st5 fun b hb o e=>(I7.pin (b,o) (List.mem_append_right _ (List.mem_append_right _ (ab9 hb e)))).1,fun b hb=>?_,w7⟩
   obtain ⟨o,e,d⟩:=T.obj _ _ st5 b hb
   exact (I7.pin (b,o) (List.mem_append_right _ (List.mem_append_right _ (ab9 hb e)))).2.1
  cases f with
  | next=>obtain ⟨σ7,H7,I7,n7⟩:=q7; exact again I7 n7
  | cont=>obtain ⟨σ7,H7,I7,n7⟩:=q7; exact again I7 n7
  | brk=>obtain ⟨σ7,H7,I7,q7⟩:=q7; exact ⟨σ7,H7,I7.unpinned,q7⟩
  | ret v=>obtain ⟨x7,σ7,H7,I7,r7,q7⟩:=q7; exact ⟨x7,σ7,H7,I7.unpinned,r7,q7⟩
end
end L2
namespace L2
open PySem PySem.Spec PyProof.Rows
abbrev R2:=V→V→Hp→VK→Prop
def OpR (X:Cx) (f:Value→Value→Sem Value) (r:R2):Prop :=
 ∀ (pins:List (Addr × Obj)) (s:Shared) (σ:St) (H:Hp) (x y:V) (v u:Value) (Q:VK),Inv X pins σ H s→RelV x v→RelV y u→r x y H Q →
  wpAny (model X.prog X.w) X.A (f v u) (EP X pins σ Q) X.xe s
def UnR (X:Cx) (f:Value→Sem Value) (r:V→Hp→VK→Prop):Prop :=
 ∀ (pins:List (Addr × Obj)) (s:Shared) (σ:St) (H:Hp) (x:V) (v:Value) (Q:VK),Inv X pins σ H s→RelV x v→r x H Q →
  wpAny (model X.prog X.w) X.A (f v) (EP X pins σ Q) X.xe s
def adG (X:Cx) (f:Value) (r:List V→Hp→VK→Prop):Prop :=
 ∀ (pins:List (Addr × Obj)) (s:Shared) (σ:St) (H:Hp) (xs:List V) (us:List Value) (Q:VK),Inv X pins σ H s→Vals xs us→r xs H Q →
  wpAny (model X.prog X.w) X.A (call f us) (EP X pins σ Q) X.xe s
def tOp (r:R2) (ta tb:TE):TE:=fun σ H Q=>ta σ H fun x H1=>tb σ H1 fun y H2=>r x y H2 Q
def tUn (r:V→Hp→VK→Prop) (ta:TE):TE:=fun σ H Q=>ta σ H fun x H1=>r x H1 Q
def rI (C:Int→Int→Prop) (g:Int→Int→V):R2:=fun x y H Q=>∃ i j,x=.int i∧y=.int j∧C i j∧Q (g i j) H
def rI0 (g:Int→Int→V):R2:=fun x y H Q=>∃ i j,x=.int i∧y=.int j∧Q (g i j) H
def rU (g:Int→V):V→Hp→VK→Prop:=fun x H Q=>∃ i,x=.int i∧Q (g i) H
section
variable {X:Cx} {a b c:Expr} {ta tb tc:TE} {pos:Pos}
theorem binT (ha:PE X a ta) (hb:PE X b tb) {pins:List (Addr × Obj)} {s:Shared} {σ:St} {H:Hp} {R:V→V→Hp→Prop} (I:Inv X pins σ H s)
  (h:ta σ H fun x H1=>tb σ H1 fun y H2=>R x y H2) {Q:Value→Shared→Prop} {f:Value→Value→Sem Value}
  (hf:∀ v u s2 x y H2,Inv X pins σ H2 s2→RelV x v→RelV y u→R x y H2→wpAny (model X.prog X.w) X.A (f v u) Q X.xe s2) :
  wpAny (model X.prog X.w) X.A (eval a X.env) (fun v s₁=>wpAny (model X.prog X.w) X.A (eval b X.env) (fun u s₂=>wpAny (model X.prog X.w) X.A (f v u) Q X.xe s₂) X.xe s₁) X.xe s:=by
 refine thn (ha pins s σ H _ I h) fun v s1 ⟨x,H1,I1,r1,q1⟩=>?_
 refine thn (hb pins s1 σ H1 _ I1 q1) fun u s2 ⟨y,H2,I2,r2,q2⟩=>?_
 exact hf v u s2 x y H2 I2 r1 r2 q2
theorem aot {op:Operator} {r:R2} (ho:OpR X (binaryOp op) r) (ha:PE X a ta) (hb:PE X b tb):PE X (.BinOp a op b pos) (tOp r ta tb):=by
 intro pins s σ H Q I h
 exact wpAny_BinOp (binT ha hb I h fun v u s2 x y H2 I2 rx ry q=>ho pins s2 σ H2 x y v u Q I2 rx ry q)
theorem aoh {op:UnaryOp} {r:V→Hp→VK→Prop} (ho:UnR X (unaryOp op) r) (ha:PE X a ta):PE X (.UnaryOp op a pos) (tUn r ta):=by
 intro pins s σ H Q I h
 exact UnaryOp_ (thn (ha pins s σ H _ I h) fun v s1 ⟨x,H1,I1,r1,q1⟩=>ho pins s1 σ H1 x v Q I1 r1 q1)
theorem opI {f:Value→Value→Sem Value} {C:Int→Int→Prop} {g:Int→Int→Int}
  (rule:∀ (i j:Int) (t u:Tok) (s:Shared) (Q:Value→Shared→Prop) (E:Value→Shared→Prop),C i j→Q (.int (g i j) s.toks) { s with toks:=s.toks+1 }→wpAny (model X.prog X.w) X.A (f (.int i t) (.int j u)) Q E s) :
  OpR X f (rI C fun i j=>.int (g i j)):=by
 intro pins s σ H x y v u Q I rx ry h
 obtain ⟨i,j,rfl,rfl,hc,q⟩:=h
 obtain ⟨t,rfl⟩:=rx
 obtain ⟨t',rfl⟩:=ry
 exact rule i j t t' s _ _ hc ⟨.int (g i j),H,I.tok _,⟨_,rfl⟩,q⟩
theorem opI0 {f:Value→Value→Sem Value} {g:Int→Int→Int}
  (rule:∀ (i j:Int) (t u:Tok) (s:Shared) (Q:Value→Shared→Prop) (E:Value→Shared→Prop),Q (.int (g i j) s.toks) { s with toks:=s.toks+1 }→wpAny (model X.prog X.w) X.A (f (.int i t) (.int j u)) Q E s) :
  OpR X f (rI0 fun i j=>.int (g i j)):=by
 intro pins s σ H x y v u Q I rx ry h
 obtain ⟨i,j,rfl,rfl,q⟩:=h
 obtain ⟨t,rfl⟩:=rx
 obtain ⟨t',rfl⟩:=ry
 exact rule i j t t' s _ _ ⟨.int (g i j),H,I.tok _,⟨_,rfl⟩,q⟩
theorem opB0 {f:Value→Value→Sem Value} {g:Int→Int→Bool}
  (rule:∀ (i j:Int) (t u:Tok) (s:Shared) (Q:Value→Shared→Prop) (E:Value→Shared→Prop),Q (.bool (g i j)) s→wpAny (model X.prog X.w) X.A (f (.int i t) (.int j u)) Q E s) :
  OpR X f (rI0 fun i j=>.bl (g i j)):=by
 intro pins s σ H x y v u Q I rx ry h
 obtain ⟨i,j,rfl,rfl,q⟩:=h
 obtain ⟨t,rfl⟩:=rx
 obtain ⟨t',rfl⟩:=ry
 exact rule i j t t' s _ _ ⟨.bl (g i j),H,I,rfl,q⟩
def CPow (i j:Int):Prop:=0≤j∧j≤1000000∧i.natAbs < 2 ^ 64
def CMul (i j:Int):Prop:=(-(2 ^ 64) < i∧i < 2 ^ 64)∨(-(2 ^ 64) < j∧j < 2 ^ 64)
theorem CMul.ok {i j:Int} (h:CMul i j):IntMulOk i j:=by
 rcases h with ⟨h1,h2⟩ | ⟨h1,h2⟩
 ·exact .of_left (intBits_le_64 h1 h2)
 ·exact .of_right (intBits_le_64 h1 h2)
theorem anP:OpR X (binaryOp .Add) (rI0 fun i j=>.int (i+j)):=opI0 fun _ _ _ _ _ _ _ q=>add_int q
theorem abY:OpR X (binaryOp .Sub) (rI0 fun i j=>.int (i - j)):=opI0 fun _ _ _ _ _ _ _ q=>sub_int q
theorem acF:OpR X (binaryOp .Mod) (rI (fun _ j=>j≠0) fun i j=>.int (i.fmod j)):=opI fun _ _ _ _ _ _ _ hc q=>mod_int' hc q
theorem agz:OpR X (binaryOp .Pow) (rI CPow fun i j=>.int (i ^ j.toNat)):=opI fun _ _ _ _ _ _ _ hc q=>pow_int_small hc.1 hc.2.1 hc.2.2 q
theorem unI {f:Value→Sem Value} {g:Int→Int}
  (rule:∀ (i:Int) (t:Tok) (s:Shared) (Q:Value→Shared→Prop) (E:Value→Shared→Prop),Q (.int (g i) s.toks) { s with toks:=s.toks+1 }→wpAny (model X.prog X.w) X.A (f (.int i t)) Q E s) :
  UnR X f (rU fun i=>.int (g i)):=by
 intro pins s σ H x v Q I rx h
 obtain ⟨i,rfl,q⟩:=h
 obtain ⟨t,rfl⟩:=rx
 exact rule i t s _ _ ⟨.int (g i),H,I.tok _,⟨_,rfl⟩,q⟩
theorem aaS:UnR X (unaryOp .USub) (rU fun i=>.int (-i)):=unI fun _ _ _ _ _ q=>neg_int q
end
section
variable {X:Cx} {a b c:Expr} {ta tb tc:TE} {pos:Pos}
theorem akN:OpR X (compareOp .Lt) (rI0 fun i j=>.bl (decide (i < j))):=opB0 fun _ _ _ _ _ _ _ q=>lt_int q
theorem alJ:OpR X (compareOp .Gt) (rI0 fun i j=>.bl (decide (j < i))):=opB0 fun _ _ _ _ _ _ _ q=>gt_int q
theorem aog:OpR X (compareOp .GtE) (rI0 fun i j=>.bl (decide (j≤i))):=opB0 fun _ _ _ _ _ _ _ q=>ge_int q
theorem OpR.or {f:Value→Value→Sem Value} {r r':R2} (h:OpR X f r) (h':OpR X f r'):OpR X f (fun x y H Q=>r x y H Q∨r' x y H Q):=by
 intro pins s σ H x y v u Q I rx ry q
 rcases q with q | q
 ·exact h pins s σ H x y v u Q I rx ry q
 ·exact h' pins s σ H x y v u Q I rx ry q
theorem abb (b:Expr) {op:CmpOp} (h:op≠.In:=by decide) (h2:op≠.NotIn:=by decide):behindInMarks op b=false:=by
 have e1:(op == CmpOp.In)=false:=by cases op <;> first | rfl | exact absurd rfl h
 have e2:(op == CmpOp.NotIn)=false:=by cases op <;> first | rfl | exact absurd rfl h2
 cases b <;> simp [behindInMarks,e1,e2]
theorem alA {op:CmpOp} {r:R2} (ho:OpR X (compareOp op) r) (ha:PE X a ta) (hb:PE X b tb) (hm:behindInMarks op b=false):PE X (.Compare a [op] [b] pos) (tOp r ta tb):=by
 intro pins s σ H Q I h
 exact wpAny_Compare1 (binT ha hb I h fun v u s2 x y H2 I2 rx ry q=>ho pins s2 σ H2 x y v u Q I2 rx ry q) hm
def aob (t:TE):TT:=fun σ H Q=>t σ H fun x H'=>∃ k,x=.bl k∧Q k H'
theorem al6 {op:CmpOp} {r:R2} (ho:OpR X (compareOp op) r) (ha:PE X a ta) (hb:PE X b tb) (hm:behindInMarks op b=false):PT X (.Compare a [op] [b] pos) (aob (tOp r ta tb)):=by
 intro pins s σ H Q I h
 refine wpAny_isTrue_Compare1 (thn (ha pins s σ H _ I h) fun v s1 ⟨x,H1,I1,r1,q1⟩=>thn (hb pins s1 σ H1 _ I1 q1) fun u s2 ⟨y,H2,I2,r2,q2⟩ =>
  thn (ho pins s2 σ H2 x y v u _ I2 r1 r2 q2) fun c s3 ⟨z,H3,I3,r3,k,e,q3⟩=>?_) hm
 subst e
 cases r3
 exact wpAny_truthy_bool ⟨H3,I3,q3⟩
theorem agd:(sizeLine:Nat) < 2 ^ 63:=by rw [sizeLine_eq]; decide
theorem agc {x:V} {us:List Value} (r:Vals [x] us):∃ u,us=[u]∧RelV x u:=by
 cases r with
 | cons r1 r2=>cases r2; exact ⟨_,rfl,r1⟩
theorem alV {x y:V} {us:List Value} (r:Vals [x,y] us):∃ u w',us=[u,w']∧RelV x u∧RelV y w':=by
 cases r with
 | cons r1 r2 =>
  cases r2 with
  | cons r3 r4=>cases r4; exact ⟨_,_,rfl,r1,r3⟩
theorem afJ:adG X (.builtin "abs") (fun xs H Q=>∃ i,xs=[.int i]∧Q (.int (if i < 0 then -i else i)) H):=by
 intro pins s σ H xs us Q I r h
 obtain ⟨i,rfl,q⟩:=h
 obtain ⟨u,rfl,t,rfl⟩:=agc r
 exact call_abs_int fun u tk=>⟨.int (if i < 0 then -i else i),H,I.tok _,⟨_,rfl⟩,q⟩
end
end L2
namespace L2
open PySem PySem.Spec PyProof.Rows
structure ObjM (h:Heap) (x dx C:Addr) (mA:Str→Option Value):Prop where
 obj:h.get? x=some (PySem.W.instObj C dx)
 ns:h.Ns1 dx mA
 ne:dx≠x
theorem ai2 {h:Heap} {dx:Addr} {mA:Str→Option Value} (n:h.Ns1 dx mA):∃ od,h.get? dx=some od∧∀ name,PySem.W.lookIn name od=some (mA name):=by
 obtain ⟨o,es,ep,ho,hd,hk,_,hm⟩:=n
 refine ⟨o,ho,fun name=>?_⟩
 have e:=hm name
 unfold nsFind findBy at e
 rw [← Array.find?_toList] at e
 unfold PySem.W.lookIn
 rw [hd]
 dsimp only
 split
 ·rename_i y q
  rw [q] at e
  exact congrArg some e
 ·rename_i q
  rw [q] at e
  have a:es.toList.any (·.refKey)=false:=by
   rw [List.any_eq_false]
   intro y hy
   obtain ⟨z,t,hkey⟩:=hk y (Array.mem_toList_iff.mp hy)
   simp [DictEntry.refKey,hkey]
  have a':¬ es.toList.any (·.refKey)=true:=by rw [a]; exact Bool.false_ne_true
  rw [if_neg a']
  exact congrArg some e
theorem ObjM.look {h:Heap} {x dx C:Addr} {mA:Str→Option Value} (I:ObjM h x dx C mA):∃ od,PySem.W.InstAt h x (PySem.W.instObj C dx) C (some od)∧∀ name,PySem.W.lookIn name od=some (mA name) :=
 let ⟨od,ho,hl⟩:=ai2 I.ns
 ⟨od,⟨I.obj,rfl,rfl,ho⟩,hl⟩
section
variable {prog:Program} {w:World} {A:Around} {E:Value→Shared→Prop} {s:Shared} {K:PySem.W.Frag} {x dx C f:Addr} {mA:Str→Option Value} {name:Str} {v:Value}
end
section
variable {P:Program} {w:World} {H H':Hp} {h h':Heap} {a C dx:Addr} {fs fs':List (Str × V)}
theorem al1 (hok:HOk P w H h) (e:H a=some (.ins C dx fs)):∃ mA,ObjM h a dx C mA∧(∀ f,RelO (fs.lookup f) (mA f))∧PySem.Within mA (fs.map (·.1))∧fs.length≤1000∧H dx=some (.own a):=by
 obtain ⟨d,z,ne,ob,mA,n,r,q⟩:=(show ach P w H h a (.ins C dx fs) from hok a _ e)
 exact ⟨mA,⟨ob,n,ne⟩,r,q,z,d⟩
end
structure Cls (K:PySem.W.Frag) (C:Addr):Prop where
 pg:PySem.W.plainGet K C Str.empty=true
 hd:PySem.W.hasDictIn K C=true
 po:PySem.W.plainOver K C=true
 sa:PySem.W.findIn K (.ref C) "__setattr__"=some (some (.builtin "object.__setattr__"))
theorem Cls.get {K:PySem.W.Frag} {C:Addr} (c:Cls K C) (f:Str):PySem.W.plainGet K C f=true:=c.pg
section
variable {X:Cx} {pins:List (Addr × Obj)} {σ:St} {H:Hp} {s:Shared} {a C dx:Addr} {fs:List (Str × V)} {f:Str} {v:V} {A:Around} {E:Value→Shared→Prop}
theorem Inv.made (I:Inv X pins σ H s):Inv X pins σ (upd (upd H s.heap.objs.size (.own (s.heap.objs.size+1))) (s.heap.objs.size+1) (.ins C s.heap.objs.size []))
  { s with heap:=(s.heap.push PySem.W.emptyDict).push (PySem.W.instObj C s.heap.objs.size) }:=by
 have e1:(s.heap.push PySem.W.emptyDict).get? s.heap.objs.size=some PySem.W.emptyDict:=Heap.get?_push_size s.heap rfl
 have e2:((s.heap.push PySem.W.emptyDict).push (PySem.W.instObj C s.heap.objs.size)).get? (s.heap.objs.size+1)=some (PySem.W.instObj C s.heap.objs.size):=by
  have:=Heap.get?_push_size (s.heap.push PySem.W.emptyDict) (o:=PySem.W.instObj C s.heap.objs.size) rfl
  rwa [Heap.size_push] at this
 have e3:(s.heap.push PySem.W.emptyDict).Ns s.heap.objs.size (fun _=>none):=⟨PySem.W.emptyDict,#[],_,e1,rfl,(fun e he=>absurd he (by simp)),fun _=>rfl⟩
 have I1:=I.laid (a:=s.heap.objs.size) (o:=.own (s.heap.objs.size+1)) (h':=s.heap.push PySem.W.emptyDict) (t':=s.toks) (fun b u q=>Heap.get?_push_of_some _ q) (Nat.le_refl _) ⟨_,e1⟩
 refine I1.laid (a:=s.heap.objs.size+1) (o:=.ins C s.heap.objs.size []) (t':=s.toks) (fun b u q=>Heap.get?_push_of_some _ q) (Nat.le_of_eq (Heap.size_push _ _)) ?_
 have ne:s.heap.objs.size≠s.heap.objs.size+1:=Nat.ne_of_lt (Nat.lt_succ_self _)
 refine ⟨by rw [aaF ne,abl],Nat.zero_le _,ne,e2,fun _=>none,(Heap.Ns1.of_empty e3).at fun o q=>Heap.get?_push_of_some _ q,fun _=>True.intro,fun y hy=>absurd rfl hy⟩
end
section
variable {X:Cx} {o e value:Expr} {f:Str} {pos pos' tpos:Pos} {ta tv:TE}
end
section
variable {X:Cx} {pins:List (Addr × Obj)} {σ:St} {H:Hp} {s:Shared} {A:Around} {E:Value→Shared→Prop} {Q:Value→Shared→Prop} {c:Value} {b:Bool}
inductive TyOf (K:PySem.W.Frag) (H:Hp):V→Value→Prop where
 | non:TyOf K H .non (.type "NoneType")
 | bl (x:Bool):TyOf K H (.bl x) (.type "bool")
 | int (i:Int):TyOf K H (.int i) (.type "int")
 | str (x:Str):TyOf K H (.str x) (.type "str")
 | flt (x:UInt64):TyOf K H (.flt x) (.type "float")
 | lst {a:Addr} {xs:List V} (e:H a=some (.lst xs)):TyOf K H (.ref a) (.type "list")
 | frz {a:Addr} {o:Obj} {xs:List V} (e:H a=some (.frz o (.lst xs))):TyOf K H (.ref a) (.type "list")
 | tup {a:Addr} {xs:List V} (e:H a=some (.tup xs)):TyOf K H (.ref a) (.type "tuple")
 | dK {a:Addr} {kvs:List (Key × V)} (e:H a=some (.dK kvs)):TyOf K H (.ref a) (.type "dict")
 | dT {a:Addr} {kvs:List (List Key × V)} (e:H a=some (.dT kvs)):TyOf K H (.ref a) (.type "dict")
 | ins {a C dx:Addr} {fs:List (Str × V)} (e:H a=some (.ins C dx fs)) (cl:Cls K C) (ha:PySem.W.findIn K (.ref C) "__class__"=some (some (.builtin "object.__class__")))
   (hn:PySem.W.specialIn K (.builtin "object.__class__") "__get__"=some (some (.builtin "getset_descriptor.__get__"))) (htk:PySem.W.takesIn K (.builtin "object.__class__")=some true)
   (hm:PySem.W.mroIn K C (.type "object")=some true):TyOf K H (.ref a) (.ref C)
theorem aji {x:V} {u t:Value} (I:Inv X pins σ H s) (rx:RelV x u) (ty:TyOf X.K H x t) (e:PySem.W.kitOne X.K t c=some b) (h:∀ tk,Q (.bool b) { s with toks:=tk }) :
  wpAny (model X.prog X.w) A (call (.builtin "isinstance") [u,c]) Q E s:=by
 cases ty with
 | non=>cases (show u=Value.none from rx); exact PySem.W.kia_one PySem.W.kitx_none I.kIn True.intro e (fun z=>nomatch z) h
 | bl y=>cases (show u=Value.bool y from rx); exact PySem.W.kia_one PySem.W.kitx_bool I.kIn True.intro e (fun z=>nomatch z) h
 | int i=>obtain ⟨t,q⟩:=(show ∃ t,u=Value.int i t from rx); cases q; exact PySem.W.kia_one PySem.W.kitx_int I.kIn True.intro e (fun z=>nomatch z) h
 | str y=>obtain ⟨t,q⟩:=(show ∃ t,u=Value.str y t from rx); cases q; exact PySem.W.kia_one PySem.W.kitx_str I.kIn True.intro e (fun z=>nomatch z) h
 | flt y=>obtain ⟨t,q⟩:=(show ∃ t,u=Value.float y t from rx); cases q; exact PySem.W.kia_one PySem.W.kitx_float I.kIn True.intro e (fun z=>nomatch z) h
 | @lst a xs ea =>
  cases (show u=Value.ref a from rx)
  obtain ⟨_,_,n,_,h1⟩:=(show ach X.prog X.w H s.heap a (.lst xs) from I.hok a _ ea)
  exact PySem.W.kia_one PySem.W.kitx_list I.kIn ⟨_,h1,rfl⟩ e (fun z=>nomatch z) h
 | @frz a ob xs ea =>
  cases (show u=Value.ref a from rx)
  obtain ⟨_,_,_,n,_,h1⟩:=(show ach X.prog X.w H s.heap a (.frz ob (.lst xs)) from I.hok a _ ea)
  exact PySem.W.kia_one PySem.W.kitx_list I.kIn ⟨_,h1,rfl⟩ e (fun z=>nomatch z) h
 | @tup a xs ea =>
  cases (show u=Value.ref a from rx)
  obtain ⟨_,_,_,p⟩:=(show ach X.prog X.w H s.heap a (.tup xs) from I.hok a _ ea)
  obtain ⟨o,h1,h2,_⟩:=p
  exact PySem.W.kia_one PySem.W.kitx_tuple I.kIn ⟨o,h1,h2⟩ e (fun z=>nomatch z) h
 | @dK a kvs ea =>
  cases (show u=Value.ref a from rx)
  obtain ⟨_,_,vs,_,p⟩:=(show ach X.prog X.w H s.heap a (.dK kvs) from I.hok a _ ea)
  obtain ⟨o,es,ep,h1,h2,_⟩:=p
  exact PySem.W.kia_one PySem.W.kitx_dict I.kIn ⟨o,h1,h2.1⟩ e (fun z=>nomatch z) h
 | @dT a kvs ea =>
  cases (show u=Value.ref a from rx)
  obtain ⟨_,_,xs,_,o,es,ep,h1,h2,_⟩:=(show ach X.prog X.w H s.heap a (.dT kvs) from I.hok a _ ea)
  exact PySem.W.kia_one PySem.W.kitx_dict I.kIn ⟨o,h1,h2.1⟩ e (fun z=>nomatch z) h
 | @ins a C dx fs ea cl ha hn htk hm =>
  cases (show u=Value.ref a from rx)
  obtain ⟨mA,O,_⟩:=al1 I.hok ea
  obtain ⟨od,J,_⟩:=O.look
  exact PySem.W.kia_one (PySem.W.kitx_own (cl.get _) cl.hd ha hn htk hm) I.kIn J e (fun z=>nomatch z) h
end
end L2
namespace L2
open PySem PySem.Spec PyProof.Rows
structure Room (k:Nat) (A:Around):Prop where
 hd:A.handled=none
 dp:A.depth+3*k+5 < recursionLimit
 un:A.units+16*k+200 < cLine
theorem Room.mono {j k:Nat} {A:Around} (r:Room k A) (h:j≤k):Room j A:=⟨r.hd,by have:=r.dp; omega,by have:=r.un; omega⟩
theorem Room.deeper {k:Nat} {A:Around} (r:Room (k+1) A) (env:Env):Room k (A.deeper env) :=
 ⟨r.hd,by have:=r.dp; show A.depth+1+3*k+5 < _; omega,by have:=r.un; show A.units+3+16*k+200 < _; omega⟩
theorem Room.depth {k:Nat} {A:Around} (r:Room k A):A.depth < recursionLimit:=by have:=r.dp; omega
theorem Room.units {k:Nat} {A:Around} (r:Room k A):A.units+64 < cLine:=by have:=r.un; omega
def tNil:TA:=fun _ H Q=>Q [] H
def aop (ta:TE) (tr:TA):TA:=fun σ H Q=>ta σ H fun x H1=>tr σ H1 fun xs H2=>Q (x :: xs) H2
section
variable {X:Cx} {e:Expr} {es:List Expr} {te:TE} {t:TA} {pos:Pos}
theorem ahx:PA X [] tNil:=fun _ _ _ _ H Q I h=>Calls.spliced_nil ⟨[],H,I,.nil,h⟩
theorem adN (ha:PE X e te) (hr:PA X es t) (hs:starEach (e :: es) X.env=(false,eval e X.env) :: starEach es X.env:=by rfl):PA X (e :: es) (aop te t):=by
 intro pos pins s σ H Q I h
 rw [hs]
 show wpAny _ _ (spliced ((false,eval e X.env) :: backTo pos (starEach es X.env))) _ _ s
 refine Calls.spliced_cons (thn (ha pins s σ H _ I h) fun u s1 ⟨x,H1,I1,r1,q1⟩=>?_)
 exact thn (hr pos pins s1 σ H1 _ I1 q1) fun us s2 ⟨xs,H2,I2,r2,q2⟩=>⟨x :: xs,H2,I2,.cons r1 r2,q2⟩
def tLst (t:TA):TE:=fun σ H Q=>t σ H fun xs H1=>xs.length≤sizeLine∧∀ p,H1 p=none→Q (.ref p) (upd H1 p (.lst xs))
theorem ak9 (h:PA X es t):PE X (.List es pos) (tLst t):=by
 intro pins s σ H Q I hq
 refine wpAny_List_spliced (thn (h pos pins s σ H _ I hq) fun us s1 ⟨xs,H1,I1,r,z,q⟩=>⟨by rw [← r.length]; exact z,?_⟩)
 have hf:H1 s1.heap.objs.size=none:=I1.hok.fresh (Nat.le_refl _)
 refine ⟨.ref s1.heap.objs.size,upd H1 s1.heap.objs.size (.lst xs),I1.laid (t':=s1.toks) (fun b u e=>Heap.get?_push_of_some _ e) (Nat.le_refl _) ?_,rfl,q _ hf⟩
 exact ⟨z,us,0,r,Heap.get?_push_size _ rfl⟩
end
abbrev Sp:=List V→Hp→VK→XK→Prop
abbrev CXT:=List Env→Hp→Shared→XK→Value→Shared→Prop
structure Env0 (P:Program) (w:World) (K:PySem.W.Frag) (mg:Str→Option Value) (base:Heap) (A:Around) (outer:List Env) (s:Shared) (H:Hp):Prop where
 frames:A.frames=some outer
 mod:Mod K mg base
 bs:∀ b o,base.get? b=some o→s.heap.get? b=some o∧H b=none
 bsz:base.objs.size≤s.heap.objs.size
 funs:s.heap.FunFrames base outer
 frf:∀ b∈frs outer,H b=none
 hok:HOk P w H s.heap
 bare:AllBare s.gens
def CE (outer:List Env) (P:Program) (w:World) (H:Hp) (s:Shared) (Q:VK) (u:Value) (s':Shared):Prop :=
 ∃ v H',s'.os=s.os∧AllBare s'.gens∧Un (frs outer) [] H H' s.heap s'.heap∧HOk P w H' s'.heap∧RelV v u∧Q v H'
def CR (CX:CXT) (outer:List Env) (P:Program) (w:World) (H:Hp) (s:Shared) (Q:VK) (E:XK) (r:Result) (s':Shared):Prop :=
 match r with
 | .ok (.ret u)=>CE outer P w H s Q u s'
 | .ok _=>False
 | .error e=>CX outer H s E e s'
structure FnOk (P:Program) (w:World) (K:PySem.W.Frag) (mg:Str→Option Value) (base:Heap) (CX:CXT) (k:Nat) (f:Addr) (fd:FuncData) (ps:List Str) (sp:Sp):Prop where
 len:∀ vs H Q E,sp vs H Q E→vs.length=ps.length
 run:∀ (A:Around) (outer:List Env) (s:Shared) (H:Hp) (args:Args) (us:List Value) (vs:List V) (Q:VK) (E:XK),Room k A→Env0 P w K mg base A outer s H→BindsTo s fd args (ps.zip us)→Vals vs us→sp vs H Q E →
  codeAny (model P w) A (.call (.ref f) args) (CR CX outer P w H s Q E) s
theorem FnOk.mono {P:Program} {w:World} {K:PySem.W.Frag} {mg:Str→Option Value} {base:Heap} {CX:CXT} {j k:Nat} {f:Addr} {fd:FuncData} {ps:List Str} {sp:Sp} (F:FnOk P w K mg base CX j f fd ps sp) (h:j≤k) :
  FnOk P w K mg base CX k f fd ps sp:=⟨F.len,fun A outer s H args us vs Q E hr=>F.run A outer s H args us vs Q E (hr.mono h)⟩
theorem FnOk.imp {P:Program} {w:World} {K:PySem.W.Frag} {mg:Str→Option Value} {base:Heap} {CX:CXT} {k:Nat} {f:Addr} {fd:FuncData} {ps:List Str} {sp sp':Sp} (F:FnOk P w K mg base CX k f fd ps sp)
  (h:∀ vs H Q E,sp' vs H Q E→sp vs H Q E):FnOk P w K mg base CX k f fd ps sp' :=
 ⟨fun vs H Q E q=>F.len vs H Q E (h _ _ _ _ q),fun A outer s H args us vs Q E hr he hb hv hs=>F.run A outer s H args us vs Q E hr he hb hv (h _ _ _ _ hs)⟩
section
variable {X:Cx} {pins:List (Addr × Obj)} {σ:St} {H:Hp} {s s':Shared}
theorem Inv.env0 (I:Inv X pins σ H s):Env0 X.prog X.w X.K X.mg X.base X.A X.stack s H :=
 ⟨I.ok.frames,I.ok.mod,I.bs,Nat.le_trans I.ok.bsz I.sz,I.stack,I.stkFree,I.hok,I.bare⟩
theorem Inv.after {Q:VK} {u:Value} (I:Inv X pins σ H s) (h:CE X.stack X.prog X.w H s Q u s'):EP X pins σ Q u s':=by
 obtain ⟨v,H',os,bare,un,hok,r,q⟩:=h
 obtain ⟨hh,g,d,t,os'⟩:=s'
 obtain rfl:os'=s.os:=os
 exact ⟨v,H',I.call (h':=hh) (g':=g) (d':=d) (t':=t) (ch:=[]) un hok bare (fun b z=>absurd z (by simp)),r,q⟩
end
def aoe (sp:Sp) (dvs:List V) (E:XK) (t:TA):TE:=fun σ H Q=>t σ H fun vs H1=>sp (vs++dvs) H1 Q E
def acL (K:PySem.W.Frag) (fd:FuncData) (ps:List Str) (ds:List Value):Prop :=
 ∀ (s:Shared) (us:List Value),K.In s.heap→(us++ds).length=ps.length→BindsTo s fd ⟨us,[]⟩ (ps.zip (us++ds))
theorem acL.all {K:PySem.W.Frag} {fd:FuncData} {ps:List Str} (h:∀ us:List Value,us.length=ps.length→bindArgs fd ⟨us,[]⟩=pure (ps.zip us)):acL K fd ps []:=fun s us _ hl=>by
 rw [List.append_nil] at hl ⊢
 exact .of_eq (h us hl)
def adU (CX:CXT) (X:Cx) (E:XK):Prop:=∀ (pins:List (Addr × Obj)) (σ:St) (H:Hp) (s:Shared) (e:Value) (s':Shared),Inv X pins σ H s→CX X.stack H s E e s'→X.xe e s'
section
variable {X:Cx} {CX:CXT} {k:Nat} {f C:Addr} {fd:FuncData} {ps:List Str} {sp:Sp} {dvs:List V} {ds:List Value} {E:XK} {x m:Str} {p pos apos:Pos} {e o:Expr} {es:List Expr} {ta:TE} {t:TA}
theorem amK {pins:List (Addr × Obj)} {σ:St} {H:Hp} {s:Shared} {Q:VK} {us:List Value} {vs:List V} (F:FnOk X.prog X.w X.K X.mg X.base CX k f fd ps sp) (hr:Room k X.A) (hb:acL X.K fd ps ds) (hd:Vals dvs ds) (hx:adU CX X E)
  (I:Inv X pins σ H s) (r:Vals vs us) (h:sp (vs++dvs) H Q E):wpAny (model X.prog X.w) X.A (call (.ref f) us) (EP X pins σ Q) X.xe s:=by
 have r2:Vals (vs++dvs) (us++ds):=r.append hd
 have hl:(us++ds).length=ps.length:=by rw [← r2.length]; exact F.len _ _ _ _ h
 refine wpAny_call (codeAny_mono (F.run X.A X.stack s H ⟨us,[]⟩ (us++ds) (vs++dvs) Q E hr I.env0 (hb s us I.kIn hl) r2 h) fun r s' hq=>?_)
 cases r with
 | error e=>exact hx pins σ H s e s' I hq
 | ok fl =>
  cases fl with
  | ret u=>exact I.after hq
  | next=>exact False.elim hq
  | brk=>exact False.elim hq
  | cont=>exact False.elim hq
theorem afL (F:FnOk X.prog X.w X.K X.mg X.base CX k f fd ps sp) (hr:Room k X.A) (hg:Gl X x) (hm:X.mg x=some (.ref f)) (hk:PySem.W.keepIn X.K (.ref f)=true) (hb:acL X.K fd ps ds) (hd:Vals dvs ds) (hx:adU CX X E)
  (ha:PA X (e :: es) t) (hdb:(x == ("__debug__":Str))=false:=by decide) (he:starEach (e :: es) X.env=(false,eval e X.env) :: starEach es X.env:=by rfl) (hpl:(backTo pos (starEach es X.env)).any (·.1)=false:=by rfl) :
  PE X (.Call (.Name x p) (e :: es) [] pos) (aoe sp dvs E t):=by
 intro pins s σ H Q I h
 refine wpAny_Call_Name_kw (aer I hg hm ?_ hdb)
 refine PySem.W.callWith_K (h₀:=X.base) I.ok.mod.kin hk (thn (ha pos pins s σ H _ I h) fun us s1 ⟨vs,H1,I1,r,q⟩=>⟨I1.kIn,?_⟩) he hpl
 exact amK F hr hb hd hx I1 r q
end
section
variable {X:Cx} {CX:CXT} {k:Nat} {f C:Addr} {fd:FuncData} {ps ks:List Str} {sp:Sp} {E:XK} {x m:Str} {p pos apos kpos:Pos} {e o:Expr} {es:List Expr} {kws:List Keyword} {te ta:TE} {t tk:TA} {nm:Option Str}
variable {g:List Value→List Value→List Value} {gV:List V→List V→List V}
end
structure aaA (N P:List Str) (sc:Scope):Prop where
 kind:sc.kind=.function
 co:sc.isCoroutine=false
 gen:sc.isGenerator=false
 nd:N.Nodup
 pre:N.take P.length=P
 par:∀ x∈P,sc.names.lookup x=some .local∨sc.names.lookup x=some .cell
 nofree:∀ y∈sc.names,y.2≠.free
theorem afY {kindOf:Str→Option NameKind} {x:Str}:∀ {binds:List (Str × Value)} {m:Str→Option Value},(∀ v,(x,v) ∉ binds)→bindL kindOf binds m x=m x
 | [],_,_=>rfl
 | (n,v) :: r,m,h=>by
  unfold bindL
  rw [afY fun w hw=>h w (List.mem_cons_of_mem _ hw)]
  split
  ·have:x≠n:=by rintro rfl; exact h v List.mem_cons_self
   simp [this]
  ·rfl
theorem agi {kindOf:Str→Option NameKind} {x:Str}:∀ {binds:List (Str × Value)} {m:Str→Option Value},(∀ v,(x,v) ∉ binds)→bindC kindOf binds m x=m x
 | [],_,_=>rfl
 | (n,v) :: r,m,h=>by
  unfold bindC
  rw [agi fun w hw=>h w (List.mem_cons_of_mem _ hw)]
  split
  ·rfl
  ·have:x≠n:=by rintro rfl; exact h v List.mem_cons_self
   simp [this]
theorem afO {kindOf:Str→Option NameKind} {x:Str} {v:Value}:∀ {P:List Str} {vs:List Value} {i:Nat} {m:Str→Option Value},P.Nodup→P[i]?=some x→vs[i]?=some v→kindOf x=some .local →
  bindL kindOf (P.zip vs) m x=some v
 | [],_,_,_,_,h,_,_=>by simp at h
 | _ :: _,[],_,_,_,_,h,_=>by simp at h
 | p :: P,w :: vs,0,m,nd,h1,h2,hk=>by
  simp at h1 h2; subst h1; subst h2
  show bindL kindOf ((p,w) :: P.zip vs) m p=_
  unfold bindL
  rw [afY fun v hv=>(List.nodup_cons.mp nd).1 (List.of_mem_zip hv).1,if_pos hk]
  simp
 | p :: P,w :: vs,i+1,m,nd,h1,h2,hk=>by
  show bindL kindOf ((p,w) :: P.zip vs) m x=_
  unfold bindL
  exact afO (i:=i) (List.nodup_cons.mp nd).2 (by simpa using h1) (by simpa using h2) hk
theorem af5 {kindOf:Str→Option NameKind} {x:Str} {v:Value}:∀ {P:List Str} {vs:List Value} {i:Nat} {m:Str→Option Value},P.Nodup→P[i]?=some x→vs[i]?=some v→kindOf x≠some .local →
  bindC kindOf (P.zip vs) m x=some v
 | [],_,_,_,_,h,_,_=>by simp at h
 | _ :: _,[],_,_,_,_,h,_=>by simp at h
 | p :: P,w :: vs,0,m,nd,h1,h2,hk=>by
  simp at h1 h2; subst h1; subst h2
  show bindC kindOf ((p,w) :: P.zip vs) m p=_
  unfold bindC
  rw [agi fun v hv=>(List.nodup_cons.mp nd).1 (List.of_mem_zip hv).1,if_neg hk]
  simp
 | p :: P,w :: vs,i+1,m,nd,h1,h2,hk=>by
  show bindC kindOf ((p,w) :: P.zip vs) m x=_
  unfold bindC
  exact af5 (i:=i) (List.nodup_cons.mp nd).2 (by simpa using h1) (by simpa using h2) hk
def start (N:List Str) (vs:List V):St:=vs.map some++List.replicate (N.length - vs.length) none
def cxOf (CX:CXT) (P:Program) (w:World) (K:PySem.W.Frag) (mg:Str→Option Value) (base:Heap) (N:List Str) (qual:Str) (scope:Scope) (f:Addr) (cd:Value) (A:Around) (outer:List Env) (s:Shared) (H:Hp) (E:XK):Cx where
 prog:=P
 w:=w
 K:=K
 mg:=mg
 base:=base
 A:=A.deeper (envOfC qual scope s.heap.objs.size f cd)
 N:=N
 s₀:=s
 H₀:=H
 env:=envOfC qual scope s.heap.objs.size f cd
 outer:=outer
 stack:=envOfC qual scope s.heap.objs.size f cd :: outer
 ex:=[]
 calm:=true
 fn:=fun _=>true
 pn:=[]
 xe:=fun e s'=>wpAny (model P w) (A.deeper (envOfC qual scope s.heap.objs.size f cd)) (leaving (envOfC qual scope s.heap.objs.size f cd) e) (fun _ s''=>CX outer H s E e s'') (fun e' s''=>CX outer H s E e' s'') s'
theorem ahs {sc:Scope} {n:Nat} {x:Str} (h:sc.names.lookup x=some .cell):∃ c,(cellsFrom n sc.names []).lookup x=some c:=by
 have q:=PySem.W.cellsFrom_some sc.names n [] (.inl h)
 exact Option.isSome_iff_exists.mp q
theorem aiR {CX:CXT} {P:Program} {w:World} {K:PySem.W.Frag} {mg:Str→Option Value} {base:Heap} {N ps:List Str} {qual:Str} {scope:Scope} {f:Addr} {cd:Value} {A:Around} {outer:List Env} {s s1:Shared} {H:Hp} {E:XK} {us:List Value} {vs:List V}
  (S:aaA N ps scope) (hd:A.handled=none) (e0:Env0 P w K mg base A outer s H) (hl:vs.length=ps.length) (r:Vals vs us)
  (x:InCallC s s.heap.objs.size (bindL (envOfC qual scope s.heap.objs.size f cd).kindOf (ps.zip us) fun _=>none) (cellsFrom (s.heap.objs.size+1) scope.names []) (bindC (envOfC qual scope s.heap.objs.size f cd).kindOf (ps.zip us) fun _=>none) s1) :
  Inv (cxOf CX P w K mg base N qual scope f cd A outer s H E) [] (start N vs) H s1:=by
 have hpl:ps.length≤N.length:=by have:=congrArg List.length S.pre; rw [List.length_take] at this; omega
 obtain ⟨h1,tk,rfl,hk⟩:=x.done
 have noA:∀ b:Addr,b ∉ (cxOf CX P w K mg base N qual scope f cd A outer s H E).ex:=fun b z=>absurd (show b∈([]:List Addr) from z) (by simp)
 refine ⟨⟨e0.mod,S.kind,rfl,rfl,Nat.le_refl _,fun y z c h1 h2=>?_,fun y hy=>?_,fun y c _ h=>?_,fun _=>hd,Around.frames_deeper e0.frames,.inr ⟨rfl,rfl⟩,fun b z=>absurd z (noA b),e0.bs,e0.bsz,fun b _ _=>noA b,fun b z=>absurd z (noA b),e0.funs,e0.frf⟩,
  rfl,e0.bare,Un.kept hk,⟨_,x.toInCall.ns,fun i y v h1 h2 h3=>?_⟩,fun y c h=>⟨_,x.cell y c h⟩,e0.hok.fresh (Nat.le_refl _),fun y c h=>?_,fun p hp=>absurd (show p∈([]:List (Addr × Obj)) from hp) (by simp),e0.hok.kept hk,?_⟩
 ·exact name_of_addr x.apart (PySem.mem_of_lookup h1) (PySem.mem_of_lookup h2)
 ·have hy:scope.names.lookup y=some .cell∨scope.names.lookup y=some .free:=hy
  rcases hy with hy | hy
  ·exact ahs hy
  ·exact absurd rfl (S.nofree _ (PySem.mem_of_lookup hy))
 ·exact Nat.le_of_lt (x.above y c (PySem.mem_of_lookup h))
 ·have hi:i < vs.length:=by
   unfold start at h2
   by_cases hi:i < vs.length
   ·exact hi
   ·rw [List.getElem?_append_right (by simpa using hi)] at h2
    rw [List.getElem?_replicate] at h2
    split at h2 <;> cases h2
  have ha:vs[i]?=some v:=by
   unfold start at h2
   rw [List.getElem?_append_left (by simpa using hi),List.getElem?_map] at h2
   cases e:vs[i]? with
   | none=>rw [e] at h2; cases h2
   | some a=>rw [e] at h2; cases h2; rfl
  obtain ⟨u,hu,rv⟩:=r.get ha
  have hp:ps[i]?=some y:=by
   rw [← S.pre,List.getElem?_take_of_lt (by omega)]; exact h1
  have ndP:ps.Nodup:=by rw [← S.pre]; exact S.nd.sublist (List.take_sublist _ _)
  refine ⟨u,rv,?_⟩
  rcases S.par y (List.mem_of_getElem? hp) with k | k
  ·exact .inl ⟨k,afO ndP hp hu k⟩
  ·obtain ⟨c,e⟩:=ahs (n:=s.heap.objs.size+1) k
   refine .inr ⟨.inl k,c,e,?_⟩
   have q:=x.cell y c e
   rw [af5 ndP hp hu (by show scope.names.lookup y≠_; rw [k]; decide)] at q
   exact q
 ·exact e0.hok.fresh (Nat.le_of_lt (x.above y c (PySem.mem_of_lookup h)))
 ·unfold start
  show _=N.length
  rw [List.length_append,List.length_map,List.length_replicate]
  omega
theorem akH {CX:CXT} {P:Program} {w:World} {K:PySem.W.Frag} {mg:Str→Option Value} {base:Heap} {k:Nat} {f:Addr} {name qual:Str} {params:Arguments} {body:List Stmt} {scope:Scope} {dV kV doc pm cdv ct oc:Value} {an od:Option Addr}
  {osl:Array (Option Value)} {N ps:List Str} {sp:Sp} (lk:K.lookup f=some ⟨oc,od,.func (PySem.W.fnOf name qual params body scope dV kV doc pm an cdv ct),osl⟩) (hcd:PySem.W.codeIn K cdv qual=true) (S:aaA N ps scope)
  (len:∀ vs H Q E,sp vs H Q E→vs.length=ps.length)
  (hbody:∀ (A:Around) (outer:List Env) (s:Shared) (H:Hp) (vs:List V) (Q:VK) (E:XK),Room k (A.deeper (envOfC qual scope s.heap.objs.size f cdv))→sp vs H Q E →
   ∃ t,PSs (cxOf CX P w K mg base N qual scope f cdv A outer s H E) body t∧t { nx:=fun _ H'=>Q .non H',rt:=Q } (start N vs) H) :
  FnOk P w K mg base CX (k+1) f (PySem.W.fnOf name qual params body scope dV kV doc pm an cdv ct) ps sp:=by
 refine ⟨len,fun A outer s H args us vs Q E hr e0 hb r hsp=>?_⟩
 have hl:=len _ _ _ _ hsp
 have KX:K.In s.heap:=e0.mod.kin.keeps fun b o e=>(e0.bs b o e).1
 have lim:s.heap.NoLimit:=e0.mod.nolimit.keeps fun b o e=>(e0.bs b o e).1
 have hkind:∀ y∈ps.zip us,scope.names.lookup y.1=some .local∨(scope.names.lookup y.1=some .cell∧((cellsFrom (s.heap.objs.size+1) scope.names []).lookup y.1).isSome=true):=fun ⟨n,v⟩ hy=>by
  rcases S.par n (List.of_mem_zip hy).1 with q | q
  ·exact .inl q
  ·exact .inr ⟨q,PySem.W.cellsFrom_some _ _ _ (.inl q)⟩
 refine codeAny_call_function hr.depth (KX _ _ lk) rfl S.co S.gen rfl (PySem.W.codeRec_of KX hcd) (hb _ _ _ _ ?_)
 refine wpAny_newFunctionEnv_cells S.kind hkind fun env he s1 x=>?_
 subst he
 refine ⟨lim.keeps x.toInCall.keep,codeAny_func ?_⟩
 obtain ⟨t,ht,hq⟩:=hbody A outer s H vs Q E (hr.deeper _) hsp
 have I:Inv (cxOf CX P w K mg base N qual scope f cdv A outer s H E) [] (start N vs) H s1:=aiR S hr.hd e0 hl r x
 refine wpAny_mono (ht [] s1 (start N vs) H _ I hq) (fun fl s' hs=>?_) fun e s' hs=>hs
 have fin:∀ {σ':St} {H':Hp} {v:V} {u:Value},Inv (cxOf CX P w K mg base N qual scope f cdv A outer s H E) [] σ' H' s'→RelV v u→Q v H'→CE outer P w H s Q u s' :=
  fun {σ' H' v u} J rv q=>⟨v,H',J.os,J.bare,J.base,J.hok,rv,q⟩
 cases fl with
 | ret u =>
  obtain ⟨v,σ',H',J,rv,q⟩:=hs
  exact fin J rv q
 | next =>
  obtain ⟨σ',H',J,q⟩:=hs
  exact fin (v:=V.non) (u:=Value.none) J rfl q
 | brk =>
  obtain ⟨_,_,_,q⟩:=hs
  exact False.elim q
 | cont =>
  obtain ⟨_,_,_,q⟩:=hs
  exact False.elim q
end L2
namespace L2
open PySem PySem.Spec PyProof.Rows
section
variable {X:Cx} {x:Str} {p pos:Pos} {e:Expr} {es:List Expr} {t:TA} {id T:String} {r:List V→Hp→VK→Prop}
def tCB (r:List V→Hp→VK→Prop) (t:TA):TE:=fun σ H Q=>t σ H fun vs H1=>r vs H1 Q
theorem aft (hc:adG X (.builtin id) r) (hg:Gl X x) (hm:X.mg x=none) (hv:bootBuiltins x=some (.builtin id)) (ha:PA X (e :: es) t) (hn:x≠"__name__":=by decide) (hdb:(x == ("__debug__":Str))=false:=by decide)
  (he:starEach (e :: es) X.env=(false,eval e X.env) :: starEach es X.env:=by rfl) (hpl:(backTo pos (starEach es X.env)).any (·.1)=false:=by rfl):PE X (.Call (.Name x p) (e :: es) [] pos) (tCB r t):=by
 intro pins s σ H Q I h
 refine wpAny_Call_Name_kw (afh I hg hm hv ?_ hn hdb)
 exact PyProof.Rows.callWith_builtin1 (thn (ha pos pins s σ H _ I h) fun us s1 ⟨vs,H1,I1,r1,q1⟩=>hc pins s1 σ H1 vs us Q I1 r1 q1) he hpl
theorem ajz (hc:adG X (.type T) r) (hg:Gl X x) (hm:X.mg x=none) (hv:bootBuiltins x=some (.type T)) (ha:PA X (e :: es) t) (hn:x≠"__name__":=by decide) (hdb:(x == ("__debug__":Str))=false:=by decide)
  (he:starEach (e :: es) X.env=(false,eval e X.env) :: starEach es X.env:=by rfl) (hpl:(backTo pos (starEach es X.env)).any (·.1)=false:=by rfl):PE X (.Call (.Name x p) (e :: es) [] pos) (tCB r t):=by
 intro pins s σ H Q I h
 refine wpAny_Call_Name_kw (afh I hg hm hv ?_ hn hdb)
 exact PyProof.Rows.callWith_type1 (thn (ha pos pins s σ H _ I h) fun us s1 ⟨vs,H1,I1,r1,q1⟩=>hc pins s1 σ H1 vs us Q I1 r1 q1) he hpl
end
end L2
namespace HT
open PySem PyProof.Rows
def lexLt:List Int→List Int→Bool
 | [],[]=>false
 | [],_ :: _=>true
 | _ :: _,[]=>false
 | x :: xs,y :: ys=>if x=y then lexLt xs ys else decide (x < y)
theorem lexLt_cons (x y:Int) (xs ys:List Int):lexLt (x :: xs) (y :: ys)=if x=y then lexLt xs ys else decide (x < y):=rfl
section
open PySem.SeqAt
open PySem.AutoSeq1 (wpAny_loadPart')
open PySem.MeetsSeq PySem.MeetsSeq2 PySem.MeetsSeq3
end
section
variable {prog:Program} {w:World} {A:Around} {E:Value→Shared→Prop} {s:Shared}
theorem cat_tup {t b:Addr} {vs ws:List Value} {Q:Value→Shared→Prop} (ht:IsTup s.heap t vs.toArray) (hb:IsTup s.heap b ws.toArray) (hv:vs≠[])
  (h1:ws=[]→Q (.ref t) s) (h2:ws≠[]→Q (.ref s.heap.objs.size) { s with heap:=s.heap.push { cls:=.type "tuple",data:=.seq (vs++ws).toArray } })
  (hsz:vs.length+ws.length≤sizeLine):wpAny (model prog w) A (binaryOp .Add (.ref t) (.ref b)) Q E s:=by
 obtain ⟨⟨cls,dd,data,sl⟩,ho,hc,n,hd⟩:=id ht
 obtain ⟨⟨cls2,dd2,data2,sl2⟩,ho2,hc2,n2,hd2⟩:=id hb
 simp only at hc hd hc2 hd2
 subst hc hd hc2 hd2
 have e:vs.toArray++ws.toArray=(vs++ws).toArray:=by simp
 by_cases hw:ws=[]
 ·exact concat_meets ⟨_,ho,rfl⟩ ⟨_,ho2,rfl⟩ noFill_tuple_add seq_tuple_add PySem.F.slot_tuple_add PySem.F.entry_tuple_add (PySem.F.args_tuple_add_2 _ _)
   (tuple_addW1 t b vs.toArray ws.toArray n n2 dd dd2 sl sl2 (by simpa using hv) (by simp [hw])) ⟨ho,ho2,h1 hw⟩
 ·refine concat_meets ⟨_,ho,rfl⟩ ⟨_,ho2,rfl⟩ noFill_tuple_add seq_tuple_add PySem.F.slot_tuple_add PySem.F.entry_tuple_add (PySem.F.args_tuple_add_2 _ _)
   (tuple_addW2 t b vs.toArray ws.toArray n n2 dd dd2 sl sl2 (by simpa using hv) (by simpa using hw) (by rw [List.size_toArray,List.size_toArray]; exact hsz)) ⟨ho,ho2,?_⟩
  rw [e]
  exact h2 hw
def sIx (n d:Nat):Option Int→Nat
 | none=>d
 | some v=>if v < 0 then (v+(n:Int)).toNat else min v.toNat n
theorem sIx_nat (n d k:Nat):sIx n d (some (k:Int))=min k n:=by
 show (if (k:Int) < 0 then ((k:Int)+(n:Int)).toNat else min (k:Int).toNat n)=min k n
 rw [if_neg (by omega),Int.toNat_natCast]
theorem am1 (n d:Nat) (hd:d≤n) (o:Option Int):sIx n d o≤n:=by
 cases o with
 | none=>exact hd
 | some v =>
  show (if v < 0 then (v+(n:Int)).toNat else min v.toNat n)≤n
  by_cases hv:v < 0
  ·rw [if_pos hv]; omega
  ·rw [if_neg hv]; exact Nat.min_le_right _ _
theorem aix (v:Int) (n d:Nat):(if v < 0 then max (v+(n:Int)) 0 else min v (n:Int))=((sIx n d (some v):Nat):Int):=by
 show (if v < 0 then max (v+(n:Int)) 0 else min v (n:Int))=(((if v < 0 then (v+(n:Int)).toNat else min v.toNat n):Nat):Int)
 by_cases hv:v < 0
 ·simp only [if_pos hv]; omega
 ·simp only [if_neg hv]; omega
theorem ahP (lo hi:Option Int) (n:Nat):Builtin.Slice.sliceAdjust lo hi 1 (n:Int)=(((sIx n 0 lo:Nat):Int),((sIx n n hi:Nat):Int)):=by
 have h1:¬ ((1:Int) < 0):=by omega
 unfold Builtin.Slice.sliceAdjust
 simp only [h1,if_false]
 refine Prod.ext ?_ ?_
 ·cases lo with
  | none=>rfl
  | some v=>exact aix v n 0
 ·cases hi with
  | none=>rfl
  | some v=>exact aix v n n
theorem ahZ (i j:Nat):Builtin.Slice.slicePlaces (i:Int) (j:Int) 1=j - i:=by
 unfold Builtin.Slice.slicePlaces
 have h1:(1:Int) > 0:=by omega
 simp only [h1,if_true,Int.ediv_one]
 split <;> omega
theorem ae3 {v:Value} {o:Option Int} {Q:Option Int→Shared→Prop} (p:IsPart v o) (h:Q o s):wpAny (model prog w) A (Builtin.Slice.slicePartIndex v) Q E s:=by
 cases p with
 | none=>exact slicePart_none h
 | int i t=>exact slicePart_int h
theorem adZ {sl:Addr} {vl vu:Value} {lo hi:Option Int} {n:Nat} {Q:Int × Int × Nat→Shared→Prop} (hs:s.heap.IsSliceOf sl vl vu .none) (pl:IsPart vl lo) (pu:IsPart vu hi)
  (h:Q (((sIx n 0 lo:Nat):Int),1,sIx n n hi - sIx n 0 lo) s):wpAny (model prog w) A (Builtin.Slice.sliceApplied (.ref sl) (pure (n:Int))) Q E s:=by
 obtain ⟨os,hos,hcs,hds⟩:=id hs
 unfold Builtin.Slice.sliceApplied Builtin.Slice.sliceFields
 refine wpAny_bind (wpAny_bind (wpAny_field hos hds (x:=vl) rfl (wpAny_bind (wpAny_field hos hds (x:=vu) rfl (wpAny_bind (wpAny_field hos hds (x:=.none) rfl (wpAny_pure ?_)))))))
 refine wpAny_bind (slicePart_none ?_)
 show wpAny _ _ (if ((1:Int) == 0)=true then _ else _) _ _ s
 rw [if_neg (by decide)]
 refine wpAny_bind (ae3 pl (wpAny_bind (ae3 pu (wpAny_bind (wpAny_pure ?_)))))
 show wpAny _ _ (match Builtin.Slice.sliceAdjust lo hi 1 (n:Int) with | (lo,hi)=>pure (lo,(1:Int),Builtin.Slice.slicePlaces lo hi 1)) _ _ s
 rw [ahP lo hi n]
 show wpAny _ _ (pure (((sIx n 0 lo:Nat):Int),(1:Int),Builtin.Slice.slicePlaces ((sIx n 0 lo:Nat):Int) ((sIx n n hi:Nat):Int) 1)) _ _ s
 rw [ahZ]
 exact wpAny_pure h
theorem akO (xs:Array Value) (i k:Nat):((List.range k).filterMap fun (m:Nat)=>xs[((i:Int)+(m:Int)*1).toNat]?).toArray=((xs.toList.drop i).take k).toArray:=by
 have e:(fun (m:Nat)=>xs[((i:Int)+(m:Int)*1).toNat]?)=fun m=>xs[i+m]?:=by
  funext m
  have:((i:Int)+(m:Int)*1).toNat=i+m:=by omega
  rw [this]
 rw [e]
 have:=pick_run xs i k
 rw [List.filterMap_map] at this
 have e2:((fun x=>xs[x]?) ∘ fun x=>i+x)=fun m=>xs[i+m]?:=rfl
 rw [e2] at this
 rw [this]
theorem getItem_tuple_cut {t sl:Addr} {items:Array Value} {vl vu:Value} {lo hi:Option Int} {Q:Value→Shared→Prop} (ht:IsTup s.heap t items) (hs:s.heap.IsSliceOf sl vl vu .none) (pl:IsPart vl lo) (pu:IsPart vu hi)
  (hw:¬ (sIx items.size 0 lo=0∧sIx items.size items.size hi=items.size))
  (h:Q (.ref s.heap.objs.size) { s with heap:=s.heap.push { cls:=.type "tuple",data:=.seq ((items.toList.drop (sIx items.size 0 lo)).take (sIx items.size items.size hi - sIx items.size 0 lo)).toArray } })
  (hsz:items.size≤sizeLine):wpAny (model prog w) A (getItem (.ref t) (.ref sl)) Q E s:=by
 have htake:sizeOk (.seq ((items.toList.drop (sIx items.size 0 lo)).take (sIx items.size items.size hi - sIx items.size 0 lo)).toArray):=by
  show ((items.toList.drop (sIx items.size 0 lo)).take (sIx items.size items.size hi - sIx items.size 0 lo)).toArray.size≤sizeLine
  rw [List.size_toArray,List.length_take,List.length_drop,Array.length_toList]
  omega
 have hj:sIx items.size items.size hi≤items.size:=am1 _ _ (Nat.le_refl _) hi
 obtain ⟨os,hos,hcs,hds⟩:=id hs
 have hTs:s.TypeIs (.ref sl) "slice":=⟨os,hos,hcs⟩
 unfold getItem
 try with_reducible refine wpAny_holding ?_
 first | refine wpAny_bind (wpAny_pure ?_) | skip
 refine wpAny_bind (wpAny_sequenceKey ht.typeIs (by decide) ?_)
 refine wpAny_bind (wpAny_callSpecial?_slot (name:=Str.ofString "__getitem__") ht.typeIs PyProof.Rows.slot_tuple_getitem
  (wpAny_call_entry PyProof.Rows.slot_tuple_getitem ht.typeIs entry_tuple_getitem ?_ (args_tuple_getitem _ _)))
 show wpAny _ _ (Builtin.Tuple.tupleItemsOf (.ref t) >>= _) _ _ s
 refine wpAny_bind (tupleItemsOf_ ht ?_)
 refine wpAny_bind (wpAny_typeOf hTs ?_)
 rw [if_pos (by decide)]
 refine wpAny_bind (adZ hs pl pu ?_)
 have hno:¬ ((((sIx items.size 0 lo:Nat):Int) == 0 && (1:Int) == 1 && (sIx items.size items.size hi - sIx items.size 0 lo) == items.size)=true):=by
  intro q
  rw [Bool.and_eq_true,Bool.and_eq_true] at q
  have q1:((sIx items.size 0 lo:Nat):Int)=0:=eq_of_beq q.1.1
  have q2:sIx items.size items.size hi - sIx items.size 0 lo=items.size:=eq_of_beq q.2
  exact hw ⟨by omega,by omega⟩
 show wpAny _ _ (if (((sIx items.size 0 lo:Nat):Int) == 0 && (1:Int) == 1 && (sIx items.size items.size hi - sIx items.size 0 lo) == items.size)=true then _ else _) _ _ s
 rw [if_neg hno,akO]
 first
  | exact wpAny_bind (m:=Builtin.Tuple.tupleExact _) (wpAny_newObj_type (wpAny_pure ⟨_,rfl,wpAny_pure h⟩) htake)
  | exact wpAny_bind (m:=Builtin.Tuple.tupleExact _) (wpAny_newObj_type (wpAny_bind (wpAny_pure (wpAny_pure ⟨_,rfl,wpAny_pure h⟩))) htake)
  | exact wpAny_bind (wpAny_bind (m:=Builtin.Tuple.tupleExact _) (wpAny_newObj_type (wpAny_pure (wpAny_pure ⟨_,rfl,wpAny_pure h⟩)) htake))
  | exact wpAny_bind (wpAny_bind (m:=Builtin.Tuple.tupleExact _) (wpAny_newObj_type (wpAny_pure ⟨_,rfl,wpAny_pure h⟩) htake))
end
end HT
namespace L2
open PySem PySem.Spec PyProof.Rows
abbrev TO:=St→Hp→(Option Int→Hp→Prop)→Prop
def PO (X:Cx) (e:Option Expr) (t:TO):Prop :=
 ∀ (pins:List (Addr × Obj)) (s:Shared) (σ:St) (H:Hp) (Q:Option Int→Hp→Prop),Inv X pins σ H s→t σ H Q →
  wpAny (model X.prog X.w) X.A (evalPart e X.env) (fun u s'=>∃ o H',Inv X pins σ H' s'∧IsPart u o∧Q o H') X.xe s
def ali:TO:=fun _ H Q=>Q none H
def aod (t:TE):TO:=fun σ H Q=>t σ H fun x H1=>∃ i,x=.int i∧Q (some i) H1
section
variable {X:Cx} {e:Expr} {te:TE} {lo hi:Option Expr} {tl th:TO} {pos p2:Pos}
theorem al0:PO X none ali:=by
 intro pins s σ H Q I h
 rw [evalPart_none]
 exact wpAny_pure ⟨none,H,I,.none,h⟩
theorem alw (h:PE X e te):PO X (some e) (aod te):=by
 intro pins s σ H Q I hw
 rw [evalPart_some]
 refine thn (h pins s σ H _ I hw) fun u s1 ⟨x,H1,I1,r1,q1⟩=>?_
 obtain ⟨i,rfl,q⟩:=q1
 obtain ⟨t,rfl⟩:=r1
 exact ⟨some i,H1,I1,.int i t,q⟩
def SlR (X:Cx) (r:V→Option Int→Option Int→Hp→VK→Prop):Prop :=
 ∀ (pins:List (Addr × Obj)) (s:Shared) (σ:St) (H:Hp) (x:V) (v vl vu:Value) (lo hi:Option Int) (sl:Addr) (Q:VK),Inv X pins σ H s→RelV x v→s.heap.IsSliceOf sl vl vu .none→IsPart vl lo→IsPart vu hi→r x lo hi H Q →
  ∃ T id,typeLookup (.type T) "__getitem__"=pure (some (.builtin id))∧s.TypeIs v T∧wpAny (model X.prog X.w) X.A (getItem v (.ref sl)) (EP X pins σ Q) X.xe s
theorem SlR.or {r r':V→Option Int→Option Int→Hp→VK→Prop} (h:SlR X r) (h':SlR X r'):SlR X (fun x lo hi H Q=>r x lo hi H Q∨r' x lo hi H Q):=by
 intro pins s σ H x v vl vu lo hi sl Q I rx hs pl pu q
 rcases q with q | q
 ·exact h pins s σ H x v vl vu lo hi sl Q I rx hs pl pu q
 ·exact h' pins s σ H x v vl vu lo hi sl Q I rx hs pl pu q
def tSl (r:V→Option Int→Option Int→Hp→VK→Prop) (te:TE) (tl th:TO):TE:=fun σ H Q=>te σ H fun x H1=>tl σ H1 fun l H2=>th σ H2 fun u H3=>r x l u H3 Q
theorem ake {r:V→Option Int→Option Int→Hp→VK→Prop} (hr:SlR X r) (he:PE X e te) (hl:PO X lo tl) (hu:PO X hi th):PE X (.Subscript e (.Slice lo hi none p2) pos) (tSl r te tl th):=by
 intro pins s σ H Q I h
 refine Subscript_ (thn (he pins s σ H _ I h) fun v s1 ⟨x,H1,I1,r1,q1⟩=>?_)
 refine wpAny_Slice (thn (hl pins s1 σ H1 _ I1 q1) fun vl s2 ⟨l,H2,I2,pl,q2⟩=>thn (hu pins s2 σ H2 _ I2 q2) fun vu s3 ⟨u,H3,I3,pu,q3⟩=>?_)
 rw [evalPart_none]
 refine wpAny_pure ?_
 have I4:Inv X pins σ H3 { s3 with heap:=s3.heap.push { cls:=.type "slice",data:=.fields #[vl,vu,.none] } }:=I3.kept (t':=s3.toks) fun b ob q=>Heap.get?_push_of_some _ q
 obtain ⟨T,id,hT,ht,hg⟩:=hr pins { s3 with heap:=s3.heap.push { cls:=.type "slice",data:=.fields #[vl,vu,.none] } } σ H3 x v vl vu l u s3.heap.objs.size Q I4 r1 (Heap.IsSliceOf.new ..) pl pu q3
 show wpAny (model X.prog X.w) X.A (subscriptTail e (.Slice lo hi none p2) v (.ref s3.heap.objs.size)) (EP X pins σ Q) X.xe { s3 with heap:=s3.heap.push { cls:=.type "slice",data:=.fields #[vl,vu,.none] } }
 exact tail_any (ops:=[.ref s3.heap.objs.size,v]) ht hT hg (by with_unfolding_all rfl)
def cutV (xs:List V) (lo hi:Option Int):List V:=(xs.drop (HT.sIx xs.length 0 lo)).take (HT.sIx xs.length xs.length hi - HT.sIx xs.length 0 lo)
theorem acB (xs:List V) (lo hi:Option Int):(cutV xs lo hi).length≤xs.length:=by
 unfold cutV
 rw [List.length_take,List.length_drop]
 omega
def rSlT (K:PySem.W.Frag):V→Option Int→Option Int→Hp→VK→Prop:=fun x lo hi H Q=>∃ a xs,x=.ref a∧SqT K H a xs ∧
 ¬ (HT.sIx xs.length 0 lo=0∧HT.sIx xs.length xs.length hi=xs.length)∧∀ p,H p=none→Q (.ref p) (upd H p (.tup (cutV xs lo hi)))
theorem anc:SlR X (rSlT X.K):=by
 intro pins s σ H x v vl vu lo hi sl Q I rx hs pl pu h
 obtain ⟨a,xs,rfl,hx,hw,q⟩:=h
 cases rx
 obtain ⟨its,r,ht,hz⟩:=I.tuple hx
 have hlen:its.toArray.size=xs.length:=by rw [List.size_toArray]; exact r.length.symm
 refine ⟨"tuple",_,PyProof.Rows.slot_tuple_getitem.lookup,ht.typeIs,?_⟩
 refine HT.getItem_tuple_cut ht hs pl pu (by rw [hlen]; exact hw) ?_ (by rw [hlen]; exact hz)
 rw [hlen]
 refine ⟨.ref s.heap.objs.size,_,I.laid (t':=s.toks) (o:=.tup (cutV xs lo hi)) (fun b ob q=>Heap.get?_push_of_some _ q) (Nat.le_refl _) ?_,rfl,q _ (I.hok.fresh (Nat.le_refl _))⟩
 exact ⟨Nat.le_trans (acB xs lo hi) hz,_,(r.drop (HT.sIx xs.length 0 lo)).take (HT.sIx xs.length xs.length hi - HT.sIx xs.length 0 lo),IsTup.new _ _⟩
def anf (K:PySem.W.Frag):R2:=fun x y H Q=>∃ a b xs ys,x=.ref a∧y=.ref b∧SqT K H a xs∧SqT K H b ys∧xs≠[]∧xs.length+ys.length≤sizeLine ∧
 (ys=[]→Q (.ref a) H)∧(ys≠[]→∀ p,H p=none→Q (.ref p) (upd H p (.tup (xs++ys))))
theorem Vals.nil_iff {xs:List V} {us:List Value} (r:Vals xs us):us=[]↔xs=[]:=by
 cases r with
 | nil=>simp
 | cons _ _=>simp
theorem aml:OpR X (binaryOp .Add) (anf X.K):=by
 intro pins s σ H x y v u Q I rx ry h
 obtain ⟨a,b,xs,ys,rfl,rfl,ha,hb,hx,hz,q1,q2⟩:=h
 cases rx
 cases ry
 obtain ⟨its,r1,p1,_⟩:=I.tuple ha
 obtain ⟨its2,r2,p2,_⟩:=I.tuple hb
 refine HT.cat_tup p1 p2 (fun z=>hx (r1.nil_iff.mp z)) (fun z=>⟨.ref a,H,I,rfl,q1 (r2.nil_iff.mp z)⟩) (fun z=>?_) (by rw [← r1.length,← r2.length]; exact hz)
 refine ⟨.ref s.heap.objs.size,_,I.laid (t':=s.toks) (o:=.tup (xs++ys)) (fun b ob q=>Heap.get?_push_of_some _ q) (Nat.le_refl _) ?_,rfl,q2 (fun w=>z (r2.nil_iff.mpr w)) _ (I.hok.fresh (Nat.le_refl _))⟩
 exact ⟨by rw [List.length_append]; exact hz,_,r1.append r2,IsTup.new _ _⟩
end
end L2
namespace L2
open PySem PySem.Spec PyProof.Rows
def ixN (n:Nat) (i:Int):Option Nat:=if 0≤i then (if i < n then some i.toNat else none) else if -(n:Int)≤i then some (i+n).toNat else none
def atI {α:Type} (xs:List α) (i:Int):Option α:=(ixN xs.length i).bind fun j=>xs[j]?
theorem aiI {n:Nat} {i:Int} {j:Nat} (h:ixN n i=some j):seqIndex? i n=some j∧j < n∧-(n:Int)≤i∧i < n:=by
 unfold ixN at h
 by_cases h0:0≤i
 ·rw [if_pos h0] at h
  by_cases h1:i < n
  ·rw [if_pos h1] at h
   have e:i.toNat=j:=Option.some.inj h
   exact ⟨by rw [seqIndex_of h0 h1,e],by omega,by omega,h1⟩
  ·rw [if_neg h1] at h; cases h
 ·rw [if_neg h0] at h
  by_cases h1:-(n:Int)≤i
  ·rw [if_pos h1] at h
   have e:(i+n).toNat=j:=Option.some.inj h
   exact ⟨by rw [seqIndex_neg (by omega) h1,e],by omega,h1,by omega⟩
  ·rw [if_neg h1] at h; cases h
theorem agZ {α:Type} {xs:List α} {i:Int} {v:α} (h:atI xs i=some v):∃ j,seqIndex? i xs.length=some j∧xs[j]?=some v∧j < xs.length∧-(xs.length:Int)≤i∧i < xs.length:=by
 unfold atI at h
 cases e:ixN xs.length i with
 | none=>rw [e] at h; cases h
 | some j =>
  rw [e] at h
  obtain ⟨h1,h2,h3,h4⟩:=aiI e
  exact ⟨j,h1,h,h2,h3,h4⟩
theorem alR {α:Type} {xs:List α} {j:Nat} {v:α} (h:xs[j]?=some v):atI xs (j:Int)=some v:=by
 have hj:j < xs.length:=(List.getElem?_eq_some_iff.mp h).1
 have e:ixN xs.length (j:Int)=some j:=by
  unfold ixN
  rw [if_pos (by omega),if_pos (by omega)]; simp
 unfold atI; rw [e]; exact h
theorem akp {α:Type} (xs:List α) (v:α):atI (xs++[v]) (-1)=some v:=by
 have hl:(xs++[v]).length=xs.length+1:=by simp
 have e:ixN (xs++[v]).length (-1)=some xs.length:=by
  unfold ixN
  rw [hl,if_neg (by decide),if_pos (by omega)]
  congr 1
  omega
 unfold atI
 rw [e]
 show (xs++[v])[xs.length]?=some v
 simp
def ajr (b:Expr):Prop:=∀ o i,subscripted b false o i=operate [o,i] (getItem o i)
def IxR (X:Cx) (r:R2):Prop :=
 ∀ (value slice:Expr) (pins:List (Addr × Obj)) (s:Shared) (σ:St) (H:Hp) (x y:V) (v u:Value) (Q:VK),Inv X pins σ H s→RelV x v→RelV y u→r x y H Q →
  subscripted slice false v u=operate [v,u] (getItem v u)→wpAny (model X.prog X.w) X.A (subscriptTail value slice v u) (EP X pins σ Q) X.xe s
def MtR (X:Cx) (id:String) (r:V→List V→Hp→VK→Prop):Prop :=
 ∀ (pins:List (Addr × Obj)) (s:Shared) (σ:St) (H:Hp) (x:V) (xs:List V) (v:Value) (us:List Value) (Q:VK),Inv X pins σ H s→RelV x v→Vals xs us→r x xs H Q →
  wpAny (model X.prog X.w) X.A (call (.builtin id) (v :: us)) (EP X pins σ Q) X.xe s
section
variable {X:Cx} {a b:Expr} {ta tb:TE} {pos:Pos}
theorem IxR.or {r r':R2} (h:IxR X r) (h':IxR X r'):IxR X (fun x y H Q=>r x y H Q∨r' x y H Q):=by
 intro value slice pins s σ H x y v u Q I rx ry q hs
 rcases q with q | q
 ·exact h value slice pins s σ H x y v u Q I rx ry q hs
 ·exact h' value slice pins s σ H x y v u Q I rx ry q hs
theorem aoq {r:R2} (hr:IxR X r) (ha:PE X a ta) (hb:PE X b tb) (hs:ajr b):PE X (.Subscript a b pos) (tOp r ta tb):=by
 intro pins s σ H Q I h
 exact Subscript_ (binT ha hb I h fun v u s2 x y H2 I2 rx ry q=>hr a b pins s2 σ H2 x y v u Q I2 rx ry q (hs _ _))
def rIxL (K:PySem.W.Frag):R2:=fun x y H Q=>∃ p xs i v,x=.ref p∧y=.int i∧SqL K H p xs∧atI xs i=some v∧Q v H
def rIxT (K:PySem.W.Frag):R2:=fun x y H Q=>∃ p xs i v,x=.ref p∧y=.int i∧SqT K H p xs∧atI xs i=some v∧Q v H
def rIxS:R2:=fun x y H Q=>∃ z i c,x=.str z∧y=.int i∧z.length≤sizeLine∧atI z.cps.toList i=some c∧Q (.str ⟨#[c]⟩) H
theorem alO:IxR X (rIxL X.K):=by
 intro value slice pins s σ H x y v u Q I rx ry h hs
 obtain ⟨p,xs,i,z,rfl,rfl,hq,he,q⟩:=h
 cases rx
 obtain ⟨t,rfl⟩:=ry
 obtain ⟨its,r,pl,hz⟩:=I.list hq
 obtain ⟨j,h1,h2,h3,h4,h5⟩:=agZ he
 obtain ⟨w,ew,rw'⟩:=r.get h2
 have hl:=r.length
 have hn:=agd
 have fin:EP X pins σ Q w s:=⟨z,H,I,rw',q⟩
 by_cases h0:0≤i
 ·have hj:i.toNat=j:=by
   rw [seqIndex_of h0 h5] at h1
   exact Option.some.inj h1
  exact item_listR pl.isList h0 (by omega) (by rw [hj]; simpa using ew) fin hs
 ·have hj:(i+(its.toArray.size:Int)).toNat=j:=by
   rw [seqIndex_neg (by omega) h4] at h1
   rw [List.size_toArray,← hl]
   exact Option.some.inj h1
  exact subscriptTail_builtinR (x:=w) pl.isList.typeIs slot_list_getitem.lookup
   (wpAny_getItem_list_neg (Q:=fun r s'=>r=w∧EP X pins σ Q r s') pl.isList (by omega) (by rw [List.size_toArray] <;> omega) (by omega) (by rw [hj]; simpa using ew) ⟨rfl,fin⟩) hs
theorem am8:IxR X (rIxT X.K):=by
 intro value slice pins s σ H x y v u Q I rx ry h hs
 obtain ⟨p,xs,i,z,rfl,rfl,hq,he,q⟩:=h
 cases rx
 obtain ⟨t,rfl⟩:=ry
 obtain ⟨its,r,pl,hz⟩:=I.tuple hq
 obtain ⟨j,h1,h2,h3,h4,h5⟩:=agZ he
 obtain ⟨w,ew,rw'⟩:=r.get h2
 have hl:=r.length
 have hn:=agd
 have fin:EP X pins σ Q w s:=⟨z,H,I,rw',q⟩
 exact subscriptTail_builtinR (x:=w) pl.typeIs slot_tuple_getitem.lookup
  (getItem_tuple (j:=j) (Q:=fun r s'=>r=w∧EP X pins σ Q r s') pl (by omega) (by omega) (by rw [List.size_toArray,← hl]; exact h1) (by simpa using ew) ⟨rfl,fin⟩) hs
theorem anq:IxR X rIxS:=by
 intro value slice pins s σ H x y v u Q I rx ry h hs
 obtain ⟨z,i,c,rfl,rfl,hz,he,q⟩:=h
 obtain ⟨t,rfl⟩:=rx
 obtain ⟨t',rfl⟩:=ry
 obtain ⟨j,h1,h2,h3,h4,h5⟩:=agZ he
 have hl:z.cps.toList.length=z.length:=by simp [Str.length]
 rw [hl] at h1 h4 h5
 have hn:=agd
 exact tail_any (typeIs_str s z t) slot_str_getitem.lookup (getItem_str (c:=c) (by
  have e1:decide (i < -(2 ^ 63:Int))=false:=decide_eq_false (by omega)
  have e2:decide (i ≥ 2 ^ 63)=false:=decide_eq_false (by omega)
  rw [e1,e2,Bool.or_false]) (by rw [h1]; simpa using h2) ⟨.str ⟨#[c]⟩,H,I.tok _,⟨_,rfl⟩,q⟩) hs
def rIx (K:PySem.W.Frag):R2:=fun x y H Q=>rIxL K x y H Q∨rIxT K x y H Q∨rIxS x y H Q
theorem amB:IxR X (rIx X.K):=alO.or (am8.or anq)
theorem aic (its:List Value) (n j:Nat) (u:Value):Obj.mapSeq (·.setIfInBounds j u) { cls:=.type "list",data:=.seq its.toArray n }={ cls:=.type "list",data:=.seq (its.set j u).toArray n }:=by
 simp [Obj.mapSeq]
theorem Inv.lst {pins:List (Addr × Obj)} {σ:St} {H:Hp} {s:Shared} {p:Addr} {xs:List V} (I:Inv X pins σ H s) (h:H p=some (.lst xs)) :
  ∃ (its:List Value) (n:Nat),Vals xs its∧s.heap.get? p=some { cls:=.type "list",data:=.seq its.toArray n }∧xs.length≤sizeLine:=by
 obtain ⟨z,its,n,r,e⟩:=I.hok p _ h
 exact ⟨its,n,r,e,z⟩
theorem Inv.lstUpd {pins:List (Addr × Obj)} {σ:St} {H:Hp} {s:Shared} {p:Addr} {xs ys:List V} {its its':List Value} {n n':Nat} {f:Obj→Obj} (I:Inv X pins σ H s) (h:H p=some (.lst xs))
  (ho:s.heap.get? p=some { cls:=.type "list",data:=.seq its.toArray n }) (hf:f { cls:=.type "list",data:=.seq its.toArray n }={ cls:=.type "list",data:=.seq its'.toArray n' }) (r:Vals ys its') (hz:ys.length≤sizeLine) (t:Nat) :
  Inv X pins σ (upd H p (.lst ys)) { s with heap:=s.heap.update p f,toks:=t }:=by
 have e:(s.heap.update p f).get? p=some { cls:=.type "list",data:=.seq its'.toArray n' }:=by
  rw [Heap.get?_update_self f ho (by rw [hf] <;> rfl),hf]
 refine I.write (x:=p) (e:=p) (by rw [h]; trivial) (.inl rfl) (fun b u hb q=>(Heap.get?_update_other _ _ (Ne.symm hb)).trans q) ⟨_,e⟩ ?_
 exact ⟨hz,its',n',r,e⟩
def an8:V→V→V→Hp→(Hp→Prop)→Prop:=fun o i v H Q=>∃ p xs k j,o=.ref p∧i=.int k∧H p=some (.lst xs)∧ixN xs.length k=some j∧Q (upd H p (.lst (xs.set j v)))
theorem akn:PSet X an8:=by
 intro pins s σ H o i v ov iv u Q I ro ri rv h
 obtain ⟨p,xs,k,j,rfl,rfl,hp,hj,q⟩:=h
 cases ro
 obtain ⟨t,rfl⟩:=ri
 obtain ⟨its,n,r,ho,hz⟩:=I.lst hp
 obtain ⟨h1,h2,h3,h4⟩:=aiI hj
 have hl:=r.length
 have hn:=agd
 have I':Inv X pins σ (upd H p (.lst (xs.set j v))) { s with heap:=s.heap.update p (Obj.mapSeq (·.setIfInBounds j u)) } :=
  I.lstUpd hp ho (aic its n j u) (r.set rv j) (by rw [List.length_set]; exact hz) s.toks
 by_cases h0:0≤k
 ·have hk:k.toNat=j:=by
   rw [seqIndex_of h0 h4] at h1
   exact Option.some.inj h1
  exact PySem.W.ki_setAt ho h0 (by omega) (by rw [List.size_toArray,← hl]; exact h4) (by rw [hk]; exact ⟨_,I',q⟩)
 ·have hk:(k+(its.toArray.size:Int)).toNat=j:=by
   rw [seqIndex_neg (by omega) h3] at h1
   rw [List.size_toArray,← hl]
   exact Option.some.inj h1
  exact PySem.W.ki_setBack ho (by omega) (by rw [List.size_toArray,← hl]; exact h3) (by omega) (by rw [hk]; exact ⟨_,I',q⟩)
theorem agl (lo hi:Option Int) (n:Nat):(sliceBounds lo hi none n).1=((HT.sIx n 0 lo:Nat):Int)∧(sliceBounds lo hi none n).2.1=((HT.sIx n n hi:Nat):Int)∧(sliceBounds lo hi none n).2.2=1:=by
 refine ⟨?_,?_,rfl⟩
 ·cases lo with
  | none=>simp [sliceBounds,HT.sIx]
  | some i =>
   simp only [sliceBounds,HT.sIx,Option.getD_none,show (1:Int) > 0 by decide,if_true]
   by_cases h:i < 0
   ·simp only [h,if_true] <;> omega
   ·simp only [h,if_false] <;> omega
 ·cases hi with
  | none=>simp [sliceBounds,HT.sIx]
  | some i =>
   simp only [sliceBounds,HT.sIx,Option.getD_none,show (1:Int) > 0 by decide,if_true]
   by_cases h:i < 0
   ·simp only [h,if_true] <;> omega
   ·simp only [h,if_false] <;> omega
theorem afm (its:List Value) (lo hi:Option Int):slicePick its.toArray lo hi none=((its.drop (HT.sIx its.length 0 lo)).take (HT.sIx its.length its.length hi - HT.sIx its.length 0 lo)).toArray:=by
 obtain ⟨h1,h2,h3⟩:=agl lo hi its.toArray.size
 unfold slicePick
 rw [h1,h2,h3]
 simp only [sliceRange_one,pick_run,List.size_toArray] <;> rfl
def rSlL (K:PySem.W.Frag):V→Option Int→Option Int→Hp→VK→Prop:=fun x lo hi H Q=>∃ a xs,x=.ref a∧SqL K H a xs∧∀ p,H p=none→Q (.ref p) (upd H p (.lst (cutV xs lo hi)))
theorem amm:SlR X (rSlL X.K):=by
 intro pins s σ H x v vl vu lo hi sl Q I rx hs pl pu h
 obtain ⟨a,xs,rfl,hx,q⟩:=h
 cases rx
 obtain ⟨its,r,ht,hz⟩:=I.list hx
 have hlen:=r.length
 refine ⟨"list",_,slot_list_getitem.lookup,ht.isList.typeIs,?_⟩
 refine wpAny_getItem_list_slice ht.isList hs pl pu .none (by simp) ?_ (by rw [List.size_toArray] <;> omega)
 rw [afm,← hlen]
 refine ⟨.ref s.heap.objs.size,_,I.laid (t':=s.toks) (o:=.lst (cutV xs lo hi)) (fun b ob q=>Heap.get?_push_of_some _ q) (Nat.le_refl _) ?_,rfl,q _ (I.hok.fresh (Nat.le_refl _))⟩
 exact ⟨Nat.le_trans (acB xs lo hi) hz,_,0,(r.drop (HT.sIx xs.length 0 lo)).take (HT.sIx xs.length xs.length hi - HT.sIx xs.length 0 lo),Heap.get?_push_size _ rfl⟩
theorem aba:adG X (.builtin "len") (fun xs H Q=>∃ p ys,xs=[.ref p]∧(SqL X.K H p ys∨SqT X.K H p ys)∧Q (.int ys.length) H):=by
 intro pins s σ H xs us Q I r h
 obtain ⟨p,ys,rfl,hq,q⟩:=h
 obtain ⟨u,rfl,rx⟩:=agc r
 cases rx
 have hn:=agd
 rcases hq with hq | hq
 ·obtain ⟨its,r',pl,hz⟩:=I.list hq
  have hlen:=r'.length
  exact Calls.call_len_list pl.isList (by simp only [List.size_toArray] <;> omega) ⟨.int ys.length,H,I.tok _,⟨s.toks+1,by rw [List.size_toArray,hlen]⟩,q⟩
 ·obtain ⟨its,r',pl,hz⟩:=I.tuple hq
  have hlen:=r'.length
  exact len_tuple pl (by simp only [List.size_toArray] <;> omega) ⟨.int ys.length,H,I.tok _,⟨s.toks+1,by rw [List.size_toArray,hlen]⟩,q⟩
theorem acT:adG X (.type "list") (fun xs H Q=>∃ p ys,xs=[.ref p]∧(SqL X.K H p ys∨SqT X.K H p ys)∧∀ l,H l=none→Q (.ref l) (upd H l (.lst ys))):=by
 intro pins s σ H xs us Q I r h
 obtain ⟨p,ys,rfl,hq,q⟩:=h
 obtain ⟨u,rfl,rx⟩:=agc r
 cases rx
 have fin:∀ (its:List Value),Vals ys its→ys.length≤sizeLine→∀ (h':Heap) (c':Nat),(∀ b o',s.heap.get? b=some o'→h'.get? b=some o') →
   h'.get? s.heap.objs.size=some { cls:=.type "list",dict:=none,data:=.seq its.toArray c',slots:=#[] }→EP X pins σ Q (.ref s.heap.objs.size) { s with heap:=h' }:=fun its r' hz h' c' kp e =>
  ⟨.ref s.heap.objs.size,_,I.laid (t':=s.toks) kp (Nat.le_refl _) (show ach X.prog X.w _ h' _ (.lst ys) from ⟨hz,its,c',r',e⟩),rfl,q _ (I.hok.fresh (Nat.le_refl _))⟩
 rcases hq with hq | hq
 ·obtain ⟨its,r',pl,hz⟩:=I.list hq
  have hlen:=r'.length
  obtain ⟨o,ho,hc,n,hd⟩:=pl.isList
  exact call_list_seq p (.inl rfl) ho hc hd (fun h' c' kp e=>fin its r' hz h' c' kp e) (by simp only [List.size_toArray] <;> omega)
 ·obtain ⟨its,r',pl,hz⟩:=I.tuple hq
  have hlen:=r'.length
  obtain ⟨o,ho,hc,n,hd⟩:=pl
  exact call_list_seq p (.inr rfl) ho hc hd (fun h' c' kp e=>fin its r' hz h' c' kp e) (by simp only [List.size_toArray] <;> omega)
theorem abk:adG X (.type "tuple") (fun xs H Q=>∃ p ys,xs=[.ref p]∧((SqL X.K H p ys∧∀ l,H l=none→Q (.ref l) (upd H l (.tup ys)))∨(SqT X.K H p ys∧Q (.ref p) H))):=by
 intro pins s σ H xs us Q I r h
 obtain ⟨p,ys,rfl,h⟩:=h
 obtain ⟨u,rfl,rx⟩:=agc r
 cases rx
 rcases h with ⟨hq,q⟩ | ⟨hq,q⟩
 ·obtain ⟨its,r',pl,hz⟩:=I.list hq
  have hlen:=r'.length
  refine call_tuple_list pl.isList (fun h' kp=>?_) (by simp only [List.size_toArray] <;> omega)
  have I1:Inv X pins σ H { s with heap:=h' }:=I.kept (t':=s.toks) kp
  have I2:Inv X pins σ (upd H h'.objs.size (.tup ys)) { s with heap:=h'.push { cls:=.type "tuple",data:=.seq its.toArray } } :=
   I1.laid (t':=s.toks) (fun b o e=>Heap.get?_push_of_some _ e) (Nat.le_refl _) (show ach X.prog X.w _ _ _ (.tup ys) from ⟨hz,its,r',IsTup.new _ _⟩)
  exact ⟨.ref h'.objs.size,_,I2,rfl,q _ (I1.hok.fresh (Nat.le_refl _))⟩
 ·obtain ⟨its,r',pl,hz⟩:=I.tuple hq
  exact call_tuple_same pl ⟨.ref p,H,I,rfl,q⟩
def tyV (K:PySem.W.Frag) (T:String) (x:V) (H:Hp):Prop:=match x with
 | .str _=>T="str"
 | .int _=>T="int"
 | .ref p=>(T="list"∧∃ xs,SqL K H p xs)∨(T="tuple"∧∃ o,K.lookup p=some o∧o.cls=.type "tuple"∧o.dict=none) ∨
   (T="dict"∧((∃ kvs,H p=some (.dK kvs))∨∃ kvs,H p=some (.dT kvs)))∨(T="set"∧∃ S n,H p=some (.set S n))
 | _=>False
theorem anT {pins:List (Addr × Obj)} {σ:St} {H:Hp} {s:Shared} {T:String} {x:V} {v:Value} (I:Inv X pins σ H s) (r:RelV x v) (ty:tyV X.K T x H) :
  s.TypeIs v T∧∀ a,v=.ref a→∃ ob,s.heap.get? a=some ob∧ob.dict=none:=by
 cases x with
 | str z =>
  obtain ⟨t,rfl⟩:=r
  cases (show T="str" from ty)
  exact ⟨typeIs_str s z t,fun _ e=>nomatch e⟩
 | int i =>
  obtain ⟨t,rfl⟩:=r
  cases (show T="int" from ty)
  exact ⟨typeIs_int s i t,fun _ e=>nomatch e⟩
 | ref p =>
  cases r
  rcases ty with ⟨rfl,xs,hq⟩ | ⟨rfl,o,hk,hc,hd⟩ | ⟨rfl,hk⟩ | ⟨rfl,S,n,hk⟩
  ·obtain ⟨its,_,pl,_⟩:=I.list hq
   refine ⟨pl.isList.typeIs,fun a e=>?_⟩
   cases e
   obtain ⟨o,n,e,c,hd,_⟩:=pl
   exact ⟨o,e,hd⟩
  ·refine ⟨⟨o,I.kIn p o hk,hc⟩,fun a e=>?_⟩
   cases e
   exact ⟨o,I.kIn _ o hk,hd⟩
  ·have z:∃ o,s.heap.get? p=some o∧o.ExactDict:=by
    rcases hk with ⟨kvs,hk⟩ | ⟨kvs,hk⟩
    ·obtain ⟨_,_,_,_,o,_,_,e,ex,_⟩:=I.hok p _ hk
     exact ⟨o,e,ex⟩
    ·obtain ⟨_,_,_,_,o,_,_,e,ex,_⟩:=I.hok p _ hk
     exact ⟨o,e,ex⟩
   obtain ⟨o,e,ex⟩:=z
   refine ⟨⟨o,e,ex.1⟩,fun a e2=>?_⟩
   cases e2
   exact ⟨o,e,ex.2.1⟩
  ·obtain ⟨o,_,_,_,e,ex,_⟩:=I.hok p _ hk
   refine ⟨⟨o,e,ex.1⟩,fun a e2=>?_⟩
   cases e2
   exact ⟨o,e,ex.2.1⟩
 | _=>exact False.elim ty
def tBM (K:PySem.W.Frag) (T:String) (r:V→List V→Hp→VK→Prop) (to:TE) (t:TA):TE:=fun σ H Q=>to σ H fun x H1=>tyV K T x H1∧t σ H1 fun xs H2=>r x xs H2 Q
variable {o e:Expr} {es:List Expr} {to:TE} {t:TA} {name:Str} {apos cpos:Pos} {T id:String} {r:V→List V→Hp→VK→Prop}
theorem ant (pa:PlainAttrs T) (slot:Slot T name id) (hty:typeOf (.builtin id)=pure (.type "method_descriptor")) (hm:MtR X id r) (ho:PE X o to) (ha:PA X (e :: es) t)
  (hbase:attributeBase o name X.env (eval o X.env)=eval o X.env:=by rfl)
  (hfew:((backTo cpos (starEach (e :: es) X.env)).all (fun x=>!x.1) && (backToKw cpos (keywordEach [] X.env)).all (fun x=>x.1.isSome)
   && decide ((e :: es).length+([]:List Keyword).length+(if ([]:List Keyword).isEmpty then 0 else 1) < 30))=true:=by rfl)
  (hline:(apos.endLine == cpos.line)=true:=by rfl) (hs:starEach (e :: es) X.env=(false,eval e X.env) :: starEach es X.env:=by rfl) (hplain:(backTo cpos (starEach es X.env)).any (·.1)=false:=by rfl) :
  PE X (.Call (.Attribute o name apos) (e :: es) [] cpos) (tBM X.K T r to t):=by
 intro pins s σ H Q I h
 refine wpAny_Call_method_late hbase hfew hline rfl (thn (ho pins s σ H _ I h) fun v s1 ⟨x,H1,I1,r1,ty,q1⟩=>?_)
 obtain ⟨h1,h2⟩:=anT I1 r1 ty
 refine ⟨T,id,pa,slot,hty,h1,h2,?_⟩
 have hA:=ha cpos pins s1 σ H1 _ I1 q1
 rw [hs] at hA ⊢
 refine Calls.callWith_builtin (by show (false || (backTo cpos (starEach es X.env)).any (·.1))=false; rw [hplain] <;> rfl) (Calls.evalArgs_plain ?_)
 exact thn hA fun us s2 ⟨vs,H2,I2,r2,q2⟩=>hm pins s2 σ H2 x vs v us Q I2 r1 r2 q2
end
end L2
namespace L2
open PySem PySem.Spec PyProof.Rows
def MtM (X:Cx) (id:String) (r:V→List V→Hp→VK→Prop):Prop :=
 ∀ (pins:List (Addr × Obj)) (s:Shared) (σ:St) (H:Hp) (x:V) (xs:List V) (v:Value) (us:List Value) (Q:VK),Inv X pins σ H s→RelV x v→Vals xs us→r x xs H Q →
  wpAny (model X.prog X.w) X.A (call (.builtin id) (v :: us)) (EP X pins σ Q) X.xe s
theorem Vals.one:∀ {x:V} {us:List Value},Vals [x] us→∃ u,us=[u]∧RelV x u
 | _,_,.cons r .nil=>⟨_,rfl,r⟩
theorem Vals.zero:∀ {us:List Value},Vals [] us→us=[]
 | _,.nil=>rfl
theorem Vals.eraseIdx:∀ {xs:List V} {us:List Value} (i:Nat),Vals xs us→Vals (xs.eraseIdx i) (us.eraseIdx i)
 | _,_,_,.nil=>.nil
 | _,_,0,.cons _ t=>t
 | _,_,i+1,.cons r t=>.cons r (Vals.eraseIdx i t)
theorem aeh {α:Type}:∀ (l:List α) (i:Nat),(l.eraseIdx i).length≤l.length
 | [],_=>Nat.le_refl _
 | _ :: _,0=>Nat.le_succ _
 | _ :: r,i+1=>Nat.succ_le_succ (aeh r i)
section
variable {X:Cx} {pins:List (Addr × Obj)} {σ:St} {H:Hp} {s:Shared} {l b:Addr} {xs ys zs:List V}
theorem Inv.lset {its its':List Value} {n:Nat} {f:Array Value→Array Value} {t':Nat} (I:Inv X pins σ H s) (hH:H l=some (.lst xs))
  (e:s.heap.get? l=some { cls:=.type "list",data:=.seq its.toArray n }) (hf:f its.toArray=its'.toArray) (hv:Vals ys its') (hz:ys.length≤sizeLine) :
  Inv X pins σ (upd H l (.lst ys)) { s with heap:=s.heap.update l (Obj.mapSeq f),toks:=t' }:=by
 have q:=PySem.IsL.update e f
 rw [hf] at q
 refine I.write (x:=l) (e:=l) (by rw [hH]; exact trivial) (.inl rfl) (fun b' u hb hu=>(Heap.get?_update_other s.heap (Obj.mapSeq f) (Ne.symm hb)).trans hu) ⟨_,q⟩ ?_
 exact ⟨hz,its',_,hv,q⟩
theorem Inv.lnew {its:List Value} {t':Nat} (I:Inv X pins σ H s) (hv:Vals ys its) (hz:ys.length≤sizeLine) :
  Inv X pins σ (upd H s.heap.objs.size (.lst ys)) { s with heap:=s.heap.push { cls:=.type "list",data:=.seq its.toArray },toks:=t' } :=
 I.laid (fun _ _ q=>Heap.get?_push_of_some _ q) (Nat.le_refl _) ⟨hz,its,0,hv,Heap.get?_push_size _ rfl⟩
theorem Inv.fresh (I:Inv X pins σ H s):H s.heap.objs.size=none:=I.hok.fresh (Nat.le_refl _)
theorem Inv.lstM (I:Inv X pins σ H s) (hH:H l=some (.lst xs)):xs.length≤sizeLine∧∃ (its:List Value) (n:Nat),Vals xs its∧xs.length=its.length∧s.heap.get? l=some { cls:=.type "list",data:=.seq its.toArray n }:=by
 obtain ⟨z,its,n,r,e⟩:=I.hok l _ hH
 exact ⟨z,its,n,r,r.length,e⟩
end
section
variable {X:Cx}
def alX:V→List V→Hp→VK→Prop:=fun x vs H Q=>∃ l xs y,x=.ref l∧vs=[y]∧H l=some (.lst xs)∧xs.length < sizeLine∧Q .non (upd H l (.lst (xs++[y])))
theorem aet:MtM X "list.append" alX:=by
 intro pins s σ H x vs v us Q I rx rv h
 obtain ⟨l,xs,y,rfl,rfl,hH,hz,q⟩:=h
 cases rx
 obtain ⟨u,rfl,ru⟩:=rv.one
 obtain ⟨z,its,n,r,hl,e⟩:=I.lstM hH
 refine call_meets F.slot_list_append ⟨_,e,rfl⟩ F.entry_list_append (F.args_list_append_2 _ _) (PySem.list_append l its.toArray n u (by rw [List.size_toArray]; omega)) ⟨e,?_⟩
 refine ⟨.non,_,I.lset (its':=its++[u]) hH e (by simp) (r.append (.cons ru .nil)) ?_,rfl,q⟩
 rw [List.length_append,List.length_singleton]
 omega
def anv:V→List V→Hp→VK→Prop:=fun x vs H Q=>∃ l xs i k y,x=.ref l∧vs=[.int i]∧H l=some (.lst xs)∧-(2 ^ 63)≤i∧i < 2 ^ 63∧seqIndex? i xs.length=some k∧xs[k]?=some y∧Q y (upd H l (.lst (xs.eraseIdx k)))
theorem ajY:MtM X "list.pop" anv:=by
 intro pins s σ H x vs v us Q I rx rv h
 obtain ⟨l,xs,i,k,y,rfl,rfl,hH,h1,h2,hk,hy,q⟩:=h
 cases rx
 obtain ⟨u,rfl,ru⟩:=rv.one
 obtain ⟨t,rfl⟩:=ru
 obtain ⟨z,its,n,r,hl,e⟩:=I.lstM hH
 obtain ⟨w,hw,rw'⟩:=r.get hy
 refine call_meets F.slot_list_pop ⟨_,e,rfl⟩ F.entry_list_pop (F.args_list_pop_2 _ _)
  (MeetsSeq.list_pop_at l its.toArray n i t k w (fitsIndex_both h1 h2) (by rw [List.size_toArray,← hl]; exact hk) (by rw [← Array.getElem?_toList]; exact hw) (by rw [List.size_toArray]; omega)) ⟨e,?_⟩
 refine ⟨y,_,I.lset (its':=its.eraseIdx k) hH e ?_ (r.eraseIdx k) ?_,rw',q⟩
 ·show its.toArray.eraseIdxIfInBounds k=(its.eraseIdx k).toArray
  rw [List.eraseIdxIfInBounds_toArray]
 ·have:=aeh xs k
  omega
end
section
variable {prog:Program} {w:World} {A:Around} {E:Value→Shared→Prop} {s:Shared}
end
section
variable {X:Cx}
end
end L2
namespace Att
open PySem PySem.W PySem.Calls PyProof.Rows
theorem ad9 {P:Params} {h:Heap}:∀ (ns:List Int) (vs:List Value),WellAll P h vs (ns.map WData.int)→IntsAre vs ns:=by
 intro ns
 induction ns with
 | nil =>
  intro vs w
  rw [List.map_nil] at w
  cases w
  exact .nil
 | cons n ns ih =>
  intro vs w
  rw [List.map_cons] at w
  cases w with
  | cons a b =>
   cases a
   exact .cons _ _ (ih _ b)
theorem ajo {l:OpenLaw} {n:Nat} (hn:l.most=some n) {P:Params} {h:Heap} {args:List WData} {vals:List Value}
  (hpre:l.row.toRowW.claim.pre args=true) (hwl:WellAll P h vals args) :
  ∃ a vs ns,vals=[Value.ref a]∧args=[WData.list (ns.map WData.int)]∧h.get? a=some { cls:=.type "list",data:=.seq vs.toArray }∧IntsAre vs ns∧ns.length≤n:=by
 have hsh:WShape.hasAll [] args [.list .int]=true:=(pre_splitW hpre).1
 have hc:l.pre.holds [] { args:=args }=true:=(pre_splitW hpre).2
 obtain ⟨d,r,rfl,h1,h2⟩:=hasAllW_cons hsh
 obtain rfl:=hasAllW_nil h2
 obtain ⟨xs,rfl,h3⟩:=hasW_list h1
 obtain ⟨ns,rfl⟩:=items_int h3
 have hlen:ns.length≤n:=by
  unfold OpenLaw.pre at hc
  have h4:(WTm.not (.lt (.lit (.int (n:Int))) (.len (.arg 0)))).holds [] { args:=[.list (ns.map .int)] }=true:=by
   have h4:=(holds_andW hc).1
   rw [hn] at h4
   exact h4
  have h5:=condW_of h4 (w_not (w_lt w_lit (w_len_list (w_arg rfl))))
  rw [List.length_map] at h5
  refine Nat.le_of_not_lt fun q=>?_
  have q':(n:Int) < ((ns.length:Nat):Int):=by omega
  first
   | (rw [decide_eq_true q'] at h5; exact absurd h5 (by decide))
   | (simp at h5; omega)
 cases hwl with
 | cons w1 w2 =>
  cases w2
  cases w1 with
  | list ho hall=>exact ⟨_,_,ns,rfl,rfl,ho,ad9 ns _ hall,hlen⟩
theorem aim (l:OpenLaw) (args:List WData):l.row.toRowW.claim.post args (.bool true) args=true :=
 postW_of (r:=l.row.toRowW) (X:=(true == true))
  (show WShape.has [] (.bool true) .bool=true by first | rfl | decide | simp [WShape.has,WShape.arms,WShape.armsAll])
  (show (WTm.eq .res (.lit (.bool true))).value [] { args:=args,res:=some (.bool true),after:=args }=some (.bool (true == true)) from w_eq_bool (w_res rfl) w_lit) rfl
theorem attach_call {l:OpenLaw} {n:Nat} {q:Program} {loose:List Str} {XP:(Str→Option Value)→Heap→Prop} {YP:World→Heap→Prop} {d:DefRec}
  (hn:l.most=some n) (hdf:d.params.defaults=[])
  (call:∀ (w:World) (s₀ s₁:Shared) (mg mb:Str→Option Value) (fa:Addr) (o:Obj) (pm cd doc:Value) (a:Addr) (vs:List Value) (ns:List Int),
   Ground q loose [] XP w s₀ mg mb s₁.heap→YP w s₁.heap →
   s₁.heap.get? fa=some o→o.data=.func (docDef d.name d.params d.body d.scope pm cd doc)→s₁.heap.CodeRec cd d.name→mg d.name=some (.ref fa) →
   s₁.heap.get? a=some { cls:=.type "list",data:=.seq vs.toArray }→IntsAre vs ns→ns.length≤n→s₁.gens=#[] →
   codeAny (model l.prog w) callerA (.call (.ref fa) ⟨[.ref a],[]⟩) (fun r s'=>r=.ok (.ret (.bool true))∧OldK s₁.heap s'.heap∧s'.os=s₁.os∧AllBare s'.gens) s₁) :
  WalkO q loose XP YP l.row.toRowW d [] (fun f vs=>PySem.call f vs):=by
 intro w s₀ s₁ mg mb G Y fa o pm cd doc dV kV ho hd hcd hD hmg hg args vals as hpre hlay hrd hwl hlo
 obtain rfl:dV=.none:=Dflts.none hD hdf
 obtain rfl:kV=.none:=Dflts.noKw hD
 obtain ⟨a,vs,ns,rfl,rfl,hobj,hints,hlen⟩:=ajo hn hpre hwl
 refine enter_call (codeAny_mono (call w s₀ s₁ mg mb fa o pm cd doc a vs ns G Y ho (fd_plain hd) hcd hmg hobj hints hlen hg) fun r s' hq=>?_)
 obtain ⟨rfl,h2,h3,h4⟩:=hq
 exact ⟨.inl ⟨.bool true,.bool true,[],rfl,fun _=>rfl,.bool true,aim l _,fun _=>⟨List.Pairwise.nil,fun _ hm=>(nomatch hm)⟩⟩,h2,h3,h4⟩
section
variable {prog:Program} {w:World} {A:Around} {E:Value→Shared→Prop} {s:Shared} {K:Frag}
end
end Att
namespace L2
open PySem PySem.Spec PyProof.Rows
theorem agp:∀ {vs:List Value} {ns:List Int},IntsAre vs ns→Vals (ns.map V.int) vs
 | _,_,.nil=>.nil
 | _,_,.cons n t h=>.cons ⟨t,rfl⟩ (agp h)
def Only (H:Hp):Prop:=∀ b,H b=none∨∃ o xs,H b=some (.frz o (.lst xs))
theorem akD {P:Program} {w:World} {K:PySem.W.Frag} {mg mb:Str→Option Value} {CX:CXT} {k:Nat} {fa a:Addr} {fd:FuncData} {x:Str} {sp:Sp} {s₁:Shared} {vs:List Value} {ns:List Int}
  (KX:K.In s₁.heap) (hns:s₁.heap.Ns mainGlobals mg) (hb:s₁.heap.Ns builtinsNs mb) (hbb:∀ x:Str,x≠"__name__"→mb x=bootBuiltins x) (hlim:s₁.heap.NoLimit) (hg:s₁.gens=#[])
  (ha:s₁.heap.get? a=some { cls:=.type "list",data:=.seq vs.toArray }) (hi:IntsAre vs ns) (hl:ns.length≤sizeLine) (hr:Room k callerA)
  (F:∀ base:Heap,K.In base→base.Ns mainGlobals mg→FnOk P w K mg base CX k fa fd [x] sp) (hbind:∀ (s:Shared) (u:Value),BindsTo s fd ⟨[u],[]⟩ [(x,u)])
  (hsp:∀ H:Hp,Only H→SqL K H a (ns.map V.int)→sp [.ref a] H (fun v _=>v=.bl true) fun _ _ _=>False)
  (hCX:∀ H e s',CX [] H s₁ (fun _ _ _=>False) e s'→False) :
  codeAny (model P w) callerA (.call (.ref fa) ⟨[.ref a],[]⟩) (fun r s'=>r=.ok (.ret (.bool true))∧OldK s₁.heap s'.heap∧s'.os=s₁.os∧AllBare s'.gens) s₁:=by
 have rv:=agp hi
 have lenV:=hi.length
 -- from an abstract heap in which nothing but the script may be tracked
 have core:∀ H:Hp,Only H→SqL K H a (ns.map V.int)→HOk P w H s₁.heap→(∀ b,H b≠none→b=a)→(H a≠none→K.lookup a=none) →
   codeAny (model P w) callerA (.call (.ref fa) ⟨[.ref a],[]⟩) (fun r s'=>r=.ok (.ret (.bool true))∧OldK s₁.heap s'.heap∧s'.os=s₁.os∧AllBare s'.gens) s₁:=by
  intro H hO hS hok hA hK
  have base_of:∀ {b:Addr} {o:Obj},s₁.heap.get? b=some o→H b=none→(hidT s₁.heap H).get? b=some o:=fun e n=>akk e n
  have noA:∀ {b:Addr} {o:Obj} {es:Array DictEntry} {ep:Nat},s₁.heap.get? b=some o→o.data=.dict es ep→H b=none:=fun {b o es ep} e d=>by
   cases q:H b with
   | none=>rfl
   | some u =>
    have e':b=a:=hA b (by rw [q]; simp)
    subst e'
    rw [ha] at e; cases e
    have d':Data.seq vs.toArray _=Data.dict es ep:=d
    cases d'
  have nsK:∀ {b:Addr} {m:Str→Option Value},s₁.heap.Ns b m→(hidT s₁.heap H).Ns b m:=fun {b m} ⟨o,es,ep,e,d,r⟩=>⟨o,es,ep,base_of e (noA e d),d,r⟩
  have hKb:K.In (hidT s₁.heap H):=fun b o e=>base_of (KX b o e) (by
   cases q:H b with
   | none=>rfl
   | some u =>
    have e':b=a:=hA b (by rw [q]; simp)
    subst e'
    rw [hK (by rw [q]; simp)] at e; cases e)
  have hM:Mod K mg (hidT s₁.heap H):=⟨hKb,nsK hns,⟨mb,nsK hb,hbb⟩,let ⟨mc,h1,h2⟩:=hlim; ⟨mc,nsK h1,h2⟩⟩
  have e0:Env0 P w K mg (hidT s₁.heap H) callerA [] s₁ H:=⟨rfl,hM,fun b o e=>amp e,Nat.le_of_eq (aiu _ _),trivial,fun b hb=>absurd (show b∈([]:List Addr) from hb) (by simp),hok,.of_eq hg⟩
  refine codeAny_mono ((F _ hKb (nsK hns)).run callerA [] s₁ H ⟨[.ref a],[]⟩ [.ref a] [.ref a] _ _ hr e0 (hbind s₁ (.ref a)) (.cons rfl .nil) (hsp H hO hS)) fun r s' h=>?_
  cases r with
  | error e=>exact (hCX H e s' h).elim
  | ok fl =>
   cases fl with
   | next=>exact False.elim h
   | brk=>exact False.elim h
   | cont=>exact False.elim h
   | ret u =>
    obtain ⟨v,H',os,bare,un,hok',r',q⟩:=h
    have q':v=.bl true:=q
    subst q'
    obtain rfl:u=Value.bool true:=r'
    refine ⟨rfl,OldK.of_keep fun b o e=>?_,os,bare⟩
    cases q:H b with
    | none=>exact un.keep b o e q (by intro z; exact absurd (show b∈([]:List Addr) from z) (by simp)) (by simp)
    | some u =>
     rcases hO b with z | ⟨ob,xs,z⟩
     ·rw [q] at z; cases z
     ·have z2:=un.frzs b ob _ z
      obtain ⟨e1,_⟩:=hok b _ z
      obtain ⟨e2,_⟩:=hok' b _ z2
      rw [e] at e1; cases e1
      exact e2
 cases hk:K.lookup a with
 | some o =>
  -- the script is one of the module's own objects
  have e:=KX a o hk
  rw [ha] at e
  cases e
  refine core (fun _=>none) (fun _=>.inl rfl) (.inr ⟨_,vs.toArray,_,hk,rfl,rfl,rfl,by rw [List.size_toArray,lenV]; exact hl,by simpa using rv⟩) (fun b u z=>by have z':(none:Option HO)=some u:=z; cases z') (fun b z=>absurd rfl z) fun z=>absurd rfl z
 | none =>
  refine core (fun b=>if b=a then some (.frz { cls:=.type "list",data:=.seq vs.toArray } (.lst (ns.map V.int))) else none) (fun b=>?_) (.inl (.inr ⟨{ cls:=.type "list",data:=.seq vs.toArray },if_pos rfl⟩)) (fun b u z=>?_) (fun b z=>?_) fun _=>hk
  ·by_cases hb:b=a
   ·exact .inr ⟨_,_,if_pos hb⟩
   ·exact .inl (if_neg hb)
  ·by_cases hb:b=a
   ·have z':=(if_pos hb).symm.trans z
    cases z'
    subst hb
    exact ⟨ha,by rw [List.length_map]; exact hl,vs,_,rv,ha⟩
   ·have z':=(if_neg hb).symm.trans z
    cases z'
  ·by_cases hb:b=a
   ·exact hb
   ·exact absurd (if_neg hb) z
end L2
namespace L2
open PySem PySem.Spec PyProof.Rows
theorem walk_of {l:PySem.W.OpenLaw} {n k:Nat} {q:Program} {loose:List Str} {XP:(Str→Option Value)→Heap→Prop} {YP:World→Heap→Prop} {d:DefRec} {K:Params→PySem.W.Frag} {CX:World→CXT} {sp:World→Sp} {x:Str}
  (hn:l.most=some n) (hn2:n≤sizeLine) (hdf:d.params.defaults=[]) (hr:Room k callerA)
  (hY:∀ (w:World) (h:Heap),YP w h→(K w.params).In h)
  (F:∀ (w:World) (mg:Str→Option Value) (fa:Addr) (h:Heap),(K w.params).In h→h.Ns mainGlobals mg→mg d.name=some (.ref fa) →
   ∃ fd:FuncData,(∀ (s:Shared) (u:Value),BindsTo s fd ⟨[u],[]⟩ [(x,u)]) ∧
    ∀ base:Heap,(K w.params).In base→base.Ns mainGlobals mg→FnOk l.prog w (K w.params) mg base (CX w) k fa fd [x] (sp w))
  (hsp:∀ (w:World) (H:Hp) (a:Addr) (ns:List Int),ns.length≤n→Only H→SqL (K w.params) H a (ns.map V.int)→sp w [.ref a] H (fun v _=>v=.bl true) fun _ _ _=>False)
  (hCX:∀ (w:World) (H:Hp) (s:Shared) (e:Value) (s':Shared),CX w [] H s (fun _ _ _=>False) e s'→False) :
  PySem.W.WalkO q loose XP YP l.row.toRowW d [] (fun f vs=>PySem.call f vs):=by
 refine Att.attach_call hn hdf fun w s₀ s₁ mg mb fa o pm cd doc a vs ns G Y ho hd hcd hmg hobj hints hlen hg=>?_
 have KX:=hY w _ Y
 obtain ⟨fd,hb,hF⟩:=F w mg fa _ KX G.T.g hmg
 exact akD KX G.T.g G.T.b G.T.builtins G.T.nolimit hg hobj hints (Nat.le_trans hlen hn2) hr hF hb (fun H hO hS=>hsp w H a ns hlen hO hS) fun H e s'=>hCX w H s₁ e s'
end L2
namespace L2
open PySem PySem.Spec PyProof.Rows
abbrev CX0:CXT:=fun _ _ _ _ _ _=>False
abbrev E0:XK:=fun _ _ _=>False
theorem alP {X:Cx}:adU CX0 X E0:=fun _ _ _ _ _ _ _ h=>h.elim
structure Fun (K:PySem.W.Frag) (x qual:Str) (st:Stmt) (f:Addr) (fd:FuncData):Prop where
 ex:∃ (oc:Value) (od:Option Addr) (kV doc pm:Value) (an:Option Addr) (cdv ct:Value) (osl:Array (Option Value)),
  fd=PySem.W.fnOf x qual (aaz st) (aat st) (aad st) .none kV doc pm an cdv ct∧K.lookup f=some ⟨oc,od,.func fd,osl⟩∧PySem.W.codeIn K cdv qual=true
 kp:PySem.W.keepIn K (.ref f)=true
section
variable {P:Program} {w:World} {K:PySem.W.Frag} {mg:Str→Option Value} {base:Heap}
theorem Fun.ok {x qual:Str} {st:Stmt} {f:Addr} {fd:FuncData} {N ps:List Str} {k:Nat} {sp:Sp} (F:Fun K x qual st f fd) (S:aaA N ps (aad st)) (len:∀ vs H Q E,sp vs H Q E→vs.length=ps.length)
  (hbody:∀ (cdv:Value) (A:Around) (outer:List Env) (s:Shared) (H:Hp) (vs:List V) (Q:VK) (E:XK),Room k (A.deeper (envOfC qual (aad st) s.heap.objs.size f cdv))→sp vs H Q E →
   ∃ t,PSs (cxOf CX0 P w K mg base N qual (aad st) f cdv A outer s H E).nox (aat st) t∧t { nx:=fun _ H'=>Q .non H',rt:=Q } (start N vs) H):FnOk P w K mg base CX0 (k+1) f fd ps sp:=by
 obtain ⟨oc,od,kV,doc,pm,an,cdv,ct,osl,rfl,lk,hcd⟩:=F.ex
 refine akH lk hcd S len fun A outer s H vs Q E hr hsp=>?_
 obtain ⟨t,h,q⟩:=hbody cdv A outer s H vs Q E hr hsp
 exact ⟨t,h.nox,q⟩
theorem Fun.binds {x qual:Str} {st:Stmt} {f:Addr} {fd:FuncData} {ps:List Str} (F:Fun K x qual st f fd)
  (h:∀ (kV doc pm:Value) (an:Option Addr) (cdv ct:Value) (us:List Value),us.length=ps.length→bindArgs (PySem.W.fnOf x qual (aaz st) (aat st) (aad st) .none kV doc pm an cdv ct) ⟨us,[]⟩=pure (ps.zip us)):acL K fd ps []:=by
 obtain ⟨oc,od,kV,doc,pm,an,cdv,ct,osl,rfl,lk,hcd⟩:=F.ex
 exact .all (h kV doc pm an cdv ct)
theorem aa2 {x qual:Str} {st:Stmt} {f:Addr} {oc:Value} {od an:Option Addr} {osl:Array (Option Value)} {kV doc pm cdv ct:Value} (l:K.lookup f=some ⟨oc,od,.func (PySem.W.fnOf x qual (aaz st) (aat st) (aad st) .none kV doc pm an cdv ct),osl⟩)
  (c:PySem.W.codeIn K cdv qual=true) (k:PySem.W.keepIn K (.ref f)=true):Fun K x qual st f (PySem.W.fnOf x qual (aaz st) (aat st) (aad st) .none kV doc pm an cdv ct):=⟨⟨oc,od,kV,doc,pm,an,cdv,ct,osl,rfl,l,c⟩,k⟩
end
section
variable {X:Cx}
theorem pv (i:Nat) {x:Str} {pos:Pos} (hN:X.N[i]?=some x:=by rfl) (hv:Vis X.env.scope x:=by first | exact Or.inl rfl | exact Or.inr (Or.inl rfl) | exact Or.inr (Or.inr rfl)) (hd:(x == ("__debug__":Str))=false:=by decide)
  (hcd:(x == ("__classdict__":Str))=false:=by decide):PE X (.Name x pos) (tVar i):=akT hN hv hd hcd
end
def Same (H H':Hp):Prop:=∀ b o,H b=some o→H' b=some o
theorem Same.refl (H:Hp):Same H H:=fun _ _ h=>h
theorem Same.free {H H':Hp} (e:Same H H') {l:Addr} (h:H' l=Option.none):H l=Option.none:=by
 cases q:H l with
 | none=>rfl
 | some o =>
  rw [e l o q] at h
  cases h
end L2
namespace Bn
def Bd (k:Nat) (i:Int):Prop:=i.natAbs < 2 ^ k
theorem Bd.mono {j k:Nat} {i:Int} (h:Bd j i) (l:j≤k):Bd k i:=Nat.lt_of_lt_of_le h (Nat.pow_le_pow_right (by decide) l)
theorem Bd.mul {j k:Nat} {a b:Int} (h:Bd j a) (g:Bd k b):Bd (j+k) (a*b):=by
 unfold Bd at *
 rw [Int.natAbs_mul,Nat.pow_add]
 exact Nat.mul_lt_mul'' h g
theorem Bd.add {k:Nat} {a b:Int} (h:Bd k a) (g:Bd k b):Bd (k+1) (a+b):=by
 unfold Bd at *
 rw [Nat.pow_succ]
 have:=Int.natAbs_add_le a b
 omega
theorem Bd.neg {k:Nat} {a:Int} (h:Bd k a):Bd k (-a):=by
 unfold Bd at *
 rw [Int.natAbs_neg]
 exact h
theorem Bd.sub {k:Nat} {a b:Int} (h:Bd k a) (g:Bd k b):Bd (k+1) (a - b):=by
 rw [Int.sub_eq_add_neg]
 exact h.add g.neg
theorem Bd.le {k:Nat} {a b:Int} (h:Bd k b) (l:a.natAbs≤b.natAbs):Bd k a:=Nat.lt_of_le_of_lt l h
theorem Bd.of {k n:Nat} {a:Int} (l:a.natAbs≤n) (h:n < 2 ^ k):Bd k a:=Nat.lt_of_le_of_lt l h
theorem Bd.log {k:Nat} {a:Int} (h:Bd k a) (hk:0 < k):a.natAbs.log2 < k:=by
 rcases Nat.eq_zero_or_pos a.natAbs with z | z
 ·rw [z]
  exact Nat.lt_of_le_of_lt (Nat.le_of_eq (by decide)) hk
 ·exact (Nat.log2_lt (Nat.ne_of_gt z)).mpr h
theorem agn (a:Int) {b:Int} (h:b≠0):(a.fmod b).natAbs < b.natAbs:=by
 rw [Int.fmod_eq_emod]
 have h1:=Int.emod_nonneg a h
 have h2:a % b < (b.natAbs:Int):=Int.emod_lt a h
 by_cases c:0≤b∨b ∣ a
 ·rw [if_pos c]
  omega
 ·rw [if_neg c]
  have hb:b < 0:=by omega
  have h3:a % b≠0:=fun z=>c (.inr (Int.dvd_of_emod_eq_zero z))
  have h4:b.natAbs=(-b).toNat:=by omega
  omega
theorem ahC (a b:Int):Int.gcd b (a.fmod b)=Int.gcd a b:=by
 rw [Int.fmod_def,Int.mul_comm,Int.gcd_sub_mul_right_right,Int.gcd_comm]
theorem ai7 (x:Int):(if x < 0 then -x else x)=(x.natAbs:Int):=by
 split <;> omega
end Bn
namespace Bn
def gl:List Int→Int→Int
 | [],g=>g
 | n :: r,g=>gl r (Int.gcd g n:Nat)
def low (ns:List Int):List Int:=if gl ns 0=0 then ns else ns.map (· / gl ns 0)
theorem am9:∀ (ns:List Int) (g:Int),0≤g→0≤gl ns g
 | [],_,h=>h
 | _ :: r,_,_=>am9 r _ (Int.natCast_nonneg _)
theorem akV (k:Int):∀ (ns:List Int) (g:Int),0≤g→gl (ns.map (k*·)) ((k.natAbs:Int)*g)=(k.natAbs:Int)*gl ns g
 | [],_,_=>rfl
 | n :: r,g,h=>by
  show gl (r.map (k*·)) ((Int.gcd ((k.natAbs:Int)*g) (k*n):Nat):Int)=(k.natAbs:Int)*gl r _
  have e:((Int.gcd ((k.natAbs:Int)*g) (k*n):Nat):Int)=(k.natAbs:Int)*((Int.gcd g n:Nat):Int):=by
   rcases Int.natAbs_eq k with q | q
   ·rw [← q,Int.gcd_mul_left]
    have:(k.natAbs:Int)=k:=q.symm
    push_cast
    rw [this]
   ·have e2:k*n=(k.natAbs:Int)*(-n):=by rw [Int.mul_neg,← Int.neg_mul,← q]
    rw [e2,Int.gcd_mul_left,Int.gcd_neg]
    push_cast
    simp
  rw [e]
  exact akV k r _ (Int.natCast_nonneg _)
theorem afB (k:Int) (ns:List Int):gl (ns.map (k*·)) 0=(k.natAbs:Int)*gl ns 0:=by
 have:=akV k ns 0 (Int.le_refl 0)
 rwa [Int.mul_zero] at this
theorem age {k:Int} (h:0 < k) (ns:List Int):gl ns 0≠0→low (ns.map (k*·))=low ns:=fun z=>by
 have hk:(k.natAbs:Int)=k:=by omega
 have e:=afB k ns
 rw [hk] at e
 have nz:k*gl ns 0≠0:=Int.mul_ne_zero (by omega) z
 unfold low
 rw [e,if_neg nz,if_neg z,List.map_map]
 refine List.map_congr_left fun n _=>?_
 show k*n / (k*gl ns 0)=n / gl ns 0
 exact Int.mul_ediv_mul_of_pos _ _ h
theorem ac5:∀ (ns:List Int) (g:Int),gl ns g ∣ g∧∀ n∈ns,gl ns g ∣ n
 | [],g=>⟨Int.dvd_refl g,fun _ h=>nomatch h⟩
 | m :: r,g=>by
  obtain ⟨h1,h2⟩:=ac5 r ((Int.gcd g m:Nat):Int)
  refine ⟨Int.dvd_trans h1 (Int.gcd_dvd_left ..),fun n hn=>?_⟩
  rcases List.mem_cons.mp hn with q | q
  ·subst q
   exact Int.dvd_trans h1 (Int.gcd_dvd_right ..)
  ·exact h2 n q
theorem alW {ns:List Int} (h:gl ns 0=0):∀ n∈ns,n=0:=fun n hn=>by
 have:=(ac5 ns 0).2 n hn
 rw [h] at this
 exact Int.zero_dvd.mp this
theorem akc {ns:List Int} {n:Int} (hn:n∈ns) (h:n≠0):gl ns 0≠0:=fun z=>h (alW z n hn)
theorem akY {ns:List Int} {n:Int} (hn:n∈ns) (h:n≠0):0 < gl ns 0:=by
 have h1:=am9 ns 0 (Int.le_refl 0)
 have h2:=akc hn h
 omega
theorem ak5 {ns:List Int} {n:Int} (hn:n∈ns) (h:n≠0):low ns=ns.map (· / gl ns 0):=by
 unfold low
 rw [if_neg (akc hn h)]
theorem Bd.gcd {k:Nat} {a b:Int} (h:Bd k a) (g:Bd k b):Bd k (Int.gcd a b:Nat):=by
 unfold Bd at *
 rw [Int.natAbs_natCast]
 rcases Nat.eq_zero_or_pos a.natAbs with z | z
 ·have:a=0:=by omega
  subst this
  rw [Int.gcd_zero_left]
  exact g
 ·exact Nat.lt_of_le_of_lt (Nat.gcd_le_left _ z) h
theorem aj3 {k:Nat}:∀ {ns:List Int} {g:Int},Bd k g→(∀ n∈ns,Bd k n)→Bd k (gl ns g)
 | [],_,h,_=>h
 | n :: r,g,h,hn=>by
  show Bd k (gl r _)
  exact aj3 (ns:=r) (h.gcd (hn n List.mem_cons_self)) fun m hm=>hn m (List.mem_cons_of_mem _ hm)
theorem aiy {k:Nat} {ns:List Int} (h:∀ n∈ns,Bd k n):∀ n∈low ns,Bd k n:=fun n hn=>by
 unfold low at hn
 by_cases c:gl ns 0=0
 ·rw [if_pos c] at hn
  exact h n hn
 ·rw [if_neg c] at hn
  obtain ⟨m,hm,rfl⟩:=List.mem_map.mp hn
  refine (h m hm).le ?_
  have d:=(ac5 ns 0).2 m hm
  obtain ⟨q,e⟩:=d
  rw [e,Int.mul_ediv_cancel_left _ c,Int.natAbs_mul]
  exact Nat.le_mul_of_pos_left _ (by omega)
def fr (t b:Int):List Int:=if b < 0 then low [0 - t,0 - b] else low [t,b]
theorem mem2 (a b:Int):b∈[a,b]:=List.mem_cons_of_mem _ List.mem_cons_self
theorem aoE {t b:Int} (h:b≠0):∃ p q:Int,fr t b=[p,q]∧0 < q∧p*b=t*q:=by
 have go:∀ {t b:Int},0 < b→∃ p q:Int,low [t,b]=[p,q]∧0 < q∧p*b=t*q:=fun {t b} hb=>by
  have nz:b≠0:=by omega
  have gp:=akY (mem2 t b) nz
  refine ⟨t / gl [t,b] 0,b / gl [t,b] 0,ak5 (mem2 t b) nz,?_,?_⟩
  ·obtain ⟨m,e⟩:=(ac5 [t,b] 0).2 b (mem2 t b)
   have:b / gl [t,b] 0=m:=by
    conv=>lhs; lhs; rw [e]
    exact Int.mul_ediv_cancel_left _ (by omega)
   rw [this]
   have hm:0 < m*gl [t,b] 0:=by rw [Int.mul_comm,← e]; exact hb
   exact Int.pos_of_mul_pos_left hm gp
  ·obtain ⟨m,e⟩:=(ac5 [t,b] 0).2 b (mem2 t b)
   obtain ⟨n,f⟩:=(ac5 [t,b] 0).2 t List.mem_cons_self
   have e1:b / gl [t,b] 0=m:=by
    conv=>lhs; lhs; rw [e]
    exact Int.mul_ediv_cancel_left _ (by omega)
   have e2:t / gl [t,b] 0=n:=by
    conv=>lhs; lhs; rw [f]
    exact Int.mul_ediv_cancel_left _ (by omega)
   rw [e1,e2]
   conv=>lhs; rhs; rw [e]
   conv=>rhs; lhs; rw [f]
   rw [Int.mul_left_comm,Int.mul_assoc]
 unfold fr
 by_cases c:b < 0
 ·rw [if_pos c]
  obtain ⟨p,q,e1,e2,e3⟩:=go (t:=0 - t) (b:=0 - b) (by omega)
  refine ⟨p,q,e1,e2,?_⟩
  rw [Int.zero_sub,Int.zero_sub,Int.mul_neg,Int.neg_mul] at e3
  omega
 ·rw [if_neg c]
  exact go (by omega)
def sg (n:Int):Int:=if 0 < n then 1 else if n < 0 then -1 else 0
theorem aki (b:Int):-(2 ^ 64) < sg b∧sg b < 2 ^ 64:=by
 unfold sg
 split
 ·decide
 ·split <;> decide
theorem ahN {g n:Int} (h:g≠0):(g*n).fdiv g=n:=by
 rw [Int.fdiv_eq_ediv_of_dvd ⟨n,rfl⟩,Int.mul_ediv_cancel_left _ h]
theorem aiG (n:Int):∀ (l:List Int) (g:Int),gl (l++[n]) g=(Int.gcd (gl l g) n:Nat)
 | [],g=>rfl
 | m :: r,g=>aiG n r _
theorem akE {k m:Int} (hk:0 < k) (hm:0 < m) {A B:List Int} (hA:gl A 0≠0) (e:A.map (k*·)=B.map (m*·)):low A=low B:=by
 have hB:gl B 0≠0:=fun z=>by
  have h:=afB k A
  rw [e,afB m B,z,Int.mul_zero] at h
  have:(k.natAbs:Int)*gl A 0≠0:=Int.mul_ne_zero (by omega) hA
  exact this h.symm
 rw [← age hk A hA,e,age hm B hB]
theorem ak4 (b:Int):∀ (ns:List Int) (g:Int),gl ns (Int.gcd g b:Nat)=(Int.gcd (gl ns g) b:Nat)
 | [],_=>rfl
 | n :: r,g=>by
  show gl r ((Int.gcd ((Int.gcd g b:Nat):Int) n:Nat):Int)=((Int.gcd (gl r _) b:Nat):Int)
  rw [← ak4 b r,Int.gcd_assoc,Int.gcd_comm b n,← Int.gcd_assoc]
theorem agM {ns:List Int} {b:Int} (hb:0 < b):gl (ns++[b]) 0=gl ns b:=by
 rw [aiG,← ak4,Int.gcd_zero_left]
 congr 1
 omega
theorem ab5 (ns:List Int) (b:Int):b∈ns++[b]:=List.mem_append_right _ List.mem_cons_self
theorem anC {ns:List Int} {b:Int} (hb:0 < b):low (ns++[b])=(ns.map fun n=>n.fdiv (gl ns b))++[b.fdiv (gl ns b)]∧0 < gl ns b:=by
 have gp:=akY (ab5 ns b) (by omega)
 rw [agM hb] at gp
 refine ⟨?_,gp⟩
 rw [ak5 (ab5 ns b) (by omega),agM hb,List.map_append]
 have e:∀ n:Int,n / gl ns b=n.fdiv (gl ns b):=fun n=>(Int.fdiv_eq_ediv_of_nonneg n (Int.le_of_lt gp)).symm
 simp only [e,List.map_cons,List.map_nil]
theorem ahb (ns:List Int) {b:Int} (hb:0 < b):∃ (zs:List Int) (z g:Int),low (ns++[b])=zs++[z]∧0 < g∧0 < z∧ns=zs.map (g*·)∧b=g*z∧zs.length=ns.length:=by
 obtain ⟨e,gp⟩:=anC (ns:=ns) hb
 have dv:=ac5 (ns++[b]) 0
 rw [agM hb] at dv
 have ex:∀ n∈ns++[b],gl ns b*n.fdiv (gl ns b)=n:=fun n hn=>by
  obtain ⟨q,e⟩:=dv.2 n hn
  conv=>lhs; rhs; rw [e]
  rw [ahN (by omega)]
  exact e.symm
 refine ⟨_,_,gl ns b,e,gp,?_,?_,(ex b (ab5 ns b)).symm,List.length_map _⟩
 ·have h:=ex b (ab5 ns b)
  have:0 < b.fdiv (gl ns b)*gl ns b:=by rw [Int.mul_comm,h]; exact hb
  exact Int.pos_of_mul_pos_left this gp
 ·rw [List.map_map]
  conv=>lhs; rw [← List.map_id ns]
  refine List.map_congr_left fun n hn=>?_
  exact (ex n (List.mem_append_left _ hn)).symm
theorem agH (ns:List Int) {b:Int} (hb:0 < b):low (low (ns++[b]))=low (ns++[b]):=by
 obtain ⟨zs,z,g,e,hg,hz,e1,e2,_⟩:=ahb ns hb
 rw [e]
 refine akE (k:=g) (m:=1) hg (by decide) (akc (ab5 zs z) (by omega)) ?_ |>.trans e
 rw [List.map_append,← e1]
 show ns++[g*z]=(ns++[b]).map (1*·)
 rw [← e2]
 conv=>lhs; rw [← List.map_id (ns++[b])]
 refine List.map_congr_left fun n _=>?_
 exact (Int.one_mul n).symm
end Bn
namespace Bn
def sm (xs:List Int) (w:Int) (ys:List Int) (v:Int):List Int:=List.zipWith (fun x y=>x*v+y*w) xs ys
theorem anG {xs ys:List Int} {f g:Int→Int→Int} (h:∀ x y,f x y=g x y):List.zipWith f xs ys=List.zipWith g xs ys:=by
 have:f=g:=funext fun x=>funext fun y=>h x y
 rw [this]
theorem aie (xs:List Int) (w:Int) (ys:List Int) (v:Int):List.zipWith (fun x y=>1*x*v+y*w) xs ys=sm xs w ys v:=anG fun x y=>by rw [Int.one_mul]
theorem agJ (xs:List Int) (w:Int) (ys:List Int) (v:Int):List.zipWith (fun y x=>-1*y*w+x*v) ys xs=sm xs w (ys.map (- ·)) v:=by
 unfold sm
 rw [List.zipWith_map_right,List.zipWith_comm]
 refine anG fun x y=>?_
 rw [Int.neg_mul,Int.one_mul]
 exact Int.add_comm _ _
theorem anL {xs ys:List Int} {w v:Int} (h:xs.length=ys.length):(sm xs w ys v).length=xs.length:=by
 unfold sm
 rw [List.length_zipWith]
 omega
end Bn
namespace L2
open PySem PySem.Spec PyProof.Rows Bn
section
variable {X:Cx}
def CBig (i j:Int):Prop:=Bd 4000 i∧Bd 4000 j
theorem afN {k:Nat} {i:Int} (h:Bd k i):Builtin.Int.intBits i≤k:=by
 unfold Builtin.Int.intBits
 split
 ·exact Nat.zero_le _
 ·rename_i c
  have z:i.natAbs≠0:=by
   intro q
   have:i=0:=by omega
   subst this
   exact c rfl
  have:=(Nat.log2_lt z).mpr h
  omega
theorem CBig.ok {i j:Int} (h:CBig i j):IntMulOk i j:=by
 have h1:=afN h.1
 have h2:=afN h.2
 unfold IntMulOk Builtin.Int.intTooBig bitsLine
 intro c
 simp only [Bool.and_eq_true,decide_eq_true_eq] at c
 have:=c.2
 omega
def ah1 (_ j:Int):Prop:=j≠0∧Bd 8000 j
theorem ad0:OpR X (binaryOp .FloorDiv) (rI ah1 fun i j=>.int (i.fdiv j)) :=
 opI fun _ _ _ _ _ _ _ hc q=>floordiv_int hc.1 q (.inl (PyProof.noPylong_of_log2 (Nat.lt_trans (hc.2.log (by decide)) (by decide))))
theorem PS.imp {st:Stmt} {t t':TS} (h:PS X st t) (i:∀ D σ H,t' D σ H→t D σ H):PS X st t':=fun pins s σ H D I q=>h pins s σ H D I (i D σ H q)
theorem PSs.imp {st:List Stmt} {t t':TS} (h:PSs X st t) (i:∀ D σ H,t' D σ H→t D σ H):PSs X st t':=fun pins s σ H D I q=>h pins s σ H D I (i D σ H q)
theorem PE.imp {e:Expr} {t t':TE} (h:PE X e t) (i:∀ σ H Q,t' σ H Q→t σ H Q):PE X e t':=fun pins s σ H Q I q=>h pins s σ H Q I (i σ H Q q)
theorem PT.imp {e:Expr} {t t':TT} (h:PT X e t) (i:∀ σ H Q,t' σ H Q→t σ H Q):PT X e t':=fun pins s σ H Q I q=>h pins s σ H Q I (i σ H Q q)
theorem Inv.turnedNew {pins:List (Addr × Obj)} {σ:St} {H:Hp} {s:Shared} {h':Heap} {t':Nat} {ch:List Addr} {a:Addr} {o:HO} (I:Inv X pins σ H s) (hf:∀ b∈ch,FpOk X pins H b)
  (k:∀ b u,b ∉ ch→s.heap.get? b=some u→h'.get? b=some u) (hp:s.heap.objs.size≤a) (new:ach X.prog X.w (upd H a o) h' a o) :
  Inv X pins σ (upd H a o) { s with heap:=h',toks:=t' }:=by
 have hn:H a=none:=I.hok.fresh hp
 have nch:∀ b u,H b=some u→b ∉ ch:=fun b u e z=>by
  rw [(hf b z).1] at e
  cases e
 have nea:∀ b u,H b=some u→b≠a:=fun b u e=>aaG e hn
 refine I.step (g':=s.gens) (d':=s.drawn) (ch:=ch) (fun b hb=>?_) (fun b u _ _ hc e _=>k b u hc e) (fun b u _ _ hc e _=>⟨u.slots,k b u hc e⟩) (fun b u _ e n=>?_)
  (fun b u hc e=>⟨u,k b u hc e⟩) (fun b xs e=>?_) (fun b u v e=>?_) (fun b ps e=>⟨#[],?_⟩) (fun m hm=>?_) (fun b u e=>?_) I.bare
 ·obtain ⟨_,f1,_,f3,f4,f5⟩:=hf b hb
  exact ⟨f3,f1,f4,f5⟩
 ·rw [aaF (Nat.ne_of_lt (Nat.lt_of_lt_of_le (Heap.lt_size e) hp))]
  exact n
 ·rw [aaF (nea b _ e)]
  exact e
 ·rw [aaF (nea b _ e)]
  exact e
 ·rw [aaF (nea b _ e),e]
  simp
 ·obtain ⟨ob,es,ep,ho,r⟩:=hm
  exact ⟨ob,es,ep,k _ ob (fun z=>(hf _ z).2.1 rfl) ho,r⟩
 ·by_cases hb:b=a
  ·subst hb
   rw [abl] at e
   cases e
   exact new
  ·rw [aaF hb] at e
   refine (I.hok b u e).stay (fun c v hc q=>k c v ?_ q) (fun c q=>?_) fun c xs q=>?_
   ·rcases hc with z | z
    ·rw [z]
     exact nch b u e
    ·exact nch c _ z
   ·rw [aaF (nea c _ q)]
    exact q
   ·rw [aaF (nea c _ q)]
    exact q
theorem Inv.turnedL {pins:List (Addr × Obj)} {σ:St} {H:Hp} {s:Shared} {h':Heap} {t':Nat} {ch:List Addr} (I:Inv X pins σ H s) (hf:∀ b∈ch,FpOk X pins H b)
  (k:∀ b u,b ∉ ch→s.heap.get? b=some u→h'.get? b=some u):Inv X pins σ H { s with heap:=h',toks:=t' }:=by
 have nch:∀ b u,H b=some u→b ∉ ch:=fun b u e z=>by
  rw [(hf b z).1] at e
  cases e
 refine I.step (g':=s.gens) (d':=s.drawn) (ch:=ch) (fun b hb=>?_) (fun b u _ _ hc e _=>k b u hc e) (fun b u _ _ hc e _=>⟨u.slots,k b u hc e⟩) (fun b u _ e n=>n)
  (fun b u hc e=>⟨u,k b u hc e⟩) (fun b xs e=>e) (fun b u v e=>e) (fun b ps e=>⟨#[],?_⟩) (fun m hm=>?_) (fun b u e=>?_) I.bare
 ·obtain ⟨_,f1,_,f3,f4,f5⟩:=hf b hb
  exact ⟨f3,f1,f4,f5⟩
 ·rw [e]
  simp
 ·obtain ⟨ob,es,ep,ho,r⟩:=hm
  exact ⟨ob,es,ep,k _ ob (fun z=>(hf _ z).2.1 rfl) ho,r⟩
 ·refine (I.hok b u e).stay (fun c v hc q=>k c v ?_ q) (fun c q=>q) fun c xs q=>q
  rcases hc with z | z
  ·rw [z]
   exact nch b u e
  ·exact nch c _ z
end
def Ite (K : PySem.W.Frag) (a : Addr) : It :=
  ⟨fun i H => ∃ xs x, SqL K H a xs ∧ xs[i]? = some x,
   fun i H x H' => ∃ p y, H p = none ∧ x = .ref p ∧ H' = upd H p (.tup [.int i, y]) ∧ ∀ xs, SqL K H a xs → xs[i]? = some y,
   fun i H => ∃ xs, SqL K H a xs ∧ xs.length ≤ i⟩
theorem aiW {P:Program} {w:World} {K:PySem.W.Frag} {elts:List Expr} {x1:Nat} {tp:Pos} (a e it:Addr) (hne:e≠it) :
  Turn P w K (.Tuple elts x1 tp) (Ite K a) [e,it] e (fun i h=>(∃ old,IsEnum h e it (i:Int) old)∧h.IsListIter it a i) where
 mem:=by simp
 obj:=fun i h st b hb=>by
  obtain ⟨⟨old,q⟩,o,e1,c,d⟩:=st
  rcases List.mem_cons.mp hb with z | z
  ·subst z
   exact ⟨_,q,fun v z=>nomatch z⟩
  ·have z':b=it:=by simpa using z
   subst z'
   exact ⟨o,e1,fun v z=>by rw [d] at z; cases z⟩
 keep:=fun i h h' st k=>⟨let ⟨old,q⟩:=st.1; ⟨old,k e (by simp) _ q⟩,st.2.at fun o q=>k it (by simp) o q⟩
 item:=by
  intro X hP hw hK hc i pins s σ H E I hf st hg
  subst hP hw hK
  obtain ⟨xs,x,hq,hx⟩:=hg
  obtain ⟨its,rv,pl,hz⟩:=I.list hq
  obtain ⟨u,hu,ru⟩:=rv.get hx
  obtain ⟨⟨old,he⟩,hit⟩:=st
  refine wpAny_pyNext_enum_item he hit pl.isList (x:=u) (by simpa using hu) hne fun h1 ho1 hit1 ht1 hs1 hk1=>⟨_,rfl,?_⟩
  have lt1:e < s.heap.objs.size:=Heap.lt_size he
  refine wpAny_letOwnedTupleGo_enum (s:={ s with heap:=h1,toks:=s.toks+1 }) ho1 fun h2 he2 sb2=>?_
  have ht2:h2.get? s.heap.objs.size=some { cls:=.type "tuple",data:=.seq #[.int i s.toks,u] }:=(sb2.2 _ (Nat.ne_of_gt lt1)).trans ht1
  have I2:Inv X pins σ (upd H s.heap.objs.size (.tup [.int i,x])) { s with heap:=h2,toks:=s.toks+1 } :=
   I.turnedNew hf (fun b o hb q=>(sb2.2 b (fun z=>hb (by simp [z]))).trans (hk1 b o (fun z=>hb (by simp [z])) (fun z=>hb (by simp [z])) q)) (Nat.le_refl _)
    ⟨by show 2≤sizeLine; decide,[.int i s.toks,u],.cons ⟨_,rfl⟩ (.cons ru .nil),⟨_,ht2,rfl,_,rfl⟩⟩
  refine ⟨.ref s.heap.objs.size,_,I2,rfl,⟨_,x,I.hok.fresh (Nat.le_refl _),rfl,rfl,fun ys hy=>by rw [I.list_inj hy hq]; exact hx⟩,⟨⟨_,by simpa using he2⟩,hit1.at fun o q=>(sb2.2 it hne.symm).trans q⟩,fun b hb=>?_⟩
  have hb':=(hf b hb).1
  have lt:b≠s.heap.objs.size:=by
   rcases List.mem_cons.mp hb with z | z
   ·subst z
    exact Nat.ne_of_lt lt1
   ·have z':b=it:=by simpa using z
    subst z'
    obtain ⟨o,q,_⟩:=hit
    exact Nat.ne_of_lt (Heap.lt_size q)
  rw [aaF lt]
  exact hb'
 done:=by
  intro X hP hw hK hc i pins s σ H E I hf st hg
  subst hP hw hK
  obtain ⟨xs,hq,hx⟩:=hg
  obtain ⟨its,rv,pl,hz⟩:=I.list hq
  obtain ⟨⟨old,he⟩,hit⟩:=st
  have hl:=rv.length
  exact wpAny_pyNext_enum_end (I.ok.hd hc) he hit pl.isList (by simp; omega) fun h' eb=>⟨rfl,I.turnedL (t':=s.toks) hf fun b o hb q=>eb b o (fun z=>hb (by simp [z])) q⟩
 self:=fun _ _ _ _ _ st h=>let ⟨_,q⟩:=st.1; wpAny_pyIter_enum q h
section
variable {X:Cx} {elts:List Expr} {x1:Nat} {tp:Pos}
def aou (K:PySem.W.Frag) (tl:TA):TI:=fun σ H R=>tl σ H fun vs H1=>∃ a,vs=[.ref a]∧(∃ xs,SqL K H1 a xs)∧R (Ite K a) H1
theorem alQ {l:Expr} {tl:TA} {p pos:Pos} (hg:Gl X "enumerate") (hm:X.mg "enumerate"=none) (hl:PA X [l] tl) (hs:starEach [l] X.env=[(false,eval l X.env)]:=by rfl) :
  PI X (.Tuple elts x1 tp) (.Call (.Name "enumerate" p) [l] [] pos) (aou X.K tl):=by
 intro pins s σ H R I h
 refine Call_ (afh I hg hm boot_enumerate (PyProof.Rows.callWith_type1 (thn (hl pos pins s σ H _ I h) fun us s1 ⟨vs,H1,I1,r1,q1⟩=>?_) hs rfl))
 obtain ⟨a,rfl,⟨xs,hq⟩,q⟩:=q1
 obtain ⟨u,rfl,ru⟩:=agc r1
 cases ru
 obtain ⟨its,rv,pl,hz⟩:=I1.list hq
 refine call_enumerate_list pl.isList fun h' he hit hsz k=>?_
 have I2:Inv X pins σ H1 { s1 with heap:=h' }:=I1.kept (t':=s1.toks) k
 refine wpAny_pyIter_enum (s:={ s1 with heap:=h' }) he ?_
 refine ⟨s1.heap.objs.size+1,[s1.heap.objs.size+1,s1.heap.objs.size],_,_,H1,rfl,I2,aiW a _ _ (Nat.succ_ne_self _),⟨⟨_,he⟩,hit⟩,fun b hb=>?_,q⟩
 have hb':s1.heap.objs.size≤b:=by
  rcases List.mem_cons.mp hb with z | z
  ·rw [z]
   exact Nat.le_succ _
  ·have z':b=s1.heap.objs.size:=by simpa using z
   rw [z']
   exact Nat.le_refl _
 exact I1.fpOk hb' (I1.hok.fresh hb')
end
end L2
namespace L2
open PySem PySem.Spec PyProof.Rows Bn
def adB (env:Env):List (Str × NameKind)→List (Str × Addr)→List (Str × Addr)
 | [],acc=>acc
 | p :: r,acc=>if (p.2 == .free)=true then adB env r ((p.1,(env.cells.lookup p.1).getD 0) :: acc) else adB env r acc
theorem ai4 {sc:Scope} {env:Env} (h:∀ p∈sc.names,p.2=.free→∃ c,env.cells.lookup p.1=some c):closureFor sc env=pure (adB env sc.names []):=by
 unfold closureFor
 have go:∀ (l:List (Str × NameKind)) (acc:List (Str × Addr)),(∀ p∈l,p.2=.free→∃ c,env.cells.lookup p.1=some c) →
   (forIn l acc (fun x r=>if (x.2 == NameKind.free)=true then do let a ← cellOf env x.1; pure (ForInStep.yield ((x.1,a) :: r)) else pure (ForInStep.yield r)):Sem _)=pure (adB env l acc):=by
  intro l
  induction l with
  | nil=>intro acc _; rfl
  | cons p r ih =>
   intro acc hp
   rw [List.forIn_cons]
   have hr:=fun acc'=>ih acc' fun q hq=>hp q (List.mem_cons_of_mem _ hq)
   by_cases c:(p.2 == NameKind.free)=true
   ·obtain ⟨a,ea⟩:=hp p List.mem_cons_self (by simpa using c)
    have e1:cellOf env p.1=pure a:=by unfold cellOf; rw [ea]
    rw [if_pos c,e1]
    simp only [pure_bind]
    rw [hr]
    show _=pure (if (p.2 == .free)=true then _ else _)
    rw [if_pos c,ea]
    rfl
   ·rw [if_neg c]
    simp only [pure_bind]
    rw [hr]
    show _=pure (if (p.2 == .free)=true then _ else _)
    rw [if_neg c]
 have e:=go sc.names [] h
 show (forIn sc.names [] _ >>= fun r=>pure r)=_
 rw [bind_pure]
 exact e
theorem adH {env:Env}:∀ (l:List (Str × NameKind)) (acc:List (Str × Addr)),(∀ p∈l,p.2=.free→∃ c,env.cells.lookup p.1=some c) →
  ∀ y c,(adB env l acc).lookup y=some c→acc.lookup y=some c∨env.cells.lookup y=some c
 | [],acc,_,y,c,e=>.inl e
 | p :: r,acc,h,y,c,e=>by
  have hr:∀ q∈r,q.2=.free→∃ c,env.cells.lookup q.1=some c:=fun q hq=>h q (List.mem_cons_of_mem _ hq)
  unfold adB at e
  by_cases k:(p.2 == NameKind.free)=true
  ·rw [if_pos k] at e
   obtain ⟨a,ea⟩:=h p List.mem_cons_self (by simpa using k)
   rcases adH r _ hr y c e with z | z
   ·rw [List.lookup_cons] at z
    cases w:y == p.1 with
    | true =>
     rw [w,ea] at z
     have hy:y=p.1:=by simpa using w
     rw [hy,ea]
     exact .inr z
    | false =>
     rw [w] at z
     exact .inl z
   ·exact .inr z
  ·rw [if_neg k] at e
   exact adH r acc hr y c e
theorem adt {env:Env}:∀ (l:List (Str × NameKind)) (acc:List (Str × Addr)) (y:Str),((∃ c,acc.lookup y=some c)∨(y,NameKind.free)∈l)→∃ c,(adB env l acc).lookup y=some c
 | [],acc,y,h=>by
  rcases h with h | h
  ·exact h
  ·cases h
 | p :: r,acc,y,h=>by
  unfold adB
  by_cases k:(p.2 == NameKind.free)=true
  ·rw [if_pos k]
   refine adt r _ y ?_
   cases w:y == p.1 with
   | true=>exact .inl ⟨_,by rw [List.lookup_cons,w]⟩
   | false =>
    rcases h with ⟨c,h⟩ | h
    ·exact .inl ⟨c,by rw [List.lookup_cons,w]; exact h⟩
    ·rcases List.mem_cons.mp h with z | z
     ·rw [← z] at w
      simp at w
     ·exact .inr z
  ·rw [if_neg k]
   refine adt r _ y ?_
   rcases h with h | h
   ·exact .inl h
   ·rcases List.mem_cons.mp h with z | z
    ·rw [← z] at k
     simp at k
    ·exact .inr z
theorem adT {env:Env}:∀ {names:List (Str × NameKind)} {x:Str},(∀ y∈names,y.2≠.cell) →
  (let l:=(names.map fun (n,k)=>if (k == NameKind.free && env.scope.kind == .function && env.kindOf n == some .cell) then (n,NameKind.cell) else (n,k)).lookup x; l=some .cell∨l=some .free)→(x,NameKind.free)∈names
 | [],x,_,h=>by
  rcases h with h | h <;> cases h
 | (n,k) :: r,x,hc,h=>by
  dsimp only at h
  rw [List.map_cons] at h
  have ih:=@adT env r x fun y hy=>hc y (List.mem_cons_of_mem _ hy)
  have nk:k≠.cell:=hc (n,k) List.mem_cons_self
  by_cases c:(k == NameKind.free && env.scope.kind == .function && env.kindOf n == some .cell)=true
  ·have kf:k=.free:=by
    simp only [Bool.and_eq_true,beq_iff_eq] at c
    exact c.1.1
   dsimp only at h
   rw [if_pos c,List.lookup_cons] at h
   cases w:x == n with
   | true =>
    have hx:x=n:=by simpa using w
    rw [hx,← kf]
    exact List.mem_cons_self
   | false =>
    rw [w] at h
    exact List.mem_cons_of_mem _ (ih h)
  ·dsimp only at h
   rw [if_neg c,List.lookup_cons] at h
   cases w:x == n with
   | true =>
    rw [w] at h
    have hx:x=n:=by simpa using w
    have kf:k=.free:=by
     rcases h with h | h
     ·exact absurd (Option.some.inj h) nk
     ·exact Option.some.inj h
    rw [hx,← kf]
    exact List.mem_cons_self
   | false =>
    rw [w] at h
    exact List.mem_cons_of_mem _ (ih h)
def abw (X:Cx) (sc:Scope) (N:List Str) (C:Addr) (s₀:Shared) (H₀:Hp) (ex:List Addr):Cx where
 prog:=X.prog
 w:=X.w
 K:=X.K
 mg:=X.mg
 base:=X.base
 A:=X.A
 N:=N
 s₀:=s₀
 H₀:=H₀
 env:=compEnvC sc (adB X.env sc.names []) C X.env
 outer:=X.stack
 stack:=X.stack
 ex:=ex
 fn:=fun _=>false
 calm:=X.calm
 pn:=[]
 xe:=fun _ _=>False
def adX (own:List Str) (cap:List (Nat × Str)) (σ:St):St:=own.map (fun _=>none)++cap.map fun p=>(σ[p.1]?).join
def cmpN (own:List Str) (cap:List (Nat × Str)):List Str:=own++cap.map (·.2)
def cmpW (J:It) (g:TG) (te:TE) (σ₀:St) (H1:Hp) (D:Addr) (Q:VK):Prop :=
 ∃ W:Nat→Nat→St→Hp→List V→Prop,(∃ m,W 0 m σ₀ (upd H1 D (.lst [])) [])∧∀ i m σ H ys,W i m σ H ys→H D=some (.lst ys) ∧
  ((J.stop i H∧Q (.ref D) H)∨(J.go i H∧ys.length < sizeLine∧∀ x H2,J.yld i H x H2→g x σ H2 fun σ3 H3=>te σ3 H3 fun y H4=>H4 D=some (.lst ys)∧∃ m',m' < m∧W (i+1) m' σ3 (upd H4 D (.lst (ys++[y]))) (ys++[y])))
def aiA (own:List Str) (cap:List (Nat × Str)) (wi:TI) (g:TG) (te:TE):TE:=fun σ H Q=>wi σ H fun J H1=>∀ D,H1 D=none→cmpW J g te (adX own cap σ) H1 D Q
def Nx (n:Nat) (Pv:Nat→St→Hp→List V→Prop) (D:Addr) (i:Nat) (ys:List V) (σ:St) (y:V) (H:Hp):Prop :=
 H D=some (.lst ys)∧∃ m,m < n - i∧(m=n - (i+1)∧i+1≤n∧Pv (i+1) σ (upd H D (.lst (ys++[y]))) (ys++[y]))
theorem amF {n:Nat} {Pv:Nat→St→Hp→List V→Prop} {D:Addr} {i:Nat} {ys:List V} {σ:St} {y:V} {H:Hp} (h:i < n) (hD:H D=some (.lst ys)) (p:Pv (i+1) σ (upd H D (.lst (ys++[y]))) (ys++[y])):Nx n Pv D i ys σ y H :=
 ⟨hD,n - (i+1),by omega,rfl,h,p⟩
theorem aiz {J:It} {g:TG} {te:TE} {σ₀:St} {H1:Hp} {D:Addr} {Q:VK} (n:Nat) (hn:n≤sizeLine) (Pv:Nat→St→Hp→List V→Prop) (h0:Pv 0 σ₀ (upd H1 D (.lst [])) [])
  (hl:∀ i σ H ys,Pv i σ H ys→ys.length=i∧H D=some (.lst ys)) (hgo:∀ i σ H ys,i < n→Pv i σ H ys→J.go i H)
  (hs:∀ i σ H ys x H2,i < n→Pv i σ H ys→J.yld i H x H2→g x σ H2 fun σ3 H3=>te σ3 H3 fun y H4=>Nx n Pv D i ys σ3 y H4)
  (hd:∀ σ H ys,Pv n σ H ys→J.stop n H∧Q (.ref D) H):cmpW J g te σ₀ H1 D Q:=by
 refine ⟨fun i m σ H ys=>m=n - i∧i≤n∧Pv i σ H ys,⟨n,rfl,Nat.zero_le _,h0⟩,?_⟩
 rintro i m σ H ys ⟨rfl,hi,p⟩
 obtain ⟨l1,l2⟩:=hl i σ H ys p
 refine ⟨l2,?_⟩
 by_cases hlt:i < n
 ·exact .inr ⟨hgo i σ H ys hlt p,by omega,fun x H2 y=>hs i σ H ys x H2 hlt p y⟩
 ·have e:i=n:=by omega
  subst e
  exact .inl (hd σ H ys p)
section
variable {prog:Program} {w:World} {A:Around} {R:Result→Shared→Prop} {s:Shared}
theorem aiT {elt target iter:Expr} {sc:Scope} {pos:Pos} {it acc:Value} {env:Env} (I:Nat→Shared→Prop)
  (turn:∀ n s,I n s→wpAny (model prog w) A (pyNext it) (fun r s1=>match r with
   | none=>R (.ok .next) s1
   | some v=>wpAny (model prog w) A (letOwnedTupleGo target it v) (fun _ s2=>wpAny (model prog w) A (assign target env v) (fun _ s3=>wpAny (model prog w) A (eval elt env)
     (fun x s4=>wpAny (model prog w) A (call (.builtin "list.append") [acc,x]) (fun _ s5=>∃ m,m < n∧I m s5) (fun _ _=>False) s4) (fun _ _=>False) s3) (fun _ _=>False) s2) (fun _ _=>False) s1) (fun _ _=>False) s)
  (n:Nat) (h:I n s):codeAny (model prog w) A (.compLoop (.ListComp elt [⟨target,iter,[],0⟩] sc pos) 0 it acc env) R s:=by
 refine codeAny_loop rfl I (fun n s hI=>?_) n h
 show wpAny _ _ ((compTurn (.ListComp elt [⟨target,iter,[],0⟩] sc pos) 0 it acc env).onRaise (fun x=>do noteFrame x env; theTreesLotGoes x)) _ _ s
 refine wpAny_noted ?_
 rw [compTurn_list1]
 refine wpAny_bind (wpAny_standAt (wpAny_bind ?_))
 refine wpAny_mono (turn n s hI) (fun r s1 h1=>?_) fun _ _ z=>z.elim
 cases r with
 | none=>exact wpAny_pure h1
 | some v =>
  refine wpAny_bind (wpAny_mono h1 (fun _ s2 h2=>?_) fun _ _ z=>z.elim)
  refine wpAny_bind (wpAny_mono h2 (fun _ s3 h3=>?_) fun _ _ z=>z.elim)
  refine wpAny_bind (wpAny_bind (wpAny_mono h3 (fun x s4 h4=>?_) fun _ _ z=>z.elim))
  refine wpAny_bind (wpAny_mono h4 (fun _ s5 h5=>?_) fun _ _ z=>z.elim)
  exact wpAny_pure (wpAny_pure ⟨rfl,h5⟩)
end
structure adO (X:Cx) (sc:Scope) (own:List Str) (cap:List (Nat × Str)):Prop where
 kind:sc.kind=.function
 names:∀ y∈sc.names,y.2=.local→sc.names.lookup y.1=some .local
 nocell:∀ y∈sc.names,y.2≠.cell
 free:∀ y∈sc.names,y.2=.free→X.env.kindOf y.1=some .cell
 at':∀ p∈cap,X.N[p.1]?=some p.2
 cap:∀ p∈cap,sc.names.lookup p.2=some .free
section
variable {X:Cx} {sc:Scope} {own:List Str} {cap:List (Nat × Str)} {pins:List (Addr × Obj)} {σ:St} {H:Hp} {s:Shared}
theorem adO.has (k:adO X sc own cap) (ok:X.Ok):∀ p∈sc.names,p.2=.free→∃ c,X.env.cells.lookup p.1=some c:=fun p hp e=>ok.has p.1 (.inl (k.free p hp e))
theorem ael {env:Env}:∀ {names:List (Str × NameKind)} {x:Str},env.scope.kind=.function→names.lookup x=some .free→env.kindOf x=some .cell →
  (names.map fun (n,k)=>if (k == NameKind.free && env.scope.kind == .function && env.kindOf n == some .cell) then (n,NameKind.cell) else (n,k)).lookup x=some .cell
 | [],x,_,h,_=>by cases h
 | (n,k) :: r,x,hk,h,hx=>by
  rw [List.map_cons]
  dsimp only
  rw [List.lookup_cons] at h
  cases w:x == n with
  | true =>
   rw [w] at h
   have e:x=n:=by simpa using w
   have kf:k=.free:=Option.some.inj h
   have c:(k == NameKind.free && env.scope.kind == .function && env.kindOf n == some .cell)=true:=by
    rw [kf,hk,← e,hx]
    decide
   rw [if_pos c,List.lookup_cons,w]
  | false =>
   rw [w] at h
   have ih:=@ael env r x hk h hx
   by_cases c:(k == NameKind.free && env.scope.kind == .function && env.kindOf n == some .cell)=true
   ·rw [if_pos c,List.lookup_cons,w]
    exact ih
   ·rw [if_neg c,List.lookup_cons,w]
    exact ih
theorem Inv.cmp (k:adO X sc own cap) {h4:Heap} {fp:List Addr} {m:Str→Option Value} {t':Nat} (I:Inv X pins σ H s) (hf:∀ b∈fp,FpOk X pins H b) (hlt:∀ b∈fp,b < s.heap.objs.size) (hns:h4.Ns s.heap.objs.size m)
  (kp:∀ b o,s.heap.get? b=some o→h4.get? b=some o):Inv (abw X sc (cmpN own cap) s.heap.objs.size s H fp) [] (adX own cap σ) H { s with heap:=h4,toks:=t' }:=by
 have hcl:∀ y c,(adB X.env sc.names []).lookup y=some c→X.env.cells.lookup y=some c:=fun y c e=>by
  rcases adH sc.names [] (k.has I.ok) y c e with z | z
  ·cases z
  ·exact z
 have nst:∀ b∈fp,b ∉ frs X.stack:=fun b hb z=>by
  rcases List.mem_cons.mp (I.stkSub b z) with e | e
  ·exact (hf b hb).2.1 e
  ·exact (hf b hb).2.2.1 e
 refine ⟨⟨I.ok.mod,k.kind,I.ok.glob,I.ok.blt,Nat.le_refl _,fun x y c h1 h2=>I.ok.inj x y c (hcl x c h1) (hcl y c h2),fun x hx=>?_,fun x c e=>(nomatch e),I.ok.hd,I.ok.frames,.inl rfl,fun b hb=>⟨Nat.ne_of_lt (hlt b hb),fun x c e=>(hf b hb).2.2.2.2.1 x c (hcl x c e)⟩,
  I.bs,Nat.le_trans I.ok.bsz I.sz,fun b o e hb=>?_,nst,I.stack,I.stkFree⟩,rfl,I.bare,Un.kept kp,⟨m,hns,fun i x v h1 h2 h3=>?_⟩,fun x c e=>?_,I.hok.fresh (Nat.le_refl _),fun x c e=>I.freeC x c (hcl x c e),fun p hp=>absurd (show p∈([]:List (Addr × Obj)) from hp) (by simp),I.hok.kept kp,?_⟩
 ·exact adt sc.names [] x (.inr (adT k.nocell hx))
 ·rcases (hf b hb).2.2.2.1 with z | z
  ·exact I.ok.noex b o e z
  ·exact absurd (Nat.lt_of_lt_of_le (Heap.lt_size (I.ok.bs b o e).1) z) (Nat.lt_irrefl _)
 ·have hN:(cmpN own cap)[i]?=some x:=h1
  unfold cmpN at hN
  unfold adX at h2
  by_cases hi:i < own.length
  ·rw [List.getElem?_append_left (by simpa using hi),List.getElem?_map] at h2
   cases e:own[i]? with
   | none=>rw [e] at h2; cases h2
   | some z=>rw [e] at h2; cases h2
  ·rw [List.getElem?_append_right (by simpa using hi),List.getElem?_map,List.length_map] at h2
   rw [List.getElem?_append_right (by omega),List.getElem?_map] at hN
   cases e:cap[i - own.length]? with
   | none=>rw [e] at h2; cases h2
   | some p =>
    rw [e] at h2 hN
    have hp:p∈cap:=List.mem_of_getElem? e
    have hx:p.2=x:=Option.some.inj hN
    have hv:(σ[p.1]?).join=some v:=Option.some.inj h2
    have hv':σ[p.1]?=some (some v):=by
     cases e2:σ[p.1]? with
     | none=>rw [e2] at hv; cases hv
     | some z=>rw [e2] at hv; exact congrArg some hv
    have fr:=k.cap p hp
    have kc:X.env.kindOf p.2=some .cell:=k.free (p.2,.free) (PySem.mem_of_lookup fr) rfl
    obtain ⟨m0,_,hl⟩:=I.loc
    obtain ⟨u,ru,lk⟩:=hl p.1 p.2 v (k.at' p hp) hv' (.inr (.inl kc))
    refine ⟨u,ru,?_⟩
    rcases lk with ⟨k1,_⟩ | ⟨_,c,ec,cell⟩
    ·rw [kc] at k1
     cases k1
    ·rw [← hx]
     obtain ⟨c',ec'⟩:=adt (env:=X.env) sc.names [] p.2 (.inr (PySem.mem_of_lookup fr))
     have:=(hcl _ _ ec').symm.trans ec
     cases this
     obtain ⟨o,ho,hd⟩:=cell
     exact .inr ⟨.inl (ael I.ok.kind fr kc),c,ec',o,kp c o ho,hd⟩
 ·obtain ⟨v,o,ho,hd⟩:=I.cell x c (hcl x c e)
  exact ⟨v,o,kp c o ho,hd⟩
 ·unfold adX
  show _=(cmpN own cap).length
  unfold cmpN
  rw [List.length_append,List.length_append,List.length_map,List.length_map,List.length_map]
theorem Inv.uncmp {s3 s':Shared} {H3 H':Hp} {N:List Str} {σ':St} {C:Addr} {fp:List Addr} {pl:List (Addr × Obj)} (I:Inv X pins σ H s) (hf:∀ b∈fp,FpOk X pins H b) (u:Un (frs X.stack) fp H H3 s.heap s3.heap) (os:s3.os=s.os)
  (J:Inv (abw X sc N C s3 H3 fp) pl σ' H' s'):Inv X pins σ H' s':=by
 have os':s'.os=s.os:=(show s'.os=s3.os from J.os).trans os
 refine I.call' (ch:=fp) os' (u.trans J.base) J.hok J.bare fun b hb=>?_
 obtain ⟨_,f1,_,f3,f4,f5⟩:=hf b hb
 exact ⟨f3,f1,f4,f5⟩
end
end L2
namespace L2
open PySem PySem.Spec PyProof.Rows Bn
section
variable {X:Cx} {sc:Scope} {own:List Str} {cap:List (Nat × Str)} {pins:List (Addr × Obj)} {σ:St} {H:Hp} {s:Shared} {elt target iter:Expr} {pos pos':Pos} {wi:TI} {g:TG} {te:TE} {Q:VK}
theorem af6 {use:Option (Value→Sem Unit)} {Qf:Value→Shared→Prop} (k:adO X sc own cap) (hi:PI X target iter wi) (hc:X.calm=true)
  (hg:∀ C s₀ H₀ ex,PG (abw X sc (cmpN own cap) C s₀ H₀ ex) target g) (he:∀ C s₀ H₀ ex,PE (abw X sc (cmpN own cap) C s₀ H₀ ex) elt te) (I:Inv X pins σ H s) (h:aiA own cap wi g te σ H Q)
  (fin:∀ D C s' H' m,Inv X pins σ H' s'→FpOk X pins H' C→s'.heap.Ns C m→Q (.ref D) H'→compPost (model X.prog X.w) X.A X.xe use Qf (.ref D) C (.ok .next) s')
  (hs:∀ x,foldedSetIterable iter X.env x=pure x) :
  wpAny (model X.prog X.w) X.A (comprehension (.ListComp elt [⟨target,iter,[],0⟩] sc pos) sc X.env pos' (newList []) false (eval iter X.env) use) Qf X.xe s:=by
 refine wpAny_comprehension_free (use:=use) rfl hs (ai4 (k.has I.ok)) k.kind k.names ?_
 refine thn (hi pins s σ H _ I h) fun v s1 h1=>thn h1 fun itv s2 h2=>?_
 obtain ⟨it,fp,tn,J,H2,e,I2,T,st2,f2,hW⟩:=h2
 subst e
 refine wpAny_newObj_type (wpAny_newFunctionEnv k.nocell (fun y hy=>nomatch hy) (fun h4 hns hsb=>?_) k.kind)
 have I3:Inv X pins σ (upd H2 s2.heap.objs.size (.lst [])) { s2 with heap:=s2.heap.push { cls:=.type "list",data:=.seq ([]:List Value).toArray },toks:=s2.toks }:=I2.lnew (ys:=[]) (its:=[]) .nil (Nat.zero_le _)
 have hD:H2 s2.heap.objs.size=none:=I2.fresh
 have ltf:∀ b∈fp,b < s2.heap.objs.size:=fun b hb=>by
  obtain ⟨o,ho,_⟩:=T.obj _ _ st2 b hb
  exact Heap.lt_size ho
 have f3:∀ b∈fp,FpOk X pins (upd H2 s2.heap.objs.size (.lst [])) b:=fun b hb=>⟨by rw [aaF (Nat.ne_of_lt (ltf b hb))]; exact (f2 b hb).1,(f2 b hb).2⟩
 have un:Un (frs X.stack) fp H2 (upd H2 s2.heap.objs.size (.lst [])) s2.heap (s2.heap.push { cls:=.type "list",data:=.seq ([]:List Value).toArray }):=Un.laid (fun b u q=>Heap.get?_push_of_some _ q) (Nat.le_refl _) hD
 have kp:∀ b o,(s2.heap.push { cls:=.type "list",data:=.seq ([]:List Value).toArray }).get? b=some o→h4.get? b=some o:=fun b o q=>hsb.extBut b o (Nat.ne_of_lt (Heap.lt_size q)) (Heap.get?_push_of_some _ q)
 have J0:=I3.cmp (t':=s2.toks+([]:List (Str × Value)).length) k f3 (fun b hb=>Nat.lt_of_lt_of_le (ltf b hb) (by rw [Heap.size_push]; exact Nat.le_succ _)) hns kp
 have stat:∀ {H':Hp},(∀ b∈fp,H' b=none)→∀ b∈fp,FpOk (abw X sc (cmpN own cap) (s2.heap.push { cls:=.type "list",data:=.seq ([]:List Value).toArray }).objs.size { s2 with heap:=s2.heap.push { cls:=.type "list",data:=.seq ([]:List Value).toArray },toks:=s2.toks } (upd H2 s2.heap.objs.size (.lst [])) fp) [] H' b:=fun hn b hb =>
  ⟨hn b hb,(J0.ok.exf b hb).1,J0.ok.exfs b hb,.inl hb,(J0.ok.exf b hb).2,fun p hp=>absurd (show p∈([]:List (Addr × Obj)) from hp) (by simp)⟩
 have st4:tn 0 h4:=T.keep _ _ _ st2 fun b hb o q=>kp b o (Heap.get?_push_of_some _ q)
 have fr0:∀ b∈fp,(upd H2 s2.heap.objs.size (.lst [])) b=none:=fun b hb=>(f3 b hb).1
 have loop:codeAny (model X.prog X.w) X.A (.compLoop (.ListComp elt [⟨target,iter,[],0⟩] sc pos) 0 (.ref it) (.ref s2.heap.objs.size) (compEnvC sc (adB X.env sc.names []) (s2.heap.push { cls:=.type "list",data:=.seq ([]:List Value).toArray }).objs.size X.env))
   (compPost (model X.prog X.w) X.A X.xe use Qf (.ref s2.heap.objs.size) (s2.heap.push { cls:=.type "list",data:=.seq ([]:List Value).toArray }).objs.size) { s2 with heap:=h4,toks:=s2.toks+([]:List (Str × Value)).length }:=by
  obtain ⟨W,⟨m0,w0⟩,turn⟩:=hW s2.heap.objs.size hD
  refine aiT (fun n s'=>∃ i σ' H' ys,Inv (abw X sc (cmpN own cap) (s2.heap.push { cls:=.type "list",data:=.seq ([]:List Value).toArray }).objs.size { s2 with heap:=s2.heap.push { cls:=.type "list",data:=.seq ([]:List Value).toArray },toks:=s2.toks } (upd H2 s2.heap.objs.size (.lst [])) fp) [] σ' H' s'∧tn i s'.heap∧(∀ b∈fp,H' b=none)∧W i n σ' H' ys) ?_ m0
   ⟨0,_,_,[],J0,st4,fr0,w0⟩
  rintro n s5 ⟨i,σ5,H5,ys,I5,st5,fr5,w5⟩
  obtain ⟨hD5,w5⟩:=turn i n σ5 H5 ys w5
  rcases w5 with ⟨stop,qn⟩ | ⟨go,hlt,step⟩
  ·refine thn (T.done (abw X sc (cmpN own cap) (s2.heap.push { cls:=.type "list",data:=.seq ([]:List Value).toArray }).objs.size { s2 with heap:=s2.heap.push { cls:=.type "list",data:=.seq ([]:List Value).toArray },toks:=s2.toks } (upd H2 s2.heap.objs.size (.lst [])) fp) rfl rfl rfl hc i [] s5 σ5 H5 _ I5 (stat fr5) st5 stop) fun r s6 ⟨hr,I6⟩=>?_
   subst hr
   obtain ⟨m,hn,_⟩:=id I6.loc
   exact fin _ _ s6 H5 m (I2.uncmp (s3:={ s2 with heap:=s2.heap.push { cls:=.type "list",data:=.seq ([]:List Value).toArray },toks:=s2.toks }) f2 un rfl I6) (I3.fpOk (Nat.le_refl _) I6.free) hn qn
  ·refine thn (T.item (abw X sc (cmpN own cap) (s2.heap.push { cls:=.type "list",data:=.seq ([]:List Value).toArray }).objs.size { s2 with heap:=s2.heap.push { cls:=.type "list",data:=.seq ([]:List Value).toArray },toks:=s2.toks } (upd H2 s2.heap.objs.size (.lst [])) fp) rfl rfl rfl hc i [] s5 σ5 H5 _ I5 (stat fr5) st5 go) fun r s6 ⟨u,hr,h6⟩=>?_
   subst hr
   refine thn h6 fun _ s7 ⟨x,H7,I7,r7,y7,st7,fr7⟩=>?_
   have I7':=I7.pinned (stat fr7) (T.obj _ _ st7)
   refine thn (hg _ _ _ _ _ s7 σ5 H7 x u _ I7' r7 (step x H7 y7)) fun _ s8 ⟨σ8,H8,I8,q8⟩=>?_
   refine thn (he _ _ _ _ _ s8 σ8 H8 _ I8 q8) fun v9 s9 ⟨y,H9,I9,r9,hD9,m',hm,w9⟩=>?_
   refine thn (aet _ s9 σ8 H9 (.ref s2.heap.objs.size) [y] (.ref s2.heap.objs.size) [v9] (fun _ H'=>H'=upd H9 s2.heap.objs.size (.lst (ys++[y]))) I9 rfl (.cons r9 .nil) ⟨_,ys,y,rfl,rfl,hD9,hlt,rfl⟩) fun _ s10 ⟨_,H10,I10,_,q10⟩=>?_
   subst q10
   refine ⟨m',hm,i+1,σ8,_,_,I10.unpinned,T.keep _ _ _ st7 fun b hb o q=>(I10.pin (b,o) (List.mem_append_right _ (List.mem_append_right _ (ab9 hb q)))).1,fun b hb=>?_,w9⟩
   obtain ⟨o,q,d⟩:=T.obj _ _ st7 b hb
   exact (I10.pin (b,o) (List.mem_append_right _ (List.mem_append_right _ (ab9 hb q)))).2.1
 exact codeAny_compStart_list loop (T.self _ 0 _ _ _ st4 loop)
theorem ale (k:adO X sc own cap) (hi:PI X target iter wi) (hc:X.calm=true)
  (hg:∀ C s₀ H₀ ex,PG (abw X sc (cmpN own cap) C s₀ H₀ ex) target g) (he:∀ C s₀ H₀ ex,PE (abw X sc (cmpN own cap) C s₀ H₀ ex) elt te)
  (hs:∀ x,foldedSetIterable iter X.env x=pure x:=by intro _; rfl):PE X (.ListComp elt [⟨target,iter,[],0⟩] sc pos) (aiA own cap wi g te):=by
 intro pins s σ H Q I h
 rw [eval_ListComp]
 refine af6 (use:=none) k hi hc hg he I h (fun D C s' H' m I' fC hn q=>?_) hs
 refine ⟨m,hn,fun h' sb=>⟨.ref D,H',?_,rfl,q⟩⟩
 obtain ⟨f0,f1,f2,f3,f4,f5⟩:=fC
 exact I'.turned (t':=s'.toks) (fun b o hb e=>(sb.2 b hb).trans e) f0 f1 f3 f4 f5
theorem aiJ {i:Nat} {x:Str} {py spos:Pos} (hN:X.N.Nodup) (hx:X.N[i]?=some x) (hl:Loc X.env.scope x) (k:adO X sc own cap) (hi:PI X target iter wi) (hc:X.calm=true)
  (hg:∀ C s₀ H₀ ex,PG (abw X sc (cmpN own cap) C s₀ H₀ ex) target g) (he:∀ C s₀ H₀ ex,PE (abw X sc (cmpN own cap) C s₀ H₀ ex) elt te)
  (hs:∀ x,foldedSetIterable iter X.env x=pure x:=by intro _; rfl) (hsw:swapsWith (.ListComp elt [⟨target,iter,[],0⟩] sc pos) (some (.Name x py)) spos.line X.env=pure true:=by rfl)
  (hf:X.fn x=true∨X.env.scope.names.lookup x=some .local:=by first | exact .inl rfl | exact .inr rfl | assumption) :
  PS X (.Assign [.Name x py] (.ListComp elt [⟨target,iter,[],0⟩] sc pos) spos) (tAsg (aiA own cap wi g te) (alY i)):=by
 intro pins s σ H D I h
 rw [exec_Assign_Name_used _ _ _ _ hsw]
 refine wpAny_bind (wpAny_standAt (wpAny_bind ?_))
 show wpAny _ X.A (comprehension (.ListComp elt [⟨target,iter,[],0⟩] sc pos) sc X.env _ (newList []) false (eval iter X.env) (some (assign (.Name x py) X.env)) >>= fun _=>pure ()) _ _ s
 refine wpAny_bind (thn (af6 (use:=some (assign (.Name x py) X.env)) (Qf:=fun _ s'=>SP X pins D .next s') k hi hc hg he I h (fun B C s' H' m I' fC hn q=>?_) hs) fun _ s' hq=>wpAny_pure (wpAny_pure hq))
 show wpAny _ _ (assign (.Name x py) X.env (.ref B)) _ _ s'
 obtain ⟨o,es,ep,ho,hd,r⟩:=hn
 obtain ⟨f0,f1,f2,f3,f4,f5⟩:=fC
 have I'':Inv X (pins++[(C,o)]) σ H' s':=I'.pins_of fun p hp=>(List.mem_append.mp hp).elim (fun z=>I'.pin p (List.mem_append_right _ z)) fun z=>by
  have e:p=(C,o):=by simpa using z
  subst e
  exact ⟨ho,f0,f1,f2,fun v z=>by rw [hd] at z; cases z⟩
 refine wpAny_assign_Name (acH I'' hN hx hl (v:=.ref B) rfl (fun s2 I2=>?_) hf)
 have pC:=I2.pin (C,o) (by simp)
 refine ⟨m,⟨o,es,ep,pC.1,hd,r⟩,fun h' sb=>⟨_,H',?_,q⟩⟩
 exact (I2.unpinned).turned (t':=s2.toks) (fun b o hb e=>(sb.2 b hb).trans e) f0 f1 f3 f4 f5
end
section
variable {X:Cx}
theorem afw (hc:X.calm=true):adG X (.builtin "all") (fun xs H Q=>∃ (a:Addr) (bs:List Bool),xs=[.ref a]∧SqL X.K H a (bs.map V.bl)∧Q (.bl (bs.all id)) H):=by
 intro pins s σ H xs us Q I r h
 obtain ⟨a,bs,rfl,hq,q⟩:=h
 obtain ⟨u,rfl,ru⟩:=agc r
 cases ru
 obtain ⟨its,rv,pl,hz⟩:=I.list hq
 have hl:bs.length=its.length:=by
  have:=rv.length
  rwa [List.length_map] at this
 refine call_all_walk (wpAny_pyIter_list pl.isList ?_)
 have ha:a < s.heap.objs.size:=by
  obtain ⟨o,ho,_⟩:=pl.isList
  exact Heap.lt_size ho
 refine ⟨_,_,_,_,_,_,fun i=>bs.getD i true,rfl,Walks.list (prog:=X.prog) (w:=X.w) (A:=X.A.in1) (show X.A.in1.handled=none from I.ok.hd hc) s.heap.objs.size a (Nat.ne_of_lt ha) its.toArray,⟨⟨_,Heap.get?_push_size _ rfl,rfl,rfl⟩,Heap.IsList.at pl.isList fun o e=>Heap.get?_push_of_some _ e⟩,fun i v s' Q' E' hv hQ=>?_,fun h' tk kp=>?_⟩
 ·have hv':its[i]?=some v:=by simpa using hv
  have hi:i < bs.length:=by
   have:=(List.getElem?_eq_some_iff.mp hv').1
   omega
  obtain ⟨u,hu,ru⟩:=rv.get (i:=i) (x:=.bl bs[i]) (by rw [List.getElem?_map,List.getElem?_eq_getElem hi]; rfl)
  rw [hv'] at hu
  cases hu
  cases (show v=Value.bool bs[i] from ru)
  have e:bs.getD i true=bs[i]:=by simp [List.getD,hi]
  have hQ':Q' (bs.getD i true) s':=hQ
  rw [e] at hQ'
  exact wpAny_truthy_bool hQ'
 ·have e:(List.range its.toArray.size).all (fun i=>bs.getD i true)=bs.all id:=by
   rw [List.size_toArray,← hl,Bool.eq_iff_iff,List.all_eq_true,List.all_eq_true]
   constructor
   ·intro z b hb
    obtain ⟨i,hi,rfl⟩:=List.mem_iff_getElem.mp hb
    have:=z i (by simpa using hi)
    simpa [List.getD,hi] using this
   ·intro z i hi
    have hi':i < bs.length:=by simpa using hi
    have:=z bs[i] (List.getElem_mem hi')
    simpa [List.getD,hi'] using this
  show EP X pins σ Q (.bool ((List.range its.toArray.size).all fun i=>bs.getD i true)) _
  rw [e]
  have I1:Inv X pins σ H { s with heap:=s.heap.push { cls:=.type "list_iterator",data:=.fields #[.ref a,.int 0 0] },toks:=s.toks }:=I.kept fun b o z=>Heap.get?_push_of_some _ z
  have fp:FpOk X pins H s.heap.objs.size:=I.fpOk (Nat.le_refl _) (I.hok.fresh (Nat.le_refl _))
  obtain ⟨f0,f1,f2,f3,f4,f5⟩:=fp
  exact ⟨.bl (bs.all id),H,I1.turned (fun b o hb z=>kp b o (by simpa using hb) z) f0 f1 f3 f4 f5,rfl,q⟩
end
end L2
namespace L2
open PySem Bn
section
variable {prog:Program} {w:World} {A:Around} {E:Value→Shared→Prop} {s:Shared}
theorem ah6 {it t:Addr} {i:Nat} {items:Array Value} {x:Value} {Q:Value→Shared→Prop} (git:s.heap.IsTupleIter it t i) (gt:s.heap.IsTuple t items) (gx:items[i]?=some x)
  (gQ:∀ h',h'.IsTupleIter it t (i+1)→Heap.SameBut it s.heap h'→Q x { s with heap:=h' }):wpAny (model prog w) A (Builtin.SmallTypes.nextOf (.ref it)) Q E s:=by
 obtain ⟨o,go,gc,gd⟩:=id git
 obtain ⟨ol,gol,_,nl,gdl⟩:=gt
 unfold Builtin.SmallTypes.nextOf
 refine wpAny_bind (wpAny_callSpecial?_slot (name:=Str.ofString "__next__") git.typeIs F.slot_tuple_iterator_next (wpAny_call_entry F.slot_tuple_iterator_next git.typeIs F.entry_tuple_iterator_next ?_ (F.args_tuple_iterator_next_1 _)))
 show wpAny _ _ (field (.ref it) 0 >>= _) _ _ s
 refine wpAny_bind (wpAny_field go gd (x:=.ref t) rfl ?_)
 show wpAny _ _ (if (Value.ref t == Value.none)=true then _ else _) _ _ s
 rw [if_neg (show ¬ ((Value.ref t == Value.none)=true) from Bool.false_ne_true)]
 show wpAny _ _ (field (.ref it) 1 >>= _) _ _ s
 refine wpAny_bind (wpAny_field go gd (x:=.int i 0) rfl ?_)
 show wpAny _ _ (seqItems? (.ref t) >>= _) _ _ s
 refine wpAny_bind (wpAny_seqItems gol gdl ?_)
 simp only [Int.toNat_natCast,gx]
 refine wpAny_bind (wpAny_setField go gd (by simp) (wpAny_pure ⟨_,rfl,wpAny_pure (gQ _ ?_ (Heap.SameBut.update ..))⟩))
 refine ⟨_,Heap.get?_update_self _ go (Obj.isFreed_of_fields (Obj.data_mapFields gd _)),(Obj.cls_mapFields ..).trans gc,?_⟩
 rw [Obj.data_mapFields gd]
 simp [rawInt]
theorem aeR {it t:Addr} {i:Nat} {items:Array Value} {Q:Value→Shared→Prop} (hh:A.handled=none) (git:s.heap.IsTupleIter it t i) (gt:s.heap.IsTuple t items) (gx:items[i]?=none)
  (gE:∀ h' e,Heap.ExtBut it s.heap h'→(∃ o,h'.get? e=some o∧o.cls=.type "StopIteration")→E (.ref e) { s with heap:=h' }):wpAny (model prog w) A (Builtin.SmallTypes.nextOf (.ref it)) Q E s:=by
 obtain ⟨o,go,gc,gd⟩:=id git
 obtain ⟨ol,gol,_,nl,gdl⟩:=gt
 unfold Builtin.SmallTypes.nextOf
 refine wpAny_bind (wpAny_callSpecial?_slot (name:=Str.ofString "__next__") git.typeIs F.slot_tuple_iterator_next (wpAny_call_entry F.slot_tuple_iterator_next git.typeIs F.entry_tuple_iterator_next ?_ (F.args_tuple_iterator_next_1 _)))
 show wpAny _ _ (field (.ref it) 0 >>= _) _ _ s
 refine wpAny_bind (wpAny_field go gd (x:=.ref t) rfl ?_)
 show wpAny _ _ (if (Value.ref t == Value.none)=true then _ else _) _ _ s
 rw [if_neg (show ¬ ((Value.ref t == Value.none)=true) from Bool.false_ne_true)]
 show wpAny _ _ (field (.ref it) 1 >>= _) _ _ s
 refine wpAny_bind (wpAny_field go gd (x:=.int i 0) rfl ?_)
 show wpAny _ _ (seqItems? (.ref t) >>= _) _ _ s
 refine wpAny_bind (wpAny_seqItems gol gdl ?_)
 simp only [Int.toNat_natCast,gx]
 first
  | refine wpAny_bind (wpAny_rule (wpAny_bind (wpAny_setField go gd (by simp) (wpAny_bind (wpAny_letGo ?_)))))
  | refine wpAny_bind (wpAny_rule (wpAny_bind (wpAny_setField go gd (by simp) ?_)))
 show wpAny _ _ (newExc (.type "StopIteration") [] >>= _) _ _ _
 refine wpAny_bind ?_
 simp only [newExc,newTuple]
 refine wpAny_bind (wpAny_newObj_type ?_ (by size_fits))
 refine wpAny_bind (m:=firstArgMember _ _) (wpAny_of_eq (a:=Value.none) (by first | rfl | (simp only [firstArgMember]; rfl)) ?_)
 refine wpAny_newObj_type ?_ (by size_fits)
 simp only [raiseNew]
 refine wpAny_bind (wpAny_handled ?_)
 first
  | rw [show A.in1.handled=none from hh]
  | rw [hh]
 refine wpAny_bind (wpAny_pure (wpAny_throw ?_))
 exact gE _ _ (((Heap.SameBut.update ..).extBut.push _).push _) ⟨_,Heap.get?_push_size _ rfl,rfl⟩
end
theorem akm {prog:Program} {w:World} {A:Around} (hh:A.handled=none) (it t:Addr) (hne:t≠it) (items:Array Value) :
  Draws prog w A it [it,t] items.size (fun i v=>items[i]?=some v) (fun i h=>h.IsTupleIter it t i∧h.IsTuple t items) where
 live:=fun _ _ st=>let ⟨o,ho,_⟩:=st.1; ⟨o,ho⟩
 frame:=fun _ _ _ st hk=>⟨let ⟨o,ho,r⟩:=st.1; ⟨o,hk it (by simp) o ho,r⟩,let ⟨o,ho,r⟩:=st.2; ⟨o,hk t (by simp) o ho,r⟩⟩
 item:=fun i s Q E hi st hQ=>by
  refine ah6 st.1 st.2 (x:=items[i]) (by simp [hi]) fun h' hit' hs'=>?_
  exact hQ _ h' s.toks (by simp [hi]) ⟨hit',st.2.extBut hs'.extBut hne⟩ hs'
 done:=fun s Q E st hE=>aeR hh st.1 st.2 (by simp) hE
structure ZAp (z TI TO i1 i2:Addr) (fp1 fp2:List Addr):Prop where
 tiz:TI≠z
 toz:TO≠z
 tito:TI≠TO
 ti1:TI≠i1
 ti2:TI≠i2
 z1:z ∉ fp1
 z2:z ∉ fp2
 to1:TO ∉ fp1
 to2:TO ∉ fp2
 i12:i1 ∉ fp2
 i21:i2 ∉ fp1
 m1:i1∈fp1
 m2:i2∈fp2
section
variable {prog:Program} {w:World} {A:Around} {E:Value→Shared→Prop} {s:Shared} {z TI TO i1 i2:Addr} {fp1 fp2:List Addr} {n1 n2 i:Nat} {P1 P2:Nat→Value→Prop} {S1 S2:Nat→Heap→Prop} {a b:Value}
theorem aiK {Q:Value→Shared→Prop} (D1:Draws prog w A i1 fp1 n1 P1 S1) (D2:Draws prog w A i2 fp2 n2 P2 S2) (ap:ZAp z TI TO i1 i2 fp1 fp2) (gz:IsZip s.heap z TI TO .none) (gTI:IsPair s.heap TI (.ref i1) (.ref i2)) (gTO:IsPair s.heap TO a b)
  (g1:S1 i s.heap) (g2:S2 i s.heap) (l1:i < n1) (l2:i < n2)
  (gQ:∀ h' tk x y,P1 i x→P2 i y→IsZip h' z TI TO (rawInt s.heap.objs.size)→IsPair h' TO x y→S1 (i+1) h'→S2 (i+1) h'→IsPair h' s.heap.objs.size x y →
   (∀ c o,c≠z→c≠TO→c≠i1→c≠i2→s.heap.get? c=some o→h'.get? c=some o)→Q (.ref s.heap.objs.size) { s with heap:=h',toks:=tk }) :
  wpAny (model prog w) A (Builtin.«zip.__next__» ⟨[.ref z],[]⟩) (fun fin s'=>∃ v,fin=.done (.ret v)∧Q v s') E s:=by
 have nz1:i1≠z:=fun q=>ap.z1 (q ▸ ap.m1)
 have nz2:i2≠z:=fun q=>ap.z2 (q ▸ ap.m2)
 have nt1:TO≠i1:=fun q=>ap.to1 (q ▸ ap.m1)
 have nt2:TO≠i2:=fun q=>ap.to2 (q ▸ ap.m2)
 show wpAny _ _ (field (.ref z) 2 >>= _) _ _ _
 refine wpAny_bind (wpAny_field gz rfl (x:=.bool false) rfl ?_)
 show wpAny _ _ (field (.ref z) 3 >>= _) _ _ _
 refine wpAny_bind (wpAny_field gz rfl (x:=.ref TI) rfl ?_)
 refine wpAny_bind (wpAny_seqItems gTI rfl ?_)
 show wpAny _ _ (Builtin.SmallTypes.ownedTupleIsFree (.ref z) >>= _) _ _ _
 refine wpAny_bind ?_
 unfold Builtin.SmallTypes.ownedTupleIsFree
 refine wpAny_bind (wpAny_field gz rfl (x:=.none) rfl (wpAny_pure ?_))
 simp only [if_true]
 refine wpAny_bind (wpAny_rule ?_)
 refine wpAny_bind (wpAny_field gz rfl (x:=.ref TO) rfl ?_)
 refine wpAny_bind (wpAny_setField_rec gz (by simp) fun h1 gz1 s1=>?_)
 replace gz1:IsZip h1 z TI TO .ellipsis:=gz1
 refine wpAny_bind ?_
 simp only [List.zipIdx_cons,List.zipIdx_nil,List.forIn_cons,List.forIn_nil]
 refine wpAny_bind (wpAny_bind (wpAny_onRaise ?_))
 show wpAny _ _ (Builtin.SmallTypes.nextOf (.ref i1) >>= _) _ _ _
 refine wpAny_bind (D1.item i _ _ _ l1 (D1.frame _ _ _ g1 fun c hc o q=>s1.extBut c o (fun e=>ap.z1 (e ▸ hc)) q) fun x h2 tk2 px g1' s2=>wpAny_pure ?_)
 have gTO2:IsPair h2 TO a b:=s2.extBut _ _ nt1 (s1.extBut _ _ ap.toz gTO)
 refine wpAny_bind (wpAny_seqItems gTO2 rfl ?_)
 refine wpAny_bind (wpAny_updateSeq_pair (s:={ s with heap:=h2,toks:=tk2 }) gTO2 fun h3 gTO3 s3=>?_)
 replace gTO3:IsPair h3 TO x b:=gTO3
 replace s3:Heap.SameBut TO h2 h3:=s3
 refine wpAny_bind (wpAny_letGo (wpAny_pure ?_))
 refine wpAny_bind (wpAny_bind (wpAny_onRaise ?_))
 show wpAny _ _ (Builtin.SmallTypes.nextOf (.ref i2) >>= _) _ _ _
 have g2':S2 i h3:=D2.frame _ _ _ g2 fun c hc o q=>s3.extBut c o (fun e=>ap.to2 (e ▸ hc)) (s2.extBut c o (fun e=>ap.i12 (e ▸ hc)) (s1.extBut c o (fun e=>ap.z2 (e ▸ hc)) q))
 refine wpAny_bind (D2.item i _ _ _ l2 g2' fun y h4 tk4 py g2'' s4=>wpAny_pure ?_)
 replace s4:Heap.SameBut i2 h3 h4:=s4
 have gTO4:IsPair h4 TO x b:=s4.extBut _ _ nt2 gTO3
 refine wpAny_bind (wpAny_seqItems gTO4 rfl ?_)
 refine wpAny_bind (wpAny_updateSeq_pair (s:={ s with heap:=h4,toks:=tk4 }) gTO4 fun h5 gTO5 s5=>?_)
 replace gTO5:IsPair h5 TO x y:=gTO5
 replace s5:Heap.SameBut TO h4 h5:=s5
 refine wpAny_bind (wpAny_letGo (wpAny_pure (wpAny_pure ?_)))
 refine wpAny_bind (wpAny_seqItems gTO5 rfl ?_)
 refine wpAny_bind (wpAny_newTuple ?_)
 have hsz:h5.objs.size=s.heap.objs.size:=by rw [s5.1,s4.1,s3.1,s2.1,s1.1]
 have gz5:IsZip h5 z TI TO .ellipsis:=s5.extBut _ _ ap.toz.symm (s4.extBut _ _ nz2.symm (s3.extBut _ _ ap.toz.symm (s2.extBut _ _ nz1.symm gz1)))
 have k5:∀ c o,c≠z→c≠TO→c≠i1→c≠i2→s.heap.get? c=some o→h5.get? c=some o:=fun c o c1 c2 c3 c4 q=>s5.extBut _ _ c2 (s4.extBut _ _ c4 (s3.extBut _ _ c2 (s2.extBut _ _ c3 (s1.extBut _ _ c1 q))))
 have g15:S1 (i+1) h5:=D1.frame _ _ _ g1' fun c hc o q=>s5.extBut c o (fun e=>ap.to1 (e ▸ hc)) (s4.extBut c o (fun e=>ap.i21 (e ▸ hc)) (s3.extBut c o (fun e=>ap.to1 (e ▸ hc)) q))
 have g25:S2 (i+1) h5:=D2.frame _ _ _ g2'' fun c hc o q=>s5.extBut c o (fun e=>ap.to2 (e ▸ hc)) q
 have zlt:z < h5.objs.size:=Heap.lt_size gz5
 show wpAny _ _ (Builtin.SmallTypes.ownedTupleHandOut (.ref z) (.ref h5.objs.size) >>= _) _ _ _
 refine wpAny_bind ?_
 unfold Builtin.SmallTypes.ownedTupleHandOut
 have gz6:IsZip (h5.push { cls:=.type "tuple",data:=.seq #[x,y] }) z TI TO .ellipsis:=Heap.get?_push_of_some _ gz5
 refine wpAny_bind (wpAny_setField_rec gz6 (by simp) fun h7 gz7 s7=>?_)
 replace gz7:IsZip h7 z TI TO (rawInt h5.objs.size):=gz7
 refine wpAny_setField_rec gz7 (by simp) fun h8 gz8 s8=>?_
 replace gz8:IsZip h8 z TI TO (rawInt h5.objs.size):=gz8
 have up:∀ c o,c≠z→h5.get? c=some o→h8.get? c=some o:=fun c o c1 q=>s8.extBut _ _ c1 (s7.extBut _ _ c1 (Heap.get?_push_of_some _ q))
 have gT8:IsPair h8 h5.objs.size x y:=s8.extBut _ _ (Nat.ne_of_gt zlt) (s7.extBut _ _ (Nat.ne_of_gt zlt) (Heap.get?_push_size _ rfl))
 rw [hsz] at gz8 gT8
 refine wpAny_pure ⟨_,rfl,?_⟩
 show Q (.ref h5.objs.size) _
 rw [hsz]
 exact gQ h8 _ x y px py gz8 (up _ _ ap.toz gTO5) (D1.frame _ _ _ g15 fun c hc o q=>up c o (fun e=>ap.z1 (e ▸ hc)) q) (D2.frame _ _ _ g25 fun c hc o q=>up c o (fun e=>ap.z2 (e ▸ hc)) q) gT8 fun c o c1 c2 c3 c4 q=>up c o c1 (k5 c o c1 c2 c3 c4 q)
theorem ait {Q:Fin→Shared→Prop} (D1:Draws prog w A i1 fp1 n1 P1 S1) (D2:Draws prog w A i2 fp2 n2 P2 S2) (ap:ZAp z TI TO i1 i2 fp1 fp2) (gz:IsZip s.heap z TI TO .none) (gTI:IsPair s.heap TI (.ref i1) (.ref i2)) (gTO:IsPair s.heap TO a b)
  (g1:S1 i s.heap) (g2:S2 i s.heap) (fin:i=n1∨(i < n1∧i=n2))
  (gE:∀ h' tk e,(∀ c o,c≠z→c≠TO→c≠i1→c≠i2→s.heap.get? c=some o→h'.get? c=some o)→(∃ o,h'.get? e=some o∧o.cls=.type "StopIteration")→E (.ref e) { s with heap:=h',toks:=tk }) :
  wpAny (model prog w) A (Builtin.«zip.__next__» ⟨[.ref z],[]⟩) Q E s:=by
 have nz1:i1≠z:=fun q=>ap.z1 (q ▸ ap.m1)
 have nz2:i2≠z:=fun q=>ap.z2 (q ▸ ap.m2)
 have nt1:TO≠i1:=fun q=>ap.to1 (q ▸ ap.m1)
 have nt2:TO≠i2:=fun q=>ap.to2 (q ▸ ap.m2)
 show wpAny _ _ (field (.ref z) 2 >>= _) _ _ _
 refine wpAny_bind (wpAny_field gz rfl (x:=.bool false) rfl ?_)
 show wpAny _ _ (field (.ref z) 3 >>= _) _ _ _
 refine wpAny_bind (wpAny_field gz rfl (x:=.ref TI) rfl ?_)
 refine wpAny_bind (wpAny_seqItems gTI rfl ?_)
 show wpAny _ _ (Builtin.SmallTypes.ownedTupleIsFree (.ref z) >>= _) _ _ _
 refine wpAny_bind ?_
 unfold Builtin.SmallTypes.ownedTupleIsFree
 refine wpAny_bind (wpAny_field gz rfl (x:=.none) rfl (wpAny_pure ?_))
 simp only [if_true]
 refine wpAny_bind (wpAny_rule ?_)
 refine wpAny_bind (wpAny_field gz rfl (x:=.ref TO) rfl ?_)
 refine wpAny_bind (wpAny_setField_rec gz (by simp) fun h1 gz1 s1=>?_)
 replace gz1:IsZip h1 z TI TO .ellipsis:=gz1
 refine wpAny_bind ?_
 simp only [List.zipIdx_cons,List.zipIdx_nil,List.forIn_cons,List.forIn_nil]
 refine wpAny_bind (wpAny_bind (wpAny_onRaise ?_))
 show wpAny _ _ (Builtin.SmallTypes.nextOf (.ref i1) >>= _) _ _ _
 have g1':S1 i h1:=D1.frame _ _ _ g1 fun c hc o q=>s1.extBut c o (fun e=>ap.z1 (e ▸ hc)) q
 rcases fin with e1 | ⟨l1,e2⟩
 ·subst e1
  refine wpAny_bind (D1.done _ _ _ g1' fun h2 e s2 he=>?_)
  obtain ⟨oe,hoe,hce⟩:=he
  have gz2:IsZip h2 z TI TO .ellipsis:=s2 _ _ nz1.symm gz1
  have hez:e≠z:=fun q=>by
   subst q
   rw [gz2] at hoe
   cases hoe
   simp at hce
  refine wpAny_setField_rec (s:={ s with heap:=h2 }) gz2 (by simp) fun h3 _ s3=>?_
  exact gE h3 _ e (fun c o c1 _ c3 _ q=>s3.extBut _ _ c1 (s2 _ _ c3 (s1.extBut _ _ c1 q))) ⟨oe,s3.extBut _ _ hez hoe,hce⟩
 ·subst e2
  refine wpAny_bind (D1.item i _ _ _ l1 g1' fun x h2 tk2 px g1'' s2=>wpAny_pure ?_)
  have gTO2:IsPair h2 TO a b:=s2.extBut _ _ nt1 (s1.extBut _ _ ap.toz gTO)
  refine wpAny_bind (wpAny_seqItems gTO2 rfl ?_)
  refine wpAny_bind (wpAny_updateSeq_pair (s:={ s with heap:=h2,toks:=tk2 }) gTO2 fun h3 gTO3 s3=>?_)
  replace s3:Heap.SameBut TO h2 h3:=s3
  refine wpAny_bind (wpAny_letGo (wpAny_pure ?_))
  refine wpAny_bind (wpAny_bind (wpAny_onRaise ?_))
  show wpAny _ _ (Builtin.SmallTypes.nextOf (.ref i2) >>= _) _ _ _
  have g2':S2 i h3:=D2.frame _ _ _ g2 fun c hc o q=>s3.extBut c o (fun e=>ap.to2 (e ▸ hc)) (s2.extBut c o (fun e=>ap.i12 (e ▸ hc)) (s1.extBut c o (fun e=>ap.z2 (e ▸ hc)) q))
  refine wpAny_bind (D2.done _ _ _ g2' fun h4 e s4 he=>?_)
  replace s4:Heap.ExtBut i2 h3 h4:=s4
  obtain ⟨oe,hoe,hce⟩:=he
  have gz4:IsZip h4 z TI TO .ellipsis:=s4 _ _ nz2.symm (s3.extBut _ _ ap.toz.symm (s2.extBut _ _ nz1.symm gz1))
  have hez:e≠z:=fun q=>by
   subst q
   rw [gz4] at hoe
   cases hoe
   simp at hce
  refine wpAny_setField_rec (s:={ s with heap:=h4,toks:=tk2 }) gz4 (by simp) fun h5 _ s5=>?_
  exact gE h5 _ e (fun c o c1 c2 c3 c4 q=>s5.extBut _ _ c1 (s4 _ _ c4 (s3.extBut _ _ c2 (s2.extBut _ _ c3 (s1.extBut _ _ c1 q))))) ⟨oe,s5.extBut _ _ hez hoe,hce⟩
theorem agK {Q:Option Value→Shared→Prop} (D1:Draws prog w A.in1 i1 fp1 n1 P1 S1) (D2:Draws prog w A.in1 i2 fp2 n2 P2 S2) (ap:ZAp z TI TO i1 i2 fp1 fp2) (gz:IsZip s.heap z TI TO .none) (gTI:IsPair s.heap TI (.ref i1) (.ref i2)) (gTO:IsPair s.heap TO a b)
  (g1:S1 i s.heap) (g2:S2 i s.heap) (l1:i < n1) (l2:i < n2)
  (gQ:∀ h' tk x y,P1 i x→P2 i y→IsZip h' z TI TO (rawInt s.heap.objs.size)→IsPair h' TO x y→S1 (i+1) h'→S2 (i+1) h'→IsPair h' s.heap.objs.size x y →
   (∀ c o,c≠z→c≠TO→c≠i1→c≠i2→s.heap.get? c=some o→h'.get? c=some o)→Q (some (.ref s.heap.objs.size)) { s with heap:=h',toks:=tk }) :
  wpAny (model prog w) A (pyNext (.ref z)) Q E s:=by
 have gT:s.TypeIs (.ref z) "zip":=⟨_,gz,rfl⟩
 unfold pyNext
 refine wpAny_bind (wpAny_attempt (wpAny_callSpecial?_slot (name:=Str.ofString "__next__") gT F.slot_zip_next (wpAny_call_entry F.slot_zip_next gT F.entry_zip_next ?_ (F.args_zip_next_1 _))))
 exact aiK D1 D2 ap gz gTI gTO g1 g2 l1 l2 fun h' tk x y p1 p2 e1 e2 e3 e4 e5 e6=>wpAny_pure (gQ h' tk x y p1 p2 e1 e2 e3 e4 e5 e6)
theorem aeH {Q:Option Value→Shared→Prop} (D1:Draws prog w A.in1 i1 fp1 n1 P1 S1) (D2:Draws prog w A.in1 i2 fp2 n2 P2 S2) (ap:ZAp z TI TO i1 i2 fp1 fp2) (gz:IsZip s.heap z TI TO .none) (gTI:IsPair s.heap TI (.ref i1) (.ref i2)) (gTO:IsPair s.heap TO a b)
  (g1:S1 i s.heap) (g2:S2 i s.heap) (fin:i=n1∨(i < n1∧i=n2))
  (gQ:∀ h' tk,(∀ c o,c≠z→c≠TO→c≠i1→c≠i2→s.heap.get? c=some o→h'.get? c=some o)→Q none { s with heap:=h',toks:=tk }):wpAny (model prog w) A (pyNext (.ref z)) Q E s:=by
 have gT:s.TypeIs (.ref z) "zip":=⟨_,gz,rfl⟩
 unfold pyNext
 refine wpAny_bind (wpAny_attempt (wpAny_callSpecial?_slot (name:=Str.ofString "__next__") gT F.slot_zip_next (wpAny_call_entry F.slot_zip_next gT F.entry_zip_next ?_ (F.args_zip_next_1 _))))
 refine ait D1 D2 ap gz gTI gTO g1 g2 fin fun h' tk e hk he=>?_
 obtain ⟨o,ho,hc⟩:=he
 refine wpAny_bind (wpAny_isInstance (T:="StopIteration") (b:=true) ⟨o,ho,hc⟩ isSubtype_stop ?_)
 exact wpAny_pure (gQ _ _ hk)
end
end L2
namespace L2
open PySem Bn
abbrev zpH1 (h:Heap) (o1:Obj):Heap:=h.push o1
abbrev zpH2 (h:Heap) (o1 o2:Obj):Heap:=(zpH1 h o1).push o2
abbrev zpH3 (h:Heap) (o1 o2:Obj):Heap:=(zpH2 h o1 o2).push { cls:=.type "tuple",data:=.seq #[.ref h.objs.size,.ref (zpH1 h o1).objs.size] }
abbrev zpH4 (h:Heap) (o1 o2:Obj):Heap:=(zpH3 h o1 o2).push { cls:=.type "tuple",data:=.seq #[.none,.none] }
abbrev zpH5 (h:Heap) (o1 o2:Obj):Heap:=(zpH4 h o1 o2).push { cls:=.type "zip",data:=.fields #[.none,.bool false,.bool false,.ref (zpH2 h o1 o2).objs.size,.ref (zpH3 h o1 o2).objs.size] }
def MkIt (l:Addr) (o:Obj) (G:Heap→Prop):Prop :=
 ∀ (prog:Program) (w:World) (A:Around) (E:Value→Shared→Prop) (s:Shared) (Q:Value→Shared→Prop),G s.heap→Q (.ref s.heap.objs.size) { s with heap:=s.heap.push o }→wpAny (model prog w) A (pyIter (.ref l)) Q E s
theorem aip (l1 l2:Addr) (o1 o2:Obj) (G1 G2:Heap→Prop) (p1:MkIt l1 o1 G1) (p2:MkIt l2 o2 G2) (k2:∀ h,G2 h→G2 (h.push o1)) :
  Meets (Builtin.«zip.__new__» ⟨[.type "zip",.ref l1,.ref l2],[]⟩) (fun _ R s=>G1 s.heap∧G2 s.heap∧R (.ok (.ret (.ref (zpH4 s.heap o1 o2).objs.size))) { s with heap:=zpH5 s.heap o1 o2 }) :=
 .of_wp fun prog w A R s h=>by
  obtain ⟨hp,g,d,tk,os⟩:=s
  obtain ⟨g1,g2,h⟩:=h
  have hsub:=sub_zip
  have q1:=fun (A':Around) (E':Value→Shared→Prop) (Q':Value→Shared→Prop)=>p1 prog w A' E' ⟨hp,g,d,tk,os⟩ Q' g1
  have q2:=fun (A':Around) (E':Value→Shared→Prop) (Q':Value→Shared→Prop)=>p2 prog w A' E' ⟨hp.push o1,g,d,tk,os⟩ Q' (k2 _ g2)
  wp_walk using q1 _ _ _,q2 _ _ _
  exact ⟨_,rfl,h⟩
theorem ags {prog:Program} {w:World} {A:Around} {E:Value→Shared→Prop} {s:Shared} {l1 l2:Addr} {o1 o2:Obj} {G1 G2:Heap→Prop} {Q:Value→Shared→Prop} (p1:MkIt l1 o1 G1) (p2:MkIt l2 o2 G2) (k2:∀ h,G2 h→G2 (h.push o1)) (g1:G1 s.heap) (g2:G2 s.heap)
  (f1:o1.isFreed=false) (f2:o2.isFreed=false)
  (h:∀ h',IsZip h' (s.heap.objs.size+4) (s.heap.objs.size+2) (s.heap.objs.size+3) .none→IsPair h' (s.heap.objs.size+2) (.ref s.heap.objs.size) (.ref (s.heap.objs.size+1))→IsPair h' (s.heap.objs.size+3) .none .none →
   h'.get? s.heap.objs.size=some o1→h'.get? (s.heap.objs.size+1)=some o2→(∀ c o,s.heap.get? c=some o→h'.get? c=some o)→Q (.ref (s.heap.objs.size+4)) { s with heap:=h' }) :
  wpAny (model prog w) A (call (.type "zip") [.ref l1,.ref l2]) Q E s:=by
 refine callType_new F.called_zip (by decide) (F.typeCall_zip_2 _ _) (F.newCall_zip_2 _ _) (fun obj=>F.args_object_init_3 obj _ _) F.entry_zip_new (aip l1 l2 o1 o2 G1 G2 p1 p2 k2) ⟨g1,g2,?_⟩
 have e1:(zpH1 s.heap o1).objs.size=s.heap.objs.size+1:=Heap.size_push ..
 have e2:(zpH2 s.heap o1 o2).objs.size=s.heap.objs.size+2:=by rw [Heap.size_push,e1]
 have e3:(zpH3 s.heap o1 o2).objs.size=s.heap.objs.size+3:=by rw [Heap.size_push,e2]
 have e4:(zpH4 s.heap o1 o2).objs.size=s.heap.objs.size+4:=by rw [Heap.size_push,e3]
 have r5:(zpH5 s.heap o1 o2).get? (zpH4 s.heap o1 o2).objs.size=some _:=Heap.get?_push_size _ rfl
 have r4:(zpH5 s.heap o1 o2).get? (zpH3 s.heap o1 o2).objs.size=some _:=Heap.get?_push_of_some _ (Heap.get?_push_size _ rfl)
 have r3:(zpH5 s.heap o1 o2).get? (zpH2 s.heap o1 o2).objs.size=some _:=Heap.get?_push_of_some _ (Heap.get?_push_of_some _ (Heap.get?_push_size _ rfl))
 have r2:(zpH5 s.heap o1 o2).get? (zpH1 s.heap o1).objs.size=some o2:=Heap.get?_push_of_some _ (Heap.get?_push_of_some _ (Heap.get?_push_of_some _ (Heap.get?_push_size _ f2)))
 have r1:(zpH5 s.heap o1 o2).get? s.heap.objs.size=some o1:=Heap.get?_push_of_some _ (Heap.get?_push_of_some _ (Heap.get?_push_of_some _ (Heap.get?_push_of_some _ (Heap.get?_push_size _ f1))))
 show _∧_
 rw [e2,e3,e4] at r5
 rw [e1,e2] at r3
 rw [e3] at r4
 rw [e1] at r2
 rw [e4]
 exact ⟨⟨_,r5,rfl⟩,h _ r5 r3 r4 r1 r2 fun c o q=>Heap.get?_push_of_some _ (Heap.get?_push_of_some _ (Heap.get?_push_of_some _ (Heap.get?_push_of_some _ (Heap.get?_push_of_some _ q))))⟩
end L2
namespace L2
open PySem PySem.Spec PyProof.Rows Bn
def SqF (f:Bool) (K:PySem.W.Frag) (H:Hp) (a:Addr) (xs:List V):Prop:=match f with
 | true=>SqT K H a xs
 | false=>SqL K H a xs
def ItF (f:Bool) (it a:Addr) (i:Nat) (h:Heap):Prop:=match f with
 | true=>h.IsTupleIter it a i
 | false=>h.IsListIter it a i
def HasF (f:Bool) (a:Addr) (items:Array Value) (h:Heap):Prop:=match f with
 | true=>h.IsTuple a items
 | false=>h.IsList a items
def ItO (f:Bool) (a:Addr):Obj:=match f with
 | true=>{ cls:=.type "tuple_iterator",data:=.fields #[.ref a,.int 0 0] }
 | false=>{ cls:=.type "list_iterator",data:=.fields #[.ref a,.int 0 0] }
section
variable {X:Cx} {pins:List (Addr × Obj)} {σ:St} {H:Hp} {s:Shared} {a:Addr} {xs ys:List V} {f:Bool}
theorem Inv.seqF (I:Inv X pins σ H s) (h:SqF f X.K H a xs):∃ its:List Value,Vals xs its∧HasF f a its.toArray s.heap∧xs.length≤sizeLine:=by
 cases f with
 | true =>
  obtain ⟨its,r,p,z⟩:=I.tuple h
  exact ⟨its,r,p,z⟩
 | false =>
  obtain ⟨its,r,p,z⟩:=I.list h
  exact ⟨its,r,p.isList,z⟩
theorem Inv.seqF_inj (I:Inv X pins σ H s) (h:SqF f X.K H a xs) (h':SqF f X.K H a ys):xs=ys:=by
 cases f with
 | true=>exact I.tuple_inj h h'
 | false=>exact I.list_inj h h'
theorem Inv.apart {b:Addr} (I:Inv X pins σ H s) (fb:FpOk X pins H b) (h:SqF f X.K H a xs):a≠b:=by
 have viaK:∀ {o:Obj},X.K.lookup a=some o→a≠b:=fun {o} q e=>by
  have hb:X.base.get? b=some o:=e ▸ I.ok.mod.kin a o q
  rcases fb.2.2.2.1 with z | z
  ·exact I.ok.noex b o hb z
  ·exact absurd (Nat.lt_of_lt_of_le (Heap.lt_size (I.ok.bs b o hb).1) z) (Nat.lt_irrefl _)
 cases f with
 | true =>
  rcases h with (h | ⟨o,h⟩) | ⟨o,_,_,q,_⟩
  ·exact aaG h fb.1
  ·exact aaG h fb.1
  ·exact viaK q
 | false =>
  rcases h with (h | ⟨o,h⟩) | ⟨o,_,_,q,_⟩
  ·exact aaG h fb.1
  ·exact aaG h fb.1
  ·exact viaK q
end
theorem aha {prog:Program} {w:World} {A:Around} (f:Bool) (hh:A.handled=none) (it a:Addr) (hne:a≠it) (items:Array Value) :
  Draws prog w A it [it,a] items.size (fun i v=>items[i]?=some v) (fun i h=>ItF f it a i h∧HasF f a items h):=by
 cases f with
 | true=>exact akm hh it a hne items
 | false=>exact Draws.list hh it a hne items
theorem ank (f:Bool) (a:Addr) (items:Array Value):MkIt a (ItO f a) (HasF f a items):=by
 cases f with
 | true=>exact fun prog w A E s Q g q=>wpAny_pyIter_tuple g q
 | false=>exact fun prog w A E s Q g q=>wpAny_pyIter_list g q
theorem ItF.keep {f:Bool} {it a:Addr} {i:Nat} {h h':Heap} (x:ItF f it a i h) (k:∀ o,h.get? it=some o→h'.get? it=some o):ItF f it a i h':=by
 cases f with
 | true=>obtain ⟨o,e,r⟩:=x; exact ⟨o,k o e,r⟩
 | false=>obtain ⟨o,e,r⟩:=x; exact ⟨o,k o e,r⟩
theorem HasF.keep {f:Bool} {a:Addr} {items:Array Value} {h h':Heap} (x:HasF f a items h) (k:∀ o,h.get? a=some o→h'.get? a=some o):HasF f a items h':=by
 cases f with
 | true=>obtain ⟨o,e,r⟩:=x; exact ⟨o,k o e,r⟩
 | false=>obtain ⟨o,e,r⟩:=x; exact ⟨o,k o e,r⟩
theorem ItF.obj {f:Bool} {it a:Addr} {i:Nat} {h:Heap} (x:ItF f it a i h):∃ o,h.get? it=some o∧∀ v,o.data≠.cell v:=by
 cases f with
 | true=>obtain ⟨o,e,_,d⟩:=x; exact ⟨o,e,fun v z=>by rw [d] at z; cases z⟩
 | false=>obtain ⟨o,e,_,d⟩:=x; exact ⟨o,e,fun v z=>by rw [d] at z; cases z⟩
theorem agw (f:Bool) (a it:Addr) {h:Heap} (e:h.get? it=some (ItO f a)):ItF f it a 0 h:=by
 cases f with
 | true=>exact ⟨_,e,rfl,rfl⟩
 | false=>exact ⟨_,e,rfl,rfl⟩
theorem ag5 (f:Bool) (a:Addr):(ItO f a).isFreed=false:=by cases f <;> rfl
def Itz (K : PySem.W.Frag) (f1 : Bool) (a : Addr) (f2 : Bool) (b : Addr) : It :=
  ⟨fun i H => ∃ xs ys x y, SqF f1 K H a xs ∧ SqF f2 K H b ys ∧ xs[i]? = some x ∧ ys[i]? = some y,
   fun i H v H' => ∃ p x y, H p = none ∧ v = .ref p ∧ H' = upd H p (.tup [x, y]) ∧ (∀ xs, SqF f1 K H a xs → xs[i]? = some x) ∧ ∀ ys, SqF f2 K H b ys → ys[i]? = some y,
   fun i H => ∃ xs ys, SqF f1 K H a xs ∧ SqF f2 K H b ys ∧ (i = xs.length ∨ (i < xs.length ∧ i = ys.length))⟩
structure ZRec (z TI TO i1 i2:Addr):Prop where
 tiz:TI≠z
 toz:TO≠z
 i1z:i1≠z
 i2z:i2≠z
 tito:TI≠TO
 ti1:TI≠i1
 ti2:TI≠i2
 to1:TO≠i1
 to2:TO≠i2
 i12:i1≠i2
theorem ZRec.ap {z TI TO i1 i2 a b:Addr} (r:ZRec z TI TO i1 i2) (h:∀ c∈[z,TI,TO,i1,i2],a≠c) (g:∀ c∈[z,TI,TO,i1,i2],b≠c):ZAp z TI TO i1 i2 [i1,a] [i2,b] where
 tiz:=r.tiz
 toz:=r.toz
 tito:=r.tito
 ti1:=r.ti1
 ti2:=r.ti2
 z1:=fun q=>by simp at q; rcases q with q | q; exact r.i1z q.symm; exact h z (by simp) q.symm
 z2:=fun q=>by simp at q; rcases q with q | q; exact r.i2z q.symm; exact g z (by simp) q.symm
 to1:=fun q=>by simp at q; rcases q with q | q; exact r.to1 q; exact h TO (by simp) q.symm
 to2:=fun q=>by simp at q; rcases q with q | q; exact r.to2 q; exact g TO (by simp) q.symm
 i12:=fun q=>by simp at q; rcases q with q | q; exact r.i12 q; exact g i1 (by simp) q.symm
 i21:=fun q=>by simp at q; rcases q with q | q; exact r.i12 q.symm; exact h i2 (by simp) q.symm
 m1:=by simp
 m2:=by simp
theorem akI {P:Program} {w:World} {K:PySem.W.Frag} {elts:List Expr} {x1:Nat} {tp:Pos} (f1 f2:Bool) (a b z TI TO i1 i2:Addr) (zr:ZRec z TI TO i1 i2) :
  Turn P w K (.Tuple elts x1 tp) (Itz K f1 a f2 b) [z,TI,TO,i1,i2] z (fun i h=>IsZip h z TI TO .none∧IsPair h TI (.ref i1) (.ref i2)∧(∃ u v,IsPair h TO u v)∧ItF f1 i1 a i h∧ItF f2 i2 b i h) where
 mem:=by simp
 obj:=fun i h st c hc=>by
  obtain ⟨e1,e2,⟨u,v,e3⟩,e4,e5⟩:=st
  simp at hc
  rcases hc with q | q | q | q | q
  ·subst q
   exact ⟨_,e1,fun v z=>nomatch z⟩
  ·subst q
   exact ⟨_,e2,fun v z=>nomatch z⟩
  ·subst q
   exact ⟨_,e3,fun v z=>nomatch z⟩
  ·subst q
   exact e4.obj
  ·subst q
   exact e5.obj
 keep:=fun i h h' st k=>by
  obtain ⟨e1,e2,⟨u,v,e3⟩,e4,e5⟩:=st
  exact ⟨k z (by simp) _ e1,k TI (by simp) _ e2,⟨u,v,k TO (by simp) _ e3⟩,e4.keep fun o q=>k i1 (by simp) o q,e5.keep fun o q=>k i2 (by simp) o q⟩
 item:=by
  intro X hP hw hK hc i pins s σ H E I hf st hg
  subst hP hw hK
  obtain ⟨xs,ys,x,y,hx,hy,ex,ey⟩:=hg
  obtain ⟨its,r1,p1,_⟩:=I.seqF hx
  obtain ⟨jts,r2,p2,_⟩:=I.seqF hy
  obtain ⟨ux,gx,rx⟩:=r1.get ex
  obtain ⟨uy,gy,ry⟩:=r2.get ey
  obtain ⟨e1,e2,⟨u,v,e3⟩,e4,e5⟩:=st
  have na:∀ c∈[z,TI,TO,i1,i2],a≠c:=fun c hc=>I.apart (hf c hc) hx
  have nb:∀ c∈[z,TI,TO,i1,i2],b≠c:=fun c hc=>I.apart (hf c hc) hy
  have hd:X.A.in1.handled=none:=I.ok.hd hc
  have D1:=aha (prog:=X.prog) (w:=X.w) f1 hd i1 a (na i1 (by simp)) its.toArray
  have D2:=aha (prog:=X.prog) (w:=X.w) f2 hd i2 b (nb i2 (by simp)) jts.toArray
  refine agK D1 D2 (zr.ap na nb) e1 e2 e3 ⟨e4,p1⟩ ⟨e5,p2⟩ (List.getElem?_eq_some_iff.mp gx).1 (List.getElem?_eq_some_iff.mp gy).1 fun h1 tk vx vy px py q1 q2 q3 q4 q5 k1=>⟨_,rfl,?_⟩
  have ex':vx=ux:=by
   have:its[i]?=some vx:=by simpa using px
   rw [gx] at this
   exact (Option.some.inj this).symm
  have ey':vy=uy:=by
   have:jts[i]?=some vy:=by simpa using py
   rw [gy] at this
   exact (Option.some.inj this).symm
  subst ex' ey'
  have lt:∀ c∈[z,TI,TO,i1,i2],c≠s.heap.objs.size:=fun c hc=>by
   have:∃ o,s.heap.get? c=some o:=by
    simp at hc
    rcases hc with q | q | q | q | q
    ·exact ⟨_,q ▸ e1⟩
    ·exact ⟨_,q ▸ e2⟩
    ·exact ⟨_,q ▸ e3⟩
    ·obtain ⟨o,ho,_⟩:=e4.obj
     exact ⟨o,q ▸ ho⟩
    ·obtain ⟨o,ho,_⟩:=e5.obj
     exact ⟨o,q ▸ ho⟩
   obtain ⟨o,ho⟩:=this
   exact Nat.ne_of_lt (Heap.lt_size ho)
  refine wpAny_letOwnedTupleGo_zip (s:={ s with heap:=h1,toks:=tk }) q1 fun h2 z2 sb2=>?_
  have t2:h2.get? s.heap.objs.size=some { cls:=.type "tuple",data:=.seq #[vx,vy] }:=(sb2.2 _ (lt z (by simp)).symm).trans q5
  have I2:Inv X pins σ (upd H s.heap.objs.size (.tup [x,y])) { s with heap:=h2,toks:=tk } :=
   I.turnedNew hf (fun c o hc q=>(sb2.2 c (fun e=>hc (by simp [e]))).trans (k1 c o (fun e=>hc (by simp [e])) (fun e=>hc (by simp [e])) (fun e=>hc (by simp [e])) (fun e=>hc (by simp [e])) q)) (Nat.le_refl _)
    ⟨by show 2≤sizeLine; decide,[vx,vy],.cons rx (.cons ry .nil),⟨_,t2,rfl,_,rfl⟩⟩
  refine ⟨.ref s.heap.objs.size,_,I2,rfl,⟨_,x,y,I.hok.fresh (Nat.le_refl _),rfl,rfl,fun zs hz=>by rw [I.seqF_inj hz hx]; exact ex,fun zs hz=>by rw [I.seqF_inj hz hy]; exact ey⟩,
   ⟨z2,(sb2.2 _ zr.tiz).trans (k1 _ _ zr.tiz zr.tito zr.ti1 zr.ti2 e2),⟨_,_,(sb2.2 _ zr.toz).trans q2⟩,q3.1.keep fun o q=>(sb2.2 _ zr.i1z).trans q,q4.1.keep fun o q=>(sb2.2 _ zr.i2z).trans q⟩,fun c hc=>?_⟩
  rw [aaF (lt c hc)]
  exact (hf c hc).1
 done:=by
  intro X hP hw hK hc i pins s σ H E I hf st hg
  subst hP hw hK
  obtain ⟨xs,ys,hx,hy,fin⟩:=hg
  obtain ⟨its,r1,p1,_⟩:=I.seqF hx
  obtain ⟨jts,r2,p2,_⟩:=I.seqF hy
  have l1:=r1.length
  have l2:=r2.length
  obtain ⟨e1,e2,⟨u,v,e3⟩,e4,e5⟩:=st
  have na:∀ c∈[z,TI,TO,i1,i2],a≠c:=fun c hc=>I.apart (hf c hc) hx
  have nb:∀ c∈[z,TI,TO,i1,i2],b≠c:=fun c hc=>I.apart (hf c hc) hy
  have hd:X.A.in1.handled=none:=I.ok.hd hc
  have D1:=aha (prog:=X.prog) (w:=X.w) f1 hd i1 a (na i1 (by simp)) its.toArray
  have D2:=aha (prog:=X.prog) (w:=X.w) f2 hd i2 b (nb i2 (by simp)) jts.toArray
  refine aeH D1 D2 (zr.ap na nb) e1 e2 e3 ⟨e4,p1⟩ ⟨e5,p2⟩ (by rw [List.size_toArray,List.size_toArray,← l1,← l2]; exact fin) fun h' tk k=>⟨rfl,?_⟩
  exact I.turnedL hf fun c o hc q=>k c o (fun e=>hc (by simp [e])) (fun e=>hc (by simp [e])) (fun e=>hc (by simp [e])) (fun e=>hc (by simp [e])) q
 self:=fun _ _ _ _ _ st h=>wpAny_pyIter_zip st.1 h
section
variable {X:Cx} {elts:List Expr} {x1:Nat} {tp:Pos}
def iZip (K:PySem.W.Frag) (tl:TA):TI:=fun σ H R=>tl σ H fun vs H1=>∃ f1 a f2 b xs ys,vs=[.ref a,.ref b]∧SqF f1 K H1 a xs∧SqF f2 K H1 b ys∧R (Itz K f1 a f2 b) H1
theorem amV {l r:Expr} {tl:TA} {p pos:Pos} (hg:Gl X "zip") (hm:X.mg "zip"=none) (hl:PA X [l,r] tl) (hs:starEach [l,r] X.env=[(false,eval l X.env),(false,eval r X.env)]:=by rfl) (hs2:starEach [r] X.env=[(false,eval r X.env)]:=by rfl) :
  PI X (.Tuple elts x1 tp) (.Call (.Name "zip" p) [l,r] [] pos) (iZip X.K tl):=by
 intro pins s σ H R I h
 refine Call_ (afh I hg hm boot_zip (PyProof.Rows.callWith_type1 (thn (hl pos pins s σ H _ I h) fun us s1 ⟨vs,H1,I1,r1,q1⟩=>?_) (by rw [hs,hs2]) (by rw [hs2]; rfl)))
 obtain ⟨f1,a,f2,b,xs,ys,rfl,hx,hy,q⟩:=q1
 obtain ⟨u,v,rfl,ru,rv⟩:=alV r1
 cases ru
 cases rv
 obtain ⟨its,_,p1,_⟩:=I1.seqF hx
 obtain ⟨jts,_,p2,_⟩:=I1.seqF hy
 refine ags (ank f1 a its.toArray) (ank f2 b jts.toArray) (fun h g=>g.keep fun o z=>Heap.get?_push_of_some _ z) p1 p2 (ag5 _ _) (ag5 _ _) fun h' e1 e2 e3 e4 e5 k=>?_
 refine wpAny_pyIter_zip (s:={ s1 with heap:=h' }) e1 ?_
 have zr:ZRec (s1.heap.objs.size+4) (s1.heap.objs.size+2) (s1.heap.objs.size+3) s1.heap.objs.size (s1.heap.objs.size+1):=by
  generalize s1.heap.objs.size=n
  have g:∀ i j:Nat,i≠j→((n:Nat)+i:Nat)≠n+j:=fun i j h=>by omega
  exact ⟨g 2 4 (by decide),g 3 4 (by decide),g 0 4 (by decide),g 1 4 (by decide),g 2 3 (by decide),g 2 0 (by decide),g 2 1 (by decide),g 3 0 (by decide),g 3 1 (by decide),g 0 1 (by decide)⟩
 refine ⟨_,[s1.heap.objs.size+4,s1.heap.objs.size+2,s1.heap.objs.size+3,s1.heap.objs.size,s1.heap.objs.size+1],_,_,H1,rfl,I1.kept (t':=s1.toks) k,akI f1 f2 a b _ _ _ _ _ zr,⟨e1,e2,⟨_,_,e3⟩,agw f1 a _ e4,agw f2 b _ e5⟩,fun c hc=>?_,q⟩
 have hb:s1.heap.objs.size≤c:=by
  simp only [List.mem_cons,List.not_mem_nil,or_false] at hc
  rcases hc with q | q | q | q | q
  all_goals rw [q]
  all_goals first | exact Nat.le_refl _ | exact Nat.le_add_right _ _
 exact I1.fpOk hb (I1.hok.fresh hb)
end
end L2
namespace L2
open PySem PySem.Spec PyProof.Rows Bn
theorem am0 (K:PySem.W.Frag):PySem.W.kitOne K (.type "int") (.type "bool")=some false:=by
 unfold PySem.W.kitOne PySem.W.kitCls
 rw [if_neg (by decide)]
 show (if PySem.W.kitMeta "bool"=true then PySem.W.subIn K (.type "int") (.type "bool") else none)=some false
 rw [if_pos (by decide +kernel)]
 show (fastBuiltinMro "int").map (·.contains (.type "bool"))=some false
 decide +kernel
structure FunD (K:PySem.W.Frag) (x qual:Str) (st:Stmt) (f:Addr) (fd:FuncData) (ds:Array Value):Prop where
 ex:∃ (oc:Value) (od:Option Addr) (T:Addr) (oT:Obj) (n:Nat) (kV doc pm:Value) (an:Option Addr) (cdv ct:Value) (osl:Array (Option Value)),
  fd=PySem.W.fnOf x qual (aaz st) (aat st) (aad st) (.ref T) kV doc pm an cdv ct∧K.lookup f=some ⟨oc,od,.func fd,osl⟩∧PySem.W.codeIn K cdv qual=true∧K.lookup T=some oT∧oT.data=.seq ds n
 kp:PySem.W.keepIn K (.ref f)=true
section
variable {P:Program} {w:World} {K:PySem.W.Frag} {mg:Str→Option Value} {base:Heap}
theorem FunD.ok {x qual:Str} {st:Stmt} {f:Addr} {fd:FuncData} {ds:Array Value} {N ps:List Str} {k:Nat} {sp:Sp} (F:FunD K x qual st f fd ds) (S:aaA N ps (aad st)) (len:∀ vs H Q E,sp vs H Q E→vs.length=ps.length)
  (hbody:∀ (cdv:Value) (A:Around) (outer:List Env) (s:Shared) (H:Hp) (vs:List V) (Q:VK) (E:XK),Room k (A.deeper (envOfC qual (aad st) s.heap.objs.size f cdv))→sp vs H Q E →
   ∃ t,PSs (cxOf CX0 P w K mg base N qual (aad st) f cdv A outer s H E).nox (aat st) t∧t { nx:=fun _ H'=>Q .non H',rt:=Q } (start N vs) H):FnOk P w K mg base CX0 (k+1) f fd ps sp:=by
 obtain ⟨oc,od,T,oT,n,kV,doc,pm,an,cdv,ct,osl,rfl,lk,hcd,_,_⟩:=F.ex
 refine akH lk hcd S len fun A outer s H vs Q E hr hsp=>?_
 obtain ⟨t,h,q⟩:=hbody cdv A outer s H vs Q E hr hsp
 exact ⟨t,h.nox,q⟩
theorem FunD.binds {x qual:Str} {st:Stmt} {f:Addr} {fd:FuncData} {ds:Array Value} {ps:List Str} {dd:List Value} (F:FunD K x qual st f fd ds)
  (h:∀ (T:Addr) (kV doc pm:Value) (an:Option Addr) (cdv ct:Value) (us:List Value),(us++dd).length=ps.length →
   ∃ k,bindArgs (PySem.W.fnOf x qual (aaz st) (aat st) (aad st) (.ref T) kV doc pm an cdv ct) ⟨us,[]⟩=seqItems? (.ref T) >>= k∧k (some ds)=pure (ps.zip (us++dd))):acL K fd ps dd:=by
 obtain ⟨oc,od,T,oT,n,kV,doc,pm,an,cdv,ct,osl,rfl,lk,hcd,lT,hT⟩:=F.ex
 intro s us hK hl
 obtain ⟨k,h1,h2⟩:=h T kV doc pm an cdv ct us hl
 exact PySem.W.binds_K hK rfl lT hT h1 h2
theorem alj {x qual:Str} {st:Stmt} {f T:Addr} {oT:Obj} {n:Nat} {ds:Array Value} {oc:Value} {od an:Option Addr} {osl:Array (Option Value)} {kV doc pm cdv ct:Value} (l:K.lookup f=some ⟨oc,od,.func (PySem.W.fnOf x qual (aaz st) (aat st) (aad st) (.ref T) kV doc pm an cdv ct),osl⟩)
  (c:PySem.W.codeIn K cdv qual=true) (k:PySem.W.keepIn K (.ref f)=true) (lT:K.lookup T=some oT) (hT:oT.data=.seq ds n):FunD K x qual st f (PySem.W.fnOf x qual (aaz st) (aat st) (aad st) (.ref T) kV doc pm an cdv ct) ds :=
 ⟨⟨oc,od,T,oT,n,kV,doc,pm,an,cdv,ct,osl,rfl,l,c,lT,hT⟩,k⟩
end
theorem abQ {X:Cx} {sc:Scope} {own:List Str} {cap:List (Nat × Str)} (so:Scope) (N:List Str) (hso:X.env.scope=so) (hN:X.N=N) (kind:sc.kind=.function) (names:∀ y∈sc.names,y.2=.local→sc.names.lookup y.1=some .local)
  (nocell:∀ y∈sc.names,y.2≠.cell) (free:∀ y∈sc.names,y.2=.free→so.names.lookup y.1=some .cell) (at':∀ p∈cap,N[p.1]?=some p.2) (hcap:∀ p∈cap,sc.names.lookup p.2=some .free):adO X sc own cap :=
 ⟨kind,names,nocell,fun y hy e=>by show X.env.scope.names.lookup y.1=_; rw [hso]; exact free y hy e,fun p hp=>by rw [hN]; exact at' p hp,hcap⟩
end L2
namespace L2
open PySem PySem.Spec PyProof.Rows Bn
theorem afK (n d:Nat):HT.sIx (n+1) d (some (-1))=n:=by
 unfold HT.sIx
 simp
 omega
end L2
namespace L2
open PySem PySem.Spec PyProof.Rows Bn
section
variable {X:Cx}
end
end L2
namespace L2
open PySem PySem.Spec PyProof.Rows Bn
theorem ach.has {P:Program} {w:World} {H:Hp} {h:Heap} {a:Addr} {o:HO} (x:ach P w H h a o):∃ u,h.get? a=some u:=by
 cases o with
 | lst xs=>obtain ⟨_,_,_,_,e⟩:=x; exact ⟨_,e⟩
 | tup xs=>obtain ⟨_,_,_,u,e,_⟩:=x; exact ⟨u,e⟩
 | dK kvs=>obtain ⟨_,_,_,_,o,_,_,e,_⟩:=x; exact ⟨_,e⟩
 | dT kvs=>obtain ⟨_,_,_,_,o,_,_,e,_⟩:=x; exact ⟨_,e⟩
 | set S n=>obtain ⟨o,_,_,_,e,_⟩:=x; exact ⟨_,e⟩
 | ins C dx fs=>obtain ⟨_,_,_,e,_⟩:=x; exact ⟨_,e⟩
 | own y=>exact x
 | xd fs=>obtain ⟨_,⟨_,_,_,e,_⟩,_⟩:=x; exact ⟨_,e⟩
 | rng lo hi=>obtain ⟨_,_,_,e⟩:=x; exact ⟨_,e⟩
 | frz ob u=>obtain ⟨e,_⟩:=x; exact ⟨_,e⟩
 | tbl ps=>exact ⟨_,show h.get? a=some _ from x⟩
 | met f y=>exact ⟨_,show h.get? a=some _ from x⟩
 | ext φ=>exact x.2.1
abbrev acr:List Value:=[.type "ValueError",.type "Exception",.type "BaseException",.type "object"]
theorem ajc {K:PySem.W.Frag} {h:Heap} {C:Addr} {bmB:List Value} {newId:String} (X:K.In h) (q:PySem.W.excIn K C bmB newId=true) :
  ∃ bm N nm qn bs hdct sn sub ab col dd k0 k1 k2 k3 k5 mN,h.get? C=some (excClassObj nm qn C N bs bm hdct sn sub ab col dd k0 k1 k2 k3 k5 newId)∧h.Ns N mN∧mN "__init__"=none∧OwnTail h bmB bm:=by
 unfold PySem.W.excIn at q
 split at q
 ·rename_i dd cd sl ho
  split at q
  ·rename_i C' bm k0 k1 k2 k3 n k5 hm hs
   simp only [Bool.and_eq_true,beq_iff_eq,Bool.not_eq_true'] at q
   obtain ⟨⟨⟨⟨⟨z1,z2⟩,hdel⟩,ht⟩,hok⟩,hni⟩:=q
   subst z1 z2
   obtain ⟨nm,bs,mro,ns,qn,hd,sn,sub,ab,col,del⟩:=cd
   dsimp only at hm hdel hok hni
   subst hm hdel
   have hsl:sl=#[k0,k1,k2,k3,some (.builtin n),k5]:=by
    obtain ⟨l⟩:=sl
    simp only at hs
    rw [hs]
   subst hsl
   refine ⟨bm,ns,nm,qn,bs,hd,sn,sub,ab,col,dd,k0,k1,k2,k3,k5,_,X _ _ ho,.of_isNs (PySem.W.isNs_of_in X hok),PySem.W.nsMap_none_of_in X hok hni,PySem.W.tail_of_in X ht⟩
  ·cases q
 ·cases q
def CX1 (P:Program) (w:World):CXT:=fun outer H s E e s'=>∃ (x C t:Addr) (B:Heap) (H':Hp),e=.ref x∧s'.os=s.os∧AllBare s'.gens∧Un (frs outer) [] H H' s.heap s'.heap∧HOk P w H' s'.heap ∧
 Heap.FlyingW B outer x (.ref C) (.ref t) s'.heap∧(∀ b o,s'.heap.get? b=some o→(∃ u,H' b=some u)∨(∃ o',s.heap.get? b=some o'∧b ∉ frs outer)→B.get? b=some o)∧E (.ref C) none H'
theorem ajQ {P:Program} {w:World} {K:PySem.W.Frag} {mg:Str→Option Value} {base:Heap} {N:List Str} {qual:Str} {scope:Scope} {f:Addr} {cd:Value} {A:Around} {outer:List Env} {s₀:Shared} {H₀:Hp} {E:XK}
  {x:Str} {C:Addr} {txt:Str} {j:Nat} {np p1 cpos pos:Pos} (hg:Gl (cxOf (CX1 P w) P w K mg base N qual scope f cd A outer s₀ H₀ E) x) (hm:mg x=some (.ref C)) (hx:PySem.W.excIn K C acr "ValueError.__new__"=true)
  (hd:(x == ("__debug__":Str))=false:=by decide) :
  PS (cxOf (CX1 P w) P w K mg base N qual scope f cd A outer s₀ H₀ E) (.Raise (some (.Call (.Name x np) [.Constant (.str txt) j p1] [] cpos)) none pos) (fun _ _ H=>E (.ref C) none H):=by
 intro pins s σ H D I h
 obtain ⟨bm,Nn,nm,qn,bs,hdct,sn,sub,ab,col,dd,k0,k1,k2,k3,k5,mN,hC,hN,hni,T⟩:=ajc I.ok.mod.kin hx
 refine wpAny_Raise_call_subT (C:=C) (nm:=nm) (q:=qn) (N:=Nn) (bs:=bs) (bm:=bm) (hdct:=hdct) (sn:=sn) (sub:=sub) (ab:=ab) (col:=col) (dd:=dd) (k0:=k0) (k1:=k1) (k2:=k2) (k3:=k3) (k5:=k5)
  PySem.F.excBase_ValueError (mN:=mN) (T.hasType (by decide)) (I.ok.hd rfl) rfl hni (aer I hg hm ⟨rfl,?_⟩ hd)
 refine Calls.evalArgs_plain (thn ((adN anW ahx) cpos pins s σ H (fun vs H1=>vs=[.str txt]∧H1=H) I ⟨rfl,rfl⟩) fun us s2 q2=>?_)
 obtain ⟨vs,H2,I2,r2,rfl,rfl⟩:=q2
 have l2:=r2.length
 refine ⟨rfl,by rw [← l2]; show 1≤sizeLine; decide,I2.bk _ _ hC,hN.keeps I2.bk,T.keeps I2.bk,fun h' e made=>?_⟩
 -- the frame is left
 have stk:(cxOf (CX1 P w) P w K mg base N qual scope f cd A outer s₀ H₀ E).stack=envOfC qual scope s₀.heap.objs.size f cd :: outer:=rfl
 have nfr:∀ {b u},H2 b=some u→b ∉ frs (envOfC qual scope s₀.heap.objs.size f cd :: outer):=fun {b u} q z=>by
  rw [I2.stkFree b z] at q
  cases q
 have nL:∀ {b o},s₀.heap.get? b=some o→b ∉ frs outer→b ∉ frs (envOfC qual scope s₀.heap.objs.size f cd :: outer):=fun {b o} q z y=>by
  rcases List.mem_cons.mp (I2.stkSub b y) with g | g
  ·exact absurd (Nat.lt_of_lt_of_le (Heap.lt_size q) I2.ok.above) (by rw [g]; exact Nat.lt_irrefl _)
  ·exact z g
 refine wpAny_leaves_madeW (base:=PySem.W.hideAll s2.heap (frs (envOfC qual scope s₀.heap.objs.size f cd :: outer))) (h:=s2.heap) (s:={ s2 with heap:=h' }) I2.ok.frames rfl (fun b o q=>PySem.W.of_hideAll _ q)
  (PySem.W.funFrames_hide I2.stack fun env he b hb=>List.mem_filterMap.mpr ⟨env,he,hb⟩) made fun h'' t fl tup nb ups=>?_
 have keepB:∀ b o,s2.heap.get? b=some o→b ∉ frs (envOfC qual scope s₀.heap.objs.size f cd :: outer)→h''.get? b=some o:=fun b o q z=>fl.1 b o (PySem.W.hideAll_get _ q z)
 have upS:∀ b o,s2.heap.get? b=some o→(∀ vs,o.data≠.fields vs)→∃ sl,h''.get? b=some { o with slots:=sl }:=fun b o q z=>ups b o (made.keeps b o q) z
 refine ⟨e,C,t,_,H2,rfl,I2.os,I2.bare,⟨fun b o q n hb _=>?_,fun b o q n hb _=>?_,fun b o q n _=>I2.base.free b o q n (by intro z; cases z),fun b o q _=>?_,I2.base.tups,I2.base.frzs,I2.base.tbls⟩,fun b u q=>?_,fl,fun b o q z=>?_,h⟩
 ·exact keepB b o (I2.base.keep b o q n hb (by intro z; cases z)) (nL q hb)
 ·obtain ⟨sl,g⟩:=I2.base.slot b o q n hb (by intro z; cases z)
  obtain ⟨_,o',ho',hd'⟩:=I2.ok.funs.mem hb
  have eo:o'=o:=by
   have ho2:s₀.heap.get? b=some o':=ho'
   rw [q] at ho2
   exact (Option.some.inj ho2).symm
  subst eo
  obtain ⟨sl',g'⟩:=upS b _ g hd'
  exact ⟨sl',g'⟩
 ·obtain ⟨o',g⟩:=I2.base.there b o q (by intro z; cases z)
  by_cases c:b∈frs (envOfC qual scope s₀.heap.objs.size f cd :: outer)
  ·obtain ⟨_,o2,ho2,hd2⟩:=I2.stack.mem c
   obtain ⟨sl,g'⟩:=upS b o2 ho2 hd2
   exact ⟨_,g'⟩
  ·exact ⟨o',keepB b o' g c⟩
 ·refine (I2.hok b u q).stay (fun c v hc g=>keepB c v g ?_) (fun _ g=>g) fun _ _ g=>g
  rcases hc with z | z
  ·rw [z]
   exact nfr q
  ·exact nfr z
 ·have go:∀ {o2},s2.heap.get? b=some o2→b ∉ frs (envOfC qual scope s₀.heap.objs.size f cd :: outer)→(PySem.W.hideAll s2.heap (frs (envOfC qual scope s₀.heap.objs.size f cd :: outer))).get? b=some o:=fun {o2} g n=>by
   have:=keepB b o2 g n
   have q':h''.get? b=some o:=q
   rw [q'] at this
   cases this
   exact PySem.W.hideAll_get _ g n
  rcases z with ⟨u,z⟩ | ⟨o',z,nz⟩
  ·obtain ⟨o2,g⟩:=(I2.hok b u z).has
   exact go g (nfr z)
  ·obtain ⟨o2,g⟩:=I2.base.there b o' z (by intro z; cases z)
   exact go g (nL z nz)
end L2
namespace L2
open PySem PySem.Spec PyProof.Rows Bn
section
variable {X:Cx} {pins:List (Addr × Obj)} {σ:St} {H H':Hp} {s s':Shared}
theorem Inv.flown {B h5:Heap} (I:Inv X pins σ H s) (os:s'.os=s.os) (bare:AllBare s'.gens) (un:Un (frs X.stack) [] H H' s.heap s'.heap) (hok:HOk X.prog X.w H' s'.heap)
  (cov:∀ b o,s'.heap.get? b=some o→(∃ u,H' b=some u)∨(∃ o',s.heap.get? b=some o'∧b ∉ frs X.stack)→B.get? b=some o) (fr:∀ b∈frs X.stack,H' b=none)
  (st:B.StaysIn h5) (up:s'.heap.UpToSlots h5):Inv X pins σ H' { s' with heap:=h5 }:=by
 have nofr:∀ {b u},H' b=some u→b ∉ frs X.stack:=fun {b u} q z=>by
  rw [fr b z] at q
  cases q
 have frame:∀ b∈frs X.stack,∃ o sl,s.heap.get? b=some o∧H b=none∧h5.get? b=some { o with slots:=sl }:=fun b hb=>by
  obtain ⟨_,o,ho,hd⟩:=I.stack.mem hb
  have hn:=I.stkFree b hb
  obtain ⟨sl,g⟩:=un.slot b o ho hn hb (by intro z; cases z)
  obtain ⟨sl',g'⟩:=up b _ g hd
  exact ⟨o,sl',ho,hn,g'⟩
 refine I.call' (s':={ s' with heap:=h5 }) (ch:=[]) os ⟨fun b o q n hb _=>?_,fun b o q n hb _=>?_,un.free,fun b o q _=>?_,un.tups,un.frzs,un.tbls⟩ (fun b u q=>?_) bare fun b z=>nomatch z
 ·exact st b o (cov b o (un.keep b o q n hb (by intro z; cases z)) (.inr ⟨o,q,hb⟩))
 ·obtain ⟨o',sl,g1,_,g2⟩:=frame b hb
  rw [q] at g1
  cases g1
  exact ⟨sl,g2⟩
 ·by_cases c:b∈frs X.stack
  ·obtain ⟨o',sl,_,_,g2⟩:=frame b c
   exact ⟨_,g2⟩
  ·obtain ⟨o',g⟩:=un.there b o q (by intro z; cases z)
   exact ⟨o',st b o' (cov b o' g (.inr ⟨o,q,c⟩))⟩
 ·refine (hok b u q).stay (fun c v hc g=>st c v (cov c v g (.inl ?_))) (fun _ g=>g) fun _ _ g=>g
  rcases hc with z | z
  ·exact ⟨u,by rw [z]; exact q⟩
  ·exact ⟨_,z⟩
end
section
variable {X:Cx} {k:Nat} {f:Addr} {fd:FuncData} {ps:List Str} {sp:Sp} {dvs:List V} {ds:List Value} {E:XK} {x:Str} {p pos:Pos} {e:Expr} {es:List Expr} {t:TA}
theorem alr {pins:List (Addr × Obj)} {σ:St} {H:Hp} {s:Shared} {Q:VK} {us:List Value} {vs:List V} {Ex:Value→Shared→Prop} (F:FnOk X.prog X.w X.K X.mg X.base (CX1 X.prog X.w) k f fd ps sp) (hr:Room k X.A) (hb:acL X.K fd ps ds) (hd:Vals dvs ds)
  (I:Inv X pins σ H s) (r:Vals vs us) (h:sp (vs++dvs) H Q E) (hx:∀ e s',CX1 X.prog X.w X.stack H s E e s'→Ex e s'):wpAny (model X.prog X.w) X.A (call (.ref f) us) (EP X pins σ Q) Ex s:=by
 have r2:Vals (vs++dvs) (us++ds):=r.append hd
 have hl:(us++ds).length=ps.length:=by rw [← r2.length]; exact F.len _ _ _ _ h
 refine wpAny_call (codeAny_mono (F.run X.A X.stack s H ⟨us,[]⟩ (us++ds) (vs++dvs) Q E hr I.env0 (hb s us I.kIn hl) r2 h) fun rr s' hq=>?_)
 cases rr with
 | error e=>exact hx e s' hq
 | ok fl =>
  cases fl with
  | ret u=>exact I.after hq
  | next=>exact False.elim hq
  | brk=>exact False.elim hq
  | cont=>exact False.elim hq
theorem ajN {pins:List (Addr × Obj)} {σ:St} {H:Hp} {s:Shared} {Q:VK} {Ex:Value→Shared→Prop} (hxe:X.xe=fun _ _=>False) (F:FnOk X.prog X.w X.K X.mg X.base (CX1 X.prog X.w) k f fd ps sp) (hr:Room k X.A) (hg:Gl X x) (hm:X.mg x=some (.ref f)) (hk:PySem.W.keepIn X.K (.ref f)=true)
  (hb:acL X.K fd ps ds) (hd:Vals dvs ds) (ha:PA X (e :: es) t) (I:Inv X pins σ H s) (h:t σ H fun vs H1=>sp (vs++dvs) H1 Q E)
  (hx:∀ s1 H1 e s',Inv X pins σ H1 s1→CX1 X.prog X.w X.stack H1 s1 E e s'→Ex e s')
  (hdb:(x == ("__debug__":Str))=false:=by decide) (he:starEach (e :: es) X.env=(false,eval e X.env) :: starEach es X.env:=by rfl) (hpl:(backTo pos (starEach es X.env)).any (·.1)=false:=by rfl) :
  wpAny (model X.prog X.w) X.A (eval (.Call (.Name x p) (e :: es) [] pos) X.env) (EP X pins σ Q) Ex s:=by
 refine wpAny_Call_Name_kw (aer I hg hm ?_ hdb)
 refine PySem.W.callWith_K (h₀:=X.base) I.ok.mod.kin hk (wpAny_mono (ha pos pins s σ H _ I h) (fun us s1 q1=>?_) fun _ _ z=>?_) he hpl
 ·obtain ⟨vs,H1,I1,r,q⟩:=q1
  exact ⟨I1.kIn,alr F hr hb hd I1 r q fun e s' c=>hx s1 H1 e s' I1 c⟩
 ·rw [hxe] at z
  exact z.elim
end
end L2
namespace L2
open PySem PySem.Spec PyProof.Rows Bn
section
variable {P:Program} {w:World} {K:PySem.W.Frag} {mg:Str→Option Value} {base:Heap} {CX:CXT}
theorem Fun.okX {x qual:Str} {st:Stmt} {f:Addr} {fd:FuncData} {N ps:List Str} {k:Nat} {sp:Sp} (F:Fun K x qual st f fd) (S:aaA N ps (aad st)) (len:∀ vs H Q E,sp vs H Q E→vs.length=ps.length)
  (hbody:∀ (cdv:Value) (A:Around) (outer:List Env) (s:Shared) (H:Hp) (vs:List V) (Q:VK) (E:XK),Room k (A.deeper (envOfC qual (aad st) s.heap.objs.size f cdv))→sp vs H Q E →
   ∃ t,PSs (cxOf CX P w K mg base N qual (aad st) f cdv A outer s H E) (aat st) t∧t { nx:=fun _ H'=>Q .non H',rt:=Q } (start N vs) H):FnOk P w K mg base CX (k+1) f fd ps sp:=by
 obtain ⟨oc,od,kV,doc,pm,an,cdv,ct,osl,rfl,lk,hcd⟩:=F.ex
 exact akH lk hcd S len fun A outer s H vs Q E hr hsp=>hbody cdv A outer s H vs Q E hr hsp
theorem FunD.okX {x qual:Str} {st:Stmt} {f:Addr} {fd:FuncData} {ds:Array Value} {N ps:List Str} {k:Nat} {sp:Sp} (F:FunD K x qual st f fd ds) (S:aaA N ps (aad st)) (len:∀ vs H Q E,sp vs H Q E→vs.length=ps.length)
  (hbody:∀ (cdv:Value) (A:Around) (outer:List Env) (s:Shared) (H:Hp) (vs:List V) (Q:VK) (E:XK),Room k (A.deeper (envOfC qual (aad st) s.heap.objs.size f cdv))→sp vs H Q E →
   ∃ t,PSs (cxOf CX P w K mg base N qual (aad st) f cdv A outer s H E) (aat st) t∧t { nx:=fun _ H'=>Q .non H',rt:=Q } (start N vs) H):FnOk P w K mg base CX (k+1) f fd ps sp:=by
 obtain ⟨oc,od,T,oT,n,kV,doc,pm,an,cdv,ct,osl,rfl,lk,hcd,_,_⟩:=F.ex
 exact akH lk hcd S len fun A outer s H vs Q E hr hsp=>hbody cdv A outer s H vs Q E hr hsp
end
end L2
namespace L2
open PySem PySem.Spec PyProof.Rows Bn
section
variable {X:Cx} {pins:List (Addr × Obj)} {σ:St} {H:Hp} {s:Shared}
theorem acJ {M:Model} {A:Around} {E:Value→Shared→Prop} {i:Nat} {n:Str} {pos:Pos} {Q:Unit→Shared→Prop} (I:Inv X pins σ H s) (hN:X.N.Nodup) (hi:X.N[i]?=some n) (hk:X.env.scope.names.lookup n=some .local)
  (h:∀ s',Inv X pins (σ.set i none) H s'→Q () s'):wpAny M A (do bindName X.env n Value.none; unbindBehindTheSuite X.env n pos) Q E s:=by
 obtain ⟨m,hn,hl⟩:=id I.loc
 have hcls:(X.env.scope.kind == .class || (X.env.scope.kind == .module && X.env.locals != X.env.globals))=false:=by rw [I.ok.kind]; rfl
 have hiσ:i < σ.length:=by rw [I.len]; exact (List.getElem?_eq_some_iff.mp hi).1
 have cne:=I.cne
 refine wpAny_nameGoes_keeps hk hn hcls fun h' v hn' hs=>?_
 obtain ⟨oL,_,_,hoL,_⟩:=id hn
 refine h _ ⟨I.ok,I.os,I.bare,⟨fun b o e n hb hx=>?_,fun b o e n hb hx=>?_,I.base.free,fun b o e hx=>?_,I.base.tups,I.base.frzs,I.base.tbls⟩,⟨_,hn',fun j y v' e1 e2 e3=>?_⟩,fun y c e=>?_,I.free,I.freeC,fun p hp=>?_,fun b ob e=>?_,by simpa using I.len⟩
 ·exact (hs.2 b (Nat.ne_of_lt (Nat.lt_of_lt_of_le (Heap.lt_size e) I.ok.above))).trans (I.base.keep b o e n hb hx)
 ·obtain ⟨sl,e1⟩:=I.base.slot b o e n hb hx
  exact ⟨sl,(hs.2 b (Nat.ne_of_lt (Nat.lt_of_lt_of_le (Heap.lt_size e) I.ok.above))).trans e1⟩
 ·obtain ⟨o',e1⟩:=I.base.there b o e hx
  exact ⟨o',(hs.2 b (Nat.ne_of_lt (Nat.lt_of_lt_of_le (Heap.lt_size e) I.ok.above))).trans e1⟩
 ·by_cases hj:j=i
  ·subst hj
   rw [List.getElem?_set_self hiσ] at e2
   cases e2
  ·rw [List.getElem?_set_ne (Ne.symm hj)] at e2
   obtain ⟨u',r',q⟩:=hl j y v' e1 e2 e3
   refine ⟨u',r',?_⟩
   rcases q with ⟨k,e⟩ | ⟨k,c,e,z⟩
   ·refine .inl ⟨k,?_⟩
    have:y≠n:=fun e=>hj (afz hN e1 (e ▸ hi))
    simp [this,e]
   ·exact .inr ⟨k,c,e,z.sameBut hs (cne y c e)⟩
 ·obtain ⟨w',z⟩:=I.cell y c e
  exact ⟨w',z.sameBut hs (cne y c e)⟩
 ·obtain ⟨e,n,ne,nf,d⟩:=I.pin p hp
  exact ⟨(hs.2 p.1 ne).trans e,n,ne,nf,d⟩
 ·refine (I.hok b ob e).stay (fun c w' hc q=>(hs.2 c ?_).trans q) (fun _ q=>q) fun _ _ q=>q
  have hfree:=I.free
  rintro rfl
  rcases hc with rfl | hc
  ·rw [hfree] at e; cases e
  ·rw [hfree] at hc; cases hc
end
abbrev Cx.mk1 (X:Cx) (x:Addr) (l:List (Addr × Obj)):Cx:={ X with A:=X.A.mark (some (.ref x)),calm:=false,pn:=l++X.pn,xe:=fun _ _=>False }
section
variable {X:Cx} {pins:List (Addr × Obj)} {σ:St} {H:Hp} {s:Shared}
theorem Cx.Ok.mk1 (ok:X.Ok) (x:Addr) (l:List (Addr × Obj)):(X.mk1 x l).Ok :=
 ⟨ok.mod,ok.kind,ok.glob,ok.blt,ok.above,ok.inj,ok.has,ok.cab,fun z=>(by cases z),ok.frames,ok.stk,ok.exf,ok.bs,ok.bsz,ok.noex,ok.exfs,ok.funs,ok.frf⟩
theorem Inv.mk1 (I:Inv X pins σ H s) (x:Addr) (l:List (Addr × Obj)) (h:∀ p∈l,s.heap.get? p.1=some p.2∧H p.1=none∧p.1≠X.env.locals∧p.1 ∉ X.fs∧∀ v,p.2.data≠.cell v):Inv (X.mk1 x l) pins σ H s :=
 ⟨I.ok.mk1 x l,I.os,I.bare,I.base,I.loc,I.cell,I.free,I.freeC,fun p hp=>by
  rw [List.append_assoc] at hp
  exact (List.mem_append.mp hp).elim (h p) (I.pin p),I.hok,I.len⟩
theorem Inv.unmk1 {x:Addr} {l:List (Addr × Obj)} (ok:X.Ok) (I:Inv (X.mk1 x l) pins σ H s):Inv X pins σ H s :=
 ⟨ok,I.os,I.bare,I.base,I.loc,I.cell,I.free,I.freeC,fun p hp=>I.pin p (by rw [List.append_assoc]; exact List.mem_append_right _ hp),I.hok,I.len⟩
end
end L2
namespace L2
open PySem PySem.Spec PyProof.Rows Bn
theorem aiP {a b c:Heap} (h1:a.UpToSlots b) (h2:b.UpToSlots c):a.UpToSlots c:=fun x o q d=>by
 obtain ⟨sl,g⟩:=h1 x o q d
 obtain ⟨sl',g'⟩:=h2 x _ g d
 exact ⟨sl',g'⟩
section
variable {X:Cx} {k:Nat} {f:Addr} {fd:FuncData} {ps:List Str} {sp:Sp} {dvs:List V} {ds:List Value} {x:Str} {p pos pos1 pos2 pos3 pc:Pos} {e:Expr} {es:List Expr} {t:TA} {c n:Str} {C:Addr} {i:Nat} {b₀:Stmt} {body:List Stmt} {newId:String}
end
end L2
namespace L2
open PySem PySem.Spec PySem.W PySem.Calls PySem.Builtin PySem.Builtin.Getset_descriptor PyProof.Rows Bn
section
variable {prog:Program} {w:World} {A:Around} {E:Value→Shared→Prop} {s:Shared} {K:PySem.W.Frag} {x D:Addr} {B:String} {R:Result→Shared→Prop}
def agF (h:Heap) (x D:Addr):Prop:=∃ o,h.get? x=some o∧o.cls=.ref D
theorem agF.ty {M:Model} {h:Heap} (I:agF h x D):Looks M h (typeOf (.ref x)) (.ref D):=by
 obtain ⟨o,h1,h2⟩:=I
 rw [← h2]
 exact (Looks.ld h1).andThen .now
structure XCls (K:PySem.W.Frag) (D:Addr):Prop where
 ga:findIn K (.ref D) "__getattribute__"=some (some (.builtin "BaseException.__getattribute__"))
 gt:findIn K (.ref D) "__getattr__"=some none
 be:mroIn K D (.type "BaseException")=some true
 ob:mroIn K D (.type "object")=some true
 cl:findIn K (.ref D) "__class__"=some (some (.builtin "object.__class__"))
 sp:specialIn K (.builtin "object.__class__") "__get__"=some (some (.builtin "getset_descriptor.__get__"))
 tk:takesIn K (.builtin "object.__class__")=some true
 ci:(clsIn K D).isSome=true
theorem ako {M:Model} {h:Heap} (Z:XCls K D) (X:K.In h):Looks M h (Builtin.ObjectAttr.find (.ref x) (.ref D) "__class__") (.bind (.builtin "getset_descriptor.__get__") (.builtin "object.__class__")):=by
 have d:Looks M h (Builtin.ObjectAttr.dataDescriptor? (some (.builtin "object.__class__")) (some (.builtin "getset_descriptor.__get__"))) (some (.builtin "getset_descriptor.__get__",.builtin "object.__class__")) :=
  (looks_takesIn X Z.tk).andThen .now
 have g:Looks M h (Builtin.ObjectAttr.getOf (some (.builtin "object.__class__"))) (some (.builtin "getset_descriptor.__get__")):=looks_specialIn X Z.sp
 exact (looks_findIn X Z.cl).andThen (g.andThen (d.andThen (Looks.tag .now)))
theorem alq {tp:Value} (Z:XCls K D) (X:K.In s.heap) (I:agF s.heap x D) (h:R (.ok (.ret (.ref D))) s) :
  codeAny (model prog w) A (.call (.builtin "getset_descriptor.__get__") ⟨[.builtin "object.__class__",.ref x,tp],[]⟩) R s:=by
 obtain ⟨hh,g,dr,t,os⟩:=s
 have l0:=I.ty (M:=model prog w)
 have l1:=looks_mroIn (M:=model prog w) X Z.ob
 refine codeAny_call_builtin KF.slot_gs.plain KF.entry_gs
  (KF.slot_gs.check _ _ _ _ _ _ _ _ KF.type_class (KF.args_gs _ _ _) ?_)
 unfold Builtin.«getset_descriptor.__get__» descrGet; rw [dga_obj]
 refine wpAny_bind (wpAny_pure ?_); unfold descrGetter descrCheckInstance descrNameAndClass isInstance
 simp only [KF.owner_class]; repeat lk
 refine ⟨Code.quiet_builtin _ (by decide +kernel),
  codeAny_builtin KF.entry_class ?_⟩
 unfold Builtin.«object.__class__» shownTypeOf; repeat lk
 exact h
theorem anj {tk:Tok} (FB:ExcAttrFacts B) (Z:XCls K D) (X:K.In s.heap) (I:agF s.heap x D) (h:R (.ok (.ret (.ref D))) s) :
  codeAny (model prog w) A (.call (.builtin "BaseException.__getattribute__") ⟨[.ref x,.str "__class__" tk],[]⟩) R s:=by
 obtain ⟨hh,g,d,t,os⟩:=s
 have l0:=I.ty (M:=model prog w)
 have lb:=looks_mroIn (M:=model prog w) X Z.be
 have l1:=ako (M:=model prog w) (x:=x) Z X
 refine codeAny_call_builtin FB.ga.plain F.entry_bexc_ga ?_
 have e1:builtinKind "BaseException.__getattribute__"=some .slot:=by decide +kernel
 have e2:splitId "BaseException.__getattribute__"=some ("BaseException","__getattribute__"):=by decide +kernel
 have ha:=F.args_bexc_ga (.ref x) (.str "__class__" tk)
 simp only [checkBuiltinCall,e1,e2]
 refine wpAny_bind ?_
 unfold isInstance
 refine wpAny_bind (l0.at (lb.at ?_))
 repeat (any_goals (first | wp_step))
 obtain ⟨o,h1,h2⟩:=id I
 refine wpAny_loadPart h1 (wpAny_pure ?_)
 rw [h2]
 refine wpAny_bind (l1.at ?_)
 unfold Builtin.ObjectAttr.bindTo
 repeat (any_goals (first | wp_step))
 exact alq Z X I (wpAny_pure h)
theorem ajw {Q:Option Value→Shared→Prop} (FB:ExcAttrFacts B) (Z:XCls K D) (X:K.In s.heap) (I:agF s.heap x D) (h:Q (some (.ref D)) { s with toks:=s.toks+1 }) :
  wpAny (model prog w) A (getAttr? (.ref x) "__class__") Q E s:=by
 obtain ⟨hh,g,d,t,os⟩:=s
 have l0:=I.ty (M:=model prog w)
 have l1:=looks_findIn (M:=model prog w) X Z.ga
 have l2:=looks_findIn (M:=model prog w) X Z.gt
 have f3:=FB.ga.bind (.ref x)
 have e2:(Value.builtin "BaseException.__getattribute__" == Value.builtin "object.__getattribute__")=false:=by decide +kernel
 unfold getAttr? getAttrBy? getAttrBy
 refine wpAny_bind (wpAny_mkText (wpAny_bind (wpAny_attempt (wpAny_holding (wpAny_bind (l0.at (wpAny_bind (l1.at ?_))))))))
 dsimp only
 rw [e2]
 simp only [Bool.and_false,Bool.false_eq_true,if_false]
 unfold getAttrByItsOwn hookBefore onTheHeap
 simp only [if_true]
 refine wpAny_bind (l2.at ?_)
 repeat (any_goals (first | assumption | wp_step))
 refine anj (s:=⟨hh,g,d,t+1,os⟩) FB Z X I ?_
 exact handed_on rfl (wpAny_pure h)
theorem ahj (FB:ExcAttrFacts B) (Z:XCls K D):KitX K (.ref x) (.ref D) (fun h=>agF h x D) where
 ty:=fun _ _ _ I=>I.ty
 it:=fun _ _ X _=>by
  obtain ⟨cd,hc⟩:=Option.isSome_iff_exists.mp Z.ci
  unfold clsIn at hc
  split at hc
  ·rename_i _ _ _ _ ho
   exact (Looks.ld (X _ _ ho)).andThen .now
  ·cases hc
 ne:=fun h tp dd its n sl X htp=>by
  obtain ⟨cd,hc⟩:=Option.isSome_iff_exists.mp Z.ci
  cases q:(Value.ref D == Value.ref tp) with
  | false=>rfl
  | true =>
   cases Value.ref.inj (beq_iff_eq.mp q)
   unfold clsIn at hc
   split at hc
   ·rename_i _ _ _ _ ho
    cases (X _ _ ho).symm.trans htp
   ·cases hc
 ca:=fun X I k=>ajw FB Z X I k
end
end L2
namespace L2
open PySem PySem.Spec PyProof.Rows Bn
section
variable {X:Cx} {y D:Addr} {oe:Obj}
theorem akx (Z:XCls X.K D) (hp:(y,oe)∈X.pn) (hc:oe.cls=.ref D):adG X (.builtin "isinstance") (fun xs H Q=>∃ c b,((∃ n,c=V.ty n∧PySem.W.kitOne X.K (.ref D) (.type n)=some b)∨∃ C,c=V.ref C∧PySem.W.kitOne X.K (.ref D) (.ref C)=some b)∧xs=[.ref y,c]∧Q (.bl b) H):=by
 intro pins s σ H xs us Q I r h
 obtain ⟨c,b,e,rfl,q⟩:=h
 obtain ⟨u,c',rfl,rx,rc⟩:=alV r
 cases (show u=Value.ref y from rx)
 have of:agF s.heap y D:=⟨oe,(I.pin _ (List.mem_append_left _ hp)).1,hc⟩
 rcases e with ⟨n,rfl,e⟩ | ⟨C,rfl,e⟩
 ·cases (show c'=Value.type n from rc)
  exact PySem.W.kia_one (ahj PySem.F.excAttr_ValueError Z) I.kIn of e (by intro q; cases q) fun tk=>⟨.bl b,H,I.tok tk,rfl,q⟩
 ·cases (show c'=Value.ref C from rc)
  exact PySem.W.kia_one (ahj PySem.F.excAttr_ValueError Z) I.kIn of e (by intro q; cases q) fun tk=>⟨.bl b,H,I.tok tk,rfl,q⟩
end
end L2
namespace L2.Pp
open PySem PySem.Spec PyProof.Rows Bn
inductive PV where
 | non | bl (b:Bool) | int (i:Int) | str (x:Str) | tup (xs:List PV) | lst (xs:List PV)
inductive SO where
 | lst (xs:List PV)
 | lol (xss:List (List PV))
abbrev Sto:=List SO
inductive AV where
 | pv (v:PV) | ref (k:Nat)
abbrev Rho:=List (Option AV)
inductive Res (α:Type) where
 | ok (a:α) (S:Sto) | exc (n:Str) (S:Sto) | fail
def Res.bind {α β:Type} (r:Res α) (k:α→Sto→Res β):Res β:=match r with
 | .ok a S=>k a S
 | .exc n S=>.exc n S
 | .fail=>.fail
inductive SRes where
 | nx (ρ:Rho) (S:Sto) | rt (v:AV) (S:Sto) | bk (ρ:Rho) (S:Sto) | ct (ρ:Rho) (S:Sto) | exc (n:Str) (S:Sto) | fail
def LAt (K:PySem.W.Frag) (c:Addr→Prop) (H:Hp) (a:Addr) (vs:List V):Prop :=
 (H a=some (.lst vs)∧¬ c a)∨(∃ o,H a=some (.frz o (.lst vs))) ∨
  ∃ (o:Obj) (its:Array Value) (n:Nat),K.lookup a=some o∧o.cls=.type "list"∧o.dict=none∧o.data=.seq its n∧its.size≤sizeLine∧Vals vs its.toList
theorem LAt.sq {K:PySem.W.Frag} {c:Addr→Prop} {H:Hp} {a:Addr} {vs:List V} (h:LAt K c H a vs):SqL K H a vs:=by
 rcases h with h | h | h
 ·exact .inl (.inl h.1)
 ·exact .inl (.inr h)
 ·exact .inr h
mutual
def Rep (K:PySem.W.Frag) (c:Addr→Prop) (H:Hp):PV→V→Prop
 | .non,x=>x=.non
 | .bl b,x=>x=.bl b
 | .int i,x=>x=.int i
 | .str s,x=>x=.str s
 | .tup xs,x=>∃ a vs,x=.ref a∧SqT K H a vs∧vs.length≤sizeLine∧Reps K c H xs vs
 | .lst xs,x=>∃ a vs,x=.ref a∧LAt K c H a vs∧vs.length≤sizeLine∧Reps K c H xs vs
def Reps (K:PySem.W.Frag) (c:Addr→Prop) (H:Hp):List PV→List V→Prop
 | [],vs=>vs=[]
 | p :: ps,vs=>∃ v r,vs=v :: r∧Rep K c H p v∧Reps K c H ps r
end
section
variable {K:PySem.W.Frag} {c c':Addr→Prop} {H H':Hp}
mutual
theorem Rep.mono (hT:∀ a vs,SqT K H a vs→SqT K H' a vs) (hL:∀ a vs,LAt K c H a vs→LAt K c' H' a vs):∀ (v:PV) (x:V),Rep K c H v x→Rep K c' H' v x
 | .non,x,h=>h
 | .bl b,x,h=>h
 | .int i,x,h=>h
 | .str s,x,h=>h
 | .tup xs,x,h=>by
  unfold Rep at h ⊢
  obtain ⟨a,vs,e,t,z,r⟩:=h
  exact ⟨a,vs,e,hT a vs t,z,Reps.mono hT hL xs vs r⟩
 | .lst xs,x,h=>by
  unfold Rep at h ⊢
  obtain ⟨a,vs,e,t,z,r⟩:=h
  exact ⟨a,vs,e,hL a vs t,z,Reps.mono hT hL xs vs r⟩
theorem Reps.mono (hT:∀ a vs,SqT K H a vs→SqT K H' a vs) (hL:∀ a vs,LAt K c H a vs→LAt K c' H' a vs):∀ (v:List PV) (x:List V),Reps K c H v x→Reps K c' H' v x
 | [],vs,h=>by
  unfold Reps at h ⊢
  exact h
 | p :: ps,vs,h=>by
  unfold Reps at h ⊢
  obtain ⟨v,r,e,h1,h2⟩:=h
  exact ⟨v,r,e,Rep.mono hT hL p v h1,Reps.mono hT hL ps r h2⟩
end
theorem Reps.length:∀ {xs:List PV} {vs:List V},Reps K c H xs vs→xs.length=vs.length
 | [],vs,h=>by
  unfold Reps at h
  rw [h]
  rfl
 | p :: ps,vs,h=>by
  unfold Reps at h
  obtain ⟨v,r,rfl,_,h2⟩:=h
  rw [List.length_cons,List.length_cons,Reps.length h2]
theorem Reps.get:∀ {xs:List PV} {vs:List V} {i:Nat} {p:PV},Reps K c H xs vs→xs[i]?=some p→∃ v,vs[i]?=some v∧Rep K c H p v
 | [],vs,i,p,h,e=>by simp at e
 | q :: ps,vs,0,p,h,e=>by
  unfold Reps at h
  obtain ⟨v,r,rfl,h1,_⟩:=h
  simp at e
  subst e
  exact ⟨v,rfl,h1⟩
 | q :: ps,vs,i+1,p,h,e=>by
  unfold Reps at h
  obtain ⟨v,r,rfl,_,h2⟩:=h
  obtain ⟨u,e1,e2⟩:=Reps.get (i:=i) h2 (by simpa using e)
  exact ⟨u,by simpa using e1,e2⟩
theorem Reps.nil:Reps K c H [] []:=by
 unfold Reps
 rfl
theorem Reps.cons {p:PV} {v:V} {ps:List PV} {vs:List V} (h:Rep K c H p v) (t:Reps K c H ps vs):Reps K c H (p :: ps) (v :: vs):=by
 unfold Reps
 exact ⟨v,vs,rfl,h,t⟩
theorem Reps.append:∀ {xs ys:List PV} {vs ws:List V},Reps K c H xs vs→Reps K c H ys ws→Reps K c H (xs++ys) (vs++ws)
 | [],ys,vs,ws,h,g=>by
  unfold Reps at h
  subst h
  exact g
 | p :: ps,ys,vs,ws,h,g=>by
  unfold Reps at h
  obtain ⟨v,r,rfl,h1,h2⟩:=h
  exact .cons h1 (h2.append g)
theorem Reps.drop:∀ {xs:List PV} {vs:List V} (n:Nat),Reps K c H xs vs→Reps K c H (xs.drop n) (vs.drop n)
 | xs,vs,0,h=>by simpa using h
 | [],vs,n+1,h=>by
  unfold Reps at h
  subst h
  simpa using Reps.nil
 | p :: ps,vs,n+1,h=>by
  unfold Reps at h
  obtain ⟨v,r,rfl,_,h2⟩:=h
  simpa using h2.drop n
theorem Reps.take:∀ {xs:List PV} {vs:List V} (n:Nat),Reps K c H xs vs→Reps K c H (xs.take n) (vs.take n)
 | xs,vs,0,h=>by simpa using Reps.nil
 | [],vs,n+1,h=>by
  unfold Reps at h
  subst h
  simpa using Reps.nil
 | p :: ps,vs,n+1,h=>by
  unfold Reps at h
  obtain ⟨v,r,rfl,h1,h2⟩:=h
  simpa using Reps.cons h1 (h2.take n)
theorem Reps.eraseIdx:∀ {xs:List PV} {vs:List V} (n:Nat),Reps K c H xs vs→Reps K c H (xs.eraseIdx n) (vs.eraseIdx n)
 | [],vs,n,h=>by
  unfold Reps at h
  subst h
  simpa using Reps.nil
 | p :: ps,vs,0,h=>by
  unfold Reps at h
  obtain ⟨v,r,rfl,h1,h2⟩:=h
  simpa using h2
 | p :: ps,vs,n+1,h=>by
  unfold Reps at h
  obtain ⟨v,r,rfl,h1,h2⟩:=h
  simpa using Reps.cons h1 (h2.eraseIdx n)
theorem Reps.set {p:PV} {v:V} (g:Rep K c H p v):∀ {xs:List PV} {vs:List V} (n:Nat),Reps K c H xs vs→Reps K c H (xs.set n p) (vs.set n v)
 | [],vs,n,h=>by
  unfold Reps at h
  subst h
  simpa using Reps.nil
 | q :: ps,vs,0,h=>by
  unfold Reps at h
  obtain ⟨v,r,rfl,h1,h2⟩:=h
  simpa using Reps.cons g h2
 | q :: ps,vs,n+1,h=>by
  unfold Reps at h
  obtain ⟨v,r,rfl,h1,h2⟩:=h
  simpa using Reps.cons h1 (Reps.set g n h2)
end
structure Ph where
 f:List Addr
 w:Addr→Prop
 c:Addr→Prop
def an4 (K:PySem.W.Frag) (c:Addr→Prop) (H:Hp) (xss:List (List PV)) (bs:List Addr):Prop :=
 xss.length=bs.length∧∀ (i:Nat) (xs:List PV) (b:Addr),xss[i]?=some xs→bs[i]?=some b→∃ vs,H b=some (.lst vs)∧vs.length≤sizeLine∧Reps K c H xs vs
def SObj (K:PySem.W.Frag) (p:Ph) (H:Hp) (a:Addr):SO→Prop
 | .lst xs=>∃ vs,H a=some (.lst vs)∧vs.length≤sizeLine∧Reps K p.c H xs vs
 | .lol xss=>∃ bs:List Addr,H a=some (.lst (bs.map V.ref))∧bs.length≤sizeLine∧bs.Nodup∧(∀ b∈bs,p.w b∧b ∉ p.f)∧an4 K p.c H xss bs
theorem SObj.mono {K:PySem.W.Frag} {p p':Ph} {H H':Hp} {a:Addr} {o:SO} (h:SObj K p H a o) (ha:∀ vs,H a=some (.lst vs)→H' a=some (.lst vs))
  (hb:∀ b,p.w b→b ∉ p.f→(p'.w b∧b ∉ p'.f)∧∀ vs,H b=some (.lst vs)→H' b=some (.lst vs)) (hR:∀ xs vs,Reps K p.c H xs vs→Reps K p'.c H' xs vs):SObj K p' H' a o:=by
 cases o with
 | lst xs =>
  obtain ⟨vs,e,l,r⟩:=h
  exact ⟨vs,ha vs e,l,hR xs vs r⟩
 | lol xss =>
  obtain ⟨bs,e,l,nd,wf,z,at_⟩:=h
  refine ⟨bs,ha _ e,l,nd,fun b m=>(hb b (wf b m).1 (wf b m).2).1,z,fun i xs b e1 e2=>?_⟩
  obtain ⟨vs,g1,g2,g3⟩:=at_ i xs b e1 e2
  have m:=wf b (List.mem_of_getElem? e2)
  exact ⟨vs,(hb b m.1 m.2).2 vs g1,g2,hR xs vs g3⟩
def Mb:HO→Prop
 | .lst _=>True
 | .dK _=>True
 | .dT _=>True
 | .ins _ _ _=>True
 | _=>False
structure Sim (K:PySem.W.Frag) (p:Ph) (S:Sto) (H:Hp):Prop where
 nd:p.f.Nodup
 len:p.f.length=S.length
 sub:∀ a∈p.f,p.w a
 wc:∀ a,p.w a→p.c a
 mu:∀ a,p.c a→∃ o,H a=some o∧Mb o
 obj:∀ (k:Nat) (a:Addr) (o:SO),p.f[k]?=some a→S[k]?=some o→SObj K p H a o
structure Step (p:Ph) (H:Hp) (q:Ph) (H':Hp):Prop where
 wc:∀ a,p.w a→p.c a
 mu:∀ a,p.c a→∃ o,H a=some o∧Mb o
 pre:p.f <+: q.f
 mw:∀ a,p.w a→q.w a
 mono:∀ a,p.c a→q.c a
 nf:∀ a∈q.f,a ∉ p.f→H a=none
 nw:∀ a,q.w a→¬ p.w a→H a=none
 nc:∀ a,q.c a→¬ p.c a→H a=none
 keep:∀ a o,H a=some o→¬ p.w a→H' a=some o
def RepA (K:PySem.W.Frag) (p:Ph) (H:Hp):AV→V→Prop
 | .pv v,x=>Rep K p.c H v x
 | .ref k,x=>∃ a,p.f[k]?=some a∧x=.ref a
abbrev ac1 (K:PySem.W.Frag) (p:Ph) (H:Hp):List AV→List V→Prop:=Paired (RepA K p H)
structure RepE (K:PySem.W.Frag) (p:Ph) (H:Hp) (ρ:Rho) (σ:St):Prop where
 len:ρ.length=σ.length
 at_:∀ (i:Nat) (v:AV),ρ[i]?=some (some v)→∃ x,σ[i]?=some (some x)∧RepA K p H v x
section
variable {K:PySem.W.Frag} {p q r:Ph} {H H' H'':Hp} {S:Sto}
theorem Sim.step (s:Sim K p S H):Step p H p H:=⟨s.wc,s.mu,List.prefix_rfl,fun _ h=>h,fun _ h=>h,fun _ h g=>absurd h g,fun _ h g=>absurd h g,fun _ h g=>absurd h g,fun _ _ h _=>h⟩
theorem Step.trans (a:Step p H q H') (b:Step q H' r H''):Step p H r H'':=by
 have back:∀ x,H' x=none→¬ p.w x→H x=none:=fun x h n=>by
  cases e:H x with
  | none=>rfl
  | some o=>rw [a.keep x o e n] at h; cases h
 refine ⟨a.wc,a.mu,a.pre.trans b.pre,fun x h=>b.mw x (a.mw x h),fun x h=>b.mono x (a.mono x h),fun x h n=>?_,fun x h n=>?_,fun x h n=>?_,fun x o e n=>?_⟩
 ·by_cases m:x∈q.f
  ·exact a.nf x m n
  ·have hn:=b.nf x h m
   refine back x hn fun z=>?_
   obtain ⟨o,ho,_⟩:=b.mu x (a.mono x (a.wc x z))
   rw [hn] at ho
   cases ho
 ·by_cases m:q.w x
  ·exact a.nw x m n
  ·exact back x (b.nw x h m) n
 ·by_cases m:q.c x
  ·exact a.nc x m n
  ·exact back x (b.nc x h m) fun z=>n (a.wc x z)
 ·refine b.keep x o (a.keep x o e n) fun z=>?_
  rw [a.nw x z n] at e
  cases e
theorem Step.tup (s:Step p H q H') {a:Addr} {vs:List V} (h:SqT K H a vs):SqT K H' a vs:=by
 have go:∀ o,H a=some o→¬ Mb o→H' a=some o:=fun o e n=>s.keep a o e fun z=>by
  obtain ⟨u,e',m⟩:=s.mu a (s.wc a z)
  rw [e] at e'
  cases e'
  exact n m
 rcases h with (h | ⟨o,h⟩) | h
 ·exact .inl (.inl (go _ h (fun z=>z)))
 ·exact .inl (.inr ⟨o,go _ h (fun z=>z)⟩)
 ·exact .inr h
theorem Step.lat (s:Step p H q H') {a:Addr} {vs:List V} (h:LAt K p.c H a vs):LAt K q.c H' a vs:=by
 rcases h with ⟨h,n⟩ | ⟨o,h⟩ | h
 ·refine .inl ⟨s.keep a _ h fun z=>n (s.wc a z),fun z=>?_⟩
  rw [s.nc a z n] at h
  cases h
 ·refine .inr (.inl ⟨o,s.keep a _ h fun z=>?_⟩)
  obtain ⟨u,e',m⟩:=s.mu a (s.wc a z)
  rw [h] at e'
  cases e'
  exact m
 ·exact .inr (.inr h)
theorem Step.rep (s:Step p H q H') {v:PV} {x:V} (h:Rep K p.c H v x):Rep K q.c H' v x:=Rep.mono (fun _ _=>s.tup) (fun _ _=>s.lat) v x h
theorem Step.reps (s:Step p H q H') {v:List PV} {x:List V} (h:Reps K p.c H v x):Reps K q.c H' v x:=Reps.mono (fun _ _=>s.tup) (fun _ _=>s.lat) v x h
theorem Step.at_ (s:Step p H q H') {k:Nat} {a:Addr} (h:p.f[k]?=some a):q.f[k]?=some a:=by
 obtain ⟨t,e⟩:=s.pre
 rw [← e,List.getElem?_append_left (by
  have:=List.getElem?_eq_some_iff.mp h
  exact this.1)]
 exact h
theorem Step.repA (s:Step p H q H') {v:AV} {x:V} (h:RepA K p H v x):RepA K q H' v x:=by
 cases v with
 | pv v=>exact s.rep h
 | ref k =>
  obtain ⟨a,e,f⟩:=h
  exact ⟨a,s.at_ e,f⟩
theorem Step.repE (s:Step p H q H') {ρ:Rho} {σ:St} (h:RepE K p H ρ σ):RepE K q H' ρ σ :=
 ⟨h.len,fun i v e=>let ⟨x,e1,e2⟩:=h.at_ i v e; ⟨x,e1,s.repA e2⟩⟩
theorem Sim.same (s:Sim K p S H) (h:Same H H'):Step p H p H':=⟨s.wc,s.mu,List.prefix_rfl,fun _ h=>h,fun _ h=>h,fun _ h g=>absurd h g,fun _ h g=>absurd h g,fun _ h g=>absurd h g,fun a o e _=>h a o e⟩
theorem Sim.ofSame (s:Sim K p S H) (h:Same H H'):Sim K p S H' :=
 ⟨s.nd,s.len,s.sub,s.wc,fun a m=>let ⟨o,e,m⟩:=s.mu a m; ⟨o,h a o e,m⟩,fun k a o e1 e2=>by
  exact (s.obj k a o e1 e2).mono (fun vs e=>h _ _ e) (fun b w f=>⟨⟨w,f⟩,fun vs e=>h _ _ e⟩) fun xs vs=>(s.same h).reps⟩
theorem abE {a:Addr} {o:HO} (h:H a=none):Same H (upd H a o):=fun b u e=>by
 rw [aaF (aaG e h)]
 exact e
end
section
variable {α β γ δ:Type}
def aaV (K:PySem.W.Frag) (cl:Str→Addr) (R:Ph→Hp→α→β→Prop) (p:Ph) (H:Hp) (r:Res α) (Q:β→Hp→Prop) (E:XK):Prop:=match r with
 | .ok a S=>∀ q H' x,Step p H q H'→Sim K q S H'→R q H' a x→Q x H'
 | .exc n S=>∀ q H',Step p H q H'→Sim K q S H'→E (.ref (cl n)) none H'
 | .fail=>False
def abS (K:PySem.W.Frag) (cl:Str→Addr) (p:Ph) (H:Hp) (r:SRes) (D:Ends) (E:XK):Prop:=match r with
 | .nx ρ S=>∀ q H' σ,Step p H q H'→Sim K q S H'→RepE K q H' ρ σ→D.nx σ H'
 | .bk ρ S=>∀ q H' σ,Step p H q H'→Sim K q S H'→RepE K q H' ρ σ→D.bk σ H'
 | .ct ρ S=>∀ q H' σ,Step p H q H'→Sim K q S H'→RepE K q H' ρ σ→D.ct σ H'
 | .rt v S=>∀ q H' x,Step p H q H'→Sim K q S H'→RepA K q H' v x→D.rt x H'
 | .exc n S=>∀ q H',Step p H q H'→Sim K q S H'→E (.ref (cl n)) none H'
 | .fail=>False
variable {K:PySem.W.Frag} {cl:Str→Addr} {p q:Ph} {H H':Hp} {S:Sto} {E:XK} {R:Ph→Hp→α→β→Prop} {R':Ph→Hp→γ→δ→Prop}
theorem aaV.mono {r:Res α} {Q:β→Hp→Prop} (h:aaV K cl R p H r Q E) (s:Step p H q H'):aaV K cl R q H' r Q E:=by
 cases r with
 | ok a S=>exact fun q' H'' x s'=>h q' H'' x (s.trans s')
 | exc n S=>exact fun q' H'' s'=>h q' H'' (s.trans s')
 | fail=>exact h
theorem abS.mono {r:SRes} {D:Ends} (h:abS K cl p H r D E) (s:Step p H q H'):abS K cl q H' r D E:=by
 cases r with
 | nx ρ S=>exact fun q' H'' x s'=>h q' H'' x (s.trans s')
 | bk ρ S=>exact fun q' H'' x s'=>h q' H'' x (s.trans s')
 | ct ρ S=>exact fun q' H'' x s'=>h q' H'' x (s.trans s')
 | rt v S=>exact fun q' H'' x s'=>h q' H'' x (s.trans s')
 | exc n S=>exact fun q' H'' s'=>h q' H'' (s.trans s')
 | fail=>exact h
theorem aaV.ret {a:α} {x:β} {Q:β→Hp→Prop} (h:aaV K cl R p H (.ok a S) Q E) (s:Sim K p S H) (r:R p H a x):Q x H:=h p H x s.step s r
theorem aaV.same {a:α} {x:β} {Q:β→Hp→Prop} (h:aaV K cl R p H (.ok a S) Q E) (s:Sim K p S H) (e:Same H H') (r:R p H' a x):Q x H':=h p H' x (s.same e) (s.ofSame e) r
def tP (K:PySem.W.Frag) (cl:Str→Addr) (E:XK) (R:Ph→Hp→α→β→Prop) (m:Rho→Sto→Res α) (σ:St) (H:Hp) (Q:β→Hp→Prop):Prop :=
 ∃ p S ρ,Sim K p S H∧RepE K p H ρ σ∧aaV K cl R p H (m ρ S) Q E
def tS (K:PySem.W.Frag) (cl:Str→Addr) (E:XK) (m:Rho→Sto→SRes):TS:=fun D σ H =>
 ∃ p S ρ,Sim K p S H∧RepE K p H ρ σ∧abS K cl p H (m ρ S) D E
theorem aax {m:Rho→Sto→Res α} {k:α→Sto→Res γ} {ρ:Rho} {σ:St} {Q:δ→Hp→Prop} {T:β→Hp→Prop} (s:Sim K p S H) (e:RepE K p H ρ σ) (h:aaV K cl R' p H ((m ρ S).bind k) Q E)
  (g:∀ q H' a b S',Step p H q H'→Sim K q S' H'→RepE K q H' ρ σ→R q H' a b→aaV K cl R' q H' (k a S') Q E→T b H'):tP K cl E R m σ H T:=by
 refine ⟨p,S,ρ,s,e,?_⟩
 cases z:m ρ S with
 | ok a S1 =>
  rw [z] at h
  exact fun q H' b st sm r=>g q H' a b S1 st sm (st.repE e) r (aaV.mono (r:=k a S1) h st)
 | exc n S1 =>
  rw [z] at h
  exact h
 | fail =>
  rw [z] at h
  exact h
def SRes.of {α:Type} (r:Res α) (k:α→Sto→SRes):SRes:=match r with
 | .ok a S=>k a S
 | .exc n S=>.exc n S
 | .fail=>.fail
theorem acs {m:Rho→Sto→Res α} {k:α→Sto→SRes} {ρ:Rho} {σ:St} {D:Ends} {T:β→Hp→Prop} (s:Sim K p S H) (e:RepE K p H ρ σ) (h:abS K cl p H (SRes.of (m ρ S) k) D E)
  (g:∀ q H' a b S',Step p H q H'→Sim K q S' H'→RepE K q H' ρ σ→R q H' a b→abS K cl q H' (k a S') D E→T b H'):tP K cl E R m σ H T:=by
 refine ⟨p,S,ρ,s,e,?_⟩
 cases z:m ρ S with
 | ok a S1 =>
  rw [z] at h
  exact fun q H' b st sm r=>g q H' a b S1 st sm (st.repE e) r (abS.mono (r:=k a S1) h st)
 | exc n S1 =>
  rw [z] at h
  exact h
 | fail =>
  rw [z] at h
  exact h
end
end L2.Pp
namespace L2.Pp
open PySem PySem.Spec PyProof.Rows Bn
abbrev RB:Ph→Hp→Bool→Bool→Prop:=fun _ _ a b=>a=b
abbrev ME:=Rho→Sto→Res AV
abbrev MT:=Rho→Sto→Res Bool
abbrev MA:=Rho→Sto→Res (List AV)
abbrev MS:=Rho→Sto→SRes
section
variable (K:PySem.W.Frag) (cl:Str→Addr) (E:XK) (X:Cx)
def PEp (e:Expr) (m:ME):Prop:=X.K=K→PE X e (tP K cl E (RepA K) m)
def PTp (e:Expr) (m:MT):Prop:=X.K=K→PT X e (tP K cl E RB m)
def PWp (e:Expr) (m:MT):Prop:=X.K=K→PW X e (tP K cl E RB m)
def PAp (es:List Expr) (m:MA):Prop:=X.K=K→PA X es (tP K cl E (ac1 K) m)
def PSp (st:Stmt) (m:MS):Prop:=X.K=K→PS X st (tS K cl E m)
def PSsp (st:List Stmt) (m:MS):Prop:=X.K=K→PSs X st (tS K cl E m)
end
theorem PA.imp {X:Cx} {es:List Expr} {t t':TA} (h:PA X es t) (i:∀ σ H Q,t' σ H Q→t σ H Q):PA X es t':=fun pos pins s σ H Q I q=>h pos pins s σ H Q I (i σ H Q q)
theorem PW.imp {X:Cx} {e:Expr} {t t':TT} (h:PW X e t) (i:∀ σ H Q,t' σ H Q→t σ H Q):PW X e t':=fun wh pins s σ H Q I q=>h wh pins s σ H Q I (i σ H Q q)
def mVar (i:Nat):ME:=fun ρ S=>match ρ[i]? with
 | some (some v)=>.ok v S
 | _=>.fail
def mC (v:PV):ME:=fun _ S=>.ok (.pv v) S
def rd (S:Sto):AV→Option PV
 | .pv v=>some v
 | .ref k=>match S[k]? with
  | some (.lst xs)=>some (.lst xs)
  | _=>none
def aa5 (S:Sto):List AV→Option (List PV)
 | []=>some []
 | a :: r=>match rd S a with
  | some v=>match aa5 S r with
   | some vs=>some (v :: vs)
   | none=>none
  | none=>none
def okO (o:Option PV) (S:Sto):Res AV:=match o with
 | some r=>.ok (.pv r) S
 | none=>.fail
def abv (f:PV→Option PV) (a:AV) (S:Sto):Res AV:=okO ((rd S a).bind f) S
def abc (f:PV→PV→Option PV) (a b:AV) (S:Sto):Res AV:=okO ((rd S a).bind fun x=>(rd S b).bind fun y=>f x y) S
def mUn (f:PV→Option PV) (ma:ME):ME:=fun ρ S=>(ma ρ S).bind fun x S1=>abv f x S1
def mBin (f:PV→PV→Option PV) (ma mb:ME):ME:=fun ρ S=>(ma ρ S).bind fun x S1=>(mb ρ S1).bind fun y S2=>abc f x y S2
def mNil:MA:=fun _ S=>.ok [] S
def aac (ma:ME) (mr:MA):MA:=fun ρ S=>(ma ρ S).bind fun x S1=>(mr ρ S1).bind fun xs S2=>.ok (x :: xs) S2
def aa8:List AV→Option (List PV)
 | []=>some []
 | .pv v :: r=>match aa8 r with
  | some vs=>some (v :: vs)
  | none=>none
 | .ref _ :: _=>none
def aby (f:List PV→Option PV) (xs:List AV) (S:Sto):Res AV:=okO ((aa8 xs).bind f) S
def abo (f:List PV→Option PV) (xs:List AV) (S:Sto):Res AV:=okO ((aa5 S xs).bind f) S
def mR (f:List PV→Option PV) (ma:MA):ME:=fun ρ S=>(ma ρ S).bind fun xs S1=>abo f xs S1
def mN (f:List PV→Option PV) (ma:MA):ME:=fun ρ S=>(ma ρ S).bind fun xs S1=>aby f xs S1
def fTup (vs:List PV):Option PV:=if vs.length≤16777216 then some (.tup vs) else none
def fLst (vs:List PV):Option PV:=if vs.length≤16777216 then some (.lst vs) else none
def tst:AV→Sto→Res Bool
 | .pv (.bl b),S=>.ok b S
 | _,_=>.fail
def mTst (m:ME):MT:=fun ρ S=>(m ρ S).bind tst
def mNot (m:MT):MT:=fun ρ S=>(m ρ S).bind fun b S1=>.ok (!b) S1
def mAnd (m n:MT):MT:=fun ρ S=>(m ρ S).bind fun b S1=>if b=true then n ρ S1 else .ok false S1
def mOr (m n:MT):MT:=fun ρ S=>(m ρ S).bind fun b S1=>if b=true then .ok true S1 else n ρ S1
def abf (m n:ME):ME:=fun ρ S=>(m ρ S).bind fun x S1=>match x with
 | .pv (.bl true)=>n ρ S1
 | .pv (.bl false)=>.ok (.pv (.bl false)) S1
 | _=>.fail
def mOrV (m n:ME):ME:=fun ρ S=>(m ρ S).bind fun x S1=>match x with
 | .pv (.bl false)=>n ρ S1
 | .pv (.bl true)=>.ok (.pv (.bl true)) S1
 | _=>.fail
def fNot:PV→Option PV
 | .bl b=>some (.bl (!b))
 | _=>none
def mIf (c:MT) (a b:ME):ME:=fun ρ S=>(c ρ S).bind fun t S1=>if t=true then a ρ S1 else b ρ S1
section
variable {K:PySem.W.Frag} {cl:Str→Addr} {E:XK} {X:Cx} {a b c e:Expr} {es:List Expr} {ma mb mc m:ME} {mt nt:MT} {ms:MA} {pos:Pos}
theorem aab (i:Nat) {x:Str} (hN:X.N[i]?=some x:=by rfl) (hv:Vis X.env.scope x:=by first | exact Or.inl rfl | exact Or.inr (Or.inl rfl) | exact Or.inr (Or.inr rfl)) (hd:(x == ("__debug__":Str))=false:=by decide)
  (hcd:(x == ("__classdict__":Str))=false:=by decide):PEp K cl E X (.Name x pos) (mVar i):=fun _=>(akT hN hv hd hcd).imp fun σ H Q ⟨p,S,ρ,s,e,h⟩=>by
 unfold mVar at h
 cases z:ρ[i]? with
 | none=>rw [z] at h; exact h.elim
 | some o =>
  cases o with
  | none=>rw [z] at h; exact h.elim
  | some v =>
   rw [z] at h
   obtain ⟨x,e1,e2⟩:=e.at_ i v z
   exact ⟨x,e1,aaV.ret h s e2⟩
theorem aae {i:Int} {j}:PEp K cl E X (.Constant (.int i) j pos) (mC (.int i)):=fun _=>anS.imp fun σ H Q ⟨p,S,ρ,s,e,h⟩=>aaV.ret (R:=RepA K) (x:=.int i) h s (by show Rep K p.c H (.int i) (.int i); unfold Rep; rfl)
theorem ah5 {i:Bool} {j}:PEp K cl E X (.Constant (.bool i) j pos) (mC (.bl i)):=fun _=>aoB.imp fun σ H Q ⟨p,S,ρ,s,e,h⟩=>aaV.ret (R:=RepA K) (x:=.bl i) h s (by show Rep K p.c H (.bl i) (.bl i); unfold Rep; rfl)
theorem amE {j}:PEp K cl E X (.Constant .none j pos) (mC .non):=fun _=>amx.imp fun σ H Q ⟨p,S,ρ,s,e,h⟩=>aaV.ret (R:=RepA K) (x:=.non) h s (by show Rep K p.c H .non .non; unfold Rep; rfl)
def RepR (K:PySem.W.Frag) (p:Ph) (H:Hp) (v:PV) (x:V):Prop:=Rep K p.c H v x∨∃ xs a vs,v=.lst xs∧x=.ref a∧H a=some (.lst vs)∧vs.length≤sizeLine∧Reps K p.c H xs vs
theorem RepR.int {p:Ph} {H:Hp} {i:Int} {x:V} (h:RepR K p H (.int i) x):x=.int i:=by
 rcases h with h | ⟨_,_,_,e,_⟩
 ·unfold Rep at h; exact h
 ·cases e
theorem RepR.bl {p:Ph} {H:Hp} {i:Bool} {x:V} (h:RepR K p H (.bl i) x):x=.bl i:=by
 rcases h with h | ⟨_,_,_,e,_⟩
 ·unfold Rep at h; exact h
 ·cases e
theorem RepR.str {p:Ph} {H:Hp} {i:Str} {x:V} (h:RepR K p H (.str i) x):x=.str i:=by
 rcases h with h | ⟨_,_,_,e,_⟩
 ·unfold Rep at h; exact h
 ·cases e
theorem RepR.non {p:Ph} {H:Hp} {x:V} (h:RepR K p H .non x):x=.non:=by
 rcases h with h | ⟨_,_,_,e,_⟩
 ·unfold Rep at h; exact h
 ·cases e
theorem RepR.tup {p:Ph} {H:Hp} {xs:List PV} {x:V} (h:RepR K p H (.tup xs) x):∃ a vs,x=.ref a∧SqT K H a vs∧vs.length≤sizeLine∧Reps K p.c H xs vs:=by
 rcases h with h | ⟨_,_,_,e,_⟩
 ·unfold Rep at h; exact h
 ·cases e
theorem RepR.lst {p:Ph} {H:Hp} {xs:List PV} {x:V} (h:RepR K p H (.lst xs) x):∃ a vs,x=.ref a∧SqL K H a vs∧vs.length≤sizeLine∧Reps K p.c H xs vs:=by
 rcases h with h | ⟨ys,a,vs,e,e2,h,z,r⟩
 ·unfold Rep at h
  obtain ⟨a,vs,e,l,z,r⟩:=h
  exact ⟨a,vs,e,l.sq,z,r⟩
 ·cases e
  exact ⟨a,vs,e2,SqL.of h,z,r⟩
theorem agj {p:Ph} {S:Sto} {H:Hp} {a:AV} {v:PV} {x:V} (s:Sim K p S H) (r:RepA K p H a x) (e:rd S a=some v):RepR K p H v x:=by
 cases a with
 | pv u=>cases e; exact .inl r
 | ref k =>
  obtain ⟨a,e1,rfl⟩:=r
  unfold rd at e
  cases z:S[k]? with
  | none=>simp only [z] at e; cases e
  | some o =>
   cases o with
   | lst xs =>
    simp only [z] at e
    cases e
    obtain ⟨vs,h,l,r⟩:=s.obj k a _ e1 z
    exact .inr ⟨xs,a,vs,rfl,rfl,h,l,r⟩
   | lol xss=>simp only [z] at e; cases e
abbrev amr (K:PySem.W.Frag) (p:Ph) (H:Hp):List PV→List V→Prop:=Paired (RepR K p H)
theorem afR {p:Ph} {S:Sto} {H:Hp} (s:Sim K p S H):∀ {as:List AV} {vs:List PV} {xs:List V},ac1 K p H as xs→aa5 S as=some vs→amr K p H vs xs
 | [],vs,_,.nil,e=>by
  cases e
  exact .nil
 | a :: r,vs,_,.cons h t,e=>by
  unfold aa5 at e
  cases z:rd S a with
  | none=>simp only [z] at e; cases e
  | some v =>
   simp only [z] at e
   cases y:aa5 S r with
   | none=>simp only [y] at e; cases e
   | some us =>
    simp only [y] at e
    cases e
    exact .cons (agj s h z) (afR s t y)
def OpS (K:PySem.W.Frag) (r:R2) (f:PV→PV→Option PV):Prop:=∀ {p:Ph} {S:Sto} {H:Hp} {a b c:PV} {x y:V} {Q:VK},Sim K p S H→RepR K p H a x→RepR K p H b y→f a b=some c →
 (∀ H' z,Same H H'→Rep K p.c H' c z→Q z H')→r x y H Q
def UnS (K:PySem.W.Frag) (r:V→Hp→VK→Prop) (f:PV→Option PV):Prop:=∀ {p:Ph} {S:Sto} {H:Hp} {a c:PV} {x:V} {Q:VK},Sim K p S H→RepR K p H a x→f a=some c →
 (∀ H' z,Same H H'→Rep K p.c H' c z→Q z H')→r x H Q
def CaS (K:PySem.W.Frag) (r:List V→Hp→VK→Prop) (f:List PV→Option PV):Prop:=∀ {p:Ph} {S:Sto} {H:Hp} {as:List PV} {c:PV} {xs:List V} {Q:VK},Sim K p S H→Reps K p.c H as xs→f as=some c →
 (∀ H' z,Same H H'→Rep K p.c H' c z→Q z H')→r xs H Q
def CaR (K:PySem.W.Frag) (r:List V→Hp→VK→Prop) (f:List PV→Option PV):Prop:=∀ {p:Ph} {S:Sto} {H:Hp} {as:List PV} {c:PV} {xs:List V} {Q:VK},Sim K p S H→amr K p H as xs→f as=some c →
 (∀ H' z,Same H H'→Rep K p.c H' c z→Q z H')→r xs H Q
theorem aeJ {p:Ph} {S:Sto} {H:Hp} {o:Option PV} {Q:VK} (s:Sim K p S H) (h:aaV K cl (RepA K) p H (okO o S) Q E):∃ c,o=some c∧∀ H' z,Same H H'→Rep K p.c H' c z→Q z H':=by
 cases o with
 | none=>exact h.elim
 | some c=>exact ⟨c,rfl,fun H' z sm rz=>aaV.same (R:=RepA K) h s sm rz⟩
theorem adg {r:R2} {f:PV→PV→Option PV} (hf:OpS K r f) {p:Ph} {S:Sto} {H:Hp} {a b:AV} {x y:V} {Q:VK} (s:Sim K p S H) (ra:RepA K p H a x) (rb:RepA K p H b y) (h:aaV K cl (RepA K) p H (abc f a b S) Q E):r x y H Q:=by
 obtain ⟨c,e,k⟩:=aeJ s h
 cases z:rd S a with
 | none=>rw [z] at e; cases e
 | some v =>
  cases y:rd S b with
  | none=>rw [z,y] at e; cases e
  | some w =>
   rw [z,y] at e
   exact hf s (agj s ra z) (agj s rb y) e k
theorem ads {r:V→Hp→VK→Prop} {f:PV→Option PV} (hf:UnS K r f) {p:Ph} {S:Sto} {H:Hp} {a:AV} {x:V} {Q:VK} (s:Sim K p S H) (ra:RepA K p H a x) (h:aaV K cl (RepA K) p H (abv f a S) Q E):r x H Q:=by
 obtain ⟨c,e,k⟩:=aeJ s h
 cases z:rd S a with
 | none=>rw [z] at e; cases e
 | some v =>
  rw [z] at e
  exact hf s (agj s ra z) e k
theorem af2 {r:List V→Hp→VK→Prop} {f:List PV→Option PV} (hf:CaR K r f) {p:Ph} {S:Sto} {H:Hp} {as:List AV} {xs:List V} {Q:VK} (s:Sim K p S H) (ra:ac1 K p H as xs) (h:aaV K cl (RepA K) p H (abo f as S) Q E):r xs H Q:=by
 obtain ⟨c,e,k⟩:=aeJ s h
 cases z:aa5 S as with
 | none=>rw [z] at e; cases e
 | some v =>
  rw [z] at e
  exact hf s (afR s ra z) e k
theorem adM {p:Ph} {H:Hp}:∀ {as:List AV} {vs:List PV} {xs:List V},aa8 as=some vs→ac1 K p H as xs→Reps K p.c H vs xs
 | [],vs,_,e,.nil=>by
  cases e
  exact .nil
 | .pv v :: r,vs,_,e,.cons h t=>by
  unfold aa8 at e
  cases z:aa8 r with
  | none=>simp only [z] at e; cases e
  | some us =>
   simp only [z] at e
   cases e
   exact .cons h (adM z t)
 | .ref k :: r,vs,_,e,.cons h t=>by
  cases e
theorem aiV {r:List V→Hp→VK→Prop} {f:List PV→Option PV} (hf:CaS K r f) {p:Ph} {S:Sto} {H:Hp} {as:List AV} {xs:List V} {Q:VK} (s:Sim K p S H) (ra:ac1 K p H as xs) (h:aaV K cl (RepA K) p H (aby f as S) Q E):r xs H Q:=by
 obtain ⟨c,e,k⟩:=aeJ s h
 cases z:aa8 as with
 | none=>rw [z] at e; cases e
 | some v =>
  rw [z] at e
  exact hf s (adM z ra) e k
theorem aar {op:Operator} {r:R2} {f:PV→PV→Option PV} (ho:OpR X (binaryOp op) r) (hf:OpS X.K r f) (ha:PEp K cl E X a ma) (hb:PEp K cl E X b mb):PEp K cl E X (.BinOp a op b pos) (mBin f ma mb):=by
 intro hK
 subst hK
 refine (aot ho (ha rfl) (hb rfl)).imp fun σ H Q ⟨p,S,ρ,s,e,h⟩=>?_
 exact aax s e h fun q H1 a x S1 st s1 e1 r1 h1=>aax s1 e1 h1 fun q2 H2 b y S2 st2 s2 e2 r2 h2=>adg hf s2 (st2.repA r1) r2 h2
theorem abF {op:UnaryOp} {r:V→Hp→VK→Prop} {f:PV→Option PV} (ho:UnR X (unaryOp op) r) (hf:UnS X.K r f) (ha:PEp K cl E X a ma):PEp K cl E X (.UnaryOp op a pos) (mUn f ma):=by
 intro hK
 subst hK
 refine (aoh ho (ha rfl)).imp fun σ H Q ⟨p,S,ρ,s,e,h⟩=>?_
 exact aax s e h fun q H1 a x S1 st s1 e1 r1 h1=>ads hf s1 r1 h1
theorem ahm {op:CmpOp} {r:R2} {f:PV→PV→Option PV} (ho:OpR X (compareOp op) r) (hf:OpS X.K r f) (ha:PEp K cl E X a ma) (hb:PEp K cl E X b mb) (hm:behindInMarks op b=false):PEp K cl E X (.Compare a [op] [b] pos) (mBin f ma mb):=by
 intro hK
 subst hK
 refine (alA ho (ha rfl) (hb rfl) hm).imp fun σ H Q ⟨p,S,ρ,s,e,h⟩=>?_
 exact aax s e h fun q H1 a x S1 st s1 e1 r1 h1=>aax s1 e1 h1 fun q2 H2 b y S2 st2 s2 e2 r2 h2=>adg hf s2 (st2.repA r1) r2 h2
theorem amG {p:Ph} {H:Hp} {v:AV} {x:V} (r:RepA K p H v x) {b:Bool} (e:v=.pv (.bl b)):x=.bl b:=by
 subst e
 unfold RepA Rep at r
 exact r
theorem ahz {p:Ph} {S:Sto} {H:Hp} {v:AV} {x:V} {Q:Bool→Hp→Prop} (s:Sim K p S H) (r:RepA K p H v x)
  (h:aaV K cl RB p H (tst v S) Q E):∃ k,x=.bl k∧Q k H:=by
 cases v with
 | ref k=>exact h.elim
 | pv v =>
  cases v with
  | bl b=>exact ⟨b,amG r rfl,aaV.ret (R:=RB) h s rfl⟩
  | _=>exact h.elim
theorem aaW {op:CmpOp} {r:R2} {f:PV→PV→Option PV} (ho:OpR X (compareOp op) r) (hf:OpS X.K r f) (ha:PEp K cl E X a ma) (hb:PEp K cl E X b mb) (hm:behindInMarks op b=false):PTp K cl E X (.Compare a [op] [b] pos) (mTst (mBin f ma mb)):=by
 intro hK
 subst hK
 refine (al6 ho (ha rfl) (hb rfl) hm).imp fun σ H Q ⟨p,S,ρ,s,e,h⟩=>?_
 have z:tP X.K cl E (RepA X.K) (mBin f ma mb) σ H fun x H'=>∃ k,x=.bl k∧Q k H':=aax s e h fun q H1 a x S1 st s1 e1 r1 h1=>ahz s1 r1 h1
 obtain ⟨p',S',ρ',s',e',h'⟩:=z
 exact aax s' e' h' fun q H1 a x S1 st s1 e1 r1 h1=>aax s1 e1 h1 fun q2 H2 b y S2 st2 s2 e2 r2 h2=>adg hf s2 (st2.repA r1) r2 h2
theorem aec (ha:PEp K cl E X a ma) (he:∀ whole,isTrue a X.env whole=(do let v ← whole; standAt a.pos; holding [v] (truthy v)):=by intro _; rfl):PTp K cl E X a (mTst ma):=by
 intro hK
 subst hK
 refine (ang (ha rfl) he).imp fun σ H Q ⟨p,S,ρ,s,e,h⟩=>?_
 exact aax s e h fun q H1 a x S1 st s1 e1 r1 h1=>ahz s1 r1 h1
theorem aeb (ha:PTp K cl E X a mt):PTp K cl E X (.UnaryOp .Not a pos) (mNot mt):=by
 intro hK
 subst hK
 refine (anX (ha rfl)).imp fun σ H Q ⟨p,S,ρ,s,e,h⟩=>?_
 exact aax s e h fun q H1 a x S1 st s1 e1 r1 h1=>by
  cases r1
  exact aaV.ret (R:=RB) h1 s1 rfl
theorem ajV (ha:PTp K cl E X a mt):PWp K cl E X (.BoolOp .And [a] pos) mt:=fun hK=>al5 (ha hK)
theorem agP (ha:PTp K cl E X a mt):PWp K cl E X (.BoolOp .Or [a] pos) mt:=fun hK=>anI (ha hK)
theorem PWp.pt (h:PWp K cl E X a mt):PTp K cl E X a mt:=fun hK=>PW.pt (h hK)
theorem alZ {rest:List Expr} (ha:PTp K cl E X a mt) (hb:PWp K cl E X (.BoolOp .And (b :: rest) pos) nt):PWp K cl E X (.BoolOp .And (a :: b :: rest) pos) (mAnd mt nt):=by
 intro hK
 subst hK
 refine PW.imp (anx (ha rfl) (hb rfl)) fun σ H Q ⟨p,S,ρ,s,e,h⟩=>?_
 refine aax s e h fun q H1 a x S1 st s1 e1 r1 h1=>?_
 cases r1
 cases a with
 | true=>exact ⟨q,S1,ρ,s1,e1,h1⟩
 | false=>exact aaV.ret (R:=RB) h1 s1 rfl
theorem aig {rest:List Expr} (ha:PTp K cl E X a mt) (hb:PWp K cl E X (.BoolOp .Or (b :: rest) pos) nt):PWp K cl E X (.BoolOp .Or (a :: b :: rest) pos) (mOr mt nt):=by
 intro hK
 subst hK
 refine PW.imp (an1 (ha rfl) (hb rfl)) fun σ H Q ⟨p,S,ρ,s,e,h⟩=>?_
 refine aax s e h fun q H1 a x S1 st s1 e1 r1 h1=>?_
 cases r1
 cases a with
 | true=>exact aaV.ret (R:=RB) h1 s1 rfl
 | false=>exact ⟨q,S1,ρ,s1,e1,h1⟩
theorem ag4 {op} (h:PEp K cl E X a ma):PEp K cl E X (.BoolOp op [a] pos) ma:=fun hK=>anR (h hK)
theorem ahE {rest:List Expr} (ha:PEp K cl E X a ma) (hb:PEp K cl E X (.BoolOp .And (b :: rest) pos) mb):PEp K cl E X (.BoolOp .And (a :: b :: rest) pos) (abf ma mb):=by
 intro hK
 subst hK
 refine (anp (ha rfl) (hb rfl)).imp fun σ H Q ⟨p,S,ρ,s,e,h⟩=>?_
 refine aax s e h fun q H1 a x S1 st s1 e1 r1 h1=>?_
 cases a with
 | ref k=>exact h1.elim
 | pv v =>
  cases v with
  | bl b =>
   refine ⟨b,amG r1 rfl,?_⟩
   cases b with
   | true=>exact ⟨q,S1,ρ,s1,e1,h1⟩
   | false=>exact aaV.ret (R:=RepA X.K) h1 s1 (by show Rep X.K q.c H1 _ _; unfold Rep; rfl)
  | _=>exact h1.elim
theorem amW (ha:PEp K cl E X a ma):PEp K cl E X (.UnaryOp .Not a pos) (mUn fNot ma):=by
 intro hK
 subst hK
 refine (amP (ha rfl)).imp fun σ H Q ⟨p,S,ρ,s,e,h⟩=>?_
 refine aax s e h fun q H1 a x S1 st s1 e1 r1 h1=>?_
 refine ads (r:=fun x H Q=>∃ c,x=.bl c∧Q (.bl (!c)) H) (f:=fNot) (fun {p S H a c x Q} s r e k=>?_) s1 r1 h1
 cases a with
 | bl b =>
  cases e
  exact ⟨b,r.bl,k H _ (Same.refl H) (by unfold Rep; rfl)⟩
 | _=>cases e
theorem an0 (hc:PTp K cl E X c mt) (ha:PEp K cl E X a ma) (hb:PEp K cl E X b mb):PEp K cl E X (.IfExp c a b pos) (mIf mt ma mb):=by
 intro hK
 subst hK
 refine (akB (hc rfl) (ha rfl) (hb rfl)).imp fun σ H Q ⟨p,S,ρ,s,e,h⟩=>?_
 refine aax s e h fun q H1 a x S1 st s1 e1 r1 h1=>?_
 cases r1
 cases a with
 | true=>exact ⟨q,S1,ρ,s1,e1,h1⟩
 | false=>exact ⟨q,S1,ρ,s1,e1,h1⟩
theorem aaf:PAp K cl E X [] mNil:=fun _=>(PA.imp ahx fun σ H Q ⟨p,S,ρ,s,e,h⟩=>aaV.ret (R:=ac1 K) h s .nil)
theorem aaa (ha:PEp K cl E X e m) (hr:PAp K cl E X es ms) (hs:starEach (e :: es) X.env=(false,eval e X.env) :: starEach es X.env:=by rfl):PAp K cl E X (e :: es) (aac m ms):=by
 intro hK
 subst hK
 refine PA.imp (adN (ha rfl) (hr rfl) hs) fun σ H Q ⟨p,S,ρ,s,e,h⟩=>?_
 exact aax s e h fun q H1 a x S1 st s1 e1 r1 h1=>aax s1 e1 h1 fun q2 H2 b y S2 st2 s2 e2 r2 h2=>aaV.ret (R:=ac1 X.K) h2 s2 (.cons (st2.repA r1) r2)
theorem aeM {p:Ph} {S:Sto} {H:Hp} {vs:List PV} {xs:List V} {t:Addr} (s:Sim K p S H) (r:Reps K p.c H vs xs) (z:xs.length≤sizeLine) (ht:H t=none):Rep K p.c (upd H t (.tup xs)) (.tup vs) (.ref t):=by
 unfold Rep
 exact ⟨t,xs,rfl,SqT.of abl,z,(s.same (abE ht)).reps r⟩
theorem adD {p:Ph} {S:Sto} {H:Hp} {vs:List PV} {xs:List V} {t:Addr} (s:Sim K p S H) (r:Reps K p.c H vs xs) (z:xs.length≤sizeLine) (ht:H t=none):Rep K p.c (upd H t (.lst xs)) (.lst vs) (.ref t):=by
 unfold Rep
 refine ⟨t,xs,rfl,.inl ⟨abl,fun c=>?_⟩,z,(s.same (abE ht)).reps r⟩
 obtain ⟨o,e,_⟩:=s.mu t c
 rw [ht] at e
 cases e
theorem abz:sizeLine=16777216:=sizeLine_eq
theorem acn (h:PAp K cl E X es ms):PEp K cl E X (.List es pos) (mN fLst ms):=by
 intro hK
 subst hK
 refine (ak9 (h rfl)).imp fun σ H Q ⟨p,S,ρ,s,e,h⟩=>?_
 refine aax s e h fun q H1 as xs S1 st s1 e1 r1 h1=>?_
 refine aiV (r:=fun xs H Q=>xs.length≤sizeLine∧∀ t,H t=none→Q (.ref t) (upd H t (.lst xs))) (f:=fLst) (fun {p S H as c xs Q} s r e k=>?_) s1 r1 h1
 unfold fLst at e
 split at e
 ·rename_i hl
  cases e
  rw [r.length,← abz] at hl
  exact ⟨hl,fun t ht=>k _ _ (abE ht) (adD s r hl ht)⟩
 ·cases e
end
end L2.Pp
namespace L2.Pp
open PySem PySem.Spec PyProof.Rows Bn
def sNil:MS:=fun ρ S=>.nx ρ S
def sSeq (a b:MS):MS:=fun ρ S=>match a ρ S with
 | .nx ρ1 S1=>b ρ1 S1
 | r=>r
def aaQ (m:ME):MS:=fun ρ S=>SRes.of (m ρ S) fun _ S1=>.nx ρ S1
def sRet (m:ME):MS:=fun ρ S=>SRes.of (m ρ S) fun v S1=>.rt v S1
def abJ:MS:=fun _ S=>.rt (.pv .non) S
def sIf (c:MT) (a b:MS):MS:=fun ρ S=>SRes.of (c ρ S) fun t S1=>if t=true then a ρ S1 else b ρ S1
def sSet (i:Nat) (m:ME):MS:=fun ρ S=>SRes.of (m ρ S) fun v S1=>.nx (ρ.set i (some v)) S1
def sPar (i j:Nat) (m:MA):MS:=fun ρ S=>SRes.of (m ρ S) fun vs S1=>match vs with
 | [v,w]=>.nx ((ρ.set i (some v)).set j (some w)) S1
 | _=>.fail
abbrev GM:=PV→Rho→Option Rho
abbrev GMs:=List PV→Rho→Option Rho
def gN (i:Nat):GM:=fun v ρ=>some (ρ.set i (some (.pv v)))
def ac9:GMs:=fun vs ρ=>match vs with
 | []=>some ρ
 | _=>none
def abr (g:GM) (gs:GMs):GMs:=fun vs ρ=>match vs with
 | []=>none
 | v :: r=>match g v ρ with
  | some ρ1=>gs r ρ1
  | none=>none
def gT (n:Nat) (gs:GMs):GM:=fun v ρ=>match v with
 | .tup vs=>if vs.length=n then gs vs ρ else none
 | _=>none
abbrev Gd:=List (Nat × List PV)
def gOk (G:Gd) (S:Sto):Prop:=∀ g∈G,S[g.1]?=some (.lst g.2)
theorem ade (S:Sto):gOk [] S:=fun _ h=>nomatch h
abbrev MI:=Rho→Sto→Res (List PV × Gd)
open Classical in
noncomputable def abN (G:Gd) (g:GM) (mb:MS):List PV→Rho→Sto→SRes
 | [],ρ,S=>if gOk G S then .nx ρ S else .fail
 | x :: r,ρ,S=>if gOk G S then (match g x ρ with
  | none=>.fail
  | some ρ1=>match mb ρ1 S with
   | .nx ρ2 S2=>abN G g mb r ρ2 S2
   | .ct ρ2 S2=>abN G g mb r ρ2 S2
   | .bk ρ2 S2=>.nx ρ2 S2
   | .rt v S2=>.rt v S2
   | .exc n S2=>.exc n S2
   | .fail=>.fail) else .fail
noncomputable def sFor (mi:MI) (g:GM) (mb:MS):MS:=fun ρ S=>SRes.of (mi ρ S) fun xs S1=>abN xs.2 g mb xs.1 ρ S1
theorem acm {g:GM} {mb:MS} {ρ:Rho} {S:Sto}:abN [] g mb [] ρ S=.nx ρ S:=by
 unfold abN
 rw [if_pos (ade S)]
theorem abt {g:GM} {mb:MS} {x:PV} {r:List PV} {ρ:Rho} {S:Sto}:abN [] g mb (x :: r) ρ S=(match g x ρ with
  | none=>.fail
  | some ρ1=>match mb ρ1 S with
   | .nx ρ2 S2=>abN [] g mb r ρ2 S2
   | .ct ρ2 S2=>abN [] g mb r ρ2 S2
   | .bk ρ2 S2=>.nx ρ2 S2
   | .rt v S2=>.rt v S2
   | .exc n S2=>.exc n S2
   | .fail=>.fail):=by
 rw [abN,if_pos (ade S)]
def aaZ (c:MT) (mb:MS):Nat→Rho→Sto→SRes
 | 0,_,_=>.fail
 | n+1,ρ,S=>SRes.of (c ρ S) fun t S1=>if t=true then (match mb ρ S1 with
   | .nx ρ2 S2=>aaZ c mb n ρ2 S2
   | .ct ρ2 S2=>aaZ c mb n ρ2 S2
   | .bk ρ2 S2=>.nx ρ2 S2
   | .rt v S2=>.rt v S2
   | .exc n S2=>.exc n S2
   | .fail=>.fail) else .nx ρ S1
open Classical in
noncomputable def aeF (c:MT) (mb:MS):MS:=fun ρ S=>if h:∃ n,aaZ c mb n ρ S≠.fail then aaZ c mb h.choose ρ S else .fail
theorem SRes.of_ok {α:Type} {r:Res α} {k k':α→Sto→SRes} (h:∀ a S,k a S≠.fail→k' a S=k a S) (n:SRes.of r k≠.fail):SRes.of r k'=SRes.of r k:=by
 cases r with
 | ok a S=>exact h a S n
 | exc=>rfl
 | fail=>rfl
theorem adc {c:MT} {mb:MS}:∀ {n:Nat} {ρ:Rho} {S:Sto},aaZ c mb n ρ S≠.fail→aaZ c mb (n+1) ρ S=aaZ c mb n ρ S
 | 0,_,_,h=>absurd rfl h
 | n+1,ρ,S,h=>by
  unfold aaZ at h
  rw [aaZ]
  conv=>rhs; rw [aaZ]
  refine SRes.of_ok (fun t S1 h1=>?_) h
  by_cases ht:t=true
  ·simp only [if_pos ht] at h1 ⊢
   cases z:mb ρ S1 with
   | nx ρ2 S2=>rw [z] at h1; exact adc h1
   | ct ρ2 S2=>rw [z] at h1; exact adc h1
   | _=>rfl
  ·simp only [if_neg ht] at h1 ⊢
theorem adC {c:MT} {mb:MS} {n:Nat} {ρ:Rho} {S:Sto} (h:aaZ c mb n ρ S≠.fail):∀ k,aaZ c mb (n+k) ρ S=aaZ c mb n ρ S
 | 0=>rfl
 | k+1=>by
  have ih:=adC h k
  rw [← Nat.add_assoc,adc (by rw [ih]; exact h),ih]
theorem aeB {c:MT} {mb:MS} {n:Nat} {ρ:Rho} {S:Sto} {r:SRes} (e:aaZ c mb n ρ S=r) (h:r≠.fail):aeF c mb ρ S=r:=by
 have h':∃ n,aaZ c mb n ρ S≠.fail:=⟨n,by rw [e]; exact h⟩
 unfold aeF
 rw [dif_pos h']
 have e2:=h'.choose_spec
 rcases Nat.le_total n h'.choose with l | l
 ·obtain ⟨k,q⟩:=Nat.exists_eq_add_of_le l
  rw [q,adC (by rw [e]; exact h),e]
 ·obtain ⟨k,q⟩:=Nat.exists_eq_add_of_le l
  have z:=adC e2 k
  rw [← q,e] at z
  exact z.symm
section
variable {K:PySem.W.Frag} {cl:Str→Addr} {E:XK} {X:Cx} {a b c e tg:Expr} {es:List Expr} {m:ME} {mt:MT} {ms:MA} {b1 b2:MS} {st:Stmt} {sts sts':List Stmt} {pos:Pos}
theorem RepE.set {p:Ph} {H:Hp} {ρ:Rho} {σ:St} {v:AV} {x:V} (h:RepE K p H ρ σ) (r:RepA K p H v x) (i:Nat):RepE K p H (ρ.set i (some v)) (σ.set i (some x)):=by
 refine ⟨by rw [List.length_set,List.length_set,h.len],fun j u e=>?_⟩
 by_cases q:i=j
 ·subst q
  by_cases l:i < ρ.length
  ·rw [List.getElem?_set_self l] at e
   cases e
   exact ⟨x,List.getElem?_set_self (by rw [← h.len]; exact l),r⟩
  ·rw [List.getElem?_eq_none (by rw [List.length_set]; omega)] at e
   cases e
 ·rw [List.getElem?_set_ne q] at e ⊢
  exact h.at_ j u e
theorem aaP:PSsp K cl E X [] sNil:=fun _=>PSs.imp alu fun D σ H ⟨p,S,ρ,s,e,h⟩=>h p H σ s.step s e
theorem abS.nxD {p:Ph} {H:Hp} {ρ:Rho} {S:Sto} {D:Ends} (h:abS K cl p H (.nx ρ S) D E) {σ:St} (s:Sim K p S H) (e:RepE K p H ρ σ):D.nx σ H:=h p H σ s.step s e
theorem aag (h1:PSp K cl E X st b1) (h2:PSsp K cl E X sts b2):PSsp K cl E X (st :: sts) (sSeq b1 b2):=by
 intro hK
 subst hK
 refine PSs.imp (ajO (h1 rfl) (h2 rfl)) fun D σ H ⟨p,S,ρ,s,e,h⟩=>⟨p,S,ρ,s,e,?_⟩
 unfold sSeq at h
 cases z:b1 ρ S with
 | nx ρ1 S1 =>
  rw [z] at h
  exact fun q H' σ' stp sm ev=>⟨q,S1,ρ1,sm,ev,abS.mono (r:=b2 ρ1 S1) h stp⟩
 | bk ρ1 S1=>rw [z] at h; exact h
 | ct ρ1 S1=>rw [z] at h; exact h
 | rt v S1=>rw [z] at h; exact h
 | exc n S1=>rw [z] at h; exact h
 | fail=>rw [z] at h; exact h
theorem aaj (h1:PSp K cl E X st b1):PSsp K cl E X [st] b1:=fun hK=>aif (h1 hK)
theorem acW (he:PEp K cl E X e m) (hs:swapsWith e none pos.line X.env=pure false:=by rfl):PSp K cl E X (.Expr e pos) (aaQ m):=by
 intro hK
 subst hK
 refine PS.imp (alI (he rfl) hs) fun D σ H ⟨p,S,ρ,s,e,h⟩=>?_
 exact acs s e h fun q H' a b S' stp sm ev r k=>abS.nxD k sm ev
theorem aay (he:PEp K cl E X e m):PSp K cl E X (.Return (some e) pos) (sRet m):=by
 intro hK
 subst hK
 refine PS.imp (anB (he rfl)) fun D σ H ⟨p,S,ρ,s,e,h⟩=>?_
 exact acs s e h fun q H' a b S' stp sm ev r k=>k q H' b sm.step sm r
theorem abL (hc:PTp K cl E X c mt) (ha:PSsp K cl E X sts b1) (hb:PSsp K cl E X sts' b2):PSp K cl E X (.If c sts sts' pos) (sIf mt b1 b2):=by
 intro hK
 subst hK
 refine PS.imp (aof (hc rfl) (ha rfl) (hb rfl)) fun D σ H ⟨p,S,ρ,s,e,h⟩=>?_
 refine acs s e h fun q H' a b S' stp sm ev r k=>?_
 cases r
 cases a with
 | true=>exact ⟨q,S',ρ,sm,ev,k⟩
 | false=>exact ⟨q,S',ρ,sm,ev,k⟩
theorem aav {i:Nat} {x:Str} {pos':Pos} (hN:X.N.Nodup) (hi:X.N[i]?=some x) (hx:Loc X.env.scope x) (he:PEp K cl E X e m) (hs:swapsWith e (some (.Name x pos')) pos.line X.env=pure false:=by rfl)
  (hf:X.fn x=true∨X.env.scope.names.lookup x=some .local:=by first | exact .inl rfl | exact .inr rfl | assumption):PSp K cl E X (.Assign [.Name x pos'] e pos) (sSet i m):=by
 intro hK
 subst hK
 refine PS.imp (alc hN hi hx (he rfl) hs hf) fun D σ H ⟨p,S,ρ,s,e,h⟩=>?_
 exact acs s e h fun q H' a b S' stp sm ev r k=>abS.nxD k sm (ev.set r i)
theorem al2 {i j:Nat} {x y:Str} {px py pt:Pos} {kt k2 pt2} (hc:X.calm=true) (hN:X.N.Nodup) (hi:X.N[i]?=some x) (hj:X.N[j]?=some y) (hij:i≠j)
  (hx:X.env.scope.names.lookup x=some .local) (hy:X.env.scope.names.lookup y=some .local) (ha:PAp K cl E X [a,b] ms)
  (hw:swappedStores [.Tuple [.Name x px,.Name y py] kt pt] (.Tuple [a,b] k2 pt2) X.env=pure (some [x,y]))
  (hs:swapsWithSole [.Tuple [.Name x px,.Name y py] kt pt] (.Tuple [a,b] k2 pt2) pos.line X.env=pure false:=by rfl) :
  PSp K cl E X (.Assign [.Tuple [.Name x px,.Name y py] kt pt] (.Tuple [a,b] k2 pt2) pos) (sPar i j ms):=by
 intro hK
 subst hK
 refine PS.imp (anQ hc hN hi hj hij hx hy (ha rfl) hw hs) fun D σ H ⟨p,S,ρ,s,e,h⟩=>?_
 refine acs s e h fun q H' vs xs S' stp sm ev r k=>?_
 match vs,xs,r with
 | [],_,.nil=>exact k.elim
 | [v],_,.cons _ .nil=>exact k.elim
 | [v,w],_,.cons (b:=x1) r1 (.cons (b:=x2) r2 .nil)=>exact ⟨x1,x2,rfl,abS.nxD k sm ((ev.set r1 i).set r2 j)⟩
 | _ :: _ :: _ :: _,_,.cons _ (.cons _ (.cons _ _))=>exact k.elim
def gP (K:PySem.W.Frag) (g:GM):TG:=fun x σ H Q=>∃ p S ρ v ρ',Sim K p S H∧RepE K p H ρ σ∧Rep K p.c H v x∧g v ρ=some ρ'∧∀ σ',RepE K p H ρ' σ'→Q σ' H
def gPs (K:PySem.W.Frag) (g:GMs):TGs:=fun xs σ H Q=>∃ p S ρ vs ρ',Sim K p S H∧RepE K p H ρ σ∧Reps K p.c H vs xs∧g vs ρ=some ρ'∧∀ σ',RepE K p H ρ' σ'→Q σ' H
variable (K X)
def PGp (tg:Expr) (g:GM):Prop:=X.K=K→PG X tg (gP K g)
def PGsp (ts:List Expr) (g:GMs):Prop:=X.K=K→PGs X ts (gPs K g)
variable {K X}
theorem PG.imp {tg:Expr} {t t':TG} (h:PG X tg t) (i:∀ x σ H Q,t' x σ H Q→t x σ H Q):PG X tg t':=fun pins s σ H v u Q I r q=>h pins s σ H v u Q I r (i v σ H Q q)
theorem PGs.imp {ts:List Expr} {t t':TGs} (h:PGs X ts t) (i:∀ x σ H Q,t' x σ H Q→t x σ H Q):PGs X ts t':=fun pins s σ H v u Q I r q=>h pins s σ H v u Q I r (i v σ H Q q)
theorem aaC {i:Nat} {x:Str} (hN:X.N.Nodup) (hi:X.N[i]?=some x) (hx:Loc X.env.scope x) (hf:X.fn x=true∨X.env.scope.names.lookup x=some .local:=by first | exact .inl rfl | exact .inr rfl | assumption):PGp K X (.Name x pos) (gN i) :=
 fun _=>PG.imp (alE hN hi hx hf) fun x σ H Q ⟨p,S,ρ,v,ρ',s,ev,r,g,k⟩=>by
  cases g
  exact k _ (ev.set (v:=.pv v) r i)
theorem ado:PGsp K X [] ac9:=fun _=>PGs.imp al8 fun xs σ H Q ⟨p,S,ρ,vs,ρ',s,ev,r,g,k⟩=>by
 cases vs with
 | nil =>
  cases g
  unfold Reps at r
  exact ⟨r,k _ ev⟩
 | cons _ _=>cases g
theorem abH {g:GM} {gs:GMs} (h1:PGp K X e g) (h2:PGsp K X es gs) (hs:(assignEach (e :: es) X.env).map (·.2)=assign e X.env :: (assignEach es X.env).map (·.2):=by rfl):PGsp K X (e :: es) (abr g gs):=by
 intro hK
 subst hK
 refine PGs.imp (akg (h1 rfl) (h2 rfl) hs) fun xs σ H Q ⟨p,S,ρ,vs,ρ',s,ev,r,g1,k⟩=>?_
 cases vs with
 | nil=>cases g1
 | cons v vr =>
  unfold Reps at r
  obtain ⟨x,xr,rfl,r1,r2⟩:=r
  unfold abr at g1
  cases z:g v ρ with
  | none=>simp only [z] at g1; cases g1
  | some ρ1 =>
   simp only [z] at g1
   exact ⟨x,xr,rfl,p,S,ρ,v,ρ1,s,ev,r1,z,fun σ' ev'=>⟨p,S,ρ1,vr,ρ',s,ev',r2,g1,k⟩⟩
theorem aen {k:Nat} {gs:GMs} {n:Nat} (hc:X.calm=true) (h:PGsp K X es gs) (hn:(assignEach es X.env).length=n:=by rfl) (hst:(assignEach es X.env).findIdx? (·.1)=none:=by rfl):PGp K X (.Tuple es k pos) (gT n gs):=by
 intro hK
 subst hK
 refine PG.imp (amM hc (h rfl) hn hst) fun x σ H Q ⟨p,S,ρ,v,ρ',s,ev,r,g1,k⟩=>?_
 cases v with
 | tup vs =>
  unfold Rep at r
  obtain ⟨a,xs,rfl,t,z,r⟩:=r
  unfold gT at g1
  dsimp only at g1
  split at g1
  ·rename_i hl
   exact ⟨a,xs,rfl,t,r.length.symm.trans hl,p,S,ρ,vs,ρ',s,ev,r,g1,k⟩
  ·cases g1
 | _=>cases g1
def ItOk (K:PySem.W.Frag) (p:Ph) (H:Hp) (xs:List PV × Gd) (J:It):Prop:=xs.1.length≤sizeLine∧∀ q H1 S1,Step p H q H1→Sim K q S1 H1→gOk xs.2 S1 →
 (∀ (i:Nat) (v:PV),xs.1[i]?=some v→J.go i H1∧∀ x H2,J.yld i H1 x H2→Same H1 H2∧Rep K q.c H2 v x)∧J.stop xs.1.length H1
theorem ItOk.step {p q:Ph} {H H':Hp} {xs:List PV × Gd} {J:It} (h:ItOk K p H xs J) (s:Step p H q H'):ItOk K q H' xs J:=⟨h.1,fun r H1 S1 t=>h.2 r H1 S1 (s.trans t)⟩
variable (K cl E X)
def PIp (tg iter:Expr) (m:MI):Prop:=X.K=K→PI X tg iter (tP K cl E (ItOk K) m)
variable {K cl E X}
theorem PI.imp {tg iter:Expr} {t t':TI} (h:PI X tg iter t) (i:∀ σ H Q,t' σ H Q→t σ H Q):PI X tg iter t':=fun pins s σ H R I q=>h pins s σ H R I (i σ H R q)
def iAny (K:PySem.W.Frag) (tl:TE):TI:=fun σ H R=>tl σ H fun x H1=>∃ a,x=.ref a∧(((∃ xs,SqL K H1 a xs)∧R (Itl K a) H1)∨((∃ xs,SqT K H1 a xs)∧R (Itt K a) H1))
theorem anH {l:Expr} {tl:TE} (hl:PE X l tl):PI X tg l (iAny X.K tl):=by
 intro pins s σ H R I h
 refine thn (hl pins s σ H _ I h) fun v s1 ⟨x,H1,I1,r1,q1⟩=>?_
 obtain ⟨a,e,q⟩:=q1
 subst e
 cases r1
 rcases q with ⟨⟨xs,hq⟩,q⟩ | ⟨⟨xs,hq⟩,q⟩
 ·obtain ⟨its,rv,p,hz⟩:=I1.list hq
  refine wpAny_pyIter_list p.isList ?_
  refine ⟨s1.heap.objs.size,[s1.heap.objs.size],_,_,H1,rfl,I1.kept (t':=s1.toks) fun b o e=>Heap.get?_push_of_some _ e,aiM a _,⟨_,Heap.get?_push_size _ rfl,rfl,rfl⟩,fun b hb=>?_,q⟩
  have e:b=s1.heap.objs.size:=by simpa using hb
  subst e
  exact I1.fpOk (Nat.le_refl _) (I1.hok.fresh (Nat.le_refl _))
 ·obtain ⟨its,rv,p,hz⟩:=I1.tuple hq
  refine wpAny_pyIter_tuple (show s1.heap.IsTuple a its.toArray from p) ?_
  refine ⟨s1.heap.objs.size,[s1.heap.objs.size],_,_,H1,rfl,I1.kept (t':=s1.toks) fun b o e=>Heap.get?_push_of_some _ e,ahQ a _,⟨_,Heap.get?_push_size _ rfl,rfl,rfl⟩,fun b hb=>?_,q⟩
  have e:b=s1.heap.objs.size:=by simpa using hb
  subst e
  exact I1.fpOk (Nat.le_refl _) (I1.hok.fresh (Nat.le_refl _))
def abg:AV→Sto→Res (List PV × Gd)
 | .pv (.lst xs),S=>.ok (xs,[]) S
 | .pv (.tup xs),S=>.ok (xs,[]) S
 | .ref k,S=>match S[k]? with
  | some (.lst xs)=>.ok (xs,[(k,xs)]) S
  | _=>.fail
 | _,_=>.fail
def mIt (m:ME):MI:=fun ρ S=>(m ρ S).bind abg
theorem amH {p:Ph} {H:Hp} {xs:List PV} {a:Addr} {vs:List V} (l:LAt K p.c H a vs) (z:vs.length≤sizeLine) (r:Reps K p.c H xs vs):ItOk K p H (xs,[]) (Itl K a):=by
 refine ⟨by rw [r.length]; exact z,fun q H1 S1 st _ _=>⟨fun i v e=>?_,?_⟩⟩
 ·have l1:=(st.lat l).sq
  obtain ⟨x,e1,r1⟩:=(st.reps r).get e
  refine ⟨⟨vs,x,l1,e1⟩,fun y H2 hy=>?_⟩
  obtain ⟨rfl,hy⟩:=hy
  have:=(hy vs l1).symm.trans e1
  cases this
  exact ⟨Same.refl _,r1⟩
 ·exact ⟨vs,(st.lat l).sq,by rw [r.length]; exact Nat.le_refl _⟩
theorem amU {p:Ph} {H:Hp} {xs:List PV} {a:Addr} {vs:List V} (l:SqT K H a vs) (z:vs.length≤sizeLine) (r:Reps K p.c H xs vs):ItOk K p H (xs,[]) (Itt K a):=by
 refine ⟨by rw [r.length]; exact z,fun q H1 S1 st _ _=>⟨fun i v e=>?_,?_⟩⟩
 ·have l1:=st.tup l
  obtain ⟨x,e1,r1⟩:=(st.reps r).get e
  refine ⟨⟨vs,x,l1,e1⟩,fun y H2 hy=>?_⟩
  obtain ⟨rfl,hy⟩:=hy
  have:=(hy vs l1).symm.trans e1
  cases this
  exact ⟨Same.refl _,r1⟩
 ·exact ⟨vs,st.tup l,by rw [r.length]; exact Nat.le_refl _⟩
theorem amT {p:Ph} {H:Hp} {xs:List PV} {a:Addr} {k:Nat} {n:xs.length≤sizeLine} (hf:p.f[k]?=some a):ItOk K p H (xs,[(k,xs)]) (Itl K a):=by
 refine ⟨n,fun q H1 S1 st sm g=>?_⟩
 have e0:S1[k]?=some (.lst xs):=g (k,xs) List.mem_cons_self
 obtain ⟨vs,h1,l1,r1⟩:=sm.obj k a _ (st.at_ hf) e0
 refine ⟨fun i v e=>?_,?_⟩
 ·obtain ⟨x,e1,r2⟩:=r1.get e
  refine ⟨⟨vs,x,SqL.of h1,e1⟩,fun y H2 hy=>?_⟩
  obtain ⟨rfl,hy⟩:=hy
  have:=(hy vs (SqL.of h1)).symm.trans e1
  cases this
  exact ⟨Same.refl _,r2⟩
 ·exact ⟨vs,SqL.of h1,by rw [r1.length]; exact Nat.le_refl _⟩
theorem abM (h:PEp K cl E X e m):PIp K cl E X tg e (mIt m):=by
 intro hK
 subst hK
 refine PI.imp (anH (h rfl)) fun σ H R ⟨p,S,ρ,s,ev,h⟩=>?_
 refine aax s ev h fun q H' v x S' stp sm ev r k=>?_
 cases v with
 | ref j =>
  obtain ⟨a,e,rfl⟩:=r
  unfold abg at k
  dsimp only at k
  cases z:S'[j]? with
  | none=>rw [z] at k; exact k.elim
  | some o =>
   cases o with
   | lst xs =>
    rw [z] at k
    obtain ⟨vs,h1,l1,r1⟩:=sm.obj j a _ e z
    exact ⟨a,rfl,.inl ⟨⟨vs,SqL.of h1⟩,aaV.ret (R:=ItOk X.K) k sm (amT (n:=by rw [r1.length]; exact l1) e)⟩⟩
   | lol xss=>rw [z] at k; exact k.elim
 | pv v =>
  cases v with
  | lst xs =>
   have r:Rep X.K q.c H' (.lst xs) x:=r
   unfold Rep at r
   obtain ⟨a,vs,rfl,l,z,r⟩:=r
   exact ⟨a,rfl,.inl ⟨⟨vs,l.sq⟩,aaV.ret (R:=ItOk X.K) k sm (amH l z r)⟩⟩
  | tup xs =>
   have r:Rep X.K q.c H' (.tup xs) x:=r
   unfold Rep at r
   obtain ⟨a,vs,rfl,l,z,r⟩:=r
   exact ⟨a,rfl,.inr ⟨⟨vs,l⟩,aaV.ret (R:=ItOk X.K) k sm (amU l z r)⟩⟩
  | _=>exact k.elim
def ab0 (lo:Int) (n:Nat):List PV:=(List.range n).map fun i=>.int (lo+(i:Nat))
noncomputable def rng1:List AV→Sto→Res (List PV × Gd)
 | [.pv (.int j)],S1=>@ite _ (j≤16777216∧-16777216≤j) (Classical.propDecidable _) (.ok (ab0 0 j.toNat,[]) S1) .fail
 | _,_=>.fail
noncomputable def abe (ms:MA):MI:=fun ρ S=>(ms ρ S).bind rng1
theorem amX {p:Ph} {H:Hp} {lo:Int} {n:Nat} (h:n≤sizeLine):ItOk K p H (ab0 lo n,[]) (Itr lo n):=by
 have hl:(ab0 lo n).length=n:=by unfold ab0; rw [List.length_map,List.length_range]
 refine ⟨by show (ab0 lo n).length≤_; rw [hl]; exact h,fun q H1 S1 st _ _=>⟨fun i v e=>?_,?_⟩⟩
 ·have hi:i < n:=by
   have:=(List.getElem?_eq_some_iff.mp (show (ab0 lo n)[i]?=some v from e)).1
   omega
  refine ⟨hi,fun x H2 hy=>?_⟩
  obtain ⟨rfl,rfl⟩:=hy
  have e:(ab0 lo n)[i]?=some v:=e
  unfold ab0 at e
  rw [List.getElem?_map,List.getElem?_range hi] at e
  cases e
  refine ⟨Same.refl _,?_⟩
  unfold Rep
  rfl
 ·show n≤(ab0 lo n).length
  rw [hl]
  exact Nat.le_refl n
theorem acw {p:Pos} (hg:Gl X "range") (hm:X.mg "range"=none) (ha:PAp K cl E X [a] ms) (hs:starEach [a] X.env=[(false,eval a X.env)]:=by rfl):PIp K cl E X tg (.Call (.Name "range" p) [a] [] pos) (abe ms):=by
 intro hK
 subst hK
 refine PI.imp (ajJ hg hm (ha rfl) hs) fun σ H R ⟨p,S,ρ,s,ev,h⟩=>?_
 refine aax s ev h fun q H' vs xs S' stp sm ev r k=>?_
 unfold rng1 at k
 split at k
 ·rename_i j
  cases r with
  | cons r1 r2 =>
   cases r2
   rename_i x
   have e:x=.int j:=by
    have r1:Rep X.K q.c H' (.int j) x:=r1
    unfold Rep at r1
    exact r1
   subst e
   split at k
   ·rename_i hj
    have hz:=abz
    exact ⟨j,rfl,by omega,by omega,aaV.ret (R:=ItOk X.K) k sm (amX (by omega))⟩
   ·exact k.elim
 ·exact k.elim
theorem adK {mi:MI} {g:GM} (hp:PassesOwn (model X.prog X.w) X.A X.env X.xe) (hc:X.calm=true) (hi:PIp K cl E X tg e mi) (hg:PGp K X tg g) (hb:PSsp K cl E X sts b1)
  (hs:∀ x,foldedSetIterable e X.env x=pure x:=by intro _; rfl):PSp K cl E X (.For tg e sts [] pos) (sFor mi g b1):=by
 intro hK
 subst hK
 refine PS.imp (am7 hp hc (hi rfl) (hg rfl) (hb rfl) hs) fun D σ H ⟨p,S,ρ,s,ev,h⟩=>?_
 refine acs s ev h fun q H' xg J S' stp sm ev it k=>?_
 obtain ⟨xs,G⟩:=xg
 refine ⟨fun i n σ H=>n=xs.length - i∧i≤xs.length∧∃ p S ρ,Sim X.K p S H∧RepE X.K p H ρ σ∧ItOk X.K p H (xs,G) J∧abS X.K cl p H (abN G g b1 (xs.drop i) ρ S) D E,⟨xs.length,by simp,Nat.zero_le _,q,S',ρ,sm,ev,it,by simpa using k⟩,?_⟩
 rintro i n σ1 H1 ⟨rfl,hi,p1,S1,ρ1,sm1,ev1,it1,k1⟩
 by_cases hlt:i < xs.length
 ·have hx:xs[i]?=some xs[i]:=List.getElem?_eq_getElem hlt
  rw [List.drop_eq_getElem_cons hlt] at k1
  unfold abN at k1
  split at k1
  ·rename_i gk
   obtain ⟨g1,y1⟩:=(it1.2 p1 H1 S1 sm1.step sm1 gk).1 i _ hx
   cases z:g xs[i] ρ1 with
   | none=>simp only [z] at k1; exact k1.elim
   | some ρ2 =>
    simp only [z] at k1
    refine .inr ⟨g1,fun σ' H'=>i+1≤xs.length∧∃ p S ρ,Sim X.K p S H'∧RepE X.K p H' ρ σ'∧ItOk X.K p H' (xs,G) J∧abS X.K cl p H' (abN G g b1 (xs.drop (i+1)) ρ S) D E,fun σ' H' hN=>⟨xs.length - (i+1),by omega,rfl,hN⟩,fun x H2 hy=>?_⟩
    obtain ⟨same,rx⟩:=y1 x H2 hy
    have st2:=sm1.same same
    have sm2:=sm1.ofSame same
    refine ⟨p1,S1,ρ1,xs[i],ρ2,sm2,st2.repE ev1,rx,z,fun σ3 ev3=>⟨p1,S1,ρ2,sm2,ev3,?_⟩⟩
    have it2:=it1.step st2
    cases y:b1 ρ2 S1 with
    | nx ρ4 S4 =>
     rw [y] at k1
     exact fun q5 H5 σ5 st5 sm5 ev5=>⟨hlt,q5,S4,ρ4,sm5,ev5,it2.step st5,abS.mono (r:=abN G g b1 (xs.drop (i+1)) ρ4 S4) k1 (st2.trans st5)⟩
    | ct ρ4 S4 =>
     rw [y] at k1
     exact fun q5 H5 σ5 st5 sm5 ev5=>⟨hlt,q5,S4,ρ4,sm5,ev5,it2.step st5,abS.mono (r:=abN G g b1 (xs.drop (i+1)) ρ4 S4) k1 (st2.trans st5)⟩
    | bk ρ4 S4=>rw [y] at k1; exact abS.mono (r:=.nx ρ4 S4) k1 st2
    | rt v S4=>rw [y] at k1; exact abS.mono (r:=.rt v S4) k1 st2
    | exc v S4=>rw [y] at k1; exact abS.mono (r:=.exc v S4) k1 st2
    | fail=>rw [y] at k1; exact k1.elim
  ·exact k1.elim
 ·have e:i=xs.length:=by omega
  subst e
  rw [List.drop_length] at k1
  unfold abN at k1
  split at k1
  ·rename_i gk
   exact .inl ⟨(it1.2 p1 H1 S1 sm1.step sm1 gk).2,abS.nxD k1 sm1 ev1⟩
  ·exact k1.elim
theorem aeE (hp:PassesOwn (model X.prog X.w) X.A X.env X.xe) (hc:PTp K cl E X c mt) (hb:PSsp K cl E X sts b1):PSp K cl E X (.While c sts [] pos) (aeF mt b1):=by
 intro hK
 subst hK
 refine PS.imp (akt hp (hc rfl) (hb rfl)) fun D σ H ⟨p,S,ρ,s,ev,h⟩=>?_
 unfold aeF at h
 split at h
 ·rename_i hh
  refine ⟨fun n σ H=>∃ p S ρ,Sim X.K p S H∧RepE X.K p H ρ σ∧abS X.K cl p H (aaZ mt b1 n ρ S) D E,⟨_,p,S,ρ,s,ev,h⟩,?_⟩
  rintro n σ1 H1 ⟨p1,S1,ρ1,sm1,ev1,k1⟩
  cases n with
  | zero=>exact k1.elim
  | succ n =>
   unfold aaZ at k1
   refine acs sm1 ev1 k1 fun q H2 t t' S2 stp sm2 ev2 r k2=>?_
   cases r
   cases t with
   | true =>
    rw [if_pos rfl] at k2 ⊢
    refine ⟨fun σ' H'=>∃ p S ρ,Sim X.K p S H'∧RepE X.K p H' ρ σ'∧abS X.K cl p H' (aaZ mt b1 n ρ S) D E,fun σ' H' hN=>⟨n,Nat.lt_succ_self n,hN⟩,q,S2,ρ1,sm2,ev2,?_⟩
    cases y:b1 ρ1 S2 with
    | nx ρ4 S4 =>
     rw [y] at k2
     exact fun q5 H5 σ5 st5 sm5 ev5=>⟨q5,S4,ρ4,sm5,ev5,abS.mono (r:=aaZ mt b1 n ρ4 S4) k2 st5⟩
    | ct ρ4 S4 =>
     rw [y] at k2
     exact fun q5 H5 σ5 st5 sm5 ev5=>⟨q5,S4,ρ4,sm5,ev5,abS.mono (r:=aaZ mt b1 n ρ4 S4) k2 st5⟩
    | bk ρ4 S4=>rw [y] at k2; exact k2
    | rt v S4=>rw [y] at k2; exact k2
    | exc v S4=>rw [y] at k2; exact k2
    | fail=>rw [y] at k2; exact k2.elim
   | false =>
    rw [if_neg Bool.false_ne_true] at k2 ⊢
    exact abS.nxD k2 sm2 ev2
 ·exact h.elim
end
end L2.Pp
namespace L2.Pp
open PySem PySem.Spec PyProof.Rows Bn
def aaI (n:Nat) (xs:List AV):Rho:=xs.map some++List.replicate (n - xs.length) none
def abi (n:Nat):AV→Sto→Res AV
 | .pv v,S=>.ok (.pv v) (S.take n)
 | .ref k,S=>if k < n then .ok (.ref k) (S.take n) else match S[k]? with
  | some (.lst xs)=>.ok (.ref n) (S.take n++[.lst xs])
  | _=>.fail
def frz (n:Nat):Res AV→Res AV
 | .ok (.ref k) S=>if k < n then .ok (.ref k) S else match S[k]? with
  | some (.lst xs)=>.ok (.pv (.lst xs)) (S.take n)
  | _=>.fail
 | r=>r
def aaH (n:Nat):SRes→Res AV
 | .rt v S=>abi n v S
 | .nx _ S=>.ok (.pv .non) (S.take n)
 | .exc e S=>.exc e (S.take n)
 | _=>.fail
def fnM (np n:Nat) (b:MS) (xs:List AV) (S:Sto):Res AV:=if xs.length=np then aaH S.length (b (aaI n xs) S) else .fail
def aau {α:Type}:Res α→Res α
 | .ok a S=>.ok a S
 | _=>.fail
abbrev FM:=List AV→Sto→Res AV
def abu (f:FM) (ds:List PV) (ms:MA):ME:=fun ρ S=>(ms ρ S).bind fun xs S1=>frz S1.length (f (xs++ds.map .pv) S1)
def aah (f:FM) (ds:List PV) (ms:MA):ME:=fun ρ S=>(ms ρ S).bind fun xs S1=>frz S1.length (aau (f (xs++ds.map .pv) S1))
def aaM (f:FM) (ds:List PV) (ms:MA):ME:=fun ρ S=>(ms ρ S).bind fun xs S1=>aau (f (xs++ds.map .pv) S1)
def spP (K:PySem.W.Frag) (cl:Str→Addr) (f:FM):Sp:=fun vs H Q E=>∃ p S xs,Sim K p S H∧ac1 K p H xs vs∧aaV K cl (RepA K) p H (f xs S) Q E
def spP0 (K:PySem.W.Frag) (cl:Str→Addr) (f:FM):Sp:=fun vs H Q _=>spP K cl f vs H Q E0
section
variable {K:PySem.W.Frag} {cl:Str→Addr} {p q:Ph} {H H':Hp} {S S':Sto}
theorem afi {c c':Addr→Prop} (h:∀ a,c a→c' a) {a:Addr} {vs:List V} (l:LAt K c' H a vs):LAt K c H a vs:=by
 rcases l with ⟨l,n⟩ | l | l
 ·exact .inl ⟨l,fun z=>n (h a z)⟩
 ·exact .inr (.inl l)
 ·exact .inr (.inr l)
theorem acd {c c':Addr→Prop} (h:∀ a,c a→c' a) {ps:List PV} {vs:List V} (r:Reps K c' H ps vs):Reps K c H ps vs:=Reps.mono (fun _ _ t=>t) (fun _ _ l=>afi h l) ps vs r
theorem ahW {c c':Addr→Prop} (h:∀ a,c a→c' a) {v:PV} {x:V} (r:Rep K c' H v x):Rep K c H v x:=Rep.mono (fun _ _ t=>t) (fun _ _ l=>afi h l) v x r
theorem agE {f g:List Addr} (h:f <+: g):g.take f.length=f:=by
 obtain ⟨t,e⟩:=h
 rw [← e,List.take_left]
theorem ad7 {α:Type}:∀ {l:List α} {i j:Nat} {a:α},l.Nodup→l[i]?=some a→l[j]?=some a→i=j
 | [],i,j,a,_,e,_=>by simp at e
 | b :: l,0,0,a,_,_,_=>rfl
 | b :: l,0,j+1,a,n,e,f=>by
  simp at e f
  subst e
  exact absurd (List.mem_of_getElem? f) (List.nodup_cons.mp n).1
 | b :: l,i+1,0,a,n,e,f=>by
  simp at e f
  subst f
  exact absurd (List.mem_of_getElem? e) (List.nodup_cons.mp n).1
 | b :: l,i+1,j+1,a,n,e,f=>by
  exact congrArg (·+1) (ad7 (l:=l) (a:=a) (List.nodup_cons.mp n).2 (by simpa using e) (by simpa using f))
theorem Sim.cutX (D:Addr→Prop) (s:Sim K p S H) (st:Step p H q H') (s':Sim K q S' H') (hD:∀ b,D b→H b=none) (hq:(∀ b,D b→b∈q.f)∨∀ k xss,S'[k]?=some (.lol xss)→¬ k < S.length) :
  let r:Ph:=⟨p.f,fun b=>q.w b∧¬ D b,fun b=>q.c b∧¬ D b⟩
  Step p H r H'∧Sim K r (S'.take S.length) H':=by
 intro r
 have nD:∀ a,p.c a→¬ D a:=fun a c d=>by
  obtain ⟨o,ho,_⟩:=s.mu a c
  rw [hD a d] at ho
  cases ho
 have le:S.length≤S'.length:=by
  have:=st.pre.length_le
  rw [← s.len,← s'.len]
  exact this
 refine ⟨⟨s.wc,s.mu,List.prefix_rfl,fun a h=>⟨st.mw a h,nD a (s.wc a h)⟩,fun a h=>⟨st.mono a h,nD a h⟩,fun _ h g=>absurd h g,fun a h=>st.nw a h.1,fun a h=>st.nc a h.1,st.keep⟩,s.nd,by rw [s.len,List.length_take]; omega,fun a h=>⟨st.mw a (s.sub a h),nD a (s.wc a (s.sub a h))⟩,fun a h=>⟨s'.wc a h.1,h.2⟩,fun a h=>s'.mu a h.1,fun k a o e1 e2=>?_⟩
 have hk:k < S.length:=by
  have:=(List.getElem?_eq_some_iff.mp e1).1
  rw [← s.len]
  exact this
 have e2':S'[k]?=some o:=by
  rw [List.getElem?_take,if_pos hk] at e2
  exact e2
 have z:=s'.obj k a o (st.at_ e1) e2'
 have shr:∀ xs vs,Reps K q.c H' xs vs→Reps K r.c H' xs vs:=fun xs vs=>acd (fun b h=>h.1)
 have sub:∀ b,b ∉ q.f→b ∉ p.f:=fun b n h=>n (st.pre.subset h)
 rcases hq with hq | hq
 ·exact z.mono (fun _ e=>e) (fun b w f=>⟨⟨⟨w,fun d=>f (hq b d)⟩,sub b f⟩,fun _ e=>e⟩) shr
 ·cases o with
  | lst xs =>
   obtain ⟨vs,e,l,g⟩:=z
   exact ⟨vs,e,l,shr xs vs g⟩
  | lol xss=>exact absurd hk (hq k xss e2')
theorem Sim.cut (s:Sim K p S H) (st:Step p H q H') (s':Sim K q S' H'):Step p H ⟨p.f,fun b=>q.w b∧¬ False,fun b=>q.c b∧¬ False⟩ H'∧Sim K ⟨p.f,fun b=>q.w b∧¬ False,fun b=>q.c b∧¬ False⟩ (S'.take S.length) H' :=
 s.cutX (fun _=>False) st s' (fun _ h=>h.elim) (.inl fun _ h=>h.elim)
theorem agb (s:Sim K p S H) (st:Step p H q H') (sm:Sim K q S' H') {k:Nat} {a:Addr} (e:q.f[k]?=some a) (hk:¬ k < S.length):a ∉ p.f∧H a=none∧¬ p.c a:=by
 have na:a ∉ p.f:=fun hm=>by
  obtain ⟨j,hj,ej⟩:=List.getElem_of_mem hm
  have e2:q.f[j]?=some a:=st.at_ (by rw [List.getElem?_eq_getElem hj,ej])
  have hjk:j=k:=ad7 sm.nd e2 e
  rw [s.len] at hj
  omega
 have hn:=st.nf a (List.mem_of_getElem? e) na
 refine ⟨na,hn,fun c=>?_⟩
 obtain ⟨o,ho,_⟩:=s.mu a c
 rw [hn] at ho
 cases ho
theorem afF {r:Res AV} {Q:VK} {E:XK} (s:Sim K p S H) (h:aaV K cl (RepA K) p H (frz S.length r) Q E):aaV K cl (RepA K) p H r Q E:=by
 cases r with
 | exc n S1=>exact h
 | fail=>exact h
 | ok v S1 =>
  cases v with
  | pv v=>exact h
  | ref k =>
   have h:aaV K cl (RepA K) p H (if k < S.length then .ok (.ref k) S1 else match S1[k]? with
    | some (.lst xs)=>.ok (.pv (.lst xs)) (S1.take S.length)
    | _=>.fail) Q E:=h
   split at h
   ·exact h
   ·rename_i hk
    cases z:S1[k]? with
    | none=>rw [z] at h; exact h.elim
    | some o =>
     cases o with
     | lol xss=>rw [z] at h; exact h.elim
     | lst xs =>
      rw [z] at h
      intro q H' x st sm r
      obtain ⟨a,e,rfl⟩:=r
      obtain ⟨na,hn,nc⟩:=agb s st sm e hk
      obtain ⟨st1,sm1⟩:=s.cutX (fun b=>b=a) st sm (fun b d=>d ▸ hn) (.inl fun b d=>d ▸ List.mem_of_getElem? e)
      obtain ⟨vs,h1,l,r⟩:=sm.obj k a _ e z
      refine h _ H' (.ref a) st1 sm1 ?_
      show Rep K (fun b=>q.c b∧¬ b=a) H' (.lst xs) (.ref a)
      unfold Rep
      exact ⟨a,vs,rfl,.inl ⟨h1,fun d=>d.2 rfl⟩,l,acd (fun b h=>h.1) r⟩
theorem adF {r:SRes} {Q:VK} {E:XK} (s:Sim K p S H) (h:aaV K cl (RepA K) p H (aaH S.length r) Q E):abS K cl p H r { nx:=fun _ H'=>Q .non H',rt:=Q } E:=by
 cases r with
 | nx ρ S1 =>
  intro q H' σ st sm ev
  obtain ⟨st1,sm1⟩:=s.cut st sm
  exact h _ H' .non st1 sm1 (by show Rep K (fun b=>q.c b∧¬ False) H' .non .non; unfold Rep; rfl)
 | exc n S1 =>
  intro q H' st sm
  obtain ⟨st1,sm1⟩:=s.cut st sm
  exact h _ H' st1 sm1
 | rt v S1 =>
  intro q H' x st sm r
  obtain ⟨st1,sm1⟩:=s.cut st sm
  cases v with
  | pv v=>exact h _ H' x st1 sm1 (show Rep K (fun b=>q.c b∧¬ False) H' v x from ahW (fun b h=>h.1) r)
  | ref k =>
   obtain ⟨a,e,rfl⟩:=r
   have h:aaV K cl (RepA K) p H (if k < S.length then .ok (.ref k) (S1.take S.length) else match S1[k]? with
    | some (.lst xs)=>.ok (.ref S.length) (S1.take S.length++[.lst xs])
    | _=>.fail) Q E:=h
   split at h
   ·rename_i hk
    refine h _ H' (.ref a) st1 sm1 ⟨a,?_,rfl⟩
    show p.f[k]?=some a
    have hf:=agE st.pre
    rw [← hf,List.getElem?_take,if_pos (by rw [s.len]; exact hk)]
    exact e
   ·rename_i hk
    cases z:S1[k]? with
    | none=>rw [z] at h; exact h.elim
    | some o =>
     cases o with
     | lol xss=>rw [z] at h; exact h.elim
     | lst xs =>
      rw [z] at h
      obtain ⟨vs,h1,l,r⟩:=sm.obj k a _ e z
      obtain ⟨na,hn,nc⟩:=agb s st sm e hk
      have l1:(S1.take S.length).length=S.length:=by rw [← sm1.len,← s.len]
      have ma:a∈q.f:=List.mem_of_getElem? e
      refine h ⟨p.f++[a],q.w,q.c⟩ H' (.ref a) ⟨s.wc,s.mu,⟨[a],rfl⟩,st.mw,st.mono,fun b hb n=>?_,st.nw,st.nc,st.keep⟩ ⟨?_,?_,fun b hb=>?_,sm.wc,sm.mu,fun j b o e1 e2=>?_⟩ ⟨a,?_,rfl⟩
      ·rcases List.mem_append.mp hb with z | z
       ·exact absurd z n
       ·have:b=a:=by simpa using z
        rw [this]
        exact hn
      ·show (p.f++[a]).Nodup
       rw [List.nodup_append]
       refine ⟨s.nd,by simp,fun b hb c hc z=>?_⟩
       have:c=a:=by simpa using hc
       exact na (this ▸ z ▸ hb)
      ·show (p.f++[a]).length=_
       rw [List.length_append,List.length_append,l1,s.len]
       rfl
      ·rcases List.mem_append.mp hb with z | z
       ·exact st.mw b (s.sub b z)
       ·have:b=a:=by simpa using z
        rw [this]
        exact sm.sub a ma
      ·by_cases hj:j < S.length
       ·have e1':p.f[j]?=some b:=by
         have e1:(p.f++[a])[j]?=some b:=e1
         rwa [List.getElem?_append_left (by rw [s.len]; exact hj)] at e1
        rw [List.getElem?_append_left (by rw [l1]; exact hj),List.getElem?_take,if_pos hj] at e2
        refine (sm.obj j b o (st.at_ e1') e2).mono (fun _ e=>e) (fun c w f=>⟨⟨w,fun m=>?_⟩,fun _ e=>e⟩) fun _ _ r=>r
        rcases List.mem_append.mp m with z | z
        ·exact f (st.pre.subset z)
        ·have:c=a:=by simpa using z
         exact f (this ▸ ma)
       ·have hj':j=S.length:=by
         have:=(List.getElem?_eq_some_iff.mp e2).1
         rw [List.length_append,l1] at this
         simp at this
         omega
        subst hj'
        rw [List.getElem?_append_right (by rw [l1]; exact Nat.le_refl _),l1,Nat.sub_self] at e2
        have e1:(p.f++[a])[S.length]?=some b:=e1
        rw [← s.len,List.getElem?_append_right (Nat.le_refl _),Nat.sub_self] at e1
        cases e1
        cases e2
        exact ⟨vs,h1,l,r⟩
      ·show (p.f++[a])[S.length]?=some a
       rw [← s.len,List.getElem?_append_right (Nat.le_refl _),Nat.sub_self]
       rfl
 | bk ρ S1=>exact h.elim
 | ct ρ S1=>exact h.elim
 | fail=>exact h.elim
theorem adQ {N:List Str} {xs:List AV} {vs:List V} (r:ac1 K p H xs vs):RepE K p H (aaI N.length xs) (L2.start N vs):=by
 have go:∀ {xs:List AV} {vs:List V},ac1 K p H xs vs→xs.length=vs.length:=fun {xs vs} r=>by
  induction r with
  | nil=>rfl
  | cons _ _ ih=>rw [List.length_cons,List.length_cons,ih]
 have get:∀ {xs:List AV} {vs:List V},ac1 K p H xs vs→∀ (i:Nat) (v:AV),xs[i]?=some v→∃ x,vs[i]?=some x∧RepA K p H v x:=fun {xs vs} r=>by
  induction r with
  | nil=>intro i v e; simp at e
  | cons h _ ih =>
   intro i v e
   cases i with
   | zero =>
    simp at e
    subst e
    exact ⟨_,rfl,h⟩
   | succ i=>simpa using ih i v (by simpa using e)
 have hl:=go r
 refine ⟨by unfold aaI L2.start; simp [hl],fun i v e=>?_⟩
 unfold aaI at e
 unfold L2.start
 by_cases hi:i < xs.length
 ·rw [List.getElem?_append_left (by simpa using hi),List.getElem?_map] at e
  cases z:xs[i]? with
  | none=>rw [z] at e; cases e
  | some u =>
   rw [z] at e
   cases e
   obtain ⟨x,e1,e2⟩:=get r i v z
   refine ⟨x,?_,e2⟩
   rw [List.getElem?_append_left (by rw [List.length_map,← hl]; exact hi),List.getElem?_map,e1]
   rfl
 ·rw [List.getElem?_append_right (by rw [List.length_map]; omega),List.getElem?_replicate] at e
  split at e
  ·cases e
  ·cases e
end
section
variable {P:Program} {w:World} {K:PySem.W.Frag} {mg:Str→Option Value} {base:Heap} {cl:Str→Addr}
theorem aiU {K:PySem.W.Frag} {p:Ph} {H:Hp} {xs:List AV} {vs:List V} (h:ac1 K p H xs vs):xs.length=vs.length:=by
 induction h with
 | nil=>rfl
 | cons _ _ ih=>rw [List.length_cons,List.length_cons,ih]
theorem aiN {np n:Nat} {b:MS} {vs:List V} {H:Hp} {Q:VK} {E:XK} (h:spP K cl (fnM np n b) vs H Q E):vs.length=np:=by
 obtain ⟨p,S,xs,sm,ra,h⟩:=h
 unfold fnM at h
 split at h
 ·rename_i e
  rw [← aiU ra,e]
 ·exact h.elim
theorem okP {x qual:Str} {st:Stmt} {f:Addr} {fd:FuncData} {N ps:List Str} {k np n:Nat} {b:MS} (F:Fun K x qual st f fd) (S:aaA N ps (aad st)) (hnp:ps.length=np) (hn:N.length=n)
  (hb:∀ (cdv:Value) (A:Around) (outer:List Env) (s:Shared) (H:Hp) (E:XK),Room k (A.deeper (envOfC qual (aad st) s.heap.objs.size f cdv))→PSsp K cl E0 (cxOf CX0 P w K mg base N qual (aad st) f cdv A outer s H E).nox (aat st) b) :
  FnOk P w K mg base CX0 (k+1) f fd ps (spP0 K cl (fnM np n b)):=by
 subst hnp hn
 refine F.ok S (fun vs H Q E h=>aiN h) fun cdv A outer s H vs Q E hr h=>⟨_,hb cdv A outer s H E hr rfl,?_⟩
 obtain ⟨p,S,xs,sm,ra,h⟩:=h
 unfold fnM at h
 split at h
 ·exact ⟨p,S,_,sm,adQ ra,adF sm h⟩
 ·exact h.elim
theorem okX {x qual:Str} {st:Stmt} {f:Addr} {fd:FuncData} {N ps:List Str} {k np n:Nat} {b:MS} (F:Fun K x qual st f fd) (S:aaA N ps (aad st)) (hnp:ps.length=np) (hn:N.length=n)
  (hb:∀ (cdv:Value) (A:Around) (outer:List Env) (s:Shared) (H:Hp) (E:XK),Room k (A.deeper (envOfC qual (aad st) s.heap.objs.size f cdv))→PSsp K cl E (cxOf (CX1 P w) P w K mg base N qual (aad st) f cdv A outer s H E) (aat st) b) :
  FnOk P w K mg base (CX1 P w) (k+1) f fd ps (spP K cl (fnM np n b)):=by
 subst hnp hn
 refine F.okX S (fun vs H Q E h=>aiN h) fun cdv A outer s H vs Q E hr h=>⟨_,hb cdv A outer s H E hr rfl,?_⟩
 obtain ⟨p,S,xs,sm,ra,h⟩:=h
 unfold fnM at h
 split at h
 ·exact ⟨p,S,_,sm,adQ ra,adF sm h⟩
 ·exact h.elim
theorem okXD {x qual:Str} {st:Stmt} {f:Addr} {fd:FuncData} {ds:Array Value} {N ps:List Str} {k np n:Nat} {b:MS} (F:FunD K x qual st f fd ds) (S:aaA N ps (aad st)) (hnp:ps.length=np) (hn:N.length=n)
  (hb:∀ (cdv:Value) (A:Around) (outer:List Env) (s:Shared) (H:Hp) (E:XK),Room k (A.deeper (envOfC qual (aad st) s.heap.objs.size f cdv))→PSsp K cl E (cxOf (CX1 P w) P w K mg base N qual (aad st) f cdv A outer s H E) (aat st) b) :
  FnOk P w K mg base (CX1 P w) (k+1) f fd ps (spP K cl (fnM np n b)):=by
 subst hnp hn
 refine F.okX S (fun vs H Q E h=>aiN h) fun cdv A outer s H vs Q E hr h=>⟨_,hb cdv A outer s H E hr rfl,?_⟩
 obtain ⟨p,S,xs,sm,ra,h⟩:=h
 unfold fnM at h
 split at h
 ·exact ⟨p,S,_,sm,adQ ra,adF sm h⟩
 ·exact h.elim
theorem x0 {f:Addr} {fd:FuncData} {ps:List Str} {k:Nat} {g:FM} (F:FnOk P w K mg base (CX1 P w) k f fd ps (spP K cl g)):FnOk P w K mg base CX0 k f fd ps (spP0 K cl g) :=
 ⟨fun vs H Q E h=>F.len vs H Q E0 h,fun A outer s H args us vs Q E hr e0 hb hv h=>codeAny_mono (F.run A outer s H args us vs Q E0 hr e0 hb hv h) fun r s' hq=>by
  cases r with
  | error e =>
   obtain ⟨_,_,_,_,_,_,_,_,_,_,_,_,z⟩:=hq
   exact z
  | ok fl =>
   cases fl with
   | ret u=>exact hq
   | next=>exact hq
   | brk=>exact hq
   | cont=>exact hq⟩
end
section
variable {K:PySem.W.Frag} {cl:Str→Addr} {E:XK} {X:Cx} {e:Expr} {es:List Expr} {ms:MA} {pos p:Pos} {k n:Nat} {f:Addr} {fd:FuncData} {ps:List Str} {g:FM} {x:Str} {dvs:List V} {ds:List Value} {dv:List PV}
theorem abZ {p:Ph} {H:Hp} {xs ys:List AV} {vs ws:List V} (h:ac1 K p H xs vs) (g:ac1 K p H ys ws):ac1 K p H (xs++ys) (vs++ws):=by
 induction h with
 | nil=>exact g
 | cons h _ ih=>exact .cons h ih
def Dv (dv:List PV) (dvs:List V):Prop:=∀ K p H,ac1 K p H (dv.map .pv) dvs
theorem Dv.nil:Dv [] []:=fun _ _ _=>.nil
theorem Dv.int {i:Int} {dv:List PV} {dvs:List V} (h:Dv dv dvs):Dv (.int i :: dv) (.int i :: dvs):=fun K p H=>.cons (by show Rep K p.c H _ _; unfold Rep; rfl) (h K p H)
theorem Dv.bl {i:Bool} {dv:List PV} {dvs:List V} (h:Dv dv dvs):Dv (.bl i :: dv) (.bl i :: dvs):=fun K p H=>.cons (by show Rep K p.c H _ _; unfold Rep; rfl) (h K p H)
theorem alD (F:FnOk X.prog X.w X.K X.mg X.base CX0 k f fd ps (spP0 K cl g)) (hr:Room k X.A) (hg:Gl X x) (hm:X.mg x=some (.ref f)) (hk:PySem.W.keepIn X.K (.ref f)=true) (hb:acL X.K fd ps ds) (hd:Vals dvs ds) (hv:Dv dv dvs)
  (ha:PAp K cl E0 X (e :: es) ms) (hdb:(x == ("__debug__":Str))=false:=by decide) (he:starEach (e :: es) X.env=(false,eval e X.env) :: starEach es X.env:=by rfl) (hpl:(backTo pos (starEach es X.env)).any (·.1)=false:=by rfl) :
  PEp K cl E0 X (.Call (.Name x p) (e :: es) [] pos) (abu g dv ms):=by
 intro hK
 refine PE.imp (afL F hr hg hm hk hb hd alP (ha hK) hdb he hpl) fun σ H Q ⟨p,S,ρ,s,ev,h⟩=>?_
 exact aax s ev h fun q H' as xs S' stp sm ev r k=>⟨q,S',_,sm,abZ r (hv K q H'),afF sm k⟩
theorem afa {α β:Type} {R:Ph→Hp→α→β→Prop} {p:Ph} {H:Hp} {r:Res α} {Q:β→Hp→Prop} (h:aaV K cl R p H (aau r) Q E):aaV K cl R p H r Q E0:=by
 cases r with
 | ok a S=>exact h
 | exc n S=>exact h.elim
 | fail=>exact h.elim
theorem akh (F:FnOk X.prog X.w X.K X.mg X.base CX0 k f fd ps (spP0 K cl g)) (hr:Room k X.A) (hg:Gl X x) (hm:X.mg x=some (.ref f)) (hk:PySem.W.keepIn X.K (.ref f)=true) (hb:acL X.K fd ps ds) (hd:Vals dvs ds) (hv:Dv dv dvs)
  (ha:PAp K cl E X (e :: es) ms) (hdb:(x == ("__debug__":Str))=false:=by decide) (he:starEach (e :: es) X.env=(false,eval e X.env) :: starEach es X.env:=by rfl) (hpl:(backTo pos (starEach es X.env)).any (·.1)=false:=by rfl) :
  PEp K cl E X (.Call (.Name x p) (e :: es) [] pos) (aah g dv ms):=by
 intro hK
 refine PE.imp (afL F hr hg hm hk hb hd alP (ha hK) hdb he hpl) fun σ H Q ⟨p,S,ρ,s,ev,h⟩=>?_
 exact aax s ev h fun q H' as xs S' stp sm ev r k=>⟨q,S',_,sm,abZ r (hv K q H'),afa (afF sm k)⟩
theorem aj9 (F:FnOk X.prog X.w X.K X.mg X.base CX0 k f fd ps (spP0 K cl g)) (hr:Room k X.A) (hg:Gl X x) (hm:X.mg x=some (.ref f)) (hk:PySem.W.keepIn X.K (.ref f)=true) (hb:acL X.K fd ps ds) (hd:Vals dvs ds) (hv:Dv dv dvs)
  (ha:PAp K cl E X (e :: es) ms) (hdb:(x == ("__debug__":Str))=false:=by decide) (he:starEach (e :: es) X.env=(false,eval e X.env) :: starEach es X.env:=by rfl) (hpl:(backTo pos (starEach es X.env)).any (·.1)=false:=by rfl) :
  PEp K cl E X (.Call (.Name x p) (e :: es) [] pos) (aaM g dv ms):=by
 intro hK
 refine PE.imp (afL F hr hg hm hk hb hd alP (ha hK) hdb he hpl) fun σ H Q ⟨p,S,ρ,s,ev,h⟩=>?_
 exact aax s ev h fun q H' as xs S' stp sm ev r k=>⟨q,S',_,sm,abZ r (hv K q H'),afa k⟩
def ag2 (n:Str):MS:=fun _ S=>.exc n S
theorem afV {P:Program} {w:World} {mg:Str→Option Value} {base:Heap} {N:List Str} {qual:Str} {scope:Scope} {f:Addr} {cd:Value} {A:Around} {outer:List Env} {s₀:Shared} {H₀:Hp}
  {txt:Str} {j:Nat} {np p1 cpos:Pos} (hg:Gl (cxOf (CX1 P w) P w K mg base N qual scope f cd A outer s₀ H₀ E) x) (hm:mg x=some (.ref (cl x))) (hx:PySem.W.excIn K (cl x) acr "ValueError.__new__"=true)
  (hd:(x == ("__debug__":Str))=false:=by decide) :
  PSp K cl E (cxOf (CX1 P w) P w K mg base N qual scope f cd A outer s₀ H₀ E) (.Raise (some (.Call (.Name x np) [.Constant (.str txt) j p1] [] cpos)) none pos) (ag2 x) :=
 fun _=>PS.imp (ajQ hg hm hx hd) fun D σ H ⟨p,S,ρ,s,ev,h⟩=>h p H s.step s
end
end L2.Pp
namespace L2.Pp
open PySem PySem.Spec PyProof.Rows Bn
def cmpR (own:List Str) (cap:List (Nat × Str)) (ρ:Rho):Rho:=own.map (fun _=>none)++cap.map fun p=>(ρ[p.1]?).join
open Classical in
noncomputable def aaN (G:Gd) (g:GM) (me:ME):List PV→Rho→Sto→Res (List PV)
 | [],_,S=>if gOk G S then .ok [] S else .fail
 | x :: r,ρ,S=>if gOk G S then (match g x ρ with
  | none=>.fail
  | some ρ1=>match me ρ1 S with
   | .ok (.pv y) S1=>match aaN G g me r ρ1 S1 with
    | .ok ys S2=>.ok (y :: ys) S2
    | _=>.fail
   | _=>.fail) else .fail
theorem aaJ {g:GM} {me:ME} {ρ:Rho} {S:Sto}:aaN [] g me [] ρ S=.ok [] S:=by
 unfold aaN
 rw [if_pos (ade S)]
theorem aaE {g:GM} {me:ME} {x:PV} {r:List PV} {ρ:Rho} {S:Sto}:aaN [] g me (x :: r) ρ S=(match g x ρ with
  | none=>.fail
  | some ρ1=>match me ρ1 S with
   | .ok (.pv y) S1=>match aaN [] g me r ρ1 S1 with
    | .ok ys S2=>.ok (y :: ys) S2
    | _=>.fail
   | _=>.fail):=by
 rw [aaN,if_pos (ade S)]
noncomputable def aa1 (own:List Str) (cap:List (Nat × Str)) (mi:MI) (g:GM) (me:ME):ME:=fun ρ S=>(mi ρ S).bind fun xs S1=>(aaN xs.2 g me xs.1 (cmpR own cap ρ) S1).bind fun ys S2=>.ok (.pv (.lst ys)) S2
theorem aeo {G:Gd} {g:GM} {me:ME}:∀ (xs:List PV) (ρ:Rho) (S:Sto) (n:Str) (S':Sto),aaN G g me xs ρ S≠.exc n S'
 | [],_,_,_,_,e=>by
  unfold aaN at e
  split at e <;> cases e
 | x :: r,ρ,S,n,S',e=>by
  unfold aaN at e
  split at e
  ·split at e
   ·cases e
   ·split at e
    ·split at e
     ·cases e
     ·cases e
    ·cases e
  ·cases e
theorem ahG {G:Gd} {g:GM} {me:ME} {xs zs:List PV} {ρ:Rho} {S S':Sto} (e:aaN G g me xs ρ S=.ok zs S'):gOk G S:=by
 cases xs with
 | nil =>
  unfold aaN at e
  split at e
  ·assumption
  ·cases e
 | cons x r =>
  unfold aaN at e
  split at e
  ·assumption
  ·cases e
section
variable {K:PySem.W.Frag} {cl:Str→Addr} {E:XK} {X:Cx} {p q:Ph} {H H':Hp} {S:Sto}
theorem ag8 {ρ:Rho} {σ:St} {own:List Str} {cap:List (Nat × Str)} (h:RepE K p H ρ σ):RepE K p H (cmpR own cap ρ) (adX own cap σ):=by
 refine ⟨by unfold cmpR adX; simp,fun i v e=>?_⟩
 unfold cmpR at e
 unfold adX
 by_cases hi:i < own.length
 ·rw [List.getElem?_append_left (by simpa using hi),List.getElem?_map,List.getElem?_eq_getElem hi] at e
  cases e
 ·rw [List.getElem?_append_right (by rw [List.length_map]; omega),List.getElem?_map,List.length_map] at e ⊢
  cases z:cap[i - own.length]? with
  | none=>rw [z] at e; cases e
  | some c =>
   rw [z] at e
   have e:(ρ[c.1]?).join=some v:=Option.some.inj e
   have e':ρ[c.1]?=some (some v):=by
    cases y:ρ[c.1]? with
    | none=>rw [y] at e; cases e
    | some o=>rw [y] at e; exact congrArg some e
   obtain ⟨x,e1,e2⟩:=h.at_ c.1 v e'
   refine ⟨x,?_,e2⟩
   show some ((σ[c.1]?).join)=some (some x)
   rw [e1]
   rfl
def Ph.res (p:Ph) (D:Addr):Ph:=⟨p.f,fun a=>p.w a∨a=D,fun a=>p.c a∨a=D⟩
def Ph.hold (p:Ph) (D:Addr):Ph:=⟨p.f,fun a=>p.w a∧a≠D,p.c⟩
def Ph.less (p:Ph) (D:Addr):Ph:=⟨p.f,fun a=>p.w a∧a≠D,fun a=>p.c a∧a≠D⟩
theorem Sim.notin (s:Sim K p S H) {D:Addr} (h:H D=none):¬ p.c D:=fun c=>by
 obtain ⟨o,e,_⟩:=s.mu D c
 rw [h] at e
 cases e
theorem Sim.res (s:Sim K p S H) {D:Addr} {o:HO} (h:H D=none) (mo:Mb o):Step p H (p.res D) (upd H D o)∧Sim K (p.res D) S (upd H D o):=by
 have st:Step p H (p.res D) (upd H D o):=⟨s.wc,s.mu,List.prefix_rfl,fun a h=>.inl h,fun a h=>.inl h,fun a h g=>absurd h g,fun a x n=>x.elim (fun z=>absurd z n) (fun z=>by rw [z]; exact h),fun a x n=>x.elim (fun z=>absurd z n) (fun z=>by rw [z]; exact h),fun a u e _=>by
  rw [aaF (aaG e h)]
  exact e⟩
 refine ⟨st,s.nd,s.len,fun a h=>.inl (s.sub a h),fun a x=>x.elim (fun z=>.inl (s.wc a z)) .inr,fun a x=>?_,fun k a u e1 e2=>?_⟩
 ·by_cases z:a=D
  ·rw [z,abl]
   exact ⟨o,rfl,mo⟩
  ·rw [aaF z]
   exact s.mu a (x.elim id fun y=>absurd y z)
 ·exact (s.obj k a u e1 e2).mono (fun vs e=>by rw [aaF (aaG e h)]; exact e) (fun b w f=>⟨⟨.inl w,f⟩,fun vs e=>by rw [aaF (aaG e h)]; exact e⟩) fun _ _ r=>st.reps r
theorem Sim.resHold (s:Sim K p S H) {D:Addr} {o:HO} (h:H D=none) (mo:Mb o):Sim K ((p.res D).hold D) S (upd H D o):=by
 obtain ⟨st,sm⟩:=s.res (o:=o) h mo
 have ne:∀ a,p.w a→a≠D:=fun a w z=>s.notin h (z ▸ s.wc a w)
 refine ⟨sm.nd,sm.len,fun a m=>⟨sm.sub a m,ne a (s.sub a m)⟩,fun a x=>sm.wc a x.1,sm.mu,fun k a u e1 e2=>?_⟩
 exact (s.obj k a u e1 e2).mono (fun vs e=>by rw [aaF (aaG e h)]; exact e) (fun b w f=>⟨⟨⟨.inl w,ne b w⟩,f⟩,fun vs e=>by rw [aaF (aaG e h)]; exact e⟩) fun _ _ r=>st.reps r
theorem Step.unhold {D:Addr} (h:p.w D) (st:Step (p.hold D) H q H') (s:Sim K p S H):Step p H ⟨q.f,fun a=>q.w a∨a=D,q.c⟩ H' :=
 ⟨s.wc,s.mu,st.pre,fun a x=>by
  by_cases z:a=D
  ·exact .inr z
  ·exact .inl (st.mw a ⟨x,z⟩),st.mono,st.nf,fun a x n=>by
  rcases x with x | x
  ·exact st.nw a x fun z=>n z.1
  ·exact absurd (x ▸ h) n,st.nc,fun a o e n=>st.keep a o e fun z=>n z.1⟩
theorem Sim.grow {D:Addr} {ys:List V} {o:HO} (s:Sim K p S H) (sh:Sim K (p.hold D) S H) (w:p.w D) (n:D ∉ p.f) (mo:Mb o):Step p H p (upd H D o)∧Sim K p S (upd H D o)∧Sim K (p.hold D) S (upd H D o):=by
 have st:Step p H p (upd H D o):=⟨s.wc,s.mu,List.prefix_rfl,fun _ h=>h,fun _ h=>h,fun _ h g=>absurd h g,fun _ h g=>absurd h g,fun _ h g=>absurd h g,fun a u e nw=>by
  rw [aaF (fun z:a=D=>nw (by rw [z]; exact w))]
  exact e⟩
 have hm:∀ a,p.c a→∃ u,upd H D o a=some u∧Mb u:=fun a x=>by
  by_cases z:a=D
  ·rw [z,abl]
   exact ⟨o,rfl,mo⟩
  ·rw [aaF z]
   exact s.mu a x
 refine ⟨st,⟨s.nd,s.len,s.sub,s.wc,hm,fun k a u e1 e2=>?_⟩,⟨sh.nd,sh.len,sh.sub,sh.wc,hm,fun k a u e1 e2=>?_⟩⟩
 ·have ne:a≠D:=fun z=>n (z ▸ List.mem_of_getElem? e1)
  exact (sh.obj k a u e1 e2).mono (fun vs e=>by rw [aaF ne]; exact e) (fun b w f=>⟨⟨w.1,f⟩,fun vs e=>by rw [aaF w.2]; exact e⟩) fun _ _ r=>st.reps r
 ·have ne:a≠D:=fun z=>n (z ▸ List.mem_of_getElem? e1)
  exact (sh.obj k a u e1 e2).mono (fun vs e=>by rw [aaF ne]; exact e) (fun b w f=>⟨⟨w,f⟩,fun vs e=>by rw [aaF w.2]; exact e⟩) fun _ _ r=>st.reps r
theorem Sim.toLess {D:Addr} (s:Sim K (p.hold D) S H):Sim K (p.less D) S H :=
 ⟨s.nd,s.len,s.sub,fun a h=>⟨s.wc a h,h.2⟩,fun a h=>s.mu a h.1,fun k a o e1 e2 =>
  (s.obj k a o e1 e2).mono (fun _ e=>e) (fun b w f=>⟨⟨w,f⟩,fun _ e=>e⟩) fun _ _ r=>acd (fun a h=>h.1) r⟩
theorem Step.toLess {D:Addr} (st:Step p H q H') (h:H D=none):Step p H (q.less D) H':=by
 have nD:∀ a,p.c a→a≠D:=fun a c z=>by
  obtain ⟨o,e,_⟩:=st.mu a c
  rw [z,h] at e
  cases e
 exact ⟨st.wc,st.mu,st.pre,fun a x=>⟨st.mw a x,nD a (st.wc a x)⟩,fun a x=>⟨st.mono a x,nD a x⟩,st.nf,fun a x=>st.nw a x.1,fun a x=>st.nc a x.1,st.keep⟩
variable {sc:Scope} {own:List Str} {cap:List (Nat × Str)} {elt target iter:Expr} {pos:Pos} {mi:MI} {g:GM} {me:ME}
theorem agk {σ:St} {ρ:Rho} {xs zs:List PV} {G:Gd} {J:It} {Q:VK} {D:Addr} {S2:Sto} (sm:Sim K p S H) (ev:RepE K p H ρ σ) (it:ItOk K p H (xs,G) J) (z:aaN G g me xs (cmpR own cap ρ) S=.ok zs S2) (hD:H D=none)
  (k:∀ q H' vs,Step p H q H'→Sim K q S2 H'→Sim K (q.hold D) S2 H'→q.w D→D ∉ q.f→H' D=some (.lst vs)→vs.length≤sizeLine→Reps K q.c H' zs vs→Q (.ref D) H') :
  cmpW J (gP K g) (tP K cl E0 (RepA K) me) (adX own cap σ) H D Q:=by
 obtain ⟨st0,sm0⟩:=sm.res (D:=D) (o:=.lst []) hD trivial
 have sh0:=sm.resHold (D:=D) (o:=.lst []) hD trivial
 have nf0:D ∉ p.f:=fun h=>sm.notin hD (sm.wc D (sm.sub D h))
 refine aiz xs.length it.1 (fun i σ1 H1 ys=>ys.length=i∧i≤xs.length∧H1 D=some (.lst ys)∧∃ p1 S1 ρ1 us ws,(Sim K p1 S1 H1∧Sim K (p1.hold D) S1 H1)∧Step p H p1 H1∧p1.w D∧D ∉ p1.f∧RepE K p1 H1 ρ1 σ1∧ItOk K p1 H1 (xs,G) J∧gOk G S1∧Reps K p1.c H1 us ys∧zs=us++ws∧aaN G g me (xs.drop i) ρ1 S1=.ok ws S2) ?_ ?_ ?_ ?_ ?_
 ·refine ⟨rfl,Nat.zero_le _,abl,p.res D,S,cmpR own cap ρ,[],zs,⟨sm0,sh0⟩,st0,.inr rfl,nf0,ag8 (st0.repE ev),it.step st0,?_,.nil,rfl,by simpa using z⟩
  exact ahG z
 ·rintro i σ1 H1 ys ⟨h1,_,h2,_⟩
  exact ⟨h1,h2⟩
 ·rintro i σ1 H1 ys hi ⟨_,_,_,p1,S1,ρ1,us,ws,⟨sm1,sh1⟩,st1,w1,f1,ev1,it1,g1,_⟩
  exact ((it1.2 p1 H1 S1 sm1.step sm1 g1).1 i xs[i] (List.getElem?_eq_getElem hi)).1
 ·rintro i σ1 H1 ys x H2 hi ⟨hl,_,hH,p1,S1,ρ1,us,ws,⟨sm1,sh1⟩,st1,w1,f1,ev1,it1,g1,r1,e1,c1⟩ hy
  obtain ⟨same,rx⟩:=((it1.2 p1 H1 S1 sm1.step sm1 g1).1 i xs[i] (List.getElem?_eq_getElem hi)).2 x H2 hy
  rw [List.drop_eq_getElem_cons hi] at c1
  unfold aaN at c1
  rw [if_pos g1] at c1
  split at c1
  ·cases c1
  ·rename_i ρ2 gz
   split at c1
   ·rename_i y S3 mz
    split at c1
    ·rename_i vs S4 cz
     cases c1
     have st2:=sm1.same same
     have sm2:=sm1.ofSame same
     have smh:=sh1.ofSame same
     have stS:Step p H p1 H2:=st1.trans st2
     refine ⟨p1,S1,ρ1,xs[i],ρ2,sm2,st2.repE ev1,rx,gz,fun σ3 ev3=>⟨p1.hold D,S1,ρ2,smh,⟨ev3.len,ev3.at_⟩,?_⟩⟩
     rw [mz]
     intro q H4 y' st4 sm4 ry
     have hD2:H2 D=some (.lst ys):=same _ _ hH
     have hD4:H4 D=some (.lst ys):=st4.keep D _ hD2 fun z=>z.2 rfl
     have fq:D ∉ q.f:=fun h=>by
      have:=st4.nf D h f1
      rw [hD2] at this
      cases this
     have stU:=Step.unhold w1 st4 sm2
     have nq:¬ q.w D:=fun z=>by
      have:=st4.nw D z fun y=>y.2 rfl
      rw [hD2] at this
      cases this
     have smU:Sim K ⟨q.f,fun a=>q.w a∨a=D,q.c⟩ S3 H4:=⟨sm4.nd,sm4.len,fun a h=>.inl (sm4.sub a h),fun a h=>h.elim (sm4.wc a) fun z=>z ▸ st4.mono D (sm2.wc D w1),sm4.mu,fun k a o e1 e2 =>
      (sm4.obj k a o e1 e2).mono (fun _ e=>e) (fun b w f=>⟨⟨.inl w,f⟩,fun _ e=>e⟩) fun _ _ r=>r⟩
     have shU:Sim K (Ph.hold ⟨q.f,fun a=>q.w a∨a=D,q.c⟩ D) S3 H4:=⟨sm4.nd,sm4.len,fun a h=>⟨.inl (sm4.sub a h),fun z=>nq (z ▸ sm4.sub a h)⟩,fun a h=>smU.wc a h.1,sm4.mu,fun k a o e1 e2 =>
      (sm4.obj k a o e1 e2).mono (fun _ e=>e) (fun b w f=>⟨⟨⟨.inl w,fun z=>nq (z ▸ w)⟩,f⟩,fun _ e=>e⟩) fun _ _ r=>r⟩
     obtain ⟨stG,smG,shG⟩:=smU.grow (ys:=ys) (D:=D) (o:=.lst (ys++[y'])) shU (.inr rfl) fq trivial
     have stA:=st2.trans (stU.trans stG)
     refine amF hi hD4 ⟨by rw [List.length_append,hl]; rfl,hi,abl,_,S3,ρ2,us++[y],vs,⟨smG,shG⟩,st1.trans stA,.inr rfl,fq,stG.repE (stU.repE ev3),it1.step stA,ahG cz,?_,by rw [e1,List.append_assoc]; rfl,cz⟩
     exact (stA.reps r1).append (.cons (stG.rep ry) .nil)
    ·cases c1
   ·cases c1
 ·rintro σ1 H1 ys ⟨hl,_,hH,p1,S1,ρ1,us,ws,⟨sm1,sh1⟩,st1,w1,f1,ev1,it1,g1,r1,e1,c1⟩
  rw [List.drop_length] at c1
  unfold aaN at c1
  rw [if_pos g1] at c1
  cases c1
  refine ⟨(it1.2 p1 H1 _ sm1.step sm1 g1).2,?_⟩
  rw [List.append_nil] at e1
  subst e1
  exact k p1 H1 ys st1 sm1 sh1 w1 f1 hH (by rw [hl]; exact it.1) r1
theorem afU {σ:St} {ρ:Rho} {xs:List PV × Gd} {J:It} {Q:VK} {D:Addr} (sm:Sim K p S H) (ev:RepE K p H ρ σ) (it:ItOk K p H xs J) (k:aaV K cl (RepA K) p H ((aaN xs.2 g me xs.1 (cmpR own cap ρ) S).bind fun ys S2=>.ok (.pv (.lst ys)) S2) Q E) (hD:H D=none) :
  cmpW J (gP K g) (tP K cl E0 (RepA K) me) (adX own cap σ) H D Q:=by
 cases z:aaN xs.2 g me xs.1 (cmpR own cap ρ) S with
 | fail=>rw [z] at k; exact k.elim
 | exc n S'=>exact absurd z (aeo _ _ _ _ _)
 | ok zs S2 =>
  rw [z] at k
  have k:∀ q H' x,Step p H q H'→Sim K q S2 H'→Rep K q.c H' (.lst zs) x→Q x H':=k
  refine agk sm ev it z hD fun q H' vs st1 sm1 sh1 w1 f1 hH l1 r1=>?_
  refine k (q.less D) H' (.ref D) (st1.toLess hD) sh1.toLess ?_
  unfold Rep
  exact ⟨D,vs,rfl,.inl ⟨hH,fun z=>z.2 rfl⟩,l1,acd (fun a h=>h.1) r1⟩
theorem ab2 (k:adO X sc own cap) (hi:PIp K cl E X target iter mi) (hc:X.calm=true) (hg:∀ C s₀ H₀ ex,PGp K (abw X sc (cmpN own cap) C s₀ H₀ ex) target g) (he:∀ C s₀ H₀ ex,PEp K cl E0 (abw X sc (cmpN own cap) C s₀ H₀ ex) elt me)
  (hs:∀ x,foldedSetIterable iter X.env x=pure x:=by intro _; rfl):PEp K cl E X (.ListComp elt [⟨target,iter,[],0⟩] sc pos) (aa1 own cap mi g me):=by
 intro hK
 refine PE.imp (ale k (hi hK) hc (fun C s₀ H₀ ex=>hg C s₀ H₀ ex hK) (fun C s₀ H₀ ex=>he C s₀ H₀ ex hK) hs) fun σ H Q ⟨p,S,ρ,s,ev,h⟩=>?_
 exact aax s ev h fun q H' xs J S' stp sm ev it kk D hD=>afU sm ev it kk hD
theorem ad4 {i:Nat} {x:Str} {py spos:Pos} (hN:X.N.Nodup) (hx:X.N[i]?=some x) (hl:Loc X.env.scope x) (k:adO X sc own cap) (hi:PIp K cl E X target iter mi) (hc:X.calm=true) (hg:∀ C s₀ H₀ ex,PGp K (abw X sc (cmpN own cap) C s₀ H₀ ex) target g) (he:∀ C s₀ H₀ ex,PEp K cl E0 (abw X sc (cmpN own cap) C s₀ H₀ ex) elt me)
  (hs:∀ x,foldedSetIterable iter X.env x=pure x:=by intro _; rfl) (hsw:swapsWith (.ListComp elt [⟨target,iter,[],0⟩] sc pos) (some (.Name x py)) spos.line X.env=pure true:=by rfl)
  (hf:X.fn x=true∨X.env.scope.names.lookup x=some .local:=by first | exact .inl rfl | exact .inr rfl | assumption) :
  PSp K cl E X (.Assign [.Name x py] (.ListComp elt [⟨target,iter,[],0⟩] sc pos) spos) (sSet i (aa1 own cap mi g me)):=by
 intro hK
 refine PS.imp (aiJ hN hx hl k (hi hK) hc (fun C s₀ H₀ ex=>hg C s₀ H₀ ex hK) (fun C s₀ H₀ ex=>he C s₀ H₀ ex hK) hs hsw hf) fun D σ H ⟨p,S,ρ,s,ev,h⟩=>?_
 have h2:tP K cl E (RepA K) (aa1 own cap mi g me) σ H fun y H1=>D.nx (σ.set i (some y)) H1:=by
  refine ⟨p,S,ρ,s,ev,?_⟩
  unfold sSet at h
  cases z:aa1 own cap mi g me ρ S with
  | ok v S1 =>
   rw [z] at h
   exact fun q H' y st sm r=>h q H' _ st sm ((st.repE ev).set r i)
  | exc n S1=>rw [z] at h; exact h
  | fail=>rw [z] at h; exact h
 obtain ⟨p,S,ρ,s,ev,h⟩:=h2
 exact aax s ev h fun q H' xs J S' stp sm ev it kk B hB=>afU sm ev it kk hB
end
end L2.Pp
namespace L2.Pp
open PySem PySem.Spec PyProof.Rows Bn
def aco:List (Option Bool)→Option (List Bool)
 | []=>some []
 | some b :: r=>match aco r with
  | some bs=>some (b :: bs)
  | none=>none
 | none :: _=>none
theorem afd:∀ {l:List (Option Bool)} {bs:List Bool},aco l=some bs→bs.length=l.length
 | [],_,e=>by cases e; rfl
 | some b :: r,bs,e=>by
  unfold aco at e
  split at e
  ·rename_i cs h
   cases e
   rw [List.length_cons,List.length_cons,afd h]
  ·cases e
 | none :: r,_,e=>by cases e
theorem adL:∀ {l:List (Option Bool)} {bs:List Bool} {i:Nat} {o:Option Bool},aco l=some bs→l[i]?=some o→∃ b,o=some b∧bs[i]?=some b
 | [],_,i,o,_,h=>by simp at h
 | some b :: r,bs,i,o,e,h=>by
  unfold aco at e
  split at e
  ·rename_i cs h'
   cases e
   cases i with
   | zero =>
    simp at h
    exact ⟨b,h.symm,rfl⟩
   | succ i=>simpa using adL h' (by simpa using h)
  ·cases e
 | none :: r,_,_,_,e,_=>by cases e
def eqN:Nat→PV→PV→Option Bool
 | _,.non,.non=>some true
 | _,.bl a,.bl b=>some (a == b)
 | _,.int a,.int b=>some (a == b)
 | _,.str a,.str b=>some (a == b)
 | n+1,.tup xs,.tup ys=>match aco (List.zipWith (eqN n) xs ys) with
  | some bs=>some (bs.all id && xs.length == ys.length)
  | none=>none
 | n+1,.lst xs,.lst ys=>if xs.length=ys.length then (match aco (List.zipWith (eqN n) xs ys) with
  | some bs=>some (bs.all id)
  | none=>none) else some false
 | _,_,_=>none
theorem adh (bs:List Bool):((List.range bs.length).all fun j=>bs.getD j true)=bs.all id:=by
 rw [Bool.eq_iff_iff,List.all_eq_true,List.all_eq_true]
 constructor
 ·intro h b hb
  obtain ⟨j,hj,e⟩:=List.getElem_of_mem hb
  have:=h j (by simpa using hj)
  simpa [List.getD,hj,e] using this
 ·intro h j hj
  have hj:j < bs.length:=by simpa using hj
  have:=h bs[j] (List.getElem_mem hj)
  simpa [List.getD,hj] using this
section
variable {X:Cx} {pins:List (Addr × Obj)} {σ:St} {H:Hp} {s:Shared} {c:Addr→Prop}
theorem ad1 {n:Nat} {xs ys:List PV} {vs ws:List V} {its jts:List Value} {bs:List Bool} {A:Around}
  (ih:∀ (v w:PV) (x y:V) (u u':Value) (b:Bool),Rep X.K c H v x→Rep X.K c H w y→RelV x u→RelV y u'→eqN n v w=some b→SeqAt.EqAt A s u u' b)
  (r1:Reps X.K c H xs vs) (r2:Reps X.K c H ys ws) (q1:Vals vs its) (q2:Vals ws jts) (e:aco (List.zipWith (eqN n) xs ys)=some bs) :
  ∀ j (h1:j < its.toArray.size) (h2:j < jts.toArray.size),SeqAt.EqAt A s its.toArray[j] jts.toArray[j] (bs.getD j true):=fun j h1 h2=>by
 have l1:=r1.length.trans q1.length
 have l2:=r2.length.trans q2.length
 have g1:j < xs.length:=by rw [l1]; simpa using h1
 have g2:j < ys.length:=by rw [l2]; simpa using h2
 obtain ⟨x,ex,rx⟩:=r1.get (List.getElem?_eq_getElem g1)
 obtain ⟨y,ey,ry⟩:=r2.get (List.getElem?_eq_getElem g2)
 obtain ⟨u,eu,ru⟩:=q1.get ex
 obtain ⟨u',eu',ru'⟩:=q2.get ey
 have hz:(List.zipWith (eqN n) xs ys)[j]?=some (eqN n xs[j] ys[j]):=by
  rw [List.getElem?_zipWith,List.getElem?_eq_getElem g1,List.getElem?_eq_getElem g2]
 obtain ⟨b,eb,eb'⟩:=adL e hz
 have e1:its.toArray[j]=u:=by
  rw [List.getElem_toArray]
  rw [List.getElem?_eq_getElem (by simpa using h1)] at eu
  exact Option.some.inj eu
 have e2:jts.toArray[j]=u':=by
  rw [List.getElem_toArray]
  rw [List.getElem?_eq_getElem (by simpa using h2)] at eu'
  exact Option.some.inj eu'
 rw [e1,e2]
 have e3:bs.getD j true=b:=by simp [List.getD,eb']
 rw [e3]
 exact ih _ _ _ _ _ _ _ rx ry ru ru' eb
theorem aee {n:Nat} {xs ys:List PV} {bs:List Bool} (e:aco (List.zipWith (eqN n) xs ys)=some bs):bs.length=min xs.length ys.length:=by
 rw [afd e,List.length_zipWith]
theorem afX (n:Nat) (v w:PV) (x:V) (b:Bool) (nt:∀ xs,v≠.tup xs) (nl:∀ xs,v≠.lst xs) (h:Rep X.K c H v x) (g:Rep X.K c H w x) (e:eqN n v w=some b):b=true:=by
 cases v with
 | tup xs=>exact absurd rfl (nt xs)
 | lst xs=>exact absurd rfl (nl xs)
 | non =>
  cases w <;> first | (unfold eqN at e; simp at e; done) | skip
  unfold eqN at e; cases e; rfl
 | bl i =>
  cases w <;> first | (unfold eqN at e; simp at e; done) | skip
  unfold Rep at h g; subst h; injection g with g'; subst g'; unfold eqN at e; cases e; exact beq_self_eq_true _
 | int i =>
  cases w <;> first | (unfold eqN at e; simp at e; done) | skip
  unfold Rep at h g; subst h; injection g with g'; subst g'; unfold eqN at e; cases e; exact beq_self_eq_true _
 | str i =>
  cases w <;> first | (unfold eqN at e; simp at e; done) | skip
  unfold Rep at h g; subst h; injection g with g'; subst g'; unfold eqN at e; cases e; exact beq_self_eq_true _
theorem ahh (I:Inv X pins σ H s):∀ (n:Nat) (v w:PV) (x:V) (b:Bool),Rep X.K c H v x→Rep X.K c H w x→eqN n v w=some b→b=true:=by
 intro n
 induction n with
 | zero =>
  intro v w x b h g e
  cases v with
  | tup xs=>unfold eqN at e; simp at e
  | lst xs=>unfold eqN at e; simp at e
  | _=>exact afX 0 _ w x b (by intro _ z; cases z) (by intro _ z; cases z) h g e
 | succ n ih =>
  have items:∀ (xs ys:List PV) (vs:List V) (bs:List Bool),Reps X.K c H xs vs→Reps X.K c H ys vs→aco (List.zipWith (eqN n) xs ys)=some bs→bs.all id=true∧xs.length=ys.length:=fun xs ys vs bs r1 r2 e=>by
   have ll:=r1.length.trans r2.length.symm
   refine ⟨?_,ll⟩
   rw [List.all_eq_true]
   intro b hb
   obtain ⟨j,hj,ej⟩:=List.getElem_of_mem hb
   have hj':=hj
   rw [aee e] at hj'
   have g1:j < xs.length:=by omega
   have g2:j < ys.length:=by omega
   obtain ⟨x,ex,rx⟩:=r1.get (List.getElem?_eq_getElem g1)
   obtain ⟨y,ey,ry⟩:=r2.get (List.getElem?_eq_getElem g2)
   have:=ex.symm.trans ey
   cases this
   have hz:(List.zipWith (eqN n) xs ys)[j]?=some (eqN n xs[j] ys[j]):=by
    rw [List.getElem?_zipWith,List.getElem?_eq_getElem g1,List.getElem?_eq_getElem g2]
   obtain ⟨b',eb,eb'⟩:=adL e hz
   rw [List.getElem?_eq_getElem hj,ej] at eb'
   cases eb'
   exact ih _ _ _ _ rx ry eb
  intro v w x b h g e
  cases v with
  | tup xs =>
   cases w with
   | tup ys =>
    unfold Rep at h g
    obtain ⟨a,vs,rfl,t1,_,r1⟩:=h
    obtain ⟨a',ws,e1,t2,_,r2⟩:=g
    cases e1
    have:=I.tuple_inj t1 t2
    subst this
    unfold eqN at e
    split at e
    ·rename_i bs hb
     obtain ⟨z1,z2⟩:=items xs ys vs bs r1 r2 hb
     rw [z1,z2,beq_self_eq_true] at e
     cases e
     rfl
    ·cases e
   | _=>unfold eqN at e; simp at e
  | lst xs =>
   cases w with
   | lst ys =>
    unfold Rep at h g
    obtain ⟨a,vs,rfl,t1,_,r1⟩:=h
    obtain ⟨a',ws,e1,t2,_,r2⟩:=g
    cases e1
    have:=I.list_inj t1.sq t2.sq
    subst this
    unfold eqN at e
    rw [if_pos (r1.length.trans r2.length.symm)] at e
    split at e
    ·rename_i bs hb
     obtain ⟨z1,z2⟩:=items xs ys vs bs r1 r2 hb
     rw [z1] at e
     cases e
     rfl
    ·cases e
   | _=>unfold eqN at e; simp at e
  | _=>exact afX (n+1) _ w x b (by intro _ z; cases z) (by intro _ z; cases z) h g e
theorem ak8 (I:Inv X pins σ H s):∀ (n:Nat) (v w:PV) (x y:V) (u u':Value) (b:Bool) (A:Around),A.units+n < cLine→Rep X.K c H v x→Rep X.K c H w y→RelV x u→RelV y u'→eqN n v w=some b→SeqAt.RcAt A s u u' b∧SeqAt.EqAt A s u u' b:=by
 have flat:∀ (n:Nat) (v w:PV) (x y:V) (u u':Value) (b:Bool) (A:Around),(∀ xs,v≠.tup xs)→(∀ xs,v≠.lst xs)→Rep X.K c H v x→Rep X.K c H w y→RelV x u→RelV y u'→eqN n v w=some b→SeqAt.RcAt A s u u' b∧SeqAt.EqAt A s u u' b:=by
  intro n v w x y u u' b A nt nl h g r r' e
  cases v with
  | tup xs=>exact absurd rfl (nt xs)
  | lst xs=>exact absurd rfl (nl xs)
  | non =>
   cases w <;> first | (unfold eqN at e; simp at e; done) | skip
   unfold Rep at h g; subst h g; cases r; cases r'; unfold eqN at e; cases e; exact ⟨SeqAt.RcAt.none_none,SeqAt.EqAt.same _⟩
  | bl i =>
   cases w <;> first | (unfold eqN at e; simp at e; done) | skip
   unfold Rep at h g; subst h g; cases r; cases r'; unfold eqN at e; cases e; exact ⟨SeqAt.RcAt.bool_bool _ _,SeqAt.EqAt.bool_bool _ _⟩
  | int i =>
   cases w <;> first | (unfold eqN at e; simp at e; done) | skip
   unfold Rep at h g; subst h g; obtain ⟨t,rfl⟩:=r; obtain ⟨t',rfl⟩:=r'; unfold eqN at e; cases e; exact ⟨SeqAt.RcAt.int_int _ _ _ _,SeqAt.EqAt.int_int _ _ _ _⟩
  | str i =>
   cases w <;> first | (unfold eqN at e; simp at e; done) | skip
   unfold Rep at h g; subst h g; obtain ⟨t,rfl⟩:=r; obtain ⟨t',rfl⟩:=r'; unfold eqN at e; cases e; exact ⟨SeqAt.RcAt.str_str _ _ _ _,SeqAt.EqAt.str_str _ _ _ _⟩
 have main:∀ (n:Nat) (v w:PV) (x y:V) (u u':Value) (b:Bool) (A:Around),A.units+n < cLine→Rep X.K c H v x→Rep X.K c H w y→RelV x u→RelV y u'→eqN n v w=some b→SeqAt.RcAt A s u u' b∧SeqAt.EqAt A s u u' b:=by
  intro n
  induction n with
  | zero =>
   intro v w x y u u' b A hu h g r r' e
   cases v with
   | tup xs=>unfold eqN at e; simp at e
   | lst xs=>unfold eqN at e; simp at e
   | _=>exact flat 0 _ w x y u u' b A (by intro _ z; cases z) (by intro _ z; cases z) h g r r' e
  | succ n ih =>
   intro v w x y u u' b A hu h g r r' e
   have hin:A.in1.units+n < cLine:=by show A.units+1+n < cLine; omega
   cases v with
   | tup xs =>
    cases w with
    | tup ys =>
     have hs:x=y→b=true:=fun z=>ahh I (n+1) _ _ x b h (z ▸ g) e
     unfold Rep at h g
     obtain ⟨a,vs,rfl,t1,_,r1⟩:=h
     obtain ⟨a',ws,rfl,t2,_,r2⟩:=g
     cases r
     cases r'
     obtain ⟨its,q1,p1,_⟩:=I.tuple t1
     obtain ⟨jts,q2,p2,_⟩:=I.tuple t2
     unfold eqN at e
     split at e
     ·rename_i bs hb
      cases e
      have z:=SeqAt.RcAt.tuples (A:=A) (s:=s) (e:=fun j=>bs.getD j true) (show s.heap.IsTuple a its.toArray from p1) (show s.heap.IsTuple a' jts.toArray from p2) (by omega)
       (ad1 (A:=A.in1) (fun v w x y u u' b h1 h2 h3 h4 h5=>(ih v w x y u u' b A.in1 hin h1 h2 h3 h4 h5).2) r1 r2 q1 q2 hb)
      have l1:=r1.length.trans q1.length
      have l2:=r2.length.trans q2.length
      rw [List.size_toArray,List.size_toArray,← l1,← l2,← aee hb,adh] at z
      refine ⟨z,?_⟩
      by_cases ha:a=a'
      ·subst ha
       rw [hs rfl]
       exact SeqAt.EqAt.same _
      ·exact SeqAt.EqAt.of_refs ha z
     ·cases e
    | _=>unfold eqN at e; simp at e
   | lst xs =>
    cases w with
    | lst ys =>
     have hs:x=y→b=true:=fun z=>ahh I (n+1) _ _ x b h (z ▸ g) e
     unfold Rep at h g
     obtain ⟨a,vs,rfl,t1,_,r1⟩:=h
     obtain ⟨a',ws,rfl,t2,_,r2⟩:=g
     cases r
     cases r'
     obtain ⟨its,q1,p1,_⟩:=I.list t1.sq
     obtain ⟨jts,q2,p2,_⟩:=I.list t2.sq
     have l1:=r1.length.trans q1.length
     have l2:=r2.length.trans q2.length
     have fin:SeqAt.RcAt A s (.ref a) (.ref a') b→SeqAt.RcAt A s (.ref a) (.ref a') b∧SeqAt.EqAt A s (.ref a) (.ref a') b:=fun z=>by
      refine ⟨z,?_⟩
      by_cases ha:a=a'
      ·subst ha
       rw [hs rfl]
       exact SeqAt.EqAt.same _
      ·exact SeqAt.EqAt.of_refs ha z
     unfold eqN at e
     split at e
     ·rename_i hl
      split at e
      ·rename_i bs hb
       cases e
       have z:=SeqAt.RcAt.lists (A:=A) (s:=s) (e:=fun j=>bs.getD j true) p1.isList p2.isList (by rw [List.size_toArray,List.size_toArray]; omega) (by omega)
        (ad1 (A:=A.in1) (fun v w x y u u' b h1 h2 h3 h4 h5=>(ih v w x y u u' b A.in1 hin h1 h2 h3 h4 h5).2) r1 r2 q1 q2 hb)
       have hm:its.length=bs.length:=by rw [aee hb]; omega
       rw [List.size_toArray,hm,adh] at z
       exact fin z
      ·cases e
     ·rename_i hl
      cases e
      exact fin (SeqAt.RcAt.lists_lengths p1.isList p2.isList (by rw [List.size_toArray,List.size_toArray]; simp; omega) (by omega))
    | _=>unfold eqN at e; simp at e
   | _=>exact flat (n+1) _ w x y u u' b A (by intro _ z; cases z) (by intro _ z; cases z) h g r r' e
 exact main
end
end L2.Pp
namespace L2.Pp
open PySem PySem.Spec PyProof.Rows Bn
section
variable {X:Cx}
theorem ana {pins:List (Addr × Obj)} {σ:St} {H:Hp} {s:Shared} (I:Inv X pins σ H s) {p:Ph} {v w:PV} {x y:V} {u u':Value} {b:Bool} {A:Around} (hu:A.units+8 < cLine) (h:RepR X.K p H v x) (g:RepR X.K p H w y) (r:RelV x u) (r':RelV y u') (e:eqN 8 v w=some b) :
  SeqAt.RcAt A s u u' b∧SeqAt.RcNeAt A s u u' (!b):=by
 have hin:A.in1.units+7 < cLine:=by show A.units+1+7 < cLine; omega
 cases v with
 | non =>
  cases w <;> first | (unfold eqN at e; simp at e; done) | skip
  have h:=h.non; have g:=g.non; subst h g; cases r; cases r'; unfold eqN at e; cases e; exact ⟨SeqAt.RcAt.none_none,SeqAt.RcNeAt.none_none⟩
 | bl i =>
  cases w <;> first | (unfold eqN at e; simp at e; done) | skip
  have h:=h.bl; have g:=g.bl; subst h g; cases r; cases r'; unfold eqN at e; cases e; exact ⟨SeqAt.RcAt.bool_bool _ _,SeqAt.RcNeAt.bool_bool _ _⟩
 | int i =>
  cases w <;> first | (unfold eqN at e; simp at e; done) | skip
  have h:=h.int; have g:=g.int; subst h g; obtain ⟨t,rfl⟩:=r; obtain ⟨t',rfl⟩:=r'; unfold eqN at e; cases e; exact ⟨SeqAt.RcAt.int_int _ _ _ _,SeqAt.RcNeAt.int_int _ _ _ _⟩
 | str i =>
  cases w <;> first | (unfold eqN at e; simp at e; done) | skip
  have h:=h.str; have g:=g.str; subst h g; obtain ⟨t,rfl⟩:=r; obtain ⟨t',rfl⟩:=r'; unfold eqN at e; cases e; exact ⟨SeqAt.RcAt.str_str _ _ _ _,SeqAt.RcNeAt.str_str _ _ _ _⟩
 | tup xs =>
  cases w with
  | tup ys =>
   obtain ⟨a,vs,rfl,t1,_,r1⟩:=h.tup
   obtain ⟨a',ws,rfl,t2,_,r2⟩:=g.tup
   cases r
   cases r'
   obtain ⟨its,q1,p1,_⟩:=I.tuple t1
   obtain ⟨jts,q2,p2,_⟩:=I.tuple t2
   unfold eqN at e
   split at e
   ·rename_i bs hb
    cases e
    have it:=ad1 (s:=s) (A:=A.in1) (fun v w x y u u' b h1 h2 h3 h4 h5=>(ak8 I 7 v w x y u u' b A.in1 hin h1 h2 h3 h4 h5).2) r1 r2 q1 q2 hb
    have z:=SeqAt.RcAt.tuples (A:=A) (s:=s) (e:=fun j=>bs.getD j true) (show s.heap.IsTuple a its.toArray from p1) (show s.heap.IsTuple a' jts.toArray from p2) (by omega) it
    have z':=SeqAt.RcNeAt.tuples (A:=A) (s:=s) (e:=fun j=>bs.getD j true) (show s.heap.IsTuple a its.toArray from p1) (show s.heap.IsTuple a' jts.toArray from p2) (by omega) it
    have l1:=r1.length.trans q1.length
    have l2:=r2.length.trans q2.length
    rw [List.size_toArray,List.size_toArray,← l1,← l2,← aee hb,adh] at z z'
    exact ⟨z,z'⟩
   ·cases e
  | _=>unfold eqN at e; simp at e
 | lst xs =>
  cases w with
  | lst ys =>
   obtain ⟨a,vs,rfl,t1,_,r1⟩:=h.lst
   obtain ⟨a',ws,rfl,t2,_,r2⟩:=g.lst
   cases r
   cases r'
   obtain ⟨its,q1,p1,_⟩:=I.list t1
   obtain ⟨jts,q2,p2,_⟩:=I.list t2
   have l1:=r1.length.trans q1.length
   have l2:=r2.length.trans q2.length
   unfold eqN at e
   split at e
   ·rename_i hl
    split at e
    ·rename_i bs hb
     cases e
     have it:=ad1 (s:=s) (A:=A.in1) (fun v w x y u u' b h1 h2 h3 h4 h5=>(ak8 I 7 v w x y u u' b A.in1 hin h1 h2 h3 h4 h5).2) r1 r2 q1 q2 hb
     have z:=SeqAt.RcAt.lists (A:=A) (s:=s) (e:=fun j=>bs.getD j true) p1.isList p2.isList (by rw [List.size_toArray,List.size_toArray]; omega) (by omega) it
     have z':=SeqAt.RcNeAt.lists (A:=A) (s:=s) (e:=fun j=>bs.getD j true) p1.isList p2.isList (by rw [List.size_toArray,List.size_toArray]; omega) (by omega) it
     have hm:its.length=bs.length:=by rw [aee hb]; omega
     rw [List.size_toArray,hm,adh] at z z'
     exact ⟨z,z'⟩
    ·cases e
   ·rename_i hl
    cases e
    exact ⟨SeqAt.RcAt.lists_lengths p1.isList p2.isList (by rw [List.size_toArray,List.size_toArray]; simp; omega) (by omega),SeqAt.RcNeAt.lists_lengths p1.isList p2.isList (by rw [List.size_toArray,List.size_toArray]; simp; omega) (by omega)⟩
  | _=>unfold eqN at e; simp at e
def rEqP (K:PySem.W.Frag) (neg:Bool):R2:=fun x y H Q=>∃ p v w b,RepR K p H v x∧RepR K p H w y∧eqN 8 v w=some b∧Q (.bl (if neg then !b else b)) H
theorem ab3 (hu:X.A.units+8 < cLine):OpR X (compareOp .Eq) (rEqP X.K false):=by
 intro pins s σ H x y v u Q I rx ry h
 obtain ⟨p,a,b,k,h1,h2,e,q⟩:=h
 exact (ana I hu h1 h2 rx ry e).1 X.prog X.w X.xe _ ⟨.bl k,H,I,rfl,q⟩
theorem aht (hu:X.A.units+8 < cLine):OpR X (compareOp .NotEq) (rEqP X.K true):=by
 intro pins s σ H x y v u Q I rx ry h
 obtain ⟨p,a,b,k,h1,h2,e,q⟩:=h
 exact (ana I hu h1 h2 rx ry e).2 X.prog X.w X.xe _ ⟨.bl (!k),H,I,rfl,q⟩
def fEq (a b:PV):Option PV:=(eqN 8 a b).map .bl
def fNe (a b:PV):Option PV:=(eqN 8 a b).map fun k=>.bl (!k)
theorem s_eq {K:PySem.W.Frag}:OpS K (rEqP K false) fEq:=fun {p S H a b c x y Q} s ra rb e k=>by
 unfold fEq at e
 cases z:eqN 8 a b with
 | none=>rw [z] at e; cases e
 | some t =>
  rw [z] at e
  cases e
  exact ⟨p,a,b,t,ra,rb,z,k H _ (Same.refl H) (by unfold Rep; rfl)⟩
theorem s_ne {K:PySem.W.Frag}:OpS K (rEqP K true) fNe:=fun {p S H a b c x y Q} s ra rb e k=>by
 unfold fNe at e
 cases z:eqN 8 a b with
 | none=>rw [z] at e; cases e
 | some t =>
  rw [z] at e
  cases e
  exact ⟨p,a,b,t,ra,rb,z,k H _ (Same.refl H) (by unfold Rep; rfl)⟩
def i2 (f:Int→Int→Option PV):PV→PV→Option PV
 | .int a,.int b=>f a b
 | _,_=>none
open Classical in
noncomputable def cI (C:Int→Int→Prop) (g:Int→Int→PV) (a b:Int):Option PV:=if C a b then some (g a b) else none
def toV:PV→V
 | .int i=>.int i
 | .bl b=>.bl b
 | .str s=>.str s
 | _=>.non
def alC:PV→Bool
 | .int _=>true
 | .bl _=>true
 | .str _=>true
 | .non=>true
 | _=>false
theorem abV {K:PySem.W.Frag} {c:Addr→Prop} {H:Hp} {v:PV} (h:alC v=true):Rep K c H v (toV v):=by
 cases v with
 | tup _=>cases h
 | lst _=>cases h
 | _=>unfold Rep toV; rfl
theorem s_i2 {K:PySem.W.Frag} {C:Int→Int→Prop} {g:Int→Int→PV} {h:Int→Int→V} (fl:∀ i j,alC (g i j)=true∧toV (g i j)=h i j):OpS K (rI C h) (i2 (cI C g)):=fun {p S H a b c x y Q} s ra rb e k=>by
 cases a with
 | int i =>
  cases b with
  | int j =>
   unfold i2 cI at e
   dsimp only at e
   split at e
   ·rename_i hc
    cases e
    refine ⟨i,j,ra.int,rb.int,hc,?_⟩
    rw [← (fl i j).2]
    exact k H _ (Same.refl H) (abV (fl i j).1)
   ·cases e
  | _=>cases e
 | _=>cases e
theorem s_i0 {K:PySem.W.Frag} {g:Int→Int→PV} {h:Int→Int→V} (fl:∀ i j,alC (g i j)=true∧toV (g i j)=h i j):OpS K (rI0 h) (i2 fun i j=>some (g i j)):=fun {p S H a b c x y Q} s ra rb e k=>by
 cases a with
 | int i =>
  cases b with
  | int j =>
   cases e
   refine ⟨i,j,ra.int,rb.int,?_⟩
   rw [← (fl i j).2]
   exact k H _ (Same.refl H) (abV (fl i j).1)
  | _=>cases e
 | _=>cases e
def aid (i j:Int):Prop:=CMul i j∨(Bd 1000000 i∧Bd 1000000 j)
theorem aid.ok {i j:Int} (h:aid i j):IntMulOk i j:=by
 rcases h with h | h
 ·exact h.ok
 have h1:=afN h.1
 have h2:=afN h.2
 unfold IntMulOk Builtin.Int.intTooBig bitsLine
 intro c
 simp only [Bool.and_eq_true,decide_eq_true_eq] at c
 have:=c.2
 omega
theorem aas:OpR X (binaryOp .Mult) (rI aid fun i j=>.int (i*j)):=opI fun _ _ _ _ _ _ _ hc q=>mul_int q hc.ok
noncomputable def fMul:=i2 (cI aid fun i j=>.int (i*j))
noncomputable def aeT:=i2 (cI ah1 fun i j=>.int (i.fdiv j))
noncomputable def fMod:=i2 (cI (fun _ j=>j≠0) fun i j=>.int (i.fmod j))
noncomputable def fPow:=i2 (cI CPow fun i j=>.int (i ^ j.toNat))
def fSub:=i2 fun i j=>some (.int (i - j))
def fLt:=i2 fun i j=>some (.bl (decide (i < j)))
def fLe:=i2 fun i j=>some (.bl (decide (i≤j)))
def fGt:=i2 fun i j=>some (.bl (decide (j < i)))
def fGe:=i2 fun i j=>some (.bl (decide (j≤i)))
theorem aaU {K:PySem.W.Frag}:OpS K (rI aid fun i j=>.int (i*j)) fMul:=s_i2 fun _ _=>⟨rfl,rfl⟩
theorem aho {K:PySem.W.Frag}:OpS K (rI ah1 fun i j=>.int (i.fdiv j)) aeT:=s_i2 fun _ _=>⟨rfl,rfl⟩
theorem afx {K:PySem.W.Frag}:OpS K (rI (fun _ j=>j≠0) fun i j=>.int (i.fmod j)) fMod:=s_i2 fun _ _=>⟨rfl,rfl⟩
theorem ajK {K:PySem.W.Frag}:OpS K (rI CPow fun i j=>.int (i ^ j.toNat)) fPow:=s_i2 fun _ _=>⟨rfl,rfl⟩
theorem acP {K:PySem.W.Frag}:OpS K (rI0 fun i j=>.int (i - j)) fSub:=s_i0 fun _ _=>⟨rfl,rfl⟩
theorem s_lt {K:PySem.W.Frag}:OpS K (rI0 fun i j=>.bl (decide (i < j))) fLt:=s_i0 fun _ _=>⟨rfl,rfl⟩
theorem s_gt {K:PySem.W.Frag}:OpS K (rI0 fun i j=>.bl (decide (j < i))) fGt:=s_i0 fun _ _=>⟨rfl,rfl⟩
theorem s_ge {K:PySem.W.Frag}:OpS K (rI0 fun i j=>.bl (decide (j≤i))) fGe:=s_i0 fun _ _=>⟨rfl,rfl⟩
def fNeg:PV→Option PV
 | .int i=>some (.int (-i))
 | _=>none
theorem abG {K:PySem.W.Frag}:UnS K (rU fun i=>.int (-i)) fNeg:=fun {p S H a c x Q} s ra e k=>by
 cases a with
 | int i =>
  cases e
  exact ⟨i,ra.int,k H _ (Same.refl H) (abV (v:=.int (-i)) rfl)⟩
 | _=>cases e
def ans (K:PySem.W.Frag):R2:=fun x y H Q=>∃ l b xs zs,x=.ref l∧y=.ref b∧SqL K H l xs∧SqL K H b zs∧xs.length+zs.length≤sizeLine∧∀ p,H p=none→Q (.ref p) (upd H p (.lst (xs++zs)))
theorem alk:OpR X (binaryOp .Add) (ans X.K):=by
 intro pins s σ H x y v u Q I rx ry h
 obtain ⟨l,b,xs,zs,rfl,rfl,hx,hy,hz,q⟩:=h
 cases rx
 cases ry
 obtain ⟨its,r1,p1,_⟩:=I.list hx
 obtain ⟨jts,r2,p2,_⟩:=I.list hy
 obtain ⟨⟨cls,dd,data,sl⟩,n,ho,hc,_,hd⟩:=p1
 obtain ⟨⟨cls2,dd2,data2,sl2⟩,n2,ho2,hc2,_,hd2⟩:=p2
 simp only at hc hd hc2 hd2
 subst hc hd hc2 hd2
 have e:its.toArray++jts.toArray=(its++jts).toArray:=by simp
 have l1:=r1.length
 have l2:=r2.length
 refine concat_meets ⟨_,ho,rfl⟩ ⟨_,ho2,rfl⟩ noFill_list_add seq_list_add PySem.F.slot_list_add PySem.F.entry_list_add (PySem.F.args_list_add_2 _ _) (list_addW l b its.toArray jts.toArray n n2 dd dd2 sl sl2 (by rw [List.size_toArray,List.size_toArray]; omega)) ⟨ho,ho2,?_⟩
 rw [e]
 exact ⟨.ref _,_,I.lnew (t':=s.toks) (r1.append r2) (by rw [List.length_append]; omega),rfl,q _ I.fresh⟩
def fAdd:PV→PV→Option PV
 | .int a,.int b=>some (.int (a+b))
 | .lst xs,.lst ys=>if xs.length+ys.length≤16777216 then some (.lst (xs++ys)) else none
 | .tup xs,.tup ys=>if xs.length≠0∧ys.length≠0∧xs.length+ys.length≤16777216 then some (.tup (xs++ys)) else none
 | _,_=>none
def am2 (K:PySem.W.Frag):R2:=fun x y H Q=>(rI0 fun i j=>.int (i+j)) x y H Q∨ans K x y H Q∨anf K x y H Q
theorem aaL:OpR X (binaryOp .Add) (am2 X.K):=OpR.or anP (OpR.or alk aml)
theorem abT {K:PySem.W.Frag}:OpS K (am2 K) fAdd:=fun {p S H a b c x y Q} s ra rb e k=>by
 cases a with
 | int i =>
  cases b with
  | int j =>
   cases e
   exact .inl ⟨i,j,ra.int,rb.int,k H _ (Same.refl H) (abV (v:=.int (i+j)) rfl)⟩
  | _=>cases e
 | lst xs =>
  cases b with
  | lst ys =>
   have e:(if xs.length+ys.length≤16777216 then some (PV.lst (xs++ys)) else none)=some c:=e
   split at e
   ·rename_i hl
    cases e
    obtain ⟨a1,vs,rfl,l1,z1,r1⟩:=ra.lst
    obtain ⟨a2,ws,rfl,l2,z2,r2⟩:=rb.lst
    have hz:vs.length+ws.length≤sizeLine:=by rw [← r1.length,← r2.length,abz]; exact hl
    exact .inr (.inl ⟨a1,a2,vs,ws,rfl,rfl,l1,l2,hz,fun t ht=>k _ _ (abE ht) (adD s (r1.append r2) (by rw [List.length_append]; exact hz) ht)⟩)
   ·cases e
  | _=>cases e
 | tup xs =>
  cases b with
  | tup ys =>
   have e:(if xs.length≠0∧ys.length≠0∧xs.length+ys.length≤16777216 then some (PV.tup (xs++ys)) else none)=some c:=e
   split at e
   ·rename_i hl
    cases e
    obtain ⟨a1,vs,rfl,l1,z1,r1⟩:=ra.tup
    obtain ⟨a2,ws,rfl,l2,z2,r2⟩:=rb.tup
    have hz:vs.length+ws.length≤sizeLine:=by rw [← r1.length,← r2.length,abz]; exact hl.2.2
    refine .inr (.inr ⟨a1,a2,vs,ws,rfl,rfl,l1,l2,fun q=>hl.1 (by rw [r1.length,q]; rfl),hz,fun q=>absurd (show ys.length=0 by rw [r2.length,q]; rfl) hl.2.1,fun _ t ht=>k _ _ (abE ht) (aeM s (r1.append r2) (by rw [List.length_append]; exact hz) ht)⟩)
   ·cases e
  | _=>cases e
 | _=>cases e
end
section
variable {K:PySem.W.Frag} {cl:Str→Addr} {E:XK} {X:Cx} {a b e:Expr} {es:List Expr} {ma mb m:ME} {ms:MA} {pos p2:Pos}
def fIx:PV→PV→Option PV
 | .lst xs,.int i=>atI xs i
 | .tup xs,.int i=>atI xs i
 | _,_=>none
theorem aiO {c:Addr→Prop} {H:Hp} {xs:List PV} {vs:List V} {i:Int} {v:PV} (r:Reps K c H xs vs) (e:atI xs i=some v):∃ x,atI vs i=some x∧Rep K c H v x:=by
 unfold atI at e ⊢
 rw [← r.length]
 cases z:ixN xs.length i with
 | none=>rw [z] at e; cases e
 | some j =>
  rw [z] at e
  exact r.get e
theorem s_ix:OpS K (rIx K) fIx:=fun {p S H a b c x y Q} s ra rb e k=>by
 cases b with
 | int i =>
  cases a with
  | lst xs =>
   obtain ⟨a1,vs,rfl,l1,z1,r1⟩:=ra.lst
   obtain ⟨x,e1,r2⟩:=aiO r1 e
   exact .inl ⟨a1,vs,i,x,rfl,rb.int,l1,e1,k H x (Same.refl H) r2⟩
  | tup xs =>
   obtain ⟨a1,vs,rfl,l1,z1,r1⟩:=ra.tup
   obtain ⟨x,e1,r2⟩:=aiO r1 e
   exact .inr (.inl ⟨a1,vs,i,x,rfl,rb.int,l1,e1,k H x (Same.refl H) r2⟩)
  | _=>cases e
 | _=>cases a <;> cases e
theorem aaD (ha:PEp K cl E X a ma) (hb:PEp K cl E X b mb) (hs:ajr b:=by intro _ _; rfl):PEp K cl E X (.Subscript a b pos) (mBin fIx ma mb):=by
 intro hK
 subst hK
 refine (aoq amB (ha rfl) (hb rfl) hs).imp fun σ H Q ⟨p,S,ρ,s,e,h⟩=>?_
 exact aax s e h fun q H1 a x S1 st s1 e1 r1 h1=>aax s1 e1 h1 fun q2 H2 b y S2 st2 s2 e2 r2 h2=>adg s_ix s2 (st2.repA r1) r2 h2
abbrev MO:=Rho→Sto→Res (Option Int)
def mO0:MO:=fun _ S=>.ok none S
def ab1:AV→Sto→Res (Option Int)
 | .pv (.int i),S=>.ok (some i) S
 | _,_=>.fail
def mO1 (m:ME):MO:=fun ρ S=>(m ρ S).bind ab1
abbrev RO:Ph→Hp→Option Int→Option Int→Prop:=fun _ _ a b=>a=b
variable (K cl E X)
def POp (e:Option Expr) (m:MO):Prop:=X.K=K→PO X e (tP K cl E RO m)
variable {K cl E X}
theorem PO.imp {e:Option Expr} {t t':TO} (h:PO X e t) (i:∀ σ H Q,t' σ H Q→t σ H Q):PO X e t':=fun pins s σ H Q I q=>h pins s σ H Q I (i σ H Q q)
theorem abO:POp K cl E X none mO0:=fun _=>PO.imp al0 fun σ H Q ⟨p,S,ρ,s,e,h⟩=>aaV.ret (R:=RO) h s rfl
theorem abP (h:PEp K cl E X e m):POp K cl E X (some e) (mO1 m):=by
 intro hK
 subst hK
 refine PO.imp (alw (h rfl)) fun σ H Q ⟨p,S,ρ,s,e,h⟩=>?_
 refine aax s e h fun q H1 a x S1 st s1 e1 r1 h1=>?_
 unfold ab1 at h1
 split at h1
 ·rename_i i
  exact ⟨i,(show RepR X.K q H1 (.int i) x from .inl r1).int,aaV.ret (R:=RO) h1 s1 rfl⟩
 ·exact h1.elim
def cutP (xs:List PV) (lo hi:Option Int):List PV:=(xs.drop (HT.sIx xs.length 0 lo)).take (HT.sIx xs.length xs.length hi - HT.sIx xs.length 0 lo)
def fSl (v:PV) (lo hi:Option Int):Option PV:=match v with
 | .lst xs=>some (.lst (cutP xs lo hi))
 | .tup xs=>if HT.sIx xs.length 0 lo=0∧HT.sIx xs.length xs.length hi=xs.length then none else some (.tup (cutP xs lo hi))
 | _=>none
def mSl (m:ME) (ml mh:MO):ME:=fun ρ S=>(m ρ S).bind fun v S1=>(ml ρ S1).bind fun lo S2=>(mh ρ S2).bind fun hi S3=>okO ((rd S3 v).bind fun x=>fSl x lo hi) S3
theorem ahI {c:Addr→Prop} {H:Hp} {xs:List PV} {vs:List V} {lo hi:Option Int} (r:Reps K c H xs vs):Reps K c H (cutP xs lo hi) (cutV vs lo hi):=by
 unfold cutP cutV
 rw [← r.length]
 exact (r.drop _).take _
theorem aep {lo hi:Option Expr} {ml mh:MO} (he:PEp K cl E X e m) (hl:POp K cl E X lo ml) (hu:POp K cl E X hi mh):PEp K cl E X (.Subscript e (.Slice lo hi none p2) pos) (mSl m ml mh):=by
 intro hK
 subst hK
 refine (ake (SlR.or amm anc) (he rfl) (hl rfl) (hu rfl)).imp fun σ H Q ⟨p,S,ρ,s,e,h⟩=>?_
 refine aax s e h fun q H1 a x S1 st s1 e1 r1 h1=>aax s1 e1 h1 fun q2 H2 lo lo' S2 st2 s2 e2 r2 h2=>aax s2 e2 h2 fun q3 H3 hi hi' S3 st3 s3 e3 r3 h3=>?_
 cases r2
 cases r3
 have ra:=st3.repA (st2.repA r1)
 obtain ⟨c,ec,k⟩:=aeJ s3 h3
 cases z:rd S3 a with
 | none=>rw [z] at ec; cases ec
 | some v =>
  rw [z] at ec
  have rv:=agj s3 ra z
  cases v with
  | lst xs =>
   have ec:some (PV.lst (cutP xs lo hi))=some c:=ec
   cases ec
   obtain ⟨a1,vs,rfl,l1,z1,r1⟩:=rv.lst
   exact .inl ⟨a1,vs,rfl,l1,fun t ht=>k _ _ (abE ht) (adD s3 (ahI r1) (Nat.le_trans (acB vs lo hi) z1) ht)⟩
  | tup xs =>
   obtain ⟨a1,vs,rfl,l1,z1,r1⟩:=rv.tup
   have ec:(if HT.sIx xs.length 0 lo=0∧HT.sIx xs.length xs.length hi=xs.length then none else some (PV.tup (cutP xs lo hi)))=some c:=ec
   split at ec
   ·cases ec
   ·rename_i hw
    cases ec
    rw [r1.length] at hw
    exact .inr ⟨a1,vs,rfl,l1,hw,fun t ht=>k _ _ (abE ht) (aeM s3 (ahI r1) (Nat.le_trans (acB vs lo hi) z1) ht)⟩
  | _=>cases ec
theorem aaY {id:String} {r:List V→Hp→VK→Prop} {f:List PV→Option PV} {x:Str} {p:Pos} (hc:adG X (.builtin id) r) (hf:CaR X.K r f) (hg:Gl X x) (hm:X.mg x=none) (hv:bootBuiltins x=some (.builtin id)) (ha:PAp K cl E X (e :: es) ms) (hn:x≠"__name__":=by decide) (hdb:(x == ("__debug__":Str))=false:=by decide)
  (he:starEach (e :: es) X.env=(false,eval e X.env) :: starEach es X.env:=by rfl) (hpl:(backTo pos (starEach es X.env)).any (·.1)=false:=by rfl):PEp K cl E X (.Call (.Name x p) (e :: es) [] pos) (mR f ms):=by
 intro hK
 subst hK
 refine PE.imp (aft hc hg hm hv (ha rfl) hn hdb he hpl) fun σ H Q ⟨p,S,ρ,s,ev,h⟩=>?_
 exact aax s ev h fun q H' as xs S' stp sm ev r k=>af2 hf sm r k
theorem abI {T:String} {r:List V→Hp→VK→Prop} {f:List PV→Option PV} {x:Str} {p:Pos} (hc:adG X (.type T) r) (hf:CaR X.K r f) (hg:Gl X x) (hm:X.mg x=none) (hv:bootBuiltins x=some (.type T)) (ha:PAp K cl E X (e :: es) ms) (hn:x≠"__name__":=by decide) (hdb:(x == ("__debug__":Str))=false:=by decide)
  (he:starEach (e :: es) X.env=(false,eval e X.env) :: starEach es X.env:=by rfl) (hpl:(backTo pos (starEach es X.env)).any (·.1)=false:=by rfl):PEp K cl E X (.Call (.Name x p) (e :: es) [] pos) (mR f ms):=by
 intro hK
 subst hK
 refine PE.imp (ajz hc hg hm hv (ha rfl) hn hdb he hpl) fun σ H Q ⟨p,S,ρ,s,ev,h⟩=>?_
 exact aax s ev h fun q H' as xs S' stp sm ev r k=>af2 hf sm r k
def fLen:List PV→Option PV
 | [.lst xs]=>some (.int xs.length)
 | [.tup xs]=>some (.int xs.length)
 | _=>none
theorem afC:CaR K (fun xs H Q=>∃ p ys,xs=[.ref p]∧(SqL K H p ys∨SqT K H p ys)∧Q (.int ys.length) H) fLen:=fun {p S H as c xs Q} s ra e k=>by
 unfold fLen at e
 split at e
 ·rename_i zs
  cases e
  cases ra with
  | cons h t =>
   cases t
   obtain ⟨a,vs,rfl,l,z,r⟩:=h.lst
   refine ⟨a,vs,rfl,.inl l,?_⟩
   rw [← r.length]
   exact k H _ (Same.refl H) (abV (v:=.int zs.length) rfl)
 ·rename_i zs
  cases e
  cases ra with
  | cons h t =>
   cases t
   obtain ⟨a,vs,rfl,l,z,r⟩:=h.tup
   refine ⟨a,vs,rfl,.inr l,?_⟩
   rw [← r.length]
   exact k H _ (Same.refl H) (abV (v:=.int zs.length) rfl)
 ·cases e
def fAbs:List PV→Option PV
 | [.int i]=>some (.int (if i < 0 then -i else i))
 | _=>none
theorem amb:CaR K (fun xs H Q=>∃ i,xs=[.int i]∧Q (.int (if i < 0 then -i else i)) H) fAbs:=fun {p S H as c xs Q} s ra e k=>by
 unfold fAbs at e
 split at e
 ·rename_i i
  cases e
  cases ra with
  | cons h t =>
   cases t
   cases h.int
   exact ⟨i,rfl,k H _ (Same.refl H) (abV (v:=.int _) rfl)⟩
 ·cases e
def aal:List PV→Option PV
 | [.lst xs]=>some (.tup xs)
 | [.tup xs]=>some (.tup xs)
 | _=>none
theorem adf:CaR K (fun xs H Q=>∃ p ys,xs=[.ref p]∧((SqL K H p ys∧∀ l,H l=none→Q (.ref l) (upd H l (.tup ys)))∨(SqT K H p ys∧Q (.ref p) H))) aal:=fun {p S H as c xs Q} s ra e k=>by
 unfold aal at e
 split at e
 ·rename_i zs
  cases e
  cases ra with
  | cons h t =>
   cases t
   obtain ⟨a,vs,rfl,l,z,r⟩:=h.lst
   exact ⟨a,vs,rfl,.inl ⟨l,fun t ht=>k _ _ (abE ht) (aeM s r z ht)⟩⟩
 ·rename_i zs
  cases e
  cases ra with
  | cons h t =>
   cases t
   obtain ⟨a,vs,rfl,l,z,r⟩:=h.tup
   refine ⟨a,vs,rfl,.inr ⟨l,k H _ (Same.refl H) ?_⟩⟩
   unfold Rep
   exact ⟨a,vs,rfl,l,z,r⟩
 ·cases e
def aak:List PV→Option PV
 | [.lst xs]=>some (.lst xs)
 | [.tup xs]=>some (.lst xs)
 | _=>none
theorem agB:CaR K (fun xs H Q=>∃ p ys,xs=[.ref p]∧(SqL K H p ys∨SqT K H p ys)∧∀ l,H l=none→Q (.ref l) (upd H l (.lst ys))) aak:=fun {p S H as c xs Q} s ra e k=>by
 unfold aak at e
 split at e
 ·rename_i zs
  cases e
  cases ra with
  | cons h t =>
   cases t
   obtain ⟨a,vs,rfl,l,z,r⟩:=h.lst
   exact ⟨a,vs,rfl,.inl l,fun t ht=>k _ _ (abE ht) (adD s r z ht)⟩
 ·rename_i zs
  cases e
  cases ra with
  | cons h t =>
   cases t
   obtain ⟨a,vs,rfl,l,z,r⟩:=h.tup
   exact ⟨a,vs,rfl,.inr l,fun t ht=>k _ _ (abE ht) (adD s r z ht)⟩
 ·cases e
def aeS:List PV→Option (List Bool)
 | []=>some []
 | .bl b :: r=>match aeS r with
  | some bs=>some (b :: bs)
  | none=>none
 | _ :: _=>none
def fAll:List PV→Option PV
 | [.lst xs]=>(aeS xs).map fun bs=>.bl (bs.all id)
 | _=>none
theorem ahu {c:Addr→Prop} {H:Hp}:∀ {xs:List PV} {bs:List Bool} {vs:List V},aeS xs=some bs→Reps K c H xs vs→vs=bs.map V.bl
 | [],bs,vs,e,r=>by
  cases e
  unfold Reps at r
  exact r
 | .bl b :: xs,bs,vs,e,r=>by
  unfold aeS at e
  split at e
  ·rename_i cs h
   cases e
   unfold Reps at r
   obtain ⟨v,w,rfl,r1,r2⟩:=r
   unfold Rep at r1
   rw [r1,ahu h r2]
   rfl
  ·cases e
 | .non :: _,_,_,e,_=>by cases e
 | .int _ :: _,_,_,e,_=>by cases e
 | .str _ :: _,_,_,e,_=>by cases e
 | .tup _ :: _,_,_,e,_=>by cases e
 | .lst _ :: _,_,_,e,_=>by cases e
theorem alH:CaR K (fun xs H Q=>∃ (a:Addr) (bs:List Bool),xs=[.ref a]∧SqL K H a (bs.map V.bl)∧Q (.bl (bs.all id)) H) fAll:=fun {p S H as c xs Q} s ra e k=>by
 unfold fAll at e
 split at e
 ·rename_i zs
  cases y:aeS zs with
  | none=>rw [y] at e; cases e
  | some bs =>
   rw [y] at e
   cases e
   cases ra with
   | cons h t =>
    cases t
    obtain ⟨a,vs,rfl,l,z,r⟩:=h.lst
    rw [ahu y r] at l
    exact ⟨a,bs,rfl,l,k H _ (Same.refl H) (abV (v:=.bl _) rfl)⟩
 ·cases e
end
end L2.Pp
namespace L2.Pp
open PySem PySem.Spec PyProof.Rows Bn
section
variable {K:PySem.W.Frag} {cl:Str→Addr} {E:XK} {X:Cx} {a b c e l tg:Expr} {es:List Expr} {m ma mb:ME} {ms:MA} {pos:Pos} {p q:Ph} {H H':Hp} {S:Sto}
theorem Sim.push (s:Sim K p S H) {D:Addr} {ps:List PV} {vs:List V} (h:H D=none) (l:vs.length≤sizeLine) (r:Reps K p.c H ps vs) :
  let q:Ph:=⟨p.f++[D],fun a=>p.w a∨a=D,fun a=>p.c a∨a=D⟩
  Step p H q (upd H D (.lst vs))∧Sim K q (S++[.lst ps]) (upd H D (.lst vs)):=by
 intro q
 obtain ⟨st0,sm0⟩:=s.res (D:=D) (o:=.lst vs) h trivial
 have nf0:D ∉ p.f:=fun z=>s.notin h (s.wc D (s.sub D z))
 refine ⟨⟨st0.wc,st0.mu,⟨[D],rfl⟩,st0.mw,st0.mono,fun a x n=>?_,st0.nw,st0.nc,st0.keep⟩,?_,by simp [q,s.len],fun a x=>?_,sm0.wc,sm0.mu,fun k a o e1 e2=>?_⟩
 ·rcases List.mem_append.mp x with z | z
  ·exact absurd z n
  ·have:a=D:=by simpa using z
   rw [this]
   exact h
 ·show (p.f++[D]).Nodup
  rw [List.nodup_append]
  refine ⟨s.nd,by simp,fun a ha b hb z=>?_⟩
  have:b=D:=by simpa using hb
  exact nf0 (this ▸ z ▸ ha)
 ·rcases List.mem_append.mp x with z | z
  ·exact .inl (s.sub a z)
  ·exact .inr (by simpa using z)
 ·by_cases hk:k < S.length
  ·have e1':p.f[k]?=some a:=by
    have e1:(p.f++[D])[k]?=some a:=e1
    rwa [List.getElem?_append_left (by rw [s.len]; exact hk)] at e1
   rw [List.getElem?_append_left hk] at e2
   refine (s.obj k a o e1' e2).mono (fun vs e=>by rw [aaF (aaG e h)]; exact e) (fun b w f=>⟨⟨.inl w,fun m=>?_⟩,fun vs e=>by rw [aaF (aaG e h)]; exact e⟩) fun _ _ r=>st0.reps r
   rcases List.mem_append.mp m with z | z
   ·exact f z
   ·have:b=D:=by simpa using z
    exact s.notin h (this ▸ s.wc b w)
  ·have hk':k=S.length:=by
    have:=(List.getElem?_eq_some_iff.mp e2).1
    simp at this
    omega
   subst hk'
   rw [List.getElem?_append_right (Nat.le_refl _),Nat.sub_self] at e2
   have e1:(p.f++[D])[S.length]?=some a:=e1
   rw [← s.len,List.getElem?_append_right (Nat.le_refl _),Nat.sub_self] at e1
   cases e1
   cases e2
   exact ⟨vs,abl,l,st0.reps r⟩
theorem Sim.write (s:Sim K p S H) {D:Addr} {k:Nat} {ps:List PV} {vs:List V} (h:p.f[k]?=some D) (hk:k < S.length) (l:vs.length≤sizeLine) (r:Reps K p.c H ps vs) :
  Step p H p (upd H D (.lst vs))∧Sim K p (S.set k (.lst ps)) (upd H D (.lst vs)):=by
 have w:p.w D:=s.sub D (List.mem_of_getElem? h)
 have st:Step p H p (upd H D (.lst vs)):=⟨s.wc,s.mu,List.prefix_rfl,fun _ h=>h,fun _ h=>h,fun _ h g=>absurd h g,fun _ h g=>absurd h g,fun _ h g=>absurd h g,fun a u e nw=>by
  rw [aaF (fun z:a=D=>nw (by rw [z]; exact w))]
  exact e⟩
 refine ⟨st,s.nd,by rw [List.length_set]; exact s.len,s.sub,s.wc,fun a x=>?_,fun j a o e1 e2=>?_⟩
 ·by_cases z:a=D
  ·rw [z,abl]
   exact ⟨_,rfl,trivial⟩
  ·rw [aaF z]
   exact s.mu a x
 ·by_cases hj:k=j
  ·subst hj
   rw [h] at e1
   cases e1
   rw [List.getElem?_set_self hk] at e2
   cases e2
   exact ⟨vs,abl,l,st.reps r⟩
  ·rw [List.getElem?_set_ne hj] at e2
   have ne:a≠D:=fun q=>hj (ad7 s.nd h (q ▸ e1))
   exact (s.obj j a o e1 e2).mono (fun vs e=>by rw [aaF ne]; exact e) (fun b w f=>⟨⟨w,f⟩,fun vs e=>by rw [aaF (fun z:b=D=>f (z ▸ List.mem_of_getElem? h))]; exact e⟩) fun _ _ r=>st.reps r
def agL (xs:List AV) (S:Sto):Res AV:=match aa8 xs with
 | some vs=>if vs.length≤16777216 then .ok (.ref S.length) (S++[.lst vs]) else .fail
 | none=>.fail
def mNew (ms:MA):ME:=fun ρ S=>(ms ρ S).bind agL
theorem afn (h:PAp K cl E X es ms):PEp K cl E X (.List es pos) (mNew ms):=by
 intro hK
 subst hK
 refine (ak9 (h rfl)).imp fun σ H Q ⟨p,S,ρ,s,e,h⟩=>?_
 refine aax s e h fun q H1 as xs S1 st s1 e1 r1 h1=>?_
 unfold agL at h1
 split at h1
 ·rename_i vs hv
  split at h1
  ·rename_i hl
   have r:=adM hv r1
   rw [r.length,← abz] at hl
   refine ⟨hl,fun t ht=>?_⟩
   obtain ⟨st2,sm2⟩:=s1.push ht hl r
   exact h1 _ _ (.ref t) st2 sm2 ⟨t,by show (q.f++[t])[S1.length]?=some t; rw [← s1.len,List.getElem?_append_right (Nat.le_refl _),Nat.sub_self]; rfl,rfl⟩
  ·exact h1.elim
 ·exact h1.elim
def agT (k:Nat) (ys:List AV) (S:Sto):Res AV:=match ys with
 | [.pv y]=>match S[k]? with
  | some (.lst xs)=>if xs.length < 16777216 then .ok (.pv .non) (S.set k (.lst (xs++[y]))) else .fail
  | _=>.fail
 | _=>.fail
def acM {α:Type} (k:AV) (f:Nat→Res α):Res α:=match k with
 | .ref k=>f k
 | _=>.fail
def mApp (m:ME) (ms:MA):ME:=fun ρ S=>(m ρ S).bind fun k S1=>acM k fun k=>(ms ρ S1).bind fun ys S2=>agT k ys S2
theorem ajF {k:Nat} {x:V} (s:Sim K p S H) (r:RepA K p H (.ref k) x):tyV K "list" x H:=by
 obtain ⟨a,e,rfl⟩:=r
 have hk:k < S.length:=by
  have:=(List.getElem?_eq_some_iff.mp e).1
  rw [← s.len]
  exact this
 have z:=s.obj k a S[k] e (List.getElem?_eq_getElem hk)
 cases y:S[k] with
 | lst xs =>
  rw [y] at z
  obtain ⟨vs,h,_⟩:=z
  exact .inl ⟨rfl,vs,SqL.of h⟩
 | lol xss =>
  rw [y] at z
  obtain ⟨bs,h,_⟩:=z
  exact .inl ⟨rfl,_,SqL.of h⟩
theorem acS {apos cpos:Pos} (ho:PEp K cl E X a m) (ha:PAp K cl E X [e] ms) (hbase:attributeBase a "append" X.env (eval a X.env)=eval a X.env:=by rfl)
  (hfew:((backTo cpos (starEach [e] X.env)).all (fun x=>!x.1) && (backToKw cpos (keywordEach [] X.env)).all (fun x=>x.1.isSome) && decide (([e]:List Expr).length+([]:List Keyword).length+(if ([]:List Keyword).isEmpty then 0 else 1) < 30))=true:=by rfl)
  (hline:(apos.endLine == cpos.line)=true:=by rfl) (hs:starEach [e] X.env=[(false,eval e X.env)]:=by rfl):PEp K cl E X (.Call (.Attribute a "append" apos) [e] [] cpos) (mApp m ms):=by
 intro hK
 subst hK
 refine PE.imp (ant PySem.F.plainAttrs_list PySem.F.slot_list_append PySem.F.type_list_append aet (ho rfl) (ha rfl) hbase hfew hline hs rfl) fun σ H Q ⟨p,S,ρ,s,ev,h⟩=>?_
 refine aax s ev h fun q H1 k x S1 st s1 e1 r1 h1=>?_
 cases k with
 | pv v=>exact h1.elim
 | ref k =>
  refine ⟨ajF s1 r1,aax s1 e1 h1 fun q2 H2 ys xs S2 st2 s2 e2 r2 h2=>?_⟩
  obtain ⟨a,ea,rfl⟩:=st2.repA r1
  unfold agT at h2
  split at h2
  ·rename_i y
   cases r2 with
   | cons r3 r4 =>
    cases r4
    rename_i x
    cases z:S2[k]? with
    | none=>rw [z] at h2; exact h2.elim
    | some o =>
     cases o with
     | lol xss=>simp only [z] at h2; exact h2.elim
     | lst zs =>
      simp only [z] at h2
      obtain ⟨vs,h3,l3,r4⟩:=s2.obj k a _ ea z
      split at h2
      ·rename_i hl
       rw [r4.length] at hl
       have hz:=abz
       refine ⟨a,vs,x,rfl,rfl,h3,by omega,?_⟩
       obtain ⟨st3,sm3⟩:=s2.write ea (List.getElem?_eq_some_iff.mp z).1 (ps:=zs++[y]) (vs:=vs++[x]) (by rw [List.length_append,List.length_singleton]; omega) (r4.append (.cons r3 .nil))
       exact h2 _ _ .non st3 sm3 (by show Rep X.K q2.c (upd H2 a (.lst (vs++[x]))) .non .non; unfold Rep; rfl)
      ·exact h2.elim
  ·exact h2.elim
def aiZ (k:Nat) (ys:List AV) (S:Sto):Res AV:=match ys with
 | [.pv (.int i)]=>if -9223372036854775808≤i∧i < 9223372036854775808 then (match S[k]? with
  | some (.lst xs)=>match seqIndex? i xs.length with
   | some j=>match xs[j]? with
    | some v=>.ok (.pv v) (S.set k (.lst (xs.eraseIdx j)))
    | none=>.fail
   | none=>.fail
  | _=>.fail) else .fail
 | _=>.fail
def mPop (m:ME) (ms:MA):ME:=fun ρ S=>(m ρ S).bind fun k S1=>acM k fun k=>(ms ρ S1).bind fun ys S2=>aiZ k ys S2
theorem amu {apos cpos:Pos} (ho:PEp K cl E X a m) (ha:PAp K cl E X [e] ms) (hbase:attributeBase a "pop" X.env (eval a X.env)=eval a X.env:=by rfl)
  (hfew:((backTo cpos (starEach [e] X.env)).all (fun x=>!x.1) && (backToKw cpos (keywordEach [] X.env)).all (fun x=>x.1.isSome) && decide (([e]:List Expr).length+([]:List Keyword).length+(if ([]:List Keyword).isEmpty then 0 else 1) < 30))=true:=by rfl)
  (hline:(apos.endLine == cpos.line)=true:=by rfl) (hs:starEach [e] X.env=[(false,eval e X.env)]:=by rfl):PEp K cl E X (.Call (.Attribute a "pop" apos) [e] [] cpos) (mPop m ms):=by
 intro hK
 subst hK
 refine PE.imp (ant PySem.F.plainAttrs_list PySem.F.slot_list_pop PySem.F.type_list_pop ajY (ho rfl) (ha rfl) hbase hfew hline hs rfl) fun σ H Q ⟨p,S,ρ,s,ev,h⟩=>?_
 refine aax s ev h fun q H1 k x S1 st s1 e1 r1 h1=>?_
 cases k with
 | pv v=>exact h1.elim
 | ref k =>
  refine ⟨ajF s1 r1,aax s1 e1 h1 fun q2 H2 ys xs S2 st2 s2 e2 r2 h2=>?_⟩
  obtain ⟨a,ea,rfl⟩:=st2.repA r1
  unfold aiZ at h2
  split at h2
  ·rename_i i
   cases r2 with
   | cons r3 r4 =>
    cases r4
    rename_i x
    have ex:x=.int i:=(show RepR X.K q2 H2 (.int i) x from .inl r3).int
    subst ex
    split at h2
    ·rename_i hi
     cases z:S2[k]? with
     | none=>rw [z] at h2; exact h2.elim
     | some o =>
      cases o with
      | lol xss=>simp only [z] at h2; exact h2.elim
      | lst zs =>
       simp only [z] at h2
       obtain ⟨vs,h3,l3,r4⟩:=s2.obj k a _ ea z
       cases y:seqIndex? i zs.length with
       | none=>simp only [y] at h2; exact h2.elim
       | some j =>
        simp only [y] at h2
        cases yv:zs[j]? with
        | none=>simp only [yv] at h2; exact h2.elim
        | some v =>
         simp only [yv] at h2
         obtain ⟨u,eu,ru⟩:=r4.get yv
         refine ⟨a,vs,i,j,u,rfl,rfl,h3,hi.1,hi.2,by rw [← r4.length]; exact y,eu,?_⟩
         obtain ⟨st3,sm3⟩:=s2.write ea (List.getElem?_eq_some_iff.mp z).1 (ps:=zs.eraseIdx j) (vs:=vs.eraseIdx j) (Nat.le_trans (aeh vs j) l3) (r4.eraseIdx j)
         exact h2 _ _ u st3 sm3 (st3.rep ru)
    ·exact h2.elim
  ·exact h2.elim
def aef (k:Nat) (i:AV) (v:AV) (S:Sto):Res Unit:=match i,v with
 | .pv (.int i),.pv v=>match S[k]? with
  | some (.lst xs)=>match ixN xs.length i with
   | some j=>.ok () (S.set k (.lst (xs.set j v)))
   | none=>.fail
  | _=>.fail
 | _,_=>.fail
def abR (mo mi mv:ME):MS:=fun ρ S=>SRes.of (mv ρ S) fun v S1=>SRes.of (mo ρ S1) fun k S2=>SRes.of (mi ρ S2) fun i S3=>SRes.of (acM k fun k=>aef k i v S3) fun _ S4=>.nx ρ S4
theorem adx {o i v:Expr} {mo mi mv:ME} {tpos:Pos} (hv:PEp K cl E X v mv) (ho:PEp K cl E X o mo) (hi:PEp K cl E X i mi)
  (ha:∀ v,assign (.Subscript o i tpos) X.env v=(do
   let ov ← holding [v] (eval o X.env)
   let iv ← holding [v,ov] (eval i X.env)
   standAt tpos
   holding [v,ov,iv] (setItem ov iv v)
   release [v,ov,iv] []):=by intro _; rfl)
  (hs:swapsWithSole [.Subscript o i tpos] v pos.line X.env=pure false:=by rfl) (hw:swappedStores [.Subscript o i tpos] v X.env=pure none:=by rfl)
  (h1:(assignEach [.Subscript o i tpos] X.env).map (·.2)=[assign (.Subscript o i tpos) X.env]:=by rfl):PSp K cl E X (.Assign [.Subscript o i tpos] v pos) (abR mo mi mv):=by
 intro hK
 subst hK
 refine PS.imp (amC (hv rfl) (anU (ho rfl) (hi rfl) akn ha) hs hw h1) fun D σ H ⟨p,S,ρ,s,ev,h⟩=>?_
 refine acs s ev h fun q H1 v x S1 st s1 e1 r1 h1=>?_
 refine acs s1 e1 h1 fun q2 H2 k y S2 st2 s2 e2 r2 h2=>?_
 refine acs s2 e2 h2 fun q3 H3 i z S3 st3 s3 e3 r3 h3=>?_
 cases k with
 | pv _=>exact h3.elim
 | ref k =>
  obtain ⟨a,ea,rfl⟩:=st3.repA r2
  have rv:=st3.repA (st2.repA r1)
  have h3:abS X.K cl q3 H3 (SRes.of (aef k i v S3) fun _ S4=>.nx ρ S4) D E:=h3
  unfold aef at h3
  split at h3
  ·rename_i ii vv _
   have ez:z=.int ii:=(show RepR X.K q3 H3 (.int ii) z from .inl r3).int
   subst ez
   cases w:S3[k]? with
   | none=>rw [w] at h3; exact h3.elim
   | some o =>
    cases o with
    | lol xss=>simp only [w] at h3; exact h3.elim
    | lst zs =>
     simp only [w] at h3
     obtain ⟨vs,hh,ll,rr⟩:=s3.obj k a _ ea w
     cases y:ixN zs.length ii with
     | none=>simp only [y] at h3; exact h3.elim
     | some j =>
      simp only [y] at h3
      refine ⟨a,vs,ii,j,rfl,rfl,hh,by rw [← rr.length]; exact y,?_⟩
      obtain ⟨st4,sm4⟩:=s3.write ea (List.getElem?_eq_some_iff.mp w).1 (ps:=zs.set j vv) (vs:=vs.set j x) (by rw [List.length_set]; exact ll) (Reps.set rv j rr)
      exact h3 _ _ _ st4 sm4 (st4.repE e3)
  ·exact h3.elim
def zipP:List PV→List PV→List PV
 | x :: xs,y :: ys=>.tup [x,y] :: zipP xs ys
 | _,_=>[]
theorem afH:∀ (xs ys:List PV),(zipP xs ys).length=min xs.length ys.length
 | [],ys=>by cases ys <;> simp [zipP]
 | x :: xs,[]=>by simp [zipP]
 | x :: xs,y :: ys=>by
  unfold zipP
  rw [List.length_cons,afH xs ys,List.length_cons,List.length_cons]
  omega
theorem ahp:∀ {xs ys:List PV} {i:Nat} {v:PV},(zipP xs ys)[i]?=some v→∃ x y,xs[i]?=some x∧ys[i]?=some y∧v=.tup [x,y]
 | [],ys,i,v,e=>by cases ys <;> simp [zipP] at e
 | x :: xs,[],i,v,e=>by simp [zipP] at e
 | x :: xs,y :: ys,0,v,e=>by
  unfold zipP at e
  simp at e
  exact ⟨x,y,rfl,rfl,e.symm⟩
 | x :: xs,y :: ys,i+1,v,e=>by
  unfold zipP at e
  obtain ⟨a,b,h1,h2,h3⟩:=ahp (xs:=xs) (ys:=ys) (i:=i) (v:=v) (by simpa using e)
  exact ⟨a,b,by simpa using h1,by simpa using h2,h3⟩
def aib:List AV→Sto→Res (List PV × Gd)
 | [a,b],S=>match abg a S with
  | .ok xs _=>match abg b S with
   | .ok ys _=>.ok (zipP xs.1 ys.1,xs.2++ys.2) S
   | _=>.fail
  | _=>.fail
 | _,_=>.fail
def mZip (ms:MA):MI:=fun ρ S=>(ms ρ S).bind aib
theorem ahn {a:AV} {x:V} {xs:List PV × Gd} {S':Sto} (s:Sim K p S H) (r:RepA K p H a x) (e:abg a S=.ok xs S'):∃ f ad vs,x=.ref ad∧SqF f K H ad vs∧xs.1.length≤sizeLine∧∀ q H1 S1,Step p H q H1→Sim K q S1 H1→gOk xs.2 S1→∃ vs,SqF f K H1 ad vs∧Reps K q.c H1 xs.1 vs:=by
 cases a with
 | ref j =>
  obtain ⟨a,e1,rfl⟩:=r
  unfold abg at e
  dsimp only at e
  cases z:S[j]? with
  | none=>rw [z] at e; cases e
  | some o =>
   cases o with
   | lol xss=>rw [z] at e; cases e
   | lst ys =>
    rw [z] at e
    cases e
    obtain ⟨vs,h1,l1,r1⟩:=s.obj j a _ e1 z
    refine ⟨false,a,vs,rfl,SqL.of h1,by rw [r1.length]; exact l1,fun q H1 S1 st sm g=>?_⟩
    obtain ⟨ws,h2,l2,r2⟩:=sm.obj j a _ (st.at_ e1) (g (j,ys) List.mem_cons_self)
    exact ⟨ws,SqL.of h2,r2⟩
 | pv v =>
  cases v with
  | lst ys =>
   cases e
   have r:Rep K p.c H (.lst ys) x:=r
   unfold Rep at r
   obtain ⟨a,vs,rfl,l,z,r⟩:=r
   exact ⟨false,a,vs,rfl,l.sq,by rw [r.length]; exact z,fun q H1 S1 st sm g=>⟨vs,(st.lat l).sq,st.reps r⟩⟩
  | tup ys =>
   cases e
   have r:Rep K p.c H (.tup ys) x:=r
   unfold Rep at r
   obtain ⟨a,vs,rfl,l,z,r⟩:=r
   exact ⟨true,a,vs,rfl,l,by rw [r.length]; exact z,fun q H1 S1 st sm g=>⟨vs,st.tup l,st.reps r⟩⟩
  | _=>cases e
theorem afG {elts:List Expr} {x1:Nat} {tp p:Pos} (hg:Gl X "zip") (hm:X.mg "zip"=none) (hl:PAp K cl E X [a,b] ms) (hs:starEach [a,b] X.env=[(false,eval a X.env),(false,eval b X.env)]:=by rfl) (hs2:starEach [b] X.env=[(false,eval b X.env)]:=by rfl) :
  PIp K cl E X (.Tuple elts x1 tp) (.Call (.Name "zip" p) [a,b] [] pos) (mZip ms):=by
 intro hK
 subst hK
 refine PI.imp (amV hg hm (hl rfl) hs hs2) fun σ H R ⟨p,S,ρ,s,ev,h⟩=>?_
 refine aax s ev h fun q H' as xs S' stp sm ev r k=>?_
 unfold aib at k
 split at k
 ·rename_i u v
  cases r with
  | cons r1 r2 =>
   cases r2 with
   | cons r2 r3 =>
    cases r3
    split at k
    ·rename_i xs1 S1 hx
     split at k
     ·rename_i ys1 S2 hy
      obtain ⟨f1,a1,vs1,rfl,q1,z1,st1⟩:=ahn sm r1 hx
      obtain ⟨f2,a2,vs2,rfl,q2,z2,st2⟩:=ahn sm r2 hy
      refine ⟨f1,a1,f2,a2,vs1,vs2,rfl,q1,q2,aaV.ret (R:=ItOk X.K) k sm ?_⟩
      refine ⟨by rw [afH]; omega,fun q3 H3 S3 st3 sm3 g3=>?_⟩
      obtain ⟨ws1,w1,rr1⟩:=st1 q3 H3 S3 st3 sm3 fun g hg=>g3 g (List.mem_append_left _ hg)
      obtain ⟨ws2,w2,rr2⟩:=st2 q3 H3 S3 st3 sm3 fun g hg=>g3 g (List.mem_append_right _ hg)
      refine ⟨fun i v e=>?_,?_⟩
      ·obtain ⟨x,y,ex,ey,rfl⟩:=ahp e
       obtain ⟨x',ex',rx⟩:=rr1.get ex
       obtain ⟨y',ey',ry⟩:=rr2.get ey
       refine ⟨⟨ws1,ws2,x',y',w1,w2,ex',ey'⟩,fun z H4 hz=>?_⟩
       obtain ⟨t,x2,y2,ht,rfl,rfl,g1,g2⟩:=hz
       have e1:=(g1 ws1 w1).symm.trans ex'
       have e2:=(g2 ws2 w2).symm.trans ey'
       cases e1
       cases e2
       refine ⟨abE ht,aeM sm3 (.cons rx (.cons ry .nil)) (by show 2≤sizeLine; decide) ht⟩
      ·refine ⟨ws1,ws2,w1,w2,?_⟩
       show (zipP xs1.1 ys1.1).length=_∨_
       rw [afH,rr1.length,rr2.length]
       omega
     ·exact k.elim
    ·exact k.elim
 ·exact k.elim
def adk:Nat→List PV→List PV
 | _,[]=>[]
 | n,x :: xs=>.tup [.int n,x] :: adk (n+1) xs
theorem aed:∀ (n:Nat) (xs:List PV),(adk n xs).length=xs.length
 | _,[]=>rfl
 | n,x :: xs=>by
  unfold adk
  rw [List.length_cons,aed (n+1) xs,List.length_cons]
theorem agm:∀ {n:Nat} {xs:List PV} {i:Nat} {v:PV},(adk n xs)[i]?=some v→∃ x,xs[i]?=some x∧v=.tup [.int ((n+i:Nat):Int),x]
 | n,[],i,v,e=>by simp [adk] at e
 | n,x :: xs,0,v,e=>by
  unfold adk at e
  simp at e
  exact ⟨x,rfl,e.symm⟩
 | n,x :: xs,i+1,v,e=>by
  unfold adk at e
  obtain ⟨y,h1,h2⟩:=agm (n:=n+1) (xs:=xs) (i:=i) (v:=v) (by simpa using e)
  refine ⟨y,by simpa using h1,?_⟩
  rw [h2,show n+1+i=n+(i+1) by omega]
def ain:List AV→Sto→Res (List PV × Gd)
 | [.pv (.lst xs)],S=>.ok (adk 0 xs,[]) S
 | [.ref k],S=>match abg (.ref k) S with
  | .ok xs _=>.ok (adk 0 xs.1,xs.2) S
  | _=>.fail
 | _,_=>.fail
def ald (ms:MA):MI:=fun ρ S=>(ms ρ S).bind ain
theorem akW {xs:List PV} {G:Gd} {a:Addr} (z:xs.length≤sizeLine) (st1:∀ q H1 S1,Step p H q H1→Sim K q S1 H1→gOk G S1→∃ vs,SqL K H1 a vs∧Reps K q.c H1 xs vs):ItOk K p H (adk 0 xs,G) (Ite K a):=by
 refine ⟨by rw [aed]; exact z,fun q3 H3 S3 st3 sm3 g3=>?_⟩
 obtain ⟨ws1,w1,rr1⟩:=st1 q3 H3 S3 st3 sm3 g3
 refine ⟨fun i v e=>?_,?_⟩
 ·obtain ⟨x,ex,rfl⟩:=agm e
  obtain ⟨x',ex',rx⟩:=rr1.get ex
  refine ⟨⟨ws1,x',w1,ex'⟩,fun z H4 hz=>?_⟩
  obtain ⟨t,y2,ht,rfl,rfl,g1⟩:=hz
  have e1:=(g1 ws1 w1).symm.trans ex'
  cases e1
  refine ⟨abE ht,aeM sm3 (.cons ?_ (.cons rx .nil)) (by show 2≤sizeLine; decide) ht⟩
  rw [Nat.zero_add]
  exact abV (v:=.int _) rfl
 ·refine ⟨ws1,w1,?_⟩
  show _≤(adk 0 xs).length
  rw [aed,rr1.length]
  exact Nat.le_refl _
theorem aku {elts:List Expr} {x1:Nat} {tp p:Pos} (hg:Gl X "enumerate") (hm:X.mg "enumerate"=none) (hl:PAp K cl E X [l] ms) (hs:starEach [l] X.env=[(false,eval l X.env)]:=by rfl) :
  PIp K cl E X (.Tuple elts x1 tp) (.Call (.Name "enumerate" p) [l] [] pos) (ald ms):=by
 intro hK
 subst hK
 refine PI.imp (alQ hg hm (hl rfl) hs) fun σ H R ⟨p,S,ρ,s,ev,h⟩=>?_
 refine aax s ev h fun q H' as xs S' stp sm ev r k=>?_
 unfold ain at k
 split at k
 ·rename_i ys
  cases r with
  | cons r1 r2 =>
   cases r2
   rename_i x
   have r1:Rep X.K q.c H' (.lst ys) x:=r1
   unfold Rep at r1
   obtain ⟨a,vs,rfl,l,z,r⟩:=r1
   exact ⟨a,rfl,⟨vs,l.sq⟩,aaV.ret (R:=ItOk X.K) k sm (akW (by rw [r.length]; exact z) fun q H1 S1 st sm g=>⟨vs,(st.lat l).sq,st.reps r⟩)⟩
 ·rename_i j
  cases r with
  | cons r1 r2 =>
   cases r2
   split at k
   ·rename_i xs1 S1 hx
    obtain ⟨a,e1,rfl⟩:=r1
    cases z:S'[j]? with
    | none=>unfold abg at hx; simp only [z] at hx; cases hx
    | some o =>
     cases o with
     | lol xss=>unfold abg at hx; simp only [z] at hx; cases hx
     | lst ys =>
      unfold abg at hx
      simp only [z] at hx
      cases hx
      obtain ⟨vs,h1,l1,r1⟩:=sm.obj j a _ e1 z
      refine ⟨a,rfl,⟨vs,SqL.of h1⟩,aaV.ret (R:=ItOk X.K) k sm (akW (by rw [r1.length]; exact l1) fun q H1 S1 st sm g=>?_)⟩
      obtain ⟨ws,h2,l2,r2⟩:=sm.obj j a _ (st.at_ e1) (g (j,ys) List.mem_cons_self)
      exact ⟨ws,SqL.of h2,r2⟩
   ·exact k.elim
 ·exact k.elim
end
end L2.Pp
namespace L2.Pp
open PySem PySem.Spec PyProof.Rows Bn
theorem hu8 {A:Around} {k:Nat} (hr:Room k A):A.units+8 < cLine:=by
 have:=hr.units
 omega
section
variable {K:PySem.W.Frag} {cl:Str→Addr} {E:XK} {X:Cx} {a b c e l tg:Expr} {es:List Expr} {m ma mb:ME} {ms:MA} {pos:Pos} {p q:Ph} {H H':Hp} {S:Sto}
def fIsi (n:String):PV→Option PV
 | .int _=>if n="int" then some (.bl true) else if n="bool" then some (.bl false) else none
 | .tup _=>if n="tuple" then some (.bl true) else none
 | .lst _=>if n="list" then some (.bl true) else none
 | .str _=>if n="str" then some (.bl true) else none
 | .bl _=>if n="bool" then some (.bl true) else none
 | _=>none
theorem adj (K:PySem.W.Frag) (n:String):PySem.W.kitOne K (.type n) (.type n)=some true:=by
 unfold PySem.W.kitOne
 rw [if_pos (beq_self_eq_true _)]
def rIsi (K:PySem.W.Frag) (n:String):V→Hp→VK→Prop:=fun x H Q=>(∃ t b,TyOf K H x t∧PySem.W.kitOne K t (.type n)=some b∧Q (.bl b) H)∨(n="tuple"∧∃ a xs,x=.ref a∧SqT K H a xs∧Q (.bl true) H)∨(n="list"∧∃ a xs,x=.ref a∧SqL K H a xs∧Q (.bl true) H)
theorem aik (n:String):adG X (.builtin "isinstance") (fun xs H Q=>∃ x,xs=[x,.ty n]∧rIsi X.K n x H Q):=by
 intro pins s σ H xs us Q I r h
 obtain ⟨x,rfl,h⟩:=h
 obtain ⟨u,c,rfl,rx,rc⟩:=alV r
 cases (show c=Value.type n from rc)
 rcases h with ⟨t,b,ty,e,q⟩ | ⟨rfl,a,xs,rfl,t,q⟩ | ⟨rfl,a,xs,rfl,t,q⟩
 ·exact aji I rx ty e fun tk=>⟨.bl b,H,I.tok tk,rfl,q⟩
 ·cases rx
  obtain ⟨its,_,⟨o,h1,h2,_⟩,_⟩:=I.tuple t
  exact PySem.W.kia_one PySem.W.kitx_tuple I.kIn ⟨o,h1,h2⟩ (adj X.K "tuple") (fun z=>nomatch z) fun tk=>⟨.bl true,H,I.tok tk,rfl,q⟩
 ·cases rx
  obtain ⟨its,_,pl,_⟩:=I.list t
  obtain ⟨o,h1,h2,_⟩:=pl.isList
  exact PySem.W.kia_one PySem.W.kitx_list I.kIn ⟨o,h1,h2⟩ (adj X.K "list") (fun z=>nomatch z) fun tk=>⟨.bl true,H,I.tok tk,rfl,q⟩
theorem aoo (n:String):UnS K (rIsi K n) (fIsi n):=fun {p S H a c x Q} s ra e k=>by
 have fin:∀ b,c=.bl b→Q (.bl b) H:=fun b h=>by
  subst h
  exact k H _ (Same.refl H) (by unfold Rep; rfl)
 cases a with
 | int i =>
  cases ra.int
  unfold fIsi at e
  dsimp only at e
  split at e
  ·rename_i hn
   cases e
   subst hn
   exact .inl ⟨_,true,.int i,adj K _,fin _ rfl⟩
  ·split at e
   ·rename_i hn
    cases e
    subst hn
    exact .inl ⟨_,false,.int i,am0 K,fin _ rfl⟩
   ·cases e
 | bl i =>
  cases ra.bl
  unfold fIsi at e
  dsimp only at e
  split at e
  ·rename_i hn
   cases e
   subst hn
   exact .inl ⟨_,true,.bl i,adj K _,fin _ rfl⟩
  ·cases e
 | str i =>
  cases ra.str
  unfold fIsi at e
  dsimp only at e
  split at e
  ·rename_i hn
   cases e
   subst hn
   exact .inl ⟨_,true,.str i,adj K _,fin _ rfl⟩
  ·cases e
 | tup xs =>
  obtain ⟨a,vs,rfl,t,_,_⟩:=ra.tup
  unfold fIsi at e
  dsimp only at e
  split at e
  ·rename_i hn
   cases e
   exact .inr (.inl ⟨hn,a,vs,rfl,t,fin _ rfl⟩)
  ·cases e
 | lst xs =>
  obtain ⟨a,vs,rfl,t,_,_⟩:=ra.lst
  unfold fIsi at e
  dsimp only at e
  split at e
  ·rename_i hn
   cases e
   exact .inr (.inr ⟨hn,a,vs,rfl,t,fin _ rfl⟩)
  ·cases e
 | non=>cases e
theorem afW {n:String} {t:Str} {p p2:Pos} (hg:Gl X "isinstance") (hm:X.mg "isinstance"=none) (hgt:Gl X t) (hmt:X.mg t=none) (hv:bootBuiltins t=some (.type n)) (ha:PEp K cl E X a m)
  (htn:t≠"__name__":=by decide) (htd:(t == ("__debug__":Str))=false:=by decide)
  (he:starEach [a,.Name t p2] X.env=(false,eval a X.env) :: starEach [.Name t p2] X.env:=by rfl) (he2:starEach [.Name t p2] X.env=[(false,eval (.Name t p2) X.env)]:=by rfl) (hpl:(backTo pos (starEach [.Name t p2] X.env)).any (·.1)=false:=by rfl) :
  PEp K cl E X (.Call (.Name "isinstance" p) [a,.Name t p2] [] pos) (mUn (fIsi n) m):=by
 intro hK
 subst hK
 refine PE.imp (aft (aik n) hg hm PyProof.Rows.boot_isinstance (adN (ha rfl) (adN (alf hgt hmt hv (v:=.ty n) rfl htn htd) ahx he2) he) (by decide) (by decide) he hpl) fun σ H Q ⟨p,S,ρ,s,ev,h⟩=>?_
 exact aax s ev h fun q H' as x S' stp sm ev r k=>⟨x,rfl,ads (aoo n) sm r k⟩
def fIsN:PV→Option PV
 | .non=>some (.bl true)
 | _=>some (.bl false)
theorem anb {j pos'} (ha:PEp K cl E X a m):PEp K cl E X (.Compare a [.Is] [.Constant .none j pos'] pos) (mUn fIsN m):=by
 intro hK
 subst hK
 refine PE.imp (amt (anJ (ha rfl))) fun σ H Q ⟨p,S,ρ,s,ev,h⟩=>?_
 refine aax s ev h fun q H' as x S' stp sm ev r k=>?_
 refine ads (r:=fun x H Q=>Q (.bl (decide (x=.non))) H) (f:=fIsN) (fun {p S H a c x Q} s ra e k=>?_) sm r k
 have z:c=.bl (decide (x=.non)):=by
  cases a with
  | non=>cases ra.non; cases e; rfl
  | int i=>cases ra.int; cases e; rfl
  | bl i=>cases ra.bl; cases e; rfl
  | str i=>cases ra.str; cases e; rfl
  | tup xs=>obtain ⟨a,vs,rfl,_⟩:=ra.tup; cases e; rfl
  | lst xs=>obtain ⟨a,vs,rfl,_⟩:=ra.lst; cases e; rfl
 subst z
 exact k H _ (Same.refl H) (by unfold Rep; rfl)
def aj6 (K:PySem.W.Frag):Sp:=fun vs H Q _=>∃ (a:Addr) (ns:List Int),vs=[.ref a]∧SqL K H a (ns.map V.int)∧ns.length≤63∧∀ H',Q (.bl true) H'
theorem ami {f:FM} (ht:∀ ns:List Int,ns.length≤63→∃ S,f [.pv (.lst (ns.map .int))] []=.ok (.pv (.bl true)) S) {vs:List V} {H:Hp} {Q:VK} {E:XK} (h:aj6 K vs H Q E):spP0 K cl f vs H Q E:=by
 obtain ⟨a,ns,rfl,hS,hl,hQ⟩:=h
 obtain ⟨S,e⟩:=ht ns hl
 have rs:∀ (ns:List Int),Reps K (fun _=>False) H (ns.map .int) (ns.map V.int):=fun ns=>by
  induction ns with
  | nil=>exact .nil
  | cons n ns ih=>exact .cons (by unfold Rep; rfl) ih
 refine ⟨⟨[],fun _=>False,fun _=>False⟩,[],[.pv (.lst (ns.map .int))],⟨List.nodup_nil,rfl,(fun _ h=>absurd h (List.not_mem_nil)),(fun _ h=>h),(fun _ h=>h.elim),(fun k a o e=>by simp at e)⟩,.cons ?_ .nil,?_⟩
 ·show Rep K (fun _=>False) H (.lst (ns.map .int)) (.ref a)
  unfold Rep
  refine ⟨a,_,rfl,?_,?_,rs ns⟩
  ·rcases hS with (h | h) | h
   ·exact .inl ⟨h,fun z=>z⟩
   ·exact .inr (.inl h)
   ·exact .inr (.inr h)
  ·rw [List.length_map,abz]
   omega
 ·rw [e]
  intro q H' x st sm r
  have r:Rep K q.c H' (.bl true) x:=r
  unfold Rep at r
  rw [r]
  exact hQ H'
end
end L2.Pp
namespace L2.Pp
open PySem PySem.Spec PyProof.Rows Bn
section
variable {K:PySem.W.Frag} {cl:Str→Addr} {E:XK} {X:Cx} {e:Expr} {es:List Expr} {ms:MA} {p q:Ph} {H H':Hp} {S:Sto}
theorem RepE.forget {ρ:Rho} {σ:St} (h:RepE K p H ρ σ) (i:Nat) (x:Option V):RepE K p H (ρ.set i none) (σ.set i x):=by
 refine ⟨by rw [List.length_set,List.length_set,h.len],fun j u e=>?_⟩
 by_cases q:i=j
 ·subst q
  by_cases l:i < ρ.length
  ·rw [List.getElem?_set_self l] at e
   cases e
  ·rw [List.getElem?_eq_none (by rw [List.length_set]; omega)] at e
   cases e
 ·rw [List.getElem?_set_ne q] at e ⊢
  exact h.at_ j u e
theorem RepE.setB {ρ:Rho} {σ:St} (h:RepE K p H ρ σ) (i:Nat) (b:Bool):RepE K p H (ρ.set i (some (.pv (.bl b)))) (σ.set i (some (.bl b))):=h.set (v:=.pv (.bl b)) (x:=.bl b) (by show Rep K p.c H _ _; unfold Rep; rfl) i
variable {k:Nat} {f:Addr} {fd:FuncData} {ps:List Str} {g:FM} {dvs:List V} {ds:List Value} {dv:List PV} {x:Str} {pp pos pos1 pos2 pos3 pc:Pos} {c n:Str} {i nn:Nat} {b₀:Stmt} {body:List Stmt} {newId:String} {up:Rho→Rho}
end
end L2.Pp
namespace L2
open PySem PySem.Spec PyProof.Rows Bn
section
variable {X:Cx} {k:Nat} {f:Addr} {fd:FuncData} {ps:List Str} {sp:Sp} {dvs:List V} {ds:List Value} {x:Str} {p pos pos1 pos2 pos3 pc:Pos} {e:Expr} {es:List Expr} {t:TA} {c n:Str} {C:Addr} {i:Nat} {b₀:Stmt} {body:List Stmt} {newId:String}
theorem alx {jv:Nat} {xv:Str} {posv:Pos} {ts:Addr→Obj→TS} (hxe:X.xe=fun _ _=>False) (stk:X.stack=X.env :: X.outer) (hN:X.N.Nodup) (hi:X.N[i]?=some n) (hk:X.env.scope.names.lookup n=some .local)
  (hgc:Gl X c) (hmc:X.mg c=some (.ref C)) (hxC:PySem.W.excIn X.K C acr newId=true)
  (F:FnOk X.prog X.w X.K X.mg X.base (CX1 X.prog X.w) k f fd ps sp) (hr:Room k X.A) (hg:Gl X x) (hm:X.mg x=some (.ref f)) (hkp:PySem.W.keepIn X.K (.ref f)=true)
  (hb:acL X.K fd ps ds) (hd:Vals dvs ds) (ha:PA X (e :: es) t)
  (hjv:X.N[jv]?=some xv) (hxv:Loc X.env.scope xv) (hs:∀ y oe,oe.cls=.ref C→PSs (X.mk1 y [(y,oe)]) (b₀ :: body) (ts y oe))
  (hsw:swapsWith (.Call (.Name x p) (e :: es) [] pos) (some (.Name xv posv)) pos1.line X.env=pure false:=by rfl)
  (hfv:X.fn xv=true∨X.env.scope.names.lookup xv=some .local:=by first | exact .inl rfl | exact .inr rfl | assumption)
  (hfr:X.env.frame=some X.env.locals:=by rfl)
  (hdc:(c == ("__debug__":Str))=false:=by decide) (hdb:(x == ("__debug__":Str))=false:=by decide) (he:starEach (e :: es) X.env=(false,eval e X.env) :: starEach es X.env:=by rfl) (hpl:(backTo pos (starEach es X.env)).any (·.1)=false:=by rfl) :
  PS X (.Try [.Assign [.Name xv posv] (.Call (.Name x p) (e :: es) [] pos) pos1] [.ExceptHandler (some (.Name c pc)) (some n) (b₀ :: body) pos2] [] [] pos3)
   (fun D σ H=>t σ H fun vs H1=>sp (vs++dvs) H1 (fun v H2=>D.nx (σ.set jv (some v)) H2) (fun cls _ H2=>cls=.ref C∧∀ y oe,oe.cls=.ref C→ts y oe { nx:=fun σ' H'=>D.nx (σ'.set i none) H',rt:=D.rt,bk:=fun σ' H'=>D.bk (σ'.set i none) H',ct:=fun σ' H'=>D.ct (σ'.set i none) H' } (σ.set i (some (.ref y))) H2)):=by
 intro pins s σ H D I h
 refine wpAny_Try_except (wpAny_execs_cons (wpAny_Assign_Name (wpAny_mono (ajN hxe F hr hg hm hkp hb hd ha I h (fun s1 H1 e' s' I1 cx=>?_) hdb he hpl) (fun v s1 q=>?_) fun e' s1 z=>z) hsw))
 rotate_left
 ·obtain ⟨v,H1,I1,rv,q⟩:=q
  exact acH I1 hN hjv hxv rv (fun s2 I2=>wpAny_execs_nil (wpAny_execs_nil ⟨_,H1,I2,q⟩)) hfv
 obtain ⟨y,C',tt,B,H',rfl,os,bare,un,hok,fl,cov,hE⟩:=cx
 obtain ⟨hC',hts⟩:=hE
 cases hC'
 rw [stk] at fl
 have fr:∀ b∈frs X.stack,H' b=none:=fun b hb=>by
  obtain ⟨_,o,ho,hd⟩:=I1.stack.mem hb
  exact un.free b o ho (I1.stkFree b hb) (by intro z; cases z)
 have ff:X.A.frames=some (X.env :: X.outer):=by rw [I.ok.frames,stk]
 refine wpAny_looks_onW (base:=B) ff hfr fl fun h2 held up2=>?_
 refine wpAny_landsW (base:=B) held fun h3 fl3 up3=>?_
 have up:=aiP up2 up3
 have I3:=I1.flown os bare un hok cov fr fl3.1 up
 refine wpAny_handleBy_cons ?_ (by intro z; cases z)
 refine codeAny_handlers_test (aer (X:=X.mk1 y []) (I3.mk1 y [] fun p hp=>nomatch hp) hgc hmc ?_ hdc)
 obtain ⟨bm,Nn,nm,qn,bs,hdct,sn,sub,ab,col,dd,k0,k1,k2,k3,k5,mN,hC,hNs,hni,T⟩:=ajc I.ok.mod.kin hxC
 obtain ⟨oe,vs,TT,oT,tts,hoe,⟨hcls,_⟩,hdat,_⟩:=fl3.2.2.2
 refine wpAny_excMatches_sub_self (I3.bk _ _ hC) hoe hcls (T.hasType (by decide)) ?_
 refine codeAny_handlers_suite_as (lands_againW (base:=B) fl3 fun h4 fl4 up4=>?_)
 have I4:=I1.flown os bare un hok cov fr fl4.1 (aiP up up4)
 obtain ⟨oe,vs,TT,oT,tts,hoe,⟨hcls,_⟩,hdat,_⟩:=fl4.2.2.2
 have I5:Inv (X.mk1 y [(y,oe)]) pins σ H' _:=I4.mk1 y [(y,oe)] fun p hp=>by
  rw [List.mem_singleton] at hp
  subst hp
  have nfr:y ∉ frs X.stack:=fun z=>by
   obtain ⟨_,o,ho,hd⟩:=I4.stack.mem z
   have hoe':h4.get? y=some oe:=hoe
   have ho':h4.get? y=some o:=ho
   rw [hoe'] at ho'
   cases ho'
   exact hd vs hdat
  refine ⟨hoe,?_,?_,?_,fun v z=>?_⟩
  ·cases hq:H' y with
   | none=>rfl
   | some u =>
    obtain ⟨o2,g⟩:=(hok y u hq).has
    have:=cov y o2 g (.inl ⟨u,hq⟩)
    rw [fl4.2.1] at this
    cases this
  ·intro z
   refine nfr ?_
   rw [stk]
   exact List.mem_filterMap.mpr ⟨X.env,List.mem_cons_self,by rw [hfr]; exact congrArg some z.symm⟩
  ·intro z
   refine nfr ?_
   rw [stk]
   obtain ⟨env,hm,hq⟩:=List.mem_filterMap.mp z
   exact List.mem_filterMap.mpr ⟨env,List.mem_cons_of_mem _ hm,hq⟩
  ·have:oe.data=.cell v:=z
   rw [hdat] at this
   cases this
 refine acH (X:=X.mk1 y [(y,oe)]) (v:=.ref y) I5 hN hi (.inl hk) rfl (fun s6 I6=>?_) (.inr hk)
 refine wpAny_mono (hs y oe hcls pins s6 _ H' _ I6 (hts y oe hcls)) (fun fl s7 q7=>?_) fun _ _ z=>False.elim z
 cases fl with
 | next=>obtain ⟨σ',H7,I7,q⟩:=q7; exact acJ (I7.unmk1 I.ok) hN hi hk fun s8 I8=>⟨_,_,I8,q⟩
 | brk=>obtain ⟨σ',H7,I7,q⟩:=q7; exact acJ (I7.unmk1 I.ok) hN hi hk fun s8 I8=>⟨_,_,I8,q⟩
 | cont=>obtain ⟨σ',H7,I7,q⟩:=q7; exact acJ (I7.unmk1 I.ok) hN hi hk fun s8 I8=>⟨_,_,I8,q⟩
 | ret u=>obtain ⟨v,σ',H7,I7,r,q⟩:=q7; exact acJ (I7.unmk1 I.ok) hN hi hk fun s8 I8=>⟨v,_,_,I8,r,q⟩
end
end L2
namespace L2.Pp
open PySem PySem.Spec PyProof.Rows Bn
section
variable {K:PySem.W.Frag} {cl:Str→Addr} {E:XK} {X:Cx} {e:Expr} {es:List Expr} {ms:MA} {p q:Ph} {H H':Hp} {S:Sto}
def afQ (f:FM) (ds:List PV) (ms:MA) (c:Str) (nn j:Nat) (up:Rho→Rho):MS:=fun ρ S=>if ρ.length=nn then (match ms ρ S with
 | .ok xs S1=>match f (xs++ds.map .pv) S1 with
  | .ok v S2=>.nx (ρ.set j (some v)) S2
  | .exc n S2=>if n=c then .nx (up ρ) S2 else .fail
  | .fail=>.fail
 | _=>.fail) else .fail
variable {k:Nat} {f:Addr} {fd:FuncData} {ps:List Str} {g:FM} {dvs:List V} {ds:List Value} {dv:List PV} {x:Str} {pp pos pos1 pos2 pos3 pc:Pos} {c n:Str} {i nn:Nat} {b₀:Stmt} {body:List Stmt} {newId:String} {up:Rho→Rho}
theorem akb {jv:Nat} {xv:Str} {posv:Pos} {ts:Addr→Obj→TS} (hxe:X.xe=fun _ _=>False) (stk:X.stack=X.env :: X.outer) (hN:X.N.Nodup) (hi:X.N[i]?=some n) (hk:X.env.scope.names.lookup n=some .local)
  (hgc:Gl X c) (hmc:X.mg c=some (.ref (cl c))) (hxC:PySem.W.excIn X.K (cl c) acr newId=true)
  (F:FnOk X.prog X.w X.K X.mg X.base (CX1 X.prog X.w) k f fd ps (spP K cl g)) (hr:Room k X.A) (hg:Gl X x) (hm:X.mg x=some (.ref f)) (hkp:PySem.W.keepIn X.K (.ref f)=true)
  (hb:acL X.K fd ps ds) (hd:Vals dvs ds) (hv:Dv dv dvs) (ha:PAp K cl E0 X (e :: es) ms)
  (hjv:X.N[jv]?=some xv) (hxv:Loc X.env.scope xv) (hs:∀ y oe,oe.cls=.ref (cl c)→PSs (X.mk1 y [(y,oe)]) (b₀ :: body) (ts y oe))
  (hts:∀ (y:Addr) (oe:Obj) (D:Ends) (σ:St) (H:Hp) (p:Ph) (ρ:Rho),σ.length=nn→RepE K p H ρ σ→(∀ σ',RepE K p H (up ρ) σ'→D.nx σ' H) →
   ts y oe { nx:=fun σ' H'=>D.nx (σ'.set i none) H',rt:=D.rt,bk:=fun σ' H'=>D.bk (σ'.set i none) H',ct:=fun σ' H'=>D.ct (σ'.set i none) H' } (σ.set i (some (.ref y))) H)
  (hsw:swapsWith (.Call (.Name x pp) (e :: es) [] pos) (some (.Name xv posv)) pos1.line X.env=pure false:=by rfl)
  (hfv:X.fn xv=true∨X.env.scope.names.lookup xv=some .local:=by first | exact .inl rfl | exact .inr rfl | assumption)
  (hfr:X.env.frame=some X.env.locals:=by rfl)
  (hdc:(c == ("__debug__":Str))=false:=by decide) (hdb:(x == ("__debug__":Str))=false:=by decide) (he:starEach (e :: es) X.env=(false,eval e X.env) :: starEach es X.env:=by rfl) (hpl:(backTo pos (starEach es X.env)).any (·.1)=false:=by rfl) :
  PSp K cl E0 X (.Try [.Assign [.Name xv posv] (.Call (.Name x pp) (e :: es) [] pos) pos1] [.ExceptHandler (some (.Name c pc)) (some n) (b₀ :: body) pos2] [] [] pos3) (afQ g dv ms c nn jv up):=by
 intro hK
 refine PS.imp (alx hxe stk hN hi hk hgc hmc hxC F hr hg hm hkp hb hd (ha hK) hjv hxv hs hsw hfv hfr hdc hdb he hpl) fun D σ H ⟨p,S,ρ,s,ev,h⟩=>?_
 unfold afQ at h
 split at h
 ·rename_i hl
  refine ⟨p,S,ρ,s,ev,?_⟩
  cases z:ms ρ S with
  | ok xs S1 =>
   simp only [z] at h
   intro q H1 vs st sm r
   refine ⟨q,S1,xs++dv.map .pv,sm,abZ r (hv K q H1),?_⟩
   cases w:g (xs++dv.map .pv) S1 with
   | ok v S2 =>
    simp only [w] at h
    intro q2 H2 y st2 sm2 r2
    exact h q2 H2 _ (st.trans st2) sm2 (((st.trans st2).repE ev).set r2 jv)
   | exc m S2 =>
    simp only [w] at h
    split at h
    ·rename_i hm
     subst hm
     intro q2 H2 st2 sm2
     refine ⟨rfl,fun y oe hc=>hts y oe D σ H2 q2 ρ (by rw [← ev.len]; exact hl) ((st.trans st2).repE ev) fun σ' e'=>h q2 H2 σ' (st.trans st2) sm2 e'⟩
    ·exact h.elim
   | fail=>simp only [w] at h; exact h.elim
  | exc m S1=>simp only [z] at h; exact h.elim
  | fail=>simp only [z] at h; exact h.elim
 ·exact h.elim
end
end L2.Pp
namespace L2.Pp
open PySem
section
variable {prog:Program} {w:World} {A:Around} {E:Value→Shared→Prop} {s:Shared}
end
end L2.Pp
namespace L2
open PySem PyProof.Rows
end L2
namespace L2.Pp
open PySem
end L2.Pp
namespace L2
open PySem PySem.Spec PyProof.Rows Bn
section
variable {X:Cx}
theorem aek (is:List Int):∀ j,j≤is.length→preSum (fun i=>is.getD i 0) j=(is.take j).sum
 | 0,_=>by simp [preSum]
 | j+1,h=>by
  have hj:j < is.length:=h
  rw [preSum,aek is j (by omega),List.take_add_one,List.getElem?_eq_getElem hj,Option.toList_some,List.sum_append,List.sum_singleton]
  simp only [List.getD,List.getElem?_eq_getElem hj,Option.getD_some]
theorem afT (hc:X.calm=true):adG X (.builtin "sum") (fun xs H Q=>∃ (a:Addr) (is:List Int),xs=[.ref a]∧SqL X.K H a (is.map V.int)∧Q (.int is.sum) H):=by
 intro pins s σ H xs us Q I r h
 obtain ⟨a,is,rfl,hq,q⟩:=h
 obtain ⟨u,rfl,ru⟩:=agc r
 cases ru
 obtain ⟨its,rv,pl,hz⟩:=I.list hq
 have hl:is.length=its.length:=by
  have:=rv.length
  rwa [List.length_map] at this
 refine call_sum_walkG (wpAny_pyIter_list pl.isList ?_)
 have ha:a < s.heap.objs.size:=by
  obtain ⟨o,ho,_⟩:=pl.isList
  exact Heap.lt_size ho
 refine ⟨_,_,_,_,_,_,fun i=>is.getD i 0,rfl,Walks.list (prog:=X.prog) (w:=X.w) (A:=X.A.in1) (show X.A.in1.handled=none from I.ok.hd hc) s.heap.objs.size a (Nat.ne_of_lt ha) its.toArray,⟨⟨_,Heap.get?_push_size _ rfl,rfl,rfl⟩,Heap.IsList.at pl.isList fun o e=>Heap.get?_push_of_some _ e⟩,fun b hb=>?_,fun i v hv=>?_,fun h' tk t' kp=>?_⟩
 ·have hb':b=s.heap.objs.size∨b=a:=by simpa using hb
  rw [Heap.size_push]
  rcases hb' with e | e <;> rw [e]
  ·exact Nat.lt_succ_self _
  ·exact Nat.lt_succ_of_lt ha
 ·have hv':its[i]?=some v:=by simpa using hv
  have hi:i < is.length:=by
   have:=(List.getElem?_eq_some_iff.mp hv').1
   omega
  obtain ⟨u,hu,ru⟩:=rv.get (i:=i) (x:=.int is[i]) (by rw [List.getElem?_map,List.getElem?_eq_getElem hi]; rfl)
  rw [hv'] at hu
  cases hu
  obtain ⟨t,ht⟩:=(show ∃ t,v=Value.int is[i] t from ru)
  exact ⟨t,by rw [ht]; simp [List.getD,hi]⟩
 ·have e:preSum (fun i=>is.getD i 0) its.toArray.size=is.sum:=by
   rw [List.size_toArray,← hl,aek is _ (Nat.le_refl _),List.take_length]
  show EP X pins σ Q (.int (preSum (fun i=>is.getD i 0) its.toArray.size) t') _
  rw [e]
  have I1:Inv X pins σ H { s with heap:=s.heap.push { cls:=.type "list_iterator",data:=.fields #[.ref a,.int 0 0] },toks:=s.toks }:=I.kept fun b o z=>Heap.get?_push_of_some _ z
  have fp:FpOk X pins H s.heap.objs.size:=I.fpOk (Nat.le_refl _) (I.hok.fresh (Nat.le_refl _))
  obtain ⟨f0,f1,f2,f3,f4,f5⟩:=fp
  exact ⟨.int is.sum,H,I1.turned (fun b o hb z=>kp b o (by simpa using hb) z) f0 f1 f3 f4 f5,⟨t',rfl⟩,q⟩
end
end L2
namespace L2.Pp
open PySem PySem.Spec PyProof.Rows Bn
section
variable {K:PySem.W.Frag} {cl:Str→Addr} {E:XK} {X:Cx}
def adi:List PV→Option (List Int)
 | []=>some []
 | .int b :: r=>match adi r with
  | some bs=>some (b :: bs)
  | none=>none
 | _ :: _=>none
theorem aew {c:Addr→Prop} {H:Hp}:∀ {xs:List PV} {bs:List Int} {vs:List V},adi xs=some bs→Reps K c H xs vs→vs=bs.map V.int
 | [],bs,vs,e,r=>by
  cases e
  unfold Reps at r
  exact r
 | .int b :: xs,bs,vs,e,r=>by
  unfold adi at e
  split at e
  ·rename_i cs h
   cases e
   unfold Reps at r
   obtain ⟨v,w,rfl,r1,r2⟩:=r
   unfold Rep at r1
   rw [r1,aew h r2]
   rfl
  ·cases e
 | .non :: _,_,_,e,_=>by cases e
 | .bl _ :: _,_,_,e,_=>by cases e
 | .str _ :: _,_,_,e,_=>by cases e
 | .tup _ :: _,_,_,e,_=>by cases e
 | .lst _ :: _,_,_,e,_=>by cases e
def fSum:List PV→Option PV
 | [.lst xs]=>(adi xs).map fun bs=>.int bs.sum
 | _=>none
theorem amZ:CaR K (fun xs H Q=>∃ (a:Addr) (is:List Int),xs=[.ref a]∧SqL K H a (is.map V.int)∧Q (.int is.sum) H) fSum:=fun {p S H as c xs Q} s ra e k=>by
 unfold fSum at e
 split at e
 ·rename_i zs
  cases y:adi zs with
  | none=>rw [y] at e; cases e
  | some bs =>
   rw [y] at e
   cases e
   cases ra with
   | cons h t =>
    cases t
    obtain ⟨a,vs,rfl,l,z,r⟩:=h.lst
    rw [aew y r] at l
    exact ⟨a,bs,rfl,l,k H _ (Same.refl H) (abV (v:=.int _) rfl)⟩
 ·cases e
end
end L2.Pp
namespace L2.Pp
open PySem PySem.Spec PyProof.Rows Bn
section
variable {K:PySem.W.Frag} {cl:Str→Addr} {E:XK} {X:Cx} {p q:Ph} {H H':Hp} {S:Sto}
variable {sc:Scope} {own:List Str} {cap:List (Nat × Str)} {elt target iter:Expr} {pos:Pos} {mi:MI} {g:GM} {me:ME}
noncomputable def ac0 (own:List Str) (cap:List (Nat × Str)) (mi:MI) (g:GM) (me:ME):ME:=fun ρ S=>(mi ρ S).bind fun xs S1=>(aaN xs.2 g me xs.1 (cmpR own cap ρ) S1).bind fun ys S2=>.ok (.ref S2.length) (S2++[.lst ys])
theorem Sim.adopt {zs:List PV} {vs:List V} {D:Addr} (s:Sim K q S H) (sh:Sim K (q.hold D) S H) (w:q.w D) (n:D ∉ q.f) (h:H D=some (.lst vs)) (l:vs.length≤sizeLine) (r:Reps K q.c H zs vs):Sim K ⟨q.f++[D],q.w,q.c⟩ (S++[.lst zs]) H:=by
 refine ⟨List.nodup_append.mpr ⟨s.nd,by simp,fun a ha b hb=>?_⟩,by rw [List.length_append,List.length_append,s.len]; rfl,fun a ha=>?_,s.wc,s.mu,fun k a o e1 e2=>?_⟩
 ·have:b=D:=by simpa using hb
  intro z
  exact n (by rw [← this,← z]; exact ha)
 ·rcases List.mem_append.mp ha with z | z
  ·exact s.sub a z
  ·have:a=D:=by simpa using z
   rw [this]; exact w
 ·have e1:(q.f++[D])[k]?=some a:=e1
  by_cases hk:k < q.f.length
  ·rw [List.getElem?_append_left hk] at e1
   rw [List.getElem?_append_left (by rw [← s.len]; exact hk)] at e2
   refine (sh.obj k a o e1 e2).mono (fun _ e=>e) (fun b w f=>⟨⟨w.1,fun m=>?_⟩,fun _ e=>e⟩) fun _ _ r=>r
   rcases List.mem_append.mp m with z | z
   ·exact f z
   ·exact w.2 (by simpa using z)
  ·have hk2:k=q.f.length:=by
    have:=(List.getElem?_eq_some_iff.mp e1).1
    rw [List.length_append] at this
    have:k < q.f.length+1:=this
    omega
   subst hk2
   rw [List.getElem?_append_right (Nat.le_refl _),Nat.sub_self] at e1
   rw [s.len,List.getElem?_append_right (Nat.le_refl _),Nat.sub_self] at e2
   cases e1
   cases e2
   exact ⟨vs,h,l,r⟩
theorem ah4 {σ:St} {ρ:Rho} {xs:List PV × Gd} {J:It} {Q:VK} {D:Addr} (sm:Sim K p S H) (ev:RepE K p H ρ σ) (it:ItOk K p H xs J) (k:aaV K cl (RepA K) p H ((aaN xs.2 g me xs.1 (cmpR own cap ρ) S).bind fun ys S2=>.ok (.ref S2.length) (S2++[.lst ys])) Q E) (hD:H D=none) :
  cmpW J (gP K g) (tP K cl E0 (RepA K) me) (adX own cap σ) H D Q:=by
 cases z:aaN xs.2 g me xs.1 (cmpR own cap ρ) S with
 | fail=>rw [z] at k; exact k.elim
 | exc n S'=>exact absurd z (aeo _ _ _ _ _)
 | ok zs S2 =>
  rw [z] at k
  have k:∀ q H' x,Step p H q H'→Sim K q (S2++[.lst zs]) H'→RepA K q H' (.ref S2.length) x→Q x H':=k
  refine agk sm ev it z hD fun q H' vs st1 sm1 sh1 w1 f1 hH l1 r1=>?_
  have sm2:=sm1.adopt sh1 w1 f1 hH l1 r1
  refine k ⟨q.f++[D],q.w,q.c⟩ H' (.ref D) ⟨st1.wc,st1.mu,st1.pre.trans (List.prefix_append _ _),st1.mw,st1.mono,fun a ha n=>?_,st1.nw,st1.nc,st1.keep⟩ sm2 ⟨D,?_,rfl⟩
  ·rcases List.mem_append.mp ha with y | y
   ·exact st1.nf a y n
   ·have:a=D:=by simpa using y
    rw [this]; exact hD
  ·show (q.f++[D])[S2.length]?=some D
   rw [← sm1.len,List.getElem?_append_right (Nat.le_refl _),Nat.sub_self]
   rfl
theorem af7 {i:Nat} {x:Str} {py spos:Pos} (hN:X.N.Nodup) (hx:X.N[i]?=some x) (hl:Loc X.env.scope x) (k:adO X sc own cap) (hi:PIp K cl E X target iter mi) (hc:X.calm=true) (hg:∀ C s₀ H₀ ex,PGp K (abw X sc (cmpN own cap) C s₀ H₀ ex) target g) (he:∀ C s₀ H₀ ex,PEp K cl E0 (abw X sc (cmpN own cap) C s₀ H₀ ex) elt me)
  (hs:∀ x,foldedSetIterable iter X.env x=pure x:=by intro _; rfl) (hsw:swapsWith (.ListComp elt [⟨target,iter,[],0⟩] sc pos) (some (.Name x py)) spos.line X.env=pure true:=by rfl)
  (hf:X.fn x=true∨X.env.scope.names.lookup x=some .local:=by first | exact .inl rfl | exact .inr rfl | assumption) :
  PSp K cl E X (.Assign [.Name x py] (.ListComp elt [⟨target,iter,[],0⟩] sc pos) spos) (sSet i (ac0 own cap mi g me)):=by
 intro hK
 refine PS.imp (aiJ hN hx hl k (hi hK) hc (fun C s₀ H₀ ex=>hg C s₀ H₀ ex hK) (fun C s₀ H₀ ex=>he C s₀ H₀ ex hK) hs hsw hf) fun D σ H ⟨p,S,ρ,s,ev,h⟩=>?_
 have h2:tP K cl E (RepA K) (ac0 own cap mi g me) σ H fun y H1=>D.nx (σ.set i (some y)) H1:=by
  refine ⟨p,S,ρ,s,ev,?_⟩
  unfold sSet at h
  cases z:ac0 own cap mi g me ρ S with
  | ok v S1 =>
   rw [z] at h
   exact fun q H' y st sm r=>h q H' _ st sm ((st.repE ev).set r i)
  | exc n S1=>rw [z] at h; exact h
  | fail=>rw [z] at h; exact h
 obtain ⟨p,S,ρ,s,ev,h⟩:=h2
 exact aax s ev h fun q H' xs J S' stp sm ev it kk B hB=>ah4 sm ev it kk hB
end
section
variable {K:PySem.W.Frag} {cl:Str→Addr} {E:XK} {X:Cx} {e:Expr} {m:ME} {pos p2:Pos}
theorem Vals.at_ {xs:List V} {us:List Value} (r:Vals xs us):∀ {k:Nat} {x:V},xs[k]?=some x→∃ u,us[k]?=some u∧RelV x u:=fun {k x} h=>by
 obtain ⟨u,e1,e2⟩:=r.get h
 exact ⟨u,e1,e2⟩
end
end L2.Pp
namespace L2.Pp
open PySem PySem.Spec PyProof.Rows Bn
section
variable {K:PySem.W.Frag} {cl:Str→Addr} {E:XK} {X:Cx}
end
end L2.Pp
namespace L2
open PySem PySem.Spec PyProof.Rows Bn
open PySem.W (KasT kas_sort kas_ask KatLex KatGo KatTups kat_run kat_kind kat_lt kat_one kas_item kat_snds)
def runP {α:Type} (lt:Nat→Nat→Bool):KasT α→α
 | .ret a=>a
 | .ask i j k=>runP lt (k (lt i j))
def aca {α:Type} (n:Nat):KasT α→Bool
 | .ret _=>true
 | .ask i j k=>decide (i < n) && decide (j < n) && aca n (k true) && aca n (k false)
theorem ahc {α:Type} {cmp:Nat→Nat→(Bool→Shared→Prop)→Shared→Prop} {lt:Nat→Nat→Bool} {n:Nat} {s:Shared} (hc:∀ i j (C:Bool→Shared→Prop),i < n→j < n→C (lt i j) s→cmp i j C s):∀ (t:KasT α) (Q:α→Shared→Prop),aca n t=true→Q (runP lt t) s→t.kasWp cmp Q s
 | .ret a,Q,_,h=>h
 | .ask i j k,Q,ok,h=>by
  unfold aca at ok
  simp only [Bool.and_eq_true,decide_eq_true_eq] at ok
  obtain ⟨⟨⟨hi,hj⟩,h1⟩,h2⟩:=ok
  refine hc i j _ hi hj (ahc hc (k (lt i j)) Q ?_ h)
  cases lt i j
  ·exact h2
  ·exact h1
def ahV (h:Heap) (v:Value) (us:List Int):Prop:=∃ a o its n,v=.ref a∧h.get? a=some o∧o.cls=.type "tuple"∧o.data=.seq (List.toArray its) n∧Vals (us.map V.int) its
section
variable {prog:Program} {w:World} {A:Around} {E:Value→Shared→Prop} {s:Shared}
theorem ajd {Q:Bool→Shared→Prop}:∀ (us vs:List Int) (its jts:List Value) (i:Nat) (fin:Bool),Vals (us.map V.int) its→Vals (vs.map V.int) jts→fin=decide (us.length < vs.length)→Q (HT.lexLt us vs) s→KatLex prog w A true fin Q (its.zip jts) i s
 | [],vs,its,jts,i,fin,h1,h2,hf,hQ=>by
  cases h1
  cases vs with
  | nil =>
   subst hf
   exact PySem.W.kat_nil hQ
  | cons v vs =>
   have e:fin=true:=by rw [hf]; simp
   subst e
   exact PySem.W.kat_nil hQ
 | u :: us,[],its,jts,i,fin,h1,h2,hf,hQ=>by
  cases h2
  have e:fin=false:=by rw [hf]; simp
  subst e
  rw [List.zip_nil_right]
  exact PySem.W.kat_nil hQ
 | u :: us,v :: vs,its,jts,i,fin,h1,h2,hf,hQ=>by
  cases h1 with
  | cons r1 t1 =>
   cases h2 with
   | cons r2 t2 =>
    obtain ⟨k1,rfl⟩:=r1
    obtain ⟨k2,rfl⟩:=r2
    rw [List.zip_cons_cons]
    refine PySem.W.kat_cons (wpAny_eqBool_int ?_)
    rw [HT.lexLt_cons] at hQ
    by_cases e:u=v
    ·rw [if_pos e] at hQ
     have b:(u == v)=true:=by simpa using e
     rw [b]
     exact PySem.W.kat_yes (ajd us vs _ _ (i+1) fin t1 t2 (by rw [hf]; simp) hQ)
    ·rw [if_neg e] at hQ
     have b:(u == v)=false:=by simpa using e
     rw [b]
     refine PySem.W.kat_no ?_
     by_cases hi:i=0
     ·subst hi
      exact oneLt_int hQ
     ·have b2:(true && i == 0)=false:=by simpa using hi
      rw [b2]
      exact kat_one _ _ (PySem.P.lt_int hQ)
theorem am4 {x y:Value} {us vs:List Int} {Q:Bool→Shared→Prop} (hx:ahV s.heap x us) (hy:ahV s.heap y vs) (h:Q (HT.lexLt us vs) s):wpAny (model prog w) A (keyLt' (tuples' true) x y) Q E s:=by
 obtain ⟨a,o,its,n,rfl,ho,hc,hd,r⟩:=hx
 obtain ⟨b,o2,jts,k,rfl,ho2,hc2,hd2,r2⟩:=hy
 refine kat_lt ho hd ho2 hd2 ?_
 have l1:=r.length
 have l2:=r2.length
 rw [List.length_map] at l1 l2
 refine ajd us vs its jts 0 _ r r2 ?_ h
 rw [List.size_toArray,List.size_toArray,l1,l2]
theorem ae6:∀ (vs:List Value) (uss:List (List Int)),vs.length=uss.length→(∀ i,i < vs.length→ahV s.heap (vs.getD i Value.none) (uss.getD i [])∧uss.getD i []≠[])→∃ fs,KatTups s.heap vs fs∧fs.length=vs.length∧∀ v∈fs,∃ i t,v=.int i t
 | [],uss,_,_=>⟨[],trivial,rfl,fun _ h=>absurd h List.not_mem_nil⟩
 | v :: vs,[],hl,_=>by cases hl
 | v :: vs,us :: uss,hl,h=>by
  obtain ⟨fs,k,l,q⟩:=ae6 vs uss (by simpa using hl) fun i hi=>by
   have:=h (i+1) (by simp; omega)
   simpa using this
  obtain ⟨⟨a,o,its,n,e,ho,hc,hd,r⟩,ne⟩:=h 0 (by simp)
  have e:v=.ref a:=e
  subst e
  cases us with
  | nil=>exact absurd rfl ne
  | cons u us =>
   have r:Vals (V.int u :: us.map V.int) its:=r
   cases r with
   | cons r1 t1 =>
    obtain ⟨t,rfl⟩:=r1
    refine ⟨.int u t :: fs,KatTups.cons ho hc hd (by simp) k,by simp [l],fun x hx=>?_⟩
    rcases List.mem_cons.mp hx with rfl | hx
    ·exact ⟨u,t,rfl⟩
    ·exact q x hx
def aaB (uss:List (List Int)):List Nat:=(runP (fun i j=>HT.lexLt (uss.getD i []) (uss.getD j [])) (kas_sort uss.length)).toList
theorem afI {a:Addr} {vs:List Value} {uss:List (List Int)} {n:Nat} {P:PySem.Fin→Shared→Prop} (ho:s.heap.get? a=some (seqObj "list" vs.toArray n)) (hl:vs.length=uss.length) (h2:2≤vs.length) (h64:vs.length < 64) (ok:aca uss.length (kas_sort uss.length)=true)
  (tu:∀ i,i < vs.length→ahV s.heap (vs.getD i Value.none) (uss.getD i [])∧uss.getD i []≠[])
  (h:P (.done (.ret .none)) { s with heap:=sortedHeap s.heap a vs (List.toArray ((aaB uss).map fun i=>vs.getD i Value.none)) }) :
  wpAny (model prog w) A (Builtin.«list.sort» ⟨[.ref a],[]⟩) P E s:=by
 have ha:a < s.heap.objs.size:=Heap.lt_size ho
 obtain ⟨e1,ho1⟩:∃ e1,(s.heap.update a (Obj.mapSeq fun _=>(#[]:Array Value))).get? a=some (seqObj "list" #[] e1):=⟨_,get?_update_seq ho fun _=>#[]⟩
 have kp:∀ b o,b≠a→s.heap.get? b=some o→(((s.heap.update a (Obj.mapSeq fun _=>(#[]:Array Value))).push (seqObj "tuple" vs.toArray 0)).push (seqObj "list" #[] 0)).get? b=some o:=fun b o hb e =>
  Heap.get?_push_of_some _ (Heap.get?_push_of_some _ ((Heap.get?_update_ne _ _ _ _ hb).trans e))
 have tu2:∀ i,i < vs.length→ahV (((s.heap.update a (Obj.mapSeq fun _=>(#[]:Array Value))).push (seqObj "tuple" vs.toArray 0)).push (seqObj "list" #[] 0)) (vs.getD i Value.none) (uss.getD i [])∧uss.getD i []≠[]:=fun i hi=>by
  obtain ⟨⟨b,o,its,m,e,hb,hc,hd,r⟩,ne⟩:=tu i hi
  refine ⟨⟨b,o,its,m,e,kp b o (fun z=>?_) hb,hc,hd,r⟩,ne⟩
  subst z
  rw [ho] at hb
  cases hb
  have hc:Value.type "list"=Value.type "tuple":=hc
  injection hc with hc
  exact absurd hc (by decide)
 have na:(((s.heap.update a (Obj.mapSeq fun _=>(#[]:Array Value))).push (seqObj "tuple" vs.toArray 0)).push (seqObj "list" #[] 0)).get? a=some (seqObj "list" #[] e1):=Heap.get?_push_of_some _ (Heap.get?_push_of_some _ ho1)
 rw [list_sort_plain]
 refine wpAny_bind (listItems_at ho rfl ?_)
 refine wpAny_bind (listUpdate_at ho rfl ?_ (by rw [List.size_toArray,sizeLine_eq]; omega) (Nat.zero_le _))
 refine wpAny_bind (seqEpoch_at ho1 rfl ?_)
 refine wpAny_bind (wpAny_newTuple ?_ (by show vs.length≤_; rw [sizeLine_eq]; omega))
 refine wpAny_bind (wpAny_newList ?_ (Nat.zero_le _))
 refine wpAny_holding ?_
 show wpAny (model prog w) A _ P E { s with heap:=((s.heap.update a (Obj.mapSeq fun _=>(#[]:Array Value))).push (seqObj "tuple" vs.toArray 0)).push (seqObj "list" #[] 0) }
 dsimp only
 have hn2:¬ vs.toArray.size < 2:=by rw [List.size_toArray]; omega
 rw [if_neg hn2,if_neg hn2]
 obtain ⟨fs,kt,lf,qf⟩:=ae6 (s:={ s with heap:=((s.heap.update a (Obj.mapSeq fun _=>(#[]:Array Value))).push (seqObj "tuple" vs.toArray 0)).push (seqObj "list" #[] 0) }) vs uss hl tu2
 refine wpAny_bind (kat_kind (T:=.type "int") kt (by omega) (fun v hv=>?_) rfl ?_)
 ·obtain ⟨i,t,rfl⟩:=qf v hv
  exact .now
 have bt:(Value.type "int" != Value.type "tuple")=true:=by decide
 rw [bt]
 refine wpAny_bind (wpAny_mono (kat_run (Q:=fun st' s'=>∃ p:Array Nat,p.size=vs.length∧arrOf st'=p.map (kas_item (vs.toArray.zip vs.toArray))∧failedOf st'=none∧p.toList=aaB uss∧s'={ s with heap:=((s.heap.update a (Obj.mapSeq fun _=>(#[]:Array Value))).push (seqObj "tuple" vs.toArray 0)).push (seqObj "list" #[] 0) })
  (G:=fun p s'=>p.toList=aaB uss∧s'={ s with heap:=((s.heap.update a (Obj.mapSeq fun _=>(#[]:Array Value))).push (seqObj "tuple" vs.toArray 0)).push (seqObj "list" #[] 0) })
  rfl h2 h64 (fun p' st' s' a1 a2 a3 a4=>⟨p',a1,a2,a3,a4⟩) ?_) ?_ fun _ _ e=>e)
 ·rw [hl]
  refine ahc (lt:=fun i j=>HT.lexLt (uss.getD i []) (uss.getD j [])) (n:=uss.length) (fun i j C hi hj hC=>?_) _ _ ok ⟨rfl,rfl⟩
  exact am4 (tu2 i (by omega)).1 (tu2 j (by omega)).1 hC
 rintro ⟨⟨⟩,st'⟩ s' ⟨p,hp,har,hf,hpl,rfl⟩
 dsimp only
 have hout:=kat_snds rfl har
 have hsz:(List.toArray (p.toList.map fun i=>vs.getD i Value.none)).size=vs.length:=by rw [List.size_toArray,List.length_map,Array.length_toList,hp]
 rw [hout]
 refine wpAny_bind (seqEpoch_at na rfl ?_)
 refine wpAny_bind (listUpdate_at na rfl ?_ (Nat.zero_le _) (Nat.le_trans (Nat.le_of_eq hsz) (by rw [sizeLine_eq]; omega)))
 rw [hf]
 simp only [bne_self_eq_false,Bool.false_eq_true,if_false]
 refine wpAny_pure ?_
 rw [hpl]
 exact h
theorem ahM {l:Addr} {o:Obj} {T:String} {vs:List Value} {uss:List (List Int)} {n:Nat} {Q:Value→Shared→Prop} (hT:T="list"∨T="tuple") (ho:s.heap.get? l=some o) (hc:o.cls=.type T) (hd:o.data=.seq vs.toArray n) (hl:vs.length=uss.length) (h2:2≤vs.length) (h64:vs.length < 64) (ok:aca uss.length (kas_sort uss.length)=true)
  (tu:∀ i,i < vs.length→ahV s.heap (vs.getD i Value.none) (uss.getD i [])∧uss.getD i []≠[])
  (h:∀ (h1 h':Heap) (c:Nat),(∀ b o',s.heap.get? b=some o'→h1.get? b=some o')→(∀ b o',h1.get? b=some o'→h'.get? b=some o')→h'.get? h1.objs.size=some (seqObj "list" (List.toArray ((aaB uss).map fun i=>vs.getD i Value.none)) c)→Q (.ref h1.objs.size) { s with heap:=h' }) :
  wpAny (model prog w) A (call (.builtin "sorted") [.ref l]) Q E s:=by
 refine PySem.Calls.call_function_entry kind_sorted plain_sorted entry_sorted (args_sorted1 _) ?_
 unfold Builtin.«sorted»
 refine wpAny_bind (m:=checkCount "sorted" 1 1 _) (wpAny_pure ?_)
 refine wpAny_bind (wpAny_collect_seq l hT ho hc hd (fun h1 k1=>?_) (by rw [List.size_toArray,sizeLine_eq]; omega))
 refine wpAny_bind (wpAny_newList ?_ (by rw [sizeLine_eq]; simp; omega))
 have hoL:(h1.push (seqObj "list" vs.toArray 0)).get? h1.objs.size=some (seqObj "list" vs.toArray 0):=Heap.get?_push_size _ rfl
 show wpAny _ _ _ _ _ { s with heap:=h1.push (seqObj "list" vs.toArray 0) }
 refine wpAny_bind (wpAny_holding (wpAny_call_entry slot_list_sort ⟨_,hoL,rfl⟩ entry_list_sort ?body (args_list_sort _)))
 case body =>
  refine afI (s:={ s with heap:=h1.push (seqObj "list" vs.toArray 0) }) hoL hl h2 h64 ok (fun i hi=>?_) ⟨_,rfl,wpAny_pure ⟨_,rfl,?_⟩⟩
  ·obtain ⟨⟨b,o,its,m,e,hb,hc,hd,r⟩,ne⟩:=tu i hi
   exact ⟨⟨b,o,its,m,e,Heap.get?_push_of_some _ (k1 b o hb),hc,hd,r⟩,ne⟩
  ·obtain ⟨e1,ho1⟩:∃ e1,((h1.push (seqObj "list" vs.toArray 0)).update h1.objs.size (Obj.mapSeq fun _=>(#[]:Array Value))).get? h1.objs.size=some (seqObj "list" #[] e1):=⟨_,get?_update_seq hoL fun _=>#[]⟩
   have ho2:=Heap.get?_push_of_some (seqObj "list" #[] 0) (Heap.get?_push_of_some (seqObj "tuple" vs.toArray 0) ho1)
   obtain ⟨e2,ho3⟩:∃ e2,(sortedHeap (h1.push (seqObj "list" vs.toArray 0)) h1.objs.size vs (List.toArray ((aaB uss).map fun i=>vs.getD i Value.none))).get? h1.objs.size=some (seqObj "list" (List.toArray ((aaB uss).map fun i=>vs.getD i Value.none)) e2):=⟨_,get?_update_seq ho2 fun _=>List.toArray ((aaB uss).map fun i=>vs.getD i Value.none)⟩
   refine h h1 _ e2 k1 (fun b o' hb1=>?_) ho3
   have hne:b≠h1.objs.size:=Nat.ne_of_lt (Heap.lt_size hb1)
   exact (Heap.get?_update_ne _ _ _ _ hne).trans (Heap.get?_push_of_some _ (Heap.get?_push_of_some _ ((Heap.get?_update_ne _ _ _ _ hne).trans (Heap.get?_push_of_some _ hb1))))
end
def amk (K:PySem.W.Frag) (H:Hp) (ts:List V) (uss:List (List Int)):Prop:=ts.length=uss.length∧∀ i t,ts[i]?=some t→∃ a,t=.ref a∧SqT K H a ((uss.getD i []).map V.int)∧uss.getD i []≠[]
theorem ae4 {X:Cx}:adG X (.builtin "sorted") (fun xs H Q=>∃ (a:Addr) (ts:List V) (uss:List (List Int)),xs=[.ref a]∧(SqL X.K H a ts∨SqT X.K H a ts)∧amk X.K H ts uss∧2≤ts.length∧ts.length < 64∧aca uss.length (kas_sort uss.length)=true∧(aaB uss).length≤64 ∧
  ∀ l,H l=none→Q (.ref l) (upd H l (.lst ((aaB uss).map fun i=>ts.getD i .non)))):=by
 intro pins s σ H xs us Q I r h
 obtain ⟨a,ts,uss,rfl,hq,⟨hl,ht⟩,h2,h64,ok,hpl,q⟩:=h
 obtain ⟨u,rfl,ru⟩:=agc r
 cases ru
 have go:∀ (its:List Value) (T:String) (o:Obj) (n:Nat),Vals ts its→(T="list"∨T="tuple")→s.heap.get? a=some o→o.cls=.type T→o.data=.seq its.toArray n→ts.length≤sizeLine →
   wpAny (model X.prog X.w) X.A (call (.builtin "sorted") [.ref a]) (EP X pins σ Q) X.xe s:=fun its T o n rv hT ho hc hd hz=>by
  have hlen:=rv.length
  refine ahM (uss:=uss) hT ho hc hd (by omega) (by omega) (by omega) ok (fun i hi=>?_) fun h1 h' c k1 k2 e=>?_
  ·have hi':i < ts.length:=by omega
   obtain ⟨b,e1,sq,ne⟩:=ht i ts[i] (List.getElem?_eq_getElem hi')
   obtain ⟨v,e2,rel⟩:=rv.get (List.getElem?_eq_getElem hi')
   rw [e1] at rel
   cases rel
   obtain ⟨jts,rj,⟨o2,ho2,hc2,m,hd2⟩,_⟩:=I.tuple sq
   refine ⟨⟨b,o2,jts,m,?_,ho2,hc2,hd2,rj⟩,ne⟩
   rw [List.getD,e2]
   rfl
  ·have I1:Inv X pins σ H { s with heap:=h1,toks:=s.toks }:=I.kept k1
   have hz2:((aaB uss).map fun i=>ts.getD i .non).length≤sizeLine:=by
    rw [List.length_map,sizeLine_eq]
    omega
   have rel:∀ ps:List Nat,Vals (ps.map fun i=>ts.getD i .non) (ps.map fun i=>its.getD i Value.none):=fun ps=>by
    induction ps with
    | nil=>exact .nil
    | cons i ps ih =>
     refine .cons ?_ ih
     by_cases hi:i < ts.length
     ·obtain ⟨v,e2,rr⟩:=rv.get (List.getElem?_eq_getElem hi)
      have q1:ts.getD i .non=ts[i]:=by simp [List.getD,hi]
      have q2:its.getD i Value.none=v:=by simp [List.getD,e2]
      show RelV (ts.getD i .non) (its.getD i Value.none)
      rw [q1,q2]
      exact rr
     ·have q1:ts.getD i .non=.non:=by simp [List.getD,hi]
      have q2:its.getD i Value.none=Value.none:=by simp [List.getD,show its.length≤i by omega]
      show RelV (ts.getD i .non) (its.getD i Value.none)
      rw [q1,q2]
      rfl
   refine ⟨.ref h1.objs.size,_,I1.laid (t':=s.toks) (o:=.lst ((aaB uss).map fun i=>ts.getD i .non)) k2 (Nat.le_refl _) ?_,rfl,q _ (I1.hok.fresh (Nat.le_refl _))⟩
   exact ⟨hz2,_,c,rel _,e⟩
 rcases hq with hq | hq
 ·obtain ⟨its,rv,pl,hz⟩:=I.list hq
  obtain ⟨o,ho,hc,n,hd⟩:=pl.isList
  exact go its "list" o n rv (.inl rfl) ho hc hd hz
 ·obtain ⟨its,rv,⟨o,ho,hc,n,hd⟩,hz⟩:=I.tuple hq
  exact go its "tuple" o n rv (.inr rfl) ho hc hd hz
end L2
namespace L2.Pp
open PySem PySem.Spec PyProof.Rows Bn
open PySem.W (kas_sort)
section
variable {K:PySem.W.Frag}
def adR:List PV→Option (List (List Int))
 | []=>some []
 | .tup us :: r=>match adi us,adR r with
  | some is,some uss=>some (is :: uss)
  | _,_=>none
 | _ :: _=>none
theorem ahl:∀ {xs:List PV} {uss:List (List Int)},adR xs=some uss→xs.length=uss.length
 | [],uss,e=>by cases e; rfl
 | .tup us :: r,uss,e=>by
  unfold adR at e
  split at e
  ·rename_i is uss' h1 h2
   cases e
   rw [List.length_cons,List.length_cons,ahl h2]
  ·cases e
 | .non :: _,_,e=>by cases e
 | .bl _ :: _,_,e=>by cases e
 | .int _ :: _,_,e=>by cases e
 | .str _ :: _,_,e=>by cases e
 | .lst _ :: _,_,e=>by cases e
theorem ai6 {c:Addr→Prop} {H:Hp}:∀ {xs:List PV} {uss:List (List Int)} {vs:List V},adR xs=some uss→Reps K c H xs vs→∀ i t,vs[i]?=some t→∃ a,t=.ref a∧SqT K H a ((uss.getD i []).map V.int)
 | [],uss,vs,e,r,i,t,h=>by
  unfold Reps at r
  subst r
  simp at h
 | .tup us :: r,uss,vs,e,rr,i,t,h=>by
  unfold adR at e
  split at e
  ·rename_i is uss' h1 h2
   cases e
   unfold Reps at rr
   obtain ⟨v,w,rfl,r1,r2⟩:=rr
   cases i with
   | zero =>
    cases h
    unfold Rep at r1
    obtain ⟨a,ws,rfl,sq,_,r3⟩:=r1
    rw [aew h1 r3] at sq
    exact ⟨a,rfl,sq⟩
   | succ i =>
    have:=ai6 h2 r2 i t (by simpa using h)
    simpa using this
  ·cases e
 | .non :: _,_,_,e,_,_,_,_=>by cases e
 | .bl _ :: _,_,_,e,_,_,_,_=>by cases e
 | .int _ :: _,_,_,e,_,_,_,_=>by cases e
 | .str _ :: _,_,_,e,_,_,_,_=>by cases e
 | .lst _ :: _,_,_,e,_,_,_,_=>by cases e
def aly (uss:List (List Int)):Prop:=2≤uss.length∧uss.length < 64∧aca uss.length (kas_sort uss.length)=true∧(aaB uss).length≤64∧∀ us∈uss,us≠[]
def alK (xs:List PV) (uss:List (List Int)):List PV:=(aaB uss).map fun i=>xs.getD i .non
open Classical in
noncomputable def ah8 (xs:List PV):Option PV:=match adR xs with
 | some uss=>if aly uss then some (.lst (alK xs uss)) else none
 | none=>none
noncomputable def aes:List PV→Option PV
 | [.lst xs]=>ah8 xs
 | [.tup xs]=>ah8 xs
 | _=>none
theorem ago {c:Addr→Prop} {H:Hp} {xs:List PV} {vs:List V} (r:Reps K c H xs vs):∀ ps:List Nat,Reps K c H (ps.map fun i=>xs.getD i .non) (ps.map fun i=>vs.getD i .non)
 | []=>.nil
 | i :: ps=>by
  refine .cons ?_ (ago r ps)
  by_cases hi:i < xs.length
  ·obtain ⟨v,e1,e2⟩:=r.get (List.getElem?_eq_getElem hi)
   have q1:xs.getD i .non=xs[i]:=by simp [List.getD,hi]
   have q2:vs.getD i .non=v:=by simp [List.getD,e1]
   show Rep K c H (xs.getD i .non) (vs.getD i .non)
   rw [q1,q2]
   exact e2
  ·have hl:=r.length
   have q1:xs.getD i .non=.non:=by simp [List.getD,hi]
   have q2:vs.getD i .non=.non:=by simp [List.getD,show vs.length≤i by omega]
   show Rep K c H (xs.getD i .non) (vs.getD i .non)
   rw [q1,q2]
   unfold Rep
   rfl
theorem akU:CaR K (fun xs H Q=>∃ (a:Addr) (ts:List V) (uss:List (List Int)),xs=[.ref a]∧(SqL K H a ts∨SqT K H a ts)∧amk K H ts uss∧2≤ts.length∧ts.length < 64∧aca uss.length (kas_sort uss.length)=true∧(aaB uss).length≤64 ∧
  ∀ l,H l=none→Q (.ref l) (upd H l (.lst ((aaB uss).map fun i=>ts.getD i .non)))) aes:=fun {p S H as c xs Q} s ra e k=>by
 have key:∀ (zs:List PV) (a:Addr) (vs:List V),ah8 zs=some c→(SqL K H a vs∨SqT K H a vs)→Reps K p.c H zs vs→∃ (a':Addr) (ts:List V) (uss:List (List Int)),[V.ref a]=[.ref a']∧(SqL K H a' ts∨SqT K H a' ts)∧amk K H ts uss∧2≤ts.length∧ts.length < 64∧aca uss.length (kas_sort uss.length)=true∧(aaB uss).length≤64 ∧
   ∀ l,H l=none→Q (.ref l) (upd H l (.lst ((aaB uss).map fun i=>ts.getD i .non))):=fun zs a vs e sq r=>by
  unfold ah8 at e
  split at e
  ·rename_i uss hu
   split at e
   ·rename_i hc
    cases e
    obtain ⟨c1,c2,c3,c4,c5⟩:=hc
    have l1:=ahl hu
    have l2:=r.length
    refine ⟨a,vs,uss,rfl,sq,⟨by omega,fun i t h=>?_⟩,by omega,by omega,c3,c4,fun l hl=>?_⟩
    ·obtain ⟨b,e1,e2⟩:=ai6 hu r i t h
     have hi:i < uss.length:=by
      have:=(List.getElem?_eq_some_iff.mp h).1
      omega
     refine ⟨b,e1,e2,?_⟩
     rw [List.getD,List.getElem?_eq_getElem hi]
     exact c5 _ (List.getElem_mem hi)
    ·refine k _ _ (abE hl) (adD s (ago r _) ?_ hl)
     rw [List.length_map,abz]
     omega
   ·cases e
  ·cases e
 unfold aes at e
 split at e
 ·rename_i zs
  cases ra with
  | cons h t =>
   cases t
   obtain ⟨a,vs,rfl,l,z,r⟩:=h.lst
   exact key zs a vs e (.inl l) r
 ·rename_i zs
  cases ra with
  | cons h t =>
   cases t
   obtain ⟨a,vs,rfl,l,z,r⟩:=h.tup
   exact key zs a vs e (.inr l) r
 ·cases e
end
end L2.Pp
namespace L2
open PySem.W (KasT kas_sort)
theorem ae5 {α:Type} {lt lt':Nat→Nat→Bool} {n:Nat} (h:∀ i j,i < n→j < n→lt i j=lt' i j):∀ t:KasT α,aca n t=true→runP lt t=runP lt' t
 | .ret a,_=>rfl
 | .ask i j k,ok=>by
  unfold aca at ok
  simp only [Bool.and_eq_true,decide_eq_true_eq] at ok
  obtain ⟨⟨⟨hi,hj⟩,h1⟩,h2⟩:=ok
  show runP lt (k (lt i j))=runP lt' (k (lt' i j))
  rw [← h i j hi hj]
  refine ae5 h (k (lt i j)) ?_
  cases lt i j
  ·exact h2
  ·exact h1
theorem acu:∀ u:List Int,HT.lexLt u u=false
 | []=>rfl
 | x :: u=>by rw [HT.lexLt_cons,if_pos rfl,acu u]
theorem agS:∀ u v:List Int,u=v∨HT.lexLt u v=true∨HT.lexLt v u=true
 | [],[]=>.inl rfl
 | [],_ :: _=>.inr (.inl rfl)
 | _ :: _,[]=>.inr (.inr rfl)
 | x :: u,y :: v=>by
  rw [HT.lexLt_cons,HT.lexLt_cons]
  by_cases h:x=y
  ·subst h
   rw [if_pos rfl,if_pos rfl]
   rcases agS u v with h | h | h
   ·exact .inl (by rw [h])
   ·exact .inr (.inl h)
   ·exact .inr (.inr h)
  ·rw [if_neg h,if_neg (fun z=>h z.symm)]
   by_cases q:x < y
   ·exact .inr (.inl (by simpa using q))
   ·exact .inr (.inr (by simp; omega))
theorem ady:∀ u v w:List Int,HT.lexLt u v=true→HT.lexLt v w=true→HT.lexLt u w=true
 | [],[],_,h,_=>by cases h
 | [],_ :: _,[],_,h=>by cases h
 | [],_ :: _,_ :: _,_,_=>rfl
 | _ :: _,[],_,h,_=>by cases h
 | _ :: _,_ :: _,[],_,h=>by cases h
 | x :: u,y :: v,z :: w,h1,h2=>by
  rw [HT.lexLt_cons] at h1 h2 ⊢
  by_cases e1:x=y
  ·subst e1
   rw [if_pos rfl] at h1
   by_cases e2:x=z
   ·rw [if_pos e2] at h2 ⊢
    exact ady u v w h1 h2
   ·rw [if_neg e2] at h2 ⊢
    exact h2
  ·rw [if_neg e1] at h1
   have h1:x < y:=by simpa using h1
   by_cases e2:y=z
   ·subst e2
    rw [if_neg e1]
    simpa using h1
   ·rw [if_neg e2] at h2
    have h2:y < z:=by simpa using h2
    rw [if_neg (by omega)]
    simp
    omega
theorem akK {u v:List Int} (h:HT.lexLt u v=true):HT.lexLt v u=false:=by
 cases q:HT.lexLt v u with
 | false=>rfl
 | true =>
  have:=ady u v u h q
  rw [acu] at this
  cases this
theorem akJ {u v:List Int} (h:HT.lexLt u v=false) (g:HT.lexLt v u=false):u=v:=by
 rcases agS u v with e | e | e
 ·exact e
 ·rw [h] at e; cases e
 ·rw [g] at e; cases e
def r3 (a b c d e f:Bool):Bool:=(!(a && b) || c) && (!(d && e) || f)
def okT (b:Nat→Nat→Bool) (n:Nat):Bool:=(List.range n).all fun i=>!(b i i) && (List.range n).all fun j=>!(b i j && b j i) && (List.range n).all fun k=>(!(b i j && b j k) || b i k) && (b i j || b j k || !(b i k))
def akv (b:Nat→Nat→Bool) (n:Nat) (ps:List (List Nat)):Bool:=let p:=(runP b (kas_sort n)).toList
 ps.contains p && (List.range n).all fun i=>(List.range n).all fun j=>!(decide (i < j)) || !(b (p.getD j 0) (p.getD i 0))
def afP:List (List Nat):=[[0,1,2],[0,2,1],[1,0,2],[1,2,0],[2,0,1],[2,1,0]]
def af9:List (List Nat):=[[0,1,2,3],[0,1,3,2],[0,2,1,3],[0,2,3,1],[0,3,1,2],[0,3,2,1],[1,0,2,3],[1,0,3,2],[1,2,0,3],[1,2,3,0],[1,3,0,2],[1,3,2,0],
 [2,0,1,3],[2,0,3,1],[2,1,0,3],[2,1,3,0],[2,3,0,1],[2,3,1,0],[3,0,1,2],[3,0,2,1],[3,1,0,2],[3,1,2,0],[3,2,0,1],[3,2,1,0]]
def mt3 (b01 b02 b10 b12 b20 b21:Bool) (i j:Nat):Bool:=match i,j with
 | 0,1=>b01 | 0,2=>b02 | 1,0=>b10 | 1,2=>b12 | 2,0=>b20 | 2,1=>b21 | _,_=>false
def mt4 (b01 b02 b03 b10 b12 b13 b20 b21 b23 b30 b31 b32:Bool) (i j:Nat):Bool:=match i,j with
 | 0,1=>b01 | 0,2=>b02 | 0,3=>b03 | 1,0=>b10 | 1,2=>b12 | 1,3=>b13 | 2,0=>b20 | 2,1=>b21 | 2,3=>b23 | 3,0=>b30 | 3,1=>b31 | 3,2=>b32 | _,_=>false
theorem ann:aca 3 (kas_sort 3)=true:=by decide +kernel
theorem anM:aca 4 (kas_sort 4)=true:=by decide +kernel
theorem all3:∀ b01 b02 b10 b12 b20 b21:Bool,okT (mt3 b01 b02 b10 b12 b20 b21) 3=true→akv (mt3 b01 b02 b10 b12 b20 b21) 3 afP=true:=by decide +kernel
theorem all4:∀ b01 b02 b03 b10 b12 b13 b20 b21 b23 b30 b31 b32:Bool,okT (mt4 b01 b02 b03 b10 b12 b13 b20 b21 b23 b30 b31 b32) 4=true→akv (mt4 b01 b02 b03 b10 b12 b13 b20 b21 b23 b30 b31 b32) 4 af9=true:=by decide +kernel
theorem ak2 {b:Nat→Nat→Bool} {n:Nat} {uss:List (List Int)} (h:∀ i j,i < n→j < n→b i j=HT.lexLt (uss.getD i []) (uss.getD j [])):okT b n=true:=by
 unfold okT
 simp only [List.all_eq_true,List.mem_range,Bool.and_eq_true,Bool.not_eq_true',Bool.or_eq_true,Bool.and_eq_false_imp]
 intro i hi
 refine ⟨by rw [h i i hi hi,acu],fun j hj=>⟨fun q=>?_,fun k hk=>⟨?_,?_⟩⟩⟩
 ·rw [h i j hi hj] at q
  rw [h j i hj hi,akK q]
 ·rw [h i j hi hj,h j k hj hk,h i k hi hk]
  cases q1:HT.lexLt (uss.getD i []) (uss.getD j []) with
  | false=>exact .inl fun z=>by cases z
  | true =>
   cases q2:HT.lexLt (uss.getD j []) (uss.getD k []) with
   | false=>exact .inl fun _=>rfl
   | true=>exact .inr (ady _ _ _ q1 q2)
 ·rw [h i j hi hj,h j k hj hk,h i k hi hk]
  cases q1:HT.lexLt (uss.getD i []) (uss.getD j []) with
  | true=>exact .inl (.inl rfl)
  | false =>
   cases q2:HT.lexLt (uss.getD j []) (uss.getD k []) with
   | true=>exact .inl (.inr rfl)
   | false =>
    refine .inr ?_
    cases q3:HT.lexLt (uss.getD i []) (uss.getD k []) with
    | false=>rfl
    | true =>
     rcases agS (uss.getD i []) (uss.getD j []) with e | e | e
     ·rw [e] at q3; rw [q2] at q3; cases q3
     ·rw [q1] at e; cases e
     ·have:=ady _ _ _ e q3
      rw [q2] at this
      cases this
end L2
namespace L2
open PySem.W (KasT kas_sort)
def aa0 (uss:List (List Int)):List (List Int):=(aaB uss).map fun i=>uss.getD i []
def leU (u v:List Int):Prop:=HT.lexLt v u=false
theorem agh {uss:List (List Int)} {n:Nat} {ps:List (List Nat)} (hl:uss.length=n) (ok:aca n (kas_sort n)=true) {b:Nat→Nat→Bool} (hb:∀ i j,i < n→j < n→b i j=HT.lexLt (uss.getD i []) (uss.getD j [])) (good:akv b n ps=true) (hp:∀ p∈ps,p.Perm (List.range n)) :
  aaB uss∈ps∧(aaB uss).Perm (List.range n)∧(aa0 uss).Pairwise leU:=by
 have e:aaB uss=(runP b (kas_sort n)).toList:=by
  unfold aaB
  rw [hl]
  exact congrArg Array.toList (ae5 (n:=n) (fun i j hi hj=>(hb i j hi hj).symm) _ ok)
 unfold akv at good
 simp only [Bool.and_eq_true,List.all_eq_true,List.mem_range] at good
 rw [← e] at good
 obtain ⟨g1,g2⟩:=good
 have m:aaB uss∈ps:=by simpa using g1
 have pm:=hp _ m
 refine ⟨m,pm,?_⟩
 have ln:(aaB uss).length=n:=by rw [pm.length_eq,List.length_range]
 unfold aa0
 rw [List.pairwise_iff_getElem]
 intro i j hi hj hij
 rw [List.length_map] at hi hj
 have q:=g2 i (by omega) j (by omega)
 have pi:(aaB uss).getD i 0=(aaB uss)[i]:=by simp [List.getD,hi]
 have pj:(aaB uss).getD j 0=(aaB uss)[j]:=by simp [List.getD,hj]
 rw [pi,pj] at q
 have li:(aaB uss)[i] < n:=by
  have:=pm.subset (List.getElem_mem hi)
  simpa using this
 have lj:(aaB uss)[j] < n:=by
  have:=pm.subset (List.getElem_mem hj)
  simpa using this
 rw [hb _ _ lj li] at q
 simp only [List.getElem_map]
 unfold leU
 have d:decide (i < j)=true:=by simpa using hij
 rw [d] at q
 simpa using q
theorem akM:∀ p∈afP,p.Perm (List.range 3):=by decide
theorem ajS:∀ p∈af9,p.Perm (List.range 4):=by decide
theorem agU {uss:List (List Int)} (h:uss.length=3):aaB uss∈afP∧(aaB uss).Perm (List.range 3)∧(aa0 uss).Pairwise leU:=by
 match uss,h with
 | [u0,u1,u2],_ =>
  have hb:∀ i j,i < 3→j < 3→mt3 (HT.lexLt u0 u1) (HT.lexLt u0 u2) (HT.lexLt u1 u0) (HT.lexLt u1 u2) (HT.lexLt u2 u0) (HT.lexLt u2 u1) i j=HT.lexLt (([u0,u1,u2]:List (List Int)).getD i []) (([u0,u1,u2]:List (List Int)).getD j []):=fun i j hi hj=>by
   match i,j,hi,hj with
   | 0,0,_,_=>exact (acu u0).symm
   | 0,1,_,_=>rfl
   | 0,2,_,_=>rfl
   | 1,0,_,_=>rfl
   | 1,1,_,_=>exact (acu u1).symm
   | 1,2,_,_=>rfl
   | 2,0,_,_=>rfl
   | 2,1,_,_=>rfl
   | 2,2,_,_=>exact (acu u2).symm
  exact agh rfl ann hb (all3 _ _ _ _ _ _ (ak2 hb)) akM
theorem agI {uss:List (List Int)} (h:uss.length=4):aaB uss∈af9∧(aaB uss).Perm (List.range 4)∧(aa0 uss).Pairwise leU:=by
 match uss,h with
 | [u0,u1,u2,u3],_ =>
  have hb:∀ i j,i < 4→j < 4→mt4 (HT.lexLt u0 u1) (HT.lexLt u0 u2) (HT.lexLt u0 u3) (HT.lexLt u1 u0) (HT.lexLt u1 u2) (HT.lexLt u1 u3) (HT.lexLt u2 u0) (HT.lexLt u2 u1) (HT.lexLt u2 u3) (HT.lexLt u3 u0) (HT.lexLt u3 u1) (HT.lexLt u3 u2) i j=HT.lexLt (([u0,u1,u2,u3]:List (List Int)).getD i []) (([u0,u1,u2,u3]:List (List Int)).getD j []):=fun i j hi hj=>by
   match i,j,hi,hj with
   | 0,0,_,_=>exact (acu u0).symm
   | 0,1,_,_=>rfl
   | 0,2,_,_=>rfl
   | 0,3,_,_=>rfl
   | 1,0,_,_=>rfl
   | 1,1,_,_=>exact (acu u1).symm
   | 1,2,_,_=>rfl
   | 1,3,_,_=>rfl
   | 2,0,_,_=>rfl
   | 2,1,_,_=>rfl
   | 2,2,_,_=>exact (acu u2).symm
   | 2,3,_,_=>rfl
   | 3,0,_,_=>rfl
   | 3,1,_,_=>rfl
   | 3,2,_,_=>rfl
   | 3,3,_,_=>exact (acu u3).symm
  exact agh rfl anM hb (all4 _ _ _ _ _ _ _ _ _ _ _ _ (ak2 hb)) ajS
theorem abB {uss:List (List Int)} (h:uss.length=3∨uss.length=4):(aa0 uss).Perm uss∧(aa0 uss).Pairwise leU:=by
 have key:∀ n,uss.length=n→(aaB uss).Perm (List.range n)→(aa0 uss).Perm uss:=fun n hn hp=>by
  have e:(List.range n).map (fun i=>uss.getD i [])=uss:=by
   refine List.ext_getElem (by simp [hn]) fun i h1 h2=>?_
   have hi:i < uss.length:=h2
   simp [List.getD,hi]
  have:=hp.map (fun i=>uss.getD i [])
  rw [e] at this
  exact this
 rcases h with h | h
 ·obtain ⟨_,hp,hs⟩:=agU h
  exact ⟨key 3 h hp,hs⟩
 ·obtain ⟨_,hp,hs⟩:=agI h
  exact ⟨key 4 h hp,hs⟩
theorem afv {A B:List (List Int)} (hp:A.Perm B) (ha:A.Pairwise leU) (hb:B.Pairwise leU):A=B :=
 hp.eq_of_pairwise (fun u v _ _ h g=>akJ g h) ha hb
theorem afl {A B:List (List Int)} (hp:A.Perm B) (h:B.length=3∨B.length=4):aa0 A=aa0 B:=by
 obtain ⟨p1,s1⟩:=abB (uss:=A) (by rw [hp.length_eq]; exact h)
 obtain ⟨p2,s2⟩:=abB h
 exact afv (p1.trans (hp.trans p2.symm)) s1 s2
end L2
namespace L2
open PySem PySem.Spec PyProof.Rows Bn
end L2
namespace L2
open PySem PySem.Spec PyProof.Rows Bn
section
variable {M:Model} {A:Around} {E:Value→Shared→Prop} {s:Shared}
end
end L2
namespace L2
open PySem PySem.Spec PyProof.Rows Bn
structure ak0 (X:Cx) (sc:Scope) (own:List Str) (cap:List (Nat × Str)):Prop where
 kind:sc.kind=.function
 names:∀ y∈sc.names,y.2=.local→sc.names.lookup y.1=some .local
 cells:∀ y∈sc.names,y.2=.cell→sc.names.lookup y.1=some .cell
 free:∀ y∈sc.names,y.2=.free→X.env.kindOf y.1=some .cell
 at':∀ p∈cap,X.N[p.1]?=some p.2
 cap:∀ p∈cap,sc.names.lookup p.2=some .free
section
variable {X:Cx} {sc:Scope} {own:List Str} {cap:List (Nat × Str)} {pins:List (Addr × Obj)} {σ:St} {H:Hp} {s:Shared} {elt target iter:Expr} {pos pos':Pos} {wi:TI} {g:TG} {te:TE} {Q:VK}
theorem ak0.has (k:ak0 X sc own cap) (ok:X.Ok):∀ p∈sc.names,p.2=.free→∃ c,X.env.cells.lookup p.1=some c:=fun p hp e=>ok.has p.1 (.inl (k.free p hp e))
end
end L2
namespace L2.Pp
open PySem PySem.Spec PyProof.Rows Bn
section
variable {K:PySem.W.Frag} {cl:Str→Addr} {E:XK} {X:Cx} {p q:Ph} {H H':Hp} {S:Sto}
variable {sc:Scope} {own:List Str} {cap:List (Nat × Str)} {elt target iter:Expr} {pos:Pos} {mi:MI} {g:GM} {me:ME}
end
end L2.Pp
namespace L2.Pp
open PySem PySem.Spec PyProof.Rows Bn
def Pl (S:Sto):Prop:=∀ (j:Nat) (o:SO),S[j]?=some o→∃ xs,o=.lst xs
section
variable {K:PySem.W.Frag} {cl:Str→Addr} {E:XK} {X:Cx} {a e:Expr} {m:ME} {ms:MA} {pos:Pos} {p q:Ph} {H H':Hp} {S:Sto}
def appL (k:Nat) (ys:List AV) (S:Sto):Res AV:=match (aa5 S ys).bind aak,S[k]? with
 | some (.lst vs),some (.lol xss)=>if xss.length < 16777216 then .ok (.pv .non) (S.set k (.lol (xss++[vs]))) else .fail
 | _,_=>.fail
def anw (m:ME) (ms:MA):ME:=fun ρ S=>(m ρ S).bind fun k S1=>acM k fun k=>(ms ρ S1).bind fun ys S2=>appL k ys S2
def Ph.only (p:Ph):Ph:=⟨p.f,fun a=>a∈p.f,p.c⟩
theorem Sim.only (s:Sim K p S H) (pl:Pl S):Sim K p.only S H :=
 ⟨s.nd,s.len,fun _ h=>h,fun a h=>s.wc a (s.sub a h),s.mu,fun k a o e1 e2=>by
  obtain ⟨xs,rfl⟩:=pl k o e2
  exact s.obj k a _ e1 e2⟩
end
section
variable {P:Program} {w:World} {K:PySem.W.Frag} {mg:Str→Option Value} {base:Heap} {cl:Str→Addr}
end
end L2.Pp
namespace L2.Pp
open PySem PySem.Spec PyProof.Rows Bn
end L2.Pp
namespace L2.Pp
open PySem PySem.Spec PyProof.Rows Bn
def Cal (P:Program) (w:World) (K:PySem.W.Frag) (mg:Str→Option Value) (base:Heap) (cl:Str→Addr) (x:Str) (k:Nat) (ps:List Str) (g:FM):Prop:=∃ (a:Addr) (d:FuncData),FnOk P w K mg base CX0 k a d ps (spP0 K cl g)∧acL K d ps []∧PySem.W.keepIn K (.ref a)=true∧mg x=some (.ref a)
section
variable {cl:Str→Addr} {E:XK} {X:Cx} {e:Expr} {es:List Expr} {ms:MA} {pos p:Pos} {k k0:Nat} {ps:List Str} {g:FM} {x:Str}
theorem aaX (C:Cal X.prog X.w X.K X.mg X.base cl x k ps g) (hr:Room k0 X.A) (hk:k≤k0) (hg:Gl X x) (ha:PAp X.K cl E X (e :: es) ms) (hdb:(x == ("__debug__":Str))=false:=by decide) (he:starEach (e :: es) X.env=(false,eval e X.env) :: starEach es X.env:=by rfl) (hpl:(backTo pos (starEach es X.env)).any (·.1)=false:=by rfl) :
  PEp X.K cl E X (.Call (.Name x p) (e :: es) [] pos) (aah g [] ms):=by
 obtain ⟨a,d,G,b,kk,n⟩:=C
 exact akh G (hr.mono hk) hg n kk b .nil Dv.nil ha hdb he hpl
theorem aon (C:Cal X.prog X.w X.K X.mg X.base cl x k ps g) (hr:Room k0 X.A) (hk:k≤k0) (hg:Gl X x) (ha:PAp X.K cl E X (e :: es) ms) (hdb:(x == ("__debug__":Str))=false:=by decide) (he:starEach (e :: es) X.env=(false,eval e X.env) :: starEach es X.env:=by rfl) (hpl:(backTo pos (starEach es X.env)).any (·.1)=false:=by rfl) :
  PEp X.K cl E X (.Call (.Name x p) (e :: es) [] pos) (aaM g [] ms):=by
 obtain ⟨a,d,G,b,kk,n⟩:=C
 exact aj9 G (hr.mono hk) hg n kk b .nil Dv.nil ha hdb he hpl
end
end L2.Pp
namespace L2.Pp
open PySem PySem.Spec PyProof.Rows Bn
section
variable {X:Cx}
end
section
variable {K:PySem.W.Frag} {cl:Str→Addr} {E:XK} {X:Cx} {e:Expr} {m:ME} {pos:Pos}
end
end L2.Pp
namespace L2.Pp
open PySem PySem.Spec PyProof.Rows Bn
section
variable {K:PySem.W.Frag} {cl:Str→Addr} {E:XK} {X:Cx}
variable {a e:Expr} {m:ME} {ms:MA} {pos:Pos}
end
end L2.Pp
namespace L2.Pp
open PySem PySem.Spec PyProof.Rows Bn
section
variable {K:PySem.W.Frag} {cl:Str→Addr} {E:XK} {X:Cx}
end
end L2.Pp
namespace L2.Pp
open PySem PySem.Spec PyProof.Rows Bn
section
variable {K:PySem.W.Frag} {cl:Str→Addr} {E:XK} {X:Cx}
def GlT (K:PySem.W.Frag) (mg:Str→Option Value) (x:Str) (pv:PV):Prop:=∃ (u:Value) (v:V),mg x=some u∧RelV v u∧∀ c H,Rep K c H pv v
theorem ajb {x:Str} {pv:PV} {pos:Pos} (hg:Gl X x) (hm:GlT K X.mg x pv) (hd:(x == ("__debug__":Str))=false:=by decide):PEp K cl E X (.Name x pos) (mC pv):=fun _=>by
 obtain ⟨u,v,hm,r,hr⟩:=hm
 exact (aii hg hm r hd).imp fun σ H Q ⟨p,S,ρ,s,e,h⟩=>aaV.ret (R:=RepA K) (x:=v) h s (hr p.c H)
theorem abX:∀ c H,Reps K c H [] []:=fun c H=>by
 unfold Reps
 rfl
theorem aaw {p:PV} {ps:List PV} {v:V} {vs:List V} (h:∀ c H,Rep K c H p v) (t:∀ c H,Reps K c H ps vs):∀ c H,Reps K c H (p :: ps) (v :: vs):=fun c H=>by
 unfold Reps
 exact ⟨v,vs,rfl,h c H,t c H⟩
theorem aa6 {i:Int}:∀ c H,Rep K c H (.int i) (.int i):=fun c H=>by
 unfold Rep
 rfl
theorem abW {a:Addr} {od:Option Addr} {its:Array Value} {n:Nat} {sl:Array (Option Value)} {xs:List PV} {vs:List V} (l:K.lookup a=some ⟨.type "tuple",od,.seq its n,sl⟩) (hs:its.size≤sizeLine) (hv:Vals vs its.toList) (hl:vs.length≤sizeLine) (t:∀ c H,Reps K c H xs vs):∀ c H,Rep K c H (.tup xs) (.ref a):=fun c H=>by
 unfold Rep
 exact ⟨a,vs,rfl,.inr ⟨_,its,n,l,rfl,rfl,hs,hv⟩,hl,t c H⟩
end
end L2.Pp
namespace L2.Pp
open PySem PySem.Spec PyProof.Rows Bn
section
variable {K:PySem.W.Frag} {cl:Str→Addr} {E:XK} {X:Cx}
end
end L2.Pp
namespace L2.Pp
open PySem PySem.Spec PyProof.Rows Bn
section
variable {K:PySem.W.Frag} {cl:Str→Addr} {E:XK} {X:Cx}
variable {a e:Expr} {m:ME} {ms:MA} {pos:Pos}
end
end L2.Pp
namespace L2.Pp
open PySem PySem.Spec PyProof.Rows Bn
section
variable {M:Model} {A:Around} {E:Value→Shared→Prop} {s:Shared} {env:Env}
def afs (M:Model) (A:Around) (E:Value→Shared→Prop) (Q:Value→Shared→Prop) (acc:Value) (c:Env):Result→Shared→Prop
 | .ok _,s'=>∃ m,s'.heap.Ns c.locals m∧∀ h',Heap.SameBut c.locals s'.heap h'→Q acc { s' with heap:=h' }
 | .error x,s'=>∃ m,s'.heap.Ns c.locals m∧∀ h',Heap.SameBut c.locals s'.heap h'→wpAny M A (PySem.passOn "comprehension.variables-let-go" x c:Sem Value) (fun _ _=>False) E { s' with heap:=h' }
theorem ajP {e:Expr} {sc:Scope} {pos:Pos} {newAcc first:Sem Value} {g:Comprehension} {gs:List Comprehension} {cl:List (Str × Addr)} {Q:Value→Shared→Prop}
  (hc:clausesOf e=g :: gs) (hs:∀ x,foldedSetIterable g.iter env x=pure x) (hcl:closureFor sc env=pure cl) (hk:sc.kind=.function) (hn:∀ x∈sc.names,x.2=.local→sc.names.lookup x.1=some .local)
  (h:wpAny M A first (fun x s1=>wpAny M A (pyIter x) (fun it s2=>wpAny M A newAcc (fun acc s3=>wpAny M A (newFunctionEnv sc env.globals cl [] env.qual none .none (some env)) (fun c s4 =>
    codeAny M A (.compStart e 0 it acc { c with scope:=relabel sc env }) (afs M A E Q acc { c with scope:=relabel sc env }) s4) E s3) E s2) E s1) E s) :
  wpAny M A (comprehension e sc env pos newAcc false first none) Q E s:=by
 unfold comprehension
 rw [hcl,hc]
 refine wpAny_bind (thn h fun x s1 h1=>wpAny_bind (wpAny_standAt (wpAny_bind (wpAny_of_eq (hs x) (wpAny_bind (wpAny_holding (thn h1 fun it s2 h2=>?_)))))))
 refine wpAny_standIf (wpAny_bind (thn h2 fun acc s3 h3=>wpAny_bind (wpAny_pure (wpAny_bind (thn h3 fun c s4 h4=>?_)))))
 dsimp only
 have loc:∀ x∈(sc.names.filter fun x=>(x.2 == .local || x.2 == .cell) && x.1 != (".0":Str)).reverse,x.2=.local→Env.kindOf { c with scope:=relabel sc env } x.1=some .local:=fun x hx hl =>
  lookup_relabel_local (hn x (List.mem_filter.mp (List.mem_reverse.mp hx)).1 hl)
 refine wpAny_holding (wpAny_bind (wpAny_attempt (wpAny_holding (wpAny_run (codeAny_mono h4 fun r s' hr=>?_)))))
 cases r with
 | ok f =>
  obtain ⟨m,hm,hr⟩:=hr
  exact wpAny_bind (wpAny_holding (wpAny_comp_letGo (cenv:={ c with scope:=relabel sc env }) hk _ s' m loc hm fun h' _ _ sb=>wpAny_pure (hr h' sb)))
 | error x =>
  obtain ⟨m,hm,hr⟩:=hr
  exact wpAny_bind (wpAny_holding (wpAny_comp_letGo (cenv:={ c with scope:=relabel sc env }) hk _ s' m loc hm fun h' _ _ sb=>wpAny_mono (hr h' sb) (fun _ _ z=>z.elim) fun _ _ y=>y))
end
section
variable {prog:Program} {w:World} {A:Around} {R:Result→Shared→Prop} {s:Shared}
theorem alG {elt target iter:Expr} {sc:Scope} {pos:Pos} {it acc:Value} {env:Env} (I:Nat→Shared→Prop)
  (turn:∀ n s,I n s→wpAny (model prog w) A (pyNext it) (fun r s1=>match r with
   | none=>R (.ok .next) s1
   | some v=>wpAny (model prog w) A (letOwnedTupleGo target it v) (fun _ s2=>wpAny (model prog w) A (assign target env v) (fun _ s3=>wpAny (model prog w) A (eval elt env)
     (fun x s4=>wpAny (model prog w) A (call (.builtin "list.append") [acc,x]) (fun _ s5=>∃ m,m < n∧I m s5) (fun _ _=>False) s4) (notedBy (model prog w) A env fun x s'=>R (.error x) s') s3) (fun _ _=>False) s2) (fun _ _=>False) s1) (fun _ _=>False) s)
  (n:Nat) (h:I n s):codeAny (model prog w) A (.compLoop (.ListComp elt [⟨target,iter,[],0⟩] sc pos) 0 it acc env) R s:=by
 refine codeAny_loop rfl I (fun n s hI=>?_) n h
 show wpAny _ _ ((compTurn (.ListComp elt [⟨target,iter,[],0⟩] sc pos) 0 it acc env).onRaise (fun x=>do noteFrame x env; theTreesLotGoes x)) _ _ s
 refine wpAny_noted ?_
 rw [compTurn_list1]
 refine wpAny_bind (wpAny_standAt (wpAny_bind ?_))
 refine wpAny_mono (turn n s hI) (fun r s1 h1=>?_) fun _ _ z=>z.elim
 cases r with
 | none=>exact wpAny_pure h1
 | some v =>
  refine wpAny_bind (wpAny_mono h1 (fun _ s2 h2=>?_) fun _ _ z=>z.elim)
  refine wpAny_bind (wpAny_mono h2 (fun _ s3 h3=>?_) fun _ _ z=>z.elim)
  refine wpAny_bind (wpAny_bind (wpAny_mono h3 (fun x s4 h4=>?_) fun _ _ z=>z))
  refine wpAny_bind (wpAny_mono h4 (fun _ s5 h5=>?_) fun _ _ z=>z.elim)
  exact wpAny_pure (wpAny_pure ⟨rfl,h5⟩)
end
def acR (B:Heap) (C:Addr):Heap:={ B with objs:=B.objs.setIfInBounds C ⟨.none,none,.freed,#[]⟩ }
theorem aev {B:Heap} {C:Addr}:(acR B C).get? C=none:=by
 unfold acR Heap.get?
 dsimp only
 by_cases h:C < B.objs.size
 ·rw [Array.getElem?_setIfInBounds_self_of_lt h]
 ·rw [Array.getElem?_eq_none (by rw [Array.size_setIfInBounds]; exact Nat.le_of_not_lt h)]
theorem adu {B:Heap} {C b:Addr} (h:b≠C):(acR B C).get? b=B.get? b:=by
 unfold acR Heap.get?
 dsimp only
 rw [Array.getElem?_setIfInBounds_ne (Ne.symm h)]
theorem adb {B:Heap} {C b:Addr} (h:B.get? b=none):(acR B C).get? b=none:=by
 by_cases z:b=C
 ·rw [z]; exact aev
 ·rw [adu z]; exact h
theorem agX {B:Heap} {C b:Addr} {o:Obj} (h:(acR B C).get? b=some o):b≠C∧B.get? b=some o:=by
 by_cases z:b=C
 ·rw [z,aev] at h; cases h
 ·rw [adu z] at h; exact ⟨z,h⟩
theorem aiY {B h h':Heap} {l:List Env} {e L C:Addr} {cls a0:Value} (hC:∃ o,B.get? C=some o) (hh:Heap.HeldW B l e cls a0 L h) (sb:Heap.SameBut C h h'):Heap.HeldW (acR B C) l e cls a0 L h':=by
 obtain ⟨oC,hC⟩:=hC
 have ne:∀ {b},B.get? b=none→b≠C:=fun {b} hb z=>by
  rw [z,hC] at hb
  cases hb
 obtain ⟨k1,k2,k3,k4⟩:=hh
 refine ⟨fun b o hb=>?_,adb k2,?_,?_⟩
 ·obtain ⟨z,hb⟩:=agX hb
  rw [sb.2 b z]
  exact k1 b o hb
 ·clear k4
  induction l with
  | nil=>trivial
  | cons env rest ih =>
   obtain ⟨a,⟨L0,o,hf,hn,ho,hd⟩,hr⟩:=k3
   exact ⟨a,⟨L0,o,hf,adb hn,(sb.2 L0 (ne hn)).trans ho,hd⟩,ih hr⟩
 ·obtain ⟨oe,vs,T,oT,ts,he,hcls,hd,h1,hnT,hTe,hT,hdT,h3⟩:=k4
  exact ⟨oe,vs,T,oT,ts,(sb.2 e (ne k2)).trans he,hcls,hd,h1,adb hnT,hTe,(sb.2 T (ne hnT)).trans hT,hdT,h3⟩
theorem aiH {e:Value} {c env:Env} (h:c.frame=env.frame):noteFrame e c=noteFrame e env:=by
 unfold noteFrame PySem.frameOf
 rw [h]
theorem ajC {M:Model} {A:Around} {E:Value→Shared→Prop} {s:Shared} {α:Type} {Q:α→Shared→Prop} {B:Heap} {l:List Env} {e L:Addr} {cls a0:Value} {c:Env} {what:String} (hf:c.frame=some L) (hh:Heap.HeldW B l e cls a0 L s.heap)
  (h:∀ h',Heap.HeldW B l e cls a0 L h'→(∀ b o,s.heap.get? b=some o→(∀ vs,o.data≠.fields vs)→h'.get? b=some o)→E (.ref e) { s with heap:=h' }):wpAny M A (PySem.passOn what (.ref e) c:Sem α) Q E s:=by
 obtain ⟨k1,k2,k3,oe,vs,T,oT,ts,he,hcls,hd,h1,hnT,hTe,hT,hdT,h3⟩:=hh
 have hsz3:3 < ts.size:=(Array.getElem?_eq_some_iff.mp h3).1
 have other:∀ b,b≠T→(s.heap.update T (Obj.mapFields (·.setIfInBounds 3 (rawInt L)))).get? b=s.heap.get? b:=fun b hb=>Heap.get?_update_other _ _ (Ne.symm hb)
 have noRec:∀ b o,s.heap.get? b=some o→(∀ vs,o.data≠.fields vs)→b≠T:=fun b o hb hnf q=>by
  rw [q,hT] at hb; injection hb with hb; subst hb; exact hnf ts hdT
 unfold PySem.passOn
 refine wpAny_bind (wpAny_field he hd h1 ?_)
 rw [if_neg (show ¬ ((Value.ref T == Value.none)=true) from by simp)]
 refine wpAny_bind ?_
 unfold setFlight
 rw [hf]
 refine wpAny_bind (wpAny_field he hd h1 ?_)
 rw [if_pos (show (Value.ref T != Value.none)=true from by simp)]
 refine wpAny_setField hT hdT hsz3 (wpAny_throw (h _ ⟨fun b o hbo=>(other b fun q=>by rw [q,hnT] at hbo; cases hbo).trans (k1 b o hbo),k2,k3.of_keeps fun b o hb hnf=>⟨o,(other b (noRec b o hb hnf)).trans hb,rfl⟩,?_⟩ fun b o hb hnf=>(other b (noRec b o hb hnf)).trans hb))
 exact ⟨oe,vs,T,_,_,(other e (Ne.symm hTe)).trans he,hcls,hd,h1,hnT,hTe,Heap.get?_update_self _ hT (Obj.isFreed_of_fields (Obj.data_mapFields hdT _)),Obj.data_mapFields hdT _,by simp [hsz3]⟩
end L2.Pp
namespace L2
open PySem PySem.Spec PyProof.Rows Bn
section
variable {X:Cx} {pins:List (Addr × Obj)} {σ:St} {H H':Hp} {s s':Shared}
theorem Inv.flownC {B h5:Heap} {C:Addr} (I:Inv X pins σ H s) (hC:FpOk X pins H C) (os:s'.os=s.os) (bare:AllBare s'.gens) (un:Un (frs X.stack) [] H H' s.heap s'.heap) (hok:HOk X.prog X.w H' s'.heap)
  (cov:∀ b o,s'.heap.get? b=some o→(∃ u,H' b=some u)∨(∃ o',s.heap.get? b=some o'∧b ∉ frs X.stack)→b≠C→B.get? b=some o) (fr:∀ b∈frs X.stack,H' b=none) (hn:H' C=none)
  (st:B.StaysIn h5) (up:∀ b o,b≠C→s'.heap.get? b=some o→(∀ vs,o.data≠.fields vs)→∃ sl,h5.get? b=some { o with slots:=sl }):Inv X pins σ H' { s' with heap:=h5 }:=by
 have one:∀ {b},b ∉ [C]→b≠C:=fun {b} h z=>h (by rw [z]; exact List.mem_singleton.mpr rfl)
 have frame:∀ b∈frs X.stack,b≠C→∃ o sl,s.heap.get? b=some o∧H b=none∧h5.get? b=some { o with slots:=sl }:=fun b hb hx=>by
  obtain ⟨_,o,ho,hd⟩:=I.stack.mem hb
  have hn:=I.stkFree b hb
  obtain ⟨sl,g⟩:=un.slot b o ho hn hb (by intro z; cases z)
  obtain ⟨sl',g'⟩:=up b _ hx g hd
  exact ⟨o,sl',ho,hn,g'⟩
 refine I.call' (s':={ s' with heap:=h5 }) (ch:=[C]) os ⟨fun b o q n hb hx=>?_,fun b o q n hb hx=>?_,fun b o q n _=>un.free b o q n (by intro z; cases z),fun b o q hx=>?_,un.tups,un.frzs,un.tbls⟩ (fun b u q=>?_) bare fun b z=>?_
 ·exact st b o (cov b o (un.keep b o q n hb (by intro z; cases z)) (.inr ⟨o,q,hb⟩) (one hx))
 ·obtain ⟨o',sl,g1,_,g2⟩:=frame b hb (one hx)
  rw [q] at g1
  cases g1
  exact ⟨sl,g2⟩
 ·by_cases c:b∈frs X.stack
  ·obtain ⟨o',sl,_,_,g2⟩:=frame b c (one hx)
   exact ⟨_,g2⟩
  ·obtain ⟨o',g⟩:=un.there b o q (by intro z; cases z)
   exact ⟨o',st b o' (cov b o' g (.inr ⟨o,q,c⟩) (one hx))⟩
 ·refine (hok b u q).stay (fun c v hc g=>?_) (fun _ g=>g) fun _ _ g=>g
  have nc:∀ {y},H' c=some y→c≠C:=fun {y} e z=>by
   rw [z,hn] at e
   cases e
  rcases hc with z | z
  ·have q':H' c=some u:=by rw [z]; exact q
   exact st c v (cov c v g (.inl ⟨u,q'⟩) (nc q'))
  ·exact st c v (cov c v g (.inl ⟨_,z⟩) (nc z))
 ·have z:b=C:=List.mem_singleton.mp z
  subst z
  obtain ⟨_,f1,_,f3,f4,f5⟩:=hC
  exact ⟨f3,f1,f4,f5⟩
end
end L2
namespace L2
open PySem PySem.Spec PyProof.Rows Bn L2.Pp
section
variable {P:Program} {w:World} {K:PySem.W.Frag} {mg:Str→Option Value} {base:Heap} {N:List Str} {qual:Str} {scope:Scope} {f:Addr} {cd:Value} {A:Around} {outer:List Env} {s₀:Shared} {H₀:Hp} {E:XK}
theorem aom {pins:List (Addr × Obj)} {σ:St} {H2 H3:Hp} {s2 s3:Shared} {sc:Scope} {Nb:List Str} {C:Addr} {fp:List Addr} {Qf:Value→Shared→Prop} {acc:Value}
  (I2:Inv (cxOf (CX1 P w) P w K mg base N qual scope f cd A outer s₀ H₀ E) pins σ H2 s2) (f2:∀ b∈fp,FpOk (cxOf (CX1 P w) P w K mg base N qual scope f cd A outer s₀ H₀ E) pins H2 b) (un:Un (frs (cxOf (CX1 P w) P w K mg base N qual scope f cd A outer s₀ H₀ E).stack) fp H2 H3 s2.heap s3.heap) (os3:s3.os=s2.os)
  (hF:∀ H:Hp,H C=none→FpOk (cxOf (CX1 P w) P w K mg base N qual scope f cd A outer s₀ H₀ E) pins H C) (hCf:C ∉ frs (cxOf (CX1 P w) P w K mg base N qual scope f cd A outer s₀ H₀ E).stack) (hC0:∀ o,s₀.heap.get? C≠some o) :
  adU (CX1 P w) ((abw (cxOf (CX1 P w) P w K mg base N qual scope f cd A outer s₀ H₀ E) sc Nb C s3 H3 fp).wish (notedBy (model P w) (cxOf (CX1 P w) P w K mg base N qual scope f cd A outer s₀ H₀ E).A (abw (cxOf (CX1 P w) P w K mg base N qual scope f cd A outer s₀ H₀ E) sc Nb C s3 H3 fp).env fun x s''=>afs (model P w) (cxOf (CX1 P w) P w K mg base N qual scope f cd A outer s₀ H₀ E).A (cxOf (CX1 P w) P w K mg base N qual scope f cd A outer s₀ H₀ E).xe Qf acc (abw (cxOf (CX1 P w) P w K mg base N qual scope f cd A outer s₀ H₀ E) sc Nb C s3 H3 fp).env (.error x) s'')) E:=by
 intro pl σ' H s e s' I c
 have J:=I.unwish
 obtain ⟨x,Cl,t,B,H',rfl,os,bare,un',hok,fl,cov,hE⟩:=c
 have fr:∀ b∈frs (cxOf (CX1 P w) P w K mg base N qual scope f cd A outer s₀ H₀ E).stack,H' b=none:=fun b hb=>by
  obtain ⟨_,o,ho,hd⟩:=J.stack.mem hb
  exact un'.free b o ho (J.stkFree b hb) (by intro z; cases z)
 have IX:=I2.uncmp f2 un os3 J
 show wpAny _ _ (noteFrame (.ref x) _) _ _ s'
 rw [aiH (c:=(abw (cxOf (CX1 P w) P w K mg base N qual scope f cd A outer s₀ H₀ E) sc Nb C s3 H3 fp).env) (env:=(cxOf (CX1 P w) P w K mg base N qual scope f cd A outer s₀ H₀ E).env) rfl]
 refine wpAny_looks_onW IX.ok.frames rfl fl fun h1 held up=>?_
 have J5:=J.flown os bare un' hok cov fr held.1 up
 obtain ⟨m,hn,_⟩:=id J5.loc
 refine ⟨m,hn,fun h2 sb=>?_⟩
 obtain ⟨mC,hnC,_⟩:=id J.loc
 obtain ⟨oC,_,_,hoC,_⟩:=hnC
 obtain ⟨oC',gC⟩:=un'.there C oC hoC (by intro z; cases z)
 have hCB:∃ o,B.get? C=some o:=⟨oC',cov C oC' gC (.inr ⟨oC,hoC,hCf⟩)⟩
 have held2:=aiY hCB held sb
 have hHC:H C=none:=J.free
 have hnC':H' C=none:=un'.free C oC hoC hHC (by intro z; cases z)
 refine ajC rfl held2 fun h3 held3 keep=>?_
 show wpAny _ _ (leaving _ (.ref x)) _ _ _
 unfold leaving
 refine wpAny_bind (wpAny_noteFrame_againW rfl held3.2.2.2 ?_)
 refine wpAny_landsW held3 fun h4 fl4 up4=>?_
 have I4:=IX.flownC (s':=s') (B:=acR B C) (h5:=h4) (hF H hHC) os bare un' hok (fun b o g d hb=>by rw [adu hb]; exact cov b o g d) fr hnC' fl4.1 (fun b o hb g hnf=>by
  obtain ⟨sl,g1⟩:=up b o g hnf
  have g2:=(sb.2 b hb).trans g1
  have g3:=keep b _ g2 hnf
  obtain ⟨sl',g4⟩:=up4 b _ g3 hnf
  exact ⟨sl',g4⟩)
 have nL:∀ {b o},s₀.heap.get? b=some o→b ∉ frs outer→b ∉ frs (envOfC qual scope s₀.heap.objs.size f cd :: outer):=fun {b o} q z y=>by
  rcases List.mem_cons.mp (IX.stkSub b y) with g | g
  ·exact absurd (Nat.lt_of_lt_of_le (Heap.lt_size q) IX.ok.above) (by rw [g]; exact Nat.lt_irrefl _)
  ·exact z g
 obtain ⟨k1,k2,⟨_,_,k3⟩,k4⟩:=fl4
 refine ⟨x,Cl,t,acR B C,H',rfl,os.trans IX.os,bare,I4.base,I4.hok,⟨k1,k2,k3,k4⟩,fun b o q z=>?_,hE⟩
 have go:∀ {o2},B.get? b=some o2→b≠C→(acR B C).get? b=some o:=fun {o2} g hb=>by
  have g':(acR B C).get? b=some o2:=by rw [adu hb]; exact g
  have:=k1 b o2 g'
  have q':h4.get? b=some o:=q
  rw [q'] at this
  cases this
  exact g'
 rcases z with ⟨u,z⟩ | ⟨o',z,nz⟩
 ·obtain ⟨o2,g⟩:=(hok b u z).has
  exact go (cov b o2 g (.inl ⟨u,z⟩)) fun y=>by rw [y,hnC'] at z; cases z
 ·obtain ⟨o2,g⟩:=IX.base.there b o' z (by intro z; cases z)
  obtain ⟨o3,g3⟩:=un'.there b o2 g (by intro z; cases z)
  exact go (cov b o3 g3 (.inr ⟨o2,g,nL z nz⟩)) fun y=>hC0 o' (by rw [← y]; exact z)
end
end L2
namespace L2
open PySem PySem.Spec PyProof.Rows Bn L2.Pp
section
variable {P:Program} {w:World} {K:PySem.W.Frag} {mg:Str→Option Value} {base:Heap} {N:List Str} {qual:Str} {scope:Scope} {f:Addr} {cd:Value} {A:Around} {outer:List Env} {s₀:Shared} {H₀:Hp} {E:XK}
variable {sc:Scope} {own:List Str} {cap:List (Nat × Str)} {pins:List (Addr × Obj)} {σ:St} {H:Hp} {s:Shared} {elt target iter:Expr} {pos pos':Pos} {wi:TI} {g:TG} {te:TE} {Q:VK}
theorem ahR {Qf:Value→Shared→Prop} (k:adO (cxOf (CX1 P w) P w K mg base N qual scope f cd A outer s₀ H₀ E) sc own cap) (hi:PI (cxOf (CX1 P w) P w K mg base N qual scope f cd A outer s₀ H₀ E) target iter wi) (hc:(cxOf (CX1 P w) P w K mg base N qual scope f cd A outer s₀ H₀ E).calm=true)
  (hg:∀ C s₁ H₁ ex,PG (abw (cxOf (CX1 P w) P w K mg base N qual scope f cd A outer s₀ H₀ E) sc (cmpN own cap) C s₁ H₁ ex) target g) (he:∀ C s₁ H₁ ex E',adU (CX1 P w) ((abw (cxOf (CX1 P w) P w K mg base N qual scope f cd A outer s₀ H₀ E) sc (cmpN own cap) C s₁ H₁ ex).wish E') E→PE ((abw (cxOf (CX1 P w) P w K mg base N qual scope f cd A outer s₀ H₀ E) sc (cmpN own cap) C s₁ H₁ ex).wish E') elt te) (I:Inv (cxOf (CX1 P w) P w K mg base N qual scope f cd A outer s₀ H₀ E) pins σ H s) (h:aiA own cap wi g te σ H Q)
  (fin:∀ D C s' H' m,Inv (cxOf (CX1 P w) P w K mg base N qual scope f cd A outer s₀ H₀ E) pins σ H' s'→FpOk (cxOf (CX1 P w) P w K mg base N qual scope f cd A outer s₀ H₀ E) pins H' C→s'.heap.Ns C m→Q (.ref D) H'→∃ m,s'.heap.Ns C m∧∀ h',Heap.SameBut C s'.heap h'→Qf (.ref D) { s' with heap:=h' })
  (hs:∀ x,foldedSetIterable iter (cxOf (CX1 P w) P w K mg base N qual scope f cd A outer s₀ H₀ E).env x=pure x) :
  wpAny (model (cxOf (CX1 P w) P w K mg base N qual scope f cd A outer s₀ H₀ E).prog (cxOf (CX1 P w) P w K mg base N qual scope f cd A outer s₀ H₀ E).w) (cxOf (CX1 P w) P w K mg base N qual scope f cd A outer s₀ H₀ E).A (comprehension (.ListComp elt [⟨target,iter,[],0⟩] sc pos) sc (cxOf (CX1 P w) P w K mg base N qual scope f cd A outer s₀ H₀ E).env pos' (newList []) false (eval iter (cxOf (CX1 P w) P w K mg base N qual scope f cd A outer s₀ H₀ E).env) none) Qf (cxOf (CX1 P w) P w K mg base N qual scope f cd A outer s₀ H₀ E).xe s:=by
 refine ajP rfl hs (ai4 (k.has I.ok)) k.kind k.names ?_
 refine thn (hi pins s σ H _ I h) fun v s1 h1=>thn h1 fun itv s2 h2=>?_
 obtain ⟨it,fp,tn,J,H2,e,I2,T,st2,f2,hW⟩:=h2
 subst e
 refine wpAny_newObj_type (wpAny_newFunctionEnv k.nocell (fun y hy=>nomatch hy) (fun h4 hns hsb=>?_) k.kind)
 have I3:Inv (cxOf (CX1 P w) P w K mg base N qual scope f cd A outer s₀ H₀ E) pins σ (upd H2 s2.heap.objs.size (.lst [])) { s2 with heap:=s2.heap.push { cls:=.type "list",data:=.seq ([]:List Value).toArray },toks:=s2.toks }:=I2.lnew (ys:=[]) (its:=[]) .nil (Nat.zero_le _)
 have hD:H2 s2.heap.objs.size=none:=I2.fresh
 have ltf:∀ b∈fp,b < s2.heap.objs.size:=fun b hb=>by
  obtain ⟨o,ho,_⟩:=T.obj _ _ st2 b hb
  exact Heap.lt_size ho
 have f3:∀ b∈fp,FpOk (cxOf (CX1 P w) P w K mg base N qual scope f cd A outer s₀ H₀ E) pins (upd H2 s2.heap.objs.size (.lst [])) b:=fun b hb=>⟨by rw [aaF (Nat.ne_of_lt (ltf b hb))]; exact (f2 b hb).1,(f2 b hb).2⟩
 have un:Un (frs (cxOf (CX1 P w) P w K mg base N qual scope f cd A outer s₀ H₀ E).stack) fp H2 (upd H2 s2.heap.objs.size (.lst [])) s2.heap (s2.heap.push { cls:=.type "list",data:=.seq ([]:List Value).toArray }):=Un.laid (fun b u q=>Heap.get?_push_of_some _ q) (Nat.le_refl _) hD
 have kp:∀ b o,(s2.heap.push { cls:=.type "list",data:=.seq ([]:List Value).toArray }).get? b=some o→h4.get? b=some o:=fun b o q=>hsb.extBut b o (Nat.ne_of_lt (Heap.lt_size q)) (Heap.get?_push_of_some _ q)
 have J0:=I3.cmp (t':=s2.toks+([]:List (Str × Value)).length) k f3 (fun b hb=>Nat.lt_of_lt_of_le (ltf b hb) (by rw [Heap.size_push]; exact Nat.le_succ _)) hns kp
 have stat:∀ {H':Hp},(∀ b∈fp,H' b=none)→∀ b∈fp,FpOk (abw (cxOf (CX1 P w) P w K mg base N qual scope f cd A outer s₀ H₀ E) sc (cmpN own cap) (s2.heap.push { cls:=.type "list",data:=.seq ([]:List Value).toArray }).objs.size { s2 with heap:=s2.heap.push { cls:=.type "list",data:=.seq ([]:List Value).toArray },toks:=s2.toks } (upd H2 s2.heap.objs.size (.lst [])) fp) [] H' b:=fun hn b hb =>
  ⟨hn b hb,(J0.ok.exf b hb).1,J0.ok.exfs b hb,.inl hb,(J0.ok.exf b hb).2,fun p hp=>absurd (show p∈([]:List (Addr × Obj)) from hp) (by simp)⟩
 have st4:tn 0 h4:=T.keep _ _ _ st2 fun b hb o q=>kp b o (Heap.get?_push_of_some _ q)
 have fr0:∀ b∈fp,(upd H2 s2.heap.objs.size (.lst [])) b=none:=fun b hb=>(f3 b hb).1
 have hCf:(s2.heap.push { cls:=.type "list",data:=.seq ([]:List Value).toArray }).objs.size ∉ frs (cxOf (CX1 P w) P w K mg base N qual scope f cd A outer s₀ H₀ E).stack:=fun hb=>by
  obtain ⟨_,o,ho,hd⟩:=I3.stack.mem hb
  exact Nat.lt_irrefl _ (Heap.lt_size ho)
 have hC0:∀ o,s₀.heap.get? (s2.heap.push { cls:=.type "list",data:=.seq ([]:List Value).toArray }).objs.size≠some o:=fun o ho=>by
  obtain ⟨m,⟨oL,_,_,hoL,_⟩,_⟩:=id I3.loc
  exact Nat.lt_irrefl _ (Nat.lt_trans (Nat.lt_of_lt_of_le (Heap.lt_size ho) I3.ok.above) (Heap.lt_size hoL))
 have loop:codeAny (model (cxOf (CX1 P w) P w K mg base N qual scope f cd A outer s₀ H₀ E).prog (cxOf (CX1 P w) P w K mg base N qual scope f cd A outer s₀ H₀ E).w) (cxOf (CX1 P w) P w K mg base N qual scope f cd A outer s₀ H₀ E).A (.compLoop (.ListComp elt [⟨target,iter,[],0⟩] sc pos) 0 (.ref it) (.ref s2.heap.objs.size) (compEnvC sc (adB (cxOf (CX1 P w) P w K mg base N qual scope f cd A outer s₀ H₀ E).env sc.names []) (s2.heap.push { cls:=.type "list",data:=.seq ([]:List Value).toArray }).objs.size (cxOf (CX1 P w) P w K mg base N qual scope f cd A outer s₀ H₀ E).env))
   (afs (model (cxOf (CX1 P w) P w K mg base N qual scope f cd A outer s₀ H₀ E).prog (cxOf (CX1 P w) P w K mg base N qual scope f cd A outer s₀ H₀ E).w) (cxOf (CX1 P w) P w K mg base N qual scope f cd A outer s₀ H₀ E).A (cxOf (CX1 P w) P w K mg base N qual scope f cd A outer s₀ H₀ E).xe Qf (.ref s2.heap.objs.size) (compEnvC sc (adB (cxOf (CX1 P w) P w K mg base N qual scope f cd A outer s₀ H₀ E).env sc.names []) (s2.heap.push { cls:=.type "list",data:=.seq ([]:List Value).toArray }).objs.size (cxOf (CX1 P w) P w K mg base N qual scope f cd A outer s₀ H₀ E).env)) { s2 with heap:=h4,toks:=s2.toks+([]:List (Str × Value)).length }:=by
  obtain ⟨W,⟨m0,w0⟩,turn⟩:=hW s2.heap.objs.size hD
  refine alG (fun n s'=>∃ i σ' H' ys,Inv (abw (cxOf (CX1 P w) P w K mg base N qual scope f cd A outer s₀ H₀ E) sc (cmpN own cap) (s2.heap.push { cls:=.type "list",data:=.seq ([]:List Value).toArray }).objs.size { s2 with heap:=s2.heap.push { cls:=.type "list",data:=.seq ([]:List Value).toArray },toks:=s2.toks } (upd H2 s2.heap.objs.size (.lst [])) fp) [] σ' H' s'∧tn i s'.heap∧(∀ b∈fp,H' b=none)∧W i n σ' H' ys) ?_ m0
   ⟨0,_,_,[],J0,st4,fr0,w0⟩
  rintro n s5 ⟨i,σ5,H5,ys,I5,st5,fr5,w5⟩
  obtain ⟨hD5,w5⟩:=turn i n σ5 H5 ys w5
  rcases w5 with ⟨stop,qn⟩ | ⟨go,hlt,step⟩
  ·refine thn (T.done (abw (cxOf (CX1 P w) P w K mg base N qual scope f cd A outer s₀ H₀ E) sc (cmpN own cap) (s2.heap.push { cls:=.type "list",data:=.seq ([]:List Value).toArray }).objs.size { s2 with heap:=s2.heap.push { cls:=.type "list",data:=.seq ([]:List Value).toArray },toks:=s2.toks } (upd H2 s2.heap.objs.size (.lst [])) fp) rfl rfl rfl hc i [] s5 σ5 H5 _ I5 (stat fr5) st5 stop) fun r s6 ⟨hr,I6⟩=>?_
   subst hr
   obtain ⟨m,hn,_⟩:=id I6.loc
   exact fin _ _ s6 H5 m (I2.uncmp (s3:={ s2 with heap:=s2.heap.push { cls:=.type "list",data:=.seq ([]:List Value).toArray },toks:=s2.toks }) f2 un rfl I6) (I3.fpOk (Nat.le_refl _) I6.free) hn qn
  ·refine thn (T.item (abw (cxOf (CX1 P w) P w K mg base N qual scope f cd A outer s₀ H₀ E) sc (cmpN own cap) (s2.heap.push { cls:=.type "list",data:=.seq ([]:List Value).toArray }).objs.size { s2 with heap:=s2.heap.push { cls:=.type "list",data:=.seq ([]:List Value).toArray },toks:=s2.toks } (upd H2 s2.heap.objs.size (.lst [])) fp) rfl rfl rfl hc i [] s5 σ5 H5 _ I5 (stat fr5) st5 go) fun r s6 ⟨u,hr,h6⟩=>?_
   subst hr
   refine thn h6 fun _ s7 ⟨x,H7,I7,r7,y7,st7,fr7⟩=>?_
   have I7':=I7.pinned (stat fr7) (T.obj _ _ st7)
   refine thn (hg _ _ _ _ _ s7 σ5 H7 x u _ I7' r7 (step x H7 y7)) fun _ s8 ⟨σ8,H8,I8,q8⟩=>?_
   refine thn (he _ _ _ _ _ (aom (s3:={ s2 with heap:=s2.heap.push { cls:=.type "list",data:=.seq ([]:List Value).toArray },toks:=s2.toks }) I2 f2 un rfl (fun H hH=>I3.fpOk (Nat.le_refl _) hH) hCf hC0) _ s8 σ8 H8 _ (I8.wish _) q8) fun v9 s9 ⟨y,H9,I9,r9,hD9,m',hm,w9⟩=>?_
   have I9:=I9.unwish
   refine thn (aet _ s9 σ8 H9 (.ref s2.heap.objs.size) [y] (.ref s2.heap.objs.size) [v9] (fun _ H'=>H'=upd H9 s2.heap.objs.size (.lst (ys++[y]))) I9 rfl (.cons r9 .nil) ⟨_,ys,y,rfl,rfl,hD9,hlt,rfl⟩) fun _ s10 ⟨_,H10,I10,_,q10⟩=>?_
   subst q10
   refine ⟨m',hm,i+1,σ8,_,_,I10.unpinned,T.keep _ _ _ st7 fun b hb o q=>(I10.pin (b,o) (List.mem_append_right _ (List.mem_append_right _ (ab9 hb q)))).1,fun b hb=>?_,w9⟩
   obtain ⟨o,q,d⟩:=T.obj _ _ st7 b hb
   exact (I10.pin (b,o) (List.mem_append_right _ (List.mem_append_right _ (ab9 hb q)))).2.1
 exact codeAny_compStart_list loop (T.self _ 0 _ _ _ st4 loop)
end
end L2
namespace L2.Pp
open PySem PySem.Spec PyProof.Rows Bn
open Classical in
noncomputable def abA (G:Gd) (g:GM) (me:ME):List PV→Rho→Sto→Res (List PV)
 | [],_,S=>if gOk G S then .ok [] S else .fail
 | x :: r,ρ,S=>if gOk G S then (match g x ρ with
  | none=>.fail
  | some ρ1=>match me ρ1 S with
   | .ok (.pv y) S1=>match abA G g me r ρ1 S1 with
    | .ok ys S2=>.ok (y :: ys) S2
    | .exc n S2=>.exc n S2
    | .fail=>.fail
   | .ok (.ref _) _=>.fail
   | .exc n S1=>.exc n S1
   | .fail=>.fail) else .fail
section
variable {K:PySem.W.Frag} {cl:Str→Addr} {E:XK} {X:Cx} {p q:Ph} {H H':Hp} {S:Sto}
def aj8 (K:PySem.W.Frag) (cl:Str→Addr) (E:XK) (p:Ph) (H:Hp) (D:Addr) (Q:VK) (us:List PV):Res (List PV)→Prop
 | .ok ws S2=>∀ q H' vs,Step p H q H'→Sim K q S2 H'→Sim K (q.hold D) S2 H'→q.w D→D ∉ q.f→H' D=some (.lst vs)→vs.length≤sizeLine→Reps K q.c H' (us++ws) vs→Q (.ref D) H'
 | .exc n S2=>∀ q H',Step p H q H'→Sim K q S2 H'→E (.ref (cl n)) none H'
 | .fail=>False
theorem agf {G:Gd} {g:GM} {me:ME} {xs us:List PV} {ρ:Rho} {D:Addr} {Q:VK} (h:aj8 K cl E p H D Q us (abA G g me xs ρ S)):gOk G S:=by
 cases xs with
 | nil =>
  unfold abA at h
  split at h
  ·assumption
  ·exact h.elim
 | cons x r =>
  unfold abA at h
  split at h
  ·assumption
  ·exact h.elim
variable {sc:Scope} {own:List Str} {cap:List (Nat × Str)} {elt target iter:Expr} {pos:Pos} {mi:MI} {g:GM} {me:ME}
theorem ahY {σ:St} {ρ:Rho} {xs:List PV} {G:Gd} {J:It} {Q:VK} {D:Addr} (sm:Sim K p S H) (ev:RepE K p H ρ σ) (it:ItOk K p H (xs,G) J) (hD:H D=none) (kk:aj8 K cl E p H D Q [] (abA G g me xs (cmpR own cap ρ) S)) :
  cmpW J (gP K g) (tP K cl E (RepA K) me) (adX own cap σ) H D Q:=by
 obtain ⟨st0,sm0⟩:=sm.res (D:=D) (o:=.lst []) hD trivial
 have sh0:=sm.resHold (D:=D) (o:=.lst []) hD trivial
 have nf0:D ∉ p.f:=fun h=>sm.notin hD (sm.wc D (sm.sub D h))
 refine aiz xs.length it.1 (fun i σ1 H1 ys=>ys.length=i∧i≤xs.length∧H1 D=some (.lst ys)∧∃ p1 S1 ρ1 us,(Sim K p1 S1 H1∧Sim K (p1.hold D) S1 H1)∧Step p H p1 H1∧p1.w D∧D ∉ p1.f∧RepE K p1 H1 ρ1 σ1∧ItOk K p1 H1 (xs,G) J∧gOk G S1∧Reps K p1.c H1 us ys∧aj8 K cl E p H D Q us (abA G g me (xs.drop i) ρ1 S1)) ?_ ?_ ?_ ?_ ?_
 ·refine ⟨rfl,Nat.zero_le _,abl,p.res D,S,cmpR own cap ρ,[],⟨sm0,sh0⟩,st0,.inr rfl,nf0,ag8 (st0.repE ev),it.step st0,?_,.nil,by simpa using kk⟩
  exact agf kk
 ·rintro i σ1 H1 ys ⟨h1,_,h2,_⟩
  exact ⟨h1,h2⟩
 ·rintro i σ1 H1 ys hi ⟨_,_,_,p1,S1,ρ1,us,⟨sm1,sh1⟩,st1,w1,f1,ev1,it1,g1,_⟩
  exact ((it1.2 p1 H1 S1 sm1.step sm1 g1).1 i xs[i] (List.getElem?_eq_getElem hi)).1
 ·rintro i σ1 H1 ys x H2 hi ⟨hl,_,hH,p1,S1,ρ1,us,⟨sm1,sh1⟩,st1,w1,f1,ev1,it1,g1,r1,c1⟩ hy
  obtain ⟨same,rx⟩:=((it1.2 p1 H1 S1 sm1.step sm1 g1).1 i xs[i] (List.getElem?_eq_getElem hi)).2 x H2 hy
  rw [List.drop_eq_getElem_cons hi] at c1
  unfold abA at c1
  rw [if_pos g1] at c1
  cases gz:g xs[i] ρ1 with
  | none=>rw [gz] at c1; exact c1.elim
  | some ρ2 =>
   rw [gz] at c1
   dsimp only at c1
   have st2:=sm1.same same
   have sm2:=sm1.ofSame same
   have smh:=sh1.ofSame same
   have stS:Step p H p1 H2:=st1.trans st2
   refine ⟨p1,S1,ρ1,xs[i],ρ2,sm2,st2.repE ev1,rx,gz,fun σ3 ev3=>⟨p1.hold D,S1,ρ2,smh,⟨ev3.len,ev3.at_⟩,?_⟩⟩
   cases mz:me ρ2 S1 with
   | fail=>rw [mz] at c1; exact c1.elim
   | exc n S3 =>
    rw [mz] at c1
    intro q H4 st4 sm4
    have hD2:H2 D=some (.lst ys):=same _ _ hH
    have hD4:H4 D=some (.lst ys):=st4.keep D _ hD2 fun z=>z.2 rfl
    have fq:D ∉ q.f:=fun h=>by
     have:=st4.nf D h f1
     rw [hD2] at this
     cases this
    have stU:=Step.unhold w1 st4 sm2
    have nq:¬ q.w D:=fun z=>by
     have:=st4.nw D z fun y=>y.2 rfl
     rw [hD2] at this
     cases this
    have smU:Sim K ⟨q.f,fun a=>q.w a∨a=D,q.c⟩ S3 H4:=⟨sm4.nd,sm4.len,fun a h=>.inl (sm4.sub a h),fun a h=>h.elim (sm4.wc a) fun z=>z ▸ st4.mono D (sm2.wc D w1),sm4.mu,fun k a o e1 e2 =>
     (sm4.obj k a o e1 e2).mono (fun _ e=>e) (fun b w f=>⟨⟨.inl w,f⟩,fun _ e=>e⟩) fun _ _ r=>r⟩
    have shU:Sim K (Ph.hold ⟨q.f,fun a=>q.w a∨a=D,q.c⟩ D) S3 H4:=⟨sm4.nd,sm4.len,fun a h=>⟨.inl (sm4.sub a h),fun z=>nq (z ▸ sm4.sub a h)⟩,fun a h=>smU.wc a h.1,sm4.mu,fun k a o e1 e2 =>
     (sm4.obj k a o e1 e2).mono (fun _ e=>e) (fun b w f=>⟨⟨⟨.inl w,fun z=>nq (z ▸ w)⟩,f⟩,fun _ e=>e⟩) fun _ _ r=>r⟩
    exact c1 _ H4 ((stS.trans stU).toLess hD) shU.toLess
   | ok av S3 =>
    cases av with
    | ref k=>rw [mz] at c1; exact c1.elim
    | pv y =>
     rw [mz] at c1
     dsimp only at c1
     intro q H4 y' st4 sm4 ry
     have hD2:H2 D=some (.lst ys):=same _ _ hH
     have hD4:H4 D=some (.lst ys):=st4.keep D _ hD2 fun z=>z.2 rfl
     have fq:D ∉ q.f:=fun h=>by
      have:=st4.nf D h f1
      rw [hD2] at this
      cases this
     have stU:=Step.unhold w1 st4 sm2
     have nq:¬ q.w D:=fun z=>by
      have:=st4.nw D z fun y=>y.2 rfl
      rw [hD2] at this
      cases this
     have smU:Sim K ⟨q.f,fun a=>q.w a∨a=D,q.c⟩ S3 H4:=⟨sm4.nd,sm4.len,fun a h=>.inl (sm4.sub a h),fun a h=>h.elim (sm4.wc a) fun z=>z ▸ st4.mono D (sm2.wc D w1),sm4.mu,fun k a o e1 e2 =>
      (sm4.obj k a o e1 e2).mono (fun _ e=>e) (fun b w f=>⟨⟨.inl w,f⟩,fun _ e=>e⟩) fun _ _ r=>r⟩
     have shU:Sim K (Ph.hold ⟨q.f,fun a=>q.w a∨a=D,q.c⟩ D) S3 H4:=⟨sm4.nd,sm4.len,fun a h=>⟨.inl (sm4.sub a h),fun z=>nq (z ▸ sm4.sub a h)⟩,fun a h=>smU.wc a h.1,sm4.mu,fun k a o e1 e2 =>
      (sm4.obj k a o e1 e2).mono (fun _ e=>e) (fun b w f=>⟨⟨⟨.inl w,fun z=>nq (z ▸ w)⟩,f⟩,fun _ e=>e⟩) fun _ _ r=>r⟩
     have c2:aj8 K cl E p H D Q (us++[y]) (abA G g me (xs.drop (i+1)) ρ2 S3):=by
      cases cz:abA G g me (xs.drop (i+1)) ρ2 S3 with
      | fail=>rw [cz] at c1; exact c1.elim
      | exc n S4=>rw [cz] at c1; exact c1
      | ok ws S4 =>
       rw [cz] at c1
       intro q H' vs z1 z2 z3 z4 z5 z6 z7 r
       rw [List.append_assoc] at r
       exact c1 q H' vs z1 z2 z3 z4 z5 z6 z7 r
     obtain ⟨stG,smG,shG⟩:=smU.grow (ys:=ys) (D:=D) (o:=.lst (ys++[y'])) shU (.inr rfl) fq trivial
     have stA:=st2.trans (stU.trans stG)
     refine amF hi hD4 ⟨by rw [List.length_append,hl]; rfl,hi,abl,_,S3,ρ2,us++[y],⟨smG,shG⟩,st1.trans stA,.inr rfl,fq,stG.repE (stU.repE ev3),it1.step stA,agf c2,?_,c2⟩
     exact (stA.reps r1).append (.cons (stG.rep ry) .nil)
 ·rintro σ1 H1 ys ⟨hl,_,hH,p1,S1,ρ1,us,⟨sm1,sh1⟩,st1,w1,f1,ev1,it1,g1,r1,c1⟩
  rw [List.drop_length] at c1
  unfold abA at c1
  rw [if_pos g1] at c1
  refine ⟨(it1.2 p1 H1 _ sm1.step sm1 g1).2,?_⟩
  exact c1 p1 H1 ys st1 sm1 sh1 w1 f1 hH (by rw [hl]; exact it.1) (by rw [List.append_nil]; exact r1)
theorem ah0 {σ:St} {ρ:Rho} {xs:List PV × Gd} {J:It} {Q:VK} {D:Addr} (sm:Sim K p S H) (ev:RepE K p H ρ σ) (it:ItOk K p H xs J) (k:aaV K cl (RepA K) p H ((abA xs.2 g me xs.1 (cmpR own cap ρ) S).bind fun ys S2=>.ok (.pv (.lst ys)) S2) Q E) (hD:H D=none) :
  cmpW J (gP K g) (tP K cl E (RepA K) me) (adX own cap σ) H D Q:=by
 refine ahY sm ev it hD ?_
 cases z:abA xs.2 g me xs.1 (cmpR own cap ρ) S with
 | fail=>rw [z] at k; exact k.elim
 | exc n S'=>rw [z] at k; exact k
 | ok zs S2 =>
  rw [z] at k
  have k:∀ q H' x,Step p H q H'→Sim K q S2 H'→Rep K q.c H' (.lst zs) x→Q x H':=k
  intro q H' vs st1 sm1 sh1 w1 f1 hH l1 r1
  rw [List.nil_append] at r1
  refine k (q.less D) H' (.ref D) (st1.toLess hD) sh1.toLess ?_
  unfold Rep
  exact ⟨D,vs,rfl,.inl ⟨hH,fun z=>z.2 rfl⟩,l1,acd (fun a h=>h.1) r1⟩
end
noncomputable def aeN (own:List Str) (cap:List (Nat × Str)) (mi:MI) (g:GM) (me:ME):ME:=fun ρ S=>(mi ρ S).bind fun xs S1=>(abA xs.2 g me xs.1 (cmpR own cap ρ) S1).bind fun ys S2=>.ok (.pv (.lst ys)) S2
section
variable {P:Program} {w:World} {K:PySem.W.Frag} {mg:Str→Option Value} {base:Heap} {N:List Str} {qual:Str} {scope:Scope} {f:Addr} {cd:Value} {A:Around} {outer:List Env} {s₀:Shared} {H₀:Hp} {E:XK} {cl:Str→Addr}
variable {sc:Scope} {own:List Str} {cap:List (Nat × Str)} {elt target iter:Expr} {pos:Pos} {mi:MI} {g:GM} {me:ME} {wi:TI} {tg:TG} {te:TE}
theorem akq (k:adO (cxOf (CX1 P w) P w K mg base N qual scope f cd A outer s₀ H₀ E) sc own cap) (hi:PI (cxOf (CX1 P w) P w K mg base N qual scope f cd A outer s₀ H₀ E) target iter wi) (hc:(cxOf (CX1 P w) P w K mg base N qual scope f cd A outer s₀ H₀ E).calm=true)
  (hg:∀ C s₁ H₁ ex,PG (abw (cxOf (CX1 P w) P w K mg base N qual scope f cd A outer s₀ H₀ E) sc (cmpN own cap) C s₁ H₁ ex) target tg) (he:∀ C s₁ H₁ ex E',adU (CX1 P w) ((abw (cxOf (CX1 P w) P w K mg base N qual scope f cd A outer s₀ H₀ E) sc (cmpN own cap) C s₁ H₁ ex).wish E') E→PE ((abw (cxOf (CX1 P w) P w K mg base N qual scope f cd A outer s₀ H₀ E) sc (cmpN own cap) C s₁ H₁ ex).wish E') elt te)
  (hs:∀ x,foldedSetIterable iter (cxOf (CX1 P w) P w K mg base N qual scope f cd A outer s₀ H₀ E).env x=pure x:=by intro _; rfl):PE (cxOf (CX1 P w) P w K mg base N qual scope f cd A outer s₀ H₀ E) (.ListComp elt [⟨target,iter,[],0⟩] sc pos) (aiA own cap wi tg te):=by
 intro pins s σ H Q I h
 rw [eval_ListComp]
 refine ahR k hi hc hg he I h (fun D C s' H' m I' fC hn q=>?_) hs
 refine ⟨m,hn,fun h' sb=>⟨.ref D,H',?_,rfl,q⟩⟩
 obtain ⟨f0,f1,f2,f3,f4,f5⟩:=fC
 exact I'.turned (t':=s'.toks) (fun b o hb e=>(sb.2 b hb).trans e) f0 f1 f3 f4 f5
theorem akA (k:adO (cxOf (CX1 P w) P w K mg base N qual scope f cd A outer s₀ H₀ E) sc own cap) (hi:PIp K cl E (cxOf (CX1 P w) P w K mg base N qual scope f cd A outer s₀ H₀ E) target iter mi) (hc:(cxOf (CX1 P w) P w K mg base N qual scope f cd A outer s₀ H₀ E).calm=true) (hg:∀ C s₁ H₁ ex,PGp K (abw (cxOf (CX1 P w) P w K mg base N qual scope f cd A outer s₀ H₀ E) sc (cmpN own cap) C s₁ H₁ ex) target g) (he:∀ C s₁ H₁ ex E',adU (CX1 P w) ((abw (cxOf (CX1 P w) P w K mg base N qual scope f cd A outer s₀ H₀ E) sc (cmpN own cap) C s₁ H₁ ex).wish E') E→PEp K cl E ((abw (cxOf (CX1 P w) P w K mg base N qual scope f cd A outer s₀ H₀ E) sc (cmpN own cap) C s₁ H₁ ex).wish E') elt me)
  (hs:∀ x,foldedSetIterable iter (cxOf (CX1 P w) P w K mg base N qual scope f cd A outer s₀ H₀ E).env x=pure x:=by intro _; rfl):PEp K cl E (cxOf (CX1 P w) P w K mg base N qual scope f cd A outer s₀ H₀ E) (.ListComp elt [⟨target,iter,[],0⟩] sc pos) (aeN own cap mi g me):=by
 intro hK
 refine PE.imp (akq k (hi hK) hc (fun C s₁ H₁ ex=>hg C s₁ H₁ ex hK) (fun C s₁ H₁ ex E' ps=>he C s₁ H₁ ex E' ps hK) hs) fun σ H Q ⟨p,S,ρ,s,ev,h⟩=>?_
 exact aax s ev h fun q H' xs J S' stp sm ev it kk D hD=>ah0 sm ev it kk hD
end
section
variable {K:PySem.W.Frag} {cl:Str→Addr} {E:XK} {X:Cx} {e:Expr} {es:List Expr} {ms:MA} {pos p:Pos} {k n:Nat} {f:Addr} {fd:FuncData} {ps:List Str} {g:FM} {x:Str} {dvs:List V} {ds:List Value} {dv:List PV}
theorem aj4 (hp:adU (CX1 X.prog X.w) X E) (F:FnOk X.prog X.w X.K X.mg X.base (CX1 X.prog X.w) k f fd ps (spP K cl g)) (hr:Room k X.A) (hg:Gl X x) (hm:X.mg x=some (.ref f)) (hk:PySem.W.keepIn X.K (.ref f)=true) (hb:acL X.K fd ps ds) (hd:Vals dvs ds) (hv:Dv dv dvs)
  (ha:PAp K cl E X (e :: es) ms) (hdb:(x == ("__debug__":Str))=false:=by decide) (he:starEach (e :: es) X.env=(false,eval e X.env) :: starEach es X.env:=by rfl) (hpl:(backTo pos (starEach es X.env)).any (·.1)=false:=by rfl) :
  PEp K cl E X (.Call (.Name x p) (e :: es) [] pos) (abu g dv ms):=by
 intro hK
 refine PE.imp (afL F hr hg hm hk hb hd hp (ha hK) hdb he hpl) fun σ H Q ⟨p,S,ρ,s,ev,h⟩=>?_
 exact aax s ev h fun q H' as xs S' stp sm ev r k=>⟨q,S',_,sm,abZ r (hv K q H'),afF sm k⟩
end
end L2.Pp
namespace L2.Pp
open PySem PySem.Spec PyProof.Rows Bn
section
variable {K:PySem.W.Frag} {cl:Str→Addr} {E:XK} {X:Cx}
def litI:List Expr→Option (List PV)
 | []=>some []
 | .Constant (.int i) _ _ :: r=>match litI r with
  | some vs=>some (.int i :: vs)
  | none=>none
 | _=>none
def litL:List Expr→Option (List PV)
 | []=>some []
 | .List es _ :: r=>match litI es,litL r with
  | some a,some vs=>if a.length≤1000 then some (.lst a :: vs) else none
  | _,_=>none
 | _=>none
def mLit (vs:List PV):MA:=fun _ S=>.ok (vs.map .pv) S
theorem afZ {v:PV} {vs:List PV}:aac (mC v) (mLit vs)=mLit (v :: vs):=rfl
theorem ajn:∀ {es:List Expr} {vs:List PV},litI es=some vs→PAp K cl E X es (mLit vs)
 | [],vs,h=>by
  cases h
  exact aaf
 | e :: es,vs,h=>by
  unfold litI at h
  split at h
  ·rename_i he
   cases he
  ·rename_i i j p r he
   cases he
   split at h
   ·rename_i ws hw
    cases h
    rw [← afZ]
    exact aaa aae (ajn hw)
   ·cases h
  ·cases h
theorem aiq:∀ vs:List PV,aa8 (vs.map AV.pv)=some vs
 | []=>rfl
 | v :: vs=>by
  show aa8 (AV.pv v :: vs.map AV.pv)=_
  simp [aa8,aiq vs]
theorem ahg {vs:List PV} (h:vs.length≤1000):mN fLst (mLit vs)=mC (.lst vs):=by
 funext ρ S
 simp [mN,mLit,Res.bind,aby,aiq,fLst,okO,mC,show vs.length≤16777216 by omega]
theorem ai1:∀ {es:List Expr} {vs:List PV},litL es=some vs→PAp K cl E X es (mLit vs)
 | [],vs,h=>by
  cases h
  exact aaf
 | e :: es,vs,h=>by
  unfold litL at h
  split at h
  ·rename_i he
   cases he
  ·rename_i es p r he
   cases he
   split at h
   ·rename_i a ws ha hw
    split at h
    ·rename_i hl
     cases h
     rw [← afZ,← ahg hl]
     exact aaa (acn (ajn ha)) (ai1 hw)
    ·cases h
   ·cases h
  ·cases h
theorem aiQ {es:List Expr} {vs:List PV} {pos:Pos} (h:litL es=some vs) (hl:vs.length≤1000:=by decide):PEp K cl E X (.List es pos) (mC (.lst vs)):=by
 rw [← ahg hl]
 exact acn (ai1 h)
theorem akQ {c:Expr} {mt:MT} {i:Nat} {x:Str} {es:List Expr} {vs:List PV} {pos pos' pos2 lpos:Pos} (hc:PTp K cl E X c mt) (hN:X.N.Nodup) (hi:X.N[i]?=some x) (hx:Loc X.env.scope x) (h:litL es=some vs) (hl:vs.length≤1000:=by decide)
  (hf:X.fn x=true∨X.env.scope.names.lookup x=some .local:=by first | exact .inl rfl | exact .inr rfl | assumption):PSp K cl E X (.If c [.Assign [.Name x pos'] (.List es lpos) pos] [] pos2) (sIf mt (sSet i (mC (.lst vs))) sNil) :=
 abL hc (aaj (aav hN hi hx (aiQ h hl) rfl hf)) aaP
end
end L2.Pp
namespace L2.Pp
open PySem
theorem adq:bootBuiltins "len"=some (.builtin "len"):=by decide +kernel
theorem ajh:bootBuiltins "abs"=some (.builtin "abs"):=by decide +kernel
theorem ajs:bootBuiltins "all"=some (.builtin "all"):=by decide +kernel
theorem ala:bootBuiltins "sum"=some (.builtin "sum"):=by decide +kernel
theorem agx:bootBuiltins "sorted"=some (.builtin "sorted"):=by decide +kernel
theorem ani:bootBuiltins "int"=some (.type "int"):=by decide +kernel
theorem alU:bootBuiltins "bool"=some (.type "bool"):=by decide +kernel
theorem agA:bootBuiltins "list"=some (.type "list"):=by decide +kernel
theorem abU:bootBuiltins "tuple"=some (.type "tuple"):=by decide +kernel
end L2.Pp
set_option Elab.async false
set_option maxRecDepth 100000
set_option maxHeartbeats 4000000
namespace Sc
open PySem L2 Bn L2.Pp
abbrev afj:Stmt:=top 5
abbrev acz:Stmt:=top 6
abbrev acl:Stmt:=top 7
abbrev ada:Stmt:=top 9
abbrev ac8:Stmt:=top 10
abbrev abm:Stmt:=top 11
abbrev agG:Stmt:=top 12
abbrev acZ:Stmt:=top 13
abbrev abq:Stmt:=top 14
abbrev aeX:Stmt:=top 15
abbrev acv:Stmt:=top 17
abbrev afe:Stmt:=top 21
abbrev agR:Stmt:=top 22
abbrev afg:Stmt:=top 24
abbrev adJ:Stmt:=top 25
abbrev ae9:Stmt:=top 26
abbrev ace:Stmt:=top 27
abbrev acV:Stmt:=top 28
abbrev acj:Stmt:=top 29
abbrev acg:Stmt:=top 30
abbrev aej:Stmt:=top 31
abbrev acY:Stmt:=top 32
abbrev aem:Stmt:=top 33
abbrev adA:Stmt:=top 34
abbrev aey:Stmt:=top 35
abbrev ab7:Stmt:=top 36
abbrev abD:Stmt:=top 37
abbrev aa4:Stmt:=top 38
abbrev abx:Stmt:=top 39
abbrev aeg:Stmt:=top 40
abbrev acC:Stmt:=top 41
abbrev aeD:Stmt:=top 42
noncomputable def aiS:MS:=(sSeq (sIf (mTst (mBin fGt (mVar 0) (mC (.int 0)))) (sRet (mC (.int 1))) sNil)
 (sSeq (sIf (mTst (mBin fLt (mVar 0) (mC (.int 0)))) (sRet (mUn fNeg (mC (.int 1)))) sNil)
 (sRet (mC (.int 0)))))
noncomputable def adn:FM:=fnM 1 1 aiS
noncomputable def aeL:MS:=(sSeq (aeF (mTst (mBin fNe (mVar 1) (mC (.int 0)))) (sSeq (sSet 2 (mBin fMod (mVar 0) (mVar 1)))
 (sSeq (sSet 0 (mVar 1))
 (sSet 1 (mVar 2)))))
 (sRet (mR fAbs (aac (mVar 0) mNil))))
noncomputable def acf:FM:=fnM 2 3 aeL
noncomputable def aei:MS:=(sSeq (sSet 1 (mC (.int 0)))
 (sSeq (sFor (mIt (mVar 0)) (gN 2) (sSet 1 (aah acf [] (aac (mVar 1) (aac (mVar 2) mNil)))))
 (sRet (aa1 ["number"] [(1,"common")] (mIt (mVar 0)) (gN 0) (mBin aeT (mVar 0) (mVar 1))))))
noncomputable def acy:FM:=fnM 1 3 aei
noncomputable def aeI:MS:=(sSeq (sIf (mTst (mBin fEq (mVar 1) (mC (.int 0)))) (ag2 "NoPoint") sNil)
 (sRet (mR aal (aac (aa1 ["number"] [(1,"bottom")] (mIt (aah acy [] (aac (mBin fAdd (mR aak (aac (mVar 0) mNil)) (mN fLst (aac (mVar 1) mNil))) mNil))) (gN 0) (mBin fMul (aah adn [] (aac (mVar 1) mNil)) (mVar 0))) mNil))))
noncomputable def aeq:FM:=fnM 2 2 aeI
noncomputable def agO:MS:=(sSeq (sSet 2 (aa1 ["one","other"] [(1,"q"),(0,"p")] (mZip (aac (mSl (mVar 0) mO0 (mO1 (mUn fNeg (mC (.int 1))))) (aac (mSl (mVar 1) mO0 (mO1 (mUn fNeg (mC (.int 1))))) mNil))) (gT 2 (abr (gN 0) (abr (gN 1) ac9))) (mBin fAdd (mBin fMul (mVar 0) (mBin fIx (mVar 2) (mUn fNeg (mC (.int 1))))) (mBin fMul (mVar 1) (mBin fIx (mVar 3) (mUn fNeg (mC (.int 1))))))))
 (sRet (abu aeq [] (aac (mVar 2) (aac (mBin fMul (mBin fIx (mVar 0) (mUn fNeg (mC (.int 1)))) (mBin fIx (mVar 1) (mUn fNeg (mC (.int 1))))) mNil)))))
noncomputable def act:FM:=fnM 2 3 agO
noncomputable def acE:MS:=(sRet (aa1 ["near","far"] [(0,"start"),(1,"end")] (mZip (aac (mSl (mVar 0) mO0 (mO1 (mUn fNeg (mC (.int 1))))) (aac (mSl (mVar 1) mO0 (mO1 (mUn fNeg (mC (.int 1))))) mNil))) (gT 2 (abr (gN 0) (abr (gN 1) ac9))) (mBin fSub (mBin fMul (mVar 1) (mBin fIx (mVar 2) (mUn fNeg (mC (.int 1))))) (mBin fMul (mVar 0) (mBin fIx (mVar 3) (mUn fNeg (mC (.int 1))))))))
noncomputable def aa9:FM:=fnM 2 2 acE
noncomputable def alB:MS:=(sRet (mR fSum (aac (aa1 ["one","other"] [] (mZip (aac (mVar 0) (aac (mVar 1) mNil))) (gT 2 (abr (gN 0) (abr (gN 1) ac9))) (mBin fMul (mVar 0) (mVar 1))) mNil)))
noncomputable def ah9:FM:=fnM 2 2 alB
noncomputable def ad5:MS:=(sSeq (sSet 1 (mBin fIx (mVar 0) (mC (.int 0))))
 (sSeq (sIf (mTst (mBin fEq (mR fLen (aac (mVar 0) mNil)) (mC (.int 1)))) (sRet (mN fLst (aac (mUn fNeg (mBin fIx (mVar 1) (mC (.int 1)))) (aac (mBin fIx (mVar 1) (mC (.int 0))) mNil)))) sNil)
 (sSeq (sSet 2 (mBin fIx (mVar 0) (mC (.int 1))))
 (sRet (mN fLst (aac (mBin fSub (mBin fMul (mBin fIx (mVar 1) (mC (.int 1))) (mBin fIx (mVar 2) (mC (.int 2)))) (mBin fMul (mBin fIx (mVar 1) (mC (.int 2))) (mBin fIx (mVar 2) (mC (.int 1))))) (aac (mBin fSub (mBin fMul (mBin fIx (mVar 1) (mC (.int 2))) (mBin fIx (mVar 2) (mC (.int 0)))) (mBin fMul (mBin fIx (mVar 1) (mC (.int 0))) (mBin fIx (mVar 2) (mC (.int 2))))) (aac (mBin fSub (mBin fMul (mBin fIx (mVar 1) (mC (.int 0))) (mBin fIx (mVar 2) (mC (.int 1)))) (mBin fMul (mBin fIx (mVar 1) (mC (.int 1))) (mBin fIx (mVar 2) (mC (.int 0))))) mNil))))))))
noncomputable def acq:FM:=fnM 1 3 ad5
noncomputable def ab6:MS:=(sSeq (sSet 1 (aa1 ["p"] [(0,"points")] (mIt (mSl (mVar 0) (mO1 (mC (.int 1))) mO0)) (gN 0) (aah aa9 [] (aac (mBin fIx (mVar 1) (mC (.int 0))) (aac (mVar 0) mNil)))))
 (sRet (aah ah9 [] (aac (aah acq [] (aac (mSl (mVar 1) mO0 (mO1 (mUn fNeg (mC (.int 1))))) mNil)) (aac (mBin fIx (mVar 1) (mUn fNeg (mC (.int 1)))) mNil)))))
noncomputable def aa7:FM:=fnM 1 2 ab6
noncomputable def ag9:MS:=(sRet (aah adn [] (aac (aah aa7 [] (aac (mVar 0) mNil)) mNil)))
noncomputable def adr:FM:=fnM 1 1 ag9
noncomputable def acb:MS:=(sSeq (sSet 1 (mR aes (aac (mVar 0) mNil)))
 (sSeq (sSet 2 (aah adr [] (aac (mVar 1) mNil)))
 (sSeq (sIf (mTst (mBin fEq (mVar 2) (mC (.int 0)))) (ag2 "Flat") sNil)
 (sSeq (sIf (mTst (mBin fLt (mVar 2) (mC (.int 0)))) (sSet 1 (mBin fAdd (mSl (mVar 1) mO0 (mO1 (mUn fNeg (mC (.int 2))))) (mN fLst (aac (mBin fIx (mVar 1) (mUn fNeg (mC (.int 1)))) (aac (mBin fIx (mVar 1) (mUn fNeg (mC (.int 2)))) mNil))))) sNil)
 (sRet (mR aal (aac (mVar 1) mNil)))))))
noncomputable def abK:FM:=fnM 1 3 acb
noncomputable def ajj:MS:=(sSeq (sSet 3 (mNew (aac (mVar 0) mNil)))
 (sSeq (sFor (mIt (mVar 2)) (gN 4) (aaQ (mApp (mVar 3) (aac (aah act [] (aac (mBin fIx (mVar 3) (mUn fNeg (mC (.int 1)))) (aac (mBin fIx (mVar 1) (mVar 4)) mNil))) mNil))))
 (sRet (mVar 3))))
noncomputable def ad8:FM:=fnM 3 5 ajj
noncomputable def aiD:MS:=(sSeq (sSet 2 (mIf (mTst (mBin fEq (mR fLen (aac (mVar 1) mNil)) (mC (.int 2)))) (mC (.tup [.tup [.int 0,.int 1],.tup [.int 1,.int 0]])) (mC (.tup [.tup [.int 0,.int 1,.int 2],.tup [.int 0,.int 2,.int 1],.tup [.int 1,.int 0,.int 2],.tup [.int 1,.int 2,.int 0],.tup [.int 2,.int 0,.int 1],.tup [.int 2,.int 1,.int 0]]))))
 (sRet (mR aal (aac (aeN ["order"] [(0,"corner"),(1,"arrows")] (mIt (mVar 2)) (gN 0) (abu abK [] (aac (aah ad8 [] (aac (mVar 1) (aac (mVar 2) (aac (mVar 0) mNil)))) mNil))) mNil))))
noncomputable def aeP:FM:=fnM 2 3 aiD
noncomputable def aiL:MS:=(sSeq (sSet 1 (mNew mNil))
 (sSeq (sFor (ald (aac (mSl (mVar 0) mO0 (mO1 (mC (.int 63)))) mNil)) (gT 2 (abr (gN 2) (abr (gN 3) ac9))) (sIf (mTst (mBin fGe (mVar 3) (mBin fPow (mC (.int 10)) (mC (.int 18))))) (aaQ (mApp (mVar 1) (aac (mBin fSub (mVar 3) (mBin fPow (mC (.int 10)) (mC (.int 18)))) mNil))) (sSeq (sSet 4 (mBin fMod (mBin fMul (mBin fAdd (mBin fAdd (mBin fAdd (mVar 3) (mBin fMul (mBin fMul (mC (.int 7)) (mVar 2)) (mVar 2))) (mBin fMul (mC (.int 13)) (mVar 2))) (mC (.int 5))) (mC (.int 48271))) (mC (.int 2147483647))))
 (sSeq (sSet 5 (mBin fMod (mBin fMul (mBin fAdd (mBin fAdd (mBin fAdd (mVar 3) (mBin fMul (mBin fMul (mC (.int 11)) (mVar 2)) (mVar 2))) (mBin fMul (mC (.int 17)) (mVar 2))) (mC (.int 3))) (mC (.int 40692))) (mC (.int 2147483399))))
 (sSeq (sSet 6 (mBin fMod (mBin fMul (mBin fAdd (mBin fAdd (mBin fAdd (mVar 3) (mBin fMul (mBin fMul (mC (.int 5)) (mVar 2)) (mVar 2))) (mBin fMul (mC (.int 29)) (mVar 2))) (mC (.int 8))) (mC (.int 39373))) (mC (.int 2147483587))))
 (sSeq (sSet 4 (mBin fMod (mBin fMul (mVar 4) (mC (.int 52021))) (mC (.int 1000000007))))
 (sSeq (sSet 5 (mBin fMod (mBin fMul (mVar 5) (mC (.int 30011))) (mC (.int 998244353))))
 (sSeq (sSet 6 (mBin fMod (mBin fMul (mVar 6) (mC (.int 45989))) (mC (.int 1000000009))))
 (aaQ (mApp (mVar 1) (aac (mBin fAdd (mBin fMul (mBin fAdd (mBin fMul (mVar 4) (mC (.int 998244353))) (mVar 5)) (mC (.int 1000000009))) (mVar 6)) mNil)))))))))))
 (sRet (mVar 1))))
noncomputable def adV:FM:=fnM 1 7 aiL
noncomputable def afo:MS:=(sSeq (aeF (mAnd (mTst (mBin fGt (mR fLen (aac (mVar 0) mNil)) (mC (.int 0)))) (mTst (mBin fEq (mBin fIx (mVar 0) (mC (.int 0))) (mC (.int 0))))) (aaQ (mPop (mVar 0) (aac (mC (.int 0)) mNil))))
 (sSeq (sIf (mTst (mBin fEq (mR fLen (aac (mVar 0) mNil)) (mC (.int 0)))) (sRet (mC (.int 0))) sNil)
 (sSeq (sSet 2 (mBin fMod (mBin fIx (mVar 0) (mC (.int 0))) (mVar 1)))
 (sSeq (abR (mVar 0) (mC (.int 0)) (mBin aeT (mBin fIx (mVar 0) (mC (.int 0))) (mVar 1)))
 (sRet (mVar 2))))))
noncomputable def aaq:FM:=fnM 2 3 afo
noncomputable def aij:MS:=(sSeq (sSet 0 (mR fAbs (aac (mVar 0) mNil)))
 (sSeq (sSet 1 (mR fAbs (aac (mVar 1) mNil)))
 (sSeq (aeF (mTst (mBin fGt (mVar 1) (mC (.int 0)))) (sPar 0 1 (aac (mVar 1) (aac (mBin fMod (mVar 0) (mVar 1)) mNil))))
 (sRet (mVar 0)))))
noncomputable def aeK:FM:=fnM 2 2 aij
noncomputable def adp:MS:=(sSeq (sSet 1 (mC (.int 0)))
 (sSeq (sFor (mIt (mVar 0)) (gN 2) (sSet 1 (aah aeK [] (aac (mVar 1) (aac (mVar 2) mNil)))))
 (sSeq (sIf (mTst (mBin fEq (mVar 1) (mC (.int 0)))) (sRet (mR aal (aac (mVar 0) mNil))) sNil)
 (sRet (mR aal (aac (aa1 ["_law_number"] [(1,"_law_by")] (mIt (mVar 0)) (gN 0) (mBin aeT (mVar 0) (mVar 1))) mNil))))))
noncomputable def aaK:FM:=fnM 1 3 adp
noncomputable def afu:MS:=(sRet (abf (mUn (fIsi "int") (mVar 0)) (mUn fNot (mUn (fIsi "bool") (mVar 0)))))
noncomputable def acI:FM:=fnM 1 1 afu
noncomputable def aex:MS:=(sSeq (sIf (mOr (mNot (mTst (mUn (fIsi "tuple") (mVar 0)))) (mTst (mBin fNe (mR fLen (aac (mVar 0) mNil)) (mVar 1)))) (sRet (mC (.bl false))) sNil)
 (sRet (mR fAll (aac (aa1 ["_law_number"] [] (mIt (mVar 0)) (gN 0) (aah acI [] (aac (mVar 0) mNil))) mNil))))
noncomputable def acx:FM:=fnM 2 2 aex
noncomputable def aeu:MS:=(sSeq (sSet 3 (aa1 ["_law_k"] [(2,"_law_way"),(1,"_law_q"),(0,"_law_p")] (abe (aac (mBin fSub (mR fLen (aac (mVar 0) mNil)) (mC (.int 1))) mNil)) (gN 0) (mBin fAdd (mBin fMul (mBin fMul (mVar 1) (mBin fIx (mVar 3) (mVar 0))) (mBin fIx (mVar 2) (mUn fNeg (mC (.int 1))))) (mBin fMul (mBin fIx (mVar 2) (mVar 0)) (mBin fIx (mVar 3) (mUn fNeg (mC (.int 1))))))))
 (sRet (aah aaK [] (aac (mBin fAdd (mVar 3) (mN fLst (aac (mBin fMul (mBin fIx (mVar 0) (mUn fNeg (mC (.int 1)))) (mBin fIx (mVar 1) (mUn fNeg (mC (.int 1))))) mNil))) mNil))))
noncomputable def aaR:FM:=fnM 3 4 aeu
noncomputable def aio:MS:=(sRet (aa1 ["_law_k"] [(1,"_law_q"),(0,"_law_p")] (abe (aac (mBin fSub (mR fLen (aac (mVar 0) mNil)) (mC (.int 1))) mNil)) (gN 0) (mBin fSub (mBin fMul (mBin fIx (mVar 1) (mVar 0)) (mBin fIx (mVar 2) (mUn fNeg (mC (.int 1))))) (mBin fMul (mBin fIx (mVar 2) (mVar 0)) (mBin fIx (mVar 1) (mUn fNeg (mC (.int 1))))))))
noncomputable def adS:FM:=fnM 2 2 aio
noncomputable def afr:MS:=(sSeq (sSet 2 (mBin fSub (mBin fMul (mBin fIx (mVar 0) (mC (.int 1))) (mBin fIx (mVar 1) (mC (.int 2)))) (mBin fMul (mBin fIx (mVar 0) (mC (.int 2))) (mBin fIx (mVar 1) (mC (.int 1))))))
 (sSeq (sSet 3 (mBin fSub (mBin fMul (mBin fIx (mVar 0) (mC (.int 2))) (mBin fIx (mVar 1) (mC (.int 0)))) (mBin fMul (mBin fIx (mVar 0) (mC (.int 0))) (mBin fIx (mVar 1) (mC (.int 2))))))
 (sSeq (sSet 4 (mBin fSub (mBin fMul (mBin fIx (mVar 0) (mC (.int 0))) (mBin fIx (mVar 1) (mC (.int 1)))) (mBin fMul (mBin fIx (mVar 0) (mC (.int 1))) (mBin fIx (mVar 1) (mC (.int 0))))))
 (sRet (mN fLst (aac (mVar 2) (aac (mVar 3) (aac (mVar 4) mNil))))))))
noncomputable def acX:FM:=fnM 2 5 afr
noncomputable def ajH:MS:=(sRet (mR fSum (aac (aa1 ["_law_one","_law_other"] [] (mZip (aac (mVar 0) (aac (mVar 1) mNil))) (gT 2 (abr (gN 0) (abr (gN 1) ac9))) (mBin fMul (mVar 0) (mVar 1))) mNil)))
noncomputable def aeZ:FM:=fnM 2 2 ajH
noncomputable def adz:MS:=(sSeq (sIf (mTst (mBin fEq (mR fLen (aac (mVar 0) mNil)) (mC (.int 2)))) (sRet (mBin fSub (mBin fMul (mBin fIx (mBin fIx (mVar 0) (mC (.int 0))) (mC (.int 0))) (mBin fIx (mBin fIx (mVar 0) (mC (.int 1))) (mC (.int 1)))) (mBin fMul (mBin fIx (mBin fIx (mVar 0) (mC (.int 0))) (mC (.int 1))) (mBin fIx (mBin fIx (mVar 0) (mC (.int 1))) (mC (.int 0)))))) sNil)
 (sRet (aah aeZ [] (aac (aah acX [] (aac (mBin fIx (mVar 0) (mC (.int 0))) (aac (mBin fIx (mVar 0) (mC (.int 1))) mNil))) (aac (mBin fIx (mVar 0) (mC (.int 2))) mNil)))))
noncomputable def abj:FM:=fnM 1 1 adz
noncomputable def ahk:MS:=(sRet (aah abj [] (aac (aa1 ["_law_p"] [(0,"_law_points")] (mIt (mSl (mVar 0) (mO1 (mC (.int 1))) mO0)) (gN 0) (aah adS [] (aac (mBin fIx (mVar 1) (mC (.int 0))) (aac (mVar 0) mNil)))) mNil)))
noncomputable def acQ:FM:=fnM 1 1 ahk
noncomputable def ab8:MS:=(sSeq (sSet 1 (mR aes (aac (mVar 0) mNil)))
 (sSeq (sIf (mTst (mBin fLt (aah acQ [] (aac (mVar 1) mNil)) (mC (.int 0)))) (sSet 1 (mBin fAdd (mSl (mVar 1) mO0 (mO1 (mUn fNeg (mC (.int 2))))) (mN fLst (aac (mBin fIx (mVar 1) (mUn fNeg (mC (.int 1)))) (aac (mBin fIx (mVar 1) (mUn fNeg (mC (.int 2)))) mNil))))) sNil)
 (sRet (mR aal (aac (mVar 1) mNil)))))
noncomputable def aaO:FM:=fnM 1 2 ab8
noncomputable def acG:MS:=(sSeq (sIf (mOr (mNot (mTst (aah acx [] (aac (mVar 0) (aac (mBin fAdd (mVar 1) (mC (.int 1))) mNil))))) (mTst (mBin fLt (mBin fIx (mVar 0) (mUn fNeg (mC (.int 1)))) (mC (.int 1))))) (sRet (mC (.bl false))) sNil)
 (sRet (mBin fEq (aah aaK [] (aac (mVar 0) mNil)) (mVar 0))))
noncomputable def abn:FM:=fnM 2 2 acG
noncomputable def aci:MS:=(sSeq (sIf (mOr (mNot (mTst (mUn (fIsi "tuple") (mVar 0)))) (mTst (mBin fNe (mR fLen (aac (mVar 0) mNil)) (mBin fAdd (mVar 1) (mC (.int 1)))))) (sRet (mC (.bl false))) sNil)
 (sSeq (sIf (mNot (mTst (mR fAll (aac (aa1 ["_law_p"] [(1,"_law_many")] (mIt (mVar 0)) (gN 0) (aah abn [] (aac (mVar 0) (aac (mVar 1) mNil)))) mNil)))) (sRet (mC (.bl false))) sNil)
 (sRet (abf (mBin fNe (aah acQ [] (aac (mVar 0) mNil)) (mC (.int 0))) (mBin fEq (aah aaO [] (aac (mVar 0) mNil)) (mVar 0))))))
noncomputable def aa3:FM:=fnM 2 2 aci
noncomputable def acN:MS:=(sSeq (sIf (mNot (mTst (mUn (fIsi "tuple") (mVar 0)))) (sRet (mC (.bl false))) sNil)
 (sRet (mR fAll (aac (aa1 ["_law_points"] [(1,"_law_many")] (mIt (mVar 0)) (gN 0) (aah aa3 [] (aac (mVar 0) (aac (mVar 1) mNil)))) mNil))))
noncomputable def abh:FM:=fnM 2 2 acN
noncomputable def ajB:MS:=(sSeq (sSet 2 (aah aaq [] (aac (mVar 0) (aac (mC (.int 4)) mNil))))
 (sSeq (sSet 3 (mBin fIx (mN fLst (aac (mC (.int 0)) (aac (mC (.int 3)) (aac (mC (.int 9)) (aac (mBin fPow (mC (.int 10)) (mC (.int 12))) mNil))))) (mVar 2)))
 (sSeq (sSet 4 (mBin fAdd (mC (.int 1)) (mBin fMul (aah aaq [] (aac (mVar 0) (aac (mC (.int 9)) mNil))) (mBin aeT (mVar 2) (mC (.int 2))))))
 (sSeq (sSet 5 (aa1 ["_law_k"] [(3,"_law_wide"),(0,"_law_row_here")] (abe (aac (mVar 1) mNil)) (gN 0) (mBin fSub (aah aaq [] (aac (mVar 2) (aac (mBin fAdd (mBin fMul (mC (.int 2)) (mVar 1)) (mC (.int 1))) mNil))) (mVar 1))))
 (sRet (aah aaK [] (aac (mBin fAdd (mVar 5) (mN fLst (aac (mVar 4) mNil))) mNil)))))))
noncomputable def ac2:FM:=fnM 2 6 ajB
noncomputable def ad3:MS:=(sSeq (sSet 2 (mBin fIx (mN fLst (aac (mC (.int 1)) (aac (mC (.int 3)) (aac (mBin fPow (mC (.int 10)) (mC (.int 9))) mNil)))) (aah aaq [] (aac (mVar 0) (aac (mC (.int 3)) mNil)))))
 (sSeq (sSet 3 (mBin fIx (mN fLst (aac (mC (.int 1)) (aac (mC (.int 4)) (aac (mBin fPow (mC (.int 10)) (mC (.int 6))) mNil)))) (aah aaq [] (aac (mVar 0) (aac (mC (.int 3)) mNil)))))
 (sSeq (sSet 3 (mBin fAdd (mC (.int 1)) (aah aaq [] (aac (mVar 0) (aac (mVar 3) mNil)))))
 (sSeq (sSet 4 (ac0 ["_law_k"] [(2,"_law_wide"),(0,"_law_row_here")] (abe (aac (mVar 1) mNil)) (gN 0) (mBin fSub (aah aaq [] (aac (mVar 2) (aac (mBin fAdd (mBin fMul (mC (.int 2)) (mVar 1)) (mC (.int 1))) mNil))) (mVar 1))))
 (sSeq (abR (mVar 4) (mUn fNeg (mC (.int 1))) (mBin fMul (mBin fAdd (mC (.int 1)) (aah aaq [] (aac (mVar 0) (aac (mVar 2) mNil)))) (mBin fSub (mC (.int 1)) (mBin fMul (mC (.int 2)) (aah aaq [] (aac (mVar 0) (aac (mC (.int 2)) mNil)))))))
 (sSeq (sIf (mTst (mBin fEq (aah aaq [] (aac (mVar 0) (aac (mC (.int 8)) mNil))) (mC (.int 7)))) (abR (mVar 4) (mUn fNeg (mC (.int 1))) (mC (.int 0))) sNil)
 (sRet (aah aaK [] (aac (mBin fAdd (mVar 4) (mN fLst (aac (mVar 3) mNil))) mNil)))))))))
noncomputable def abC:FM:=fnM 2 5 ad3
noncomputable def alM:MS:=(sSeq (sSet 1 (aaM adV [] (aac (mVar 0) mNil)))
 (sSeq (sSet 2 (mBin fAdd (mC (.int 2)) (aah aaq [] (aac (mVar 1) (aac (mC (.int 2)) mNil)))))
 (sSeq (sSet 3 (aah ac2 [] (aac (mVar 1) (aac (mVar 2) mNil))))
 (sSeq (sSet 4 (ac0 ["_law_k"] [(1,"_law_row_here"),(2,"_law_dims")] (abe (aac (mVar 2) mNil)) (gN 0) (aah abC [] (aac (mVar 1) (aac (mVar 2) mNil)))))
 (sSeq (sIf (mTst (mBin fEq (aah aaq [] (aac (mVar 1) (aac (mC (.int 4)) mNil))) (mC (.int 3)))) (sSeq (sSet 5 (aah aaR [] (aac (mBin fIx (mVar 4) (mC (.int 0))) (aac (mBin fIx (mVar 4) (mC (.int 0))) (aac (mBin fSub (aah aaq [] (aac (mVar 1) (aac (mC (.int 4)) mNil))) (mC (.int 2))) mNil)))))
 (sSeq (sIf (mTst (mBin fEq (mVar 2) (mC (.int 3)))) (sSet 5 (aah aaR [] (aac (mBin fIx (mVar 4) (mC (.int 1))) (aac (mVar 5) (aac (mBin fSub (aah aaq [] (aac (mVar 1) (aac (mC (.int 5)) mNil))) (mC (.int 2))) mNil))))) sNil)
 (abR (mVar 4) (mUn fNeg (mC (.int 1))) (mVar 5)))) sNil)
 (sSeq (sSet 6 (mC .non))
 (sSeq (sSet 7 (mC (.bl false)))
 (sSeq (afQ aeP [] (aac (mVar 3) (aac (mR aal (aac (mVar 4) mNil)) mNil)) "Flat" 14 6 (fun ρ=>(((ρ.set 8 none).set 7 (some (.pv (.bl true)))).set 8 none)))
 (sSeq (sIf (mTst (mBin fEq (aah abj [] (aac (aa1 ["_law_way"] [] (mIt (mVar 4)) (gN 0) (mR aak (aac (mSl (mVar 0) mO0 (mO1 (mUn fNeg (mC (.int 1))))) mNil))) mNil)) (mC (.int 0)))) (sRet (abf (mVar 7) (mUn fIsN (mVar 6)))) sNil)
 (sSeq (sSet 9 (mC (.lst [.lst [.int 0,.int 1],.lst [.int 1,.int 0]])))
 (sSeq (sIf (mTst (mBin fEq (mVar 2) (mC (.int 3)))) (sSet 9 (mC (.lst [.lst [.int 0,.int 1,.int 2],.lst [.int 0,.int 2,.int 1],.lst [.int 1,.int 0,.int 2],.lst [.int 1,.int 2,.int 0],.lst [.int 2,.int 0,.int 1],.lst [.int 2,.int 1,.int 0]]))) sNil)
 (sSeq (sSet 10 (mNew mNil))
 (sSeq (sFor (mIt (mVar 9)) (gN 11) (sSeq (sSet 12 (mNew (aac (mVar 3) mNil)))
 (sSeq (sFor (mIt (mVar 11)) (gN 13) (aaQ (mApp (mVar 12) (aac (aah aaR [] (aac (mBin fIx (mVar 12) (mUn fNeg (mC (.int 1)))) (aac (mBin fIx (mVar 4) (mVar 13)) (aac (mC (.int 1)) mNil)))) mNil))))
 (aaQ (mApp (mVar 10) (aac (aah aaO [] (aac (mVar 12) mNil)) mNil))))))
 (sRet (abf (aah abh [] (aac (mVar 6) (aac (mVar 2) mNil))) (mBin fEq (mR aak (aac (mVar 6) mNil)) (mVar 10)))))))))))))))))
noncomputable def amg:FM:=fnM 1 14 alM
section
variable {P:Program} {w:World} {K:PySem.W.Frag} {mg:Str→Option Value} {base:Heap} {cl:Str→Addr}
theorem aiv:aaA ["number"] ["number"] (aad afj):=⟨rfl,rfl,rfl,by decide +kernel,rfl,by decide +kernel,by decide +kernel⟩
theorem amj {f:Addr} {fd:FuncData} (F:Fun K "sign" "sign" afj f fd)
  : FnOk P w K mg base CX0 1 f fd ["number"] (spP0 K cl adn):=by
 have nd:=aiv.nd
 refine okP (np:=1) (n:=1) F aiv (by decide) (by decide) (b:=aiS) (k:=0) fun cdv A outer s H E hr=>?_
 exact (aag (abL (aaW alJ s_gt (aab 0) aae (abb _)) (aaj (aay aae)) aaP)
   (aag (abL (aaW akN s_lt (aab 0) aae (abb _)) (aaj (aay (abF aaS abG aae))) aaP)
   (aaj (aay aae))))
theorem ae1:aaA ["one","other","rest"] ["one","other"] (aad acz):=⟨rfl,rfl,rfl,by decide +kernel,rfl,by decide +kernel,by decide +kernel⟩
theorem ahO {f:Addr} {fd:FuncData} (F:Fun K "divisor" "divisor" acz f fd)
  (m_abs:mg "abs"=none)
  : FnOk P w K mg base CX0 1 f fd ["one","other"] (spP0 K cl acf):=by
 have nd:=ae1.nd
 refine okP (np:=2) (n:=3) F ae1 (by decide) (by decide) (b:=aeL) (k:=0) fun cdv A outer s H E hr=>?_
 exact (aag (aeE PassesOwn.never (aaW (aht (hu8 hr)) s_ne (aab 1) aae (abb _)) (aag (aav (i:=2) nd rfl (Or.inl rfl) (aar acF afx (aab 0) (aab 1)))
   (aag (aav (i:=0) nd rfl (Or.inl rfl) (aab 1))
   (aaj (aav (i:=1) nd rfl (Or.inl rfl) (aab 2))))))
   (aaj (aay (aaY afJ amb rfl m_abs ajh (aaa (aab 0) aaf)))))
theorem afc:aaA ["numbers","common","number"] ["numbers"] (aad acl):=⟨rfl,rfl,rfl,by decide +kernel,rfl,by decide +kernel,by decide +kernel⟩
theorem ah2 {f:Addr} {fd:FuncData} (F:Fun K "reduced" "reduced" acl f fd)
  (C_divisor:Cal P w K mg base cl "divisor" 1 ["one","other"] acf)
  : FnOk P w K mg base CX0 2 f fd ["numbers"] (spP0 K cl acy):=by
 have nd:=afc.nd
 refine okP (np:=1) (n:=3) F afc (by decide) (by decide) (b:=aei) (k:=1) fun cdv A outer s H E hr=>?_
 exact (aag (aav (i:=1) nd rfl (Or.inr rfl) aae)
   (aag (adK PassesOwn.never rfl (abM (aab 0)) (aaC (i:=2) nd rfl (Or.inl rfl)) (aaj (aav (i:=1) nd rfl (Or.inr rfl) (aaX C_divisor hr (by decide) rfl (aaa (aab 1) (aaa (aab 2) aaf))))))
   (aaj (aay (ab2 (own:=["number"]) (cap:=[(1,"common")]) (abQ (aad acl) ["numbers","common","number"] rfl rfl rfl (by decide +kernel) (by decide +kernel) (by decide +kernel) (by decide +kernel) (by decide +kernel)) (abM (aab 0)) rfl (fun _ _ _ _=>(aaC (i:=0) (show (cmpN ["number"] [(1,"common")]).Nodup by decide +kernel) rfl (Or.inl rfl) (Or.inr rfl))) (fun _ _ _ _=>(aar ad0 aho (aab 0) (aab 1))))))))
theorem ahD:aaA ["numbers","bottom"] ["numbers","bottom"] (aad ada):=⟨rfl,rfl,rfl,by decide +kernel,rfl,by decide +kernel,by decide +kernel⟩
theorem akR {f:Addr} {fd:FuncData} {dsv:Array Value} (F:FunD K "point" "point" ada f fd dsv)
  (C_reduced:Cal P w K mg base cl "reduced" 2 ["numbers"] acy)
  (C_sign:Cal P w K mg base cl "sign" 1 ["number"] adn)
  (m_list:mg "list"=none)
  (m_tuple:mg "tuple"=none)
  (q_NoPoint:mg "NoPoint"=some (.ref (cl "NoPoint"))) (x_NoPoint:PySem.W.excIn K (cl "NoPoint") acr "ValueError.__new__"=true)
  : FnOk P w K mg base (CX1 P w) 3 f fd ["numbers","bottom"] (spP K cl aeq):=by
 have nd:=ahD.nd
 refine okXD (np:=2) (n:=2) F ahD (by decide) (by decide) (b:=aeI) (k:=2) fun cdv A outer s H E hr=>?_
 exact (aag (abL (aaW (ab3 (hu8 hr)) s_eq (aab 1) aae (abb _)) (aaj (afV rfl q_NoPoint x_NoPoint)) aaP)
   (aaj (aay (abI abk adf rfl m_tuple abU (aaa (ab2 (own:=["number"]) (cap:=[(1,"bottom")]) (abQ (aad ada) ["numbers","bottom"] rfl rfl rfl (by decide +kernel) (by decide +kernel) (by decide +kernel) (by decide +kernel) (by decide +kernel)) (abM (aaX C_reduced hr (by decide) rfl (aaa (aar aaL abT (abI acT agB rfl m_list agA (aaa (aab 0) aaf)) (acn (aaa (aab 1) aaf))) aaf))) rfl (fun _ _ _ _=>(aaC (i:=0) (show (cmpN ["number"] [(1,"bottom")]).Nodup by decide +kernel) rfl (Or.inl rfl) (Or.inr rfl))) (fun _ _ _ _=>(aar aas aaU (aaX C_sign hr (by decide) rfl (aaa (aab 1) aaf)) (aab 0)))) aaf)))))
theorem ahA:aaA ["p","q","numbers"] ["p","q"] (aad ac8):=⟨rfl,rfl,rfl,by decide +kernel,rfl,by decide +kernel,by decide +kernel⟩
theorem aj5 {f:Addr} {fd:FuncData} (F:Fun K "added" "added" ac8 f fd)
  {a_point:Addr} {d_point:FuncData}
  (G_point:FnOk P w K mg base CX0 3 a_point d_point ["numbers","bottom"] (spP0 K cl aeq)) (aeI:acL K d_point ["numbers","bottom"] []) (k_point:PySem.W.keepIn K (.ref a_point)=true) (n_point:mg "point"=some (.ref a_point))
  (m_zip:mg "zip"=none)
  : FnOk P w K mg base CX0 4 f fd ["p","q"] (spP0 K cl act):=by
 have nd:=ahA.nd
 refine okP (np:=2) (n:=3) F ahA (by decide) (by decide) (b:=agO) (k:=3) fun cdv A outer s H E hr=>?_
 exact (aag (ad4 (i:=2) (own:=["one","other"]) (cap:=[(1,"q"),(0,"p")]) nd rfl (Or.inl rfl) (abQ (aad ac8) ["p","q","numbers"] rfl rfl rfl (by decide +kernel) (by decide +kernel) (by decide +kernel) (by decide +kernel) (by decide +kernel)) (afG rfl m_zip (aaa (aep (aab 0) abO (abP (abF aaS abG aae))) (aaa (aep (aab 1) abO (abP (abF aaS abG aae))) aaf))) rfl (fun _ _ _ _=>(aen rfl (abH (aaC (i:=0) (show (cmpN ["one","other"] [(1,"q"),(0,"p")]).Nodup by decide +kernel) rfl (Or.inl rfl) (Or.inr rfl)) (abH (aaC (i:=1) (show (cmpN ["one","other"] [(1,"q"),(0,"p")]).Nodup by decide +kernel) rfl (Or.inl rfl) (Or.inr rfl)) ado)))) (fun _ _ _ _=>(aar aaL abT (aar aas aaU (aab 0) (aaD (aab 2) (abF aaS abG aae))) (aar aas aaU (aab 1) (aaD (aab 3) (abF aaS abG aae))))))
   (aaj (aay (alD G_point (hr.mono (by decide)) rfl n_point k_point aeI .nil Dv.nil (aaa (aab 2) (aaa (aar aas aaU (aaD (aab 0) (abF aaS abG aae)) (aaD (aab 1) (abF aaS abG aae))) aaf))))))
theorem ac3:aaA ["start","end"] ["start","end"] (aad abm):=⟨rfl,rfl,rfl,by decide +kernel,rfl,by decide +kernel,by decide +kernel⟩
theorem aeO {f:Addr} {fd:FuncData} (F:Fun K "whole_arrow" "whole_arrow" abm f fd)
  (m_zip:mg "zip"=none)
  : FnOk P w K mg base CX0 1 f fd ["start","end"] (spP0 K cl aa9):=by
 have nd:=ac3.nd
 refine okP (np:=2) (n:=2) F ac3 (by decide) (by decide) (b:=acE) (k:=0) fun cdv A outer s H E hr=>?_
 exact (aaj (aay (ab2 (own:=["near","far"]) (cap:=[(0,"start"),(1,"end")]) (abQ (aad abm) ["start","end"] rfl rfl rfl (by decide +kernel) (by decide +kernel) (by decide +kernel) (by decide +kernel) (by decide +kernel)) (afG rfl m_zip (aaa (aep (aab 0) abO (abP (abF aaS abG aae))) (aaa (aep (aab 1) abO (abP (abF aaS abG aae))) aaf))) rfl (fun _ _ _ _=>(aen rfl (abH (aaC (i:=0) (show (cmpN ["near","far"] [(0,"start"),(1,"end")]).Nodup by decide +kernel) rfl (Or.inl rfl) (Or.inr rfl)) (abH (aaC (i:=1) (show (cmpN ["near","far"] [(0,"start"),(1,"end")]).Nodup by decide +kernel) rfl (Or.inl rfl) (Or.inr rfl)) ado)))) (fun _ _ _ _=>(aar abY acP (aar aas aaU (aab 1) (aaD (aab 2) (abF aaS abG aae))) (aar aas aaU (aab 0) (aaD (aab 3) (abF aaS abG aae))))))))
theorem akS:aaA ["u","v"] ["u","v"] (aad agG):=⟨rfl,rfl,rfl,by decide +kernel,rfl,by decide +kernel,by decide +kernel⟩
theorem amN {f:Addr} {fd:FuncData} (F:Fun K "dot" "dot" agG f fd)
  (m_sum:mg "sum"=none)
  (m_zip:mg "zip"=none)
  : FnOk P w K mg base CX0 1 f fd ["u","v"] (spP0 K cl ah9):=by
 have nd:=akS.nd
 refine okP (np:=2) (n:=2) F akS (by decide) (by decide) (b:=alB) (k:=0) fun cdv A outer s H E hr=>?_
 exact (aaj (aay (aaY (afT rfl) amZ rfl m_sum ala (aaa (ab2 (own:=["one","other"]) (cap:=[]) (abQ (aad agG) ["u","v"] rfl rfl rfl (by decide +kernel) (by decide +kernel) (by decide +kernel) (by decide +kernel) (by decide +kernel)) (afG rfl m_zip (aaa (aab 0) (aaa (aab 1) aaf))) rfl (fun _ _ _ _=>(aen rfl (abH (aaC (i:=0) (show (cmpN ["one","other"] []).Nodup by decide +kernel) rfl (Or.inl rfl) (Or.inr rfl)) (abH (aaC (i:=1) (show (cmpN ["one","other"] []).Nodup by decide +kernel) rfl (Or.inl rfl) (Or.inr rfl)) ado)))) (fun _ _ _ _=>(aar aas aaU (aab 0) (aab 1)))) aaf))))
theorem af1:aaA ["arrows","u","v"] ["arrows"] (aad acZ):=⟨rfl,rfl,rfl,by decide +kernel,rfl,by decide +kernel,by decide +kernel⟩
theorem aiB {f:Addr} {fd:FuncData} (F:Fun K "normal" "normal" acZ f fd)
  (m_len:mg "len"=none)
  : FnOk P w K mg base CX0 1 f fd ["arrows"] (spP0 K cl acq):=by
 have nd:=af1.nd
 refine okP (np:=1) (n:=3) F af1 (by decide) (by decide) (b:=ad5) (k:=0) fun cdv A outer s H E hr=>?_
 exact (aag (aav (i:=1) nd rfl (Or.inl rfl) (aaD (aab 0) aae))
   (aag (abL (aaW (ab3 (hu8 hr)) s_eq (aaY aba afC rfl m_len adq (aaa (aab 0) aaf)) aae (abb _)) (aaj (aay (acn (aaa (abF aaS abG (aaD (aab 1) aae)) (aaa (aaD (aab 1) aae) aaf))))) aaP)
   (aag (aav (i:=2) nd rfl (Or.inl rfl) (aaD (aab 0) aae))
   (aaj (aay (acn (aaa (aar abY acP (aar aas aaU (aaD (aab 1) aae) (aaD (aab 2) aae)) (aar aas aaU (aaD (aab 1) aae) (aaD (aab 2) aae))) (aaa (aar abY acP (aar aas aaU (aaD (aab 1) aae) (aaD (aab 2) aae)) (aar aas aaU (aaD (aab 1) aae) (aaD (aab 2) aae))) (aaa (aar abY acP (aar aas aaU (aaD (aab 1) aae) (aaD (aab 2) aae)) (aar aas aaU (aaD (aab 1) aae) (aaD (aab 2) aae))) aaf)))))))))
theorem ac4:aaA ["points","rows"] ["points"] (aad abq):=⟨rfl,rfl,rfl,by decide +kernel,rfl,by decide +kernel,by decide +kernel⟩
theorem aeQ {f:Addr} {fd:FuncData} (F:Fun K "determinant" "determinant" abq f fd)
  (C_whole_arrow:Cal P w K mg base cl "whole_arrow" 1 ["start","end"] aa9)
  (C_dot:Cal P w K mg base cl "dot" 1 ["u","v"] ah9)
  (C_normal:Cal P w K mg base cl "normal" 1 ["arrows"] acq)
  : FnOk P w K mg base CX0 2 f fd ["points"] (spP0 K cl aa7):=by
 have nd:=ac4.nd
 refine okP (np:=1) (n:=2) F ac4 (by decide) (by decide) (b:=ab6) (k:=1) fun cdv A outer s H E hr=>?_
 exact (aag (ad4 (i:=1) (own:=["p"]) (cap:=[(0,"points")]) nd rfl (Or.inl rfl) (abQ (aad abq) ["points","rows"] rfl rfl rfl (by decide +kernel) (by decide +kernel) (by decide +kernel) (by decide +kernel) (by decide +kernel)) (abM (aep (aab 0) (abP aae) abO)) rfl (fun _ _ _ _=>(aaC (i:=0) (show (cmpN ["p"] [(0,"points")]).Nodup by decide +kernel) rfl (Or.inl rfl) (Or.inr rfl))) (fun _ _ _ _=>(aaX C_whole_arrow hr (by decide) rfl (aaa (aaD (aab 1) aae) (aaa (aab 0) aaf)))))
   (aaj (aay (aaX C_dot hr (by decide) rfl (aaa (aaX C_normal hr (by decide) rfl (aaa (aep (aab 1) abO (abP (abF aaS abG aae))) aaf)) (aaa (aaD (aab 1) (abF aaS abG aae)) aaf))))))
theorem ais:aaA ["points"] ["points"] (aad aeX):=⟨rfl,rfl,rfl,by decide +kernel,rfl,by decide +kernel,by decide +kernel⟩
theorem amd {f:Addr} {fd:FuncData} (F:Fun K "side" "side" aeX f fd)
  (C_sign:Cal P w K mg base cl "sign" 1 ["number"] adn)
  (C_determinant:Cal P w K mg base cl "determinant" 2 ["points"] aa7)
  : FnOk P w K mg base CX0 3 f fd ["points"] (spP0 K cl adr):=by
 have nd:=ais.nd
 refine okP (np:=1) (n:=1) F ais (by decide) (by decide) (b:=ag9) (k:=2) fun cdv A outer s H E hr=>?_
 exact (aaj (aay (aaX C_sign hr (by decide) rfl (aaa (aaX C_determinant hr (by decide) rfl (aaa (aab 0) aaf)) aaf))))
theorem aeW:aaA ["points","corners","turn"] ["points"] (aad acv):=⟨rfl,rfl,rfl,by decide +kernel,rfl,by decide +kernel,by decide +kernel⟩
theorem ah3 {f:Addr} {fd:FuncData} (F:Fun K "simplex" "simplex" acv f fd)
  (C_side:Cal P w K mg base cl "side" 3 ["points"] adr)
  (m_sorted:mg "sorted"=none)
  (m_tuple:mg "tuple"=none)
  (q_Flat:mg "Flat"=some (.ref (cl "Flat"))) (x_Flat:PySem.W.excIn K (cl "Flat") acr "ValueError.__new__"=true)
  : FnOk P w K mg base (CX1 P w) 4 f fd ["points"] (spP K cl abK):=by
 have nd:=aeW.nd
 refine okX (np:=1) (n:=3) F aeW (by decide) (by decide) (b:=acb) (k:=3) fun cdv A outer s H E hr=>?_
 exact (aag (aav (i:=1) nd rfl (Or.inl rfl) (aaY ae4 akU rfl m_sorted agx (aaa (aab 0) aaf)))
   (aag (aav (i:=2) nd rfl (Or.inl rfl) (aaX C_side hr (by decide) rfl (aaa (aab 1) aaf)))
   (aag (abL (aaW (ab3 (hu8 hr)) s_eq (aab 2) aae (abb _)) (aaj (afV rfl q_Flat x_Flat)) aaP)
   (aag (abL (aaW akN s_lt (aab 2) aae (abb _)) (aaj (aav (i:=1) nd rfl (Or.inl rfl) (aar aaL abT (aep (aab 1) abO (abP (abF aaS abG aae))) (acn (aaa (aaD (aab 1) (abF aaS abG aae)) (aaa (aaD (aab 1) (abF aaS abG aae)) aaf)))))) aaP)
   (aaj (aay (abI abk adf rfl m_tuple abU (aaa (aab 1) aaf))))))))
theorem ajE:aaA ["corner","arrows","order","corners","k"] ["corner","arrows","order"] (aad afe):=⟨rfl,rfl,rfl,by decide +kernel,rfl,by decide +kernel,by decide +kernel⟩
theorem amo {f:Addr} {fd:FuncData} (F:Fun K "gone" "gone" afe f fd)
  (C_added:Cal P w K mg base cl "added" 4 ["p","q"] act)
  : FnOk P w K mg base CX0 5 f fd ["corner","arrows","order"] (spP0 K cl ad8):=by
 have nd:=ajE.nd
 refine okP (np:=3) (n:=5) F ajE (by decide) (by decide) (b:=ajj) (k:=4) fun cdv A outer s H E hr=>?_
 exact (aag (aav (i:=3) nd rfl (Or.inl rfl) (afn (aaa (aab 0) aaf)))
   (aag (adK PassesOwn.never rfl (abM (aab 2)) (aaC (i:=4) nd rfl (Or.inl rfl)) (aaj (acW (acS (aab 3) (aaa (aaX C_added hr (by decide) rfl (aaa (aaD (aab 3) (abF aaS abG aae)) (aaa (aaD (aab 1) (aab 4)) aaf))) aaf)))))
   (aaj (aay (aab 3)))))
theorem ak1:aaA ["corner","arrows","orders"] ["corner","arrows"] (aad agR):=⟨rfl,rfl,rfl,by decide +kernel,rfl,by decide +kernel,by decide +kernel⟩
theorem am6 {f:Addr} {fd:FuncData} (F:Fun K "box" "box" agR f fd)
  {a_simplex:Addr} {d_simplex:FuncData}
  (GX_simplex:FnOk P w K mg base (CX1 P w) 4 a_simplex d_simplex ["points"] (spP K cl abK))
  (G_simplex:FnOk P w K mg base CX0 4 a_simplex d_simplex ["points"] (spP0 K cl abK)) (acb:acL K d_simplex ["points"] []) (k_simplex:PySem.W.keepIn K (.ref a_simplex)=true) (n_simplex:mg "simplex"=some (.ref a_simplex))
  (C_gone:Cal P w K mg base cl "gone" 5 ["corner","arrows","order"] ad8)
  (m_len:mg "len"=none)
  (m_tuple:mg "tuple"=none)
  (gt_FLAT_ORDERS:GlT K mg "FLAT_ORDERS" (.tup [.tup [.int 0,.int 1],.tup [.int 1,.int 0]]))
  (gt_SPACE_ORDERS:GlT K mg "SPACE_ORDERS" (.tup [.tup [.int 0,.int 1,.int 2],.tup [.int 0,.int 2,.int 1],.tup [.int 1,.int 0,.int 2],.tup [.int 1,.int 2,.int 0],.tup [.int 2,.int 0,.int 1],.tup [.int 2,.int 1,.int 0]]))
  : FnOk P w K mg base (CX1 P w) 6 f fd ["corner","arrows"] (spP K cl aeP):=by
 have nd:=ak1.nd
 refine okX (np:=2) (n:=3) F ak1 (by decide) (by decide) (b:=aiD) (k:=5) fun cdv A outer s H E hr=>?_
 exact (aag (aav (i:=2) nd rfl (Or.inl rfl) (an0 (aaW (ab3 (hu8 hr)) s_eq (aaY aba afC rfl m_len adq (aaa (aab 1) aaf)) aae (abb _)) (ajb rfl gt_FLAT_ORDERS) (ajb rfl gt_SPACE_ORDERS)))
   (aaj (aay (abI abk adf rfl m_tuple abU (aaa (akA (own:=["order"]) (cap:=[(0,"corner"),(1,"arrows")]) (abQ (aad agR) ["corner","arrows","orders"] rfl rfl rfl (by decide +kernel) (by decide +kernel) (by decide +kernel) (by decide +kernel) (by decide +kernel)) (abM (aab 2)) rfl (fun _ _ _ _=>(aaC (i:=0) (show (cmpN ["order"] [(0,"corner"),(1,"arrows")]).Nodup by decide +kernel) rfl (Or.inl rfl) (Or.inr rfl))) (fun _ _ _ _ _ hp=>(aj4 hp GX_simplex (hr.mono (by decide)) rfl n_simplex k_simplex acb .nil Dv.nil (aaa (aaX C_gone hr (by decide) rfl (aaa (aab 1) (aaa (aab 2) (aaa (aab 0) aaf)))) aaf)))) aaf)))))
theorem ajy:aaA ["_law_script","_law_row_here","_law_k","_law_cell","_law_one","_law_two","_law_three"] ["_law_script"] (aad afg):=⟨rfl,rfl,rfl,by decide +kernel,rfl,by decide +kernel,by decide +kernel⟩
theorem amf {f:Addr} {fd:FuncData} (F:Fun K "_law_row" "_law_row" afg f fd)
  (m_enumerate:mg "enumerate"=none)
  : FnOk P w K mg base CX0 1 f fd ["_law_script"] (spP0 K cl adV):=by
 have nd:=ajy.nd
 refine okP (np:=1) (n:=7) F ajy (by decide) (by decide) (b:=aiL) (k:=0) fun cdv A outer s H E hr=>?_
 exact (aag (aav (i:=1) nd rfl (Or.inl rfl) (afn aaf))
   (aag (adK PassesOwn.never rfl (aku rfl m_enumerate (aaa (aep (aab 0) abO (abP aae)) aaf)) (aen rfl (abH (aaC (i:=2) nd rfl (Or.inl rfl)) (abH (aaC (i:=3) nd rfl (Or.inl rfl)) ado))) (aaj (abL (aaW aog s_ge (aab 3) (aar agz ajK aae aae) (abb _)) (aaj (acW (acS (aab 1) (aaa (aar abY acP (aab 3) (aar agz ajK aae aae)) aaf)))) (aag (aav (i:=4) nd rfl (Or.inl rfl) (aar acF afx (aar aas aaU (aar aaL abT (aar aaL abT (aar aaL abT (aab 3) (aar aas aaU (aar aas aaU aae (aab 2)) (aab 2))) (aar aas aaU aae (aab 2))) aae) aae) aae))
   (aag (aav (i:=5) nd rfl (Or.inl rfl) (aar acF afx (aar aas aaU (aar aaL abT (aar aaL abT (aar aaL abT (aab 3) (aar aas aaU (aar aas aaU aae (aab 2)) (aab 2))) (aar aas aaU aae (aab 2))) aae) aae) aae))
   (aag (aav (i:=6) nd rfl (Or.inl rfl) (aar acF afx (aar aas aaU (aar aaL abT (aar aaL abT (aar aaL abT (aab 3) (aar aas aaU (aar aas aaU aae (aab 2)) (aab 2))) (aar aas aaU aae (aab 2))) aae) aae) aae))
   (aag (aav (i:=4) nd rfl (Or.inl rfl) (aar acF afx (aar aas aaU (aab 4) aae) aae))
   (aag (aav (i:=5) nd rfl (Or.inl rfl) (aar acF afx (aar aas aaU (aab 5) aae) aae))
   (aag (aav (i:=6) nd rfl (Or.inl rfl) (aar acF afx (aar aas aaU (aab 6) aae) aae))
   (aaj (acW (acS (aab 1) (aaa (aar aaL abT (aar aas aaU (aar aaL abT (aar aas aaU (aab 4) aae) (aab 5)) aae) (aab 6)) aaf)))))))))))))
   (aaj (aay (aab 1)))))
theorem ahf:aaA ["_law_row_here","_law_many","_law_found"] ["_law_row_here","_law_many"] (aad adJ):=⟨rfl,rfl,rfl,by decide +kernel,rfl,by decide +kernel,by decide +kernel⟩
theorem aj1 {f:Addr} {fd:FuncData} (F:Fun K "_law_take" "_law_take" adJ f fd)
  (m_len:mg "len"=none)
  : FnOk P w K mg base CX0 1 f fd ["_law_row_here","_law_many"] (spP0 K cl aaq):=by
 have nd:=ahf.nd
 refine okP (np:=2) (n:=3) F ahf (by decide) (by decide) (b:=afo) (k:=0) fun cdv A outer s H E hr=>?_
 exact (aag (aeE PassesOwn.never (PWp.pt (alZ (aaW alJ s_gt (aaY aba afC rfl m_len adq (aaa (aab 0) aaf)) aae (abb _)) (ajV (aaW (ab3 (hu8 hr)) s_eq (aaD (aab 0) aae) aae (abb _))))) (aaj (acW (amu (aab 0) (aaa aae aaf)))))
   (aag (abL (aaW (ab3 (hu8 hr)) s_eq (aaY aba afC rfl m_len adq (aaa (aab 0) aaf)) aae (abb _)) (aaj (aay aae)) aaP)
   (aag (aav (i:=2) nd rfl (Or.inl rfl) (aar acF afx (aaD (aab 0) aae) (aab 1)))
   (aag (adx (aar ad0 aho (aaD (aab 0) aae) (aab 1)) (aab 0) aae)
   (aaj (aay (aab 2)))))))
theorem ajI:aaA ["_law_one","_law_other"] ["_law_one","_law_other"] (aad ae9):=⟨rfl,rfl,rfl,by decide +kernel,rfl,by decide +kernel,by decide +kernel⟩
theorem al7 {f:Addr} {fd:FuncData} (F:Fun K "_law_gcd" "_law_gcd" ae9 f fd)
  (m_abs:mg "abs"=none)
  : FnOk P w K mg base CX0 1 f fd ["_law_one","_law_other"] (spP0 K cl aeK):=by
 have nd:=ajI.nd
 refine okP (np:=2) (n:=2) F ajI (by decide) (by decide) (b:=aij) (k:=0) fun cdv A outer s H E hr=>?_
 exact (aag (aav (i:=0) nd rfl (Or.inl rfl) (aaY afJ amb rfl m_abs ajh (aaa (aab 0) aaf)))
   (aag (aav (i:=1) nd rfl (Or.inl rfl) (aaY afJ amb rfl m_abs ajh (aaa (aab 1) aaf)))
   (aag (aeE PassesOwn.never (aaW alJ s_gt (aab 1) aae (abb _)) (aaj (al2 (i:=0) (j:=1) rfl nd rfl rfl (by decide) rfl rfl (aaa (aab 1) (aaa (aar acF afx (aab 0) (aab 1)) aaf)) rfl)))
   (aaj (aay (aab 0))))))
theorem aeV:aaA ["_law_numbers","_law_by","_law_number"] ["_law_numbers"] (aad ace):=⟨rfl,rfl,rfl,by decide +kernel,rfl,by decide +kernel,by decide +kernel⟩
theorem ahT {f:Addr} {fd:FuncData} (F:Fun K "_law_lowest" "_law_lowest" ace f fd)
  (C_wgcd:Cal P w K mg base cl "_law_gcd" 1 ["_law_one","_law_other"] aeK)
  (m_tuple:mg "tuple"=none)
  : FnOk P w K mg base CX0 2 f fd ["_law_numbers"] (spP0 K cl aaK):=by
 have nd:=aeV.nd
 refine okP (np:=1) (n:=3) F aeV (by decide) (by decide) (b:=adp) (k:=1) fun cdv A outer s H E hr=>?_
 exact (aag (aav (i:=1) nd rfl (Or.inr rfl) aae)
   (aag (adK PassesOwn.never rfl (abM (aab 0)) (aaC (i:=2) nd rfl (Or.inl rfl)) (aaj (aav (i:=1) nd rfl (Or.inr rfl) (aaX C_wgcd hr (by decide) rfl (aaa (aab 1) (aaa (aab 2) aaf))))))
   (aag (abL (aaW (ab3 (hu8 hr)) s_eq (aab 1) aae (abb _)) (aaj (aay (abI abk adf rfl m_tuple abU (aaa (aab 0) aaf)))) aaP)
   (aaj (aay (abI abk adf rfl m_tuple abU (aaa (ab2 (own:=["_law_number"]) (cap:=[(1,"_law_by")]) (abQ (aad ace) ["_law_numbers","_law_by","_law_number"] rfl rfl rfl (by decide +kernel) (by decide +kernel) (by decide +kernel) (by decide +kernel) (by decide +kernel)) (abM (aab 0)) rfl (fun _ _ _ _=>(aaC (i:=0) (show (cmpN ["_law_number"] [(1,"_law_by")]).Nodup by decide +kernel) rfl (Or.inl rfl) (Or.inr rfl))) (fun _ _ _ _=>(aar ad0 aho (aab 0) (aab 1)))) aaf)))))))
theorem agq:aaA ["_law_number"] ["_law_number"] (aad acV):=⟨rfl,rfl,rfl,by decide +kernel,rfl,by decide +kernel,by decide +kernel⟩
theorem ai0 {f:Addr} {fd:FuncData} (F:Fun K "_law_whole" "_law_whole" acV f fd)
  (m_bool:mg "bool"=none)
  (m_int:mg "int"=none)
  (m_isinstance:mg "isinstance"=none)
  : FnOk P w K mg base CX0 1 f fd ["_law_number"] (spP0 K cl acI):=by
 have nd:=agq.nd
 refine okP (np:=1) (n:=1) F agq (by decide) (by decide) (b:=afu) (k:=0) fun cdv A outer s H E hr=>?_
 exact (aaj (aay (ahE (afW (n:="int") rfl m_isinstance rfl m_int ani (aab 0)) (ag4 (amW (afW (n:="bool") rfl m_isinstance rfl m_bool alU (aab 0)))))))
theorem ae2:aaA ["_law_told","_law_many"] ["_law_told","_law_many"] (aad acj):=⟨rfl,rfl,rfl,by decide +kernel,rfl,by decide +kernel,by decide +kernel⟩
theorem ahJ {f:Addr} {fd:FuncData} (F:Fun K "_law_wholes" "_law_wholes" acj f fd)
  (C_wwhole:Cal P w K mg base cl "_law_whole" 1 ["_law_number"] acI)
  (m_all:mg "all"=none)
  (m_isinstance:mg "isinstance"=none)
  (m_len:mg "len"=none)
  (m_tuple:mg "tuple"=none)
  : FnOk P w K mg base CX0 2 f fd ["_law_told","_law_many"] (spP0 K cl acx):=by
 have nd:=ae2.nd
 refine okP (np:=2) (n:=2) F ae2 (by decide) (by decide) (b:=aex) (k:=1) fun cdv A outer s H E hr=>?_
 exact (aag (abL (PWp.pt (aig (aeb (aec (afW (n:="tuple") rfl m_isinstance rfl m_tuple abU (aab 0)))) (agP (aaW (aht (hu8 hr)) s_ne (aaY aba afC rfl m_len adq (aaa (aab 0) aaf)) (aab 1) (abb _))))) (aaj (aay ah5)) aaP)
   (aaj (aay (aaY (afw rfl) alH rfl m_all ajs (aaa (ab2 (own:=["_law_number"]) (cap:=[]) (abQ (aad acj) ["_law_told","_law_many"] rfl rfl rfl (by decide +kernel) (by decide +kernel) (by decide +kernel) (by decide +kernel) (by decide +kernel)) (abM (aab 0)) rfl (fun _ _ _ _=>(aaC (i:=0) (show (cmpN ["_law_number"] []).Nodup by decide +kernel) rfl (Or.inl rfl) (Or.inr rfl))) (fun _ _ _ _=>(aaX C_wwhole hr (by decide) rfl (aaa (aab 0) aaf)))) aaf)))))
theorem ae7:aaA ["_law_p","_law_q","_law_way","_law_far_here"] ["_law_p","_law_q","_law_way"] (aad acg):=⟨rfl,rfl,rfl,by decide +kernel,rfl,by decide +kernel,by decide +kernel⟩
theorem ahX {f:Addr} {fd:FuncData} (F:Fun K "_law_joined" "_law_joined" acg f fd)
  (C_wlowest:Cal P w K mg base cl "_law_lowest" 2 ["_law_numbers"] aaK)
  (m_len:mg "len"=none)
  (m_range:mg "range"=none)
  : FnOk P w K mg base CX0 3 f fd ["_law_p","_law_q","_law_way"] (spP0 K cl aaR):=by
 have nd:=ae7.nd
 refine okP (np:=3) (n:=4) F ae7 (by decide) (by decide) (b:=aeu) (k:=2) fun cdv A outer s H E hr=>?_
 exact (aag (ad4 (i:=3) (own:=["_law_k"]) (cap:=[(2,"_law_way"),(1,"_law_q"),(0,"_law_p")]) nd rfl (Or.inl rfl) (abQ (aad acg) ["_law_p","_law_q","_law_way","_law_far_here"] rfl rfl rfl (by decide +kernel) (by decide +kernel) (by decide +kernel) (by decide +kernel) (by decide +kernel)) (acw rfl m_range (aaa (aar abY acP (aaY aba afC rfl m_len adq (aaa (aab 0) aaf)) aae) aaf)) rfl (fun _ _ _ _=>(aaC (i:=0) (show (cmpN ["_law_k"] [(2,"_law_way"),(1,"_law_q"),(0,"_law_p")]).Nodup by decide +kernel) rfl (Or.inl rfl) (Or.inr rfl))) (fun _ _ _ _=>(aar aaL abT (aar aas aaU (aar aas aaU (aab 1) (aaD (aab 3) (aab 0))) (aaD (aab 2) (abF aaS abG aae))) (aar aas aaU (aaD (aab 2) (aab 0)) (aaD (aab 3) (abF aaS abG aae))))))
   (aaj (aay (aaX C_wlowest hr (by decide) rfl (aaa (aar aaL abT (aab 3) (acn (aaa (aar aas aaU (aaD (aab 0) (abF aaS abG aae)) (aaD (aab 1) (abF aaS abG aae))) aaf))) aaf)))))
theorem ai5:aaA ["_law_p","_law_q"] ["_law_p","_law_q"] (aad aej):=⟨rfl,rfl,rfl,by decide +kernel,rfl,by decide +kernel,by decide +kernel⟩
theorem al9 {f:Addr} {fd:FuncData} (F:Fun K "_law_gap" "_law_gap" aej f fd)
  (m_len:mg "len"=none)
  (m_range:mg "range"=none)
  : FnOk P w K mg base CX0 1 f fd ["_law_p","_law_q"] (spP0 K cl adS):=by
 have nd:=ai5.nd
 refine okP (np:=2) (n:=2) F ai5 (by decide) (by decide) (b:=aio) (k:=0) fun cdv A outer s H E hr=>?_
 exact (aaj (aay (ab2 (own:=["_law_k"]) (cap:=[(1,"_law_q"),(0,"_law_p")]) (abQ (aad aej) ["_law_p","_law_q"] rfl rfl rfl (by decide +kernel) (by decide +kernel) (by decide +kernel) (by decide +kernel) (by decide +kernel)) (acw rfl m_range (aaa (aar abY acP (aaY aba afC rfl m_len adq (aaa (aab 0) aaf)) aae) aaf)) rfl (fun _ _ _ _=>(aaC (i:=0) (show (cmpN ["_law_k"] [(1,"_law_q"),(0,"_law_p")]).Nodup by decide +kernel) rfl (Or.inl rfl) (Or.inr rfl))) (fun _ _ _ _=>(aar abY acP (aar aas aaU (aaD (aab 1) (aab 0)) (aaD (aab 2) (abF aaS abG aae))) (aar aas aaU (aaD (aab 2) (aab 0)) (aaD (aab 1) (abF aaS abG aae))))))))
theorem agg:aaA ["_law_u","_law_v","_law_x","_law_y","_law_z"] ["_law_u","_law_v"] (aad acY):=⟨rfl,rfl,rfl,by decide +kernel,rfl,by decide +kernel,by decide +kernel⟩
theorem ajk {f:Addr} {fd:FuncData} (F:Fun K "_law_cross" "_law_cross" acY f fd)
  : FnOk P w K mg base CX0 1 f fd ["_law_u","_law_v"] (spP0 K cl acX):=by
 have nd:=agg.nd
 refine okP (np:=2) (n:=5) F agg (by decide) (by decide) (b:=afr) (k:=0) fun cdv A outer s H E hr=>?_
 exact (aag (aav (i:=2) nd rfl (Or.inl rfl) (aar abY acP (aar aas aaU (aaD (aab 0) aae) (aaD (aab 1) aae)) (aar aas aaU (aaD (aab 0) aae) (aaD (aab 1) aae))))
   (aag (aav (i:=3) nd rfl (Or.inl rfl) (aar abY acP (aar aas aaU (aaD (aab 0) aae) (aaD (aab 1) aae)) (aar aas aaU (aaD (aab 0) aae) (aaD (aab 1) aae))))
   (aag (aav (i:=4) nd rfl (Or.inl rfl) (aar abY acP (aar aas aaU (aaD (aab 0) aae) (aaD (aab 1) aae)) (aar aas aaU (aaD (aab 0) aae) (aaD (aab 1) aae))))
   (aaj (aay (acn (aaa (aab 2) (aaa (aab 3) (aaa (aab 4) aaf)))))))))
theorem ajl:aaA ["_law_u","_law_v"] ["_law_u","_law_v"] (aad aem):=⟨rfl,rfl,rfl,by decide +kernel,rfl,by decide +kernel,by decide +kernel⟩
theorem ame {f:Addr} {fd:FuncData} (F:Fun K "_law_dot" "_law_dot" aem f fd)
  (m_sum:mg "sum"=none)
  (m_zip:mg "zip"=none)
  : FnOk P w K mg base CX0 1 f fd ["_law_u","_law_v"] (spP0 K cl aeZ):=by
 have nd:=ajl.nd
 refine okP (np:=2) (n:=2) F ajl (by decide) (by decide) (b:=ajH) (k:=0) fun cdv A outer s H E hr=>?_
 exact (aaj (aay (aaY (afT rfl) amZ rfl m_sum ala (aaa (ab2 (own:=["_law_one","_law_other"]) (cap:=[]) (abQ (aad aem) ["_law_u","_law_v"] rfl rfl rfl (by decide +kernel) (by decide +kernel) (by decide +kernel) (by decide +kernel) (by decide +kernel)) (afG rfl m_zip (aaa (aab 0) (aaa (aab 1) aaf))) rfl (fun _ _ _ _=>(aen rfl (abH (aaC (i:=0) (show (cmpN ["_law_one","_law_other"] []).Nodup by decide +kernel) rfl (Or.inl rfl) (Or.inr rfl)) (abH (aaC (i:=1) (show (cmpN ["_law_one","_law_other"] []).Nodup by decide +kernel) rfl (Or.inl rfl) (Or.inr rfl)) ado)))) (fun _ _ _ _=>(aar aas aaU (aab 0) (aab 1)))) aaf))))
theorem ag1:aaA ["_law_ways"] ["_law_ways"] (aad adA):=⟨rfl,rfl,rfl,by decide +kernel,rfl,by decide +kernel,by decide +kernel⟩
theorem ajW {f:Addr} {fd:FuncData} (F:Fun K "_law_turn" "_law_turn" adA f fd)
  (C_wdot:Cal P w K mg base cl "_law_dot" 1 ["_law_u","_law_v"] aeZ)
  (C_wcross:Cal P w K mg base cl "_law_cross" 1 ["_law_u","_law_v"] acX)
  (m_len:mg "len"=none)
  : FnOk P w K mg base CX0 2 f fd ["_law_ways"] (spP0 K cl abj):=by
 have nd:=ag1.nd
 refine okP (np:=1) (n:=1) F ag1 (by decide) (by decide) (b:=adz) (k:=1) fun cdv A outer s H E hr=>?_
 exact (aag (abL (aaW (ab3 (hu8 hr)) s_eq (aaY aba afC rfl m_len adq (aaa (aab 0) aaf)) aae (abb _)) (aaj (aay (aar abY acP (aar aas aaU (aaD (aaD (aab 0) aae) aae) (aaD (aaD (aab 0) aae) aae)) (aar aas aaU (aaD (aaD (aab 0) aae) aae) (aaD (aaD (aab 0) aae) aae))))) aaP)
   (aaj (aay (aaX C_wdot hr (by decide) rfl (aaa (aaX C_wcross hr (by decide) rfl (aaa (aaD (aab 0) aae) (aaa (aaD (aab 0) aae) aaf))) (aaa (aaD (aab 0) aae) aaf))))))
theorem aiE:aaA ["_law_points"] ["_law_points"] (aad aey):=⟨rfl,rfl,rfl,by decide +kernel,rfl,by decide +kernel,by decide +kernel⟩
theorem alo {f:Addr} {fd:FuncData} (F:Fun K "_law_det" "_law_det" aey f fd)
  (C_wturn:Cal P w K mg base cl "_law_turn" 2 ["_law_ways"] abj)
  (C_wgap:Cal P w K mg base cl "_law_gap" 1 ["_law_p","_law_q"] adS)
  : FnOk P w K mg base CX0 3 f fd ["_law_points"] (spP0 K cl acQ):=by
 have nd:=aiE.nd
 refine okP (np:=1) (n:=1) F aiE (by decide) (by decide) (b:=ahk) (k:=2) fun cdv A outer s H E hr=>?_
 exact (aaj (aay (aaX C_wturn hr (by decide) rfl (aaa (ab2 (own:=["_law_p"]) (cap:=[(0,"_law_points")]) (abQ (aad aey) ["_law_points"] rfl rfl rfl (by decide +kernel) (by decide +kernel) (by decide +kernel) (by decide +kernel) (by decide +kernel)) (abM (aep (aab 0) (abP aae) abO)) rfl (fun _ _ _ _=>(aaC (i:=0) (show (cmpN ["_law_p"] [(0,"_law_points")]).Nodup by decide +kernel) rfl (Or.inl rfl) (Or.inr rfl))) (fun _ _ _ _=>(aaX C_wgap hr (by decide) rfl (aaa (aaD (aab 1) aae) (aaa (aab 0) aaf))))) aaf))))
theorem aeC:aaA ["_law_points","_law_told"] ["_law_points"] (aad ab7):=⟨rfl,rfl,rfl,by decide +kernel,rfl,by decide +kernel,by decide +kernel⟩
theorem agY {f:Addr} {fd:FuncData} (F:Fun K "_law_simplex" "_law_simplex" ab7 f fd)
  (C_wdet:Cal P w K mg base cl "_law_det" 3 ["_law_points"] acQ)
  (m_sorted:mg "sorted"=none)
  (m_tuple:mg "tuple"=none)
  : FnOk P w K mg base CX0 4 f fd ["_law_points"] (spP0 K cl aaO):=by
 have nd:=aeC.nd
 refine okP (np:=1) (n:=2) F aeC (by decide) (by decide) (b:=ab8) (k:=3) fun cdv A outer s H E hr=>?_
 exact (aag (aav (i:=1) nd rfl (Or.inl rfl) (aaY ae4 akU rfl m_sorted agx (aaa (aab 0) aaf)))
   (aag (abL (aaW akN s_lt (aaX C_wdet hr (by decide) rfl (aaa (aab 1) aaf)) aae (abb _)) (aaj (aav (i:=1) nd rfl (Or.inl rfl) (aar aaL abT (aep (aab 1) abO (abP (abF aaS abG aae))) (acn (aaa (aaD (aab 1) (abF aaS abG aae)) (aaa (aaD (aab 1) (abF aaS abG aae)) aaf)))))) aaP)
   (aaj (aay (abI abk adf rfl m_tuple abU (aaa (aab 1) aaf))))))
theorem ac6:aaA ["_law_p","_law_many"] ["_law_p","_law_many"] (aad abD):=⟨rfl,rfl,rfl,by decide +kernel,rfl,by decide +kernel,by decide +kernel⟩
theorem aeU {f:Addr} {fd:FuncData} (F:Fun K "_law_point_form" "_law_point_form" abD f fd)
  (C_wwholes:Cal P w K mg base cl "_law_wholes" 2 ["_law_told","_law_many"] acx)
  (C_wlowest:Cal P w K mg base cl "_law_lowest" 2 ["_law_numbers"] aaK)
  : FnOk P w K mg base CX0 3 f fd ["_law_p","_law_many"] (spP0 K cl abn):=by
 have nd:=ac6.nd
 refine okP (np:=2) (n:=2) F ac6 (by decide) (by decide) (b:=acG) (k:=2) fun cdv A outer s H E hr=>?_
 exact (aag (abL (PWp.pt (aig (aeb (aec (aaX C_wwholes hr (by decide) rfl (aaa (aab 0) (aaa (aar aaL abT (aab 1) aae) aaf))))) (agP (aaW akN s_lt (aaD (aab 0) (abF aaS abG aae)) aae (abb _))))) (aaj (aay ah5)) aaP)
   (aaj (aay (ahm (ab3 (hu8 hr)) s_eq (aaX C_wlowest hr (by decide) rfl (aaa (aab 0) aaf)) (aab 0) (abb _)))))
theorem acK:aaA ["_law_points","_law_many"] ["_law_points","_law_many"] (aad aa4):=⟨rfl,rfl,rfl,by decide +kernel,rfl,by decide +kernel,by decide +kernel⟩
theorem adY {f:Addr} {fd:FuncData} (F:Fun K "_law_simplex_form" "_law_simplex_form" aa4 f fd)
  (C_wpoint_form:Cal P w K mg base cl "_law_point_form" 3 ["_law_p","_law_many"] abn)
  (C_wdet:Cal P w K mg base cl "_law_det" 3 ["_law_points"] acQ)
  (C_wsimplex:Cal P w K mg base cl "_law_simplex" 4 ["_law_points"] aaO)
  (m_all:mg "all"=none)
  (m_isinstance:mg "isinstance"=none)
  (m_len:mg "len"=none)
  (m_tuple:mg "tuple"=none)
  : FnOk P w K mg base CX0 5 f fd ["_law_points","_law_many"] (spP0 K cl aa3):=by
 have nd:=acK.nd
 refine okP (np:=2) (n:=2) F acK (by decide) (by decide) (b:=aci) (k:=4) fun cdv A outer s H E hr=>?_
 exact (aag (abL (PWp.pt (aig (aeb (aec (afW (n:="tuple") rfl m_isinstance rfl m_tuple abU (aab 0)))) (agP (aaW (aht (hu8 hr)) s_ne (aaY aba afC rfl m_len adq (aaa (aab 0) aaf)) (aar aaL abT (aab 1) aae) (abb _))))) (aaj (aay ah5)) aaP)
   (aag (abL (aeb (aec (aaY (afw rfl) alH rfl m_all ajs (aaa (ab2 (own:=["_law_p"]) (cap:=[(1,"_law_many")]) (abQ (aad aa4) ["_law_points","_law_many"] rfl rfl rfl (by decide +kernel) (by decide +kernel) (by decide +kernel) (by decide +kernel) (by decide +kernel)) (abM (aab 0)) rfl (fun _ _ _ _=>(aaC (i:=0) (show (cmpN ["_law_p"] [(1,"_law_many")]).Nodup by decide +kernel) rfl (Or.inl rfl) (Or.inr rfl))) (fun _ _ _ _=>(aaX C_wpoint_form hr (by decide) rfl (aaa (aab 0) (aaa (aab 1) aaf))))) aaf)))) (aaj (aay ah5)) aaP)
   (aaj (aay (ahE (ahm (aht (hu8 hr)) s_ne (aaX C_wdet hr (by decide) rfl (aaa (aab 0) aaf)) aae (abb _)) (ag4 (ahm (ab3 (hu8 hr)) s_eq (aaX C_wsimplex hr (by decide) rfl (aaa (aab 0) aaf)) (aab 0) (abb _))))))))
theorem adv:aaA ["_law_heap","_law_many"] ["_law_heap","_law_many"] (aad abx):=⟨rfl,rfl,rfl,by decide +kernel,rfl,by decide +kernel,by decide +kernel⟩
theorem afy {f:Addr} {fd:FuncData} (F:Fun K "_law_heap_form" "_law_heap_form" abx f fd)
  (C_wsimplex_form:Cal P w K mg base cl "_law_simplex_form" 5 ["_law_points","_law_many"] aa3)
  (m_all:mg "all"=none)
  (m_isinstance:mg "isinstance"=none)
  (m_tuple:mg "tuple"=none)
  : FnOk P w K mg base CX0 6 f fd ["_law_heap","_law_many"] (spP0 K cl abh):=by
 have nd:=adv.nd
 refine okP (np:=2) (n:=2) F adv (by decide) (by decide) (b:=acN) (k:=5) fun cdv A outer s H E hr=>?_
 exact (aag (abL (aeb (aec (afW (n:="tuple") rfl m_isinstance rfl m_tuple abU (aab 0)))) (aaj (aay ah5)) aaP)
   (aaj (aay (aaY (afw rfl) alH rfl m_all ajs (aaa (ab2 (own:=["_law_points"]) (cap:=[(1,"_law_many")]) (abQ (aad abx) ["_law_heap","_law_many"] rfl rfl rfl (by decide +kernel) (by decide +kernel) (by decide +kernel) (by decide +kernel) (by decide +kernel)) (abM (aab 0)) rfl (fun _ _ _ _=>(aaC (i:=0) (show (cmpN ["_law_points"] [(1,"_law_many")]).Nodup by decide +kernel) rfl (Or.inl rfl) (Or.inr rfl))) (fun _ _ _ _=>(aaX C_wsimplex_form hr (by decide) rfl (aaa (aab 0) (aaa (aab 1) aaf))))) aaf)))))
theorem aje:aaA ["_law_row_here","_law_dims","_law_kind","_law_wide","_law_under","_law_far_here"] ["_law_row_here","_law_dims"] (aad aeg):=⟨rfl,rfl,rfl,by decide +kernel,rfl,by decide +kernel,by decide +kernel⟩
theorem amc {f:Addr} {fd:FuncData} (F:Fun K "_law_far" "_law_far" aeg f fd)
  (C_wtake:Cal P w K mg base cl "_law_take" 1 ["_law_row_here","_law_many"] aaq)
  (C_wlowest:Cal P w K mg base cl "_law_lowest" 2 ["_law_numbers"] aaK)
  (m_range:mg "range"=none)
  : FnOk P w K mg base CX0 3 f fd ["_law_row_here","_law_dims"] (spP0 K cl ac2):=by
 have nd:=aje.nd
 refine okP (np:=2) (n:=6) F aje (by decide) (by decide) (b:=ajB) (k:=2) fun cdv A outer s H E hr=>?_
 exact (aag (aav (i:=2) nd rfl (Or.inl rfl) (aaX C_wtake hr (by decide) rfl (aaa (aab 0) (aaa aae aaf))))
   (aag (aav (i:=3) nd rfl (Or.inr rfl) (aaD (acn (aaa aae (aaa aae (aaa aae (aaa (aar agz ajK aae aae) aaf))))) (aab 2)))
   (aag (aav (i:=4) nd rfl (Or.inl rfl) (aar aaL abT aae (aar aas aaU (aaX C_wtake hr (by decide) rfl (aaa (aab 0) (aaa aae aaf))) (aar ad0 aho (aab 2) aae))))
   (aag (ad4 (i:=5) (own:=["_law_k"]) (cap:=[(3,"_law_wide"),(0,"_law_row_here")]) nd rfl (Or.inl rfl) (abQ (aad aeg) ["_law_row_here","_law_dims","_law_kind","_law_wide","_law_under","_law_far_here"] rfl rfl rfl (by decide +kernel) (by decide +kernel) (by decide +kernel) (by decide +kernel) (by decide +kernel)) (acw rfl m_range (aaa (aab 1) aaf)) rfl (fun _ _ _ _=>(aaC (i:=0) (show (cmpN ["_law_k"] [(3,"_law_wide"),(0,"_law_row_here")]).Nodup by decide +kernel) rfl (Or.inl rfl) (Or.inr rfl))) (fun _ _ _ _=>(aar abY acP (aaX C_wtake hr (by decide) rfl (aaa (aab 2) (aaa (aar aaL abT (aar aas aaU aae (aab 1)) aae) aaf))) (aab 1))))
   (aaj (aay (aaX C_wlowest hr (by decide) rfl (aaa (aar aaL abT (aab 5) (acn (aaa (aab 4) aaf))) aaf))))))))
theorem af8:aaA ["_law_row_here","_law_dims","_law_wide","_law_under","_law_far_here"] ["_law_row_here","_law_dims"] (aad acC):=⟨rfl,rfl,rfl,by decide +kernel,rfl,by decide +kernel,by decide +kernel⟩
theorem ajv {f:Addr} {fd:FuncData} (F:Fun K "_law_shift" "_law_shift" acC f fd)
  (C_wtake:Cal P w K mg base cl "_law_take" 1 ["_law_row_here","_law_many"] aaq)
  (C_wlowest:Cal P w K mg base cl "_law_lowest" 2 ["_law_numbers"] aaK)
  (m_range:mg "range"=none)
  : FnOk P w K mg base CX0 3 f fd ["_law_row_here","_law_dims"] (spP0 K cl abC):=by
 have nd:=af8.nd
 refine okP (np:=2) (n:=5) F af8 (by decide) (by decide) (b:=ad3) (k:=2) fun cdv A outer s H E hr=>?_
 exact (aag (aav (i:=2) nd rfl (Or.inr rfl) (aaD (acn (aaa aae (aaa aae (aaa (aar agz ajK aae aae) aaf)))) (aaX C_wtake hr (by decide) rfl (aaa (aab 0) (aaa aae aaf)))))
   (aag (aav (i:=3) nd rfl (Or.inl rfl) (aaD (acn (aaa aae (aaa aae (aaa (aar agz ajK aae aae) aaf)))) (aaX C_wtake hr (by decide) rfl (aaa (aab 0) (aaa aae aaf)))))
   (aag (aav (i:=3) nd rfl (Or.inl rfl) (aar aaL abT aae (aaX C_wtake hr (by decide) rfl (aaa (aab 0) (aaa (aab 3) aaf)))))
   (aag (af7 (i:=4) (own:=["_law_k"]) (cap:=[(2,"_law_wide"),(0,"_law_row_here")]) nd rfl (Or.inl rfl) (abQ (aad acC) ["_law_row_here","_law_dims","_law_wide","_law_under","_law_far_here"] rfl rfl rfl (by decide +kernel) (by decide +kernel) (by decide +kernel) (by decide +kernel) (by decide +kernel)) (acw rfl m_range (aaa (aab 1) aaf)) rfl (fun _ _ _ _=>(aaC (i:=0) (show (cmpN ["_law_k"] [(2,"_law_wide"),(0,"_law_row_here")]).Nodup by decide +kernel) rfl (Or.inl rfl) (Or.inr rfl))) (fun _ _ _ _=>(aar abY acP (aaX C_wtake hr (by decide) rfl (aaa (aab 2) (aaa (aar aaL abT (aar aas aaU aae (aab 1)) aae) aaf))) (aab 1))))
   (aag (adx (aar aas aaU (aar aaL abT aae (aaX C_wtake hr (by decide) rfl (aaa (aab 0) (aaa (aab 2) aaf)))) (aar abY acP aae (aar aas aaU aae (aaX C_wtake hr (by decide) rfl (aaa (aab 0) (aaa aae aaf)))))) (aab 4) (abF aaS abG aae))
   (aag (abL (aaW (ab3 (hu8 hr)) s_eq (aaX C_wtake hr (by decide) rfl (aaa (aab 0) (aaa aae aaf))) aae (abb _)) (aaj (adx aae (aab 4) (abF aaS abG aae))) aaP)
   (aaj (aay (aaX C_wlowest hr (by decide) rfl (aaa (aar aaL abT (aab 4) (acn (aaa (aab 3) aaf))) aaf))))))))))
theorem ak7:aaA ["_law_script","_law_row_here","_law_dims","_law_corner","_law_ways","_law_last","_law_found","_law_refused","e","_law_orders","_law_due","_law_order","_law_points","_law_k"] ["_law_script"] (aad aeD):=⟨rfl,rfl,rfl,by decide +kernel,rfl,by decide +kernel,by decide +kernel⟩
theorem anE {f:Addr} {fd:FuncData} (F:Fun K "law" "law" aeD f fd)
  (C_wrow:Cal P w K mg base cl "_law_row" 1 ["_law_script"] adV)
  (C_wtake:Cal P w K mg base cl "_law_take" 1 ["_law_row_here","_law_many"] aaq)
  (C_wfar:Cal P w K mg base cl "_law_far" 3 ["_law_row_here","_law_dims"] ac2)
  (C_wshift:Cal P w K mg base cl "_law_shift" 3 ["_law_row_here","_law_dims"] abC)
  (C_wjoined:Cal P w K mg base cl "_law_joined" 3 ["_law_p","_law_q","_law_way"] aaR)
  {a_box:Addr} {d_box:FuncData}
  (GX_box:FnOk P w K mg base (CX1 P w) 6 a_box d_box ["corner","arrows"] (spP K cl aeP))
  (G_box:FnOk P w K mg base CX0 6 a_box d_box ["corner","arrows"] (spP0 K cl aeP)) (aiD:acL K d_box ["corner","arrows"] []) (k_box:PySem.W.keepIn K (.ref a_box)=true) (n_box:mg "box"=some (.ref a_box))
  (C_wturn:Cal P w K mg base cl "_law_turn" 2 ["_law_ways"] abj)
  (C_wsimplex:Cal P w K mg base cl "_law_simplex" 4 ["_law_points"] aaO)
  (C_wheap_form:Cal P w K mg base cl "_law_heap_form" 6 ["_law_heap","_law_many"] abh)
  (m_isinstance:mg "isinstance"=none)
  (m_list:mg "list"=none)
  (m_range:mg "range"=none)
  (m_tuple:mg "tuple"=none)
  (q_Flat:mg "Flat"=some (.ref (cl "Flat"))) (x_Flat:PySem.W.excIn K (cl "Flat") acr "ValueError.__new__"=true)
  (q_HallError:mg "HallError"=some (.ref (cl "HallError"))) (x_HallError:PySem.W.excIn K (cl "HallError") acr "ValueError.__new__"=true)
  (Z_Flat:XCls K (cl "Flat"))
  (kt_Flat_HallError:PySem.W.kitOne K (.ref (cl "Flat")) (.ref (cl "HallError"))=some true)
  : FnOk P w K mg base CX0 7 f fd ["_law_script"] (spP0 K cl amg):=by
 have nd:=ak7.nd
 refine okP (np:=1) (n:=14) F ak7 (by decide) (by decide) (b:=alM) (k:=6) fun cdv A outer s H E hr=>?_
 exact (aag (aav (i:=1) nd rfl (Or.inr rfl) (aon C_wrow hr (by decide) rfl (aaa (aab 0) aaf)))
   (aag (aav (i:=2) nd rfl (Or.inr rfl) (aar aaL abT aae (aaX C_wtake hr (by decide) rfl (aaa (aab 1) (aaa aae aaf)))))
   (aag (aav (i:=3) nd rfl (Or.inl rfl) (aaX C_wfar hr (by decide) rfl (aaa (aab 1) (aaa (aab 2) aaf))))
   (aag (af7 (i:=4) (own:=["_law_k"]) (cap:=[(1,"_law_row_here"),(2,"_law_dims")]) nd rfl (Or.inl rfl) (abQ (aad aeD) ["_law_script","_law_row_here","_law_dims","_law_corner","_law_ways","_law_last","_law_found","_law_refused","e","_law_orders","_law_due","_law_order","_law_points","_law_k"] rfl rfl rfl (by decide +kernel) (by decide +kernel) (by decide +kernel) (by decide +kernel) (by decide +kernel)) (acw rfl m_range (aaa (aab 2) aaf)) rfl (fun _ _ _ _=>(aaC (i:=0) (show (cmpN ["_law_k"] [(1,"_law_row_here"),(2,"_law_dims")]).Nodup by decide +kernel) rfl (Or.inl rfl) (Or.inr rfl))) (fun _ _ _ _=>(aaX C_wshift hr (by decide) rfl (aaa (aab 1) (aaa (aab 2) aaf)))))
   (aag (abL (aaW (ab3 (hu8 hr)) s_eq (aaX C_wtake hr (by decide) rfl (aaa (aab 1) (aaa aae aaf))) aae (abb _)) (aag (aav (i:=5) nd rfl (Or.inl rfl) (aaX C_wjoined hr (by decide) rfl (aaa (aaD (aab 4) aae) (aaa (aaD (aab 4) aae) (aaa (aar abY acP (aaX C_wtake hr (by decide) rfl (aaa (aab 1) (aaa aae aaf))) aae) aaf)))))
   (aag (abL (aaW (ab3 (hu8 hr)) s_eq (aab 2) aae (abb _)) (aaj (aav (i:=5) nd rfl (Or.inl rfl) (aaX C_wjoined hr (by decide) rfl (aaa (aaD (aab 4) aae) (aaa (aab 5) (aaa (aar abY acP (aaX C_wtake hr (by decide) rfl (aaa (aab 1) (aaa aae aaf))) aae) aaf)))))) aaP)
   (aaj (adx (aab 5) (aab 4) (abF aaS abG aae))))) aaP)
   (aag (aav (i:=6) nd rfl (Or.inl rfl) amE)
   (aag (aav (i:=7) nd rfl (Or.inl rfl) ah5)
   (aag (akb (i:=8) (jv:=6) (nn:=14) (c:="Flat") (up:=fun ρ=>(((ρ.set 8 none).set 7 (some (.pv (.bl true)))).set 8 none)) rfl rfl nd rfl rfl rfl q_Flat x_Flat GX_box (hr.mono (by decide)) rfl n_box k_box aiD .nil Dv.nil (aaa (aab 3) (aaa (abI abk adf rfl m_tuple abU (aaa (aab 4) aaf)) aaf)) rfl (Or.inl rfl) (fun y oe hc=>(aif (alc (i:=7) nd rfl (Or.inl rfl) (aft (akx Z_Flat List.mem_cons_self hc) rfl m_isinstance PyProof.Rows.boot_isinstance (adN (pv 8) (adN (aii (v:=.ref (cl "HallError")) rfl q_HallError rfl) ahx)))))) (fun y oe D σ H p ρ hl ev k=>by
    match σ,hl,ev with
    | [s0,s1,s2,s3,s4,s5,s6,s7,s8,s9,s10,s11,s12,s13],_,ev=>exact ⟨_,rfl,_,true,.inr ⟨_,rfl,kt_Flat_HallError⟩,rfl,k _ (((ev.forget 8 (some (.ref y))).setB 7 true).forget 8 none)⟩))
   (aag (abL (aaW (ab3 (hu8 hr)) s_eq (aaX C_wturn hr (by decide) rfl (aaa (ab2 (own:=["_law_way"]) (cap:=[]) (abQ (aad aeD) ["_law_script","_law_row_here","_law_dims","_law_corner","_law_ways","_law_last","_law_found","_law_refused","e","_law_orders","_law_due","_law_order","_law_points","_law_k"] rfl rfl rfl (by decide +kernel) (by decide +kernel) (by decide +kernel) (by decide +kernel) (by decide +kernel)) (abM (aab 4)) rfl (fun _ _ _ _=>(aaC (i:=0) (show (cmpN ["_law_way"] []).Nodup by decide +kernel) rfl (Or.inl rfl) (Or.inr rfl))) (fun _ _ _ _=>(abI acT agB rfl m_list agA (aaa (aep (aab 0) abO (abP (abF aaS abG aae))) aaf)))) aaf)) aae (abb _)) (aaj (aay (ahE (aab 7) (ag4 (anb (aab 6)))))) aaP)
   (aag (aav (i:=9) nd rfl (Or.inl rfl) (aiQ (by kernel_rfl)))
   (aag (akQ (i:=9) (aaW (ab3 (hu8 hr)) s_eq (aab 2) aae (abb _)) nd rfl (Or.inl rfl) (by kernel_rfl))
   (aag (aav (i:=10) nd rfl (Or.inl rfl) (afn aaf))
   (aag (adK PassesOwn.never rfl (abM (aab 9)) (aaC (i:=11) nd rfl (Or.inl rfl)) (aag (aav (i:=12) nd rfl (Or.inl rfl) (afn (aaa (aab 3) aaf)))
   (aag (adK PassesOwn.never rfl (abM (aab 11)) (aaC (i:=13) nd rfl (Or.inl rfl)) (aaj (acW (acS (aab 12) (aaa (aaX C_wjoined hr (by decide) rfl (aaa (aaD (aab 12) (abF aaS abG aae)) (aaa (aaD (aab 4) (aab 13)) (aaa aae aaf)))) aaf)))))
   (aaj (acW (acS (aab 10) (aaa (aaX C_wsimplex hr (by decide) rfl (aaa (aab 12) aaf)) aaf)))))))
   (aaj (aay (ahE (aaX C_wheap_form hr (by decide) rfl (aaa (aab 6) (aaa (aab 2) aaf))) (ag4 (ahm (ab3 (hu8 hr)) s_eq (abI acT agB rfl m_list agA (aaa (aab 6) aaf)) (aab 10) (abb _)))))))))))))))))))
end
def EC:=And.intro @aaI.eq_1 (And.intro @sSeq.eq_1 (And.intro @sIf.eq_1 (And.intro @mTst.eq_1 (And.intro @mNot.eq_1 (And.intro @mAnd.eq_1 (And.intro @mOr.eq_1 (And.intro @abf.eq_1 (And.intro @mOrV.eq_1 (And.intro @mIf.eq_1 (And.intro @mBin.eq_1 (And.intro @mUn.eq_1 (And.intro @mR.eq_1 (And.intro @mN.eq_1 (And.intro @aac.eq_1 (And.intro @mVar.eq_1 (And.intro @mC.eq_1 (And.intro @mNil.eq_1 (And.intro @Res.bind.eq_1 (And.intro @Res.bind.eq_2 (And.intro @Res.bind.eq_3 (And.intro @abv.eq_1 (And.intro @abc.eq_1 (And.intro @abo.eq_1 (And.intro @aby.eq_1 (And.intro @aa5.eq_1 (And.intro @aa5.eq_2 (And.intro @rd.eq_1 (And.intro @rd.eq_2 (And.intro @aa8.eq_1 (And.intro @aa8.eq_2 (And.intro @aa8.eq_3 (And.intro @okO.eq_1 (And.intro @okO.eq_2 (And.intro @fLen.eq_1 (And.intro @fLen.eq_2 (And.intro @fLen.eq_3 (And.intro @fTup.eq_1 (And.intro @fLst.eq_1 (And.intro @fNeg.eq_1 (And.intro @fNeg.eq_2 (And.intro @fNot.eq_1 (And.intro @fNot.eq_2 (And.intro @tst.eq_1 (And.intro @tst.eq_2 (And.intro @SRes.of.eq_1 (And.intro @SRes.of.eq_2 (And.intro @SRes.of.eq_3 (And.intro @sRet.eq_1 (And.intro @abJ.eq_1 (And.intro @sNil.eq_1 (And.intro @aaQ.eq_1 (And.intro @sSet.eq_1 (And.intro @aaH.eq_1 (And.intro @aaH.eq_2 (And.intro @aaH.eq_3 (And.intro @aaH.eq_4 (And.intro @abi.eq_1 (And.intro @abi.eq_2 (And.intro @aah.eq_1 (And.intro @abu.eq_1 (@aaM.eq_1)))))))))))))))))))))))))))))))))))))))))))))))))))))))))))))
theorem aka (S:Sto) (k:Nat) (o:SO):(S.set k o).take S.length=S.set k o:=List.take_of_length_le (by simp)
def Row (S:Sto) (k:Nat) (ns:List Int):Prop:=S[k]?=some (.lst (ns.map .int))
theorem Row.lt {S:Sto} {k:Nat} {ns:List Int} (h:Row S k ns):k < S.length:=(List.getElem?_eq_some_iff.mp h).1
theorem Row.set {S:Sto} {k:Nat} {ns:List Int} (h:Row S k ns) (ms:List Int):Row (S.set k (.lst (ms.map .int))) k ms:=List.getElem?_set_self h.lt
theorem ae0 {r:Rho} {k:Nat} {m:AV}:∀ (ns:List Int) (S:Sto),Row S k ns→∃ n ns',aaZ (mAnd (mTst (mBin fGt (mR fLen (aac (mVar 0) mNil)) (mC (.int 0)))) (mTst (mBin fEq (mBin fIx (mVar 0) (mC (.int 0))) (mC (.int 0))))) (aaQ (mPop (mVar 0) (aac (mC (.int 0)) mNil))) n (some (.ref k) :: some m :: r) S=.nx (some (.ref k) :: some m :: r) (S.set k (.lst (ns'.map .int)))∧ns'.length≤ns.length∧(ns'=[]∨∃ i t,ns'=i :: t∧i≠0)
 | [],S,h=>by
  refine ⟨1,[],?_,Nat.le_refl _,.inl rfl⟩
  have h':S[k]?=some (.lst []):=h
  have e:S.set k (.lst (([]:List Int).map .int))=S:=List.ext_getElem? fun i=>by
   by_cases q:k=i
   ·subst q; rw [List.getElem?_set_self h.lt,h']; rfl
   ·rw [List.getElem?_set_ne q]
  rw [e]
  simp [aaZ,mAnd,mTst,mBin,mR,aac,mVar,mC,mNil,Res.bind,abo,aa5,rd,h',okO,fLen,abc,fGt,i2,tst,SRes.of]
 | i :: t,S,h=>by
  have h':S[k]?=some (.lst (.int i :: t.map .int)):=h
  by_cases hi:i=0
  ·subst hi
   have hr:Row (S.set k (.lst (t.map .int))) k t:=h.set t
   obtain ⟨n,ns',e,l,q⟩:=ae0 (r:=r) (m:=m) t _ hr
   refine ⟨n+1,ns',?_,by simp; omega,q⟩
   rw [List.set_set] at e
   rw [← e]
   have hl:(0:Int) < (t.length:Int)+1:=by omega
   simp [aaZ,mAnd,mTst,mBin,mR,aac,mVar,mC,mNil,Res.bind,abo,aa5,rd,h',okO,fLen,abc,fGt,i2,tst,SRes.of,fIx,atI,ixN,fEq,eqN,aaQ,mPop,acM,aiZ,seqIndex?,hl]
  ·refine ⟨1,i :: t,?_,Nat.le_refl _,.inr ⟨i,t,rfl,hi⟩⟩
   have e:S.set k (.lst ((i :: t).map .int))=S:=List.ext_getElem? fun j=>by
    by_cases q:k=j
    ·subst q; rw [List.getElem?_set_self h.lt,h']; rfl
    ·rw [List.getElem?_set_ne q]
   rw [e]
   have hl:(0:Int) < (t.length:Int)+1:=by omega
   simp [aaZ,mAnd,mTst,mBin,mR,aac,mVar,mC,mNil,Res.bind,abo,aa5,rd,h',okO,fLen,abc,fGt,i2,tst,SRes.of,fIx,atI,ixN,fEq,eqN,hl,hi]
theorem abd {S:Sto} {k:Nat} {ns:List Int} {m:Int} (h:Row S k ns) (hm:0 < m) (b:Bd 8000 m):∃ (v:Int) (ns':List Int),aaq [.ref k,.pv (.int m)] S=.ok (.pv (.int v)) (S.set k (.lst (ns'.map .int)))∧0≤v∧v < m∧ns'.length≤ns.length:=by
 obtain ⟨n,ns',e,l,q⟩:=ae0 (r:=[none]) (m:=.pv (.int m)) ns S h
 have hr:=h.set ns'
 have hl1:(S.set k (.lst (ns'.map .int))).length=S.length:=by simp
 have hss:∀ x,(S.set k (.lst (ns'.map .int))).set k x=S.set k x:=fun x=>List.set_set ..
 generalize hS1:S.set k (.lst (ns'.map .int))=S1 at e hr hl1 hss
 have w:=aeB e (by simp)
 rcases q with rfl | ⟨i,t,rfl,hi⟩
 ·refine ⟨0,[],?_,Int.le_refl 0,hm,Nat.zero_le _⟩
  rw [hS1]
  have hr':S1[k]?=some (.lst []):=hr
  have tk:List.take S.length S1=S1:=List.take_of_length_le (by omega)
  unfold aaq fnM afo
  simp [aaI,sSeq,w,sIf,mTst,mBin,mR,aac,mVar,mC,mNil,Res.bind,abo,aa5,rd,hr',okO,fLen,abc,fEq,eqN,tst,SRes.of,sRet,aaH,abi,tk]
 ·have hr':S1[k]?=some (.lst (.int i :: t.map .int)):=hr
  refine ⟨i.fmod m,i.fdiv m :: t,?_,Int.fmod_nonneg_of_pos i hm,Int.fmod_lt_of_pos i hm,l⟩
  rw [← hss]
  have tk:∀ x,List.take S.length (S1.set k x)=S1.set k x:=fun x=>List.take_of_length_le (by simp; omega)
  have hl:¬ ((t.length:Int)+1=0):=by omega
  have hq:ah1 i m:=⟨by omega,b⟩
  have hm0:m≠0:=by omega
  unfold aaq fnM afo
  simp [aaI,sSeq,w,sIf,mTst,mBin,mR,aac,mVar,mC,mNil,Res.bind,abo,aa5,rd,hr',okO,fLen,abc,fEq,eqN,tst,SRes.of,sRet,aaH,abi,tk,sNil,hl,sSet,fMod,aeT,i2,cI,fIx,atI,ixN,hm0,hq,abR,acM,aef]
theorem aao (i j:Int):fGt (.int i) (.int j)=some (.bl (decide (j < i))):=rfl
theorem aam (i j:Int):fLt (.int i) (.int j)=some (.bl (decide (i < j))):=rfl
theorem aap (i j:Int):fGe (.int i) (.int j)=some (.bl (decide (j≤i))):=rfl
theorem aan (i j:Int):fLe (.int i) (.int j)=some (.bl (decide (i≤j))):=rfl
theorem aai (i j:Int):fSub (.int i) (.int j)=some (.int (i - j)):=rfl
theorem ack {i j:Int} (h:aid i j):fMul (.int i) (.int j)=some (.int (i*j)):=by
 simp [fMul,i2,cI,h]
theorem ahH {i j:Int} (h:ah1 i j):aeT (.int i) (.int j)=some (.int (i.fdiv j)):=by
 simp [aeT,i2,cI,h]
theorem acO {i j:Int} (h:j≠0):fMod (.int i) (.int j)=some (.int (i.fmod j)):=by
 simp [fMod,i2,cI,h]
theorem afM {i j:Int} (h:CPow i j):fPow (.int i) (.int j)=some (.int (i ^ j.toNat)):=by
 simp [fPow,i2,cI,h]
theorem agQ (n:Int) (S:Sto):adn [.pv (.int n)] S=.ok (.pv (.int (sg n))) S:=by
 unfold adn fnM aiS sg
 by_cases h1:0 < n
 ·simp [aaI,sSeq,sIf,mTst,mBin,mVar,mC,Res.bind,abc,rd,okO,fGt,i2,tst,SRes.of,sRet,aaH,abi,h1]
 ·by_cases h2:n < 0
  ·simp [aaI,sSeq,sIf,mTst,mBin,mVar,mC,Res.bind,abc,rd,okO,fGt,fLt,i2,tst,SRes.of,sRet,aaH,abi,h1,h2,sNil,mUn,abv,fNeg]
  ·simp [aaI,sSeq,sIf,mTst,mBin,mVar,mC,Res.bind,abc,rd,okO,fGt,fLt,i2,tst,SRes.of,sRet,aaH,abi,h1,h2,sNil,mUn,abv,fNeg]
theorem adl (S:Sto):∀ (m:Nat) (a b:Int) (x:Option AV),b.natAbs≤m→∃ (n:Nat) (g:Int) (x':Option AV),aaZ (mTst (mBin fNe (mVar 1) (mC (.int 0)))) (sSeq (sSet 2 (mBin fMod (mVar 0) (mVar 1))) (sSeq (sSet 0 (mVar 1)) (sSet 1 (mVar 2)))) n [some (.pv (.int a)),some (.pv (.int b)),x] S=.nx [some (.pv (.int g)),some (.pv (.int 0)),x'] S∧g.natAbs=Int.gcd a b
 | 0,a,b,x,h=>by
  have hb:b=0:=by omega
  subst hb
  refine ⟨1,a,x,?_,by simp⟩
  simp [aaZ,aaI,sSeq,sIf,mTst,mNot,mAnd,mOr,abf,mOrV,mIf,mBin,mUn,mR,mN,aac,mVar,mC,mNil,Res.bind,abv,abc,abo,aby,aa5,rd,aa8,okO,fLen,fAbs,aal,aak,fTup,fLst,fIx,atI,ixN,fEq,fNe,eqN,aao,aam,aap,aan,fAdd,aai,fNeg,fNot,tst,SRes.of,sRet,abJ,sNil,aaQ,sSet,aaH,abi,aah,abu,aaM,frz,aau]
 | m+1,a,b,x,h=>by
  by_cases hb:b=0
  ·subst hb
   refine ⟨1,a,x,?_,by simp⟩
   simp [aaZ,aaI,sSeq,sIf,mTst,mNot,mAnd,mOr,abf,mOrV,mIf,mBin,mUn,mR,mN,aac,mVar,mC,mNil,Res.bind,abv,abc,abo,aby,aa5,rd,aa8,okO,fLen,fAbs,aal,aak,fTup,fLst,fIx,atI,ixN,fEq,fNe,eqN,aao,aam,aap,aan,fAdd,aai,fNeg,fNot,tst,SRes.of,sRet,abJ,sNil,aaQ,sSet,aaH,abi,aah,abu,aaM,frz,aau]
  ·have hl:=agn a hb
   obtain ⟨n,g,x',e,q⟩:=adl S m b (a.fmod b) (some (.pv (.int (a.fmod b)))) (by omega)
   refine ⟨n+1,g,x',?_,by rw [q,ahC]⟩
   rw [← e]
   simp [aaZ,aaI,sSeq,sIf,mTst,mNot,mAnd,mOr,abf,mOrV,mIf,mBin,mUn,mR,mN,aac,mVar,mC,mNil,Res.bind,abv,abc,abo,aby,aa5,rd,aa8,okO,fLen,fAbs,aal,aak,fTup,fLst,fIx,atI,ixN,fEq,fNe,eqN,aao,aam,aap,aan,fAdd,aai,fNeg,fNot,tst,SRes.of,sRet,abJ,sNil,aaQ,sSet,aaH,abi,aah,abu,aaM,frz,aau,acO hb,hb]
theorem ahK (a b:Int) (S:Sto):acf [.pv (.int a),.pv (.int b)] S=.ok (.pv (.int (Int.gcd a b:Nat))) S:=by
 obtain ⟨n,g,x',e,q⟩:=adl S b.natAbs a b none (Nat.le_refl _)
 have w:=aeB e (by simp)
 unfold acf fnM aeL
 have hg:(if g < 0 then -g else g)=((Int.gcd a b:Nat):Int):=by rw [← q]; exact ai7 g
 simp [aaI,sSeq,sIf,mTst,mNot,mAnd,mOr,abf,mOrV,mIf,mBin,mUn,mR,mN,aac,mVar,mC,mNil,Res.bind,abv,abc,abo,aby,aa5,rd,aa8,okO,fLen,fAbs,aal,aak,fTup,fLst,fIx,atI,ixN,fEq,fNe,eqN,aao,aam,aap,aan,fAdd,aai,fNeg,fNot,tst,SRes.of,sRet,abJ,sNil,aaQ,sSet,aaH,abi,aah,abu,aaM,frz,aau,w,hg]
theorem agr (S:Sto):∀ (m:Nat) (a b:Int),0≤a→0≤b→b.natAbs≤m→∃ (n:Nat),aaZ (mTst (mBin fGt (mVar 1) (mC (.int 0)))) (sPar 0 1 (aac (mVar 1) (aac (mBin fMod (mVar 0) (mVar 1)) mNil))) n [some (.pv (.int a)),some (.pv (.int b))] S=.nx [some (.pv (.int (Int.gcd a b:Nat))),some (.pv (.int 0))] S
 | 0,a,b,ha,hb,h=>by
  have hb:b=0:=by omega
  subst hb
  have ea:((Int.gcd a 0:Nat):Int)=a:=by simp; omega
  refine ⟨1,?_⟩
  rw [ea]
  simp [aaZ,aaI,sSeq,sIf,mTst,mNot,mAnd,mOr,abf,mOrV,mIf,mBin,mUn,mR,mN,aac,mVar,mC,mNil,Res.bind,abv,abc,abo,aby,aa5,rd,aa8,okO,fLen,fAbs,aal,aak,fTup,fLst,fIx,atI,ixN,fEq,fNe,eqN,aao,aam,aap,aan,fAdd,aai,fNeg,fNot,tst,SRes.of,sRet,abJ,sNil,aaQ,sSet,aaH,abi,aah,abu,aaM,frz,aau]
 | m+1,a,b,ha,hb,h=>by
  by_cases h0:b=0
  ·subst h0
   have ea:((Int.gcd a 0:Nat):Int)=a:=by simp; omega
   refine ⟨1,?_⟩
   rw [ea]
   simp [aaZ,aaI,sSeq,sIf,mTst,mNot,mAnd,mOr,abf,mOrV,mIf,mBin,mUn,mR,mN,aac,mVar,mC,mNil,Res.bind,abv,abc,abo,aby,aa5,rd,aa8,okO,fLen,fAbs,aal,aak,fTup,fLst,fIx,atI,ixN,fEq,fNe,eqN,aao,aam,aap,aan,fAdd,aai,fNeg,fNot,tst,SRes.of,sRet,abJ,sNil,aaQ,sSet,aaH,abi,aah,abu,aaM,frz,aau]
  ·have hl:=agn a h0
   have hp:0 < b:=by omega
   obtain ⟨n,e⟩:=agr S m b (a.fmod b) hb (Int.fmod_nonneg_of_pos a hp) (by omega)
   refine ⟨n+1,?_⟩
   rw [← ahC,← e]
   simp [aaZ,aaI,sSeq,sIf,mTst,mNot,mAnd,mOr,abf,mOrV,mIf,mBin,mUn,mR,mN,aac,mVar,mC,mNil,Res.bind,abv,abc,abo,aby,aa5,rd,aa8,okO,fLen,fAbs,aal,aak,fTup,fLst,fIx,atI,ixN,fEq,fNe,eqN,aao,aam,aap,aan,fAdd,aai,fNeg,fNot,tst,SRes.of,sRet,abJ,sNil,aaQ,sSet,aaH,abi,aah,abu,aaM,frz,aau,acO h0,hp,sPar]
theorem amD (a b:Int) (S:Sto):aeK [.pv (.int a),.pv (.int b)] S=.ok (.pv (.int (Int.gcd a b:Nat))) S:=by
 have ha:0≤(if a < 0 then -a else a):=by split <;> omega
 have hb:0≤(if b < 0 then -b else b):=by split <;> omega
 obtain ⟨n,e⟩:=agr S _ _ _ ha hb (Nat.le_refl _)
 have w:=aeB e (by simp)
 have eg:Int.gcd (if a < 0 then -a else a) (if b < 0 then -b else b)=Int.gcd a b:=by
  rw [ai7,ai7]
  simp [Int.gcd]
 rw [eg] at w
 unfold aeK fnM aij
 simp [aaI,sSeq,sIf,mTst,mNot,mAnd,mOr,abf,mOrV,mIf,mBin,mUn,mR,mN,aac,mVar,mC,mNil,Res.bind,abv,abc,abo,aby,aa5,rd,aa8,okO,fLen,fAbs,aal,aak,fTup,fLst,fIx,atI,ixN,fEq,fNe,eqN,aao,aam,aap,aan,fAdd,aai,fNeg,fNot,tst,SRes.of,sRet,abJ,sNil,aaQ,sSet,aaH,abi,aah,abu,aaM,frz,aau,w]
theorem afD (S:Sto) (v2:Option AV):∀ (ns:List Int) (g:Int) (a:AV),∃ v',abN [] (gN 2) (sSet 1 (aah aeK [] (aac (mVar 1) (aac (mVar 2) mNil)))) (ns.map .int) [some a,some (.pv (.int g)),v2] S=.nx [some a,some (.pv (.int (gl ns g))),v'] S
 | [],g,a=>⟨v2,acm⟩
 | n :: ns,g,a=>by
  obtain ⟨v',e⟩:=afD S (some (.pv (.int n))) ns (Int.gcd g n:Nat) a
  refine ⟨v',?_⟩
  show abN [] _ _ (.int n :: ns.map .int) _ S=_
  rw [abt]
  simp [gN,aaI,sSeq,sIf,mTst,mNot,mAnd,mOr,abf,mOrV,mIf,mBin,mUn,mR,mN,aac,mVar,mC,mNil,Res.bind,abv,abc,abo,aby,aa5,rd,aa8,okO,fLen,fAbs,aal,aak,fTup,fLst,fIx,atI,ixN,fEq,fNe,eqN,aao,aam,aap,aan,fAdd,aai,fNeg,fNot,tst,SRes.of,sRet,abJ,sNil,aaQ,sSet,aaH,abi,aah,abu,aaM,frz,aau,amD]
  exact e
theorem ad6 (S:Sto) (g:Int) (hg:g≠0) (b:Bd 8000 g):∀ (ns:List Int) (x:Option AV),aaN [] (gN 0) (mBin aeT (mVar 0) (mVar 1)) (ns.map .int) [x,some (.pv (.int g))] S=.ok ((ns.map fun n=>n.fdiv g).map .int) S
 | [],x=>aaJ
 | n :: ns,x=>by
  have ih:=ad6 S g hg b ns (some (.pv (.int n)))
  show aaN [] _ _ (.int n :: ns.map .int) _ S=_
  rw [aaE]
  simp [gN,aaI,sSeq,sIf,mTst,mNot,mAnd,mOr,abf,mOrV,mIf,mBin,mUn,mR,mN,aac,mVar,mC,mNil,Res.bind,abv,abc,abo,aby,aa5,rd,aa8,okO,fLen,fAbs,aal,aak,fTup,fLst,fIx,atI,ixN,fEq,fNe,eqN,aao,aam,aap,aan,fAdd,aai,fNeg,fNot,tst,SRes.of,sRet,abJ,sNil,aaQ,sSet,aaH,abi,aah,abu,aaM,frz,aau,ahH (show ah1 n g from ⟨hg,b⟩),ih]
theorem adw (ns:List Int) (S:Sto) (hb:∀ n∈ns,Bd 8000 n):aaK [.pv (.lst (ns.map .int))] S=.ok (.pv (.tup ((low ns).map .int))) S:=by
 obtain ⟨v',e⟩:=afD S none ns 0 (.pv (.lst (ns.map .int)))
 unfold aaK fnM adp
 by_cases h:gl ns 0=0
 ·have el:low ns=ns:=by unfold low; rw [if_pos h]
  simp [aaI,sSeq,sIf,mTst,mNot,mAnd,mOr,abf,mOrV,mIf,mBin,mUn,mR,mN,aac,mVar,mC,mNil,Res.bind,abv,abc,abo,aby,aa5,rd,aa8,okO,fLen,fAbs,aal,aak,fTup,fLst,fIx,atI,ixN,fEq,fNe,eqN,aao,aam,aap,aan,fAdd,aai,fNeg,fNot,tst,SRes.of,sRet,abJ,sNil,aaQ,sSet,aaH,abi,aah,abu,aaM,frz,aau,sFor,mIt,abg,e,h,el]
 ·have el:low ns=ns.map fun n=>n.fdiv (gl ns 0):=by
   unfold low
   rw [if_neg h]
   exact List.map_congr_left fun n hn=>(Int.fdiv_eq_ediv_of_dvd ((ac5 ns 0).2 n hn)).symm
  have bg:Bd 8000 (gl ns 0):=aj3 (Bd.of (n:=0) (by simp) (Nat.two_pow_pos 8000)) hb
  have ec:=ad6 S (gl ns 0) h bg ns none
  simp [aaI,sSeq,sIf,mTst,mNot,mAnd,mOr,abf,mOrV,mIf,mBin,mUn,mR,mN,aac,mVar,mC,mNil,Res.bind,abv,abc,abo,aby,aa5,rd,aa8,okO,fLen,fAbs,aal,aak,fTup,fLst,fIx,atI,ixN,fEq,fNe,eqN,aao,aam,aap,aan,fAdd,aai,fNeg,fNot,tst,SRes.of,sRet,abJ,sNil,aaQ,sSet,aaH,abi,aah,abu,aaM,frz,aau,sFor,mIt,abg,e,h,el,aa1,cmpR,ec]
theorem ajT (n:Int) (S:Sto):acI [.pv (.int n)] S=.ok (.pv (.bl true)) S:=by
 unfold acI fnM afu
 simp [aaI,sSeq,sIf,mTst,mNot,mAnd,mOr,abf,mOrV,mIf,mBin,mUn,mR,mN,aac,mVar,mC,mNil,Res.bind,abv,abc,abo,aby,aa5,rd,aa8,okO,fLen,fAbs,aal,aak,fTup,fLst,fIx,atI,ixN,fEq,fNe,eqN,aao,aam,aap,aan,fAdd,aai,fNeg,fNot,tst,SRes.of,sRet,abJ,sNil,aaQ,sSet,aaH,abi,aah,abu,aaM,frz,aau,fIsi]
theorem aea (S:Sto):∀ (ns:List Int) (x:Option AV),aaN [] (gN 0) (aah acI [] (aac (mVar 0) mNil)) (ns.map .int) [x] S=.ok (ns.map fun _=>.bl true) S
 | [],x=>aaJ
 | n :: ns,x=>by
  have ih:=aea S ns (some (.pv (.int n)))
  show aaN [] _ _ (.int n :: ns.map .int) _ S=_
  rw [aaE]
  simp [gN,aaI,sSeq,sIf,mTst,mNot,mAnd,mOr,abf,mOrV,mIf,mBin,mUn,mR,mN,aac,mVar,mC,mNil,Res.bind,abv,abc,abo,aby,aa5,rd,aa8,okO,fLen,fAbs,aal,aak,fTup,fLst,fIx,atI,ixN,fEq,fNe,eqN,aao,aam,aap,aan,fAdd,aai,fNeg,fNot,tst,SRes.of,sRet,abJ,sNil,aaQ,sSet,aaH,abi,aah,abu,aaM,frz,aau,ajT,ih]
theorem ahr:∀ (ns:List Int),aeS (ns.map fun _=>PV.bl true)=some (ns.map fun _=>true)
 | []=>rfl
 | n :: ns=>by
  show aeS (.bl true :: ns.map fun _=>PV.bl true)=_
  unfold aeS
  rw [ahr ns]
  rfl
theorem aiF (ns:List Int) (S:Sto):acx [.pv (.tup (ns.map .int)),.pv (.int ns.length)] S=.ok (.pv (.bl true)) S:=by
 unfold acx fnM aex
 have e:=aea S ns none
 have ea:((ns.map fun _=>true).all id)=true:=by simp
 simp [aaI,sSeq,sIf,mTst,mNot,mAnd,mOr,abf,mOrV,mIf,mBin,mUn,mR,mN,aac,mVar,mC,mNil,Res.bind,abv,abc,abo,aby,aa5,rd,aa8,okO,fLen,fAbs,aal,aak,fTup,fLst,fIx,atI,ixN,fEq,fNe,eqN,aao,aam,aap,aan,fAdd,aai,fNeg,fNot,tst,SRes.of,sRet,abJ,sNil,aaQ,sSet,aaH,abi,aah,abu,aaM,frz,aau,fIsi,aa1,mIt,abg,cmpR,e,fAll,ahr]
theorem ajA:∀ (n:Nat) (ns:List Int),aco (List.zipWith (eqN n) (ns.map .int) (ns.map .int))=some (ns.map fun _=>true)
 | n,[]=>rfl
 | n,m :: ns=>by
  have ih:=ajA n ns
  simp only [List.map_cons,List.zipWith_cons_cons]
  have e:eqN n (.int m) (.int m)=some true:=by cases n <;> simp [eqN]
  rw [e]
  unfold aco
  rw [ih]
theorem ai8 (n:Nat) (ns:List Int):eqN (n+1) (.tup (ns.map .int)) (.tup (ns.map .int))=some true:=by
 rw [eqN,ajA]
 simp
theorem ah7 (ns:List Int) (S:Sto) (hb:∀ n∈ns,Bd 8000 n):aaK [.pv (.tup (ns.map .int))] S=.ok (.pv (.tup ((low ns).map .int))) S:=by
 obtain ⟨v',e⟩:=afD S none ns 0 (.pv (.tup (ns.map .int)))
 unfold aaK fnM adp
 by_cases h:gl ns 0=0
 ·have el:low ns=ns:=by unfold low; rw [if_pos h]
  simp [aaI,sSeq,sIf,mTst,mNot,mAnd,mOr,abf,mOrV,mIf,mBin,mUn,mR,mN,aac,mVar,mC,mNil,Res.bind,abv,abc,abo,aby,aa5,rd,aa8,okO,fLen,fAbs,aal,aak,fTup,fLst,fIx,atI,ixN,fEq,fNe,eqN,aao,aam,aap,aan,fAdd,aai,fNeg,fNot,tst,SRes.of,sRet,abJ,sNil,aaQ,sSet,aaH,abi,aah,abu,aaM,frz,aau,sFor,mIt,abg,e,h,el]
 ·have el:low ns=ns.map fun n=>n.fdiv (gl ns 0):=by
   unfold low
   rw [if_neg h]
   exact List.map_congr_left fun n hn=>(Int.fdiv_eq_ediv_of_dvd ((ac5 ns 0).2 n hn)).symm
  have bg:Bd 8000 (gl ns 0):=aj3 (Bd.of (n:=0) (by simp) (Nat.two_pow_pos 8000)) hb
  have ec:=ad6 S (gl ns 0) h bg ns none
  simp [aaI,sSeq,sIf,mTst,mNot,mAnd,mOr,abf,mOrV,mIf,mBin,mUn,mR,mN,aac,mVar,mC,mNil,Res.bind,abv,abc,abo,aby,aa5,rd,aa8,okO,fLen,fAbs,aal,aak,fTup,fLst,fIx,atI,ixN,fEq,fNe,eqN,aao,aam,aap,aan,fAdd,aai,fNeg,fNot,tst,SRes.of,sRet,abJ,sNil,aaQ,sSet,aaH,abi,aah,abu,aaM,frz,aau,sFor,mIt,abg,e,h,el,aa1,cmpR,ec]
theorem afk (i:Int) {j:Int} (h1:-(2 ^ 64) < j) (h2:j < 2 ^ 64):fMul (.int i) (.int j)=some (.int (i*j)):=ack (.inl (.inr ⟨h1,h2⟩))
theorem p18:fPow (.int 10) (.int 18)=some (.int 1000000000000000000):=afM (i:=10) (j:=18) ⟨by decide,by decide,by decide⟩
theorem afp {k:Nat} {a:AV}:∀ (cs:List Int) (n:Nat) (acc:List Int) (S:Sto) (v2 v3 v4 v5 v6:Option AV),Row S k acc→acc.length+cs.length≤63→n+cs.length≤63→∃ (acc':List Int) (w2 w3 w4 w5 w6:Option AV),abN [] (gT 2 (abr (gN 2) (abr (gN 3) ac9))) ((sIf (mTst (mBin fGe (mVar 3) (mBin fPow (mC (.int 10)) (mC (.int 18))))) (aaQ (mApp (mVar 1) (aac (mBin fSub (mVar 3) (mBin fPow (mC (.int 10)) (mC (.int 18)))) mNil))) (sSeq (sSet 4 (mBin fMod (mBin fMul (mBin fAdd (mBin fAdd (mBin fAdd (mVar 3) (mBin fMul (mBin fMul (mC (.int 7)) (mVar 2)) (mVar 2))) (mBin fMul (mC (.int 13)) (mVar 2))) (mC (.int 5))) (mC (.int 48271))) (mC (.int 2147483647))))
 (sSeq (sSet 5 (mBin fMod (mBin fMul (mBin fAdd (mBin fAdd (mBin fAdd (mVar 3) (mBin fMul (mBin fMul (mC (.int 11)) (mVar 2)) (mVar 2))) (mBin fMul (mC (.int 17)) (mVar 2))) (mC (.int 3))) (mC (.int 40692))) (mC (.int 2147483399))))
 (sSeq (sSet 6 (mBin fMod (mBin fMul (mBin fAdd (mBin fAdd (mBin fAdd (mVar 3) (mBin fMul (mBin fMul (mC (.int 5)) (mVar 2)) (mVar 2))) (mBin fMul (mC (.int 29)) (mVar 2))) (mC (.int 8))) (mC (.int 39373))) (mC (.int 2147483587))))
 (sSeq (sSet 4 (mBin fMod (mBin fMul (mVar 4) (mC (.int 52021))) (mC (.int 1000000007))))
 (sSeq (sSet 5 (mBin fMod (mBin fMul (mVar 5) (mC (.int 30011))) (mC (.int 998244353))))
 (sSeq (sSet 6 (mBin fMod (mBin fMul (mVar 6) (mC (.int 45989))) (mC (.int 1000000009))))
 (aaQ (mApp (mVar 1) (aac (mBin fAdd (mBin fMul (mBin fAdd (mBin fMul (mVar 4) (mC (.int 998244353))) (mVar 5)) (mC (.int 1000000009))) (mVar 6)) mNil))))))))))) (adk n (cs.map .int)) [some a,some (.ref k),v2,v3,v4,v5,v6] S=.nx [some a,some (.ref k),w2,w3,w4,w5,w6] (S.set k (.lst (acc'.map .int)))∧acc'.length≤63
 | [],n,acc,S,v2,v3,v4,v5,v6,h,hl,_=>by
  refine ⟨acc,v2,v3,v4,v5,v6,?_,by simpa using hl⟩
  have e:S.set k (.lst (acc.map .int))=S:=List.ext_getElem? fun j=>by
   by_cases q:k=j
   ·subst q; rw [List.getElem?_set_self h.lt]; exact h.symm
   ·rw [List.getElem?_set_ne q]
  rw [e]
  exact acm
 | x :: cs,n,acc,S,v2,v3,v4,v5,v6,h,hl,hn=>by
  simp only [List.length_cons] at hl hn
  have h':S[k]?=some (.lst (acc.map .int)):=h
  have hlen:acc.length < 16777216:=by omega
  have hk1:-(2 ^ 64) < (n:Int):=by omega
  have hk2:(n:Int) < 2 ^ 64:=by omega
  by_cases c:(1000000000000000000:Int)≤x
  ·obtain ⟨acc',w2,w3,w4,w5,w6,e,q⟩:=afp (k:=k) (a:=a) cs (n+1) (acc++[x - 1000000000000000000]) (S.set k (.lst ((acc++[x - 1000000000000000000]).map .int))) (some (.pv (.int n))) (some (.pv (.int x))) v4 v5 v6 (h.set _) (by simp; omega) (by omega)
   refine ⟨acc',w2,w3,w4,w5,w6,?_,q⟩
   rw [List.set_set] at e
   rw [← e]
   show abN [] _ _ (.tup [.int n,.int x] :: adk (n+1) (cs.map .int)) _ S=_
   rw [abt]
   simp [gT,abr,ac9,gN,aaI,sSeq,sIf,mTst,mNot,mAnd,mOr,abf,mOrV,mIf,mBin,mUn,mR,mN,aac,mVar,mC,mNil,Res.bind,abv,abc,abo,aby,aa5,rd,aa8,okO,fLen,fAbs,aal,aak,fTup,fLst,fIx,atI,ixN,fEq,fNe,eqN,aao,aam,aap,aan,fAdd,aai,fNeg,fNot,tst,SRes.of,sRet,abJ,sNil,aaQ,sSet,aaH,abi,aah,abu,aaM,frz,aau,p18,c,mApp,acM,agT,h',hlen]
  ·obtain ⟨acc',w2,w3,w4,w5,w6,e,q⟩:=afp (k:=k) (a:=a) cs (n+1) (acc++[((((x+7*n*n+13*n+5)*48271).fmod 2147483647*52021).fmod 1000000007*998244353+(((x+11*n*n+17*n+3)*40692).fmod 2147483399*30011).fmod 998244353)*1000000009+(((x+5*n*n+29*n+8)*39373).fmod 2147483587*45989).fmod 1000000009]) (S.set k (.lst ((acc++[((((x+7*n*n+13*n+5)*48271).fmod 2147483647*52021).fmod 1000000007*998244353+(((x+11*n*n+17*n+3)*40692).fmod 2147483399*30011).fmod 998244353)*1000000009+(((x+5*n*n+29*n+8)*39373).fmod 2147483587*45989).fmod 1000000009]).map .int))) (some (.pv (.int n))) (some (.pv (.int x))) (some (.pv (.int ((((x+7*n*n+13*n+5)*48271).fmod 2147483647*52021).fmod 1000000007)))) (some (.pv (.int ((((x+11*n*n+17*n+3)*40692).fmod 2147483399*30011).fmod 998244353)))) (some (.pv (.int ((((x+5*n*n+29*n+8)*39373).fmod 2147483587*45989).fmod 1000000009)))) (h.set _) (by simp; omega) (by omega)
   refine ⟨acc',w2,w3,w4,w5,w6,?_,q⟩
   rw [List.set_set] at e
   rw [← e]
   show abN [] _ _ (.tup [.int n,.int x] :: adk (n+1) (cs.map .int)) _ S=_
   rw [abt]
   simp [gT,abr,ac9,gN,aaI,sSeq,sIf,mTst,mNot,mAnd,mOr,abf,mOrV,mIf,mBin,mUn,mR,mN,aac,mVar,mC,mNil,Res.bind,abv,abc,abo,aby,aa5,rd,aa8,okO,fLen,fAbs,aal,aak,fTup,fLst,fIx,atI,ixN,fEq,fNe,eqN,aao,aam,aap,aan,fAdd,aai,fNeg,fNot,tst,SRes.of,sRet,abJ,sNil,aaQ,sSet,aaH,abi,aah,abu,aaM,frz,aau,p18,c,mApp,acM,agT,h',hlen,afk _ hk1 hk2,afk _ (show -(2 ^ 64) < (48271:Int) by decide) (by decide),afk _ (show -(2 ^ 64) < (40692:Int) by decide) (by decide),afk _ (show -(2 ^ 64) < (39373:Int) by decide) (by decide),afk _ (show -(2 ^ 64) < (52021:Int) by decide) (by decide),afk _ (show -(2 ^ 64) < (30011:Int) by decide) (by decide),afk _ (show -(2 ^ 64) < (45989:Int) by decide) (by decide),afk _ (show -(2 ^ 64) < (998244353:Int) by decide) (by decide),afk _ (show -(2 ^ 64) < (1000000009:Int) by decide) (by decide),
    acO (show (2147483647:Int)≠0 by decide),acO (show (2147483399:Int)≠0 by decide),acO (show (2147483587:Int)≠0 by decide),acO (show (1000000007:Int)≠0 by decide),acO (show (998244353:Int)≠0 by decide),acO (show (1000000009:Int)≠0 by decide)]
theorem anV (ns:List Int) (S:Sto) (h:ns.length≤63):∃ ms:List Int,adV [.pv (.lst (ns.map .int))] S=.ok (.ref S.length) (S++[.lst (ms.map .int)])∧ms.length≤63:=by
 have hr:Row (S++[.lst []]) S.length []:=by unfold Row; simp
 obtain ⟨ms,w2,w3,w4,w5,w6,e,q⟩:=afp (a:=.pv (.lst (ns.map .int))) ns 0 [] (S++[.lst []]) none none none none none hr (by simpa using h) (by simpa using h)
 have ec:cutP (ns.map .int) none (some 63)=ns.map .int:=by
  unfold cutP
  have e1:HT.sIx (ns.map PV.int).length 0 none=0:=rfl
  have e2:HT.sIx (ns.map PV.int).length (ns.map PV.int).length (some 63)=(ns.map PV.int).length:=by
   have:=HT.sIx_nat (ns.map PV.int).length (ns.map PV.int).length 63
   rw [show ((63:Nat):Int)=63 from rfl] at this
   rw [this,List.length_map]
   omega
  rw [e1,e2,List.drop_zero,Nat.sub_zero,List.take_length]
 refine ⟨ms,?_,q⟩
 have es:(S++[SO.lst []]).set S.length (.lst (ms.map .int))=S++[.lst (ms.map .int)]:=by simp
 rw [es] at e
 unfold adV fnM aiL
 simp [aaI,sSeq,sIf,mTst,mNot,mAnd,mOr,abf,mOrV,mIf,mBin,mUn,mR,mN,aac,mVar,mC,mNil,Res.bind,abv,abc,abo,aby,aa5,rd,aa8,okO,fLen,fAbs,aal,aak,fTup,fLst,fIx,atI,ixN,fEq,fNe,eqN,aao,aam,aap,aan,fAdd,aai,fNeg,fNot,tst,SRes.of,sRet,abJ,sNil,aaQ,sSet,aaH,abi,aah,abu,aaM,frz,aau,sFor,mNew,agL,ald,mSl,mO0,mO1,ab1,fSl,ain,ec,e]
def PT (L:List Int) (b:Int):List Int:=(low (L++[b])).map (sg b*·)
theorem gl_b {L:List Int} {b:Int} (hb:b≠0):gl (L++[b]) 0≠0:=akc (ab5 L b) hb
theorem anm {L:List Int} {b:Int} (hb:0 < b):PT L b=low (L++[b]):=by
 unfold PT sg
 rw [if_pos hb]
 conv=>rhs; rw [← List.map_id (low (L++[b]))]
 exact List.map_congr_left fun n _=>Int.one_mul n
theorem ahq (S:Sto) (v2:Option AV):∀ (ns:List Int) (g:Int) (a:AV),∃ v',abN [] (gN 2) (sSet 1 (aah acf [] (aac (mVar 1) (aac (mVar 2) mNil)))) (ns.map .int) [some a,some (.pv (.int g)),v2] S=.nx [some a,some (.pv (.int (gl ns g))),v'] S
 | [],g,a=>⟨v2,acm⟩
 | n :: ns,g,a=>by
  obtain ⟨v',e⟩:=ahq S (some (.pv (.int n))) ns (Int.gcd g n:Nat) a
  refine ⟨v',?_⟩
  show abN [] _ _ (.int n :: ns.map .int) _ S=_
  rw [abt]
  simp [gN,aaI,sSeq,sIf,mTst,mNot,mAnd,mOr,abf,mOrV,mIf,mBin,mUn,mR,mN,aac,mVar,mC,mNil,Res.bind,abv,abc,abo,aby,aa5,rd,aa8,okO,fLen,fAbs,aal,aak,fTup,fLst,fIx,atI,ixN,fEq,fNe,eqN,aao,aam,aap,aan,fAdd,aai,fNeg,fNot,tst,SRes.of,sRet,abJ,sNil,aaQ,sSet,aaH,abi,aah,abu,aaM,frz,aau,ahK]
  exact e
theorem aia (ns:List Int) (S:Sto) (hb:∀ n∈ns,Bd 8000 n) (h:gl ns 0≠0):acy [.pv (.lst (ns.map .int))] S=.ok (.pv (.lst ((low ns).map .int))) S:=by
 obtain ⟨v',e⟩:=ahq S none ns 0 (.pv (.lst (ns.map .int)))
 have el:low ns=ns.map fun n=>n.fdiv (gl ns 0):=by
  unfold low
  rw [if_neg h]
  exact List.map_congr_left fun n hn=>(Int.fdiv_eq_ediv_of_dvd ((ac5 ns 0).2 n hn)).symm
 have bg:Bd 8000 (gl ns 0):=aj3 (Bd.of (n:=0) (by simp) (Nat.two_pow_pos 8000)) hb
 have ec:=ad6 S (gl ns 0) h bg ns none
 unfold acy fnM aei
 simp [aaI,sSeq,sIf,mTst,mNot,mAnd,mOr,abf,mOrV,mIf,mBin,mUn,mR,mN,aac,mVar,mC,mNil,Res.bind,abv,abc,abo,aby,aa5,rd,aa8,okO,fLen,fAbs,aal,aak,fTup,fLst,fIx,atI,ixN,fEq,fNe,eqN,aao,aam,aap,aan,fAdd,aai,fNeg,fNot,tst,SRes.of,sRet,abJ,sNil,aaQ,sSet,aaH,abi,aah,abu,aaM,frz,aau,sFor,mIt,abg,e,h,el,aa1,cmpR,ec]
theorem ahd (S:Sto) (b:Int):∀ (ns:List Int) (x:Option AV),aaN [] (gN 0) (mBin fMul (aah adn [] (aac (mVar 1) mNil)) (mVar 0)) (ns.map .int) [x,some (.pv (.int b))] S=.ok ((ns.map (sg b*·)).map .int) S
 | [],x=>aaJ
 | n :: ns,x=>by
  have ih:=ahd S b ns (some (.pv (.int n)))
  have hm:fMul (.int (sg b)) (.int n)=some (.int (sg b*n)):=ack (.inl (.inl (aki b)))
  show aaN [] _ _ (.int n :: ns.map .int) _ S=_
  rw [aaE]
  simp [gN,aaI,sSeq,sIf,mTst,mNot,mAnd,mOr,abf,mOrV,mIf,mBin,mUn,mR,mN,aac,mVar,mC,mNil,Res.bind,abv,abc,abo,aby,aa5,rd,aa8,okO,fLen,fAbs,aal,aak,fTup,fLst,fIx,atI,ixN,fEq,fNe,eqN,aao,aam,aap,aan,fAdd,aai,fNeg,fNot,tst,SRes.of,sRet,abJ,sNil,aaQ,sSet,aaH,abi,aah,abu,aaM,frz,aau,agQ,hm,ih]
theorem aj2 {w:PV} (L:List Int) (b:Int) (S:Sto) (hw:w=.lst (L.map .int)∨w=.tup (L.map .int)) (hL:∀ n∈L,Bd 8000 n) (bb:Bd 8000 b) (hb:b≠0) (hl:L.length≤100):aeq [.pv w,.pv (.int b)] S=.ok (.pv (.tup ((PT L b).map .int))) S:=by
 have e1:=aia (L++[b]) S (fun n hn=>by
  rcases List.mem_append.mp hn with z | z
  ·exact hL n z
  ·have:n=b:=by simpa using z
   rw [this]; exact bb) (gl_b hb)
 have e2:=ahd S b (low (L++[b])) none
 have hz:L.length+1≤16777216:=by omega
 simp only [List.map_append,List.map_cons,List.map_nil] at e1
 unfold PT aeq fnM aeI
 rcases hw with rfl | rfl <;> simp [aaI,sSeq,sIf,mTst,mNot,mAnd,mOr,abf,mOrV,mIf,mBin,mUn,mR,mN,aac,mVar,mC,mNil,Res.bind,abv,abc,abo,aby,aa5,rd,aa8,okO,fLen,fAbs,aal,aak,fTup,fLst,fIx,atI,ixN,fEq,fNe,eqN,aao,aam,aap,aan,fAdd,aai,fNeg,fNot,tst,SRes.of,sRet,abJ,sNil,aaQ,sSet,aaH,abi,aah,abu,aaM,frz,aau,hb,hz,e1,mIt,abg,aa1,cmpR,e2]
theorem akr (zs:List Int) (z:Int):cutP ((zs++[z]).map .int) none (some (-1))=zs.map .int:=by
 unfold cutP
 have e1:HT.sIx ((zs++[z]).map PV.int).length 0 none=0:=rfl
 have e2:HT.sIx ((zs++[z]).map PV.int).length ((zs++[z]).map PV.int).length (some (-1))=zs.length:=by
  rw [List.length_map,List.length_append]
  exact afK zs.length _
 rw [e1,e2]
 simp
theorem ai9 (zs:List Int) (z:Int):¬ (HT.sIx ((zs++[z]).map PV.int).length 0 none=0∧HT.sIx ((zs++[z]).map PV.int).length ((zs++[z]).map PV.int).length (some (-1))=((zs++[z]).map PV.int).length):=by
 rintro ⟨_,e⟩
 have e2:HT.sIx ((zs++[z]).map PV.int).length ((zs++[z]).map PV.int).length (some (-1))=zs.length:=by
  rw [List.length_map,List.length_append]
  exact afK zs.length _
 rw [e2,List.length_map,List.length_append] at e
 simp at e
theorem adm (zs:List Int) (z:Int):fSl (.tup ((zs++[z]).map .int)) none (some (-1))=some (.tup (zs.map .int)):=by
 unfold fSl
 dsimp only
 rw [if_neg (ai9 zs z),akr]
theorem ab4 (zs:List Int) (z:Int):fIx (.tup ((zs++[z]).map .int)) (.int (-1))=some (.int z):=by
 show atI ((zs++[z]).map PV.int) (-1)=_
 rw [List.map_append]
 exact akp _ _
theorem sm8 {m:Int} (h0:0≤m) (h:m < 1024):Bd 8000 m:=Bd.of (n:=1023) (by omega) (Nat.lt_of_lt_of_le (show 1023 < 2 ^ 10 by decide) (Nat.pow_le_pow_right (by decide) (by decide)))
theorem aaT (n:Nat) (a b:Int):eqN n (.int a) (.int b)=some (a == b):=by cases n <;> rfl
theorem mB {a b:Int} (h:Bd 2000 a) (g:Bd 2000 b):fMul (.int a) (.int b)=some (.int (a*b)):=ack (.inr ⟨h.mono (by decide),g.mono (by decide)⟩)
structure Pt (n:Nat) (xs:List Int) (w:Int):Prop where
 len:xs.length=n
 pos:0 < w
 low:low (xs++[w])=xs++[w]
 bx:∀ x∈xs,Bd 300 x
 bw:Bd 300 w
theorem ag0 (S:Sto) (PL QL:List PV) (w v:Int) (hp:fIx (.tup PL) (.int (-1))=some (.int w)) (hq:fIx (.tup QL) (.int (-1))=some (.int v)) (bw:Bd 2000 w) (bv:Bd 2000 v):∀ (xs ys:List Int) (x y:Option AV),xs.length=ys.length→(∀ x∈xs,Bd 2000 x)→(∀ y∈ys,Bd 2000 y) →
  aaN [] (gT 2 (abr (gN 0) (abr (gN 1) ac9))) (mBin fAdd (mBin fMul (mVar 0) (mBin fIx (mVar 2) (mUn fNeg (mC (.int 1))))) (mBin fMul (mVar 1) (mBin fIx (mVar 3) (mUn fNeg (mC (.int 1)))))) (zipP (xs.map .int) (ys.map .int)) [x,y,some (.pv (.tup QL)),some (.pv (.tup PL))] S=.ok ((sm xs w ys v).map .int) S
 | [],ys,x,y,hl,_,_=>by
  have:ys=[]:=List.length_eq_zero_iff.mp hl.symm
  subst this
  exact aaJ
 | a :: xs,[],x,y,hl,_,_=>by cases hl
 | a :: xs,b :: ys,x,y,hl,hx,hy=>by
  have ih:=ag0 S PL QL w v hp hq bw bv xs ys (some (.pv (.int a))) (some (.pv (.int b))) (by simpa using hl) (fun m hm=>hx m (List.mem_cons_of_mem _ hm)) (fun m hm=>hy m (List.mem_cons_of_mem _ hm))
  have m1:=mB (hx a List.mem_cons_self) bv
  have m2:=mB (hy b List.mem_cons_self) bw
  show aaN [] _ _ (.tup [.int a,.int b] :: zipP (xs.map .int) (ys.map .int)) _ S=_
  rw [aaE]
  simp [gT,abr,ac9,gN,aaI,sSeq,sIf,mTst,mNot,mAnd,mOr,abf,mOrV,mIf,mBin,mUn,mR,mN,aac,mVar,mC,mNil,Res.bind,abv,abc,abo,aby,aa5,rd,aa8,okO,fLen,fAbs,aal,aak,fTup,fLst,fEq,fNe,aaT,aao,aam,aap,aan,fAdd,aai,fNeg,fNot,tst,SRes.of,sRet,abJ,sNil,aaQ,sSet,aaH,abi,aah,abu,aaM,frz,aau,hp,hq,m1,m2,ih,sm]
theorem aoj {xs ys:List Int} {w v:Int} {k:Nat} (hx:∀ x∈xs,Bd k x) (hy:∀ y∈ys,Bd k y) (hw:Bd k w) (hv:Bd k v):∀ n∈sm xs w ys v,Bd (k+k+1) n:=fun n hn=>by
 unfold sm at hn
 obtain ⟨i,hi,e⟩:=List.getElem_of_mem hn
 rw [List.getElem_zipWith] at e
 rw [← e]
 exact ((hx _ (List.getElem_mem _)).mul hv).add ((hy _ (List.getElem_mem _)).mul hw)
theorem akj {xs ys:List Int} {w v:Int} (S:Sto) (hl:xs.length=ys.length) (h9:xs.length≤9) (hw:0 < w) (hv:0 < v) (hx:∀ x∈xs,Bd 2000 x) (hy:∀ y∈ys,Bd 2000 y) (bw:Bd 2000 w) (bv:Bd 2000 v) :
  act [.pv (.tup ((xs++[w]).map .int)),.pv (.tup ((ys++[v]).map .int))] S=.ok (.pv (.tup ((low (sm xs w ys v++[w*v])).map .int))) S:=by
 have ip:=ab4 xs w
 have iq:=ab4 ys v
 have sp:=adm xs w
 have sq:=adm ys v
 have ec:=ag0 S _ _ w v ip iq bw bv xs ys none none hl hx hy
 have mm:=mB bw bv
 have hp:=Int.mul_pos hw hv
 have ep:=aj2 (w:=.lst ((sm xs w ys v).map .int)) (sm xs w ys v) (w*v) S (.inl rfl) (fun n hn=>(aoj hx hy bw bv n hn).mono (by decide)) ((bw.mul bv).mono (by decide)) (by omega) (by rw [anL hl]; omega)
 rw [anm hp] at ep
 generalize (xs++[w]).map PV.int=PL at ip sp ec
 generalize (ys++[v]).map PV.int=QL at iq sq ec
 unfold act fnM agO
 simp [aaI,sSeq,sIf,mTst,mNot,mAnd,mOr,abf,mOrV,mIf,mBin,mUn,mR,mN,aac,mVar,mC,mNil,Res.bind,abv,abc,abo,aby,aa5,rd,aa8,okO,fLen,fAbs,aal,aak,fTup,fLst,fEq,fNe,aaT,aao,aam,aap,aan,fAdd,aai,fNeg,fNot,tst,SRes.of,sRet,abJ,sNil,aaQ,sSet,aaH,abi,aah,abu,aaM,frz,aau,aa1,mZip,aib,abg,mSl,mO0,mO1,ab1,sp,sq,cmpR,ec,ip,iq,mm,ep]
def mv (way:Int) (xs:List Int) (w:Int) (ys:List Int) (v:Int):List Int:=if way=1 then low (sm xs w ys v++[w*v]) else low (sm ys v (xs.map (- ·)) w++[v*w])
theorem ahF (zs:List Int) (z:Int) (j:Nat) (h:j < zs.length):fIx (.tup ((zs++[z]).map .int)) (.int (j:Nat))=some (.int (zs.getD j 0)):=by
 show atI ((zs++[z]).map PV.int) (j:Int)=_
 refine alR ?_
 rw [List.getElem?_map,List.getElem?_append_left h,List.getElem?_eq_getElem h]
 simp [List.getD,h]
theorem ajg (S:Sto) (PL QL:List PV) (xs ys:List Int) (w v way:Int) (hp:fIx (.tup PL) (.int (-1))=some (.int w)) (hq:fIx (.tup QL) (.int (-1))=some (.int v)) (hpj:∀ j:Nat,j < xs.length→fIx (.tup PL) (.int (j:Nat))=some (.int (xs.getD j 0))) (hqj:∀ j:Nat,j < xs.length→fIx (.tup QL) (.int (j:Nat))=some (.int (ys.getD j 0)))
  (b1:Bd 2 way) (bw:Bd 1000 w) (bv:Bd 1000 v) (hx:∀ j,Bd 1000 (xs.getD j 0)) (hy:∀ j,Bd 1000 (ys.getD j 0)):∀ (js:List Nat) (x:Option AV),(∀ j∈js,j < xs.length) →
  aaN [] (gN 0) (mBin fAdd (mBin fMul (mBin fMul (mVar 1) (mBin fIx (mVar 3) (mVar 0))) (mBin fIx (mVar 2) (mUn fNeg (mC (.int 1))))) (mBin fMul (mBin fIx (mVar 2) (mVar 0)) (mBin fIx (mVar 3) (mUn fNeg (mC (.int 1)))))) (js.map fun j=>.int (0+(j:Nat))) [x,some (.pv (.int way)),some (.pv (.tup QL)),some (.pv (.tup PL))] S=.ok ((js.map fun j=>way*xs.getD j 0*v+ys.getD j 0*w).map .int) S
 | [],x,_=>aaJ
 | j :: js,x,h=>by
  have ih:=ajg S PL QL xs ys w v way hp hq hpj hqj b1 bw bv hx hy js (some (.pv (.int (0+(j:Nat))))) fun i hi=>h i (List.mem_cons_of_mem _ hi)
  have e1:=hpj j (h j List.mem_cons_self)
  have e2:=hqj j (h j List.mem_cons_self)
  have m0:=mB (b1.mono (show 2≤2000 by decide)) ((hx j).mono (show 1000≤2000 by decide))
  have m1:=mB ((b1.mul (hx j)).mono (show 2+1000≤2000 by decide)) (bv.mono (show 1000≤2000 by decide))
  have m2:=mB ((hy j).mono (show 1000≤2000 by decide)) (bw.mono (show 1000≤2000 by decide))
  show aaN [] _ _ (.int (0+(j:Nat)) :: js.map fun j=>.int (0+(j:Nat))) _ S=_
  rw [aaE]
  simp only [Int.zero_add] at ih ⊢
  generalize hX:xs.getD j 0=X at e1 m0 m1
  generalize hY:ys.getD j 0=Y at e2 m2
  simp [gN,aaI,sSeq,sIf,mTst,mNot,mAnd,mOr,abf,mOrV,mIf,mBin,mUn,mR,mN,aac,mVar,mC,mNil,Res.bind,abv,abc,abo,aby,aa5,rd,aa8,okO,fLen,fAbs,aal,aak,fTup,fLst,fEq,fNe,aaT,aao,aam,aap,aan,fAdd,aai,fNeg,fNot,tst,SRes.of,sRet,abJ,sNil,aaQ,sSet,aaH,abi,aah,abu,aaM,frz,aau,e1,e2,hp,hq,m0,m1,m2,ih]
  simp only [List.getD_eq_getElem?_getD] at hX hY
  rw [hX,hY]
theorem afA {xs:List Int} {k:Nat} (h:∀ x∈xs,Bd k x) (j:Nat):Bd k (xs.getD j 0):=by
 by_cases hj:j < xs.length
 ·have e:xs.getD j 0=xs[j]:=by simp [List.getD,hj]
  rw [e]
  exact h _ (List.getElem_mem hj)
 ·have e:xs.getD j 0=0:=by simp [List.getD,hj]
  rw [e]
  exact Bd.of (n:=0) (by decide) (Nat.two_pow_pos k)
theorem agy {xs ys:List Int} (hl:xs.length=ys.length) (f:Int→Int→Int):(List.range xs.length).map (fun j=>f (xs.getD j 0) (ys.getD j 0))=List.zipWith f xs ys:=by
 refine List.ext_getElem (by simp [hl]) fun i h1 h2=>?_
 have hi:i < xs.length:=by simpa using h1
 have hj:i < ys.length:=by omega
 simp [List.getD,hi,hj]
theorem aff {xs ys:List Int} {w v way:Int} (S:Sto) (hl:xs.length=ys.length) (h9:xs.length≤9) (b1:Bd 2 way) (hx:∀ x∈xs,Bd 1000 x) (hy:∀ y∈ys,Bd 1000 y) (bw:Bd 1000 w) (bv:Bd 1000 v) :
  aaR [.pv (.tup ((xs++[w]).map .int)),.pv (.tup ((ys++[v]).map .int)),.pv (.int way)] S=.ok (.pv (.tup ((low (List.zipWith (fun x y=>way*x*v+y*w) xs ys++[w*v])).map .int))) S:=by
 have ip:=ab4 xs w
 have iq:=ab4 ys v
 have ec:=ajg S _ _ xs ys w v way ip iq (fun j h=>ahF xs w j h) (fun j h=>ahF ys v j (by omega)) b1 bw bv (afA hx) (afA hy) (List.range xs.length) none fun j hj=>by simpa using hj
 have er:(List.range xs.length).map (fun j=>way*xs.getD j 0*v+ys.getD j 0*w)=List.zipWith (fun x y=>way*x*v+y*w) xs ys:=agy hl fun x y=>way*x*v+y*w
 rw [er] at ec
 have mm:=mB (bw.mono (show 1000≤2000 by decide)) (bv.mono (show 1000≤2000 by decide))
 have el:=adw (List.zipWith (fun x y=>way*x*v+y*w) xs ys++[w*v]) S (fun n hn=>by
  rcases List.mem_append.mp hn with z | z
  ·obtain ⟨i,hi,e⟩:=List.getElem_of_mem z
   rw [List.getElem_zipWith] at e
   rw [← e]
   exact ((((b1.mul (hx _ (List.getElem_mem _))).mul bv).mono (show 2+1000+1000≤3000 by decide)).add (((hy _ (List.getElem_mem _)).mul bw).mono (show 1000+1000≤3000 by decide))).mono (by decide)
  ·have:n=w*v:=by simpa using z
   rw [this]
   exact (bw.mul bv).mono (by decide))
 have hlen:((xs++[w]).map PV.int).length=xs.length+1:=by simp
 have hz:xs.length+1≤16777216:=by omega
 have hr:rng1 [.pv (.int (((xs.length+1:Nat):Int) - 1))] S=.ok ((List.range xs.length).map fun j=>.int (0+(j:Nat)),[]) S:=by
  unfold rng1
  dsimp only
  rw [if_pos ⟨by omega,by omega⟩]
  have:(((xs.length+1:Nat):Int) - 1).toNat=xs.length:=by omega
  rw [this]
  rfl
 have hzl:(List.zipWith (fun x y=>way*x*v+y*w) xs ys).length+1≤16777216:=by rw [List.length_zipWith]; omega
 simp only [List.map_append,List.map_cons,List.map_nil] at el
 generalize hZ:(List.zipWith (fun x y=>way*x*v+y*w) xs ys).map PV.int=ZL at ec el
 have hzl2:ZL.length+1≤16777216:=by rw [← hZ,List.length_map]; exact hzl
 generalize (List.range xs.length).map (fun j=>PV.int (0+(j:Nat)))=RL at ec hr
 generalize hP:(xs++[w]).map PV.int=PL at ip ec hlen
 generalize (ys++[v]).map PV.int=QL at iq ec
 unfold aaR fnM aeu
 have hr2:=hr
 rw [← hlen] at hr2
 simp [aaI,sSeq,sIf,mTst,mNot,mAnd,mOr,abf,mOrV,mIf,mBin,mUn,mR,mN,aac,mVar,mC,mNil,Res.bind,abv,abc,abo,aby,aa5,rd,aa8,okO,fLen,fAbs,aal,aak,fTup,fLst,fEq,fNe,aaT,aao,aam,aap,aan,fAdd,aai,fNeg,fNot,tst,SRes.of,sRet,abJ,sNil,aaQ,sSet,aaH,abi,aah,abu,aaM,frz,aau,aa1,abe,hr2,cmpR,ec,ip,iq,mm,hzl2,el]
theorem ajG {xs ys:List Int} {w v way:Int} (S:Sto) (hl:xs.length=ys.length) (h9:xs.length≤9) (hway:way=1∨way=-1) (hx:∀ x∈xs,Bd 1000 x) (hy:∀ y∈ys,Bd 1000 y) (bw:Bd 1000 w) (bv:Bd 1000 v) :
  aaR [.pv (.tup ((xs++[w]).map .int)),.pv (.tup ((ys++[v]).map .int)),.pv (.int way)] S=.ok (.pv (.tup ((low (List.zipWith (fun x y=>way*x*v+y*w) xs ys++[w*v])).map .int))) S:=aff S hl h9 (by rcases hway with rfl | rfl <;> exact Bd.of (n:=1) (by decide) (by decide)) hx hy bw bv
theorem ad2 {k:Nat} {W:Int} (W0:0≤W) (W1:W≤1000000000000):∀ (is:List PV) (S:Sto) (ns:List Int) (x:Option AV),Row S k ns→∃ (xs ns':List Int),aaN [] (gN 0) (mBin fSub (aah aaq [] (aac (mVar 2) (aac (mBin fAdd (mBin fMul (mC (.int 2)) (mVar 1)) (mC (.int 1))) mNil))) (mVar 1)) is [x,some (.pv (.int W)),some (.ref k)] S=.ok (xs.map .int) (S.set k (.lst (ns'.map .int)))∧xs.length=is.length∧∀ n∈xs,Bd 50 n
 | [],S,ns,x,h=>by
  refine ⟨[],ns,?_,rfl,fun _ h=>absurd h List.not_mem_nil⟩
  have e:S.set k (.lst (ns.map .int))=S:=List.ext_getElem? fun j=>by
   by_cases q:k=j
   ·subst q; rw [List.getElem?_set_self h.lt]; exact h.symm
   ·rw [List.getElem?_set_ne q]
  rw [e]
  exact aaJ
 | i :: is,S,ns,x,h=>by
  obtain ⟨t,n1,e1,t0,t1,_⟩:=abd (m:=2*W+1) h (by omega) ((Bd.of (k:=50) (n:=2000000000001) (by omega) (by decide)).mono (by decide))
  obtain ⟨xs,n2,e2,l2,b2⟩:=ad2 W0 W1 is _ n1 (some (.pv i)) (h.set n1)
  rw [List.set_set] at e2
  have m2:fMul (.int 2) (.int W)=some (.int (2*W)):=ack (.inl (.inl ⟨by decide,by decide⟩))
  refine ⟨(t - W) :: xs,n2,?_,by simp [l2],fun n hn=>?_⟩
  ·rw [aaE]
   generalize S.set k (.lst (n1.map .int))=S1 at e1 e2
   simp [gN,aaI,sSeq,sIf,mTst,mNot,mAnd,mOr,abf,mOrV,mIf,mBin,mUn,mR,mN,aac,mVar,mC,mNil,Res.bind,abv,abc,abo,aby,aa5,rd,aa8,okO,fLen,fAbs,aal,aak,fTup,fLst,fIx,atI,ixN,fEq,fNe,eqN,aao,aam,aap,aan,fAdd,aai,fNeg,fNot,tst,SRes.of,sRet,abJ,sNil,aaQ,sSet,aaH,abi,aah,abu,aaM,frz,aau,m2,e1,e2]
  ·rcases List.mem_cons.mp hn with rfl | hn
   ·exact Bd.of (n:=1000000000000) (by omega) (by decide)
   ·exact b2 n hn
theorem aos {v:Int} (h0:0≤v) (h1:v < 4):∃ M:Int,fIx (.lst [.int 0,.int 3,.int 9,.int 1000000000000]) (.int v)=some (.int M)∧0≤M∧M≤1000000000000:=by
 have c:v=0∨v=1∨v=2∨v=3:=by omega
 rcases c with rfl | rfl | rfl | rfl
 ·exact ⟨0,rfl,by decide,by decide⟩
 ·exact ⟨3,rfl,by decide,by decide⟩
 ·exact ⟨9,rfl,by decide,by decide⟩
 ·exact ⟨1000000000000,rfl,by decide,by decide⟩
theorem p12:fPow (.int 10) (.int 12)=some (.int 1000000000000):=afM (i:=10) (j:=12) ⟨by decide,by decide,by decide⟩
theorem aoc {v:Int} (h0:0≤v) (h1:v < 4):0≤v.fdiv 2∧v.fdiv 2≤1:=by
 have c:v=0∨v=1∨v=2∨v=3:=by omega
 rcases c with rfl | rfl | rfl | rfl <;> decide
theorem anF {n k:Nat} {L:List Int} {b:Int} (hb:0 < b) (hl:L.length=n) (hk:k≤300) (hL:∀ x∈L,Bd k x) (bb:Bd k b):∃ (zs:List Int) (z:Int),low (L++[b])=zs++[z]∧Pt n zs z∧(∀ x∈zs,Bd k x)∧Bd k z:=by
 obtain ⟨zs,z,g,e,hg,hz,_,_,hzl⟩:=ahb L hb
 have hbd:=aiy (k:=k) (ns:=L++[b]) fun m hm=>by
  rcases List.mem_append.mp hm with y | y
  ·exact hL m y
  ·have:m=b:=by simpa using y
   rw [this]; exact bb
 have hlow:=agH L hb
 rw [e] at hbd hlow
 have b1:∀ x∈zs,Bd k x:=fun x hx=>hbd x (List.mem_append_left _ hx)
 have b2:Bd k z:=hbd z (ab5 zs z)
 exact ⟨zs,z,e,⟨hzl.trans hl,hz,hlow,fun x hx=>(b1 x hx).mono hk,b2.mono hk⟩,b1,b2⟩
theorem amw {S:Sto} {k:Nat} {ns:List Int} (n:Nat) (hn:n=2∨n=3) (h:Row S k ns):∃ (xs:List Int) (w:Int) (ns':List Int),ac2 [.ref k,.pv (.int n)] S=.ok (.pv (.tup ((xs++[w]).map .int))) (S.set k (.lst (ns'.map .int)))∧Pt n xs w∧(∀ x∈xs,Bd 100 x)∧Bd 100 w:=by
 obtain ⟨c,n1,e1,c0,c1,_⟩:=abd (m:=4) h (by decide) (sm8 (by decide) (by decide))
 obtain ⟨M,em,M0,M1⟩:=aos c0 c1
 obtain ⟨t,n2,e2,t0,t1,_⟩:=abd (m:=9) (h.set n1) (by decide) (sm8 (by decide) (by decide))
 rw [List.set_set] at e2
 obtain ⟨xs,n3,e3,l3,b3⟩:=ad2 M0 M1 (ab0 0 n) _ n2 none (h.set n2)
 rw [List.set_set] at e3
 have hc:=aoc c0 c1
 have mt:fMul (.int t) (.int (c.fdiv 2))=some (.int (t*c.fdiv 2)):=ack (.inl (.inl ⟨by omega,by omega⟩))
 have qt:aeT (.int c) (.int 2)=some (.int (c.fdiv 2)):=ahH ⟨by decide,sm8 (by decide) (by decide)⟩
 have hm:0≤t*c.fdiv 2∧t*c.fdiv 2≤8:=by
  have c2:c.fdiv 2=0∨c.fdiv 2=1:=by omega
  rcases c2 with z | z <;> rw [z] <;> omega
 have lx:xs.length=n:=by rw [l3]; unfold ab0; simp
 generalize t*c.fdiv 2=tc at mt hm
 obtain ⟨zs,z,ez,P,b1,b2⟩:=anF (n:=n) (k:=100) (L:=xs) (b:=1+tc) (by omega) lx (by decide) (fun x hx=>(b3 x hx).mono (by decide)) (Bd.of (n:=9) (by omega) (by decide))
 have el:=adw (xs++[1+tc]) (S.set k (.lst (n3.map .int))) (fun m hm=>by
  rcases List.mem_append.mp hm with y | y
  ·exact (b3 m y).mono (by decide)
  ·have:m=1+tc:=by simpa using y
   rw [this]
   exact (Bd.of (k:=4) (n:=9) (by omega) (by decide)).mono (by decide))
 rw [ez] at el
 refine ⟨zs,z,n3,?_,P,b1,b2⟩
 have tk3:=aka S k (.lst (n3.map .int))
 have hz:xs.length+1≤16777216:=by omega
 generalize S.set k (.lst (n1.map .int))=S1 at e1 e2
 generalize S.set k (.lst (n2.map .int))=S2 at e2 e3
 generalize S.set k (.lst (n3.map .int))=S3 at e3 el tk3
 have hr:rng1 [.pv (.int (n:Int))] S2=.ok (ab0 0 n,[]) S2:=by
  unfold rng1
  dsimp only
  rw [if_pos ⟨by omega,by omega⟩]
  rfl
 conv at el=>lhs; rw [List.map_append]
 simp only [List.map_cons,List.map_nil] at el
 generalize (zs++[z]).map PV.int=ZL at el
 unfold ac2 fnM ajB
 simp [aaI,sSeq,sIf,mTst,mNot,mAnd,mOr,abf,mOrV,mIf,mBin,mUn,mR,mN,aac,mVar,mC,mNil,Res.bind,abv,abc,abo,aby,aa5,rd,aa8,okO,fLen,fAbs,aal,aak,fTup,fLst,fEq,fNe,aaT,aao,aam,aap,aan,fAdd,aai,fNeg,fNot,tst,SRes.of,sRet,abJ,sNil,aaQ,sSet,aaH,abi,aah,abu,aaM,frz,aau,p12,e1,em,e2,mt,qt,aa1,abe,hr,cmpR,e3,hz,el,tk3]
theorem af0 {way:Int} (h:way=1∨way=-1) (xs:List Int) (w:Int) (ys:List Int) (v:Int):low (List.zipWith (fun x y=>way*x*v+y*w) xs ys++[w*v])=mv way xs w ys v:=by
 unfold mv
 rcases h with rfl | rfl
 ·rw [if_pos rfl,aie]
 ·rw [if_neg (by decide),agJ,Int.mul_comm w v]
structure Pq (n k:Nat) (xs:List Int) (w:Int):Prop where
 len:xs.length=n
 pos:0 < w
 low:low (xs++[w])=xs++[w]
 bx:∀ x∈xs,Bd k x
 bw:Bd k w
def Vl (n:Nat) (xs:List Int) (w:Int) (N:Nat→Int) (D:Int):Prop:=∀ j,j < n→xs.getD j 0*D=N j*w
theorem Vl.self (n:Nat) (xs:List Int) (w:Int):Vl n xs w (fun j=>xs.getD j 0) w:=fun _ _=>rfl
theorem amI {a b c:Int} (h:0 < c) (e:a*c=b*c):a=b:=Int.eq_of_mul_eq_mul_right (by omega) e
theorem alg {xs ys:List Int} {f:Int→Int→Int} {j:Nat} (h1:j < xs.length) (h2:j < ys.length):(List.zipWith f xs ys).getD j 0=f (xs.getD j 0) (ys.getD j 0):=by
 have:j < (List.zipWith f xs ys).length:=by rw [List.length_zipWith]; omega
 simp only [List.getD,List.getElem?_eq_getElem this,List.getElem?_eq_getElem h1,List.getElem?_eq_getElem h2,Option.getD_some,List.getElem_zipWith]
theorem aow {n k l:Nat} {way:Int} {xs ys:List Int} {w v:Int} (hway:way=1∨way=-1) (P:Pq n k xs w) (Q:Pq n l ys v):∃ (zs:List Int) (z:Int),mv way xs w ys v=zs++[z]∧Pq n (k+l+1) zs z ∧
  ∀ (N M:Nat→Int) (D E:Int),Vl n xs w N D→Vl n ys v M E→0 < D→0 < E→Vl n zs z (fun j=>way*N j*E+M j*D) (D*E):=by
 rw [← af0 hway]
 have hb:=Int.mul_pos P.pos Q.pos
 have hl:(List.zipWith (fun x y=>way*x*v+y*w) xs ys).length=n:=by rw [List.length_zipWith,P.len,Q.len]; omega
 obtain ⟨zs,z,g,e,hg,hz,g1,g2,hzl⟩:=ahb (List.zipWith (fun x y=>way*x*v+y*w) xs ys) hb
 have hlow:=agH (List.zipWith (fun x y=>way*x*v+y*w) xs ys) hb
 have hbd:=aiy (k:=k+l+1) (ns:=List.zipWith (fun x y=>way*x*v+y*w) xs ys++[w*v]) fun m hm=>by
  rcases List.mem_append.mp hm with y | y
  ·obtain ⟨i,hi,e⟩:=List.getElem_of_mem y
   rw [List.getElem_zipWith] at e
   rw [← e]
   have b1:=(P.bx _ (List.getElem_mem (l:=xs) (n:=i) (by rw [List.length_zipWith] at hi; omega))).mul Q.bw
   have b2:=(Q.bx _ (List.getElem_mem (l:=ys) (n:=i) (by rw [List.length_zipWith] at hi; omega))).mul P.bw
   have b3:Bd (k+l) (way*xs[i]'(by rw [List.length_zipWith] at hi; omega)*v):=by
    rcases hway with rfl | rfl
    ·rw [Int.one_mul]; exact b1
    ·have:(-1:Int)*xs[i]'(by rw [List.length_zipWith] at hi; omega)*v=-(xs[i]'(by rw [List.length_zipWith] at hi; omega)*v):=by rw [Int.neg_mul,Int.one_mul,Int.neg_mul]
     rw [this]; exact b1.neg
   exact b3.add (b2.mono (by omega))
  ·have:m=w*v:=by simpa using y
   rw [this]
   exact (P.bw.mul Q.bw).mono (by omega)
 rw [e] at hbd hlow
 refine ⟨zs,z,e,⟨hzl.trans hl,hz,hlow,fun x hx=>hbd x (List.mem_append_left _ hx),hbd z (ab5 zs z)⟩,fun N M D E a b hD hE j hj=>?_⟩
 have h1:(List.zipWith (fun x y=>way*x*v+y*w) xs ys).getD j 0=g*zs.getD j 0:=by
  rw [g1]
  have:j < zs.length:=by rw [hzl,hl]; exact hj
  simp [List.getD,this]
 rw [alg (by rw [P.len]; exact hj) (by rw [Q.len]; exact hj)] at h1
 have a1:=a j hj
 have b1:=b j hj
 generalize xs.getD j 0=X at a1 h1
 generalize ys.getD j 0=Y at b1 h1
 generalize zs.getD j 0=Z at h1 ⊢
 show Z*(D*E)=(way*N j*E+M j*D)*z
 generalize N j=A at *
 generalize M j=B at *
 refine amI (c:=g*(w*v)) (Int.mul_pos hg hb) ?_
 have p1:=P.pos
 have p2:=Q.pos
 have k1:(way*X*v+Y*w)*(D*E)=(way*A*E+B*D)*(w*v):=by grind
 have k2:Z*(D*E)*(g*(w*v))=(way*X*v+Y*w)*(D*E)*(w*v):=by rw [h1]; grind
 rw [k2,k1,g2]
 grind
theorem Pt.pq {n k:Nat} {xs:List Int} {w:Int} (P:Pt n xs w) (b:∀ x∈xs,Bd k x) (bw:Bd k w):Pq n k xs w:=⟨P.len,P.pos,P.low,b,bw⟩
theorem Pq.mono {n k l:Nat} {xs:List Int} {w:Int} (P:Pq n k xs w) (h:k≤l):Pq n l xs w:=⟨P.len,P.pos,P.low,fun x hx=>(P.bx x hx).mono h,P.bw.mono h⟩
theorem akP {xs:List Int} {w:Int} {n k:Nat} (S:Sto) (hk:k≤2000) (h:Pq n k xs w):abn [.pv (.tup ((xs++[w]).map .int)),.pv (.int n)] S=.ok (.pv (.bl true)) S:=by
 have e1:=aiF (xs++[w]) S
 have hl:((xs++[w]).length:Int)=(n:Int)+1:=by simp [h.len]
 rw [hl] at e1
 have ip:=ab4 xs w
 have el:=ah7 (xs++[w]) S (fun m hm=>by
  rcases List.mem_append.mp hm with z | z
  ·exact (h.bx m z).mono (by omega)
  ·have:m=w:=by simpa using z
   rw [this]; exact h.bw.mono (by omega))
 rw [h.low] at el
 have q:eqN 8 (.tup ((xs++[w]).map .int)) (.tup ((xs++[w]).map .int))=some true:=ai8 7 _
 have hw:¬ w < 1:=by have:=h.pos; omega
 generalize (xs++[w]).map PV.int=PL at e1 ip el q
 unfold abn fnM acG
 simp [aaI,sSeq,sIf,mTst,mNot,mAnd,mOr,abf,mOrV,mIf,mBin,mUn,mR,mN,aac,mVar,mC,mNil,Res.bind,abv,abc,abo,aby,aa5,rd,aa8,okO,fLen,fAbs,aal,aak,fTup,fLst,fEq,fNe,aaT,aao,aam,aap,aan,fAdd,aai,fNeg,fNot,tst,SRes.of,sRet,abJ,sNil,aaQ,sSet,aaH,abi,aah,abu,aaM,frz,aau,e1,ip,hw,el,q]
theorem aln {n k l:Nat} {way:Int} {xs ys:List Int} {w v:Int} (S:Sto) (hn:n=2∨n=3) (hway:way=1∨way=-1) (P:Pq n k xs w) (Q:Pq n l ys v) (hk:k≤1000) (hl:l≤1000):aaR [.pv (.tup ((xs++[w]).map .int)),.pv (.tup ((ys++[v]).map .int)),.pv (.int way)] S=.ok (.pv (.tup ((mv way xs w ys v).map .int))) S:=by
 have e:=ajG (way:=way) S (P.len.trans Q.len.symm) (by rw [P.len]; omega) hway (fun x hx=>(P.bx x hx).mono hk) (fun x hx=>(Q.bx x hx).mono hl) (P.bw.mono hk) (Q.bw.mono hl)
 rw [af0 hway] at e
 exact e
theorem adE:∀ is:List Int,adi (is.map .int)=some is
 | []=>rfl
 | i :: is=>by
  have ih:=adE is
  show (match adi (is.map .int) with | some bs=>some (i :: bs) | none=>none)=_
  rw [ih]
theorem aga (is:List Int):fSum [.lst (is.map .int)]=some (.int is.sum):=by
 simp only [fSum,adE,Option.map_some]
def wa (xs:List Int) (w:Int) (ys:List Int) (v:Int):List Int:=List.zipWith (fun x y=>y*w - x*v) xs ys
theorem ajf (S:Sto) (PL QL:List PV) (w v:Int) (hp:fIx (.tup PL) (.int (-1))=some (.int w)) (hq:fIx (.tup QL) (.int (-1))=some (.int v)) (bw:Bd 2000 w) (bv:Bd 2000 v):∀ (xs ys:List Int) (x y:Option AV),xs.length=ys.length→(∀ x∈xs,Bd 2000 x)→(∀ y∈ys,Bd 2000 y) →
  aaN [] (gT 2 (abr (gN 0) (abr (gN 1) ac9))) (mBin fSub (mBin fMul (mVar 1) (mBin fIx (mVar 2) (mUn fNeg (mC (.int 1))))) (mBin fMul (mVar 0) (mBin fIx (mVar 3) (mUn fNeg (mC (.int 1)))))) (zipP (xs.map .int) (ys.map .int)) [x,y,some (.pv (.tup PL)),some (.pv (.tup QL))] S=.ok ((wa xs w ys v).map .int) S
 | [],ys,x,y,hl,_,_=>by
  have:ys=[]:=List.length_eq_zero_iff.mp hl.symm
  subst this
  exact aaJ
 | a :: xs,[],x,y,hl,_,_=>by cases hl
 | a :: xs,b :: ys,x,y,hl,hx,hy=>by
  have ih:=ajf S PL QL w v hp hq bw bv xs ys (some (.pv (.int a))) (some (.pv (.int b))) (by simpa using hl) (fun m hm=>hx m (List.mem_cons_of_mem _ hm)) (fun m hm=>hy m (List.mem_cons_of_mem _ hm))
  have m1:=mB (hx a List.mem_cons_self) bv
  have m2:=mB (hy b List.mem_cons_self) bw
  show aaN [] _ _ (.tup [.int a,.int b] :: zipP (xs.map .int) (ys.map .int)) _ S=_
  rw [aaE]
  simp [gT,abr,ac9,gN,EC,fAbs,aal,aak,fEq,fNe,aaT,aao,aam,aap,aan,fAdd,aai,frz,aau,hp,hq,m1,m2,ih,wa]
theorem ahy {xs ys:List Int} {w v:Int} (S:Sto) (hl:xs.length=ys.length) (hx:∀ x∈xs,Bd 2000 x) (hy:∀ y∈ys,Bd 2000 y) (bw:Bd 2000 w) (bv:Bd 2000 v) :
  aa9 [.pv (.tup ((xs++[w]).map .int)),.pv (.tup ((ys++[v]).map .int))] S=.ok (.pv (.lst ((wa xs w ys v).map .int))) S:=by
 have ip:=ab4 xs w
 have iq:=ab4 ys v
 have sp:=adm xs w
 have sq:=adm ys v
 have ec:=ajf S _ _ w v ip iq bw bv xs ys none none hl hx hy
 generalize (xs++[w]).map PV.int=PL at ip sp ec
 generalize (ys++[v]).map PV.int=QL at iq sq ec
 unfold aa9 fnM acE
 simp [EC,fAbs,aal,aak,fEq,fNe,aaT,aao,aam,aap,aan,fAdd,aai,frz,aau,aa1,mZip,aib,abg,mSl,mO0,mO1,ab1,sp,sq,cmpR,ec]
theorem afE (S:Sto):∀ (us vs:List Int) (x y:Option AV),(∀ x∈us,Bd 100000 x)→(∀ y∈vs,Bd 100000 y) →
  aaN [] (gT 2 (abr (gN 0) (abr (gN 1) ac9))) (mBin fMul (mVar 0) (mVar 1)) (zipP (us.map .int) (vs.map .int)) [x,y] S=.ok ((List.zipWith (·*·) us vs).map .int) S
 | [],vs,x,y,_,_=>by
  show aaN [] _ _ [] _ S=_
  exact aaJ
 | a :: us,[],x,y,_,_=>by
  show aaN [] _ _ [] _ S=_
  exact aaJ
 | a :: us,b :: vs,x,y,hx,hy=>by
  have ih:=afE S us vs (some (.pv (.int a))) (some (.pv (.int b))) (fun m hm=>hx m (List.mem_cons_of_mem _ hm)) (fun m hm=>hy m (List.mem_cons_of_mem _ hm))
  have m1:fMul (.int a) (.int b)=some (.int (a*b)):=ack (.inr ⟨(hx a List.mem_cons_self).mono (by decide),(hy b List.mem_cons_self).mono (by decide)⟩)
  show aaN [] _ _ (.tup [.int a,.int b] :: zipP (us.map .int) (vs.map .int)) _ S=_
  rw [aaE]
  simp [gT,abr,ac9,gN,EC,fAbs,aal,aak,fEq,fNe,aaT,aao,aam,aap,aan,fAdd,aai,frz,aau,m1,ih]
def dt (us vs:List Int):Int:=(List.zipWith (·*·) us vs).sum
def Sq (A:PV) (us:List Int):Prop:=A=.lst (us.map .int)∨A=.tup (us.map .int)
theorem ak6 {A B:PV} {us vs:List Int} (S:Sto) (hA:Sq A us) (hB:Sq B vs) (hx:∀ x∈us,Bd 100000 x) (hy:∀ y∈vs,Bd 100000 y):ah9 [.pv A,.pv B] S=.ok (.pv (.int (dt us vs))) S:=by
 have ec:=afE S us vs none none hx hy
 have es:=aga (List.zipWith (·*·) us vs)
 unfold dt
 generalize (List.zipWith (·*·) us vs).map PV.int=ZL at ec es
 generalize (List.zipWith (·*·) us vs).sum=Z at es
 unfold ah9 fnM alB
 rcases hA with rfl | rfl <;> rcases hB with rfl | rfl <;>
  (generalize us.map PV.int=UL at ec ⊢; generalize vs.map PV.int=VL at ec ⊢; simp [EC,fAbs,aal,aak,fEq,fNe,aaT,aao,aam,aap,aan,fAdd,aai,frz,aau,aa1,mZip,aib,abg,cmpR,ec,es])
theorem ajL {A B:PV} {us vs:List Int} (S:Sto) (hA:Sq A us) (hB:Sq B vs) (hx:∀ x∈us,Bd 100000 x) (hy:∀ y∈vs,Bd 100000 y):aeZ [.pv A,.pv B] S=.ok (.pv (.int (dt us vs))) S:=by
 have ec:=afE S us vs none none hx hy
 have es:=aga (List.zipWith (·*·) us vs)
 unfold dt
 generalize (List.zipWith (·*·) us vs).map PV.int=ZL at ec es
 generalize (List.zipWith (·*·) us vs).sum=Z at es
 unfold aeZ fnM ajH
 rcases hA with rfl | rfl <;> rcases hB with rfl | rfl <;>
  (generalize us.map PV.int=UL at ec ⊢; generalize vs.map PV.int=VL at ec ⊢; simp [EC,fAbs,aal,aak,fEq,fNe,aaT,aao,aam,aap,aan,fAdd,aai,frz,aau,aa1,mZip,aib,abg,cmpR,ec,es])
theorem mBB {k l:Nat} {a b:Int} (h:Bd k a) (g:Bd l b) (hk:k≤1000000:=by decide) (hl:l≤1000000:=by decide):fMul (.int a) (.int b)=some (.int (a*b)):=ack (.inr ⟨h.mono hk,g.mono hl⟩)
theorem al3 (a b:Int) (S:Sto):acq [.pv (.lst [.lst [.int a,.int b]])] S=.ok (.pv (.lst [.int (-b),.int a])) S:=by
 unfold acq fnM ad5
 simp [EC,fAbs,aal,aak,fIx,atI,ixN,fEq,fNe,eqN,aao,aam,aap,aan,fAdd,aai,frz,aau]
theorem alm {a b c d e f:Int} (S:Sto) (ha:Bd 10000 a) (hb:Bd 10000 b) (hc:Bd 10000 c) (hd:Bd 10000 d) (he:Bd 10000 e) (hf:Bd 10000 f):acq [.pv (.lst [.lst [.int a,.int b,.int c],.lst [.int d,.int e,.int f]])] S=.ok (.pv (.lst [.int (b*f - c*e),.int (c*d - a*f),.int (a*e - b*d)])) S:=by
 have m1:=mBB hb hf
 have m2:=mBB hc he
 have m3:=mBB hc hd
 have m4:=mBB ha hf
 have m5:=mBB ha he
 have m6:=mBB hb hd
 unfold acq fnM ad5
 simp [EC,fAbs,aal,aak,fIx,atI,ixN,fEq,fNe,eqN,aao,aam,aap,aan,fAdd,aai,frz,aau,m1,m2,m3,m4,m5,m6]
theorem ag6 {A B:PV} {a b c d e f:Int} (S:Sto) (hA:Sq A [a,b,c]) (hB:Sq B [d,e,f]) (ha:Bd 10000 a) (hb:Bd 10000 b) (hc:Bd 10000 c) (hd:Bd 10000 d) (he:Bd 10000 e) (hf:Bd 10000 f):acX [.pv A,.pv B] S=.ok (.pv (.lst [.int (b*f - c*e),.int (c*d - a*f),.int (a*e - b*d)])) S:=by
 have m1:=mBB hb hf
 have m2:=mBB hc he
 have m3:=mBB hc hd
 have m4:=mBB ha hf
 have m5:=mBB ha he
 have m6:=mBB hb hd
 unfold acX fnM afr
 rcases hA with rfl | rfl <;> rcases hB with rfl | rfl <;> simp [EC,fAbs,aal,aak,fIx,atI,ixN,fEq,fNe,eqN,aao,aam,aap,aan,fAdd,aai,frz,aau,m1,m2,m3,m4,m5,m6]
structure P2 (x y w:Int):Prop where
 bx:Bd 1000 x
 by_:Bd 1000 y
 bw:Bd 1000 w
 pos:0 < w
structure P3 (x y z w:Int):Prop where
 bx:Bd 1000 x
 by_:Bd 1000 y
 bz:Bd 1000 z
 bw:Bd 1000 w
 pos:0 < w
abbrev v2 (x y w:Int):PV:=.tup [.int x,.int y,.int w]
abbrev v3 (x y z w:Int):PV:=.tup [.int x,.int y,.int z,.int w]
def Sv (A:PV) (L:List PV):Prop:=A=.lst L∨A=.tup L
theorem cut1 (p:PV) (L:List PV):cutP (p :: L) (some 1) none=L:=by
 unfold cutP
 have e1:HT.sIx (p :: L).length 0 (some 1)=1:=by
  rw [show (some (1:Int))=some ((1:Nat):Int) from rfl,HT.sIx_nat,List.length_cons]
  omega
 rw [e1]
 show ((p :: L).drop 1).take ((p :: L).length - 1)=L
 simp
theorem akL (p:PV) (L:List PV):fSl (.lst (p :: L)) (some 1) none=some (.lst L):=by
 unfold fSl
 dsimp only
 rw [cut1]
theorem akw (p:PV) (L:List PV):fSl (.tup (p :: L)) (some 1) none=some (.tup L):=by
 unfold fSl
 dsimp only
 have e1:HT.sIx (p :: L).length 0 (some 1)=1:=by
  rw [show (some (1:Int))=some ((1:Nat):Int) from rfl,HT.sIx_nat,List.length_cons]
  omega
 rw [if_neg (by rw [e1]; simp),cut1]
theorem ak3 (L:List PV) (p:PV):fSl (.lst (L++[p])) none (some (-1))=some (.lst L):=by
 unfold fSl
 dsimp only
 unfold cutP
 have e1:HT.sIx (L++[p]).length (L++[p]).length (some (-1))=L.length:=by
  rw [List.length_append]
  exact afK L.length _
 rw [e1]
 show some (PV.lst (((L++[p]).drop 0).take (L.length - 0)))=_
 simp
theorem alb {x0 y0 w0 x1 y1 w1:Int} (S:Sto) (p:P2 x0 y0 w0) (q:P2 x1 y1 w1):aa9 [.pv (v2 x0 y0 w0),.pv (v2 x1 y1 w1)] S=.ok (.pv (.lst [.int (x1*w0 - x0*w1),.int (y1*w0 - y0*w1)])) S:=by
 have e:=ahy (xs:=[x0,y0]) (ys:=[x1,y1]) (w:=w0) (v:=w1) S rfl (by simp; exact ⟨p.bx.mono (by decide),p.by_.mono (by decide)⟩) (by simp; exact ⟨q.bx.mono (by decide),q.by_.mono (by decide)⟩) (p.bw.mono (by decide)) (q.bw.mono (by decide))
 exact e
theorem aih {x0 y0 z0 w0 x1 y1 z1 w1:Int} (S:Sto) (p:P3 x0 y0 z0 w0) (q:P3 x1 y1 z1 w1):aa9 [.pv (v3 x0 y0 z0 w0),.pv (v3 x1 y1 z1 w1)] S=.ok (.pv (.lst [.int (x1*w0 - x0*w1),.int (y1*w0 - y0*w1),.int (z1*w0 - z0*w1)])) S:=by
 have e:=ahy (xs:=[x0,y0,z0]) (ys:=[x1,y1,z1]) (w:=w0) (v:=w1) S rfl (by simp; exact ⟨p.bx.mono (by decide),p.by_.mono (by decide),p.bz.mono (by decide)⟩) (by simp; exact ⟨q.bx.mono (by decide),q.by_.mono (by decide),q.bz.mono (by decide)⟩) (p.bw.mono (by decide)) (q.bw.mono (by decide))
 exact e
theorem sb {x0 w0 x1 w1:Int} (a:Bd 1000 x0) (b:Bd 1000 w0) (c:Bd 1000 x1) (d:Bd 1000 w1):Bd 2001 (x1*w0 - x0*w1):=((c.mul b).mono (show 1000+1000≤2000 by decide)).sub ((a.mul d).mono (show 1000+1000≤2000 by decide))
theorem cb {a b c d:Int} (h1:Bd 2001 a) (h2:Bd 2001 b) (h3:Bd 2001 c) (h4:Bd 2001 d):Bd 4003 (a*b - c*d):=((h1.mul h2).mono (show 2001+2001≤4002 by decide)).sub ((h3.mul h4).mono (show 2001+2001≤4002 by decide))
def D2 (x0 y0 w0 x1 y1 w1 x2 y2 w2:Int):Int:=w0*(x1*y2 - y1*x2) - w1*(x0*y2 - y0*x2)+w2*(x0*y1 - y0*x1)
def D3 (x0 y0 z0 w0 x1 y1 z1 w1 x2 y2 z2 w2 x3 y3 z3 w3:Int):Int :=
 w0*((y1*z2 - z1*y2)*x3+(z1*x2 - x1*z2)*y3+(x1*y2 - y1*x2)*z3) - w1*((y0*z2 - z0*y2)*x3+(z0*x2 - x0*z2)*y3+(x0*y2 - y0*x2)*z3)
 + w2*((y0*z1 - z0*y1)*x3+(z0*x1 - x0*z1)*y3+(x0*y1 - y0*x1)*z3) - w3*((y0*z1 - z0*y1)*x2+(z0*x1 - x0*z1)*y2+(x0*y1 - y0*x1)*z2)
theorem aox (x0 y0 w0 x1 y1 w1 x2 y2 w2:Int):dt [-(y1*w0 - y0*w1),x1*w0 - x0*w1] [x2*w0 - x0*w2,y2*w0 - y0*w2]=w0*D2 x0 y0 w0 x1 y1 w1 x2 y2 w2:=by
 simp only [dt,D2,List.zipWith_cons_cons,List.zipWith_nil_left,List.sum_cons,List.sum_nil]
 grind
theorem anN (x0 y0 z0 w0 x1 y1 z1 w1 x2 y2 z2 w2 x3 y3 z3 w3:Int):dt [(y1*w0 - y0*w1)*(z2*w0 - z0*w2) - (z1*w0 - z0*w1)*(y2*w0 - y0*w2),(z1*w0 - z0*w1)*(x2*w0 - x0*w2) - (x1*w0 - x0*w1)*(z2*w0 - z0*w2),(x1*w0 - x0*w1)*(y2*w0 - y0*w2) - (y1*w0 - y0*w1)*(x2*w0 - x0*w2)] [x3*w0 - x0*w3,y3*w0 - y0*w3,z3*w0 - z0*w3]=w0*w0*D3 x0 y0 z0 w0 x1 y1 z1 w1 x2 y2 z2 w2 x3 y3 z3 w3:=by
 simp only [dt,D3,List.zipWith_cons_cons,List.zipWith_nil_left,List.sum_cons,List.sum_nil]
 grind
theorem ac7 {w d:Int} (h:0 < w):sg (w*d)=sg d:=by
 unfold sg
 by_cases h1:0 < d
 ·rw [if_pos (Int.mul_pos h h1),if_pos h1]
 ·by_cases h2:d < 0
  ·have:w*d < 0:=Int.mul_neg_of_pos_of_neg h h2
   rw [if_neg (by omega),if_pos this,if_neg h1,if_pos h2]
  ·have:d=0:=by omega
   subst this
   rw [Int.mul_zero]
theorem al4 {A:PV} {x0 y0 w0 x1 y1 w1 x2 y2 w2:Int} (S:Sto) (hA:Sv A [v2 x0 y0 w0,v2 x1 y1 w1,v2 x2 y2 w2]) (p:P2 x0 y0 w0) (q:P2 x1 y1 w1) (r:P2 x2 y2 w2):aa7 [.pv A] S=.ok (.pv (.int (w0*D2 x0 y0 w0 x1 y1 w1 x2 y2 w2))) S:=by
 have a1:=alb S p q
 have a2:=alb S p r
 have bu:=sb p.bx p.bw q.bx q.bw
 have bv:=sb p.by_ p.bw q.by_ q.bw
 have bu2:=sb p.bx p.bw r.bx r.bw
 have bv2:=sb p.by_ p.bw r.by_ r.bw
 have id:=aox x0 y0 w0 x1 y1 w1 x2 y2 w2
 generalize w0*D2 x0 y0 w0 x1 y1 w1 x2 y2 w2=D at *
 generalize x1*w0 - x0*w1=U0 at *
 generalize y1*w0 - y0*w1=U1 at *
 generalize x2*w0 - x0*w2=V0 at *
 generalize y2*w0 - y0*w2=V1 at *
 have en:=al3 U0 U1 S
 have ed:=ak6 (A:=.lst [.int (-U1),.int U0]) (B:=.lst [.int V0,.int V1]) (us:=[-U1,U0]) (vs:=[V0,V1]) S (.inl rfl) (.inl rfl) (by simp; exact ⟨bv.neg.mono (by decide),bu.mono (by decide)⟩) (by simp; exact ⟨bu2.mono (by decide),bv2.mono (by decide)⟩)
 rw [id] at ed
 have pre:=ak3 [.lst [.int U0,.int U1]] (.lst [.int V0,.int V1])
 simp only [List.cons_append,List.nil_append] at pre
 generalize v2 x0 y0 w0=P at *
 generalize v2 x1 y1 w1=Q at *
 generalize v2 x2 y2 w2=R at *
 unfold aa7 fnM ab6
 rcases hA with rfl | rfl
 ·have s1:=akL P [Q,R]
  simp [EC,fAbs,aal,aak,fIx,atI,ixN,fEq,fNe,eqN,aao,aam,aap,aan,fAdd,aai,frz,aau,aa1,mIt,abg,mSl,mO0,mO1,ab1,s1,cmpR,aaE,aaJ,gN,a1,a2,pre,en,ed]
 ·have s1:=akw P [Q,R]
  simp [EC,fAbs,aal,aak,fIx,atI,ixN,fEq,fNe,eqN,aao,aam,aap,aan,fAdd,aai,frz,aau,aa1,mIt,abg,mSl,mO0,mO1,ab1,s1,cmpR,aaE,aaJ,gN,a1,a2,pre,en,ed]
theorem amn {A:PV} {x0 y0 z0 w0 x1 y1 z1 w1 x2 y2 z2 w2 x3 y3 z3 w3:Int} (S:Sto) (hA:Sv A [v3 x0 y0 z0 w0,v3 x1 y1 z1 w1,v3 x2 y2 z2 w2,v3 x3 y3 z3 w3]) (p:P3 x0 y0 z0 w0) (q:P3 x1 y1 z1 w1) (r:P3 x2 y2 z2 w2) (s:P3 x3 y3 z3 w3):aa7 [.pv A] S=.ok (.pv (.int (w0*w0*D3 x0 y0 z0 w0 x1 y1 z1 w1 x2 y2 z2 w2 x3 y3 z3 w3))) S:=by
 have a1:=aih S p q
 have a2:=aih S p r
 have a3:=aih S p s
 have b1:=sb p.bx p.bw q.bx q.bw
 have b2:=sb p.by_ p.bw q.by_ q.bw
 have b3:=sb p.bz p.bw q.bz q.bw
 have b4:=sb p.bx p.bw r.bx r.bw
 have b5:=sb p.by_ p.bw r.by_ r.bw
 have b6:=sb p.bz p.bw r.bz r.bw
 have b7:=sb p.bx p.bw s.bx s.bw
 have b8:=sb p.by_ p.bw s.by_ s.bw
 have b9:=sb p.bz p.bw s.bz s.bw
 have id:=anN x0 y0 z0 w0 x1 y1 z1 w1 x2 y2 z2 w2 x3 y3 z3 w3
 generalize w0*w0*D3 x0 y0 z0 w0 x1 y1 z1 w1 x2 y2 z2 w2 x3 y3 z3 w3=D at *
 generalize x1*w0 - x0*w1=U0 at *
 generalize y1*w0 - y0*w1=U1 at *
 generalize z1*w0 - z0*w1=U2 at *
 generalize x2*w0 - x0*w2=V0 at *
 generalize y2*w0 - y0*w2=V1 at *
 generalize z2*w0 - z0*w2=V2 at *
 generalize x3*w0 - x0*w3=T0 at *
 generalize y3*w0 - y0*w3=T1 at *
 generalize z3*w0 - z0*w3=T2 at *
 have h:∀ {a:Int},Bd 2001 a→Bd 10000 a:=fun h=>h.mono (by decide)
 have h4:∀ {a:Int},Bd 4003 a→Bd 100000 a:=fun h=>h.mono (by decide)
 have h2:∀ {a:Int},Bd 2001 a→Bd 100000 a:=fun h=>h.mono (by decide)
 have en:=alm S (h b1) (h b2) (h b3) (h b4) (h b5) (h b6)
 have c1:=cb b2 b6 b3 b5
 have c2:=cb b3 b4 b1 b6
 have c3:=cb b1 b5 b2 b4
 have ed:=ak6 (A:=.lst [.int (U1*V2 - U2*V1),.int (U2*V0 - U0*V2),.int (U0*V1 - U1*V0)]) (B:=.lst [.int T0,.int T1,.int T2]) (us:=[U1*V2 - U2*V1,U2*V0 - U0*V2,U0*V1 - U1*V0]) (vs:=[T0,T1,T2]) S (.inl rfl) (.inl rfl) (by simp; exact ⟨h4 c1,h4 c2,h4 c3⟩) (by simp; exact ⟨h2 b7,h2 b8,h2 b9⟩)
 rw [id] at ed
 generalize U1*V2 - U2*V1=N0 at *
 generalize U2*V0 - U0*V2=N1 at *
 generalize U0*V1 - U1*V0=N2 at *
 have pre:=ak3 [.lst [.int U0,.int U1,.int U2],.lst [.int V0,.int V1,.int V2]] (.lst [.int T0,.int T1,.int T2])
 simp only [List.cons_append,List.nil_append] at pre
 generalize v3 x0 y0 z0 w0=P at *
 generalize v3 x1 y1 z1 w1=Q at *
 generalize v3 x2 y2 z2 w2=R at *
 generalize v3 x3 y3 z3 w3=T at *
 unfold aa7 fnM ab6
 rcases hA with rfl | rfl
 ·have s1:=akL P [Q,R,T]
  simp [EC,fAbs,aal,aak,fIx,atI,ixN,fEq,fNe,eqN,aao,aam,aap,aan,fAdd,aai,frz,aau,aa1,mIt,abg,mSl,mO0,mO1,ab1,s1,cmpR,aaE,aaJ,gN,a1,a2,a3,pre,en,ed]
 ·have s1:=akw P [Q,R,T]
  simp [EC,fAbs,aal,aak,fIx,atI,ixN,fEq,fNe,eqN,aao,aam,aap,aan,fAdd,aai,frz,aau,aa1,mIt,abg,mSl,mO0,mO1,ab1,s1,cmpR,aaE,aaJ,gN,a1,a2,a3,pre,en,ed]
theorem akF {A:PV} {x0 y0 w0 x1 y1 w1 x2 y2 w2:Int} (S:Sto) (hA:Sv A [v2 x0 y0 w0,v2 x1 y1 w1,v2 x2 y2 w2]) (p:P2 x0 y0 w0) (q:P2 x1 y1 w1) (r:P2 x2 y2 w2):adr [.pv A] S=.ok (.pv (.int (sg (D2 x0 y0 w0 x1 y1 w1 x2 y2 w2)))) S:=by
 have e1:=al4 S hA p q r
 have e2:=agQ (w0*D2 x0 y0 w0 x1 y1 w1 x2 y2 w2) S
 rw [ac7 p.pos] at e2
 unfold adr fnM ag9
 simp [EC,fAbs,aal,aak,fIx,atI,ixN,fEq,fNe,eqN,aao,aam,aap,aan,fAdd,aai,frz,aau,e1,e2]
theorem ajM {A:PV} {x0 y0 z0 w0 x1 y1 z1 w1 x2 y2 z2 w2 x3 y3 z3 w3:Int} (S:Sto) (hA:Sv A [v3 x0 y0 z0 w0,v3 x1 y1 z1 w1,v3 x2 y2 z2 w2,v3 x3 y3 z3 w3]) (p:P3 x0 y0 z0 w0) (q:P3 x1 y1 z1 w1) (r:P3 x2 y2 z2 w2) (s:P3 x3 y3 z3 w3):adr [.pv A] S=.ok (.pv (.int (sg (D3 x0 y0 z0 w0 x1 y1 z1 w1 x2 y2 z2 w2 x3 y3 z3 w3)))) S:=by
 have e1:=amn S hA p q r s
 have e2:=agQ (w0*w0*D3 x0 y0 z0 w0 x1 y1 z1 w1 x2 y2 z2 w2 x3 y3 z3 w3) S
 rw [ac7 (Int.mul_pos p.pos p.pos)] at e2
 unfold adr fnM ag9
 simp [EC,fAbs,aal,aak,fIx,atI,ixN,fEq,fNe,eqN,aao,aam,aap,aan,fAdd,aai,frz,aau,e1,e2]
def Gp (n k:Nat) (v:PV):Prop:=∃ xs w,v=.tup ((xs++[w]).map .int)∧Pq n k xs w
theorem Gp.mono {n k l:Nat} {v:PV} (h:Gp n k v) (hl:k≤l):Gp n l v:=by
 obtain ⟨xs,w,e,P⟩:=h
 exact ⟨xs,w,e,P.mono hl⟩
theorem Gp.two {v:PV} (h:Gp 2 1000 v):∃ x y w,v=v2 x y w∧P2 x y w:=by
 obtain ⟨xs,w,rfl,P⟩:=h
 match xs,P.len with
 | [x,y],_=>exact ⟨x,y,w,rfl,P.bx x (by simp),P.bx y (by simp),P.bw,P.pos⟩
theorem Gp.three {v:PV} (h:Gp 3 1000 v):∃ x y z w,v=v3 x y z w∧P3 x y z w:=by
 obtain ⟨xs,w,rfl,P⟩:=h
 match xs,P.len with
 | [x,y,z],_=>exact ⟨x,y,z,w,rfl,P.bx x (by simp),P.bx y (by simp),P.bx z (by simp),P.bw,P.pos⟩
theorem akX {n k m:Nat} {v:PV} (h:Gp n k v):eqN (m+1) v v=some true:=by
 obtain ⟨xs,w,rfl,_⟩:=h
 exact ai8 m _
theorem adP:∀ L:List PV,∀ m,(∀ v∈L,eqN m v v=some true)→aco (List.zipWith (eqN m) L L)=some (L.map fun _=>true)
 | [],m,_=>rfl
 | v :: L,m,h=>by
  rw [List.zipWith_cons_cons,h v List.mem_cons_self,aco,adP L m fun u hu=>h u (List.mem_cons_of_mem _ hu)]
  rfl
theorem alp {m:Nat} {L:List PV} (h:∀ v∈L,eqN m v v=some true):eqN (m+1) (.lst L) (.lst L)=some true:=by
 rw [eqN,if_pos rfl,adP L m h]
 simp
theorem afq {m:Nat} {L:List PV} (h:∀ v∈L,eqN m v v=some true):eqN (m+1) (.tup L) (.tup L)=some true:=by
 rw [eqN,adP L m h]
 simp
theorem ahB (S:Sto) (PL QL:List PV) (xs ys:List Int) (w v:Int) (hp:fIx (.tup PL) (.int (-1))=some (.int w)) (hq:fIx (.tup QL) (.int (-1))=some (.int v)) (hpj:∀ j:Nat,j < xs.length→fIx (.tup PL) (.int (j:Nat))=some (.int (xs.getD j 0))) (hqj:∀ j:Nat,j < xs.length→fIx (.tup QL) (.int (j:Nat))=some (.int (ys.getD j 0)))
  (bw:Bd 1000 w) (bv:Bd 1000 v) (hx:∀ j,Bd 1000 (xs.getD j 0)) (hy:∀ j,Bd 1000 (ys.getD j 0)):∀ (js:List Nat) (x:Option AV),(∀ j∈js,j < xs.length) →
  aaN [] (gN 0) (mBin fSub (mBin fMul (mBin fIx (mVar 1) (mVar 0)) (mBin fIx (mVar 2) (mUn fNeg (mC (.int 1))))) (mBin fMul (mBin fIx (mVar 2) (mVar 0)) (mBin fIx (mVar 1) (mUn fNeg (mC (.int 1)))))) (js.map fun j=>.int (0+(j:Nat))) [x,some (.pv (.tup QL)),some (.pv (.tup PL))] S=.ok ((js.map fun j=>ys.getD j 0*w - xs.getD j 0*v).map .int) S
 | [],x,_=>aaJ
 | j :: js,x,h=>by
  have ih:=ahB S PL QL xs ys w v hp hq hpj hqj bw bv hx hy js (some (.pv (.int (0+(j:Nat))))) fun i hi=>h i (List.mem_cons_of_mem _ hi)
  have e1:=hpj j (h j List.mem_cons_self)
  have e2:=hqj j (h j List.mem_cons_self)
  have m1:=mB ((hx j).mono (show 1000≤2000 by decide)) (bv.mono (show 1000≤2000 by decide))
  have m2:=mB ((hy j).mono (show 1000≤2000 by decide)) (bw.mono (show 1000≤2000 by decide))
  show aaN [] _ _ (.int (0+(j:Nat)) :: js.map fun j=>.int (0+(j:Nat))) _ S=_
  rw [aaE]
  simp only [Int.zero_add] at ih ⊢
  generalize hX:xs.getD j 0=X at e1 m1
  generalize hY:ys.getD j 0=Y at e2 m2
  simp [gN,EC,fAbs,aal,aak,fEq,fNe,aaT,aao,aam,aap,aan,fAdd,aai,frz,aau,e1,e2,hp,hq,m1,m2,ih]
  simp only [List.getD_eq_getElem?_getD] at hX hY
  rw [hX,hY]
theorem akZ {xs ys:List Int} {w v:Int} (S:Sto) (hl:xs.length=ys.length) (h9:xs.length≤9) (hx:∀ x∈xs,Bd 1000 x) (hy:∀ y∈ys,Bd 1000 y) (bw:Bd 1000 w) (bv:Bd 1000 v) :
  adS [.pv (.tup ((xs++[w]).map .int)),.pv (.tup ((ys++[v]).map .int))] S=.ok (.pv (.lst ((wa xs w ys v).map .int))) S:=by
 have ip:=ab4 xs w
 have iq:=ab4 ys v
 have ec:=ahB S _ _ xs ys w v ip iq (fun j h=>ahF xs w j h) (fun j h=>ahF ys v j (by omega)) bw bv (afA hx) (afA hy) (List.range xs.length) none fun j hj=>by simpa using hj
 have er:(List.range xs.length).map (fun j=>ys.getD j 0*w - xs.getD j 0*v)=wa xs w ys v:=agy hl fun x y=>y*w - x*v
 rw [er] at ec
 have hlen:((xs++[w]).map PV.int).length=xs.length+1:=by simp
 have hr:rng1 [.pv (.int (((xs.length+1:Nat):Int) - 1))] S=.ok ((List.range xs.length).map fun j=>.int (0+(j:Nat)),[]) S:=by
  unfold rng1
  dsimp only
  rw [if_pos ⟨by omega,by omega⟩]
  have:(((xs.length+1:Nat):Int) - 1).toNat=xs.length:=by omega
  rw [this]
  rfl
 generalize (wa xs w ys v).map PV.int=ZL at ec
 generalize (List.range xs.length).map (fun j=>PV.int (0+(j:Nat)))=RL at ec hr
 generalize hP:(xs++[w]).map PV.int=PL at ip ec hlen
 generalize (ys++[v]).map PV.int=QL at iq ec
 unfold adS fnM aio
 have hr2:=hr
 rw [← hlen] at hr2
 simp [EC,fAbs,aal,aak,fEq,fNe,aaT,aao,aam,aap,aan,fAdd,aai,frz,aau,aa1,abe,hr2,cmpR,ec]
theorem gap2 {x0 y0 w0 x1 y1 w1:Int} (S:Sto) (p:P2 x0 y0 w0) (q:P2 x1 y1 w1):adS [.pv (v2 x0 y0 w0),.pv (v2 x1 y1 w1)] S=.ok (.pv (.lst [.int (x1*w0 - x0*w1),.int (y1*w0 - y0*w1)])) S:=by
 have e:=akZ (xs:=[x0,y0]) (ys:=[x1,y1]) (w:=w0) (v:=w1) S rfl (by simp) (by simp; exact ⟨p.bx,p.by_⟩) (by simp; exact ⟨q.bx,q.by_⟩) p.bw q.bw
 exact e
theorem gap3 {x0 y0 z0 w0 x1 y1 z1 w1:Int} (S:Sto) (p:P3 x0 y0 z0 w0) (q:P3 x1 y1 z1 w1):adS [.pv (v3 x0 y0 z0 w0),.pv (v3 x1 y1 z1 w1)] S=.ok (.pv (.lst [.int (x1*w0 - x0*w1),.int (y1*w0 - y0*w1),.int (z1*w0 - z0*w1)])) S:=by
 have e:=akZ (xs:=[x0,y0,z0]) (ys:=[x1,y1,z1]) (w:=w0) (v:=w1) S rfl (by simp) (by simp; exact ⟨p.bx,p.by_,p.bz⟩) (by simp; exact ⟨q.bx,q.by_,q.bz⟩) p.bw q.bw
 exact e
theorem aj7 {A:PV} {x0 y0 w0 x1 y1 w1 x2 y2 w2:Int} (S:Sto) (hA:Sv A [v2 x0 y0 w0,v2 x1 y1 w1,v2 x2 y2 w2]) (p:P2 x0 y0 w0) (q:P2 x1 y1 w1) (r:P2 x2 y2 w2):acQ [.pv A] S=.ok (.pv (.int (w0*D2 x0 y0 w0 x1 y1 w1 x2 y2 w2))) S:=by
 have a1:=gap2 S p q
 have a2:=gap2 S p r
 have bu:=sb p.bx p.bw q.bx q.bw
 have bv:=sb p.by_ p.bw q.by_ q.bw
 have bu2:=sb p.bx p.bw r.bx r.bw
 have bv2:=sb p.by_ p.bw r.by_ r.bw
 have id:(x1*w0 - x0*w1)*(y2*w0 - y0*w2) - (y1*w0 - y0*w1)*(x2*w0 - x0*w2)=w0*D2 x0 y0 w0 x1 y1 w1 x2 y2 w2:=by
  unfold D2
  grind
 generalize w0*D2 x0 y0 w0 x1 y1 w1 x2 y2 w2=D at *
 generalize x1*w0 - x0*w1=U0 at *
 generalize y1*w0 - y0*w1=U1 at *
 generalize x2*w0 - x0*w2=V0 at *
 generalize y2*w0 - y0*w2=V1 at *
 have m1:=mBB bu bv2
 have m2:=mBB bv bu2
 generalize v2 x0 y0 w0=P at *
 generalize v2 x1 y1 w1=Q at *
 generalize v2 x2 y2 w2=R at *
 have et:abj [.pv (.lst [.lst [.int U0,.int U1],.lst [.int V0,.int V1]])] S=.ok (.pv (.int D)) S:=by
  unfold abj fnM adz
  simp [EC,fAbs,aal,aak,fIx,atI,ixN,fEq,fNe,eqN,aao,aam,aap,aan,fAdd,aai,frz,aau,m1,m2,id]
 unfold acQ fnM ahk
 rcases hA with rfl | rfl
 ·have s1:=akL P [Q,R]
  simp [EC,fAbs,aal,aak,fIx,atI,ixN,fEq,fNe,eqN,aao,aam,aap,aan,fAdd,aai,frz,aau,aa1,mIt,abg,mSl,mO0,mO1,ab1,s1,cmpR,aaE,aaJ,gN,a1,a2,et]
 ·have s1:=akw P [Q,R]
  simp [EC,fAbs,aal,aak,fIx,atI,ixN,fEq,fNe,eqN,aao,aam,aap,aan,fAdd,aai,frz,aau,aa1,mIt,abg,mSl,mO0,mO1,ab1,s1,cmpR,aaE,aaJ,gN,a1,a2,et]
theorem ajU {A:PV} {x0 y0 z0 w0 x1 y1 z1 w1 x2 y2 z2 w2 x3 y3 z3 w3:Int} (S:Sto) (hA:Sv A [v3 x0 y0 z0 w0,v3 x1 y1 z1 w1,v3 x2 y2 z2 w2,v3 x3 y3 z3 w3]) (p:P3 x0 y0 z0 w0) (q:P3 x1 y1 z1 w1) (r:P3 x2 y2 z2 w2) (s:P3 x3 y3 z3 w3):acQ [.pv A] S=.ok (.pv (.int (w0*w0*D3 x0 y0 z0 w0 x1 y1 z1 w1 x2 y2 z2 w2 x3 y3 z3 w3))) S:=by
 have a1:=gap3 S p q
 have a2:=gap3 S p r
 have a3:=gap3 S p s
 have b1:=sb p.bx p.bw q.bx q.bw
 have b2:=sb p.by_ p.bw q.by_ q.bw
 have b3:=sb p.bz p.bw q.bz q.bw
 have b4:=sb p.bx p.bw r.bx r.bw
 have b5:=sb p.by_ p.bw r.by_ r.bw
 have b6:=sb p.bz p.bw r.bz r.bw
 have b7:=sb p.bx p.bw s.bx s.bw
 have b8:=sb p.by_ p.bw s.by_ s.bw
 have b9:=sb p.bz p.bw s.bz s.bw
 have id:=anN x0 y0 z0 w0 x1 y1 z1 w1 x2 y2 z2 w2 x3 y3 z3 w3
 generalize w0*w0*D3 x0 y0 z0 w0 x1 y1 z1 w1 x2 y2 z2 w2 x3 y3 z3 w3=D at *
 generalize x1*w0 - x0*w1=U0 at *
 generalize y1*w0 - y0*w1=U1 at *
 generalize z1*w0 - z0*w1=U2 at *
 generalize x2*w0 - x0*w2=V0 at *
 generalize y2*w0 - y0*w2=V1 at *
 generalize z2*w0 - z0*w2=V2 at *
 generalize x3*w0 - x0*w3=T0 at *
 generalize y3*w0 - y0*w3=T1 at *
 generalize z3*w0 - z0*w3=T2 at *
 have h:∀ {a:Int},Bd 2001 a→Bd 10000 a:=fun h=>h.mono (by decide)
 have h4:∀ {a:Int},Bd 4003 a→Bd 100000 a:=fun h=>h.mono (by decide)
 have h2:∀ {a:Int},Bd 2001 a→Bd 100000 a:=fun h=>h.mono (by decide)
 have en:=ag6 (A:=.lst [.int U0,.int U1,.int U2]) (B:=.lst [.int V0,.int V1,.int V2]) S (.inl rfl) (.inl rfl) (h b1) (h b2) (h b3) (h b4) (h b5) (h b6)
 have c1:=cb b2 b6 b3 b5
 have c2:=cb b3 b4 b1 b6
 have c3:=cb b1 b5 b2 b4
 have ed:=ajL (A:=.lst [.int (U1*V2 - U2*V1),.int (U2*V0 - U0*V2),.int (U0*V1 - U1*V0)]) (B:=.lst [.int T0,.int T1,.int T2]) (us:=[U1*V2 - U2*V1,U2*V0 - U0*V2,U0*V1 - U1*V0]) (vs:=[T0,T1,T2]) S (.inl rfl) (.inl rfl) (by simp; exact ⟨h4 c1,h4 c2,h4 c3⟩) (by simp; exact ⟨h2 b7,h2 b8,h2 b9⟩)
 rw [id] at ed
 generalize U1*V2 - U2*V1=N0 at *
 generalize U2*V0 - U0*V2=N1 at *
 generalize U0*V1 - U1*V0=N2 at *
 generalize v3 x0 y0 z0 w0=P at *
 generalize v3 x1 y1 z1 w1=Q at *
 generalize v3 x2 y2 z2 w2=R at *
 generalize v3 x3 y3 z3 w3=T at *
 have et:abj [.pv (.lst [.lst [.int U0,.int U1,.int U2],.lst [.int V0,.int V1,.int V2],.lst [.int T0,.int T1,.int T2]])] S=.ok (.pv (.int D)) S:=by
  unfold abj fnM adz
  simp [EC,fAbs,aal,aak,fIx,atI,ixN,fEq,fNe,eqN,aao,aam,aap,aan,fAdd,aai,frz,aau,en,ed]
 unfold acQ fnM ahk
 rcases hA with rfl | rfl
 ·have s1:=akL P [Q,R,T]
  simp [EC,fAbs,aal,aak,fIx,atI,ixN,fEq,fNe,eqN,aao,aam,aap,aan,fAdd,aai,frz,aau,aa1,mIt,abg,mSl,mO0,mO1,ab1,s1,cmpR,aaE,aaJ,gN,a1,a2,a3,et]
 ·have s1:=akw P [Q,R,T]
  simp [EC,fAbs,aal,aak,fIx,atI,ixN,fEq,fNe,eqN,aao,aam,aap,aan,fAdd,aai,frz,aau,aa1,mIt,abg,mSl,mO0,mO1,ab1,s1,cmpR,aaE,aaJ,gN,a1,a2,a3,et]
theorem farg {S:Sto} {k:Nat} {ns:List Int} (n:Nat) (hn:n=2∨n=3) (h:Row S k ns):∃ (v:PV) (ns':List Int),ac2 [.ref k,.pv (.int n)] S=.ok (.pv v) (S.set k (.lst (ns'.map .int)))∧Gp n 100 v:=by
 obtain ⟨xs,w,n1,e1,P,b1,b2⟩:=amw n hn h
 exact ⟨_,n1,e1,xs,w,rfl,P.pq b1 b2⟩
theorem dt3 (a b c x y z:Int):dt [a,b,c] [x,y,z]=a*x+b*y+c*z:=by
 simp only [dt,List.zipWith_cons_cons,List.zipWith_nil_left,List.sum_cons,List.sum_nil]
 grind
theorem alT {G:Gd} {g:GM} {me:ME} {x:PV} {r:List PV} {ρ:Rho} {S:Sto} (h:gOk G S):aaN G g me (x :: r) ρ S=(match g x ρ with
  | none=>.fail
  | some ρ1=>match me ρ1 S with
   | .ok (.pv y) S1=>match aaN G g me r ρ1 S1 with
    | .ok ys S2=>.ok (y :: ys) S2
    | _=>.fail
   | _=>.fail):=by
 rw [aaN,if_pos h]
 all_goals rfl
theorem aj0 {G:Gd} {g:GM} {me:ME} {ρ:Rho} {S:Sto} (h:gOk G S):aaN G g me [] ρ S=.ok [] S:=by
 rw [aaN,if_pos h]
theorem ahi (a b c x0 y0 w0 x1 y1 w1 x2 y2 w2:Int):D2 (a*x0) (a*y0) (a*w0) (b*x1) (b*y1) (b*w1) (c*x2) (c*y2) (c*w2)=a*b*c*D2 x0 y0 w0 x1 y1 w1 x2 y2 w2:=by
 unfold D2
 grind
theorem ahe (a b c d x0 y0 z0 w0 x1 y1 z1 w1 x2 y2 z2 w2 x3 y3 z3 w3:Int):D3 (a*x0) (a*y0) (a*z0) (a*w0) (b*x1) (b*y1) (b*z1) (b*w1) (c*x2) (c*y2) (c*z2) (c*w2) (d*x3) (d*y3) (d*z3) (d*w3)=a*b*c*d*D3 x0 y0 z0 w0 x1 y1 z1 w1 x2 y2 z2 w2 x3 y3 z3 w3:=by
 unfold D3
 grind
structure R2 (x y w X Y D:Int):Prop where
 pos:0 < w
 dos:0 < D
 ex:x*D=X*w
 ey:y*D=Y*w
structure R3 (x y z w X Y Z D:Int):Prop where
 pos:0 < w
 dos:0 < D
 ex:x*D=X*w
 ey:y*D=Y*w
 ez:z*D=Z*w
theorem sgD2 {x0 y0 w0 x1 y1 w1 x2 y2 w2 X0 Y0 W0 X1 Y1 W1 X2 Y2 W2:Int} (p:R2 x0 y0 w0 X0 Y0 W0) (q:R2 x1 y1 w1 X1 Y1 W1) (r:R2 x2 y2 w2 X2 Y2 W2):sg (D2 x0 y0 w0 x1 y1 w1 x2 y2 w2)=sg (D2 X0 Y0 W0 X1 Y1 W1 X2 Y2 W2):=by
 have e1:=ahi W0 W1 W2 x0 y0 w0 x1 y1 w1 x2 y2 w2
 have e2:=ahi w0 w1 w2 X0 Y0 W0 X1 Y1 W1 X2 Y2 W2
 have c:∀ a b:Int,a*b=b*a:=Int.mul_comm
 rw [c W0 x0,c W0 y0,c W1 x1,c W1 y1,c W2 x2,c W2 y2,p.ex,p.ey,q.ex,q.ey,r.ex,r.ey] at e1
 rw [c w0 X0,c w0 Y0,c w1 X1,c w1 Y1,c w2 X2,c w2 Y2,c w0 W0,c w1 W1,c w2 W2,e1] at e2
 rw [← ac7 (Int.mul_pos (Int.mul_pos p.dos q.dos) r.dos),e2,ac7 (Int.mul_pos (Int.mul_pos p.pos q.pos) r.pos)]
theorem sgD3 {x0 y0 z0 w0 x1 y1 z1 w1 x2 y2 z2 w2 x3 y3 z3 w3 X0 Y0 Z0 W0 X1 Y1 Z1 W1 X2 Y2 Z2 W2 X3 Y3 Z3 W3:Int} (p:R3 x0 y0 z0 w0 X0 Y0 Z0 W0) (q:R3 x1 y1 z1 w1 X1 Y1 Z1 W1) (r:R3 x2 y2 z2 w2 X2 Y2 Z2 W2) (s:R3 x3 y3 z3 w3 X3 Y3 Z3 W3) :
  sg (D3 x0 y0 z0 w0 x1 y1 z1 w1 x2 y2 z2 w2 x3 y3 z3 w3)=sg (D3 X0 Y0 Z0 W0 X1 Y1 Z1 W1 X2 Y2 Z2 W2 X3 Y3 Z3 W3):=by
 have e1:=ahe W0 W1 W2 W3 x0 y0 z0 w0 x1 y1 z1 w1 x2 y2 z2 w2 x3 y3 z3 w3
 have e2:=ahe w0 w1 w2 w3 X0 Y0 Z0 W0 X1 Y1 Z1 W1 X2 Y2 Z2 W2 X3 Y3 Z3 W3
 have c:∀ a b:Int,a*b=b*a:=Int.mul_comm
 rw [c W0 x0,c W0 y0,c W0 z0,c W1 x1,c W1 y1,c W1 z1,c W2 x2,c W2 y2,c W2 z2,c W3 x3,c W3 y3,c W3 z3,p.ex,p.ey,p.ez,q.ex,q.ey,q.ez,r.ex,r.ey,r.ez,s.ex,s.ey,s.ez] at e1
 rw [c w0 X0,c w0 Y0,c w0 Z0,c w1 X1,c w1 Y1,c w1 Z1,c w2 X2,c w2 Y2,c w2 Z2,c w3 X3,c w3 Y3,c w3 Z3,c w0 W0,c w1 W1,c w2 W2,c w3 W3,e1] at e2
 rw [← ac7 (Int.mul_pos (Int.mul_pos (Int.mul_pos p.dos q.dos) r.dos) s.dos),e2,ac7 (Int.mul_pos (Int.mul_pos (Int.mul_pos p.pos q.pos) r.pos) s.pos)]
theorem Pq.p2 {k:Nat} {x y w:Int} (P:Pq 2 k [x,y] w) (h:k≤1000):P2 x y w:=⟨(P.bx x (by simp)).mono h,(P.bx y (by simp)).mono h,P.bw.mono h,P.pos⟩
theorem Pq.p3 {k:Nat} {x y z w:Int} (P:Pq 3 k [x,y,z] w) (h:k≤1000):P3 x y z w:=⟨(P.bx x (by simp)).mono h,(P.bx y (by simp)).mono h,(P.bx z (by simp)).mono h,P.bw.mono h,P.pos⟩
def sgP:List PV→Int
 | [.tup [.int x0,.int y0,.int w0],.tup [.int x1,.int y1,.int w1],.tup [.int x2,.int y2,.int w2]]=>sg (D2 x0 y0 w0 x1 y1 w1 x2 y2 w2)
 | [.tup [.int x0,.int y0,.int z0,.int w0],.tup [.int x1,.int y1,.int z1,.int w1],.tup [.int x2,.int y2,.int z2,.int w2],.tup [.int x3,.int y3,.int z3,.int w3]]=>sg (D3 x0 y0 z0 w0 x1 y1 z1 w1 x2 y2 z2 w2 x3 y3 z3 w3)
 | _=>0
theorem ai3 {n:Nat} (hn:n=2∨n=3) {A:PV} {L:List PV} (S:Sto) (hl:L.length=n+1) (hg:∀ v∈L,Gp n 1000 v) (hA:Sv A L):adr [.pv A] S=.ok (.pv (.int (sgP L))) S:=by
 rcases hn with rfl | rfl
 ·match L,hl with
  | [P,Q,R],_ =>
   obtain ⟨x0,y0,w0,rfl,p⟩:=(hg P (by simp)).two
   obtain ⟨x1,y1,w1,rfl,q⟩:=(hg Q (by simp)).two
   obtain ⟨x2,y2,w2,rfl,r⟩:=(hg R (by simp)).two
   exact akF S hA p q r
 ·match L,hl with
  | [P,Q,R,T],_ =>
   obtain ⟨x0,y0,z0,w0,rfl,p⟩:=(hg P (by simp)).three
   obtain ⟨x1,y1,z1,w1,rfl,q⟩:=(hg Q (by simp)).three
   obtain ⟨x2,y2,z2,w2,rfl,r⟩:=(hg R (by simp)).three
   obtain ⟨x3,y3,z3,w3,rfl,s⟩:=(hg T (by simp)).three
   exact ajM S hA p q r s
theorem am5 (D:Int):sg (-D)=- sg D:=by
 unfold sg
 split <;> split <;> (try split) <;> (try split) <;> omega
theorem R2.self {x y w:Int} (h:0 < w):R2 x y w x y w:=⟨h,h,rfl,rfl⟩
theorem R3.self {x y z w:Int} (h:0 < w):R3 x y z w x y z w:=⟨h,h,rfl,rfl,rfl⟩
abbrev tv (us:List Int):PV:=.tup (us.map .int)
def Gu (n k:Nat) (us:List Int):Prop:=∃ xs w,us=xs++[w]∧Pq n k xs w
theorem Gu.gp {n k:Nat} {us:List Int} (h:Gu n k us):Gp n k (tv us):=by
 obtain ⟨xs,w,rfl,P⟩:=h
 exact ⟨xs,w,rfl,P⟩
theorem Gu.ne {n k:Nat} {us:List Int} (h:Gu n k us):us≠[]:=by
 obtain ⟨xs,w,rfl,P⟩:=h
 simp
theorem gps {n k:Nat} {uss:List (List Int)} (h:∀ us∈uss,Gu n k us):∀ v∈uss.map tv,Gp n k v:=fun v hv=>by
 obtain ⟨us,hu,rfl⟩:=List.mem_map.mp hv
 exact (h us hu).gp
theorem aeY:∀ uss:List (List Int),adR (uss.map tv)=some uss
 | []=>rfl
 | us :: uss=>by
  have ih:=aeY uss
  show (match adi (us.map .int),adR (uss.map tv) with | some is,some uss=>some (is :: uss) | _,_=>none)=_
  rw [ih,adE]
theorem afS {uss:List (List Int)} {n:Nat} (hl:uss.length=n) (hp:(aaB uss).Perm (List.range n)):alK (uss.map tv) uss=(aa0 uss).map tv:=by
 unfold alK aa0
 rw [List.map_map]
 refine List.map_congr_left fun i hi=>?_
 have h:i < uss.length:=by
  have:=hp.subset hi
  rw [hl]
  simpa using this
 simp [List.getD,h]
theorem acU {A:PV} {uss:List (List Int)} (hl:uss.length=3∨uss.length=4) (hA:Sv A (uss.map tv)) (hne:∀ us∈uss,us≠[]):aes [A]=some (.lst ((aa0 uss).map tv)):=by
 have e:ah8 (uss.map tv)=some (.lst ((aa0 uss).map tv)):=by
  unfold ah8
  rw [aeY]
  dsimp only
  rcases hl with h | h
  ·obtain ⟨_,hp,_⟩:=agU h
   rw [if_pos (show aly uss from ⟨by omega,by omega,by rw [h]; exact ann,by rw [hp.length_eq]; simp,hne⟩),afS h hp]
  ·obtain ⟨_,hp,_⟩:=agI h
   rw [if_pos (show aly uss from ⟨by omega,by omega,by rw [h]; exact anM,by rw [hp.length_eq]; simp,hne⟩),afS h hp]
 rcases hA with rfl | rfl
 ·exact e
 ·exact e
def swl {α:Type}:List α→List α
 | [a,b,c]=>[a,c,b]
 | [a,b,c,d]=>[a,b,d,c]
 | l=>l
theorem agW {α β:Type} (f:α→β) (l:List α):(swl l).map f=swl (l.map f):=by
 unfold swl
 split
 ·rfl
 ·rfl
 ·rename_i h1 h2
  split
  ·rename_i e
   match l,e with
   | [a,b,c],_=>exact absurd rfl (h1 a b c)
  ·rename_i e
   match l,e with
   | [a,b,c,d],_=>exact absurd rfl (h2 a b c d)
  ·rfl
theorem akG {α:Type} (l:List α):(swl l).Perm l:=by
 unfold swl
 split
 ·exact .cons _ (.swap _ _ _)
 ·exact .cons _ (.cons _ (.swap _ _ _))
 ·exact .refl _
def dU:List (List Int)→Int
 | [[x0,y0,w0],[x1,y1,w1],[x2,y2,w2]]=>D2 x0 y0 w0 x1 y1 w1 x2 y2 w2
 | [[x0,y0,z0,w0],[x1,y1,z1,w1],[x2,y2,z2,w2],[x3,y3,z3,w3]]=>D3 x0 y0 z0 w0 x1 y1 z1 w1 x2 y2 z2 w2 x3 y3 z3 w3
 | _=>0
theorem Gu.two {k:Nat} {us:List Int} (h:Gu 2 k us) (hk:k≤1000):∃ x y w,us=[x,y,w]∧P2 x y w:=by
 obtain ⟨xs,w,rfl,P⟩:=h
 match xs,P.len,P with
 | [x,y],_,P=>exact ⟨x,y,w,rfl,P.p2 hk⟩
theorem Gu.three {k:Nat} {us:List Int} (h:Gu 3 k us) (hk:k≤1000):∃ x y z w,us=[x,y,z,w]∧P3 x y z w:=by
 obtain ⟨xs,w,rfl,P⟩:=h
 match xs,P.len,P with
 | [x,y,z],_,P=>exact ⟨x,y,z,w,rfl,P.p3 hk⟩
theorem aeA {n k:Nat} (hn:n=2∨n=3) (hk:k≤1000) {uss:List (List Int)} (hl:uss.length=n+1) (hg:∀ us∈uss,Gu n k us):sgP (uss.map tv)=sg (dU uss):=by
 rcases hn with rfl | rfl
 ·match uss,hl with
  | [a,b,c],_ =>
   obtain ⟨x0,y0,w0,rfl,_⟩:=(hg a (by simp)).two hk
   obtain ⟨x1,y1,w1,rfl,_⟩:=(hg b (by simp)).two hk
   obtain ⟨x2,y2,w2,rfl,_⟩:=(hg c (by simp)).two hk
   rfl
 ·match uss,hl with
  | [a,b,c,d],_ =>
   obtain ⟨x0,y0,z0,w0,rfl,_⟩:=(hg a (by simp)).three hk
   obtain ⟨x1,y1,z1,w1,rfl,_⟩:=(hg b (by simp)).three hk
   obtain ⟨x2,y2,z2,w2,rfl,_⟩:=(hg c (by simp)).three hk
   obtain ⟨x3,y3,z3,w3,rfl,_⟩:=(hg d (by simp)).three hk
   rfl
theorem amO {x0 y0 w0 x1 y1 w1 x2 y2 w2:Int} {p:List Nat} (hp:p∈afP):dU (p.map fun i=>([[x0,y0,w0],[x1,y1,w1],[x2,y2,w2]]:List (List Int)).getD i [])=dU [[x0,y0,w0],[x1,y1,w1],[x2,y2,w2]]∨dU (p.map fun i=>([[x0,y0,w0],[x1,y1,w1],[x2,y2,w2]]:List (List Int)).getD i [])=- dU [[x0,y0,w0],[x1,y1,w1],[x2,y2,w2]]:=by
 have hp:p=[0,1,2]∨p=[0,2,1]∨p=[1,0,2]∨p=[1,2,0]∨p=[2,0,1]∨p=[2,1,0]:=by simpa [afP] using hp
 rcases hp with rfl | rfl | rfl | rfl | rfl | rfl
 ·left
  show D2 x0 y0 w0 x1 y1 w1 x2 y2 w2=D2 x0 y0 w0 x1 y1 w1 x2 y2 w2
  unfold D2
  grind
 ·right
  show D2 x0 y0 w0 x2 y2 w2 x1 y1 w1=-(D2 x0 y0 w0 x1 y1 w1 x2 y2 w2)
  unfold D2
  grind
 ·right
  show D2 x1 y1 w1 x0 y0 w0 x2 y2 w2=-(D2 x0 y0 w0 x1 y1 w1 x2 y2 w2)
  unfold D2
  grind
 ·left
  show D2 x1 y1 w1 x2 y2 w2 x0 y0 w0=D2 x0 y0 w0 x1 y1 w1 x2 y2 w2
  unfold D2
  grind
 ·left
  show D2 x2 y2 w2 x0 y0 w0 x1 y1 w1=D2 x0 y0 w0 x1 y1 w1 x2 y2 w2
  unfold D2
  grind
 ·right
  show D2 x2 y2 w2 x1 y1 w1 x0 y0 w0=-(D2 x0 y0 w0 x1 y1 w1 x2 y2 w2)
  unfold D2
  grind
theorem anh {x0 y0 z0 w0 x1 y1 z1 w1 x2 y2 z2 w2 x3 y3 z3 w3:Int} {p:List Nat} (hp:p∈af9):dU (p.map fun i=>([[x0,y0,z0,w0],[x1,y1,z1,w1],[x2,y2,z2,w2],[x3,y3,z3,w3]]:List (List Int)).getD i [])=dU [[x0,y0,z0,w0],[x1,y1,z1,w1],[x2,y2,z2,w2],[x3,y3,z3,w3]]∨dU (p.map fun i=>([[x0,y0,z0,w0],[x1,y1,z1,w1],[x2,y2,z2,w2],[x3,y3,z3,w3]]:List (List Int)).getD i [])=- dU [[x0,y0,z0,w0],[x1,y1,z1,w1],[x2,y2,z2,w2],[x3,y3,z3,w3]]:=by
 have hp:p=[0,1,2,3]∨p=[0,1,3,2]∨p=[0,2,1,3]∨p=[0,2,3,1]∨p=[0,3,1,2]∨p=[0,3,2,1]∨p=[1,0,2,3]∨p=[1,0,3,2]∨p=[1,2,0,3]∨p=[1,2,3,0]∨p=[1,3,0,2]∨p=[1,3,2,0]∨p=[2,0,1,3]∨p=[2,0,3,1]∨p=[2,1,0,3]∨p=[2,1,3,0]∨p=[2,3,0,1]∨p=[2,3,1,0]∨p=[3,0,1,2]∨p=[3,0,2,1]∨p=[3,1,0,2]∨p=[3,1,2,0]∨p=[3,2,0,1]∨p=[3,2,1,0]:=by simpa [af9] using hp
 rcases hp with rfl | rfl | rfl | rfl | rfl | rfl | rfl | rfl | rfl | rfl | rfl | rfl | rfl | rfl | rfl | rfl | rfl | rfl | rfl | rfl | rfl | rfl | rfl | rfl
 ·left
  show D3 x0 y0 z0 w0 x1 y1 z1 w1 x2 y2 z2 w2 x3 y3 z3 w3=D3 x0 y0 z0 w0 x1 y1 z1 w1 x2 y2 z2 w2 x3 y3 z3 w3
  unfold D3
  grind
 ·right
  show D3 x0 y0 z0 w0 x1 y1 z1 w1 x3 y3 z3 w3 x2 y2 z2 w2=-(D3 x0 y0 z0 w0 x1 y1 z1 w1 x2 y2 z2 w2 x3 y3 z3 w3)
  unfold D3
  grind
 ·right
  show D3 x0 y0 z0 w0 x2 y2 z2 w2 x1 y1 z1 w1 x3 y3 z3 w3=-(D3 x0 y0 z0 w0 x1 y1 z1 w1 x2 y2 z2 w2 x3 y3 z3 w3)
  unfold D3
  grind
 ·left
  show D3 x0 y0 z0 w0 x2 y2 z2 w2 x3 y3 z3 w3 x1 y1 z1 w1=D3 x0 y0 z0 w0 x1 y1 z1 w1 x2 y2 z2 w2 x3 y3 z3 w3
  unfold D3
  grind
 ·left
  show D3 x0 y0 z0 w0 x3 y3 z3 w3 x1 y1 z1 w1 x2 y2 z2 w2=D3 x0 y0 z0 w0 x1 y1 z1 w1 x2 y2 z2 w2 x3 y3 z3 w3
  unfold D3
  grind
 ·right
  show D3 x0 y0 z0 w0 x3 y3 z3 w3 x2 y2 z2 w2 x1 y1 z1 w1=-(D3 x0 y0 z0 w0 x1 y1 z1 w1 x2 y2 z2 w2 x3 y3 z3 w3)
  unfold D3
  grind
 ·right
  show D3 x1 y1 z1 w1 x0 y0 z0 w0 x2 y2 z2 w2 x3 y3 z3 w3=-(D3 x0 y0 z0 w0 x1 y1 z1 w1 x2 y2 z2 w2 x3 y3 z3 w3)
  unfold D3
  grind
 ·left
  show D3 x1 y1 z1 w1 x0 y0 z0 w0 x3 y3 z3 w3 x2 y2 z2 w2=D3 x0 y0 z0 w0 x1 y1 z1 w1 x2 y2 z2 w2 x3 y3 z3 w3
  unfold D3
  grind
 ·left
  show D3 x1 y1 z1 w1 x2 y2 z2 w2 x0 y0 z0 w0 x3 y3 z3 w3=D3 x0 y0 z0 w0 x1 y1 z1 w1 x2 y2 z2 w2 x3 y3 z3 w3
  unfold D3
  grind
 ·right
  show D3 x1 y1 z1 w1 x2 y2 z2 w2 x3 y3 z3 w3 x0 y0 z0 w0=-(D3 x0 y0 z0 w0 x1 y1 z1 w1 x2 y2 z2 w2 x3 y3 z3 w3)
  unfold D3
  grind
 ·right
  show D3 x1 y1 z1 w1 x3 y3 z3 w3 x0 y0 z0 w0 x2 y2 z2 w2=-(D3 x0 y0 z0 w0 x1 y1 z1 w1 x2 y2 z2 w2 x3 y3 z3 w3)
  unfold D3
  grind
 ·left
  show D3 x1 y1 z1 w1 x3 y3 z3 w3 x2 y2 z2 w2 x0 y0 z0 w0=D3 x0 y0 z0 w0 x1 y1 z1 w1 x2 y2 z2 w2 x3 y3 z3 w3
  unfold D3
  grind
 ·left
  show D3 x2 y2 z2 w2 x0 y0 z0 w0 x1 y1 z1 w1 x3 y3 z3 w3=D3 x0 y0 z0 w0 x1 y1 z1 w1 x2 y2 z2 w2 x3 y3 z3 w3
  unfold D3
  grind
 ·right
  show D3 x2 y2 z2 w2 x0 y0 z0 w0 x3 y3 z3 w3 x1 y1 z1 w1=-(D3 x0 y0 z0 w0 x1 y1 z1 w1 x2 y2 z2 w2 x3 y3 z3 w3)
  unfold D3
  grind
 ·right
  show D3 x2 y2 z2 w2 x1 y1 z1 w1 x0 y0 z0 w0 x3 y3 z3 w3=-(D3 x0 y0 z0 w0 x1 y1 z1 w1 x2 y2 z2 w2 x3 y3 z3 w3)
  unfold D3
  grind
 ·left
  show D3 x2 y2 z2 w2 x1 y1 z1 w1 x3 y3 z3 w3 x0 y0 z0 w0=D3 x0 y0 z0 w0 x1 y1 z1 w1 x2 y2 z2 w2 x3 y3 z3 w3
  unfold D3
  grind
 ·left
  show D3 x2 y2 z2 w2 x3 y3 z3 w3 x0 y0 z0 w0 x1 y1 z1 w1=D3 x0 y0 z0 w0 x1 y1 z1 w1 x2 y2 z2 w2 x3 y3 z3 w3
  unfold D3
  grind
 ·right
  show D3 x2 y2 z2 w2 x3 y3 z3 w3 x1 y1 z1 w1 x0 y0 z0 w0=-(D3 x0 y0 z0 w0 x1 y1 z1 w1 x2 y2 z2 w2 x3 y3 z3 w3)
  unfold D3
  grind
 ·right
  show D3 x3 y3 z3 w3 x0 y0 z0 w0 x1 y1 z1 w1 x2 y2 z2 w2=-(D3 x0 y0 z0 w0 x1 y1 z1 w1 x2 y2 z2 w2 x3 y3 z3 w3)
  unfold D3
  grind
 ·left
  show D3 x3 y3 z3 w3 x0 y0 z0 w0 x2 y2 z2 w2 x1 y1 z1 w1=D3 x0 y0 z0 w0 x1 y1 z1 w1 x2 y2 z2 w2 x3 y3 z3 w3
  unfold D3
  grind
 ·left
  show D3 x3 y3 z3 w3 x1 y1 z1 w1 x0 y0 z0 w0 x2 y2 z2 w2=D3 x0 y0 z0 w0 x1 y1 z1 w1 x2 y2 z2 w2 x3 y3 z3 w3
  unfold D3
  grind
 ·right
  show D3 x3 y3 z3 w3 x1 y1 z1 w1 x2 y2 z2 w2 x0 y0 z0 w0=-(D3 x0 y0 z0 w0 x1 y1 z1 w1 x2 y2 z2 w2 x3 y3 z3 w3)
  unfold D3
  grind
 ·right
  show D3 x3 y3 z3 w3 x2 y2 z2 w2 x0 y0 z0 w0 x1 y1 z1 w1=-(D3 x0 y0 z0 w0 x1 y1 z1 w1 x2 y2 z2 w2 x3 y3 z3 w3)
  unfold D3
  grind
 ·left
  show D3 x3 y3 z3 w3 x2 y2 z2 w2 x1 y1 z1 w1 x0 y0 z0 w0=D3 x0 y0 z0 w0 x1 y1 z1 w1 x2 y2 z2 w2 x3 y3 z3 w3
  unfold D3
  grind
theorem ajq {n k:Nat} (hn:n=2∨n=3) (hk:k≤1000) {uss:List (List Int)} (hl:uss.length=n+1) (hg:∀ us∈uss,Gu n k us):dU (aa0 uss)=dU uss∨dU (aa0 uss)=- dU uss:=by
 rcases hn with rfl | rfl
 ·obtain ⟨m,hp,_⟩:=agU hl
  unfold aa0
  generalize aaB uss=p at *
  match uss,hl with
  | [a,b,c],_ =>
   obtain ⟨x0,y0,w0,rfl,_⟩:=(hg a (by simp)).two hk
   obtain ⟨x1,y1,w1,rfl,_⟩:=(hg b (by simp)).two hk
   obtain ⟨x2,y2,w2,rfl,_⟩:=(hg c (by simp)).two hk
   exact amO m
 ·obtain ⟨m,hp,_⟩:=agI hl
  unfold aa0
  generalize aaB uss=p at *
  match uss,hl with
  | [a,b,c,d],_ =>
   obtain ⟨x0,y0,z0,w0,rfl,_⟩:=(hg a (by simp)).three hk
   obtain ⟨x1,y1,z1,w1,rfl,_⟩:=(hg b (by simp)).three hk
   obtain ⟨x2,y2,z2,w2,rfl,_⟩:=(hg c (by simp)).three hk
   obtain ⟨x3,y3,z3,w3,rfl,_⟩:=(hg d (by simp)).three hk
   exact anh m
theorem ajX {n:Nat} (hn:n=2∨n=3) {uss:List (List Int)} (hl:uss.length=n+1):uss.length=3∨uss.length=4:=by
 rcases hn with rfl | rfl
 ·exact .inl hl
 ·exact .inr hl
theorem ahv {n:Nat} (hn:n=2∨n=3) {uss:List (List Int)} (hl:uss.length=n+1) (hg:∀ us∈uss,Gu n 1000 us):sgP ((aa0 uss).map tv)=sgP (uss.map tv)∨sgP ((aa0 uss).map tv)=- sgP (uss.map tv):=by
 have hp:=(abB (ajX hn hl)).1
 rw [aeA hn (Nat.le_refl 1000) (by rw [hp.length_eq,hl]) (fun us hu=>hg us (hp.subset hu)),aeA hn (Nat.le_refl 1000) hl hg]
 rcases ajq hn (Nat.le_refl 1000) hl hg with e | e
 ·exact .inl (by rw [e])
 ·exact .inr (by rw [e,am5])
theorem agV {n:Nat} (hn:n=2∨n=3) {A:PV} {L:List PV} (S:Sto) (hl:L.length=n+1) (hg:∀ v∈L,Gp n 1000 v) (hA:Sv A L):∃ d:Int,acQ [.pv A] S=.ok (.pv (.int d)) S∧sg d=sgP L:=by
 rcases hn with rfl | rfl
 ·match L,hl with
  | [P,Q,R],_ =>
   obtain ⟨x0,y0,w0,rfl,p⟩:=(hg P (by simp)).two
   obtain ⟨x1,y1,w1,rfl,q⟩:=(hg Q (by simp)).two
   obtain ⟨x2,y2,w2,rfl,r⟩:=(hg R (by simp)).two
   exact ⟨_,aj7 S hA p q r,ac7 p.pos⟩
 ·match L,hl with
  | [P,Q,R,T],_ =>
   obtain ⟨x0,y0,z0,w0,rfl,p⟩:=(hg P (by simp)).three
   obtain ⟨x1,y1,z1,w1,rfl,q⟩:=(hg Q (by simp)).three
   obtain ⟨x2,y2,z2,w2,rfl,r⟩:=(hg R (by simp)).three
   obtain ⟨x3,y3,z3,w3,rfl,s⟩:=(hg T (by simp)).three
   exact ⟨_,ajU S hA p q r s,ac7 (Int.mul_pos p.pos p.pos)⟩
def cnr (uss:List (List Int)):List (List Int):=if sgP ((aa0 uss).map tv) < 0 then swl (aa0 uss) else aa0 uss
theorem ama {n:Nat} (hn:n=2∨n=3) {L:List PV} (hl:L.length=n+1):∃ a b M,fSl (.lst L) none (some (-2))=some (.lst M)∧fIx (.lst L) (.int (-1))=some a∧fIx (.lst L) (.int (-2))=some b∧fAdd (.lst M) (.lst [a,b])=some (.lst (swl L)):=by
 rcases hn with rfl | rfl
 ·match L,hl with
  | [P,Q,R],_=>exact ⟨R,Q,[P],rfl,rfl,rfl,rfl⟩
 ·match L,hl with
  | [P,Q,R,T],_=>exact ⟨T,R,[P,Q],rfl,rfl,rfl,rfl⟩
theorem agD {n:Nat} (hn:n=2∨n=3) {A:PV} {uss:List (List Int)} (S:Sto) (hl:uss.length=n+1) (hg:∀ us∈uss,Gu n 1000 us) (hA:Sv A (uss.map tv)):aaO [.pv A] S=.ok (.pv (.tup ((cnr uss).map tv))) S:=by
 have h34:uss.length=3∨uss.length=4:=by omega
 have e1:=acU h34 hA fun us hu=>(hg us hu).ne
 obtain ⟨pm,_⟩:=abB h34
 have hl2:((aa0 uss).map tv).length=n+1:=by rw [List.length_map,pm.length_eq]; exact hl
 have hg2:∀ v∈(aa0 uss).map tv,Gp n 1000 v:=gps fun us hu=>hg us (pm.subset hu)
 obtain ⟨d,e2,hd⟩:=agV (A:=.lst ((aa0 uss).map tv)) hn S hl2 hg2 (.inl rfl)
 obtain ⟨a,b,M,t1,t2,t3,t4⟩:=ama hn hl2
 unfold cnr
 have hlt:d < 0↔sgP ((aa0 uss).map tv) < 0:=by
  rw [← hd]
  unfold sg
  split
  ·omega
  ·split <;> omega
 by_cases h:d < 0
 ·rw [if_pos (hlt.mp h),agW]
  generalize (aa0 uss).map tv=L at *
  unfold aaO fnM ab8
  simp [EC,fAbs,aal,aak,fEq,fNe,aaT,aao,aam,aap,aan,frz,aau,e1,e2,h,mSl,mO0,mO1,ab1,t1,t2,t3,t4]
 ·rw [if_neg (fun z=>h (hlt.mpr z))]
  generalize (aa0 uss).map tv=L at *
  unfold aaO fnM ab8
  simp [EC,fAbs,aal,aak,fEq,fNe,aaT,aao,aam,aap,aan,frz,aau,e1,e2,h]
theorem ahS {n:Nat} (hn:n=2∨n=3) {A:PV} {uss:List (List Int)} (S:Sto) (hl:uss.length=n+1) (hg:∀ us∈uss,Gu n 1000 us) (hA:Sv A (uss.map tv)) (h0:sgP (uss.map tv)≠0):abK [.pv A] S=.ok (.pv (.tup ((cnr uss).map tv))) S:=by
 have h34:uss.length=3∨uss.length=4:=by omega
 have e1:=acU h34 hA fun us hu=>(hg us hu).ne
 obtain ⟨pm,_⟩:=abB h34
 have hl2:((aa0 uss).map tv).length=n+1:=by rw [List.length_map,pm.length_eq]; exact hl
 have hg2:∀ v∈(aa0 uss).map tv,Gp n 1000 v:=gps fun us hu=>hg us (pm.subset hu)
 have e2:=ai3 (A:=.lst ((aa0 uss).map tv)) hn S hl2 hg2 (.inl rfl)
 have h1:sgP ((aa0 uss).map tv)≠0:=by rcases ahv hn hl hg with e | e <;> omega
 obtain ⟨a,b,M,t1,t2,t3,t4⟩:=ama hn hl2
 unfold cnr
 by_cases h:sgP ((aa0 uss).map tv) < 0
 ·rw [if_pos h,agW]
  generalize (aa0 uss).map tv=L at *
  generalize sgP L=D at *
  unfold abK fnM acb
  simp [EC,fAbs,aal,aak,fEq,fNe,aaT,aao,aam,aap,aan,frz,aau,e1,e2,h,h1,mSl,mO0,mO1,ab1,t1,t2,t3,t4]
 ·rw [if_neg h]
  generalize (aa0 uss).map tv=L at *
  generalize sgP L=D at *
  unfold abK fnM acb
  simp [EC,fAbs,aal,aak,fEq,fNe,aaT,aao,aam,aap,aan,frz,aau,e1,e2,h,h1]
theorem ahL {n:Nat} (hn:n=2∨n=3) {A:PV} {uss:List (List Int)} (S:Sto) (hl:uss.length=n+1) (hg:∀ us∈uss,Gu n 1000 us) (hA:Sv A (uss.map tv)) (h0:sgP (uss.map tv)=0):abK [.pv A] S=.exc "Flat" S:=by
 have h34:uss.length=3∨uss.length=4:=by omega
 have e1:=acU h34 hA fun us hu=>(hg us hu).ne
 obtain ⟨pm,_⟩:=abB h34
 have hl2:((aa0 uss).map tv).length=n+1:=by rw [List.length_map,pm.length_eq]; exact hl
 have hg2:∀ v∈(aa0 uss).map tv,Gp n 1000 v:=gps fun us hu=>hg us (pm.subset hu)
 have e2:=ai3 (A:=.lst ((aa0 uss).map tv)) hn S hl2 hg2 (.inl rfl)
 have h1:sgP ((aa0 uss).map tv)=0:=by rcases ahv hn hl hg with e | e <;> omega
 rw [h1] at e2
 generalize (aa0 uss).map tv=L at *
 unfold abK fnM acb
 simp [EC,fAbs,aal,aak,fEq,fNe,aaT,aao,aam,aap,aan,frz,aau,e1,e2,ag2]
theorem ag7 {uss:List (List Int)} (h:uss.length=3∨uss.length=4):(cnr uss).Perm uss:=by
 obtain ⟨pm,_⟩:=abB h
 unfold cnr
 split
 ·exact (akG _).trans pm
 ·exact pm
theorem amh {uss:List (List Int)} (h:uss.length=3∨uss.length=4):cnr (cnr uss)=cnr uss:=by
 have e:=afl (ag7 h) h
 unfold cnr at e ⊢
 rw [e]
theorem ano {S:Sto} {k j:Nat} {xs:List PV} {v:PV} (hS:S[k]?=some (.lst xs)) (hv:xs[j]?=some v) (hj:j < 1000):aiZ k [.pv (.int (j:Int))] S=.ok (.pv v) (S.set k (.lst (xs.eraseIdx j))):=by
 have hl:=(List.getElem?_eq_some_iff.mp hv).1
 have e:seqIndex? (j:Int) xs.length=some j:=by
  unfold seqIndex?
  have h1:¬ ((j:Int) < 0):=by omega
  have h2:(decide (0≤(j:Int)) && decide ((j:Int) < (xs.length:Int)))=true:=by
   simp only [Bool.and_eq_true,decide_eq_true_eq]
   omega
  simp only [h1,if_false]
  rw [if_pos h2,Int.toNat_natCast]
 unfold aiZ
 dsimp only
 rw [if_pos ⟨by omega,by omega⟩,hS]
 dsimp only
 rw [e]
 dsimp only
 rw [hv]
theorem Gu.mono {n k l:Nat} {us:List Int} (h:Gu n k us) (hl:k≤l):Gu n l us:=by
 obtain ⟨xs,w,e,P⟩:=h
 exact ⟨xs,w,e,P.mono hl⟩
theorem acD {d:Int}:sg d=0↔d=0:=by
 unfold sg
 split
 ·omega
 ·split <;> omega
theorem anu {d:Int}:sg d < 0↔d < 0:=by
 unfold sg
 split
 ·omega
 ·split <;> omega
theorem anA {n k:Nat} (hn:n=2∨n=3) (hk:k≤1000) {uss:List (List Int)} (hl:uss.length=n+1) (hg:∀ us∈uss,Gu n k us):dU (swl uss)=- dU uss:=by
 rcases hn with rfl | rfl
 ·match uss,hl with
  | [a,b,c],_ =>
   obtain ⟨x0,y0,w0,rfl,_⟩:=(hg a (by simp)).two hk
   obtain ⟨x1,y1,w1,rfl,_⟩:=(hg b (by simp)).two hk
   obtain ⟨x2,y2,w2,rfl,_⟩:=(hg c (by simp)).two hk
   show D2 x0 y0 w0 x2 y2 w2 x1 y1 w1=-(D2 x0 y0 w0 x1 y1 w1 x2 y2 w2)
   unfold D2
   grind
 ·match uss,hl with
  | [a,b,c,d],_ =>
   obtain ⟨x0,y0,z0,w0,rfl,_⟩:=(hg a (by simp)).three hk
   obtain ⟨x1,y1,z1,w1,rfl,_⟩:=(hg b (by simp)).three hk
   obtain ⟨x2,y2,z2,w2,rfl,_⟩:=(hg c (by simp)).three hk
   obtain ⟨x3,y3,z3,w3,rfl,_⟩:=(hg d (by simp)).three hk
   show D3 x0 y0 z0 w0 x1 y1 z1 w1 x3 y3 z3 w3 x2 y2 z2 w2=-(D3 x0 y0 z0 w0 x1 y1 z1 w1 x2 y2 z2 w2 x3 y3 z3 w3)
   unfold D3
   grind
theorem anO {n k:Nat} (hn:n=2∨n=3) (hk:k≤1000) {uss:List (List Int)} (hl:uss.length=n+1) (hg:∀ us∈uss,Gu n k us):dU (cnr uss)=((dU uss).natAbs:Int):=by
 have hp:=(abB (ajX hn hl)).1
 have gs:∀ us∈aa0 uss,Gu n k us:=fun us hu=>hg us (hp.subset hu)
 have ls:(aa0 uss).length=n+1:=by rw [hp.length_eq,hl]
 have e:=ajq hn hk hl hg
 have s:=anA hn hk ls gs
 have q:=aeA hn hk ls gs
 unfold cnr
 split
 ·rename_i h
  rw [q,anu] at h
  rw [s]
  omega
 ·rename_i h
  rw [q,anu] at h
  omega
structure Sx (n k:Nat) (uss:List (List Int)):Prop where
 len:uss.length=n+1
 gu:∀ us∈uss,Gu n k us
 nz:dU uss≠0
 cn:cnr uss=uss
abbrev px (uss:List (List Int)):PV:=.tup (uss.map tv)
theorem aoA {n k:Nat} (hn:n=2∨n=3) (hk:k≤1000) {uss:List (List Int)} (hl:uss.length=n+1) (hg:∀ us∈uss,Gu n k us) (nz:dU uss≠0):Sx n k (cnr uss):=by
 have hp:=ag7 (ajX hn hl)
 refine ⟨by rw [hp.length_eq,hl],fun us hu=>hg us (hp.subset hu),?_,amh (ajX hn hl)⟩
 rw [anO hn hk hl hg]
 omega
def AffU (n:Nat) (A C:Nat→Int) (E:Int) (us us':List Int):Prop:=∃ xs w xs' w',us=xs++[w]∧us'=xs'++[w']∧xs.length=n∧xs'.length=n∧0 < w∧0 < w'∧∀ j,j < n→xs'.getD j 0*(E*w)=(A j*xs.getD j 0+C j*w)*w'
def mvU (way:Int) (f us:List Int):List Int:=mv way us.dropLast (us.getLastD 0) f.dropLast (f.getLastD 0)
theorem ajx (way:Int) (xs:List Int) (w:Int) (ys:List Int) (v:Int):mvU way (ys++[v]) (xs++[w])=mv way xs w ys v:=by
 unfold mvU
 simp
theorem adW {n k l:Nat} {way:Int} {us f:List Int} (hway:way=1∨way=-1) (h:Gu n k us) (g:Gu n l f):Gu n (k+l+1) (mvU way f us)∧AffU n (fun _=>way*f.getLastD 0) (fun j=>f.getD j 0) (f.getLastD 0) us (mvU way f us):=by
 obtain ⟨xs,w,rfl,P⟩:=h
 obtain ⟨ys,v,rfl,Q⟩:=g
 rw [ajx]
 obtain ⟨zs,z,e,Z,hv⟩:=aow hway P Q
 rw [e]
 refine ⟨⟨zs,z,rfl,Z⟩,xs,w,zs,z,rfl,rfl,P.len,Z.len,P.pos,Z.pos,fun j hj=>?_⟩
 have a:=hv _ _ _ _ (Vl.self n xs w) (Vl.self n ys v) P.pos Q.pos j hj
 rw [show (ys++[v]).getLastD 0=v by simp]
 have eg:(ys++[v]).getD j 0=ys.getD j 0:=by
  have:j < ys.length:=by rw [Q.len]; exact hj
  simp [List.getD,List.getElem?_append_left this]
 dsimp only at a ⊢
 rw [eg]
 generalize ys.getD j 0=y at a ⊢
 generalize xs.getD j 0=x at a ⊢
 generalize zs.getD j 0=t at a ⊢
 rw [Int.mul_comm v w,a]
 grind
theorem alS {n k l:Nat} {way:Int} {us f:List Int} (S:Sto) (hn:n=2∨n=3) (hway:way=1∨way=-1) (h:Gu n k us) (g:Gu n l f) (hk:k≤1000) (hl:l≤1000):aaR [.pv (tv us),.pv (tv f),.pv (.int way)] S=.ok (.pv (tv (mvU way f us))) S:=by
 obtain ⟨xs,w,rfl,P⟩:=h
 obtain ⟨ys,v,rfl,Q⟩:=g
 rw [ajx]
 exact aln S hn hway P Q hk hl
theorem aez {G:Gd} {S:Sto} (hG:gOk G S) {me:ME} {tail:Rho} {α:Type} (A B:α→PV):∀ (L:List α) (x:Option AV),(∀ v∈L,me (some (.pv (A v)) :: tail) S=.ok (.pv (B v)) S)→aaN G (gN 0) me (L.map A) (x :: tail) S=.ok (L.map B) S
 | [],x,_=>aj0 hG
 | v :: L,x,h=>by
  have e:=h v List.mem_cons_self
  have e':=aez hG A B L (some (.pv (A v))) fun u hu=>h u (List.mem_cons_of_mem _ hu)
  rw [List.map_cons,alT hG]
  simp [gN,e,e']
theorem Gu.two' {k:Nat} {us:List Int} (h:Gu 2 k us):∃ x y w,us=[x,y,w]∧0 < w∧Bd k x∧Bd k y∧Bd k w:=by
 obtain ⟨xs,w,rfl,P⟩:=h
 match xs,P.len,P with
 | [x,y],_,P=>exact ⟨x,y,w,rfl,P.pos,P.bx x (by simp),P.bx y (by simp),P.bw⟩
theorem Gu.three' {k:Nat} {us:List Int} (h:Gu 3 k us):∃ x y z w,us=[x,y,z,w]∧0 < w∧Bd k x∧Bd k y∧Bd k z∧Bd k w:=by
 obtain ⟨xs,w,rfl,P⟩:=h
 match xs,P.len,P with
 | [x,y,z],_,P=>exact ⟨x,y,z,w,rfl,P.pos,P.bx x (by simp),P.bx y (by simp),P.bx z (by simp),P.bw⟩
def pl (u v:Int × Int):Int × Int:=((fr (u.1*v.2+v.1*u.2) (u.2*v.2)).getD 0 0,(fr (u.1*v.2+v.1*u.2) (u.2*v.2)).getD 1 0)
structure Fq (k:Nat) (u:Int × Int):Prop where
 pos:0 < u.2
 b1:Bd k u.1
 b2:Bd k u.2
 lo:Int.gcd u.1 u.2=1
theorem Fq.mono {k l:Nat} {u:Int × Int} (h:Fq k u) (hl:k≤l):Fq l u:=⟨h.pos,h.b1.mono hl,h.b2.mono hl,h.lo⟩
theorem ae8 {n:Nat} (S:Sto):∀ (L:List PV) (x:Option AV),(∀ v∈L,Gp n 1000 v)→aaN [] (gN 0) (aah abn [] (aac (mVar 0) (aac (mVar 1) mNil))) L [x,some (.pv (.int n))] S=.ok (L.map fun _=>.bl true) S
 | [],x,_=>aaJ
 | v :: L,x,h=>by
  have ih:=ae8 (n:=n) S L (some (.pv v)) fun u hu=>h u (List.mem_cons_of_mem _ hu)
  obtain ⟨xs,w,rfl,P⟩:=h v List.mem_cons_self
  have e:=akP S (by decide) P
  rw [aaE]
  generalize (xs++[w]).map PV.int=XL at *
  generalize (n:Int)=N at *
  simp [gN,EC,fAbs,aal,aak,fIx,atI,ixN,fEq,fNe,eqN,aao,aam,aap,aan,fAdd,aai,frz,aau,e,ih]
theorem af4:∀ L:List PV,fAll [.lst (L.map fun _=>.bl true)]=some (.bl true):=fun L=>by
 have e:aeS (L.map fun _=>PV.bl true)=some (L.map fun _=>true):=by
  induction L with
  | nil=>rfl
  | cons v L ih =>
   show (match aeS (L.map fun _=>PV.bl true) with | some bs=>some (true :: bs) | none=>none)=_
   rw [ih]
   rfl
 simp only [fAll,e,Option.map_some]
 simp
theorem aky {n:Nat} (hn:n=2∨n=3) {uss:List (List Int)} (S:Sto) (hl:uss.length=n+1) (hg:∀ us∈uss,Gu n 1000 us) (h0:sgP (uss.map tv)≠0) (hc:cnr uss=uss):aa3 [.pv (.tup (uss.map tv)),.pv (.int n)] S=.ok (.pv (.bl true)) S:=by
 have gp:=gps hg
 have hl2:(uss.map tv).length=n+1:=by rw [List.length_map]; exact hl
 have ec:=ae8 S (uss.map tv) none gp
 have ea:=af4 (uss.map tv)
 obtain ⟨d,e2,hd⟩:=agV (A:=.tup (uss.map tv)) hn S hl2 gp (.inr rfl)
 have hd0:d≠0:=fun z=>h0 (by rw [← hd,z]; rfl)
 have hdb:(d == 0)=false:=by simpa using hd0
 have e3:=agD (A:=.tup (uss.map tv)) hn S hl hg (.inr rfl)
 rw [hc] at e3
 have q:eqN 8 (.tup (uss.map tv)) (.tup (uss.map tv))=some true:=afq fun v hv=>akX (m:=6) (gp v hv)
 have a3:fAdd (.int (n:Int)) (.int 1)=some (.int ((uss.map tv).length:Nat)):=by rw [fAdd,hl2]; rfl
 generalize uss.map tv=L at *
 generalize L.map (fun _=>PV.bl true)=BL at *
 unfold aa3 fnM aci
 generalize (n:Int)=N at *
 simp [EC,fAbs,aal,aak,fEq,fNe,aaT,aao,aam,aap,aan,frz,aau,fIsi,a3,aa1,mIt,abg,cmpR,ec,ea,e2,hdb,e3,q]
theorem aiX {n k:Nat} (hn:n=2∨n=3) (S:Sto) {hs:List (List (List Int))} (h:∀ uss∈hs,Sx n k uss) (hk:k≤1000):abh [.pv (.tup (hs.map px)),.pv (.int n)] S=.ok (.pv (.bl true)) S:=by
 have e:aaN [] (gN 0) (aah aa3 [] (aac (mVar 0) (aac (mVar 1) mNil))) (hs.map px) [none,some (.pv (.int n))] S=.ok (hs.map fun _=>.bl true) S:=by
  refine aez (ade S) px (fun _=>.bl true) hs none fun uss hu=>?_
  have s:=h uss hu
  have e1:=aky hn S s.len (fun us hu=>(s.gu us hu).mono hk) (by rw [aeA hn hk s.len s.gu]; exact fun z=>s.nz (acD.mp z)) s.cn
  simp [EC,fAbs,aal,aak,fIx,atI,ixN,fEq,fNe,eqN,aao,aam,aap,aan,fAdd,aai,frz,aau,e1]
 have ea:fAll [.lst (hs.map fun _=>PV.bl true)]=some (.bl true):=by
  have:=af4 (hs.map px)
  rw [List.map_map] at this
  exact this
 unfold abh fnM acN
 simp [EC,fAbs,aal,aak,fIx,atI,ixN,fEq,fNe,eqN,aao,aam,aap,aan,fAdd,aai,frz,aau,fIsi,aa1,cmpR,mIt,abg,e,ea]
theorem amY {n k m:Nat} {uss:List (List Int)} (h:∀ us∈uss,Gu n k us):eqN (m+2) (px uss) (px uss)=some true :=
 afq fun v hv=>by
  obtain ⟨us,hu,rfl⟩:=List.mem_map.mp hv
  exact akX (h us hu).gp
theorem akC {n k m:Nat} {hs:List (List (List Int))} (h:∀ uss∈hs,Sx n k uss):eqN (m+3) (.tup (hs.map px)) (.tup (hs.map px))=some true∧eqN (m+3) (.lst (hs.map px)) (.lst (hs.map px))=some true:=by
 have a:∀ v∈hs.map px,eqN (m+2) v v=some true:=fun v hv=>by
  obtain ⟨uss,hu,rfl⟩:=List.mem_map.mp hv
  exact amY (h uss hu).gu
 exact ⟨afq a,alp a⟩
abbrev li (xs:List Int):List PV:=xs.map .int
theorem agv {α β:Type} (f:α→β):∀ (R:List α) (j:Nat),(R.map f).eraseIdx j=(R.eraseIdx j).map f
 | [],j=>by simp
 | a :: R,0=>by simp
 | a :: R,j+1=>by simp [agv f R j]
theorem ix3:∀ v < 3,ixN 3 ((v:Nat):Int)=some v:=by decide
noncomputable abbrev kB1:MS:=(sSeq (abR (mVar 2) (mPop (mVar 1) (aac (aah aaq [] (aac (mVar 0) (aac (mR fLen (aac (mVar 1) mNil)) mNil))) mNil)) (mC (.int 1)))
 (aaQ (anw (mVar 3) (aac (mVar 2) mNil))))
theorem alF (ns:List Int) (hl:List PV) (R C:List Int) (L:List (List Int)) (x4 x5:Option AV) (hR0:0 < R.length) (hR3:R.length≤3) (hv:∀ v∈R,0≤v∧v < 3) (hC:C.length=3) (hL:L.length≤9) :
  ∃ (j v:Nat) (ns':List Int),j < R.length∧R[j]?=some (v:Int)∧kB1 [some (.ref 0),some (.ref 2),some (.ref 3),some (.ref 4),x4,x5] [.lst (li ns),.lst hl,.lst (li R),.lst (li C),.lol (L.map li)]
   = .nx [some (.ref 0),some (.ref 2),some (.ref 3),some (.ref 4),x4,x5] [.lst (li ns'),.lst hl,.lst (li (R.eraseIdx j)),.lst (li (C.set v 1)),.lol ((L++[C.set v 1]).map li)]:=by
 have hr:Row [.lst (li ns),.lst hl,.lst (li R),.lst (li C),.lol (L.map li)] 0 ns:=rfl
 obtain ⟨t,n1,e1,t0,t1,_⟩:=abd (m:=(R.length:Int)) hr (by omega) (sm8 (by omega) (by omega))
 simp only [List.set_cons_zero] at e1
 obtain ⟨j,rfl⟩:∃ j:Nat,t=(j:Int):=⟨t.toNat,by omega⟩
 have hj:j < R.length:=by omega
 obtain ⟨v,ev⟩:∃ v:Nat,R[j]=(v:Int):=⟨R[j].toNat,by have:=hv _ (List.getElem_mem hj); omega⟩
 have hv3:v < 3:=by have:=hv _ (List.getElem_mem hj); omega
 have hq:R[j]?=some (v:Int):=by rw [List.getElem?_eq_getElem hj,ev]
 have ep:=ano (S:=[.lst (li n1),.lst hl,.lst (li R),.lst (li C),.lol (L.map li)]) (k:=2) (j:=j) (xs:=li R) (v:=.int v) rfl (by rw [List.getElem?_map,hq]; rfl) (by omega)
 simp only [List.set_cons_succ,List.set_cons_zero] at ep
 have er:(li R).eraseIdx j=li (R.eraseIdx j):=agv _ _ _
 rw [er] at ep
 have ei:ixN (li C).length (v:Int)=some v:=by
  rw [List.length_map,hC]
  exact ix3 v hv3
 have ec:(li C).set v (.int 1)=li (C.set v 1):=by simp [li,List.map_set]
 refine ⟨j,v,n1,hj,hq,?_⟩
 have e1':aaq [.ref 0,.pv (.int ((li R).length:Int))] [.lst (li ns),.lst hl,.lst (li R),.lst (li C),.lol (L.map li)]=.ok (.pv (.int (j:Int))) [.lst (li n1),.lst hl,.lst (li R),.lst (li C),.lol (L.map li)]:=by
  rw [List.length_map]
  exact e1
 have el:(L++[C.set v 1]).map li=L.map li++[li (C.set v 1)]:=by simp
 rw [el]
 have lz:(L.map li).length < 16777216:=by rw [List.length_map]; omega
 generalize L.map li=LL at *
 generalize li (C.set v 1)=CS at *
 generalize li C=CL at *
 generalize li (R.eraseIdx j)=RE at *
 generalize li R=RL at *
 generalize (j:Int)=J at *
 generalize li ns=NL at *
 generalize li n1=NL1 at *
 unfold kB1
 simp [EC,fAbs,aal,aak,fEq,fNe,aaT,aao,aam,aap,aan,fAdd,aai,frz,aau,abR,aef,mPop,anw,appL,acM,e1',ep,ei,ec,lz]
def k6:List (List (List Int)):=[[[0,0,0],[1,0,0],[1,1,0],[1,1,1]],[[0,0,0],[1,0,0],[1,0,1],[1,1,1]],[[0,0,0],[0,1,0],[1,1,0],[1,1,1]],[[0,0,0],[0,1,0],[0,1,1],[1,1,1]],[[0,0,0],[0,0,1],[1,0,1],[1,1,1]],[[0,0,0],[0,0,1],[0,1,1],[1,1,1]]]
theorem idx3 {R:List Int} {j v:Nat} {a b c:Int} (h:R=[a,b,c]) (hj:j < R.length) (e:R[j]?=some (v:Int)):(j=0∧(v:Int)=a)∨(j=1∧(v:Int)=b)∨(j=2∧(v:Int)=c):=by
 subst h
 match j,hj,e with
 | 0,_,e=>simp at e; exact .inl ⟨rfl,e.symm⟩
 | 1,_,e=>simp at e; exact .inr (.inl ⟨rfl,e.symm⟩)
 | 2,_,e=>simp at e; exact .inr (.inr ⟨rfl,e.symm⟩)
theorem idx2 {R:List Int} {j v:Nat} {a b:Int} (h:R=[a,b]) (hj:j < R.length) (e:R[j]?=some (v:Int)):(j=0∧(v:Int)=a)∨(j=1∧(v:Int)=b):=by
 subst h
 match j,hj,e with
 | 0,_,e=>simp at e; exact .inl ⟨rfl,e.symm⟩
 | 1,_,e=>simp at e; exact .inr ⟨rfl,e.symm⟩
theorem idx1 {R:List Int} {j v:Nat} {a:Int} (h:R=[a]) (hj:j < R.length) (e:R[j]?=some (v:Int)):j=0∧(v:Int)=a:=by
 subst h
 match j,hj,e with
 | 0,_,e=>simp at e; exact ⟨rfl,e.symm⟩
theorem k3 (ns:List Int) (hl:List PV) (R C:List Int) (A:List (List Int)) (a b c:Nat) (x4 x5:Option AV) (hR:R=[(c:Int)]) (hc:c < 3) (hC:C.length=3) (hA:A.length≤9) (ks:List (List (List Int))) (hk:A++[C.set c 1]∈ks) :
  ∃ (xss:List (List Int)) (ns':List Int) (C':List Int),xss∈ks∧abN [] (gN 4) kB1 [.int 2] [some (.ref 0),some (.ref 2),some (.ref 3),some (.ref 4),x4,x5] [.lst (li ns),.lst hl,.lst (li R),.lst (li C),.lol (A.map li)]
   = .nx [some (.ref 0),some (.ref 2),some (.ref 3),some (.ref 4),some (.pv (.int 2)),x5] [.lst (li ns'),.lst hl,.lst [],.lst (li C'),.lol (xss.map li)]:=by
 obtain ⟨j,v,n1,hj,e,h⟩:=alF ns hl R C A (some (.pv (.int 2))) x5 (by rw [hR]; simp) (by rw [hR]; simp) (by rw [hR]; simp; omega) hC hA
 obtain ⟨rfl,ev⟩:=idx1 hR hj e
 have:v=c:=by omega
 subst this
 subst hR
 refine ⟨_,n1,C.set v 1,hk,?_⟩
 rw [abt]
 simp only [gN,List.set_cons_succ,List.set_cons_zero]
 rw [h]
 exact acm
theorem k2 (ns:List Int) (hl:List PV) (R C:List Int) (A:List (List Int)) (b c:Nat) (x4 x5:Option AV) (hR:R=[(b:Int),(c:Int)]) (hb:b < 3) (hc:c < 3) (hC:C.length=3) (hA:A.length≤8) (ks:List (List (List Int))) (h1:A++[C.set b 1]++[(C.set b 1).set c 1]∈ks) (h2:A++[C.set c 1]++[(C.set c 1).set b 1]∈ks) :
  ∃ (xss:List (List Int)) (ns':List Int) (C':List Int),xss∈ks∧abN [] (gN 4) kB1 [.int 1,.int 2] [some (.ref 0),some (.ref 2),some (.ref 3),some (.ref 4),x4,x5] [.lst (li ns),.lst hl,.lst (li R),.lst (li C),.lol (A.map li)]
   = .nx [some (.ref 0),some (.ref 2),some (.ref 3),some (.ref 4),some (.pv (.int 2)),x5] [.lst (li ns'),.lst hl,.lst [],.lst (li C'),.lol (xss.map li)]:=by
 obtain ⟨j,v,n1,hj,e,h⟩:=alF ns hl R C A (some (.pv (.int 1))) x5 (by rw [hR]; simp) (by rw [hR]; simp) (by rw [hR]; simp; omega) hC (by omega)
 rw [abt]
 simp only [gN,List.set_cons_succ,List.set_cons_zero]
 rw [h]
 rcases idx2 hR hj e with ⟨rfl,ev⟩ | ⟨rfl,ev⟩
 ·have:v=b:=by omega
  subst this
  subst hR
  exact k3 n1 hl _ (C.set v 1) _ 0 0 c _ x5 rfl hc (by rw [List.length_set]; exact hC) (by simp; omega) ks h1
 ·have:v=c:=by omega
  subst this
  subst hR
  exact k3 n1 hl _ (C.set v 1) _ 0 0 b _ x5 rfl hb (by rw [List.length_set]; exact hC) (by simp; omega) ks h2
theorem k1 (ns:List Int) (hl:List PV) (x4 x5:Option AV) :
  ∃ (xss:List (List Int)) (ns':List Int) (C':List Int),xss∈k6∧abN [] (gN 4) kB1 [.int 0,.int 1,.int 2] [some (.ref 0),some (.ref 2),some (.ref 3),some (.ref 4),x4,x5] [.lst (li ns),.lst hl,.lst (li [0,1,2]),.lst (li [0,0,0]),.lol ([[0,0,0]].map li)]
   = .nx [some (.ref 0),some (.ref 2),some (.ref 3),some (.ref 4),some (.pv (.int 2)),x5] [.lst (li ns'),.lst hl,.lst [],.lst (li C'),.lol (xss.map li)]:=by
 obtain ⟨j,v,n1,hj,e,h⟩:=alF ns hl [0,1,2] [0,0,0] [[0,0,0]] (some (.pv (.int 0))) x5 (by decide) (by decide) (by decide) rfl (by decide)
 rw [abt]
 simp only [gN,List.set_cons_succ,List.set_cons_zero]
 rw [h]
 rcases idx3 rfl hj e with ⟨rfl,ev⟩ | ⟨rfl,ev⟩ | ⟨rfl,ev⟩
 ·have:v=0:=by omega
  subst this
  exact k2 n1 hl _ [1,0,0] _ 1 2 _ x5 rfl (by decide) (by decide) rfl (by decide) k6 (by decide) (by decide)
 ·have:v=1:=by omega
  subst this
  exact k2 n1 hl _ [0,1,0] _ 0 2 _ x5 rfl (by decide) (by decide) rfl (by decide) k6 (by decide) (by decide)
 ·have:v=2:=by omega
  subst this
  exact k2 n1 hl _ [0,0,1] _ 0 1 _ x5 rfl (by decide) (by decide) rfl (by decide) k6 (by decide) (by decide)
theorem rgn (S:Sto) {n:Nat} (h:n≤9):rng1 [.pv (.int (n:Int))] S=.ok (ab0 0 n,[]) S:=by
 have e:rng1 [.pv (.int (n:Int))] S=@ite _ ((n:Int)≤16777216∧-16777216≤(n:Int)) (Classical.propDecidable _) (.ok (ab0 0 (n:Int).toNat,[]) S) .fail:=rfl
 rw [e,if_pos ⟨by omega,by omega⟩,Int.toNat_natCast]
theorem ajm {n k:Nat} {L:List Int} {b:Int} (hb:0 < b) (hl:L.length=n) (hL:∀ x∈L,Bd k x) (bb:Bd k b):∃ (zs:List Int) (z:Int),low (L++[b])=zs++[z]∧Pq n k zs z∧∀ j,j < n→zs.getD j 0*b=L.getD j 0*z:=by
 obtain ⟨zs,z,g,e,hg,hz,g1,g2,hzl⟩:=ahb L hb
 have hlow:=agH L hb
 have hbd:=aiy (k:=k) (ns:=L++[b]) fun m hm=>by
  rcases List.mem_append.mp hm with y | y
  ·exact hL m y
  ·have:m=b:=by simpa using y
   rw [this]; exact bb
 rw [e] at hlow hbd
 refine ⟨zs,z,e,⟨hzl.trans hl,hz,hlow,fun x hx=>hbd x (List.mem_append_left _ hx),hbd z (ab5 zs z)⟩,fun j hj=>?_⟩
 have hj':j < zs.length:=by omega
 have e1:L.getD j 0=g*zs.getD j 0:=by
  rw [g1]
  simp [List.getD,hj']
 rw [e1,g2]
 grind
theorem p9:fPow (.int 10) (.int 9)=some (.int 1000000000):=afM (i:=10) (j:=9) ⟨by decide,by decide,by decide⟩
theorem p6:fPow (.int 10) (.int 6)=some (.int 1000000):=afM (i:=10) (j:=6) ⟨by decide,by decide,by decide⟩
theorem sh3 {v:Int} (h0:0≤v) (h1:v < 3):∃ M N:Int,fIx (.lst [.int 1,.int 3,.int 1000000000]) (.int v)=some (.int M)∧fIx (.lst [.int 1,.int 4,.int 1000000]) (.int v)=some (.int N)∧0 < M∧M≤1000000000∧0 < N∧N≤1000000:=by
 have:v=0∨v=1∨v=2:=by omega
 rcases this with rfl | rfl | rfl
 ·exact ⟨1,1,rfl,rfl,by decide,by decide,by decide,by decide⟩
 ·exact ⟨3,4,rfl,rfl,by decide,by decide,by decide,by decide⟩
 ·exact ⟨1000000000,1000000,rfl,rfl,by decide,by decide,by decide,by decide⟩
theorem ajR {u:PV} (h:eqN 8 u u=some true):fEq u u=some (.bl true):=by
 unfold fEq
 rw [h]
 rfl
abbrev tx (L:List Nat):Str:=⟨L.toArray⟩
def Asc (n:Nat) (T:Str):Prop:=∃ L,T=tx L∧(∀ c∈L,c < 128)∧L.length≤n
theorem Asc.mono {n k:Nat} {T:Str} (h:Asc n T) (l:n≤k):Asc k T:=by
 obtain ⟨L,e,a,b⟩:=h
 exact ⟨L,e,a,by omega⟩
theorem amQ {n k l:Nat} {us f:List Int} (S:Sto) (hn:n=2∨n=3) (h:Gu n k us) (g:Gu n l f) (hk:k≤1000) (hl:l≤1000):act [.pv (tv us),.pv (tv f)] S=.ok (.pv (tv (mvU 1 f us))) S:=by
 obtain ⟨xs,w,rfl,P⟩:=h
 obtain ⟨ys,v,rfl,Q⟩:=g
 rw [ajx]
 have e2:mv 1 xs w ys v=low (sm xs w ys v++[w*v]):=if_pos rfl
 rw [e2]
 have l1:=P.len
 have l2:=Q.len
 exact akj S (by omega) (by omega) P.pos Q.pos (fun x hx=>(P.bx x hx).mono (by omega)) (fun x hx=>(Q.bx x hx).mono (by omega)) (P.bw.mono (by omega)) (Q.bw.mono (by omega))
theorem amR (ns:List Int):∃ (top ns':List Int),abC [.ref 0,.pv (.int 3)] [.lst (li ns)]=.ok (.pv (tv top)) [.lst (li ns')]∧Gu 3 60 top:=by
 have hr:∀ ms,Row [.lst (li ms)] 0 ms:=fun _=>rfl
 have hr2:∀ ms L,Row [.lst (li ms),.lst L] 0 ms:=fun _ _=>rfl
 obtain ⟨c,n1,e1,c0,c1,_⟩:=abd (m:=3) (hr ns) (by decide) (sm8 (by decide) (by decide))
 obtain ⟨M,_,em,_,M0,M1,_,_⟩:=sh3 c0 c1
 obtain ⟨d,n2,e2,d0,d1,_⟩:=abd (m:=3) (hr n1) (by decide) (sm8 (by decide) (by decide))
 obtain ⟨_,N,_,en,_,_,N0,N1⟩:=sh3 d0 d1
 have bM:Bd 8000 M:=(Bd.of (k:=30) (n:=1000000000) (by omega) (by decide)).mono (by decide)
 have bN:Bd 8000 N:=(Bd.of (k:=30) (n:=1000000000) (by omega) (by decide)).mono (by decide)
 obtain ⟨t,n3,e3,t0,t1,_⟩:=abd (m:=N) (hr n2) N0 bN
 obtain ⟨xs,n4,e4,l4,b4⟩:=ad2 (W:=M) (by omega) (by omega) (ab0 0 3) _ n3 none (hr n3)
 have l3:xs.length=3:=by rw [l4]; rfl
 match xs,l3,b4,e4 with
 | [x,y,z],_,b4,e4 =>
  obtain ⟨p,n5,e5,p0,p1,_⟩:=abd (m:=M) (hr2 n4 [.int x,.int y,.int z]) M0 bM
  obtain ⟨q,n6,e6,q0,q1,_⟩:=abd (m:=2) (hr2 n5 [.int x,.int y,.int z]) (by decide) (sm8 (by decide) (by decide))
  obtain ⟨s,n7,e7,s0,s1,_⟩:=abd (m:=8) (hr2 n6 [.int x,.int y,.int ((1+p)*(1 - 2*q))]) (by decide) (sm8 (by decide) (by decide))
  simp only [List.set_cons_zero] at e1 e2 e3 e4 e5 e6 e7
  have mq:fMul (.int 2) (.int q)=some (.int (2*q)):=ack (.inl (.inl ⟨by decide,by decide⟩))
  have mp:fMul (.int (1+p)) (.int (1 - 2*q))=some (.int ((1+p)*(1 - 2*q))):=ack (.inl (.inl ⟨by omega,by omega⟩))
  have rg:=rgn [.lst (li n3)] (n:=3) (by decide)
  rw [show ((3:Nat):Int)=3 from rfl] at rg
  have bx:Bd 60 x:=(b4 x (by simp)).mono (by decide)
  have by':Bd 60 y:=(b4 y (by simp)).mono (by decide)
  have bv:Bd 60 ((1+p)*(1 - 2*q)):=by
   have hq:1 - 2*q=1∨1 - 2*q=-1:=by omega
   have b0:Bd 60 (1+p):=(Bd.of (k:=31) (n:=1000000001) (by omega) (by decide)).mono (by decide)
   rcases hq with e | e <;> rw [e]
   ·rw [Int.mul_one]; exact b0
   ·rw [Int.mul_neg,Int.mul_one]; exact b0.neg
  have bt:Bd 60 (1+t):=(Bd.of (k:=30) (n:=1000000000) (by omega) (by decide)).mono (by decide)
  have b00:Bd 60 (0:Int):=by unfold Bd; exact Nat.two_pow_pos 60
  have fin:∀ (v:Int),Bd 60 v→∃ top,Gu 3 60 top∧∀ S,aaK [.pv (.lst [.int x,.int y,.int v,.int (1+t)])] S=.ok (.pv (tv top)) S:=fun v hv=>by
   have bL:∀ u∈[x,y,v],Bd 60 u:=by
    simp
    exact ⟨bx,by',hv⟩
   obtain ⟨zs,w,el,Z,_⟩:=ajm (n:=3) (L:=[x,y,v]) (b:=1+t) (by omega) rfl bL bt
   refine ⟨zs++[w],⟨zs,w,rfl,Z⟩,fun S=>?_⟩
   have ew:=adw ([x,y,v]++[1+t]) S (by
    intro u hu
    rcases List.mem_append.mp hu with a | a
    ·exact (bL u a).mono (by decide)
    ·have:u=1+t:=by simpa using a
     rw [this]; exact bt.mono (by decide))
   rw [el] at ew
   exact ew
  have e1:aaq [.ref 0,.pv (.int 3)] [.lst (li ns)]=.ok (.pv (.int c)) [.lst (li n1)]:=e1
  have e2:aaq [.ref 0,.pv (.int 3)] [.lst (li n1)]=.ok (.pv (.int d)) [.lst (li n2)]:=e2
  have e3:aaq [.ref 0,.pv (.int N)] [.lst (li n2)]=.ok (.pv (.int t)) [.lst (li n3)]:=e3
  have e5:aaq [.ref 0,.pv (.int M)] [.lst (li n4),.lst [.int x,.int y,.int z]]=.ok (.pv (.int p)) [.lst (li n5),.lst [.int x,.int y,.int z]]:=e5
  have e6:aaq [.ref 0,.pv (.int 2)] [.lst (li n5),.lst [.int x,.int y,.int z]]=.ok (.pv (.int q)) [.lst (li n6),.lst [.int x,.int y,.int z]]:=e6
  have i3:ixN 3 (-1)=some 2:=rfl
  generalize (1+p)*(1 - 2*q)=V at *
  have e7:aaq [.ref 0,.pv (.int 8)] [.lst (li n6),.lst [.int x,.int y,.int V]]=.ok (.pv (.int s)) [.lst (li n7),.lst [.int x,.int y,.int V]]:=e7
  have e4:aaN [] (gN 0) (mBin fSub (aah aaq [] (aac (mVar 2) (aac (mBin fAdd (mBin fMul (mC (.int 2)) (mVar 1)) (mC (.int 1))) mNil))) (mVar 1)) (ab0 0 3) [none,some (.pv (.int M)),some (.ref 0)] [.lst (li n3)]=.ok [.int x,.int y,.int z] [.lst (li n4)]:=e4
  generalize hme:(mBin fSub (aah aaq [] (aac (mVar 2) (aac (mBin fAdd (mBin fMul (mC (.int 2)) (mVar 1)) (mC (.int 1))) mNil))) (mVar 1))=ME1 at e4
  have hb:ad3=(sSeq (sSet 2 (mBin fIx (mN fLst (aac (mC (.int 1)) (aac (mC (.int 3)) (aac (mBin fPow (mC (.int 10)) (mC (.int 9))) mNil)))) (aah aaq [] (aac (mVar 0) (aac (mC (.int 3)) mNil)))))
 (sSeq (sSet 3 (mBin fIx (mN fLst (aac (mC (.int 1)) (aac (mC (.int 4)) (aac (mBin fPow (mC (.int 10)) (mC (.int 6))) mNil)))) (aah aaq [] (aac (mVar 0) (aac (mC (.int 3)) mNil)))))
 (sSeq (sSet 3 (mBin fAdd (mC (.int 1)) (aah aaq [] (aac (mVar 0) (aac (mVar 3) mNil)))))
 (sSeq (sSet 4 (ac0 ["_law_k"] [(2,"_law_wide"),(0,"_law_row_here")] (abe (aac (mVar 1) mNil)) (gN 0) ME1))
 (sSeq (abR (mVar 4) (mUn fNeg (mC (.int 1))) (mBin fMul (mBin fAdd (mC (.int 1)) (aah aaq [] (aac (mVar 0) (aac (mVar 2) mNil)))) (mBin fSub (mC (.int 1)) (mBin fMul (mC (.int 2)) (aah aaq [] (aac (mVar 0) (aac (mC (.int 2)) mNil)))))))
 (sSeq (sIf (mTst (mBin fEq (aah aaq [] (aac (mVar 0) (aac (mC (.int 8)) mNil))) (mC (.int 7)))) (abR (mVar 4) (mUn fNeg (mC (.int 1))) (mC (.int 0))) sNil)
 (sRet (aah aaK [] (aac (mBin fAdd (mVar 4) (mN fLst (aac (mVar 3) mNil))) mNil))))))))):=by rw [← hme]; rfl
  generalize ab0 0 3=IP at *
  by_cases h7:s=7
  ·obtain ⟨top,G,el⟩:=fin 0 b00
   refine ⟨top,n7,?_,G⟩
   subst h7
   have el:=el [.lst (li n7),.lst [.int x,.int y,.int 0]]
   generalize tv top=T at *
   unfold abC fnM
   rw [hb]
   simp [EC,fAbs,aal,aak,fEq,fNe,aaT,aao,aam,aap,aan,fAdd,aai,frz,aau,p9,p6,e1,em,e2,en,e3,ac0,cmpR,abe,rg,e4,abR,aef,acM,e5,e6,e7,mq,mp,i3,el]
  ·obtain ⟨top,G,el⟩:=fin V bv
   refine ⟨top,n7,?_,G⟩
   have el:=el [.lst (li n7),.lst [.int x,.int y,.int V]]
   generalize tv top=T at *
   unfold abC fnM
   rw [hb]
   simp [EC,fAbs,aal,aak,fEq,fNe,aaT,aao,aam,aap,aan,fAdd,aai,frz,aau,p9,p6,e1,em,e2,en,e3,ac0,cmpR,abe,rg,e4,abR,aef,acM,e5,e6,e7,mq,mp,i3,h7,el]
theorem am3 (ns:List Int):∃ (top ns':List Int),abC [.ref 0,.pv (.int 2)] [.lst (li ns)]=.ok (.pv (tv top)) [.lst (li ns')]∧Gu 2 60 top:=by
 have hr:∀ ms,Row [.lst (li ms)] 0 ms:=fun _=>rfl
 have hr2:∀ ms L,Row [.lst (li ms),.lst L] 0 ms:=fun _ _=>rfl
 obtain ⟨c,n1,e1,c0,c1,_⟩:=abd (m:=3) (hr ns) (by decide) (sm8 (by decide) (by decide))
 obtain ⟨M,_,em,_,M0,M1,_,_⟩:=sh3 c0 c1
 obtain ⟨d,n2,e2,d0,d1,_⟩:=abd (m:=3) (hr n1) (by decide) (sm8 (by decide) (by decide))
 obtain ⟨_,N,_,en,_,_,N0,N1⟩:=sh3 d0 d1
 have bM:Bd 8000 M:=(Bd.of (k:=30) (n:=1000000000) (by omega) (by decide)).mono (by decide)
 have bN:Bd 8000 N:=(Bd.of (k:=30) (n:=1000000000) (by omega) (by decide)).mono (by decide)
 obtain ⟨t,n3,e3,t0,t1,_⟩:=abd (m:=N) (hr n2) N0 bN
 obtain ⟨xs,n4,e4,l4,b4⟩:=ad2 (W:=M) (by omega) (by omega) (ab0 0 2) _ n3 none (hr n3)
 have l3:xs.length=2:=by rw [l4]; rfl
 match xs,l3,b4,e4 with
 | [x,z],_,b4,e4 =>
  obtain ⟨p,n5,e5,p0,p1,_⟩:=abd (m:=M) (hr2 n4 [.int x,.int z]) M0 bM
  obtain ⟨q,n6,e6,q0,q1,_⟩:=abd (m:=2) (hr2 n5 [.int x,.int z]) (by decide) (sm8 (by decide) (by decide))
  obtain ⟨s,n7,e7,s0,s1,_⟩:=abd (m:=8) (hr2 n6 [.int x,.int ((1+p)*(1 - 2*q))]) (by decide) (sm8 (by decide) (by decide))
  simp only [List.set_cons_zero] at e1 e2 e3 e4 e5 e6 e7
  have mq:fMul (.int 2) (.int q)=some (.int (2*q)):=ack (.inl (.inl ⟨by decide,by decide⟩))
  have mp:fMul (.int (1+p)) (.int (1 - 2*q))=some (.int ((1+p)*(1 - 2*q))):=ack (.inl (.inl ⟨by omega,by omega⟩))
  have rg:=rgn [.lst (li n3)] (n:=2) (by decide)
  rw [show ((2:Nat):Int)=2 from rfl] at rg
  have bx:Bd 60 x:=(b4 x (by simp)).mono (by decide)
  have bv:Bd 60 ((1+p)*(1 - 2*q)):=by
   have hq:1 - 2*q=1∨1 - 2*q=-1:=by omega
   have b0:Bd 60 (1+p):=(Bd.of (k:=31) (n:=1000000001) (by omega) (by decide)).mono (by decide)
   rcases hq with e | e <;> rw [e]
   ·rw [Int.mul_one]; exact b0
   ·rw [Int.mul_neg,Int.mul_one]; exact b0.neg
  have bt:Bd 60 (1+t):=(Bd.of (k:=30) (n:=1000000000) (by omega) (by decide)).mono (by decide)
  have b00:Bd 60 (0:Int):=by unfold Bd; exact Nat.two_pow_pos 60
  have fin:∀ (v:Int),Bd 60 v→∃ top,Gu 2 60 top∧∀ S,aaK [.pv (.lst [.int x,.int v,.int (1+t)])] S=.ok (.pv (tv top)) S:=fun v hv=>by
   have bL:∀ u∈[x,v],Bd 60 u:=by
    simp
    exact ⟨bx,hv⟩
   obtain ⟨zs,w,el,Z,_⟩:=ajm (n:=2) (L:=[x,v]) (b:=1+t) (by omega) rfl bL bt
   refine ⟨zs++[w],⟨zs,w,rfl,Z⟩,fun S=>?_⟩
   have ew:=adw ([x,v]++[1+t]) S (by
    intro u hu
    rcases List.mem_append.mp hu with a | a
    ·exact (bL u a).mono (by decide)
    ·have:u=1+t:=by simpa using a
     rw [this]; exact bt.mono (by decide))
   rw [el] at ew
   exact ew
  have e1:aaq [.ref 0,.pv (.int 3)] [.lst (li ns)]=.ok (.pv (.int c)) [.lst (li n1)]:=e1
  have e2:aaq [.ref 0,.pv (.int 3)] [.lst (li n1)]=.ok (.pv (.int d)) [.lst (li n2)]:=e2
  have e3:aaq [.ref 0,.pv (.int N)] [.lst (li n2)]=.ok (.pv (.int t)) [.lst (li n3)]:=e3
  have e5:aaq [.ref 0,.pv (.int M)] [.lst (li n4),.lst [.int x,.int z]]=.ok (.pv (.int p)) [.lst (li n5),.lst [.int x,.int z]]:=e5
  have e6:aaq [.ref 0,.pv (.int 2)] [.lst (li n5),.lst [.int x,.int z]]=.ok (.pv (.int q)) [.lst (li n6),.lst [.int x,.int z]]:=e6
  have i3:ixN 2 (-1)=some 1:=rfl
  generalize (1+p)*(1 - 2*q)=V at *
  have e7:aaq [.ref 0,.pv (.int 8)] [.lst (li n6),.lst [.int x,.int V]]=.ok (.pv (.int s)) [.lst (li n7),.lst [.int x,.int V]]:=e7
  have e4:aaN [] (gN 0) (mBin fSub (aah aaq [] (aac (mVar 2) (aac (mBin fAdd (mBin fMul (mC (.int 2)) (mVar 1)) (mC (.int 1))) mNil))) (mVar 1)) (ab0 0 2) [none,some (.pv (.int M)),some (.ref 0)] [.lst (li n3)]=.ok [.int x,.int z] [.lst (li n4)]:=e4
  generalize hme:(mBin fSub (aah aaq [] (aac (mVar 2) (aac (mBin fAdd (mBin fMul (mC (.int 2)) (mVar 1)) (mC (.int 1))) mNil))) (mVar 1))=ME1 at e4
  have hb:ad3=(sSeq (sSet 2 (mBin fIx (mN fLst (aac (mC (.int 1)) (aac (mC (.int 3)) (aac (mBin fPow (mC (.int 10)) (mC (.int 9))) mNil)))) (aah aaq [] (aac (mVar 0) (aac (mC (.int 3)) mNil)))))
 (sSeq (sSet 3 (mBin fIx (mN fLst (aac (mC (.int 1)) (aac (mC (.int 4)) (aac (mBin fPow (mC (.int 10)) (mC (.int 6))) mNil)))) (aah aaq [] (aac (mVar 0) (aac (mC (.int 3)) mNil)))))
 (sSeq (sSet 3 (mBin fAdd (mC (.int 1)) (aah aaq [] (aac (mVar 0) (aac (mVar 3) mNil)))))
 (sSeq (sSet 4 (ac0 ["_law_k"] [(2,"_law_wide"),(0,"_law_row_here")] (abe (aac (mVar 1) mNil)) (gN 0) ME1))
 (sSeq (abR (mVar 4) (mUn fNeg (mC (.int 1))) (mBin fMul (mBin fAdd (mC (.int 1)) (aah aaq [] (aac (mVar 0) (aac (mVar 2) mNil)))) (mBin fSub (mC (.int 1)) (mBin fMul (mC (.int 2)) (aah aaq [] (aac (mVar 0) (aac (mC (.int 2)) mNil)))))))
 (sSeq (sIf (mTst (mBin fEq (aah aaq [] (aac (mVar 0) (aac (mC (.int 8)) mNil))) (mC (.int 7)))) (abR (mVar 4) (mUn fNeg (mC (.int 1))) (mC (.int 0))) sNil)
 (sRet (aah aaK [] (aac (mBin fAdd (mVar 4) (mN fLst (aac (mVar 3) mNil))) mNil))))))))):=by rw [← hme]; rfl
  generalize ab0 0 2=IP at *
  by_cases h7:s=7
  ·obtain ⟨top,G,el⟩:=fin 0 b00
   refine ⟨top,n7,?_,G⟩
   subst h7
   have el:=el [.lst (li n7),.lst [.int x,.int 0]]
   generalize tv top=T at *
   unfold abC fnM
   rw [hb]
   simp [EC,fAbs,aal,aak,fEq,fNe,aaT,aao,aam,aap,aan,fAdd,aai,frz,aau,p9,p6,e1,em,e2,en,e3,ac0,cmpR,abe,rg,e4,abR,aef,acM,e5,e6,e7,mq,mp,i3,el]
  ·obtain ⟨top,G,el⟩:=fin V bv
   refine ⟨top,n7,?_,G⟩
   have el:=el [.lst (li n7),.lst [.int x,.int V]]
   generalize tv top=T at *
   unfold abC fnM
   rw [hb]
   simp [EC,fAbs,aal,aak,fEq,fNe,aaT,aao,aam,aap,aan,fAdd,aai,frz,aau,p9,p6,e1,em,e2,en,e3,ac0,cmpR,abe,rg,e4,abR,aef,acM,e5,e6,e7,mq,mp,i3,h7,el]
theorem acp {x1 w1 X W x2 w2 a e:Int} (h1:x1*W=X*w1) (h2:x2*(e*w1)=(e*x1+a*w1)*w2) (hw:0 < w1):x2*(e*W)=(e*X+a*W)*w2:=by
 refine Int.eq_of_mul_eq_mul_left (Int.ne_of_gt hw) ?_
 grind
def path:List Int→List (List Int)→List (List Int)
 | us,[]=>[us]
 | us,f :: fs=>us :: path (mvU 1 f us) fs
theorem acA:∀ (us:List Int) (fs:List (List Int)),(path us fs).length=fs.length+1
 | us,[]=>rfl
 | us,f :: fs=>by rw [path,List.length_cons,acA]; rfl
theorem adI {n l:Nat}:∀ (fs:List (List Int)) (us:List Int) (k:Nat),Gu n k us→(∀ f∈fs,Gu n l f)→∀ vs∈path us fs,Gu n (k+(l+1)*fs.length) vs
 | [],us,k,h,_,vs,hv=>by
  have:vs=us:=by simpa [path] using hv
  rw [this]; exact h
 | f :: fs,us,k,h,hf,vs,hv=>by
  rw [path] at hv
  rcases List.mem_cons.mp hv with rfl | hv
  ·exact h.mono (by omega)
  ·have:=adI fs _ _ (adW (way:=1) (.inl rfl) h (hf f List.mem_cons_self)).1 (fun g hg=>hf g (List.mem_cons_of_mem _ hg)) vs hv
   refine this.mono ?_
   rw [List.length_cons,Nat.mul_succ]
   omega
theorem mv2 {k l:Nat} {x y w a b e:Int} (h:Gu 2 k [x,y,w]) (g:Gu 2 l [a,b,e]):∃ p q t,mvU 1 [a,b,e] [x,y,w]=[p,q,t]∧0 < t∧p*(e*w)=(e*x+a*w)*t∧q*(e*w)=(e*y+b*w)*t:=by
 obtain ⟨xs,v,xs',t,e1,e2,l1,l2,_,p2,h⟩:=(adW (way:=1) (.inl rfl) h g).2
 match xs,l1,xs',l2,h,e1,e2 with
 | [x1,y1],_,[p,q],_,h,e1,e2 =>
  have e1:[x,y,w]=[x1,y1,v]:=e1
  cases e1
  have h0:=h 0 (by decide)
  have h1:=h 1 (by decide)
  simp only [List.getD_cons_zero,List.getD_cons_succ,Int.one_mul] at h0 h1
  have ge:[a,b,e].getLastD 0=e:=rfl
  rw [ge] at h0 h1
  exact ⟨p,q,t,e2,p2,h0,h1⟩
theorem mv3 {k l:Nat} {x y z w a b c e:Int} (h:Gu 3 k [x,y,z,w]) (g:Gu 3 l [a,b,c,e]):∃ p q r t,mvU 1 [a,b,c,e] [x,y,z,w]=[p,q,r,t]∧0 < t∧p*(e*w)=(e*x+a*w)*t∧q*(e*w)=(e*y+b*w)*t∧r*(e*w)=(e*z+c*w)*t:=by
 obtain ⟨xs,v,xs',t,e1,e2,l1,l2,_,p2,h⟩:=(adW (way:=1) (.inl rfl) h g).2
 match xs,l1,xs',l2,h,e1,e2 with
 | [x1,y1,z1],_,[p,q,r],_,h,e1,e2 =>
  have e1:[x,y,z,w]=[x1,y1,z1,v]:=e1
  cases e1
  have h0:=h 0 (by decide)
  have h1:=h 1 (by decide)
  have h2:=h 2 (by decide)
  simp only [List.getD_cons_zero,List.getD_cons_succ,Int.one_mul] at h0 h1 h2
  have ge:[a,b,c,e].getLastD 0=e:=rfl
  rw [ge] at h0 h1 h2
  exact ⟨p,q,r,t,e2,p2,h0,h1,h2⟩
theorem alv (x y w a b e a' b' e':Int):D2 x y w (e*x+a*w) (e*y+b*w) (e*w) (e'*(e*x+a*w)+a'*(e*w)) (e'*(e*y+b*w)+b'*(e*w)) (e'*(e*w))=w*w*w*e*(a*b' - b*a'):=by
 unfold D2
 grind
theorem alz (x y z w a b c e a' b' c' e' a'' b'' c'' e'':Int):D3 x y z w (e*x+a*w) (e*y+b*w) (e*z+c*w) (e*w) (e'*(e*x+a*w)+a'*(e*w)) (e'*(e*y+b*w)+b'*(e*w)) (e'*(e*z+c*w)+c'*(e*w)) (e'*(e*w))
  (e''*(e'*(e*x+a*w)+a'*(e*w))+a''*(e'*(e*w))) (e''*(e'*(e*y+b*w)+b'*(e*w))+b''*(e'*(e*w))) (e''*(e'*(e*z+c*w)+c'*(e*w))+c''*(e'*(e*w))) (e''*(e'*(e*w)))=w*w*w*w*e*e*e'*((b*c' - c*b')*a''+(c*a' - a*c')*b''+(a*b' - b*a')*c''):=by
 unfold D3
 grind
def dt2:List (List Int)→Int
 | [[a,b,_],[a',b',_]]=>a*b' - b*a'
 | [[a,b,c,_],[a',b',c',_],[a'',b'',c'',_]]=>(b*c' - c*b')*a''+(c*a' - a*c')*b''+(a*b' - b*a')*c''
 | _=>0
theorem als {k l:Nat} {c f g:List Int} (hk:k+(l+1)*2≤1000) (h:Gu 2 k c) (hf:Gu 2 l f) (hg:Gu 2 l g):sgP ((path c [f,g]).map tv)=sg (dt2 [f,g]):=by
 have ga:=adI [f,g] c k h (l:=l) fun u hu=>by
  have:u=f∨u=g:=by simpa using hu
  rcases this with rfl | rfl
  ·exact hf
  ·exact hg
 have gb:=fun us hu=>(ga us hu).mono (by simpa using hk)
 rw [aeA (.inl rfl) (Nat.le_refl 1000) (acA _ _) gb]
 have h1:=(adW (way:=1) (.inl rfl) h hf).1
 obtain ⟨x,y,w,rfl,w0,_⟩:=h.two'
 obtain ⟨a,b,e,rfl,e0,_⟩:=hf.two'
 obtain ⟨a',b',e',rfl,e0',_⟩:=hg.two'
 obtain ⟨p,q,t,m1,t0,i1,j1⟩:=mv2 h hf
 rw [m1] at h1
 obtain ⟨p',q',t',m2,t0',i2,j2⟩:=mv2 h1 hg
 have ep:path [x,y,w] [[a,b,e],[a',b',e']]=[[x,y,w],[p,q,t],[p',q',t']]:=by
  rw [path,path,path,m1,m2]
 rw [ep]
 show sg (D2 x y w p q t p' q' t')=sg (a*b' - b*a')
 rw [sgD2 (R2.self w0) ⟨t0,Int.mul_pos e0 w0,i1,j1⟩ ⟨t0',Int.mul_pos e0' (Int.mul_pos e0 w0),acp i1 i2 t0,acp j1 j2 t0⟩,alv]
 exact ac7 (Int.mul_pos (Int.mul_pos (Int.mul_pos w0 w0) w0) e0)
theorem agC {k l:Nat} {c f g r:List Int} (hk:k+(l+1)*3≤1000) (h:Gu 3 k c) (hf:Gu 3 l f) (hg:Gu 3 l g) (hr:Gu 3 l r):sgP ((path c [f,g,r]).map tv)=sg (dt2 [f,g,r]):=by
 have ga:=adI [f,g,r] c k h (l:=l) fun u hu=>by
  have:u=f∨u=g∨u=r:=by simpa using hu
  rcases this with rfl | rfl | rfl
  ·exact hf
  ·exact hg
  ·exact hr
 have gb:=fun us hu=>(ga us hu).mono (by simpa using hk)
 rw [aeA (.inr rfl) (Nat.le_refl 1000) (acA _ _) gb]
 have h1:=(adW (way:=1) (.inl rfl) h hf).1
 have h2:=(adW (way:=1) (.inl rfl) h1 hg).1
 obtain ⟨x,y,z,w,rfl,w0,_⟩:=h.three'
 obtain ⟨a,b,d,e,rfl,e0,_⟩:=hf.three'
 obtain ⟨a',b',d',e',rfl,e0',_⟩:=hg.three'
 obtain ⟨a'',b'',d'',e'',rfl,e0'',_⟩:=hr.three'
 obtain ⟨p,q,s,t,m1,t0,i1,j1,k1⟩:=mv3 h hf
 rw [m1] at h1 h2
 obtain ⟨p',q',s',t',m2,t0',i2,j2,k2⟩:=mv3 h1 hg
 rw [m2] at h2
 obtain ⟨p'',q'',s'',t'',m3,t0'',i3,j3,k3⟩:=mv3 h2 hr
 have ep:path [x,y,z,w] [[a,b,d,e],[a',b',d',e'],[a'',b'',d'',e'']]=[[x,y,z,w],[p,q,s,t],[p',q',s',t'],[p'',q'',s'',t'']]:=by
  rw [path,path,path,path,m1,m2,m3]
 rw [ep]
 have r2:=acp i1 i2 t0
 have s2:=acp j1 j2 t0
 have u2:=acp k1 k2 t0
 show sg (D3 x y z w p q s t p' q' s' t' p'' q'' s'' t'')=sg ((b*d' - d*b')*a''+(d*a' - a*d')*b''+(a*b' - b*a')*d'')
 rw [sgD3 (R3.self w0) ⟨t0,Int.mul_pos e0 w0,i1,j1,k1⟩ ⟨t0',Int.mul_pos e0' (Int.mul_pos e0 w0),r2,s2,u2⟩ ⟨t0'',Int.mul_pos e0'' (Int.mul_pos e0' (Int.mul_pos e0 w0)),acp r2 i3 t0',acp s2 j3 t0',acp u2 k3 t0'⟩,alz]
 exact ac7 (Int.mul_pos (Int.mul_pos (Int.mul_pos (Int.mul_pos (Int.mul_pos (Int.mul_pos w0 w0) w0) w0) e0) e0) e0')
theorem agN {n k l:Nat} {way:Int} {us f:List Int} (S:Sto) (hn:n=2∨n=3) (hway:Bd 2 way) (h:Gu n k us) (g:Gu n l f) (hk:k≤900) (hl:l≤900):∃ t,aaR [.pv (tv us),.pv (tv f),.pv (.int way)] S=.ok (.pv (tv t)) S∧Gu n (k+l+3) t:=by
 obtain ⟨xs,w,rfl,P⟩:=h
 obtain ⟨ys,v,rfl,Q⟩:=g
 have e:=aff (way:=way) S (P.len.trans Q.len.symm) (by rw [P.len]; omega) hway (fun x hx=>(P.bx x hx).mono (by omega)) (fun x hx=>(Q.bx x hx).mono (by omega)) (P.bw.mono (by omega)) (Q.bw.mono (by omega))
 obtain ⟨zs,z,el,Z,_⟩:=ajm (n:=n) (k:=k+l+3) (L:=List.zipWith (fun x y=>way*x*v+y*w) xs ys) (b:=w*v) (Int.mul_pos P.pos Q.pos) (by rw [List.length_zipWith,P.len,Q.len]; omega) (fun m hm=>by
  obtain ⟨i,hi,e⟩:=List.getElem_of_mem hm
  rw [List.getElem_zipWith] at e
  rw [← e]
  exact (((hway.mul (P.bx _ (List.getElem_mem _))).mul Q.bw).mono (show 2+k+l≤k+l+2 by omega)).add (((Q.bx _ (List.getElem_mem _)).mul P.bw).mono (show l+k≤k+l+2 by omega))) ((P.bw.mul Q.bw).mono (by omega))
 rw [el] at e
 exact ⟨_,e,zs,z,rfl,Z⟩
theorem agt (L:List PV) (v:PV):fIx (.lst (L++[v])) (.int (-1))=some v:=by
 show atI (L++[v]) (-1)=some v
 unfold atI ixN
 have:(L++[v]).length=L.length+1:=by simp
 rw [this,if_neg (by decide),if_pos (by omega)]
 have e:((-1:Int)+((L.length+1:Nat):Int)).toNat=L.length:=by omega
 rw [e]
 simp
def Ixs (A:PV) (is:List Int) (fs:List (List Int)):Prop:=is.map (fun i=>fIx A (.int i))=fs.map fun f=>some (tv f)
theorem amS {n l:Nat} (hn:n=2∨n=3) (hl:l≤1000) {A B:SO} {WV:PV} {x0 x2:Option AV}:∀ (fs:List (List Int)) (is:List Int) (us:List Int) (k:Nat) (L:List PV) (x4:Option AV),Ixs WV is fs→Gu n k us→(∀ f∈fs,Gu n l f)→k+(l+1)*fs.length≤1000→L.length+fs.length≤100→∃ y4,abN [] (gN 4) (aaQ (mApp (mVar 3) (aac (aah act [] (aac (mBin fIx (mVar 3) (mUn fNeg (mC (.int 1)))) (aac (mBin fIx (mVar 1) (mVar 4)) mNil))) mNil))) (is.map .int) [x0,some (.pv WV),x2,some (.ref 2),x4] [A,B,.lst (L++[tv us])]=.nx [x0,some (.pv WV),x2,some (.ref 2),y4] [A,B,.lst (L++(path us fs).map tv)]
 | [],[],us,k,L,x4,_,_,_,_,_=>⟨x4,acm⟩
 | f :: fs,i :: is,us,k,L,x4,hx,hu,hf,hk,h9=>by
  have hx:fIx WV (.int i) :: is.map (fun i=>fIx WV (.int i))=some (tv f) :: fs.map fun f=>some (tv f):=hx
  obtain ⟨e1,hx⟩:=List.cons.inj hx
  have gf:=hf f List.mem_cons_self
  have hk:k+(l+1)*(fs.length+1)≤1000:=hk
  rw [Nat.mul_succ] at hk
  have h9:L.length+(fs.length+1)≤100:=h9
  obtain ⟨y4,ih⟩:=amS hn hl (A:=A) (B:=B) (x0:=x0) (x2:=x2) fs is (mvU 1 f us) (k+l+1) (L++[tv us]) (some (.pv (.int i))) hx (adW (way:=1) (.inl rfl) hu gf).1 (fun g hg=>hf g (List.mem_cons_of_mem _ hg)) (by omega) (by rw [List.length_append,List.length_singleton]; omega)
  refine ⟨y4,?_⟩
  have ea:=amQ [A,B,.lst (L++[tv us])] hn hu gf (by omega) hl
  have el:=agt L (tv us)
  have ep:L++[tv us]++(path (mvU 1 f us) fs).map tv=L++(path us (f :: fs)).map tv:=by rw [path]; simp
  rw [ep] at ih
  have lz:L.length+1 < 16777216:=by omega
  show abN [] (gN 4) _ (.int i :: is.map .int) _ _=_
  rw [abt,← ih]
  generalize tv (mvU 1 f us)=T1 at *
  generalize tv us=T2 at *
  generalize tv f=T3 at *
  simp [gN,EC,fAbs,aal,aak,fEq,fNe,aaT,aao,aam,aap,aan,fAdd,aai,frz,aau,el,e1,ea,mApp,acM,agT,lz]
 | [],_ :: _,us,k,L,x4,hx,_,_,_,_=>by cases hx
 | _ :: _,[],us,k,L,x4,hx,_,_,_,_=>by cases hx
theorem amq {n l k:Nat} (hn:n=2∨n=3) (hl:l≤1000) {A B:SO} {WV:PV} {fs:List (List Int)} {is c:List Int} (hx:Ixs WV is fs) (hc:Gu n k c) (hf:∀ f∈fs,Gu n l f) (hk:k+(l+1)*fs.length≤1000) (h9:fs.length≤100):ad8 [.pv (tv c),.pv WV,.pv (.tup (is.map .int))] [A,B]=.ok (.ref 2) [A,B,.lst ((path c fs).map tv)]:=by
 obtain ⟨y4,e⟩:=amS hn hl (A:=A) (B:=B) (x0:=some (.pv (tv c))) (x2:=some (.pv (.tup (is.map .int)))) fs is c k [] none hx hc hf hk (by simpa using h9)
 simp only [List.nil_append] at e
 have hb:ajj=(sSeq (sSet 3 (mNew (aac (mVar 0) mNil))) (sSeq (sFor (mIt (mVar 2)) (gN 4) (aaQ (mApp (mVar 3) (aac (aah act [] (aac (mBin fIx (mVar 3) (mUn fNeg (mC (.int 1)))) (aac (mBin fIx (mVar 1) (mVar 4)) mNil))) mNil)))) (sRet (mVar 3)))):=rfl
 unfold ad8 fnM
 rw [hb]
 generalize (aaQ (mApp (mVar 3) (aac (aah act [] (aac (mBin fIx (mVar 3) (mUn fNeg (mC (.int 1)))) (aac (mBin fIx (mVar 1) (mVar 4)) mNil))) mNil)))=LB at *
 generalize is.map PV.int=IL at *
 generalize (path c fs).map tv=PL at *
 generalize tv c=T at *
 simp [EC,fAbs,aal,aak,fIx,atI,ixN,fEq,fNe,eqN,aao,aam,aap,aan,fAdd,aai,frz,aau,mNew,agL,sFor,mIt,abg,e]
theorem ajt {g:GM} {me:ME} {ρ:Rho} {S:Sto}:abA [] g me [] ρ S=.ok [] S:=by
 unfold abA
 rw [if_pos (ade S)]
theorem afb {g:GM} {me:ME} {x:PV} {r:List PV} {ρ:Rho} {S:Sto}:abA [] g me (x :: r) ρ S=(match g x ρ with
  | none=>.fail
  | some ρ1=>match me ρ1 S with
   | .ok (.pv y) S1=>match abA [] g me r ρ1 S1 with
    | .ok ys S2=>.ok (y :: ys) S2
    | .exc n S2=>.exc n S2
    | .fail=>.fail
   | .ok (.ref _) _=>.fail
   | .exc n S1=>.exc n S1
   | .fail=>.fail):=by
 conv=>lhs; unfold abA
 rw [if_pos (ade S)]
 all_goals (rcases g x ρ with _ | ρ1 <;> dsimp only <;> first | rfl | (rcases me ρ1 S with ⟨a,S1⟩ | ⟨n,S1⟩ | _ <;> first | rfl | (cases a <;> rfl)))
theorem agu {S:Sto} {me:ME} {tail:Rho} {α:Type} (A B:α→PV):∀ (L:List α) (x:Option AV),(∀ v∈L,me (some (.pv (A v)) :: tail) S=.ok (.pv (B v)) S)→abA [] (gN 0) me (L.map A) (x :: tail) S=.ok (L.map B) S
 | [],x,_=>ajt
 | v :: L,x,h=>by
  have e:=h v List.mem_cons_self
  have e':=agu A B L (some (.pv (A v))) fun u hu=>h u (List.mem_cons_of_mem _ hu)
  rw [List.map_cons,afb]
  simp [gN,e,e']
noncomputable abbrev xB:ME:=(abu abK [] (aac (aah ad8 [] (aac (mVar 1) (aac (mVar 2) (aac (mVar 0) mNil)))) mNil))
theorem amy {n l k:Nat} (hn:n=2∨n=3) (hl:l≤1000) {A B:SO} {WV:PV} {fs:List (List Int)} {is c:List Int} (hx:Ixs WV is fs) (hc:Gu n k c) (hf:∀ f∈fs,Gu n l f) (hk:k+(l+1)*fs.length≤1000) (h9:fs.length=n):xB [some (.pv (.tup (is.map .int))),some (.pv (tv c)),some (.pv WV)] [A,B]=if sgP ((path c fs).map tv)=0 then .exc "Flat" [A,B] else .ok (.pv (px (cnr (path c fs)))) [A,B]:=by
 have e1:=amq hn hl (A:=A) (B:=B) hx hc hf hk (by omega)
 have gu:=fun us hu=>(adI fs c k hc hf us hu).mono hk
 have pl:(path c fs).length=n+1:=by rw [acA,h9]
 split
 ·rename_i h0
  have e2:=ahL (A:=.lst ((path c fs).map tv)) hn [A,B] pl gu (.inl rfl) h0
  clear gu
  generalize is.map PV.int=IL at *
  generalize (path c fs).map tv=PL at *
  generalize tv c=T at *
  simp [xB,EC,fAbs,aal,aak,fIx,atI,ixN,fEq,fNe,eqN,aao,aam,aap,aan,fAdd,aai,frz,aau,e1,e2]
 ·rename_i h0
  have e2:=ahS (A:=.lst ((path c fs).map tv)) hn [A,B] pl gu (.inl rfl) h0
  clear gu
  show _=Res.ok (AV.pv (.tup ((cnr (path c fs)).map tv))) [A,B]
  generalize (cnr (path c fs)).map tv=CL at *
  generalize is.map PV.int=IL at *
  generalize (path c fs).map tv=PL at *
  generalize tv c=T at *
  simp [xB,EC,fAbs,aal,aak,fIx,atI,ixN,fEq,fNe,eqN,aao,aam,aap,aan,fAdd,aai,frz,aau,e1,e2]
structure Ord (n l k:Nat) (c:List Int) (WV:PV) (os:List (List Int × List (List Int))):Prop where
 ix:∀ p∈os,Ixs WV p.1 p.2
 gu:∀ p∈os,∀ f∈p.2,Gu n l f
 ln:∀ p∈os,p.2.length=n
 il:∀ p∈os,p.1.length=n
theorem ajZ {n l k:Nat} (hn:n=2∨n=3) (hl:l≤1000) {A B:SO} {WV:PV} {c:List Int} {os:List (List Int × List (List Int))} (O:Ord n l k c WV os) (hc:Gu n k c) (hk:k+(l+1)*n≤1000) (nz:∀ p∈os,sgP ((path c p.2).map tv)≠0):abA [] (gN 0) xB (os.map fun p=>.tup (p.1.map .int)) [none,some (.pv (tv c)),some (.pv WV)] [A,B]=.ok (os.map fun p=>px (cnr (path c p.2))) [A,B]:=by
 refine agu (fun p:List Int × List (List Int)=>.tup (p.1.map .int)) (fun p=>px (cnr (path c p.2))) os none fun p hp=>?_
 have:=amy hn hl (A:=A) (B:=B) (O.ix p hp) hc (O.gu p hp) (by rw [O.ln p hp]; exact hk) (O.ln p hp)
 rw [if_neg (nz p hp)] at this
 exact this
theorem alN {n l k:Nat} (hn:n=2∨n=3) (hl:l≤1000) {A B:SO} {WV:PV} {c:List Int} {p:List Int × List (List Int)} {os:List (List Int × List (List Int))} (O:Ord n l k c WV (p :: os)) (hc:Gu n k c) (hk:k+(l+1)*n≤1000) (nz:sgP ((path c p.2).map tv)=0):abA [] (gN 0) xB ((p :: os).map fun p=>.tup (p.1.map .int)) [none,some (.pv (tv c)),some (.pv WV)] [A,B]=.exc "Flat" [A,B]:=by
 have:=amy hn hl (A:=A) (B:=B) (O.ix p List.mem_cons_self) hc (O.gu p List.mem_cons_self) (by rw [O.ln p List.mem_cons_self]; exact hk) (O.ln p List.mem_cons_self)
 rw [if_pos nz] at this
 rw [List.map_cons,afb]
 generalize xB=XB at *
 simp [gN,this]
def ord2 (f g:List Int):List (List Int × List (List Int)):=[([0,1],[f,g]),([1,0],[g,f])]
def ord3 (f g h:List Int):List (List Int × List (List Int)):=[([0,1,2],[f,g,h]),([0,2,1],[f,h,g]),([1,0,2],[g,f,h]),([1,2,0],[g,h,f]),([2,0,1],[h,f,g]),([2,1,0],[h,g,f])]
theorem ajD {l k:Nat} {c f g:List Int} (hf:Gu 2 l f) (hg:Gu 2 l g) {WV:PV} (hw:Sv WV [tv f,tv g]):Ord 2 l k c WV (ord2 f g):=by
 have i:∀ j,(j=0→fIx WV (.int j)=some (tv f))∧(j=1→fIx WV (.int j)=some (tv g)):=fun j=>by
  rcases hw with rfl | rfl <;> exact ⟨fun h=>by subst h; rfl,fun h=>by subst h; rfl⟩
 have i0:=(i 0).1 rfl
 have i1:=(i 1).2 rfl
 refine ⟨fun p hp=>?_,fun p hp=>?_,fun p hp=>?_,fun p hp=>?_⟩ <;> simp only [ord2,List.mem_cons,List.not_mem_nil,or_false] at hp <;> rcases hp with rfl | rfl <;> first | rfl | (simp [Ixs,i0,i1]; done) | (intro u hu; simp only [List.mem_cons,List.not_mem_nil,or_false] at hu; rcases hu with rfl | rfl <;> assumption)
theorem ajp {l k:Nat} {c f g h:List Int} (hf:Gu 3 l f) (hg:Gu 3 l g) (hh:Gu 3 l h) {WV:PV} (hw:Sv WV [tv f,tv g,tv h]):Ord 3 l k c WV (ord3 f g h):=by
 have i:∀ j,(j=0→fIx WV (.int j)=some (tv f))∧(j=1→fIx WV (.int j)=some (tv g))∧(j=2→fIx WV (.int j)=some (tv h)):=fun j=>by
  rcases hw with rfl | rfl <;> exact ⟨fun h=>by subst h; rfl,fun h=>by subst h; rfl,fun h=>by subst h; rfl⟩
 have i0:=(i 0).1 rfl
 have i1:=(i 1).2.1 rfl
 have i2:=(i 2).2.2 rfl
 refine ⟨fun p hp=>?_,fun p hp=>?_,fun p hp=>?_,fun p hp=>?_⟩ <;> simp only [ord3,List.mem_cons,List.not_mem_nil,or_false] at hp <;> rcases hp with rfl | rfl | rfl | rfl | rfl | rfl <;> first | rfl | (simp [Ixs,i0,i1,i2]; done) | (intro u hu; simp only [List.mem_cons,List.not_mem_nil,or_false] at hu; rcases hu with rfl | rfl | rfl <;> assumption)
theorem akd {l:Nat} {f g:List Int} (hf:Gu 2 l f) (hg:Gu 2 l g):dt2 [g,f]=- dt2 [f,g]:=by
 obtain ⟨a,b,e,rfl,_⟩:=hf.two'
 obtain ⟨a',b',e',rfl,_⟩:=hg.two'
 show a'*b - b'*a=-(a*b' - b*a')
 grind
theorem akf {l:Nat} {f g h:List Int} (hf:Gu 3 l f) (hg:Gu 3 l g) (hh:Gu 3 l h):dt2 [f,h,g]=- dt2 [f,g,h]∧dt2 [g,f,h]=- dt2 [f,g,h]∧dt2 [g,h,f]=dt2 [f,g,h]∧dt2 [h,f,g]=dt2 [f,g,h]∧dt2 [h,g,f]=- dt2 [f,g,h]:=by
 obtain ⟨a,b,c,e,rfl,_⟩:=hf.three'
 obtain ⟨a',b',c',e',rfl,_⟩:=hg.three'
 obtain ⟨a'',b'',c'',e'',rfl,_⟩:=hh.three'
 simp only [dt2]
 refine ⟨?_,?_,?_,?_,?_⟩ <;> grind
theorem nz2 {k l:Nat} {c f g:List Int} (hk:k+(l+1)*2≤1000) (h:Gu 2 k c) (hf:Gu 2 l f) (hg:Gu 2 l g) (d:dt2 [f,g]≠0):∀ p∈ord2 f g,sgP ((path c p.2).map tv)≠0:=fun p hp=>by
 have e:=akd hf hg
 simp only [ord2,List.mem_cons,List.not_mem_nil,or_false] at hp
 rcases hp with rfl | rfl
 ·show sgP ((path c [f,g]).map tv)≠0
  rw [als hk h hf hg]
  exact fun z=>d (acD.mp z)
 ·show sgP ((path c [g,f]).map tv)≠0
  rw [als hk h hg hf]
  exact fun z=>d (by have:=acD.mp z; omega)
theorem nz3 {k l:Nat} {c f g r:List Int} (hk:k+(l+1)*3≤1000) (h:Gu 3 k c) (hf:Gu 3 l f) (hg:Gu 3 l g) (hr:Gu 3 l r) (d:dt2 [f,g,r]≠0):∀ p∈ord3 f g r,sgP ((path c p.2).map tv)≠0:=fun p hp=>by
 obtain ⟨e1,e2,e3,e4,e5⟩:=akf hf hg hr
 simp only [ord3,List.mem_cons,List.not_mem_nil,or_false] at hp
 rcases hp with rfl | rfl | rfl | rfl | rfl | rfl <;> dsimp only
 ·rw [agC hk h hf hg hr]
  exact fun z=>d (acD.mp z)
 ·rw [agC hk h hf hr hg]
  exact fun z=>d (by have:=acD.mp z; omega)
 ·rw [agC hk h hg hf hr]
  exact fun z=>d (by have:=acD.mp z; omega)
 ·rw [agC hk h hg hr hf]
  exact fun z=>d (by have:=acD.mp z; omega)
 ·rw [agC hk h hr hf hg]
  exact fun z=>d (by have:=acD.mp z; omega)
 ·rw [agC hk h hr hg hf]
  exact fun z=>d (by have:=acD.mp z; omega)
theorem anl:aiD=(sSeq (sSet 2 (mIf (mTst (mBin fEq (mR fLen (aac (mVar 1) mNil)) (mC (.int 2)))) (mC (.tup ((ord2 [] []).map fun p=>.tup (p.1.map .int)))) (mC (.tup ((ord3 [] [] []).map fun p=>.tup (p.1.map .int)))))) (sRet (mR aal (aac (aeN ["order"] [(0,"corner"),(1,"arrows")] (mIt (mVar 2)) (gN 0) xB) mNil)))):=rfl
theorem amL {S:Sto} {n:Nat} (hn:n=2∨n=3) {C WV:PV} {WL OL PL:List PV} (hw:WV=.tup WL) (hl:WL.length=n) (ho:OL=if n=2 then (ord2 [] []).map (fun p=>.tup (p.1.map .int)) else (ord3 [] [] []).map (fun p=>.tup (p.1.map .int))) (e:abA [] (gN 0) xB OL [none,some (.pv C),some (.pv WV)] S=.ok PL S):aeP [.pv C,.pv WV] S=.ok (.pv (.tup PL)) S:=by
 unfold aeP fnM
 rw [anl]
 subst hw
 generalize xB=XB at *
 generalize (ord2 [] []).map (fun p=>PV.tup (p.1.map .int))=O2 at *
 generalize (ord3 [] [] []).map (fun p=>PV.tup (p.1.map .int))=O3 at *
 rcases hn with rfl | rfl
 ·rw [if_pos rfl] at ho
  subst ho
  have q:((WL.length:Int) == 2)=true:=by rw [hl]; rfl
  simp [EC,fAbs,aal,aak,fEq,fNe,aaT,aao,aam,aap,aan,fAdd,aai,frz,aau,q,aeN,mIt,abg,cmpR,e]
 ·rw [if_neg (by decide)] at ho
  subst ho
  have q:((WL.length:Int) == 2)=false:=by rw [hl]; rfl
  simp [EC,fAbs,aal,aak,fEq,fNe,aaT,aao,aam,aap,aan,fAdd,aai,frz,aau,q,aeN,mIt,abg,cmpR,e]
theorem ams {S:Sto} {n:Nat} (hn:n=2∨n=3) {C WV:PV} {WL OL:List PV} (hw:WV=.tup WL) (hl:WL.length=n) (ho:OL=if n=2 then (ord2 [] []).map (fun p=>.tup (p.1.map .int)) else (ord3 [] [] []).map (fun p=>.tup (p.1.map .int))) (e:abA [] (gN 0) xB OL [none,some (.pv C),some (.pv WV)] S=.exc "Flat" S):aeP [.pv C,.pv WV] S=.exc "Flat" S:=by
 unfold aeP fnM
 rw [anl]
 subst hw
 generalize xB=XB at *
 generalize (ord2 [] []).map (fun p=>PV.tup (p.1.map .int))=O2 at *
 generalize (ord3 [] [] []).map (fun p=>PV.tup (p.1.map .int))=O3 at *
 rcases hn with rfl | rfl
 ·rw [if_pos rfl] at ho
  subst ho
  have q:((WL.length:Int) == 2)=true:=by rw [hl]; rfl
  simp [EC,fAbs,aal,aak,fEq,fNe,aaT,aao,aam,aap,aan,fAdd,aai,frz,aau,q,aeN,mIt,abg,cmpR,e]
 ·rw [if_neg (by decide)] at ho
  subst ho
  have q:((WL.length:Int) == 2)=false:=by rw [hl]; rfl
  simp [EC,fAbs,aal,aak,fEq,fNe,aaT,aao,aam,aap,aan,fAdd,aai,frz,aau,q,aeN,mIt,abg,cmpR,e]
theorem af3 {n:Nat} (hn:n=2∨n=3) {k:Nat} {uss:List (List Int)} (S:Sto) (hl:uss.length=n+1) (hg:∀ us∈uss,Gu n 1000 us) (hS:S[k]?=some (.lst (uss.map tv))):aaO [.ref k] S=.ok (.pv (.tup ((cnr uss).map tv))) S:=by
 have h34:uss.length=3∨uss.length=4:=by omega
 have e1:=acU (A:=.lst (uss.map tv)) h34 (.inl rfl) fun us hu=>(hg us hu).ne
 obtain ⟨pm,_⟩:=abB h34
 have hl2:((aa0 uss).map tv).length=n+1:=by rw [List.length_map,pm.length_eq]; exact hl
 have hg2:∀ v∈(aa0 uss).map tv,Gp n 1000 v:=gps fun us hu=>hg us (pm.subset hu)
 obtain ⟨d,e2,hd⟩:=agV (A:=.lst ((aa0 uss).map tv)) hn S hl2 hg2 (.inl rfl)
 obtain ⟨a,b,M,t1,t2,t3,t4⟩:=ama hn hl2
 unfold cnr
 have hlt:d < 0↔sgP ((aa0 uss).map tv) < 0:=by
  rw [← hd]
  unfold sg
  split
  ·omega
  ·split <;> omega
 by_cases h:d < 0
 ·rw [if_pos (hlt.mp h),agW]
  generalize (aa0 uss).map tv=L at *
  unfold aaO fnM ab8
  simp [EC,fAbs,aal,aak,fEq,fNe,aaT,aao,aam,aap,aan,frz,aau,hS,e1,e2,h,mSl,mO0,mO1,ab1,t1,t2,t3,t4]
 ·rw [if_neg (fun z=>h (hlt.mpr z))]
  generalize (aa0 uss).map tv=L at *
  unfold aaO fnM ab8
  simp [EC,fAbs,aal,aak,fEq,fNe,aaT,aao,aam,aap,aan,frz,aau,hS,e1,e2,h]
noncomputable abbrev iB:MS:=(aaQ (mApp (mVar 12) (aac (aah aaR [] (aac (mBin fIx (mVar 12) (mUn fNeg (mC (.int 1)))) (aac (mBin fIx (mVar 4) (mVar 13)) (aac (mC (.int 1)) mNil)))) mNil)))
noncomputable abbrev oB:MS:=(sSeq (sSet 12 (mNew (aac (mVar 3) mNil)))
 (sSeq (sFor (mIt (mVar 11)) (gN 13) iB)
 (aaQ (mApp (mVar 10) (aac (aah aaO [] (aac (mVar 12) mNil)) mNil)))))
theorem aks {α:Type} (R:List α) (x y:α):(R++[x]).set R.length y=R++[y]:=by simp
theorem amz {n l:Nat} (hn:n=2∨n=3) (hl:l≤1000) {A D:SO} {WL:List PV} {Z:Sto} {x0 x1 x2 x3 x5 x6 x7 x8 x9 x10 x11:Option AV}:∀ (fs:List (List Int)) (is:List Int) (us:List Int) (k:Nat) (L:List PV) (x13:Option AV),Ixs (.lst WL) is fs→Gu n k us→(∀ f∈fs,Gu n l f)→k+(l+1)*fs.length≤1000→L.length+fs.length≤100→∃ y13,abN [] (gN 13) iB (is.map .int) [x0,x1,x2,x3,some (.ref 1),x5,x6,x7,x8,x9,x10,x11,some (.ref (Z.length+3)),x13] (A :: .lst WL :: D :: (Z++[.lst (L++[tv us])]))=.nx [x0,x1,x2,x3,some (.ref 1),x5,x6,x7,x8,x9,x10,x11,some (.ref (Z.length+3)),y13] (A :: .lst WL :: D :: (Z++[.lst (L++(path us fs).map tv)]))
 | [],[],us,k,L,x13,_,_,_,_,_=>⟨x13,acm⟩
 | f :: fs,i :: is,us,k,L,x13,hx,hu,hf,hk,h9=>by
  have hx:fIx (.lst WL) (.int i) :: is.map (fun i=>fIx (.lst WL) (.int i))=some (tv f) :: fs.map fun f=>some (tv f):=hx
  obtain ⟨e1,hx⟩:=List.cons.inj hx
  have gf:=hf f List.mem_cons_self
  have hk:k+(l+1)*(fs.length+1)≤1000:=hk
  rw [Nat.mul_succ] at hk
  have h9:L.length+(fs.length+1)≤100:=h9
  obtain ⟨y13,ih⟩:=amz hn hl (A:=A) (D:=D) (Z:=Z) (x0:=x0) (x1:=x1) (x2:=x2) (x3:=x3) (x5:=x5) (x6:=x6) (x7:=x7) (x8:=x8) (x9:=x9) (x10:=x10) (x11:=x11) fs is (mvU 1 f us) (k+l+1) (L++[tv us]) (some (.pv (.int i))) hx (adW (way:=1) (.inl rfl) hu gf).1 (fun g hg=>hf g (List.mem_cons_of_mem _ hg)) (by omega) (by rw [List.length_append,List.length_singleton]; omega)
  refine ⟨y13,?_⟩
  have ea:=alS (way:=1) (A :: .lst WL :: D :: (Z++[.lst (L++[tv us])])) hn (.inl rfl) hu gf (by omega) hl
  have el:=agt L (tv us)
  have ep:L++[tv us]++(path (mvU 1 f us) fs).map tv=L++(path us (f :: fs)).map tv:=by rw [path]; simp
  rw [ep] at ih
  have lz:L.length+1 < 16777216:=by omega
  have sl:=fun x y:SO=>aks Z x y
  show abN [] (gN 13) _ (.int i :: is.map .int) _ _=_
  rw [abt,← ih]
  generalize tv (mvU 1 f us)=T1 at *
  generalize tv us=T2 at *
  generalize tv f=T3 at *
  simp [gN,iB,EC,fAbs,aal,aak,fEq,fNe,aaT,aao,aam,aap,aan,fAdd,aai,frz,aau,el,e1,ea,mApp,acM,agT,lz,sl]
 | [],_ :: _,us,k,L,x13,hx,_,_,_,_=>by cases hx
 | _ :: _,[],us,k,L,x13,hx,_,_,_,_=>by cases hx
theorem an3 {n l k:Nat} (hn:n=2∨n=3) (hl:l≤1000) {A:SO} {WL DL:List PV} {Z:Sto} {x0 x1 x2 x5 x6 x7 x8 x9 x12 x13:Option AV} {c is:List Int} {fs:List (List Int)} (hx:Ixs (.lst WL) is fs) (hc:Gu n k c) (hf:∀ f∈fs,Gu n l f) (hk:k+(l+1)*fs.length≤1000) (h9:fs.length=n) (hd:DL.length≤100):∃ Z' y12 y13,oB [x0,x1,x2,some (.pv (tv c)),some (.ref 1),x5,x6,x7,x8,x9,some (.ref 2),some (.pv (.lst (is.map .int))),x12,x13] (A :: .lst WL :: .lst DL :: Z)=.nx [x0,x1,x2,some (.pv (tv c)),some (.ref 1),x5,x6,x7,x8,x9,some (.ref 2),some (.pv (.lst (is.map .int))),y12,y13] (A :: .lst WL :: .lst (DL++[px (cnr (path c fs))]) :: Z'):=by
 obtain ⟨y13,e⟩:=amz hn hl (A:=A) (D:=.lst DL) (WL:=WL) (Z:=Z) (x0:=x0) (x1:=x1) (x2:=x2) (x3:=some (.pv (tv c))) (x5:=x5) (x6:=x6) (x7:=x7) (x8:=x8) (x9:=x9) (x10:=some (.ref 2)) (x11:=some (.pv (.lst (is.map .int)))) fs is c k [] x13 hx hc hf hk (by rw [List.length_nil]; omega)
 have gu:=fun us hu=>(adI fs c k hc hf us hu).mono hk
 have pl:(path c fs).length=n+1:=by rw [acA,h9]
 have es:=af3 (k:=Z.length+3) hn (A :: .lst WL :: .lst DL :: (Z++[.lst ((path c fs).map tv)])) pl gu (by simp)
 refine ⟨Z++[.lst ((path c fs).map tv)],some (.ref (Z.length+3)),y13,?_⟩
 have lz:DL.length < 16777216:=by omega
 simp only [List.nil_append] at e
 show _=SRes.nx _ (A :: .lst WL :: .lst (DL++[.tup ((cnr (path c fs)).map tv)]) :: (Z++[.lst ((path c fs).map tv)]))
 clear gu
 generalize (cnr (path c fs)).map tv=CL at *
 generalize (path c fs).map tv=PL at *
 generalize tv c=T at *
 generalize is.map PV.int=IL at *
 unfold oB
 generalize iB=IB at *
 simp [EC,fAbs,aal,aak,fIx,atI,ixN,fEq,fNe,eqN,aao,aam,aap,aan,fAdd,aai,frz,aau,mNew,agL,sFor,mIt,abg,e,mApp,acM,agT,es,lz]
theorem anz {n l k:Nat} (hn:n=2∨n=3) (hl:l≤1000) {A:SO} {WL:List PV} {x0 x1 x2 x5 x6 x7 x8 x9:Option AV} {c:List Int} (hc:Gu n k c) (hk:k+(l+1)*n≤1000):∀ (os:List (List Int × List (List Int))) (DL:List PV) (Z:Sto) (x11 x12 x13:Option AV),Ord n l k c (.lst WL) os→DL.length+os.length≤100→∃ Z' y11 y12 y13,abN [] (gN 11) oB (os.map fun p=>.lst (p.1.map .int)) [x0,x1,x2,some (.pv (tv c)),some (.ref 1),x5,x6,x7,x8,x9,some (.ref 2),x11,x12,x13] (A :: .lst WL :: .lst DL :: Z)=.nx [x0,x1,x2,some (.pv (tv c)),some (.ref 1),x5,x6,x7,x8,x9,some (.ref 2),y11,y12,y13] (A :: .lst WL :: .lst (DL++os.map fun p=>px (cnr (path c p.2))) :: Z')
 | [],DL,Z,x11,x12,x13,_,_=>⟨Z,x11,x12,x13,by rw [List.map_nil,List.map_nil,List.append_nil]; exact acm⟩
 | p :: os,DL,Z,x11,x12,x13,O,h9=>by
  have h9:DL.length+(os.length+1)≤100:=h9
  obtain ⟨Z1,z12,z13,e1⟩:=an3 hn hl (A:=A) (DL:=DL) (Z:=Z) (x0:=x0) (x1:=x1) (x2:=x2) (x5:=x5) (x6:=x6) (x7:=x7) (x8:=x8) (x9:=x9) (x12:=x12) (x13:=x13) (O.ix p List.mem_cons_self) hc (O.gu p List.mem_cons_self) (by rw [O.ln p List.mem_cons_self]; exact hk) (O.ln p List.mem_cons_self) (by omega)
  obtain ⟨Z2,y11,y12,y13,e2⟩:=anz hn hl (A:=A) (x0:=x0) (x1:=x1) (x2:=x2) (x5:=x5) (x6:=x6) (x7:=x7) (x8:=x8) (x9:=x9) hc hk os (DL++[px (cnr (path c p.2))]) Z1 (some (.pv (.lst (p.1.map .int)))) z12 z13 ⟨fun q hq=>O.ix q (List.mem_cons_of_mem _ hq),fun q hq=>O.gu q (List.mem_cons_of_mem _ hq),fun q hq=>O.ln q (List.mem_cons_of_mem _ hq),fun q hq=>O.il q (List.mem_cons_of_mem _ hq)⟩ (by rw [List.length_append,List.length_singleton]; omega)
  refine ⟨Z2,y11,y12,y13,?_⟩
  rw [List.map_cons,abt]
  simp only [gN,List.set_cons_succ,List.set_cons_zero]
  rw [e1]
  dsimp only
  rw [e2]
  simp
def dl (us:List Int):PV:=.lst (us.dropLast.map .int)
theorem aoy {l:Nat} {f g:List Int} (S:Sto) (hl:l≤1000) (hf:Gu 2 l f) (hg:Gu 2 l g):abj [.pv (.lst ([f,g].map dl))] S=.ok (.pv (.int (dt2 [f,g]))) S:=by
 obtain ⟨a,b,e,rfl,_,ba,bb,_⟩:=hf.two'
 obtain ⟨a',b',e',rfl,_,ba',bb',_⟩:=hg.two'
 have m1:=mBB (ba.mono hl) (bb'.mono hl)
 have m2:=mBB (bb.mono hl) (ba'.mono hl)
 show abj [.pv (.lst [.lst [.int a,.int b],.lst [.int a',.int b']])] S=.ok (.pv (.int (a*b' - b*a'))) S
 unfold abj fnM adz
 simp [EC,fAbs,aal,aak,fIx,atI,ixN,fEq,fNe,eqN,aao,aam,aap,aan,fAdd,aai,frz,aau,m1,m2]
theorem aol {l:Nat} {f g h:List Int} (S:Sto) (hl:l≤1000) (hf:Gu 3 l f) (hg:Gu 3 l g) (hh:Gu 3 l h):abj [.pv (.lst ([f,g,h].map dl))] S=.ok (.pv (.int (dt2 [f,g,h]))) S:=by
 obtain ⟨a,b,c,e,rfl,_,ba,bb,bc,_⟩:=hf.three'
 obtain ⟨a',b',c',e',rfl,_,ba',bb',bc',_⟩:=hg.three'
 obtain ⟨a'',b'',c'',e'',rfl,_,ba'',bb'',bc'',_⟩:=hh.three'
 have up:∀ {x:Int},Bd l x→Bd 10000 x:=fun h=>h.mono (by omega)
 have e1:=ag6 (A:=.lst [.int a,.int b,.int c]) (B:=.lst [.int a',.int b',.int c']) S (.inl rfl) (.inl rfl) (up ba) (up bb) (up bc) (up ba') (up bb') (up bc')
 have mm:∀ {x y z t:Int},Bd l x→Bd l y→Bd l z→Bd l t→Bd 100000 (x*y - z*t):=fun p q r s=>(((p.mul q).mono (show l+l≤3000 by omega)).sub ((r.mul s).mono (show l+l≤3000 by omega))).mono (by decide)
 have e2:=ajL (A:=.lst ([b*c' - c*b',c*a' - a*c',a*b' - b*a'].map .int)) (B:=.lst ([a'',b'',c''].map .int)) S (.inl rfl) (.inl rfl) (by
  simp
  exact ⟨mm bb bc' bc bb',mm bc ba' ba bc',mm ba bb' bb ba'⟩) (by
  simp
  exact ⟨(up ba'').mono (by decide),(up bb'').mono (by decide),(up bc'').mono (by decide)⟩)
 rw [dt3] at e2
 simp only [List.map_cons,List.map_nil] at e2
 show abj [.pv (.lst [.lst [.int a,.int b,.int c],.lst [.int a',.int b',.int c'],.lst [.int a'',.int b'',.int c'']])] S=.ok (.pv (.int ((b*c' - c*b')*a''+(c*a' - a*c')*b''+(a*b' - b*a')*c''))) S
 generalize (b*c' - c*b')*a''+(c*a' - a*c')*b''+(a*b' - b*a')*c''=D at *
 generalize b*c' - c*b'=U at *
 generalize c*a' - a*c'=V at *
 generalize a*b' - b*a'=Q at *
 unfold abj fnM adz
 simp [EC,fAbs,aal,aak,fIx,atI,ixN,fEq,fNe,eqN,aao,aam,aap,aan,fAdd,aai,frz,aau,e1,e2]
theorem air {n l:Nat} {S:Sto} {G:Gd} (hG:gOk G S) {ts:List (List Int)} (h:∀ t∈ts,Gu n l t):aaN G (gN 0) (mR aak (aac (mSl (mVar 0) mO0 (mO1 (mUn fNeg (mC (.int 1))))) mNil)) (ts.map tv) [none] S=.ok (ts.map dl) S:=by
 refine aez hG tv dl ts none fun us hu=>?_
 obtain ⟨xs,w,rfl,P⟩:=h us hu
 have e:=adm xs w
 have ed:dl (xs++[w])=.lst (xs.map .int):=by unfold dl; simp
 rw [ed]
 show (mR aak (aac (mSl (mVar 0) mO0 (mO1 (mUn fNeg (mC (.int 1))))) mNil)) [some (.pv (.tup ((xs++[w]).map .int)))] S=_
 generalize (xs++[w]).map PV.int=XL at *
 generalize xs.map PV.int=YL at *
 simp [EC,fAbs,aal,aak,fIx,atI,ixN,fEq,fNe,eqN,aao,aam,aap,aan,fAdd,aai,frz,aau,mSl,mO0,mO1,ab1,e]
noncomputable def rB:MS:=(sSeq (sSet 6 (mC .non))
 (sSeq (sSet 7 (mC (.bl false)))
 (sSeq (afQ aeP [] (aac (mVar 3) (aac (mR aal (aac (mVar 4) mNil)) mNil)) "Flat" 14 6 (fun ρ=>(((ρ.set 8 none).set 7 (some (.pv (.bl true)))).set 8 none)))
 (sSeq (sIf (mTst (mBin fEq (aah abj [] (aac (aa1 ["_law_way"] [] (mIt (mVar 4)) (gN 0) (mR aak (aac (mSl (mVar 0) mO0 (mO1 (mUn fNeg (mC (.int 1))))) mNil))) mNil)) (mC (.int 0)))) (sRet (abf (mVar 7) (mUn fIsN (mVar 6)))) sNil)
 (sSeq (sSet 9 (mC (.lst [.lst [.int 0,.int 1],.lst [.int 1,.int 0]])))
 (sSeq (sIf (mTst (mBin fEq (mVar 2) (mC (.int 3)))) (sSet 9 (mC (.lst [.lst [.int 0,.int 1,.int 2],.lst [.int 0,.int 2,.int 1],.lst [.int 1,.int 0,.int 2],.lst [.int 1,.int 2,.int 0],.lst [.int 2,.int 0,.int 1],.lst [.int 2,.int 1,.int 0]]))) sNil)
 (sSeq (sSet 10 (mNew mNil))
 (sSeq (sFor (mIt (mVar 9)) (gN 11) (sSeq (sSet 12 (mNew (aac (mVar 3) mNil)))
 (sSeq (sFor (mIt (mVar 11)) (gN 13) (aaQ (mApp (mVar 12) (aac (aah aaR [] (aac (mBin fIx (mVar 12) (mUn fNeg (mC (.int 1)))) (aac (mBin fIx (mVar 4) (mVar 13)) (aac (mC (.int 1)) mNil)))) mNil))))
 (aaQ (mApp (mVar 10) (aac (aah aaO [] (aac (mVar 12) mNil)) mNil))))))
 (sRet (abf (aah abh [] (aac (mVar 6) (aac (mVar 2) mNil))) (mBin fEq (mR aak (aac (mVar 6) mNil)) (mVar 10))))))))))))
theorem amA:rB=(sSeq (sSet 6 (mC .non))
 (sSeq (sSet 7 (mC (.bl false)))
 (sSeq (afQ aeP [] (aac (mVar 3) (aac (mR aal (aac (mVar 4) mNil)) mNil)) "Flat" 14 6 (fun ρ=>(((ρ.set 8 none).set 7 (some (.pv (.bl true)))).set 8 none)))
 (sSeq (sIf (mTst (mBin fEq (aah abj [] (aac (aa1 ["_law_way"] [] (mIt (mVar 4)) (gN 0) (mR aak (aac (mSl (mVar 0) mO0 (mO1 (mUn fNeg (mC (.int 1))))) mNil))) mNil)) (mC (.int 0)))) (sRet (abf (mVar 7) (mUn fIsN (mVar 6)))) sNil)
 (sSeq (sSet 9 (mC (.lst ((ord2 [] []).map fun p=>.lst (p.1.map .int)))))
 (sSeq (sIf (mTst (mBin fEq (mVar 2) (mC (.int 3)))) (sSet 9 (mC (.lst ((ord3 [] [] []).map fun p=>.lst (p.1.map .int))))) sNil)
 (sSeq (sSet 10 (mNew mNil))
 (sSeq (sFor (mIt (mVar 9)) (gN 11) oB)
 (sRet (abf (aah abh [] (aac (mVar 6) (aac (mVar 2) mNil))) (mBin fEq (mR aak (aac (mVar 6) mNil)) (mVar 10)))))))))))):=rfl
theorem aiC {n l k:Nat} (hn:n=2∨n=3) (hl:l≤1000) {ns c:List Int} {ts:List (List Int)} {os:List (List Int × List (List Int))} {d:Int} {x0 x5:Option AV} (hts:ts.length=n) (ht:∀ t∈ts,Gu n l t) (ho:os.map (fun p=>PV.lst (p.1.map .int))=if n=2 then (ord2 [] []).map (fun p=>.lst (p.1.map .int)) else (ord3 [] [] []).map (fun p=>.lst (p.1.map .int))) (ho':os.map (fun p=>PV.tup (p.1.map .int))=if n=2 then (ord2 [] []).map (fun p=>.tup (p.1.map .int)) else (ord3 [] [] []).map (fun p=>.tup (p.1.map .int)))
  (O:Ord n l k c (.tup (ts.map tv)) os) (O':Ord n l k c (.lst (ts.map tv)) os) (ol:os.length≤90) (hc:Gu n k c) (hk:k+(l+1)*n≤1000) (et:∀ S,abj [.pv (.lst (ts.map dl))] S=.ok (.pv (.int d)) S) (hd:(d=0∧∃ p r,os=p :: r∧sgP ((path c p.2).map tv)=0)∨(d≠0∧∀ p∈os,sgP ((path c p.2).map tv)≠0)) :
  ∃ S',rB [x0,some (.ref 0),some (.pv (.int n)),some (.pv (tv c)),some (.ref 1),x5,none,none,none,none,none,none,none,none] [.lst (li ns),.lst (ts.map tv)]=.rt (.pv (.bl true)) S':=by
 have ew:=air (n:=n) (S:=[.lst (li ns),.lst (ts.map tv)]) (G:=[(1,ts.map tv)]) (fun g hg=>by
  have:g=(1,ts.map tv):=by simpa using hg
  rw [this]; rfl) ht
 have et:=et [.lst (li ns),.lst (ts.map tv)]
 have wl:(ts.map tv).length=n:=by rw [List.length_map]; exact hts
 rcases hd with ⟨rfl,p,r,rfl,hz⟩ | ⟨hd,nz⟩
 ·have eb:=ams (S:=[.lst (li ns),.lst (ts.map tv)]) hn rfl wl ho' (alN hn hl (A:=.lst (li ns)) (B:=.lst (ts.map tv)) O hc hk hz)
  refine ⟨[.lst (li ns),.lst (ts.map tv)],?_⟩
  rw [amA]
  clear O O' ho ho' hz
  generalize ts.map dl=DV at *
  generalize ts.map tv=WL at *
  generalize tv c=T at *
  generalize li ns=NL at *
  generalize (n:Int)=N at *
  generalize oB=OB at *
  simp [EC,fAbs,aal,aak,fIx,atI,ixN,fEq,fNe,eqN,aao,aam,aap,aan,fAdd,aai,frz,aau,afQ,eb,aa1,mIt,abg,cmpR,ew,et,fIsN]
 ·have eb:=amL (S:=[.lst (li ns),.lst (ts.map tv)]) hn rfl wl ho' (ajZ hn hl (A:=.lst (li ns)) (B:=.lst (ts.map tv)) O hc hk nz)
  obtain ⟨Z,y11,y12,y13,eo⟩:=anz hn hl (A:=.lst (li ns)) (WL:=ts.map tv) (x0:=x0) (x1:=some (.ref 0)) (x2:=some (.pv (.int n))) (x5:=x5) (x6:=some (.pv (.tup (os.map fun p=>px (cnr (path c p.2)))))) (x7:=some (.pv (.bl false))) (x8:=none) (x9:=some (.pv (.lst (os.map fun p=>.lst (p.1.map .int))))) hc hk os [] [] none none none O' (by rw [List.length_nil]; omega)
  rw [List.nil_append] at eo
  have gs:∀ p∈os,Sx n 1000 (cnr (path c p.2)):=fun p hp=>by
   have gu:=fun us hu=>(adI p.2 c k hc (O.gu p hp) us hu).mono (show _≤1000 by rw [O.ln p hp]; exact hk)
   refine aoA hn (Nat.le_refl 1000) (by rw [acA,O.ln p hp]) gu fun z=>nz p hp ?_
   rw [aeA hn (Nat.le_refl 1000) (by rw [acA,O.ln p hp]) gu,z]
   rfl
  have gs':∀ uss∈os.map (fun p=>cnr (path c p.2)),Sx n 1000 uss:=fun uss hu=>by
   obtain ⟨p,hp,rfl⟩:=List.mem_map.mp hu
   exact gs p hp
  have em:(os.map fun p=>cnr (path c p.2)).map px=os.map fun p=>px (cnr (path c p.2)):=by rw [List.map_map]; rfl
  have ef:=fun S=>aiX hn S gs' (Nat.le_refl 1000)
  have q:=ajR (akC (m:=5) gs').2
  rw [em] at q
  simp only [em] at ef
  have lo:aak [.tup (os.map fun p=>px (cnr (path c p.2)))]=some (.lst (os.map fun p=>px (cnr (path c p.2)))):=rfl
  have db:fEq (.int d) (.int 0)=some (.bl false):=by
   have:(d == 0)=false:=by simpa using hd
   unfold fEq
   rw [aaT,this]
   rfl
  have tu:∀ L,aal [.lst L]=some (.tup L):=fun _=>rfl
  refine ⟨.lst (li ns) :: .lst (ts.map tv) :: .lst (os.map fun p=>px (cnr (path c p.2))) :: Z,?_⟩
  rw [amA]
  clear O O' ho' nz gs gs' em
  generalize (os.map fun p=>px (cnr (path c p.2)))=PL at *
  generalize os.map (fun p=>PV.lst (p.1.map .int))=OL at *
  generalize (ord2 [] []).map (fun p=>PV.lst (p.1.map .int))=O2 at *
  generalize (ord3 [] [] []).map (fun p=>PV.lst (p.1.map .int))=O3 at *
  generalize ts.map dl=DV at *
  generalize ts.map tv=WL at *
  generalize tv c=T at *
  generalize li ns=NL at *
  generalize oB=OB at *
  rcases hn with rfl | rfl
  ·rw [if_pos rfl] at ho
   subst ho
   have n3:fEq (.int ((2:Nat):Int)) (.int 3)=some (.bl false):=rfl
   generalize ((2:Nat):Int)=N at *
   simp [EC,fAbs,eqN,aao,aam,aap,aan,fAdd,aai,frz,aau,n3,db,tu,afQ,eb,aa1,mIt,abg,cmpR,ew,et,mNew,agL,sFor,eo,ef,lo,q]
  ·rw [if_neg (by decide)] at ho
   subst ho
   have n3:fEq (.int ((3:Nat):Int)) (.int 3)=some (.bl true):=rfl
   generalize ((3:Nat):Int)=N at *
   simp [EC,fAbs,eqN,aao,aam,aap,aan,fAdd,aai,frz,aau,n3,db,tu,afQ,eb,aa1,mIt,abg,cmpR,ew,et,mNew,agL,sFor,eo,ef,lo,q]
theorem fin2 {ns c f g:List Int} {x0 x5:Option AV} (hc:Gu 2 100 c) (hf:Gu 2 190 f) (hg:Gu 2 190 g):∃ S',rB [x0,some (.ref 0),some (.pv (.int (2:Nat))),some (.pv (tv c)),some (.ref 1),x5,none,none,none,none,none,none,none,none] [.lst (li ns),.lst [tv f,tv g]]=.rt (.pv (.bl true)) S':=by
 refine aiC (n:=2) (l:=190) (k:=100) (ts:=[f,g]) (os:=ord2 f g) (.inl rfl) (by decide) rfl (fun t ht=>?_) rfl rfl (ajD hf hg (.inr rfl)) (ajD hf hg (.inl rfl)) (by show 2≤90; decide) hc (by decide) (fun S=>aoy S (by decide) hf hg) ?_
 ·have:t=f∨t=g:=by simpa using ht
  rcases this with rfl | rfl
  ·exact hf
  ·exact hg
 ·by_cases hd:dt2 [f,g]=0
  ·exact .inl ⟨hd,_,_,rfl,by rw [als (by decide) hc hf hg,hd]; rfl⟩
  ·exact .inr ⟨hd,nz2 (by decide) hc hf hg hd⟩
theorem fin3 {ns c f g r:List Int} {x0 x5:Option AV} (hc:Gu 3 100 c) (hf:Gu 3 190 f) (hg:Gu 3 190 g) (hr:Gu 3 190 r):∃ S',rB [x0,some (.ref 0),some (.pv (.int (3:Nat))),some (.pv (tv c)),some (.ref 1),x5,none,none,none,none,none,none,none,none] [.lst (li ns),.lst [tv f,tv g,tv r]]=.rt (.pv (.bl true)) S':=by
 refine aiC (n:=3) (l:=190) (k:=100) (ts:=[f,g,r]) (os:=ord3 f g r) (.inr rfl) (by decide) rfl (fun t ht=>?_) rfl rfl (ajp hf hg hr (.inr rfl)) (ajp hf hg hr (.inl rfl)) (by show 6≤90; decide) hc (by decide) (fun S=>aol S (by decide) hf hg hr) ?_
 ·have:t=f∨t=g∨t=r:=by simpa using ht
  rcases this with rfl | rfl | rfl
  ·exact hf
  ·exact hg
  ·exact hr
 ·by_cases hd:dt2 [f,g,r]=0
  ·exact .inl ⟨hd,_,_,rfl,by rw [agC (by decide) hc hf hg hr,hd]; rfl⟩
  ·exact .inr ⟨hd,nz3 (by decide) hc hf hg hr hd⟩
theorem aiw {n:Nat} (hn:n=2∨n=3) (ns:List Int):∃ (top ns':List Int),abC [.ref 0,.pv (.int n)] [.lst (li ns)]=.ok (.pv (tv top)) [.lst (li ns')]∧Gu n 60 top:=by
 rcases hn with rfl | rfl
 ·exact am3 ns
 ·exact amR ns
theorem aeG {n:Nat} (hn:n=2∨n=3):∀ (is:List PV) (ns:List Int) (x:Option AV),∃ (ts:List (List Int)) (ns':List Int),aaN [] (gN 0) (aah abC [] (aac (mVar 1) (aac (mVar 2) mNil))) is [x,some (.ref 0),some (.pv (.int n))] [.lst (li ns)]=.ok (ts.map tv) [.lst (li ns')]∧ts.length=is.length∧∀ t∈ts,Gu n 60 t
 | [],ns,x=>⟨[],ns,aaJ,rfl,fun _ h=>absurd h List.not_mem_nil⟩
 | i :: is,ns,x=>by
  obtain ⟨t,n1,e1,g1⟩:=aiw hn ns
  obtain ⟨ts,n2,e2,l2,g2⟩:=aeG hn is n1 (some (.pv i))
  refine ⟨t :: ts,n2,?_,by simp [l2],fun u hu=>?_⟩
  ·rw [aaE,List.map_cons]
   generalize tv t=T at *
   generalize (n:Int)=N at *
   simp [gN,EC,fAbs,aal,aak,fIx,atI,ixN,fEq,fNe,eqN,aao,aam,aap,aan,fAdd,aai,frz,aau,e1,e2]
  ·rcases List.mem_cons.mp hu with rfl | hu
   ·exact g1
   ·exact g2 u hu
noncomputable def wB:MS:=(sSeq (sSet 3 (aah ac2 [] (aac (mVar 1) (aac (mVar 2) mNil))))
 (sSeq (sSet 4 (ac0 ["_law_k"] [(1,"_law_row_here"),(2,"_law_dims")] (abe (aac (mVar 2) mNil)) (gN 0) (aah abC [] (aac (mVar 1) (aac (mVar 2) mNil)))))
 (sSeq (sIf (mTst (mBin fEq (aah aaq [] (aac (mVar 1) (aac (mC (.int 4)) mNil))) (mC (.int 3)))) (sSeq (sSet 5 (aah aaR [] (aac (mBin fIx (mVar 4) (mC (.int 0))) (aac (mBin fIx (mVar 4) (mC (.int 0))) (aac (mBin fSub (aah aaq [] (aac (mVar 1) (aac (mC (.int 4)) mNil))) (mC (.int 2))) mNil)))))
 (sSeq (sIf (mTst (mBin fEq (mVar 2) (mC (.int 3)))) (sSet 5 (aah aaR [] (aac (mBin fIx (mVar 4) (mC (.int 1))) (aac (mVar 5) (aac (mBin fSub (aah aaq [] (aac (mVar 1) (aac (mC (.int 5)) mNil))) (mC (.int 2))) mNil))))) sNil)
 (abR (mVar 4) (mUn fNeg (mC (.int 1))) (mVar 5)))) sNil)
 rB)))
theorem aoz:alM=(sSeq (sSet 1 (aaM adV [] (aac (mVar 0) mNil)))
 (sSeq (sSet 2 (mBin fAdd (mC (.int 2)) (aah aaq [] (aac (mVar 1) (aac (mC (.int 2)) mNil)))))
 wB)):=rfl
theorem aoi {n:Nat} (hn:n=2∨n=3) {x0:Option AV} (ms:List Int):∃ S',wB [x0,some (.ref 0),some (.pv (.int n)),none,none,none,none,none,none,none,none,none,none,none] [.lst (li ms)]=.rt (.pv (.bl true)) S':=by
 have hr:Row [.lst (li ms)] 0 ms:=rfl
 obtain ⟨v,n1,e1,G⟩:=farg n hn hr
 simp only [List.set_cons_zero] at e1
 have e1:ac2 [.ref 0,.pv (.int (n:Int))] [.lst (li ms)]=.ok (.pv v) [.lst (li n1)]:=e1
 obtain ⟨ys,y,rfl,P⟩:=G
 have Gc:Gu n 100 (ys++[y]):=⟨ys,y,rfl,P⟩
 generalize ys++[y]=c at *
 have e1:ac2 [.ref 0,.pv (.int (n:Int))] [.lst (li ms)]=.ok (.pv (tv c)) [.lst (li n1)]:=e1
 obtain ⟨ts,n2,e2,l2,g2⟩:=aeG hn (ab0 0 n) n1 none
 have l2:ts.length=n:=by rw [l2]; unfold ab0; simp
 have rg:=rgn [.lst (li n1)] (n:=n) (by omega)
 have hr2:∀ ms L,Row [.lst (li ms),.lst L] 0 ms:=fun _ _=>rfl
 obtain ⟨q,n3,e3,q0,q1,_⟩:=abd (m:=4) (hr2 n2 (ts.map tv)) (by decide) (sm8 (by decide) (by decide))
 obtain ⟨a,n4,e4,a0,a1,_⟩:=abd (m:=4) (hr2 n3 (ts.map tv)) (by decide) (sm8 (by decide) (by decide))
 obtain ⟨b,n5,e5,b0,b1,_⟩:=abd (m:=5) (hr2 n4 (ts.map tv)) (by decide) (sm8 (by decide) (by decide))
 simp only [List.set_cons_zero] at e3 e4 e5
 have ba:Bd 2 (a - 2):=Bd.of (n:=2) (by omega) (by decide)
 have bb:Bd 2 (b - 2):=Bd.of (n:=2) (by omega) (by decide)
 unfold wB
 have hq:(q == 3)=true∨(q == 3)=false:=by cases (q == 3) <;> simp
 rcases hn with rfl | rfl
 ·match ts,l2,g2 with
  | [f,g],_,g2 =>
   have gf:=g2 f (by simp)
   have gg:=g2 g (by simp)
   simp only [List.map_cons,List.map_nil] at e2 e3 e4 e5
   have e3:aaq [.ref 0,.pv (.int 4)] [.lst (li n2),.lst [tv f,tv g]]=.ok (.pv (.int q)) [.lst (li n3),.lst [tv f,tv g]]:=e3
   have e4:aaq [.ref 0,.pv (.int 4)] [.lst (li n3),.lst [tv f,tv g]]=.ok (.pv (.int a)) [.lst (li n4),.lst [tv f,tv g]]:=e4
   obtain ⟨t,ej,gt⟩:=agN [.lst (li n4),.lst [tv f,tv g]] (.inl rfl) ba gf gf (by decide) (by decide)
   have i2:ixN 2 (-1)=some 1:=rfl
   rcases hq with hq | hq
   ·obtain ⟨S',ef⟩:=fin2 (ns:=n4) (x0:=x0) (x5:=some (.pv (tv t))) Gc (gf.mono (by decide)) (gt.mono (by decide))
    refine ⟨S',?_⟩
    rw [← ef]
    generalize rB=RB at *
    have n3:(((2:Nat):Int) == 3)=false:=rfl
    generalize ((2:Nat):Int)=N at *
    generalize ab0 0 2=IP at *
    generalize tv t=T at *
    generalize tv f=F at *
    generalize tv g=G at *
    generalize tv c=C at *
    simp [EC,fAbs,aal,aak,fIx,atI,ixN,fEq,fNe,eqN,aao,aam,aap,aan,fAdd,aai,frz,aau,n3,hq,e1,ac0,abe,rg,cmpR,e2,e3,e4,ej,abR,acM,aef,i2]
   ·obtain ⟨S',ef⟩:=fin2 (ns:=n3) (x0:=x0) (x5:=none) Gc (gf.mono (by decide)) (gg.mono (by decide))
    refine ⟨S',?_⟩
    rw [← ef]
    generalize rB=RB at *
    generalize ((2:Nat):Int)=N at *
    generalize ab0 0 2=IP at *
    generalize tv f=F at *
    generalize tv g=G at *
    generalize tv c=C at *
    simp [EC,fAbs,aal,aak,fIx,atI,ixN,fEq,fNe,eqN,aao,aam,aap,aan,fAdd,aai,frz,aau,hq,e1,ac0,abe,rg,cmpR,e2,e3]
 ·match ts,l2,g2 with
  | [f,g,h],_,g2 =>
   have gf:=g2 f (by simp)
   have gg:=g2 g (by simp)
   have gh:=g2 h (by simp)
   simp only [List.map_cons,List.map_nil] at e2 e3 e4 e5
   have e3:aaq [.ref 0,.pv (.int 4)] [.lst (li n2),.lst [tv f,tv g,tv h]]=.ok (.pv (.int q)) [.lst (li n3),.lst [tv f,tv g,tv h]]:=e3
   have e4:aaq [.ref 0,.pv (.int 4)] [.lst (li n3),.lst [tv f,tv g,tv h]]=.ok (.pv (.int a)) [.lst (li n4),.lst [tv f,tv g,tv h]]:=e4
   have e5:aaq [.ref 0,.pv (.int 5)] [.lst (li n4),.lst [tv f,tv g,tv h]]=.ok (.pv (.int b)) [.lst (li n5),.lst [tv f,tv g,tv h]]:=e5
   obtain ⟨t,ej,gt⟩:=agN [.lst (li n4),.lst [tv f,tv g,tv h]] (.inr rfl) ba gf gf (by decide) (by decide)
   obtain ⟨u,ek,gu⟩:=agN [.lst (li n5),.lst [tv f,tv g,tv h]] (.inr rfl) bb gg gt (by decide) (by decide)
   have i2:ixN 3 (-1)=some 2:=rfl
   rcases hq with hq | hq
   ·obtain ⟨S',ef⟩:=fin3 (ns:=n5) (x0:=x0) (x5:=some (.pv (tv u))) Gc (gf.mono (by decide)) (gg.mono (by decide)) (gu.mono (by decide))
    refine ⟨S',?_⟩
    rw [← ef]
    generalize rB=RB at *
    have n3:(((3:Nat):Int) == 3)=true:=rfl
    generalize ((3:Nat):Int)=N at *
    generalize ab0 0 3=IP at *
    generalize tv u=U at *
    generalize tv t=T at *
    generalize tv f=F at *
    generalize tv g=G at *
    generalize tv h=H at *
    generalize tv c=C at *
    simp [EC,fAbs,aal,aak,fIx,atI,ixN,fEq,fNe,eqN,aao,aam,aap,aan,fAdd,aai,frz,aau,n3,hq,e1,ac0,abe,rg,cmpR,e2,e3,e4,e5,ej,ek,abR,acM,aef,i2]
   ·obtain ⟨S',ef⟩:=fin3 (ns:=n3) (x0:=x0) (x5:=none) Gc (gf.mono (by decide)) (gg.mono (by decide)) (gh.mono (by decide))
    refine ⟨S',?_⟩
    rw [← ef]
    generalize rB=RB at *
    generalize ((3:Nat):Int)=N at *
    generalize ab0 0 3=IP at *
    generalize tv f=F at *
    generalize tv g=G at *
    generalize tv h=H at *
    generalize tv c=C at *
    simp [EC,fAbs,aal,aak,fIx,atI,ixN,fEq,fNe,eqN,aao,aam,aap,aan,fAdd,aai,frz,aau,hq,e1,ac0,abe,rg,cmpR,e2,e3]
theorem akl (ns:List Int) (h:ns.length≤63):∃ S,amg [.pv (.lst (ns.map .int))] []=.ok (.pv (.bl true)) S:=by
 obtain ⟨ms,e0,_⟩:=anV ns [] h
 have e0:adV [.pv (.lst (ns.map .int))] []=.ok (.ref 0) [.lst (li ms)]:=e0
 obtain ⟨d,n1,e1,d0,d1,_⟩:=abd (m:=2) (show Row [.lst (li ms)] 0 ms from rfl) (by decide) (sm8 (by decide) (by decide))
 have e1:aaq [.ref 0,.pv (.int 2)] [.lst (li ms)]=.ok (.pv (.int d)) [.lst (li n1)]:=e1
 obtain ⟨n,en,hn⟩:∃ n:Nat,2+d=(n:Int)∧(n=2∨n=3):=⟨(2+d).toNat,by omega,by omega⟩
 have a2:fAdd (.int 2) (.int d)=some (.int n):=by rw [fAdd,en]
 obtain ⟨S',ew⟩:=aoi hn (x0:=some (.pv (.lst (ns.map .int)))) n1
 refine ⟨[],?_⟩
 generalize ns.map PV.int=NL at *
 generalize (n:Int)=N at *
 unfold amg fnM
 rw [aoz]
 generalize wB=WB at *
 simp [EC,fAbs,aal,aak,fIx,atI,ixN,fEq,fNe,eqN,aao,aam,aap,aan,aai,frz,aau,e0,e1,a2,ew]
theorem all_mk {l:PySem.W.OpenLaw} {w:World} {K:PySem.W.Frag} {h:Heap} {mg:Str→Option Value} {fa:Addr} (X:K.In h) (G:h.Ns mainGlobals mg) (hfa:mg "law"=some (.ref fa))
  {f24:Addr} {od24 an24:Option Addr} {sl24:Array (Option Value)} {oc24 kV24 dc24 pm24 cd24 ct24:Value}
  (a24:PySem.W.nsIn K mainGlobals "_law_row"=some (some (.ref f24))) (l24:K.lookup f24=some ⟨oc24,od24,.func (PySem.W.fnOf "_law_row" "_law_row" (aaz afg) (aat afg) (aad afg) .none kV24 dc24 pm24 an24 cd24 ct24),sl24⟩) (c24:PySem.W.codeIn K cd24 "_law_row"=true) (k24:PySem.W.keepIn K (.ref f24)=true)
  {f25:Addr} {od25 an25:Option Addr} {sl25:Array (Option Value)} {oc25 kV25 dc25 pm25 cd25 ct25:Value}
  (a25:PySem.W.nsIn K mainGlobals "_law_take"=some (some (.ref f25))) (l25:K.lookup f25=some ⟨oc25,od25,.func (PySem.W.fnOf "_law_take" "_law_take" (aaz adJ) (aat adJ) (aad adJ) .none kV25 dc25 pm25 an25 cd25 ct25),sl25⟩) (c25:PySem.W.codeIn K cd25 "_law_take"=true) (k25:PySem.W.keepIn K (.ref f25)=true)
  {f26:Addr} {od26 an26:Option Addr} {sl26:Array (Option Value)} {oc26 kV26 dc26 pm26 cd26 ct26:Value}
  (a26:PySem.W.nsIn K mainGlobals "_law_gcd"=some (some (.ref f26))) (l26:K.lookup f26=some ⟨oc26,od26,.func (PySem.W.fnOf "_law_gcd" "_law_gcd" (aaz ae9) (aat ae9) (aad ae9) .none kV26 dc26 pm26 an26 cd26 ct26),sl26⟩) (c26:PySem.W.codeIn K cd26 "_law_gcd"=true) (k26:PySem.W.keepIn K (.ref f26)=true)
  {f27:Addr} {od27 an27:Option Addr} {sl27:Array (Option Value)} {oc27 kV27 dc27 pm27 cd27 ct27:Value}
  (a27:PySem.W.nsIn K mainGlobals "_law_lowest"=some (some (.ref f27))) (l27:K.lookup f27=some ⟨oc27,od27,.func (PySem.W.fnOf "_law_lowest" "_law_lowest" (aaz ace) (aat ace) (aad ace) .none kV27 dc27 pm27 an27 cd27 ct27),sl27⟩) (c27:PySem.W.codeIn K cd27 "_law_lowest"=true) (k27:PySem.W.keepIn K (.ref f27)=true)
  {f40:Addr} {od40 an40:Option Addr} {sl40:Array (Option Value)} {oc40 kV40 dc40 pm40 cd40 ct40:Value}
  (a40:PySem.W.nsIn K mainGlobals "_law_far"=some (some (.ref f40))) (l40:K.lookup f40=some ⟨oc40,od40,.func (PySem.W.fnOf "_law_far" "_law_far" (aaz aeg) (aat aeg) (aad aeg) .none kV40 dc40 pm40 an40 cd40 ct40),sl40⟩) (c40:PySem.W.codeIn K cd40 "_law_far"=true) (k40:PySem.W.keepIn K (.ref f40)=true)
  {f41:Addr} {od41 an41:Option Addr} {sl41:Array (Option Value)} {oc41 kV41 dc41 pm41 cd41 ct41:Value}
  (a41:PySem.W.nsIn K mainGlobals "_law_shift"=some (some (.ref f41))) (l41:K.lookup f41=some ⟨oc41,od41,.func (PySem.W.fnOf "_law_shift" "_law_shift" (aaz acC) (aat acC) (aad acC) .none kV41 dc41 pm41 an41 cd41 ct41),sl41⟩) (c41:PySem.W.codeIn K cd41 "_law_shift"=true) (k41:PySem.W.keepIn K (.ref f41)=true)
  {f30:Addr} {od30 an30:Option Addr} {sl30:Array (Option Value)} {oc30 kV30 dc30 pm30 cd30 ct30:Value}
  (a30:PySem.W.nsIn K mainGlobals "_law_joined"=some (some (.ref f30))) (l30:K.lookup f30=some ⟨oc30,od30,.func (PySem.W.fnOf "_law_joined" "_law_joined" (aaz acg) (aat acg) (aad acg) .none kV30 dc30 pm30 an30 cd30 ct30),sl30⟩) (c30:PySem.W.codeIn K cd30 "_law_joined"=true) (k30:PySem.W.keepIn K (.ref f30)=true)
  {f5:Addr} {od5 an5:Option Addr} {sl5:Array (Option Value)} {oc5 kV5 dc5 pm5 cd5 ct5:Value}
  (a5:PySem.W.nsIn K mainGlobals "sign"=some (some (.ref f5))) (l5:K.lookup f5=some ⟨oc5,od5,.func (PySem.W.fnOf "sign" "sign" (aaz afj) (aat afj) (aad afj) .none kV5 dc5 pm5 an5 cd5 ct5),sl5⟩) (c5:PySem.W.codeIn K cd5 "sign"=true) (k5:PySem.W.keepIn K (.ref f5)=true)
  {f11:Addr} {od11 an11:Option Addr} {sl11:Array (Option Value)} {oc11 kV11 dc11 pm11 cd11 ct11:Value}
  (a11:PySem.W.nsIn K mainGlobals "whole_arrow"=some (some (.ref f11))) (l11:K.lookup f11=some ⟨oc11,od11,.func (PySem.W.fnOf "whole_arrow" "whole_arrow" (aaz abm) (aat abm) (aad abm) .none kV11 dc11 pm11 an11 cd11 ct11),sl11⟩) (c11:PySem.W.codeIn K cd11 "whole_arrow"=true) (k11:PySem.W.keepIn K (.ref f11)=true)
  {f12:Addr} {od12 an12:Option Addr} {sl12:Array (Option Value)} {oc12 kV12 dc12 pm12 cd12 ct12:Value}
  (a12:PySem.W.nsIn K mainGlobals "dot"=some (some (.ref f12))) (l12:K.lookup f12=some ⟨oc12,od12,.func (PySem.W.fnOf "dot" "dot" (aaz agG) (aat agG) (aad agG) .none kV12 dc12 pm12 an12 cd12 ct12),sl12⟩) (c12:PySem.W.codeIn K cd12 "dot"=true) (k12:PySem.W.keepIn K (.ref f12)=true)
  {f13:Addr} {od13 an13:Option Addr} {sl13:Array (Option Value)} {oc13 kV13 dc13 pm13 cd13 ct13:Value}
  (a13:PySem.W.nsIn K mainGlobals "normal"=some (some (.ref f13))) (l13:K.lookup f13=some ⟨oc13,od13,.func (PySem.W.fnOf "normal" "normal" (aaz acZ) (aat acZ) (aad acZ) .none kV13 dc13 pm13 an13 cd13 ct13),sl13⟩) (c13:PySem.W.codeIn K cd13 "normal"=true) (k13:PySem.W.keepIn K (.ref f13)=true)
  {f14:Addr} {od14 an14:Option Addr} {sl14:Array (Option Value)} {oc14 kV14 dc14 pm14 cd14 ct14:Value}
  (a14:PySem.W.nsIn K mainGlobals "determinant"=some (some (.ref f14))) (l14:K.lookup f14=some ⟨oc14,od14,.func (PySem.W.fnOf "determinant" "determinant" (aaz abq) (aat abq) (aad abq) .none kV14 dc14 pm14 an14 cd14 ct14),sl14⟩) (c14:PySem.W.codeIn K cd14 "determinant"=true) (k14:PySem.W.keepIn K (.ref f14)=true)
  {f15:Addr} {od15 an15:Option Addr} {sl15:Array (Option Value)} {oc15 kV15 dc15 pm15 cd15 ct15:Value}
  (a15:PySem.W.nsIn K mainGlobals "side"=some (some (.ref f15))) (l15:K.lookup f15=some ⟨oc15,od15,.func (PySem.W.fnOf "side" "side" (aaz aeX) (aat aeX) (aad aeX) .none kV15 dc15 pm15 an15 cd15 ct15),sl15⟩) (c15:PySem.W.codeIn K cd15 "side"=true) (k15:PySem.W.keepIn K (.ref f15)=true)
  {f17:Addr} {od17 an17:Option Addr} {sl17:Array (Option Value)} {oc17 kV17 dc17 pm17 cd17 ct17:Value}
  (a17:PySem.W.nsIn K mainGlobals "simplex"=some (some (.ref f17))) (l17:K.lookup f17=some ⟨oc17,od17,.func (PySem.W.fnOf "simplex" "simplex" (aaz acv) (aat acv) (aad acv) .none kV17 dc17 pm17 an17 cd17 ct17),sl17⟩) (c17:PySem.W.codeIn K cd17 "simplex"=true) (k17:PySem.W.keepIn K (.ref f17)=true)
  {f6:Addr} {od6 an6:Option Addr} {sl6:Array (Option Value)} {oc6 kV6 dc6 pm6 cd6 ct6:Value}
  (a6:PySem.W.nsIn K mainGlobals "divisor"=some (some (.ref f6))) (l6:K.lookup f6=some ⟨oc6,od6,.func (PySem.W.fnOf "divisor" "divisor" (aaz acz) (aat acz) (aad acz) .none kV6 dc6 pm6 an6 cd6 ct6),sl6⟩) (c6:PySem.W.codeIn K cd6 "divisor"=true) (k6:PySem.W.keepIn K (.ref f6)=true)
  {f7:Addr} {od7 an7:Option Addr} {sl7:Array (Option Value)} {oc7 kV7 dc7 pm7 cd7 ct7:Value}
  (a7:PySem.W.nsIn K mainGlobals "reduced"=some (some (.ref f7))) (l7:K.lookup f7=some ⟨oc7,od7,.func (PySem.W.fnOf "reduced" "reduced" (aaz acl) (aat acl) (aad acl) .none kV7 dc7 pm7 an7 cd7 ct7),sl7⟩) (c7:PySem.W.codeIn K cd7 "reduced"=true) (k7:PySem.W.keepIn K (.ref f7)=true)
  {f9:Addr} {od9 an9:Option Addr} {sl9:Array (Option Value)} {oc9 kV9 dc9 pm9 cd9 ct9:Value}
  {T9:Addr} {tc9:Value} {td9:Option Addr} {tl9:Array (Option Value)} {tt9:Tok} {tn9:Nat}
  (a9:PySem.W.nsIn K mainGlobals "point"=some (some (.ref f9))) (l9:K.lookup f9=some ⟨oc9,od9,.func (PySem.W.fnOf "point" "point" (aaz ada) (aat ada) (aad ada) (.ref T9) kV9 dc9 pm9 an9 cd9 ct9),sl9⟩) (c9:PySem.W.codeIn K cd9 "point"=true) (k9:PySem.W.keepIn K (.ref f9)=true)
  (t9:K.lookup T9=some ⟨tc9,td9,.seq #[.int 1 tt9] tn9,tl9⟩)
  {f10:Addr} {od10 an10:Option Addr} {sl10:Array (Option Value)} {oc10 kV10 dc10 pm10 cd10 ct10:Value}
  (a10:PySem.W.nsIn K mainGlobals "added"=some (some (.ref f10))) (l10:K.lookup f10=some ⟨oc10,od10,.func (PySem.W.fnOf "added" "added" (aaz ac8) (aat ac8) (aad ac8) .none kV10 dc10 pm10 an10 cd10 ct10),sl10⟩) (c10:PySem.W.codeIn K cd10 "added"=true) (k10:PySem.W.keepIn K (.ref f10)=true)
  {f21:Addr} {od21 an21:Option Addr} {sl21:Array (Option Value)} {oc21 kV21 dc21 pm21 cd21 ct21:Value}
  (a21:PySem.W.nsIn K mainGlobals "gone"=some (some (.ref f21))) (l21:K.lookup f21=some ⟨oc21,od21,.func (PySem.W.fnOf "gone" "gone" (aaz afe) (aat afe) (aad afe) .none kV21 dc21 pm21 an21 cd21 ct21),sl21⟩) (c21:PySem.W.codeIn K cd21 "gone"=true) (k21:PySem.W.keepIn K (.ref f21)=true)
  {f22:Addr} {od22 an22:Option Addr} {sl22:Array (Option Value)} {oc22 kV22 dc22 pm22 cd22 ct22:Value}
  (a22:PySem.W.nsIn K mainGlobals "box"=some (some (.ref f22))) (l22:K.lookup f22=some ⟨oc22,od22,.func (PySem.W.fnOf "box" "box" (aaz agR) (aat agR) (aad agR) .none kV22 dc22 pm22 an22 cd22 ct22),sl22⟩) (c22:PySem.W.codeIn K cd22 "box"=true) (k22:PySem.W.keepIn K (.ref f22)=true)
  {f33:Addr} {od33 an33:Option Addr} {sl33:Array (Option Value)} {oc33 kV33 dc33 pm33 cd33 ct33:Value}
  (a33:PySem.W.nsIn K mainGlobals "_law_dot"=some (some (.ref f33))) (l33:K.lookup f33=some ⟨oc33,od33,.func (PySem.W.fnOf "_law_dot" "_law_dot" (aaz aem) (aat aem) (aad aem) .none kV33 dc33 pm33 an33 cd33 ct33),sl33⟩) (c33:PySem.W.codeIn K cd33 "_law_dot"=true) (k33:PySem.W.keepIn K (.ref f33)=true)
  {f32:Addr} {od32 an32:Option Addr} {sl32:Array (Option Value)} {oc32 kV32 dc32 pm32 cd32 ct32:Value}
  (a32:PySem.W.nsIn K mainGlobals "_law_cross"=some (some (.ref f32))) (l32:K.lookup f32=some ⟨oc32,od32,.func (PySem.W.fnOf "_law_cross" "_law_cross" (aaz acY) (aat acY) (aad acY) .none kV32 dc32 pm32 an32 cd32 ct32),sl32⟩) (c32:PySem.W.codeIn K cd32 "_law_cross"=true) (k32:PySem.W.keepIn K (.ref f32)=true)
  {f34:Addr} {od34 an34:Option Addr} {sl34:Array (Option Value)} {oc34 kV34 dc34 pm34 cd34 ct34:Value}
  (a34:PySem.W.nsIn K mainGlobals "_law_turn"=some (some (.ref f34))) (l34:K.lookup f34=some ⟨oc34,od34,.func (PySem.W.fnOf "_law_turn" "_law_turn" (aaz adA) (aat adA) (aad adA) .none kV34 dc34 pm34 an34 cd34 ct34),sl34⟩) (c34:PySem.W.codeIn K cd34 "_law_turn"=true) (k34:PySem.W.keepIn K (.ref f34)=true)
  {f31:Addr} {od31 an31:Option Addr} {sl31:Array (Option Value)} {oc31 kV31 dc31 pm31 cd31 ct31:Value}
  (a31:PySem.W.nsIn K mainGlobals "_law_gap"=some (some (.ref f31))) (l31:K.lookup f31=some ⟨oc31,od31,.func (PySem.W.fnOf "_law_gap" "_law_gap" (aaz aej) (aat aej) (aad aej) .none kV31 dc31 pm31 an31 cd31 ct31),sl31⟩) (c31:PySem.W.codeIn K cd31 "_law_gap"=true) (k31:PySem.W.keepIn K (.ref f31)=true)
  {f35:Addr} {od35 an35:Option Addr} {sl35:Array (Option Value)} {oc35 kV35 dc35 pm35 cd35 ct35:Value}
  (a35:PySem.W.nsIn K mainGlobals "_law_det"=some (some (.ref f35))) (l35:K.lookup f35=some ⟨oc35,od35,.func (PySem.W.fnOf "_law_det" "_law_det" (aaz aey) (aat aey) (aad aey) .none kV35 dc35 pm35 an35 cd35 ct35),sl35⟩) (c35:PySem.W.codeIn K cd35 "_law_det"=true) (k35:PySem.W.keepIn K (.ref f35)=true)
  {f36:Addr} {od36 an36:Option Addr} {sl36:Array (Option Value)} {oc36 kV36 dc36 pm36 cd36 ct36:Value}
  (a36:PySem.W.nsIn K mainGlobals "_law_simplex"=some (some (.ref f36))) (l36:K.lookup f36=some ⟨oc36,od36,.func (PySem.W.fnOf "_law_simplex" "_law_simplex" (aaz ab7) (aat ab7) (aad ab7) .none kV36 dc36 pm36 an36 cd36 ct36),sl36⟩) (c36:PySem.W.codeIn K cd36 "_law_simplex"=true) (k36:PySem.W.keepIn K (.ref f36)=true)
  {f28:Addr} {od28 an28:Option Addr} {sl28:Array (Option Value)} {oc28 kV28 dc28 pm28 cd28 ct28:Value}
  (a28:PySem.W.nsIn K mainGlobals "_law_whole"=some (some (.ref f28))) (l28:K.lookup f28=some ⟨oc28,od28,.func (PySem.W.fnOf "_law_whole" "_law_whole" (aaz acV) (aat acV) (aad acV) .none kV28 dc28 pm28 an28 cd28 ct28),sl28⟩) (c28:PySem.W.codeIn K cd28 "_law_whole"=true) (k28:PySem.W.keepIn K (.ref f28)=true)
  {f29:Addr} {od29 an29:Option Addr} {sl29:Array (Option Value)} {oc29 kV29 dc29 pm29 cd29 ct29:Value}
  (a29:PySem.W.nsIn K mainGlobals "_law_wholes"=some (some (.ref f29))) (l29:K.lookup f29=some ⟨oc29,od29,.func (PySem.W.fnOf "_law_wholes" "_law_wholes" (aaz acj) (aat acj) (aad acj) .none kV29 dc29 pm29 an29 cd29 ct29),sl29⟩) (c29:PySem.W.codeIn K cd29 "_law_wholes"=true) (k29:PySem.W.keepIn K (.ref f29)=true)
  {f37:Addr} {od37 an37:Option Addr} {sl37:Array (Option Value)} {oc37 kV37 dc37 pm37 cd37 ct37:Value}
  (a37:PySem.W.nsIn K mainGlobals "_law_point_form"=some (some (.ref f37))) (l37:K.lookup f37=some ⟨oc37,od37,.func (PySem.W.fnOf "_law_point_form" "_law_point_form" (aaz abD) (aat abD) (aad abD) .none kV37 dc37 pm37 an37 cd37 ct37),sl37⟩) (c37:PySem.W.codeIn K cd37 "_law_point_form"=true) (k37:PySem.W.keepIn K (.ref f37)=true)
  {f38:Addr} {od38 an38:Option Addr} {sl38:Array (Option Value)} {oc38 kV38 dc38 pm38 cd38 ct38:Value}
  (a38:PySem.W.nsIn K mainGlobals "_law_simplex_form"=some (some (.ref f38))) (l38:K.lookup f38=some ⟨oc38,od38,.func (PySem.W.fnOf "_law_simplex_form" "_law_simplex_form" (aaz aa4) (aat aa4) (aad aa4) .none kV38 dc38 pm38 an38 cd38 ct38),sl38⟩) (c38:PySem.W.codeIn K cd38 "_law_simplex_form"=true) (k38:PySem.W.keepIn K (.ref f38)=true)
  {f39:Addr} {od39 an39:Option Addr} {sl39:Array (Option Value)} {oc39 kV39 dc39 pm39 cd39 ct39:Value}
  (a39:PySem.W.nsIn K mainGlobals "_law_heap_form"=some (some (.ref f39))) (l39:K.lookup f39=some ⟨oc39,od39,.func (PySem.W.fnOf "_law_heap_form" "_law_heap_form" (aaz abx) (aat abx) (aad abx) .none kV39 dc39 pm39 an39 cd39 ct39),sl39⟩) (c39:PySem.W.codeIn K cd39 "_law_heap_form"=true) (k39:PySem.W.keepIn K (.ref f39)=true)
  {f42:Addr} {od42 an42:Option Addr} {sl42:Array (Option Value)} {oc42 kV42 dc42 pm42 cd42 ct42:Value}
  (a42:PySem.W.nsIn K mainGlobals "law"=some (some (.ref f42))) (l42:K.lookup f42=some ⟨oc42,od42,.func (PySem.W.fnOf "law" "law" (aaz aeD) (aat aeD) (aad aeD) .none kV42 dc42 pm42 an42 cd42 ct42),sl42⟩) (c42:PySem.W.codeIn K cd42 "law"=true) (k42:PySem.W.keepIn K (.ref f42)=true)
  (z1:PySem.W.nsIn K mainGlobals "abs"=some none)
  (z2:PySem.W.nsIn K mainGlobals "all"=some none)
  (z3:PySem.W.nsIn K mainGlobals "bool"=some none)
  (z4:PySem.W.nsIn K mainGlobals "enumerate"=some none)
  (z5:PySem.W.nsIn K mainGlobals "int"=some none)
  (z6:PySem.W.nsIn K mainGlobals "isinstance"=some none)
  (z7:PySem.W.nsIn K mainGlobals "len"=some none)
  (z8:PySem.W.nsIn K mainGlobals "list"=some none)
  (z9:PySem.W.nsIn K mainGlobals "range"=some none)
  (z10:PySem.W.nsIn K mainGlobals "sorted"=some none)
  (z11:PySem.W.nsIn K mainGlobals "sum"=some none)
  (z12:PySem.W.nsIn K mainGlobals "tuple"=some none)
  (z13:PySem.W.nsIn K mainGlobals "zip"=some none)
  {C1 C2 C3:Addr}
  (y1:PySem.W.nsIn K mainGlobals "Flat"=some (some (.ref C1))) (x1:PySem.W.excIn K C1 acr "ValueError.__new__"=true)
  (y2:PySem.W.nsIn K mainGlobals "HallError"=some (some (.ref C2))) (x2:PySem.W.excIn K C2 acr "ValueError.__new__"=true)
  (y3:PySem.W.nsIn K mainGlobals "NoPoint"=some (some (.ref C3))) (x3:PySem.W.excIn K C3 acr "ValueError.__new__"=true)
  (u1C1:PySem.W.findIn K (.ref C1) "__getattribute__"=some (some (.builtin "BaseException.__getattribute__"))) (u2C1:PySem.W.findIn K (.ref C1) "__getattr__"=some none) (u3C1:PySem.W.mroIn K C1 (.type "BaseException")=some true) (u4C1:PySem.W.mroIn K C1 (.type "object")=some true)
  (u5C1:PySem.W.findIn K (.ref C1) "__class__"=some (some (.builtin "object.__class__"))) (u6C1:PySem.W.specialIn K (.builtin "object.__class__") "__get__"=some (some (.builtin "getset_descriptor.__get__"))) (u7C1:PySem.W.takesIn K (.builtin "object.__class__")=some true) (u8C1:PySem.W.hasDictIn K C1=true)
  (wFlat_HallError:PySem.W.kitOne K (.ref C1) (.ref C2)=some true)
  {gk1:Tok}
  {gk2:Tok}
  {GA2:Addr} {gd2:Option Addr} {gn2:Nat} {gs2:Array (Option Value)}
  {gk3:Tok}
  {gk4:Tok}
  {GA3:Addr} {gd3:Option Addr} {gn3:Nat} {gs3:Array (Option Value)}
  {GA1:Addr} {gd1:Option Addr} {gn1:Nat} {gs1:Array (Option Value)}
  {gk5:Tok}
  {gk6:Tok}
  {gk7:Tok}
  {GA5:Addr} {gd5:Option Addr} {gn5:Nat} {gs5:Array (Option Value)}
  {gk8:Tok}
  {gk9:Tok}
  {gk10:Tok}
  {GA6:Addr} {gd6:Option Addr} {gn6:Nat} {gs6:Array (Option Value)}
  {gk11:Tok}
  {gk12:Tok}
  {gk13:Tok}
  {GA7:Addr} {gd7:Option Addr} {gn7:Nat} {gs7:Array (Option Value)}
  {gk14:Tok}
  {gk15:Tok}
  {gk16:Tok}
  {GA8:Addr} {gd8:Option Addr} {gn8:Nat} {gs8:Array (Option Value)}
  {gk17:Tok}
  {gk18:Tok}
  {gk19:Tok}
  {GA9:Addr} {gd9:Option Addr} {gn9:Nat} {gs9:Array (Option Value)}
  {gk20:Tok}
  {gk21:Tok}
  {gk22:Tok}
  {GA10:Addr} {gd10:Option Addr} {gn10:Nat} {gs10:Array (Option Value)}
  {GA4:Addr} {gd4:Option Addr} {gn4:Nat} {gs4:Array (Option Value)}
  (v1:PySem.W.nsIn K mainGlobals "FLAT_ORDERS"=some (some (.ref GA1)))
  (v2:PySem.W.nsIn K mainGlobals "SPACE_ORDERS"=some (some (.ref GA4)))
  (vl1:K.lookup GA1=some ⟨.type "tuple",gd1,.seq #[.ref GA2,.ref GA3] gn1,gs1⟩)
  (vl2:K.lookup GA2=some ⟨.type "tuple",gd2,.seq #[.int 0 gk1,.int 1 gk2] gn2,gs2⟩)
  (vl3:K.lookup GA3=some ⟨.type "tuple",gd3,.seq #[.int 1 gk3,.int 0 gk4] gn3,gs3⟩)
  (vl4:K.lookup GA4=some ⟨.type "tuple",gd4,.seq #[.ref GA5,.ref GA6,.ref GA7,.ref GA8,.ref GA9,.ref GA10] gn4,gs4⟩)
  (vl5:K.lookup GA5=some ⟨.type "tuple",gd5,.seq #[.int 0 gk5,.int 1 gk6,.int 2 gk7] gn5,gs5⟩)
  (vl6:K.lookup GA6=some ⟨.type "tuple",gd6,.seq #[.int 0 gk8,.int 2 gk9,.int 1 gk10] gn6,gs6⟩)
  (vl7:K.lookup GA7=some ⟨.type "tuple",gd7,.seq #[.int 1 gk11,.int 0 gk12,.int 2 gk13] gn7,gs7⟩)
  (vl8:K.lookup GA8=some ⟨.type "tuple",gd8,.seq #[.int 1 gk14,.int 2 gk15,.int 0 gk16] gn8,gs8⟩)
  (vl9:K.lookup GA9=some ⟨.type "tuple",gd9,.seq #[.int 2 gk17,.int 0 gk18,.int 1 gk19] gn9,gs9⟩)
  (vl10:K.lookup GA10=some ⟨.type "tuple",gd10,.seq #[.int 2 gk20,.int 1 gk21,.int 0 gk22] gn10,gs10⟩)
  : ∃ fd:FuncData,(∀ (s:Shared) (v:Value),BindsTo s fd ⟨[v],[]⟩ [("_law_script",v)])∧∀ base:Heap,K.In base→base.Ns mainGlobals mg→FnOk l.prog w K mg base CX0 7 fa fd ["_law_script"] (aj6 K):=by
 let cl:Str→Addr:=fun n=>if n="Flat" then C1 else if n="HallError" then C2 else if n="NoPoint" then C3 else 0
 have e:=hfa.symm.trans (PySem.W.mg_of X G a42)
 cases e
 have F24:=aa2 (st:=afg) l24 c24 k24
 have F25:=aa2 (st:=adJ) l25 c25 k25
 have F26:=aa2 (st:=ae9) l26 c26 k26
 have F27:=aa2 (st:=ace) l27 c27 k27
 have F40:=aa2 (st:=aeg) l40 c40 k40
 have F41:=aa2 (st:=acC) l41 c41 k41
 have F30:=aa2 (st:=acg) l30 c30 k30
 have F5:=aa2 (st:=afj) l5 c5 k5
 have F11:=aa2 (st:=abm) l11 c11 k11
 have F12:=aa2 (st:=agG) l12 c12 k12
 have F13:=aa2 (st:=acZ) l13 c13 k13
 have F14:=aa2 (st:=abq) l14 c14 k14
 have F15:=aa2 (st:=aeX) l15 c15 k15
 have F17:=aa2 (st:=acv) l17 c17 k17
 have F6:=aa2 (st:=acz) l6 c6 k6
 have F7:=aa2 (st:=acl) l7 c7 k7
 have F9:=alj (st:=ada) l9 c9 k9 t9 rfl
 have F10:=aa2 (st:=ac8) l10 c10 k10
 have F21:=aa2 (st:=afe) l21 c21 k21
 have F22:=aa2 (st:=agR) l22 c22 k22
 have F33:=aa2 (st:=aem) l33 c33 k33
 have F32:=aa2 (st:=acY) l32 c32 k32
 have F34:=aa2 (st:=adA) l34 c34 k34
 have F31:=aa2 (st:=aej) l31 c31 k31
 have F35:=aa2 (st:=aey) l35 c35 k35
 have F36:=aa2 (st:=ab7) l36 c36 k36
 have F28:=aa2 (st:=acV) l28 c28 k28
 have F29:=aa2 (st:=acj) l29 c29 k29
 have F37:=aa2 (st:=abD) l37 c37 k37
 have F38:=aa2 (st:=aa4) l38 c38 k38
 have F39:=aa2 (st:=abx) l39 c39 k39
 have F42:=aa2 (st:=aeD) l42 c42 k42
 have b24:=F24.binds (ps:=["_law_script"]) fun _ _ _ _ _ _ us hl=>match us,hl with | [_],_=>rfl
 have b25:=F25.binds (ps:=["_law_row_here","_law_many"]) fun _ _ _ _ _ _ us hl=>match us,hl with | [_,_],_=>rfl
 have b26:=F26.binds (ps:=["_law_one","_law_other"]) fun _ _ _ _ _ _ us hl=>match us,hl with | [_,_],_=>rfl
 have b27:=F27.binds (ps:=["_law_numbers"]) fun _ _ _ _ _ _ us hl=>match us,hl with | [_],_=>rfl
 have b40:=F40.binds (ps:=["_law_row_here","_law_dims"]) fun _ _ _ _ _ _ us hl=>match us,hl with | [_,_],_=>rfl
 have b41:=F41.binds (ps:=["_law_row_here","_law_dims"]) fun _ _ _ _ _ _ us hl=>match us,hl with | [_,_],_=>rfl
 have b30:=F30.binds (ps:=["_law_p","_law_q","_law_way"]) fun _ _ _ _ _ _ us hl=>match us,hl with | [_,_,_],_=>rfl
 have b5:=F5.binds (ps:=["number"]) fun _ _ _ _ _ _ us hl=>match us,hl with | [_],_=>rfl
 have b11:=F11.binds (ps:=["start","end"]) fun _ _ _ _ _ _ us hl=>match us,hl with | [_,_],_=>rfl
 have b12:=F12.binds (ps:=["u","v"]) fun _ _ _ _ _ _ us hl=>match us,hl with | [_,_],_=>rfl
 have b13:=F13.binds (ps:=["arrows"]) fun _ _ _ _ _ _ us hl=>match us,hl with | [_],_=>rfl
 have b14:=F14.binds (ps:=["points"]) fun _ _ _ _ _ _ us hl=>match us,hl with | [_],_=>rfl
 have b15:=F15.binds (ps:=["points"]) fun _ _ _ _ _ _ us hl=>match us,hl with | [_],_=>rfl
 have b17:=F17.binds (ps:=["points"]) fun _ _ _ _ _ _ us hl=>match us,hl with | [_],_=>rfl
 have b6:=F6.binds (ps:=["one","other"]) fun _ _ _ _ _ _ us hl=>match us,hl with | [_,_],_=>rfl
 have b7:=F7.binds (ps:=["numbers"]) fun _ _ _ _ _ _ us hl=>match us,hl with | [_],_=>rfl
 have b9:=F9.binds (ps:=["numbers","bottom"]) (dd:=[]) fun _ _ _ _ _ _ _ us hl=>match us,hl with | [_,_],_=>⟨_,rfl,rfl⟩
 have bD9:=F9.binds (ps:=["numbers","bottom"]) (dd:=[.int 1 tt9]) fun _ _ _ _ _ _ _ us hl=>match us,(show us.length=1 by simpa using hl) with | [_],_=>⟨_,rfl,rfl⟩
 have b10:=F10.binds (ps:=["p","q"]) fun _ _ _ _ _ _ us hl=>match us,hl with | [_,_],_=>rfl
 have b21:=F21.binds (ps:=["corner","arrows","order"]) fun _ _ _ _ _ _ us hl=>match us,hl with | [_,_,_],_=>rfl
 have b22:=F22.binds (ps:=["corner","arrows"]) fun _ _ _ _ _ _ us hl=>match us,hl with | [_,_],_=>rfl
 have b33:=F33.binds (ps:=["_law_u","_law_v"]) fun _ _ _ _ _ _ us hl=>match us,hl with | [_,_],_=>rfl
 have b32:=F32.binds (ps:=["_law_u","_law_v"]) fun _ _ _ _ _ _ us hl=>match us,hl with | [_,_],_=>rfl
 have b34:=F34.binds (ps:=["_law_ways"]) fun _ _ _ _ _ _ us hl=>match us,hl with | [_],_=>rfl
 have b31:=F31.binds (ps:=["_law_p","_law_q"]) fun _ _ _ _ _ _ us hl=>match us,hl with | [_,_],_=>rfl
 have b35:=F35.binds (ps:=["_law_points"]) fun _ _ _ _ _ _ us hl=>match us,hl with | [_],_=>rfl
 have b36:=F36.binds (ps:=["_law_points"]) fun _ _ _ _ _ _ us hl=>match us,hl with | [_],_=>rfl
 have b28:=F28.binds (ps:=["_law_number"]) fun _ _ _ _ _ _ us hl=>match us,hl with | [_],_=>rfl
 have b29:=F29.binds (ps:=["_law_told","_law_many"]) fun _ _ _ _ _ _ us hl=>match us,hl with | [_,_],_=>rfl
 have b37:=F37.binds (ps:=["_law_p","_law_many"]) fun _ _ _ _ _ _ us hl=>match us,hl with | [_,_],_=>rfl
 have b38:=F38.binds (ps:=["_law_points","_law_many"]) fun _ _ _ _ _ _ us hl=>match us,hl with | [_,_],_=>rfl
 have b39:=F39.binds (ps:=["_law_heap","_law_many"]) fun _ _ _ _ _ _ us hl=>match us,hl with | [_,_],_=>rfl
 have m_abs:=PySem.W.mg_none_of X G z1
 have m_all:=PySem.W.mg_none_of X G z2
 have m_bool:=PySem.W.mg_none_of X G z3
 have m_enumerate:=PySem.W.mg_none_of X G z4
 have m_int:=PySem.W.mg_none_of X G z5
 have m_isinstance:=PySem.W.mg_none_of X G z6
 have m_len:=PySem.W.mg_none_of X G z7
 have m_list:=PySem.W.mg_none_of X G z8
 have m_range:=PySem.W.mg_none_of X G z9
 have m_sorted:=PySem.W.mg_none_of X G z10
 have m_sum:=PySem.W.mg_none_of X G z11
 have m_tuple:=PySem.W.mg_none_of X G z12
 have m_zip:=PySem.W.mg_none_of X G z13
 have q_Flat:mg "Flat"=some (.ref (cl "Flat")):=PySem.W.mg_of X G y1
 have x_Flat:PySem.W.excIn K (cl "Flat") acr "ValueError.__new__"=true:=x1
 have q_HallError:mg "HallError"=some (.ref (cl "HallError")):=PySem.W.mg_of X G y2
 have x_HallError:PySem.W.excIn K (cl "HallError") acr "ValueError.__new__"=true:=x2
 have q_NoPoint:mg "NoPoint"=some (.ref (cl "NoPoint")):=PySem.W.mg_of X G y3
 have x_NoPoint:PySem.W.excIn K (cl "NoPoint") acr "ValueError.__new__"=true:=x3
 have Z_Flat:XCls K (cl "Flat"):=⟨u1C1,u2C1,u3C1,u4C1,u5C1,u6C1,u7C1,(by obtain ⟨cd,hc,_⟩:=PySem.W.any_some u8C1; show (PySem.W.clsIn K C1).isSome=true; rw [hc]; rfl)⟩
 have gt_FLAT_ORDERS:GlT K mg "FLAT_ORDERS" (.tup [.tup [.int 0,.int 1],.tup [.int 1,.int 0]]):=⟨_,.ref GA1,PySem.W.mg_of X G v1,rfl,(abW (vs:=[.ref GA2,.ref GA3]) vl1 (by show 2≤PySem.sizeLine; decide) (.cons rfl (.cons rfl .nil)) (by show 2≤PySem.sizeLine; decide) (aaw (abW (vs:=[.int 0,.int 1]) vl2 (by show 2≤PySem.sizeLine; decide) (.cons ⟨_,rfl⟩ (.cons ⟨_,rfl⟩ .nil)) (by show 2≤PySem.sizeLine; decide) (aaw aa6 (aaw aa6 abX))) (aaw (abW (vs:=[.int 1,.int 0]) vl3 (by show 2≤PySem.sizeLine; decide) (.cons ⟨_,rfl⟩ (.cons ⟨_,rfl⟩ .nil)) (by show 2≤PySem.sizeLine; decide) (aaw aa6 (aaw aa6 abX))) abX)))⟩
 have gt_SPACE_ORDERS:GlT K mg "SPACE_ORDERS" (.tup [.tup [.int 0,.int 1,.int 2],.tup [.int 0,.int 2,.int 1],.tup [.int 1,.int 0,.int 2],.tup [.int 1,.int 2,.int 0],.tup [.int 2,.int 0,.int 1],.tup [.int 2,.int 1,.int 0]]):=⟨_,.ref GA4,PySem.W.mg_of X G v2,rfl,(abW (vs:=[.ref GA5,.ref GA6,.ref GA7,.ref GA8,.ref GA9,.ref GA10]) vl4 (by show 6≤PySem.sizeLine; decide) (.cons rfl (.cons rfl (.cons rfl (.cons rfl (.cons rfl (.cons rfl .nil)))))) (by show 6≤PySem.sizeLine; decide) (aaw (abW (vs:=[.int 0,.int 1,.int 2]) vl5 (by show 3≤PySem.sizeLine; decide) (.cons ⟨_,rfl⟩ (.cons ⟨_,rfl⟩ (.cons ⟨_,rfl⟩ .nil))) (by show 3≤PySem.sizeLine; decide) (aaw aa6 (aaw aa6 (aaw aa6 abX)))) (aaw (abW (vs:=[.int 0,.int 2,.int 1]) vl6 (by show 3≤PySem.sizeLine; decide) (.cons ⟨_,rfl⟩ (.cons ⟨_,rfl⟩ (.cons ⟨_,rfl⟩ .nil))) (by show 3≤PySem.sizeLine; decide) (aaw aa6 (aaw aa6 (aaw aa6 abX)))) (aaw (abW (vs:=[.int 1,.int 0,.int 2]) vl7 (by show 3≤PySem.sizeLine; decide) (.cons ⟨_,rfl⟩ (.cons ⟨_,rfl⟩ (.cons ⟨_,rfl⟩ .nil))) (by show 3≤PySem.sizeLine; decide) (aaw aa6 (aaw aa6 (aaw aa6 abX)))) (aaw (abW (vs:=[.int 1,.int 2,.int 0]) vl8 (by show 3≤PySem.sizeLine; decide) (.cons ⟨_,rfl⟩ (.cons ⟨_,rfl⟩ (.cons ⟨_,rfl⟩ .nil))) (by show 3≤PySem.sizeLine; decide) (aaw aa6 (aaw aa6 (aaw aa6 abX)))) (aaw (abW (vs:=[.int 2,.int 0,.int 1]) vl9 (by show 3≤PySem.sizeLine; decide) (.cons ⟨_,rfl⟩ (.cons ⟨_,rfl⟩ (.cons ⟨_,rfl⟩ .nil))) (by show 3≤PySem.sizeLine; decide) (aaw aa6 (aaw aa6 (aaw aa6 abX)))) (aaw (abW (vs:=[.int 2,.int 1,.int 0]) vl10 (by show 3≤PySem.sizeLine; decide) (.cons ⟨_,rfl⟩ (.cons ⟨_,rfl⟩ (.cons ⟨_,rfl⟩ .nil))) (by show 3≤PySem.sizeLine; decide) (aaw aa6 (aaw aa6 (aaw aa6 abX)))) abX)))))))⟩
 have n24:=PySem.W.mg_of X G a24
 have n25:=PySem.W.mg_of X G a25
 have n26:=PySem.W.mg_of X G a26
 have n27:=PySem.W.mg_of X G a27
 have n40:=PySem.W.mg_of X G a40
 have n41:=PySem.W.mg_of X G a41
 have n30:=PySem.W.mg_of X G a30
 have n5:=PySem.W.mg_of X G a5
 have n11:=PySem.W.mg_of X G a11
 have n12:=PySem.W.mg_of X G a12
 have n13:=PySem.W.mg_of X G a13
 have n14:=PySem.W.mg_of X G a14
 have n15:=PySem.W.mg_of X G a15
 have n17:=PySem.W.mg_of X G a17
 have n6:=PySem.W.mg_of X G a6
 have n7:=PySem.W.mg_of X G a7
 have n9:=PySem.W.mg_of X G a9
 have n10:=PySem.W.mg_of X G a10
 have n21:=PySem.W.mg_of X G a21
 have n22:=PySem.W.mg_of X G a22
 have n33:=PySem.W.mg_of X G a33
 have n32:=PySem.W.mg_of X G a32
 have n34:=PySem.W.mg_of X G a34
 have n31:=PySem.W.mg_of X G a31
 have n35:=PySem.W.mg_of X G a35
 have n36:=PySem.W.mg_of X G a36
 have n28:=PySem.W.mg_of X G a28
 have n29:=PySem.W.mg_of X G a29
 have n37:=PySem.W.mg_of X G a37
 have n38:=PySem.W.mg_of X G a38
 have n39:=PySem.W.mg_of X G a39
 have n42:=PySem.W.mg_of X G a42
 refine ⟨PySem.W.fnOf "law" "law" (aaz aeD) (aat aeD) (aad aeD) .none kV42 dc42 pm42 an42 cd42 ct42,fun s v=>.of_eq rfl,fun base _ _=>?_⟩
 have G24:=amf (P:=l.prog) (w:=w) (mg:=mg) (base:=base) (cl:=cl) F24 m_enumerate
 have C24:Cal l.prog w K mg base cl "_law_row" 1 ["_law_script"] adV:=⟨_,_,G24,b24,k24,n24⟩
 have G25:=aj1 (P:=l.prog) (w:=w) (mg:=mg) (base:=base) (cl:=cl) F25 m_len
 have C25:Cal l.prog w K mg base cl "_law_take" 1 ["_law_row_here","_law_many"] aaq:=⟨_,_,G25,b25,k25,n25⟩
 have G26:=al7 (P:=l.prog) (w:=w) (mg:=mg) (base:=base) (cl:=cl) F26 m_abs
 have C26:Cal l.prog w K mg base cl "_law_gcd" 1 ["_law_one","_law_other"] aeK:=⟨_,_,G26,b26,k26,n26⟩
 have G27:=ahT (P:=l.prog) (w:=w) (mg:=mg) (base:=base) (cl:=cl) F27 C26 m_tuple
 have C27:Cal l.prog w K mg base cl "_law_lowest" 2 ["_law_numbers"] aaK:=⟨_,_,G27,b27,k27,n27⟩
 have G40:=amc (P:=l.prog) (w:=w) (mg:=mg) (base:=base) (cl:=cl) F40 C25 C27 m_range
 have C40:Cal l.prog w K mg base cl "_law_far" 3 ["_law_row_here","_law_dims"] ac2:=⟨_,_,G40,b40,k40,n40⟩
 have G41:=ajv (P:=l.prog) (w:=w) (mg:=mg) (base:=base) (cl:=cl) F41 C25 C27 m_range
 have C41:Cal l.prog w K mg base cl "_law_shift" 3 ["_law_row_here","_law_dims"] abC:=⟨_,_,G41,b41,k41,n41⟩
 have G30:=ahX (P:=l.prog) (w:=w) (mg:=mg) (base:=base) (cl:=cl) F30 C27 m_len m_range
 have C30:Cal l.prog w K mg base cl "_law_joined" 3 ["_law_p","_law_q","_law_way"] aaR:=⟨_,_,G30,b30,k30,n30⟩
 have G5:=amj (P:=l.prog) (w:=w) (mg:=mg) (base:=base) (cl:=cl) F5
 have C5:Cal l.prog w K mg base cl "sign" 1 ["number"] adn:=⟨_,_,G5,b5,k5,n5⟩
 have G11:=aeO (P:=l.prog) (w:=w) (mg:=mg) (base:=base) (cl:=cl) F11 m_zip
 have C11:Cal l.prog w K mg base cl "whole_arrow" 1 ["start","end"] aa9:=⟨_,_,G11,b11,k11,n11⟩
 have G12:=amN (P:=l.prog) (w:=w) (mg:=mg) (base:=base) (cl:=cl) F12 m_sum m_zip
 have C12:Cal l.prog w K mg base cl "dot" 1 ["u","v"] ah9:=⟨_,_,G12,b12,k12,n12⟩
 have G13:=aiB (P:=l.prog) (w:=w) (mg:=mg) (base:=base) (cl:=cl) F13 m_len
 have C13:Cal l.prog w K mg base cl "normal" 1 ["arrows"] acq:=⟨_,_,G13,b13,k13,n13⟩
 have G14:=aeQ (P:=l.prog) (w:=w) (mg:=mg) (base:=base) (cl:=cl) F14 C11 C12 C13
 have C14:Cal l.prog w K mg base cl "determinant" 2 ["points"] aa7:=⟨_,_,G14,b14,k14,n14⟩
 have G15:=amd (P:=l.prog) (w:=w) (mg:=mg) (base:=base) (cl:=cl) F15 C5 C14
 have C15:Cal l.prog w K mg base cl "side" 3 ["points"] adr:=⟨_,_,G15,b15,k15,n15⟩
 have GX17:=ah3 (P:=l.prog) (w:=w) (mg:=mg) (base:=base) (cl:=cl) F17 C15 m_sorted m_tuple q_Flat x_Flat
 have G17:=x0 GX17
 have G6:=ahO (P:=l.prog) (w:=w) (mg:=mg) (base:=base) (cl:=cl) F6 m_abs
 have C6:Cal l.prog w K mg base cl "divisor" 1 ["one","other"] acf:=⟨_,_,G6,b6,k6,n6⟩
 have G7:=ah2 (P:=l.prog) (w:=w) (mg:=mg) (base:=base) (cl:=cl) F7 C6
 have C7:Cal l.prog w K mg base cl "reduced" 2 ["numbers"] acy:=⟨_,_,G7,b7,k7,n7⟩
 have GX9:=akR (P:=l.prog) (w:=w) (mg:=mg) (base:=base) (cl:=cl) F9 C7 C5 m_list m_tuple q_NoPoint x_NoPoint
 have G9:=x0 GX9
 have G10:=aj5 (P:=l.prog) (w:=w) (mg:=mg) (base:=base) (cl:=cl) F10 G9 b9 k9 n9 m_zip
 have C10:Cal l.prog w K mg base cl "added" 4 ["p","q"] act:=⟨_,_,G10,b10,k10,n10⟩
 have G21:=amo (P:=l.prog) (w:=w) (mg:=mg) (base:=base) (cl:=cl) F21 C10
 have C21:Cal l.prog w K mg base cl "gone" 5 ["corner","arrows","order"] ad8:=⟨_,_,G21,b21,k21,n21⟩
 have GX22:=am6 (P:=l.prog) (w:=w) (mg:=mg) (base:=base) (cl:=cl) F22 GX17 G17 b17 k17 n17 C21 m_len m_tuple gt_FLAT_ORDERS gt_SPACE_ORDERS
 have G22:=x0 GX22
 have G33:=ame (P:=l.prog) (w:=w) (mg:=mg) (base:=base) (cl:=cl) F33 m_sum m_zip
 have C33:Cal l.prog w K mg base cl "_law_dot" 1 ["_law_u","_law_v"] aeZ:=⟨_,_,G33,b33,k33,n33⟩
 have G32:=ajk (P:=l.prog) (w:=w) (mg:=mg) (base:=base) (cl:=cl) F32
 have C32:Cal l.prog w K mg base cl "_law_cross" 1 ["_law_u","_law_v"] acX:=⟨_,_,G32,b32,k32,n32⟩
 have G34:=ajW (P:=l.prog) (w:=w) (mg:=mg) (base:=base) (cl:=cl) F34 C33 C32 m_len
 have C34:Cal l.prog w K mg base cl "_law_turn" 2 ["_law_ways"] abj:=⟨_,_,G34,b34,k34,n34⟩
 have G31:=al9 (P:=l.prog) (w:=w) (mg:=mg) (base:=base) (cl:=cl) F31 m_len m_range
 have C31:Cal l.prog w K mg base cl "_law_gap" 1 ["_law_p","_law_q"] adS:=⟨_,_,G31,b31,k31,n31⟩
 have G35:=alo (P:=l.prog) (w:=w) (mg:=mg) (base:=base) (cl:=cl) F35 C34 C31
 have C35:Cal l.prog w K mg base cl "_law_det" 3 ["_law_points"] acQ:=⟨_,_,G35,b35,k35,n35⟩
 have G36:=agY (P:=l.prog) (w:=w) (mg:=mg) (base:=base) (cl:=cl) F36 C35 m_sorted m_tuple
 have C36:Cal l.prog w K mg base cl "_law_simplex" 4 ["_law_points"] aaO:=⟨_,_,G36,b36,k36,n36⟩
 have G28:=ai0 (P:=l.prog) (w:=w) (mg:=mg) (base:=base) (cl:=cl) F28 m_bool m_int m_isinstance
 have C28:Cal l.prog w K mg base cl "_law_whole" 1 ["_law_number"] acI:=⟨_,_,G28,b28,k28,n28⟩
 have G29:=ahJ (P:=l.prog) (w:=w) (mg:=mg) (base:=base) (cl:=cl) F29 C28 m_all m_isinstance m_len m_tuple
 have C29:Cal l.prog w K mg base cl "_law_wholes" 2 ["_law_told","_law_many"] acx:=⟨_,_,G29,b29,k29,n29⟩
 have G37:=aeU (P:=l.prog) (w:=w) (mg:=mg) (base:=base) (cl:=cl) F37 C29 C27
 have C37:Cal l.prog w K mg base cl "_law_point_form" 3 ["_law_p","_law_many"] abn:=⟨_,_,G37,b37,k37,n37⟩
 have G38:=adY (P:=l.prog) (w:=w) (mg:=mg) (base:=base) (cl:=cl) F38 C37 C35 C36 m_all m_isinstance m_len m_tuple
 have C38:Cal l.prog w K mg base cl "_law_simplex_form" 5 ["_law_points","_law_many"] aa3:=⟨_,_,G38,b38,k38,n38⟩
 have G39:=afy (P:=l.prog) (w:=w) (mg:=mg) (base:=base) (cl:=cl) F39 C38 m_all m_isinstance m_tuple
 have C39:Cal l.prog w K mg base cl "_law_heap_form" 6 ["_law_heap","_law_many"] abh:=⟨_,_,G39,b39,k39,n39⟩
 exact (anE (P:=l.prog) (w:=w) (mg:=mg) (base:=base) (cl:=cl) F42 C24 C25 C40 C41 C30 GX22 G22 b22 k22 n22 C34 C36 C39 m_isinstance m_list m_range m_tuple q_Flat x_Flat q_HallError x_HallError Z_Flat wFlat_HallError).imp fun vs H Q E h=>ami akl h
theorem walk {l:PySem.W.OpenLaw} {q:Program} {loose:List Str} {XP:(Str→Option Value)→Heap→Prop} {YP:World→Heap→Prop} {d:DefRec} {K:Params→PySem.W.Frag} (hn:l.most=some 63) (hdf:d.params.defaults=[])
  (hY:∀ (w:World) (h:Heap),YP w h→(K w.params).In h)
  (F:∀ (w:World) (mg:Str→Option Value) (fa:Addr) (h:Heap),(K w.params).In h→h.Ns mainGlobals mg→mg d.name=some (.ref fa) →
   ∃ fd:FuncData,(∀ (s:Shared) (u:Value),BindsTo s fd ⟨[u],[]⟩ [("_law_script",u)])∧∀ base:Heap,(K w.params).In base→base.Ns mainGlobals mg→FnOk l.prog w (K w.params) mg base CX0 7 fa fd ["_law_script"] (aj6 (K w.params))) :
  PySem.W.WalkO q loose XP YP l.row.toRowW d [] (fun f vs=>PySem.call f vs) :=
 L2.walk_of (n:=63) (k:=7) (x:="_law_script") (CX:=fun _=>CX0) (sp:=fun w=>aj6 (K w.params)) hn (by decide) hdf ⟨rfl,by decide,by decide⟩ hY F (fun _ _ a ns hl _ hS=>⟨a,ns,rfl,hS,hl,fun _=>rfl⟩) fun _ _ _ _ _ z=>z
end Sc
open PySem PySem.W PyProof.Rows
set_option maxRecDepth 100000 in
set_option maxHeartbeats 0 in
theorem PySem.Challenge.cw_scissorhall_k62_boxes_told_holds : PySem.Challenge.rw_scissorhall_k62_boxes_told.Holds := by
 w_on; o_law
 refine holds_open (q:=Sc.VW) (loose:=[PySem.Str.ofString "point"]) (Xt:=fun s=>xlAt Sc.VW [] s && recOk (RowW.records (OpenRow.toRowW (OpenLaw.row PySem.Challenge.rw_scissorhall_k62_boxes_told))) s) (XP:=XL Sc.VW []) (Yf:=Hook.obs (kHook Sc.KK Sc.KA Sc.KE)) (Ya:=Hook.val (kHook Sc.KK Sc.KA Sc.KE)) (YP:=Hook.says (kHook Sc.KK Sc.KA Sc.KE)) (N:=3376) Sc.left (Hook.of (kHook Sc.KK Sc.KA Sc.KE)) (Hook.keeps (kHook Sc.KK Sc.KA Sc.KE)) (fun s e=>xl_of s (Bool.and_eq_true_iff.mp e).1) XL.keeps (by rfl) (by rfl) (by rfl) (fun s e=>recFacts_of (Bool.and_eq_true_iff.mp e).2) (by rfl) (by first | assumption | decide +kernel) (by decide +kernel) ⟨rfl,rfl,rfl,rfl,rfl,by decide +kernel⟩ ?hw ?hc
 case hw=>w_witness2
 k_fill
 refine Sc.walk (l:=PySem.Challenge.rw_scissorhall_k62_boxes_told) rfl rfl (fun w h Y=>PySem.W.kIn_of Y) ?F
 case F =>
  intro w mg fa h KX G hmg
  refine' Sc.all_mk KX G hmg ?a24 ?l24 ?c24 ?k24 ?a25 ?l25 ?c25 ?k25 ?a26 ?l26 ?c26 ?k26 ?a27 ?l27 ?c27 ?k27 ?a40 ?l40 ?c40 ?k40 ?a41 ?l41 ?c41 ?k41 ?a30 ?l30 ?c30 ?k30 ?a5 ?l5 ?c5 ?k5 ?a11 ?l11 ?c11 ?k11 ?a12 ?l12 ?c12 ?k12 ?a13 ?l13 ?c13 ?k13 ?a14 ?l14 ?c14 ?k14 ?a15 ?l15 ?c15 ?k15 ?a17 ?l17 ?c17 ?k17 ?a6 ?l6 ?c6 ?k6 ?a7 ?l7 ?c7 ?k7 ?a9 ?l9 ?c9 ?k9 ?t9 ?a10 ?l10 ?c10 ?k10 ?a21 ?l21 ?c21 ?k21 ?a22 ?l22 ?c22 ?k22 ?a33 ?l33 ?c33 ?k33 ?a32 ?l32 ?c32 ?k32 ?a34 ?l34 ?c34 ?k34 ?a31 ?l31 ?c31 ?k31 ?a35 ?l35 ?c35 ?k35 ?a36 ?l36 ?c36 ?k36 ?a28 ?l28 ?c28 ?k28 ?a29 ?l29 ?c29 ?k29 ?a37 ?l37 ?c37 ?k37 ?a38 ?l38 ?c38 ?k38 ?a39 ?l39 ?c39 ?k39 ?a42 ?l42 ?c42 ?k42 ?z1 ?z2 ?z3 ?z4 ?z5 ?z6 ?z7 ?z8 ?z9 ?z10 ?z11 ?z12 ?z13 ?y1 ?x1 ?y2 ?x2 ?y3 ?x3 ?u1C1 ?u2C1 ?u3C1 ?u4C1 ?u5C1 ?u6C1 ?u7C1 ?u8C1 ?wFlat_HallError ?v1 ?v2 ?vl1 ?vl2 ?vl3 ?vl4 ?vl5 ?vl6 ?vl7 ?vl8 ?vl9 ?vl10
  (case a24=>k_is)
  (case l24=>k_is)
  (case c24=>k_is)
  (case k24=>k_is)
  (case a25=>k_is)
  (case l25=>k_is)
  (case c25=>k_is)
  (case k25=>k_is)
  (case a26=>k_is)
  (case l26=>k_is)
  (case c26=>k_is)
  (case k26=>k_is)
  (case a27=>k_is)
  (case l27=>k_is)
  (case c27=>k_is)
  (case k27=>k_is)
  (case a40=>k_is)
  (case l40=>k_is)
  (case c40=>k_is)
  (case k40=>k_is)
  (case a41=>k_is)
  (case l41=>k_is)
  (case c41=>k_is)
  (case k41=>k_is)
  (case a30=>k_is)
  (case l30=>k_is)
  (case c30=>k_is)
  (case k30=>k_is)
  (case a5=>k_is)
  (case l5=>k_is)
  (case c5=>k_is)
  (case k5=>k_is)
  (case a11=>k_is)
  (case l11=>k_is)
  (case c11=>k_is)
  (case k11=>k_is)
  (case a12=>k_is)
  (case l12=>k_is)
  (case c12=>k_is)
  (case k12=>k_is)
  (case a13=>k_is)
  (case l13=>k_is)
  (case c13=>k_is)
  (case k13=>k_is)
  (case a14=>k_is)
  (case l14=>k_is)
  (case c14=>k_is)
  (case k14=>k_is)
  (case a15=>k_is)
  (case l15=>k_is)
  (case c15=>k_is)
  (case k15=>k_is)
  (case a17=>k_is)
  (case l17=>k_is)
  (case c17=>k_is)
  (case k17=>k_is)
  (case a6=>k_is)
  (case l6=>k_is)
  (case c6=>k_is)
  (case k6=>k_is)
  (case a7=>k_is)
  (case l7=>k_is)
  (case c7=>k_is)
  (case k7=>k_is)
  (case a9=>k_is)
  (case l9=>k_is)
  (case c9=>k_is)
  (case k9=>k_is)
  (case t9=>k_is)
  (case a10=>k_is)
  (case l10=>k_is)
  (case c10=>k_is)
  (case k10=>k_is)
  (case a21=>k_is)
  (case l21=>k_is)
  (case c21=>k_is)
  (case k21=>k_is)
  (case a22=>k_is)
  (case l22=>k_is)
  (case c22=>k_is)
  (case k22=>k_is)
  (case a33=>k_is)
  (case l33=>k_is)
  (case c33=>k_is)
  (case k33=>k_is)
  (case a32=>k_is)
  (case l32=>k_is)
  (case c32=>k_is)
  (case k32=>k_is)
  (case a34=>k_is)
  (case l34=>k_is)
  (case c34=>k_is)
  (case k34=>k_is)
  (case a31=>k_is)
  (case l31=>k_is)
  (case c31=>k_is)
  (case k31=>k_is)
  (case a35=>k_is)
  (case l35=>k_is)
  (case c35=>k_is)
  (case k35=>k_is)
  (case a36=>k_is)
  (case l36=>k_is)
  (case c36=>k_is)
  (case k36=>k_is)
  (case a28=>k_is)
  (case l28=>k_is)
  (case c28=>k_is)
  (case k28=>k_is)
  (case a29=>k_is)
  (case l29=>k_is)
  (case c29=>k_is)
  (case k29=>k_is)
  (case a37=>k_is)
  (case l37=>k_is)
  (case c37=>k_is)
  (case k37=>k_is)
  (case a38=>k_is)
  (case l38=>k_is)
  (case c38=>k_is)
  (case k38=>k_is)
  (case a39=>k_is)
  (case l39=>k_is)
  (case c39=>k_is)
  (case k39=>k_is)
  (case a42=>k_is)
  (case l42=>k_is)
  (case c42=>k_is)
  (case k42=>k_is)
  (case z1=>k_is)
  (case z2=>k_is)
  (case z3=>k_is)
  (case z4=>k_is)
  (case z5=>k_is)
  (case z6=>k_is)
  (case z7=>k_is)
  (case z8=>k_is)
  (case z9=>k_is)
  (case z10=>k_is)
  (case z11=>k_is)
  (case z12=>k_is)
  (case z13=>k_is)
  (case y1=>k_is)
  (case x1=>k_exc)
  (case y2=>k_is)
  (case x2=>k_exc)
  (case y3=>k_is)
  (case x3=>k_exc)
  (case u1C1=>k_is)
  (case u2C1=>k_is)
  (case u3C1=>k_is)
  (case u4C1=>k_is)
  (case u5C1=>k_is)
  (case u6C1=>k_is)
  (case u7C1=>k_is)
  (case u8C1=>k_is)
  (case wFlat_HallError=>kit_is)
  (case v1=>k_is)
  (case v2=>k_is)
  (case vl1=>k_is)
  (case vl2=>k_is)
  (case vl3=>k_is)
  (case vl4=>k_is)
  (case vl5=>k_is)
  (case vl6=>k_is)
  (case vl7=>k_is)
  (case vl8=>k_is)
  (case vl9=>k_is)
  (case vl10=>k_is)
#print axioms PySem.Challenge.cw_scissorhall_k62_boxes_told_holds
