import PyProof.Rows.All
import Wide.All
import OpenK.AllK
import Wide.FinOn
import Lean
import PyProof.EqAt
import PyProof.EqKinds
import PyProof.TupleCall
import PyProof.ZipIter
import PyProof.Draws
import PyProof.CompFree
import PyProof.NeKinds
import PyProof.NsDelKeeps
import PyProof.ExcArgsOwn
import PyProof.ExcAttrAll.ValueError
import KE.KSortTup
import PySem.Challenge.RW_scissorhall_k60_prisms_told
set_option Elab.async false
set_option maxRecDepth 100000
set_option maxHeartbeats 0
namespace L2
open PySem
def aaL (s:Stmt):Arguments:=match s with
 | .FunctionDef _ a _ _ _ _ _ _ _ _=>a
 | _=>{ posonlyargs:=[],args:=[],vararg:=none,kwonlyargs:=[],kw_defaults:=[],kwarg:=none,defaults:=[] }
def aaw (s:Stmt):List Stmt:=match s with
 | .FunctionDef _ _ b _ _ _ _ _ _ _=>b
 | _=>[]
def aad (s:Stmt):Scope:=match s with
 | .FunctionDef _ _ _ _ _ _ sc _ _ _=>sc
 | _=>{ kind:=.function,names:=[],isGenerator:=false,isCoroutine:=false }
end L2
namespace Sc
open PySem L2
def top (i:Nat):Stmt:=PySem.Challenge.pw_scissorhall_k60_prisms_told.main.body.getD i (.Pass ⟨0,0,0,0⟩)
abbrev vs (s:String) (t:Nat):Value:=.str (Str.ofString s) t
abbrev vi (i:Int):Value:=.int i 0
abbrev vr (a:Nat):Value:=.ref a
abbrev fo (n:String) (i:Nat) (dV dc pm cd ct:Value):Obj:=⟨.type "function",none,.func (PySem.W.fnOf (Str.ofString n) (Str.ofString n) (aaL (top i)) (aaw (top i)) (aad (top i)) dV .none dc pm none cd ct),#[]⟩
abbrev fc (l:List Value):Obj:=⟨.type "code",none,.fields l.toArray,#[]⟩
abbrev fd (P:Params) (n:Nat) (l:List (String × Nat × Value)):Obj:=⟨.type "dict",none,.dict (l.map fun e=>⟨PyData.keyHash P (Str.ofString e.1),.str (Str.ofString e.1) e.2.1,e.2.2⟩).toArray n,#[]⟩
noncomputable def KK (P:Params):PySem.W.Frag :=
 (nat_lit 3,fd P 56 [("__name__",165,vs "law_scissorhall_k60_prisms_told" 345),("__doc__",166,.none),("__package__",167,.none),("__loader__",168,(.builtin "__main__.__loader__#opaque")),("__spec__",169,.none),("__annotations__",170,vr 6),("__builtins__",171,vr 4),("__file__",173,vs "/claim/cut.py" 172),("__cached__",174,.none),("HallError",206,vr 24),("NoPoint",222,vr 37),("Flat",238,vr 49),("sign",247,vr 58),("divisor",256,vr 65),("reduced",262,vr 70),("point",271,vr 76),("added",277,vr 81),("whole_arrow",283,vr 86),("dot",289,vr 91),("normal",298,vr 98),("determinant",304,vr 103),("side",311,vr 110),("simplex",322,vr 117),("in_space",331,vr 124),("refuse_flat",338,vr 131),("prism",344,vr 136),("_law_row",359,vr 143),("_law_take",368,vr 150),("_law_gcd",376,vr 157),("_law_lowest",382,vr 162),("_law_whole",389,vr 169),("_law_wholes",395,vr 174),("_law_frac",403,vr 181),("_law_joined",409,vr 186),("_law_gap",415,vr 191),("_law_cross",426,vr 198),("_law_dot",432,vr 203),("_law_turn",439,vr 210),("_law_det",445,vr 215),("_law_simplex",453,vr 222),("_law_point_form",461,vr 229),("_law_simplex_form",467,vr 234),("_law_heap_form",473,vr 239),("_law_raw",479,vr 244),("_law_raw_turn",485,vr 249),("_law_kuhn",497,vr 256),("_law_raw_heap",509,vr 263),("_law_far",515,vr 268),("_law_stretch",526,vr 275),("_law_spot",532,vr 280),("_law_laid",538,vr 285),("_law_handed",546,vr 292),("_law_raised",553,vr 299),("_law_prism",559,vr 304),("_law_shift",565,vr 309),("law",579,vr 316)]) ::
 (nat_lit 23,fd P 3 [("__module__",196,vs "scissorhall.errors" 187),("__firstlineno__",200,(.int 2 199)),("__static_attributes__",201,vr 22),("__weakref__",203,vr 25),("__doc__",204,.none)]) ::
 (nat_lit 24,⟨(.type "type"),none,.cls { name:="HallError",bases:=[(.type "ValueError")],mro:=[vr 24,(.type "ValueError"),(.type "Exception"),(.type "BaseException"),(.type "object")],ns:=23,qualname:="HallError",hasDict:=true,subclasses:=[vr 37,vr 49] },#[some (vr 15),none,some (vs "HallError" 189),some (vs "HallError" 197),some (.builtin "ValueError.__new__"),some (.bool true)]⟩) ::
 (nat_lit 36,fd P 2 [("__module__",214,vs "scissorhall.errors" 187),("__firstlineno__",218,(.int 4 217)),("__static_attributes__",219,vr 35),("__doc__",220,.none)]) ::
 (nat_lit 37,⟨(.type "type"),none,.cls { name:="NoPoint",bases:=[vr 24],mro:=[vr 37,vr 24,(.type "ValueError"),(.type "Exception"),(.type "BaseException"),(.type "object")],ns:=36,qualname:="NoPoint",hasDict:=true,subclasses:=[] },#[some (vr 28),none,some (vs "NoPoint" 207),some (vs "NoPoint" 215),some (.builtin "ValueError.__new__"),some (.bool true)]⟩) ::
 (nat_lit 48,fd P 2 [("__module__",230,vs "scissorhall.errors" 187),("__firstlineno__",234,(.int 6 233)),("__static_attributes__",235,vr 47),("__doc__",236,.none)]) ::
 (nat_lit 49,⟨(.type "type"),none,.cls { name:="Flat",bases:=[vr 24],mro:=[vr 49,vr 24,(.type "ValueError"),(.type "Exception"),(.type "BaseException"),(.type "object")],ns:=48,qualname:="Flat",hasDict:=true,subclasses:=[] },#[some (vr 40),none,some (vs "Flat" 223),some (vs "Flat" 231),some (.builtin "ValueError.__new__"),some (.bool true)]⟩) ::
 (nat_lit 57,fc [vs "sign" 241,vs "sign" 242,vs "/claim/cut.py" 243,vi 9,vi 1,vi 0,vi 0,vi 3,vr 52,(.bool true),vi 181,vr 53,.none,vr 54,vr 55,vr 56,vi 245,vi 9,vs "/claim/cut.py" 246]) ::
 (nat_lit 58,fo "sign" 5 .none .none (vs "scissorhall.lowest" 239) (vr 57) .none) ::
 (nat_lit 64,fc [vs "divisor" 248,vs "divisor" 249,vs "/claim/cut.py" 250,vi 15,vi 2,vi 0,vi 0,vi 3,vr 59,(.bool true),vi 181,vr 60,.none,vr 61,vr 62,vr 63,vi 254,vi 15,vs "/claim/cut.py" 255]) ::
 (nat_lit 65,fo "divisor" 6 .none .none (vs "scissorhall.lowest" 239) (vr 64) .none) ::
 (nat_lit 69,fc [vs "reduced" 257,vs "reduced" 258,vs "/claim/cut.py" 259,vi 21,vi 1,vi 0,vi 0,vi 3,vr 66,(.bool true),vi 181,vr 67,.none,.none,.none,vr 68,vi 260,vi 21,vs "/claim/cut.py" 261]) ::
 (nat_lit 70,fo "reduced" 7 .none .none (vs "scissorhall.lowest" 239) (vr 69) .none) ::
 (nat_lit 71,⟨.type "tuple",none,.seq #[(.int 1 265)] 0,#[]⟩) ::
 (nat_lit 75,fc [vs "point" 266,vs "point" 267,vs "/claim/cut.py" 268,vi 27,vi 2,vi 0,vi 0,vi 3,vr 72,(.bool true),vi 181,vr 73,.none,.none,.none,vr 74,vi 269,vi 27,vs "/claim/cut.py" 270]) ::
 (nat_lit 76,fo "point" 9 (vr 71) .none (vs "scissorhall.points" 263) (vr 75) .none) ::
 (nat_lit 80,fc [vs "added" 272,vs "added" 273,vs "/claim/cut.py" 274,vi 31,vi 2,vi 0,vi 0,vi 3,vr 77,(.bool true),vi 181,vr 78,.none,.none,.none,vr 79,vi 275,vi 31,vs "/claim/cut.py" 276]) ::
 (nat_lit 81,fo "added" 10 .none .none (vs "scissorhall.points" 263) (vr 80) .none) ::
 (nat_lit 85,fc [vs "whole_arrow" 278,vs "whole_arrow" 279,vs "/claim/cut.py" 280,vi 34,vi 2,vi 0,vi 0,vi 3,vr 82,(.bool true),vi 181,vr 83,.none,.none,.none,vr 84,vi 281,vi 34,vs "/claim/cut.py" 282]) ::
 (nat_lit 86,fo "whole_arrow" 11 .none .none (vs "scissorhall.points" 263) (vr 85) .none) ::
 (nat_lit 90,fc [vs "dot" 284,vs "dot" 285,vs "/claim/cut.py" 286,vi 36,vi 2,vi 0,vi 0,vi 3,vr 87,(.bool true),vi 181,vr 88,.none,.none,.none,vr 89,vi 287,vi 36,vs "/claim/cut.py" 288]) ::
 (nat_lit 91,fo "dot" 12 .none .none (vs "scissorhall.points" 263) (vr 90) .none) ::
 (nat_lit 97,fc [vs "normal" 290,vs "normal" 291,vs "/claim/cut.py" 292,vi 38,vi 1,vi 0,vi 0,vi 3,vr 92,(.bool true),vi 181,vr 93,.none,vr 94,vr 95,vr 96,vi 296,vi 38,vs "/claim/cut.py" 297]) ::
 (nat_lit 98,fo "normal" 13 .none .none (vs "scissorhall.points" 263) (vr 97) .none) ::
 (nat_lit 102,fc [vs "determinant" 299,vs "determinant" 300,vs "/claim/cut.py" 301,vi 44,vi 1,vi 0,vi 0,vi 3,vr 99,(.bool true),vi 181,vr 100,.none,.none,.none,vr 101,vi 302,vi 44,vs "/claim/cut.py" 303]) ::
 (nat_lit 103,fo "determinant" 14 .none .none (vs "scissorhall.points" 263) (vr 102) .none) ::
 (nat_lit 109,fc [vs "side" 305,vs "side" 306,vs "/claim/cut.py" 307,vi 47,vi 1,vi 0,vi 0,vi 3,vr 104,(.bool true),vi 181,vr 105,.none,vr 106,vr 107,vr 108,vi 309,vi 47,vs "/claim/cut.py" 310]) ::
 (nat_lit 110,fo "side" 15 .none .none (vs "scissorhall.points" 263) (vr 109) .none) ::
 (nat_lit 116,fc [vs "simplex" 314,vs "simplex" 315,vs "/claim/cut.py" 316,vi 50,vi 1,vi 0,vi 0,vi 3,vr 111,(.bool true),vi 181,vr 112,.none,vr 113,vr 114,vr 115,vi 320,vi 50,vs "/claim/cut.py" 321]) ::
 (nat_lit 117,fo "simplex" 17 .none .none (vs "scissorhall.simplexes" 312) (vr 116) .none) ::
 (nat_lit 123,fc [vs "in_space" 325,vs "in_space" 326,vs "/claim/cut.py" 327,vi 59,vi 1,vi 0,vi 0,vi 3,vr 118,(.bool true),vi 181,vr 119,.none,vr 120,vr 121,vr 122,vi 329,vi 59,vs "/claim/cut.py" 330]) ::
 (nat_lit 124,fo "in_space" 19 .none .none (vs "scissorhall.solids" 323) (vr 123) .none) ::
 (nat_lit 130,fc [vs "refuse_flat" 332,vs "refuse_flat" 333,vs "/claim/cut.py" 334,vi 61,vi 1,vi 0,vi 0,vi 3,vr 125,(.bool true),vi 181,vr 126,.none,vr 127,vr 128,vr 129,vi 336,vi 61,vs "/claim/cut.py" 337]) ::
 (nat_lit 131,fo "refuse_flat" 20 .none .none (vs "scissorhall.solids" 323) (vr 130) .none) ::
 (nat_lit 135,fc [vs "prism" 339,vs "prism" 340,vs "/claim/cut.py" 341,vi 64,vi 2,vi 0,vi 0,vi 3,vr 132,(.bool true),vi 181,vr 133,.none,.none,.none,vr 134,vi 342,vi 64,vs "/claim/cut.py" 343]) ::
 (nat_lit 136,fo "prism" 21 .none .none (vs "scissorhall.solids" 323) (vr 135) .none) ::
 (nat_lit 142,fc [vs "_law_row" 347,vs "_law_row" 348,vs "/claim/cut.py" 349,vi 73,vi 1,vi 0,vi 0,vi 3,vr 137,(.bool true),vi 181,vr 138,.none,vr 139,vr 140,vr 141,vi 357,vi 73,vs "/claim/cut.py" 358]) ::
 (nat_lit 143,fo "_law_row" 23 .none .none (vs "law_scissorhall_k60_prisms_told" 345) (vr 142) .none) ::
 (nat_lit 149,fc [vs "_law_take" 360,vs "_law_take" 361,vs "/claim/cut.py" 362,vi 87,vi 2,vi 0,vi 0,vi 3,vr 144,(.bool true),vi 181,vr 145,.none,vr 146,vr 147,vr 148,vi 366,vi 87,vs "/claim/cut.py" 367]) ::
 (nat_lit 150,fo "_law_take" 24 .none .none (vs "law_scissorhall_k60_prisms_told" 345) (vr 149) .none) ::
 (nat_lit 156,fc [vs "_law_gcd" 369,vs "_law_gcd" 370,vs "/claim/cut.py" 371,vi 95,vi 2,vi 0,vi 0,vi 3,vr 151,(.bool true),vi 181,vr 152,.none,vr 153,vr 154,vr 155,vi 374,vi 95,vs "/claim/cut.py" 375]) ::
 (nat_lit 157,fo "_law_gcd" 25 .none .none (vs "law_scissorhall_k60_prisms_told" 345) (vr 156) .none) ::
 (nat_lit 161,fc [vs "_law_lowest" 377,vs "_law_lowest" 378,vs "/claim/cut.py" 379,vi 101,vi 1,vi 0,vi 0,vi 3,vr 158,(.bool true),vi 181,vr 159,.none,.none,.none,vr 160,vi 380,vi 101,vs "/claim/cut.py" 381]) ::
 (nat_lit 162,fo "_law_lowest" 26 .none .none (vs "law_scissorhall_k60_prisms_told" 345) (vr 161) .none) ::
 (nat_lit 168,fc [vs "_law_whole" 383,vs "_law_whole" 384,vs "/claim/cut.py" 385,vi 108,vi 1,vi 0,vi 0,vi 3,vr 163,(.bool true),vi 181,vr 164,.none,vr 165,vr 166,vr 167,vi 387,vi 108,vs "/claim/cut.py" 388]) ::
 (nat_lit 169,fo "_law_whole" 27 .none .none (vs "law_scissorhall_k60_prisms_told" 345) (vr 168) .none) ::
 (nat_lit 173,fc [vs "_law_wholes" 390,vs "_law_wholes" 391,vs "/claim/cut.py" 392,vi 110,vi 2,vi 0,vi 0,vi 3,vr 170,(.bool true),vi 181,vr 171,.none,.none,.none,vr 172,vi 393,vi 110,vs "/claim/cut.py" 394]) ::
 (nat_lit 174,fo "_law_wholes" 28 .none .none (vs "law_scissorhall_k60_prisms_told" 345) (vr 173) .none) ::
 (nat_lit 180,fc [vs "_law_frac" 396,vs "_law_frac" 397,vs "/claim/cut.py" 398,vi 114,vi 2,vi 0,vi 0,vi 3,vr 175,(.bool true),vi 181,vr 176,.none,vr 177,vr 178,vr 179,vi 401,vi 114,vs "/claim/cut.py" 402]) ::
 (nat_lit 181,fo "_law_frac" 29 .none .none (vs "law_scissorhall_k60_prisms_told" 345) (vr 180) .none) ::
 (nat_lit 185,fc [vs "_law_joined" 404,vs "_law_joined" 405,vs "/claim/cut.py" 406,vi 118,vi 3,vi 0,vi 0,vi 3,vr 182,(.bool true),vi 181,vr 183,.none,.none,.none,vr 184,vi 407,vi 118,vs "/claim/cut.py" 408]) ::
 (nat_lit 186,fo "_law_joined" 30 .none .none (vs "law_scissorhall_k60_prisms_told" 345) (vr 185) .none) ::
 (nat_lit 190,fc [vs "_law_gap" 410,vs "_law_gap" 411,vs "/claim/cut.py" 412,vi 121,vi 2,vi 0,vi 0,vi 3,vr 187,(.bool true),vi 181,vr 188,.none,.none,.none,vr 189,vi 413,vi 121,vs "/claim/cut.py" 414]) ::
 (nat_lit 191,fo "_law_gap" 31 .none .none (vs "law_scissorhall_k60_prisms_told" 345) (vr 190) .none) ::
 (nat_lit 197,fc [vs "_law_cross" 416,vs "_law_cross" 417,vs "/claim/cut.py" 418,vi 123,vi 2,vi 0,vi 0,vi 3,vr 192,(.bool true),vi 181,vr 193,.none,vr 194,vr 195,vr 196,vi 424,vi 123,vs "/claim/cut.py" 425]) ::
 (nat_lit 198,fo "_law_cross" 32 .none .none (vs "law_scissorhall_k60_prisms_told" 345) (vr 197) .none) ::
 (nat_lit 202,fc [vs "_law_dot" 427,vs "_law_dot" 428,vs "/claim/cut.py" 429,vi 128,vi 2,vi 0,vi 0,vi 3,vr 199,(.bool true),vi 181,vr 200,.none,.none,.none,vr 201,vi 430,vi 128,vs "/claim/cut.py" 431]) ::
 (nat_lit 203,fo "_law_dot" 33 .none .none (vs "law_scissorhall_k60_prisms_told" 345) (vr 202) .none) ::
 (nat_lit 209,fc [vs "_law_turn" 433,vs "_law_turn" 434,vs "/claim/cut.py" 435,vi 130,vi 1,vi 0,vi 0,vi 3,vr 204,(.bool true),vi 181,vr 205,.none,vr 206,vr 207,vr 208,vi 437,vi 130,vs "/claim/cut.py" 438]) ::
 (nat_lit 210,fo "_law_turn" 34 .none .none (vs "law_scissorhall_k60_prisms_told" 345) (vr 209) .none) ::
 (nat_lit 214,fc [vs "_law_det" 440,vs "_law_det" 441,vs "/claim/cut.py" 442,vi 134,vi 1,vi 0,vi 0,vi 3,vr 211,(.bool true),vi 181,vr 212,.none,.none,.none,vr 213,vi 443,vi 134,vs "/claim/cut.py" 444]) ::
 (nat_lit 215,fo "_law_det" 35 .none .none (vs "law_scissorhall_k60_prisms_told" 345) (vr 214) .none) ::
 (nat_lit 221,fc [vs "_law_simplex" 446,vs "_law_simplex" 447,vs "/claim/cut.py" 448,vi 136,vi 1,vi 0,vi 0,vi 3,vr 216,(.bool true),vi 181,vr 217,.none,vr 218,vr 219,vr 220,vi 451,vi 136,vs "/claim/cut.py" 452]) ::
 (nat_lit 222,fo "_law_simplex" 36 .none .none (vs "law_scissorhall_k60_prisms_told" 345) (vr 221) .none) ::
 (nat_lit 228,fc [vs "_law_point_form" 454,vs "_law_point_form" 455,vs "/claim/cut.py" 456,vi 141,vi 2,vi 0,vi 0,vi 3,vr 223,(.bool true),vi 181,vr 224,.none,vr 225,vr 226,vr 227,vi 459,vi 141,vs "/claim/cut.py" 460]) ::
 (nat_lit 229,fo "_law_point_form" 37 .none .none (vs "law_scissorhall_k60_prisms_told" 345) (vr 228) .none) ::
 (nat_lit 233,fc [vs "_law_simplex_form" 462,vs "_law_simplex_form" 463,vs "/claim/cut.py" 464,vi 145,vi 2,vi 0,vi 0,vi 3,vr 230,(.bool true),vi 181,vr 231,.none,.none,.none,vr 232,vi 465,vi 145,vs "/claim/cut.py" 466]) ::
 (nat_lit 234,fo "_law_simplex_form" 38 .none .none (vs "law_scissorhall_k60_prisms_told" 345) (vr 233) .none) ::
 (nat_lit 238,fc [vs "_law_heap_form" 468,vs "_law_heap_form" 469,vs "/claim/cut.py" 470,vi 151,vi 2,vi 0,vi 0,vi 3,vr 235,(.bool true),vi 181,vr 236,.none,.none,.none,vr 237,vi 471,vi 151,vs "/claim/cut.py" 472]) ::
 (nat_lit 239,fo "_law_heap_form" 39 .none .none (vs "law_scissorhall_k60_prisms_told" 345) (vr 238) .none) ::
 (nat_lit 243,fc [vs "_law_raw" 474,vs "_law_raw" 475,vs "/claim/cut.py" 476,vi 155,vi 3,vi 0,vi 0,vi 3,vr 240,(.bool true),vi 181,vr 241,.none,.none,.none,vr 242,vi 477,vi 155,vs "/claim/cut.py" 478]) ::
 (nat_lit 244,fo "_law_raw" 40 .none .none (vs "law_scissorhall_k60_prisms_told" 345) (vr 243) .none) ::
 (nat_lit 248,fc [vs "_law_raw_turn" 480,vs "_law_raw_turn" 481,vs "/claim/cut.py" 482,vi 162,vi 1,vi 0,vi 0,vi 3,vr 245,(.bool true),vi 181,vr 246,.none,.none,.none,vr 247,vi 483,vi 162,vs "/claim/cut.py" 484]) ::
 (nat_lit 249,fo "_law_raw_turn" 41 .none .none (vs "law_scissorhall_k60_prisms_told" 345) (vr 248) .none) ::
 (nat_lit 255,fc [vs "_law_kuhn" 486,vs "_law_kuhn" 487,vs "/claim/cut.py" 488,vi 164,vi 1,vi 0,vi 0,vi 3,vr 250,(.bool true),vi 181,vr 251,.none,vr 252,vr 253,vr 254,vi 495,vi 164,vs "/claim/cut.py" 496]) ::
 (nat_lit 256,fo "_law_kuhn" 42 .none .none (vs "law_scissorhall_k60_prisms_told" 345) (vr 255) .none) ::
 (nat_lit 262,fc [vs "_law_raw_heap" 498,vs "_law_raw_heap" 499,vs "/claim/cut.py" 500,vi 176,vi 3,vi 0,vi 0,vi 3,vr 257,(.bool true),vi 181,vr 258,.none,vr 259,vr 260,vr 261,vi 507,vi 176,vs "/claim/cut.py" 508]) ::
 (nat_lit 263,fo "_law_raw_heap" 43 .none .none (vs "law_scissorhall_k60_prisms_told" 345) (vr 262) .none) ::
 (nat_lit 267,fc [vs "_law_far" 510,vs "_law_far" 511,vs "/claim/cut.py" 512,vi 189,vi 2,vi 0,vi 0,vi 3,vr 264,(.bool true),vi 181,vr 265,.none,.none,.none,vr 266,vi 513,vi 189,vs "/claim/cut.py" 514]) ::
 (nat_lit 268,fo "_law_far" 44 .none .none (vs "law_scissorhall_k60_prisms_told" 345) (vr 267) .none) ::
 (nat_lit 274,fc [vs "_law_stretch" 516,vs "_law_stretch" 517,vs "/claim/cut.py" 518,vi 195,vi 2,vi 0,vi 0,vi 3,vr 269,(.bool true),vi 181,vr 270,.none,vr 271,vr 272,vr 273,vi 524,vi 195,vs "/claim/cut.py" 525]) ::
 (nat_lit 275,fo "_law_stretch" 45 .none .none (vs "law_scissorhall_k60_prisms_told" 345) (vr 274) .none) ::
 (nat_lit 279,fc [vs "_law_spot" 527,vs "_law_spot" 528,vs "/claim/cut.py" 529,vi 201,vi 2,vi 0,vi 0,vi 3,vr 276,(.bool true),vi 181,vr 277,.none,.none,.none,vr 278,vi 530,vi 201,vs "/claim/cut.py" 531]) ::
 (nat_lit 280,fo "_law_spot" 46 .none .none (vs "law_scissorhall_k60_prisms_told" 345) (vr 279) .none) ::
 (nat_lit 284,fc [vs "_law_laid" 533,vs "_law_laid" 534,vs "/claim/cut.py" 535,vi 207,vi 3,vi 0,vi 0,vi 3,vr 281,(.bool true),vi 181,vr 282,.none,.none,.none,vr 283,vi 536,vi 207,vs "/claim/cut.py" 537]) ::
 (nat_lit 285,fo "_law_laid" 47 .none .none (vs "law_scissorhall_k60_prisms_told" 345) (vr 284) .none) ::
 (nat_lit 291,fc [vs "_law_handed" 539,vs "_law_handed" 540,vs "/claim/cut.py" 541,vi 213,vi 2,vi 0,vi 0,vi 3,vr 286,(.bool true),vi 181,vr 287,.none,vr 288,vr 289,vr 290,vi 544,vi 213,vs "/claim/cut.py" 545]) ::
 (nat_lit 292,fo "_law_handed" 48 .none .none (vs "law_scissorhall_k60_prisms_told" 345) (vr 291) .none) ::
 (nat_lit 298,fc [vs "_law_raised" 547,vs "_law_raised" 548,vs "/claim/cut.py" 549,vi 217,vi 1,vi 0,vi 0,vi 3,vr 293,(.bool true),vi 181,vr 294,.none,vr 295,vr 296,vr 297,vi 551,vi 217,vs "/claim/cut.py" 552]) ::
 (nat_lit 299,fo "_law_raised" 49 .none .none (vs "law_scissorhall_k60_prisms_told" 345) (vr 298) .none) ::
 (nat_lit 303,fc [vs "_law_prism" 554,vs "_law_prism" 555,vs "/claim/cut.py" 556,vi 219,vi 2,vi 0,vi 0,vi 3,vr 300,(.bool true),vi 181,vr 301,.none,.none,.none,vr 302,vi 557,vi 219,vs "/claim/cut.py" 558]) ::
 (nat_lit 304,fo "_law_prism" 50 .none .none (vs "law_scissorhall_k60_prisms_told" 345) (vr 303) .none) ::
 (nat_lit 308,fc [vs "_law_shift" 560,vs "_law_shift" 561,vs "/claim/cut.py" 562,vi 227,vi 2,vi 0,vi 0,vi 3,vr 305,(.bool true),vi 181,vr 306,.none,.none,.none,vr 307,vi 563,vi 227,vs "/claim/cut.py" 564]) ::
 (nat_lit 309,fo "_law_shift" 51 .none .none (vs "law_scissorhall_k60_prisms_told" 345) (vr 308) .none) ::
 (nat_lit 315,fc [vs "law" 566,vs "law" 567,vs "/claim/cut.py" 568,vi 236,vi 1,vi 0,vi 0,vi 3,vr 310,(.bool true),vi 181,vr 311,.none,vr 312,vr 313,vr 314,vi 577,vi 236,vs "/claim/cut.py" 578]) ::
 (nat_lit 316,fo "law" 52 .none .none (vs "law_scissorhall_k60_prisms_told" 345) (vr 315) .none) :: []
noncomputable def KA:List Nat:=[3,23,24,36,37,48,49,57,58,64,65,69,70,71,75,76,80,81,85,86,90,91,97,98,102,103,109,110,116,117,123,124,130,131,135,136,142,143,149,150,156,157,161,162,168,169,173,174,180,181,185,186,190,191,197,198,202,203,209,210,214,215,221,222,228,229,233,234,238,239,243,244,248,249,255,256,262,263,267,268,274,275,279,280,284,285,291,292,298,299,303,304,308,309,315,316]
noncomputable def VW:Program:={ PySem.Challenge.pw_scissorhall_k60_prisms_told with main:={ PySem.Challenge.pw_scissorhall_k60_prisms_told.main with body:=[top 1,top 2,top 3,top 5,top 6,top 7,top 10,top 11,top 12,top 13,top 14,top 15,top 17,top 19,top 20,top 21,top 23,top 24,top 25,top 26,top 27,top 28,top 29,top 30,top 31,top 32,top 33,top 34,top 35,top 36,top 37,top 38,top 39,top 40,top 41,top 42,top 43,top 44,top 45,top 46,top 47,top 48,top 49,top 50,top 51,top 52] } }
theorem KE:∀ P,KA = (KK P).map (·.1):=fun _=>by kernel_rfl
theorem left:PySem.W.LeftO PySem.Challenge.pw_scissorhall_k60_prisms_told VW [PySem.Str.ofString "point"] (fun s=>PySem.W.xlAt VW [] s && PySem.W.recOk (PySem.W.RowW.records (PySem.W.OpenRow.toRowW (PySem.W.OpenLaw.row PySem.Challenge.rw_scissorhall_k60_prisms_told))) s) (PySem.W.Hook.obs (PySem.W.kHook KK KA KE)) (PySem.W.Hook.val (PySem.W.kHook KK KA KE)) 3970:=by
 intro w
 kernel_rfl
end Sc
set_option maxHeartbeats 200000
set_option Elab.async false
set_option linter.all false
set_option maxRecDepth 100000
namespace L2
open PySem PySem.Spec PyProof.Rows
abbrev Key:=Sum Int Str
def aoD:Key → Value → Bool
 | .inl k,v=>Value.isInt k v
 | .inr x,v=>Value.isStrOf x v
def keyH (w:World):Key → Int
 | .inl k=>hashInt k
 | .inr x=>hashStr w x
theorem abA:∀ {k:Key} {v:Value},aoD k v = true → (∃ i t,k = Sum.inl i ∧ v = Value.int i t) ∨ (∃ x t,k = Sum.inr x ∧ v = Value.str x t)
 | .inl i,v,h=>by
  obtain ⟨t,e⟩:=Value.isInt_shape (k:=i) (v:=v) h
  exact .inl ⟨i,t,rfl,e⟩
 | .inr x,v,h=>by
  obtain ⟨t,e⟩:=Value.isStrOf_shape (x:=x) (v:=v) h
  exact .inr ⟨x,t,rfl,e⟩
theorem aos (a b:Int):decide ((Sum.inl a:Key) = Sum.inl b) = (a == b):=by
 by_cases e:a = b
 ·subst e; simp
 ·have h:¬ (Sum.inl a:Key) = Sum.inl b:=fun q=>e (Sum.inl.inj q)
  rw [decide_eq_false h]
  exact (beq_eq_false_iff_ne.mpr e).symm
theorem apk (a b:Str):decide ((Sum.inr a:Key) = Sum.inr b) = decide (a = b):=by
 by_cases e:a = b
 ·subst e; simp
 ·have h:¬ (Sum.inr a:Key) = Sum.inr b:=fun q=>e (Sum.inr.inj q)
  rw [decide_eq_false h,decide_eq_false e]
theorem ao9 (a:Int) (b:Str):decide ((Sum.inl a:Key) = Sum.inr b) = false:=decide_eq_false (fun q=>nomatch q)
theorem apt (a:Str) (b:Int):decide ((Sum.inr a:Key) = Sum.inl b) = false:=decide_eq_false (fun q=>nomatch q)
def aj6 (prog:Program) (w:World):PySem.KeyKind prog w Key where
 is:=aoD
 hash:=keyH w
 inj:=fun v a b ha hb=>by
  rcases abA ha with ⟨i,t,rfl,rfl⟩ | ⟨x,t,rfl,rfl⟩
  ·rcases abA hb with ⟨j,u,rfl,e⟩ | ⟨y,u,rfl,e⟩
   ·injection e with e1 _; rw [e1]
   ·exact nomatch e
  ·rcases abA hb with ⟨j,u,rfl,e⟩ | ⟨y,u,rfl,e⟩
   ·exact nomatch e
   ·injection e with e1 _; rw [e1]
 byValue:=fun k v h=>by
  rcases abA h with ⟨i,t,rfl,rfl⟩ | ⟨x,t,rfl,rfl⟩ <;> rfl
 pyHash:=fun hv h=>by
  rcases abA hv with ⟨i,t,rfl,rfl⟩ | ⟨x,t,rfl,rfl⟩
  ·exact wpAny_pyHash_int h
  ·exact wpAny_pyHash_str h
 eqBool:=fun hu hv h=>by
  rcases abA hu with ⟨i,t,rfl,rfl⟩ | ⟨x,t,rfl,rfl⟩
  ·rcases abA hv with ⟨j,u,rfl,rfl⟩ | ⟨y,u,rfl,rfl⟩
   ·rw [aos] at h; exact wpAny_eqBool_int h
   ·rw [ao9] at h; exact SeqAt.EqAt.int_str i t y u _ _ _ _ h
  ·rcases abA hv with ⟨j,u,rfl,rfl⟩ | ⟨y,u,rfl,rfl⟩
   ·rw [apt] at h; exact SeqAt.EqAt.str_int x t j u _ _ _ _ h
   ·rw [apk] at h; exact wpAny_eqBool_str h
 «strs»:=fun k x t v h=>by
  rcases abA h with ⟨i,u,rfl,e⟩ | ⟨y,u,rfl,e⟩
  ·exact nomatch e
  ·injection e with e1 _
   subst e1
   cases v <;> rfl
end L2
namespace L2
open PySem PySem.Spec PyProof.Rows
inductive V where
 | non | bl (b:Bool) | int (i:Int) | str (x:Str) | byt (b:Array UInt8) | flt (b:UInt64) | ref (a:Addr) | ty (n:String)
 deriving DecidableEq
def RelV:V → Value → Prop
 | .non,u=>u = Value.none
 | .bl b,u=>u = Value.bool b
 | .int i,u=>∃ t,u = Value.int i t
 | .str x,u=>∃ t,u = Value.str x t
 | .byt b,u=>∃ t,u = Value.bytes b t
 | .flt b,u=>∃ t,u = Value.float b t
 | .ref a,u=>u = Value.ref a
 | .ty n,u=>u = Value.type n
abbrev Vals:List V → List Value → Prop:=Paired RelV
theorem Vals.length {xs:List V} {us:List Value} (r:Vals xs us):xs.length = us.length:=Paired.length r
theorem Vals.get:∀ {xs:List V} {us:List Value} {i:Nat} {x:V},Vals xs us → xs[i]? = some x → ∃ u,us[i]? = some u ∧ RelV x u
 | _,_,_,_,.nil,e=>by simp at e
 | _,_,0,_,.cons r _,e=>by simp at e; subst e; exact ⟨_,rfl,r⟩
 | _,_,i + 1,x,.cons _ t,e=>by
  obtain ⟨u,h1,h2⟩:=Vals.get (i:=i) (x:=x) t (by simpa using e)
  exact ⟨u,by simpa using h1,h2⟩
theorem Vals.set {x:V} {u:Value} (r:RelV x u):∀ {xs:List V} {us:List Value} (i:Nat),Vals xs us → Vals (xs.set i x) (us.set i u)
 | _,_,_,.nil=>.nil
 | _,_,0,.cons _ t=>.cons r t
 | _,_,i + 1,.cons q t=>.cons q (Vals.set r i t)
theorem Vals.append:∀ {xs ys:List V} {us ws:List Value},Vals xs us → Vals ys ws → Vals (xs ++ ys) (us ++ ws)
 | _,_,_,_,.nil,s=>s
 | _,_,_,_,.cons r t,s=>.cons r (Vals.append t s)
theorem Vals.take:∀ {xs:List V} {us:List Value} (n:Nat),Vals xs us → Vals (xs.take n) (us.take n)
 | _,_,0,_=>.nil
 | _,_,_ + 1,.nil=>.nil
 | _,_,n + 1,.cons r t=>.cons r (Vals.take n t)
theorem Vals.drop:∀ {xs:List V} {us:List Value} (n:Nat),Vals xs us → Vals (xs.drop n) (us.drop n)
 | _,_,0,r=>r
 | _,_,_ + 1,.nil=>.nil
 | _,_,n + 1,.cons _ t=>Vals.drop n t
def RelO:Option V → Option Value → Prop
 | some v,some u=>RelV v u
 | none,none=>True
 | _,_=>False
def KV {κ:Type}:List (κ × V) → List (κ × Value) → Prop:=Paired fun (p:κ × V) (q:κ × Value)=>p.1 = q.1 ∧ RelV p.2 q.2
def kV:Key → V
 | .inl i=>.int i
 | .inr x=>.str x
inductive HO where
 /-- a list -/
 | lst (xs:List V)
 /-- a tuple (never changes) -/
 | tup (xs:List V)
 /-- a dict whose keys are ints and texts; one whose keys are tuples of ints and texts (the empty one is both) -/
 | dK (kvs:List (Key × V)) | dT (kvs:List (List Key × V))
 /-- a set of ints: its members,its size -/
 | set (S:Int → Bool) (n:Nat)
 /-- an instance of the class at C,its dict at dx,its attributes -/
 | ins (C dx:Addr) (fs:List (Str × V))
 /-- the dict of the instance at x -/
 | own (x:Addr)
 /-- the dict of an exception -/
 | xd (fs:List (Str × V))
 /-- a bound method,f of x -/
 | met (f x:Addr)
 /-- a range object lo,lo + 1,.. below hi -/
 | rng (lo hi:Int)
 /-- a thing that is known to the object (the script; a dict while a loop walks it): read,never written while it is so -/
 | frz (o:Obj) (u:HO)
 /-- a code object's table -/
 | tbl (ps:Array Value)
 /-- any other thing,by what is true of its one object (a def of one's own: SetO a S n:=HO.ext fun h=>..) -/
 | ext (φ:Heap → Prop)
abbrev Hp:=Addr → Option HO
def upd (H:Hp) (a:Addr) (o:HO):Hp:=fun b=>if b = a then some o else H b
theorem aa6 {H:Hp} {a:Addr} {o:HO}:upd H a o a = some o:=by unfold upd; rw [if_pos rfl]
theorem aaQ {H:Hp} {a b:Addr} {o:HO} (h:b ≠ a):upd H a o b = H b:=by unfold upd; rw [if_neg h]
theorem aaX {H:Hp} {a b:Addr} {o:HO} (h:H a = some o) (h':H b = none):a ≠ b:=by
 intro e; subst e; rw [h] at h'; cases h'
section
variable (P:Program) (w:World)
def acx (H:Hp) (h:Heap) (a:Addr):HO → Prop
 | .lst xs=>xs.length ≤ sizeLine ∧ ∃ (its:List Value) (n:Nat),Vals xs its ∧ h.get? a = some { cls:=.type "list",data:=.seq its.toArray n }
 | .tup xs=>xs.length ≤ sizeLine ∧ ∃ its:List Value,Vals xs its ∧ IsTup h a its.toArray
 | .dK kvs=>kvs.length ≤ sizeLine ∧ (a == sysModules) = false ∧ ∃ vs,KV kvs vs ∧ h.DictOf (aj6 P w) a vs
 | .dT kvs=>kvs.length ≤ sizeLine ∧ (a == sysModules) = false ∧ ∃ xs:List (List Key × Addr × Value),
   Paired (fun (p:List Key × V) (q:List Key × Addr × Value)=>p.1 = q.1 ∧ H q.2.1 = some (.tup (p.1.map kV)) ∧ RelV p.2 q.2.2) kvs xs ∧
   ∃ o es ep,h.get? a = some o ∧ o.ExactDict ∧ o.data = .dict es ep ∧ es.toList = xs.map (entryOfKey (tupleKind (aj6 P w))) ∧ (xs.map (·.1)).Nodup
 | .set S n=>h.SetOf (intKind P w) a S n
 | .ins C dx fs=>H dx = some (.own a) ∧ fs.length ≤ 1000 ∧ dx ≠ a ∧ h.get? a = some (PySem.W.instObj C dx) ∧
   ∃ mA,h.Ns1 dx mA ∧ (∀ f,RelO (fs.lookup f) (mA f)) ∧ PySem.Within mA (fs.map (·.1))
 | .own _=>∃ o,h.get? a = some o
 | .xd fs=>∃ mA,h.Ns1 a mA ∧ ∀ f,RelO (fs.lookup f) (mA f)
 | .rng lo hi=>∃ t u v,h.get? a = some { cls:=.type "range",data:=.fields #[.int lo t,.int hi u,.int 1 v] }
 | .frz o u=>h.get? a = some o ∧ acx H h a u
 | .tbl ps=>h.get? a = some { cls:=.none,data:=.fields ps }
 | .met f x=>h.get? a = some (PySem.W.methodObj (.ref f) (.ref x))
 | .ext φ=>φ h ∧ (∃ o,h.get? a = some o) ∧ ∀ h1 h2:Heap,φ h1 → (∀ o,h1.get? a = some o → h2.get? a = some o) → φ h2
def HOk (H:Hp) (h:Heap):Prop:=∀ a o,H a = some o → acx P w H h a o
end
section
variable {P:Program} {w:World} {H H':Hp} {h h':Heap} {a:Addr} {o:HO}
theorem acx.lt (x:acx P w H h a o):a < h.objs.size:=by
 cases o with
 | lst xs=>obtain ⟨_,_,_,_,e⟩:=x; exact Heap.lt_size e
 | tup xs=>obtain ⟨_,_,_,p⟩:=x; exact p.lt
 | dK kvs=>obtain ⟨_,_,_,_,o,_,_,e,_⟩:=x; exact Heap.lt_size e
 | dT kvs=>obtain ⟨_,_,_,_,o,_,_,e,_⟩:=x; exact Heap.lt_size e
 | set S n=>obtain ⟨o,_,_,_,e,_⟩:=x; exact Heap.lt_size e
 | ins C dx fs=>obtain ⟨_,_,_,e,_⟩:=x; exact Heap.lt_size e
 | own y=>obtain ⟨_,e⟩:=x; exact Heap.lt_size e
 | xd fs=>obtain ⟨_,⟨_,_,_,e,_⟩,_⟩:=x; exact Heap.lt_size e
 | rng lo hi=>obtain ⟨_,_,_,e⟩:=x; exact Heap.lt_size e
 | frz ob u=>obtain ⟨e,_⟩:=x; exact Heap.lt_size e
 | tbl ps=>exact Heap.lt_size (show h.get? a = some _ from x)
 | met f y=>exact Heap.lt_size (show h.get? a = some _ from x)
 | ext φ=>obtain ⟨_,⟨_,e⟩,_⟩:=x; exact Heap.lt_size e
theorem Paired.mapP {α β:Type} {F G:α → β → Prop}:∀ {l₁:List α} {l₂:List β},Paired F l₁ l₂ → (∀ a b,F a b → G a b) → Paired G l₁ l₂
 | _,_,.nil,_=>.nil
 | _,_,.cons r t,f=>.cons (f _ _ r) (Paired.mapP t f)
theorem acx.stay (x:acx P w H h a o) (k:∀ b u,(b = a ∨ H b = some (.own a)) → h.get? b = some u → h'.get? b = some u)
  (ho:∀ b,H b = some (.own a) → H' b = some (.own a)) (ht:∀ b xs,H b = some (.tup xs) → H' b = some (.tup xs)):acx P w H' h' a o:=by
 induction o with
 | lst xs=>obtain ⟨z,its,n,r,e⟩:=x; exact ⟨z,its,n,r,k _ _ (.inl rfl) e⟩
 | tup xs=>obtain ⟨z,its,r,ob,e,c⟩:=x; exact ⟨z,its,r,ob,k _ _ (.inl rfl) e,c⟩
 | dK kvs=>obtain ⟨z,y,vs,r,ob,es,ep,e,c⟩:=x; exact ⟨z,y,vs,r,ob,es,ep,k _ _ (.inl rfl) e,c⟩
 | dT kvs =>
  obtain ⟨z,y,xs,r,ob,es,ep,e,c⟩:=x
  exact ⟨z,y,xs,Paired.mapP r fun p q z=>⟨z.1,ht _ _ z.2.1,z.2.2⟩,ob,es,ep,k _ _ (.inl rfl) e,c⟩
 | set S n=>obtain ⟨ob,es,ep,t,e,c⟩:=x; exact ⟨ob,es,ep,t,k _ _ (.inl rfl) e,c⟩
 | ins C dx fs =>
  obtain ⟨d,z,ne,e,mA,⟨od,es,ep,e2,c⟩,r⟩:=x
  exact ⟨ho _ d,z,ne,k _ _ (.inl rfl) e,mA,⟨od,es,ep,k _ _ (.inr d) e2,c⟩,r⟩
 | own y=>obtain ⟨ob,e⟩:=x; exact ⟨ob,k _ _ (.inl rfl) e⟩
 | xd fs=>obtain ⟨mA,⟨od,es,ep,e,c⟩,r⟩:=x; exact ⟨mA,⟨od,es,ep,k _ _ (.inl rfl) e,c⟩,r⟩
 | rng lo hi=>obtain ⟨t,u,v,e⟩:=x; exact ⟨t,u,v,k _ _ (.inl rfl) e⟩
 | frz ob u ih=>obtain ⟨e,q⟩:=x; exact ⟨k _ _ (.inl rfl) e,ih q⟩
 | tbl ps =>
  have e:h.get? a = some { cls:=.none,data:=.fields ps }:=x
  show h'.get? a = some { cls:=.none,data:=.fields ps }
  exact k a _ (.inl rfl) e
 | met f y =>
  have e:h.get? a = some (PySem.W.methodObj (.ref f) (.ref y)):=x
  show h'.get? a = some (PySem.W.methodObj (.ref f) (.ref y))
  exact k a _ (.inl rfl) e
 | ext φ=>obtain ⟨p,⟨o,e⟩,st⟩:=x; exact ⟨st _ _ p fun o q=>k _ _ (.inl rfl) q,⟨o,k _ _ (.inl rfl) e⟩,st⟩
theorem HOk.lt (x:HOk P w H h) (e:H a = some o):a < h.objs.size:=(x a o e).lt
theorem HOk.fresh (x:HOk P w H h) (e:h.objs.size ≤ a):H a = none:=by
 cases q:H a with
 | none=>rfl
 | some u=>exact absurd (Nat.lt_of_lt_of_le (x.lt q) e) (Nat.lt_irrefl _)
theorem HOk.kept (x:HOk P w H h) (k:∀ b u,h.get? b = some u → h'.get? b = some u):HOk P w H h':=fun a o e =>
 (x a o e).stay (fun b u _ q=>k b u q) (fun _ q=>q) fun _ _ q=>q
theorem HOk.laid (x:HOk P w H h) (k:∀ b u,h.get? b = some u → h'.get? b = some u) (hp:h.objs.size ≤ a) (new:acx P w (upd H a o) h' a o):HOk P w (upd H a o) h':=fun b u e=>by
 have hn:=x.fresh hp
 by_cases hb:b = a
 ·subst hb; rw [aa6] at e; cases e; exact new
 ·rw [aaQ hb] at e
  exact (x b u e).stay (fun c v _ q=>k c v q) (fun c q=>by rw [aaQ (aaX q hn)]; exact q) fun c xs q=>by rw [aaQ (aaX q hn)]; exact q
end
def Rd (H:Hp) (a:Addr) (u:HO):Prop:=H a = some u ∨ ∃ o,H a = some (.frz o u)
theorem Rd.of {H:Hp} {a:Addr} {u:HO} (h:H a = some u):Rd H a u:=.inl h
theorem Rd.ok {P:Program} {w:World} {H:Hp} {h:Heap} {a:Addr} {u:HO} (r:Rd H a u) (x:HOk P w H h):acx P w H h a u:=by
 rcases r with r | ⟨o,r⟩
 ·exact x a u r
 ·obtain ⟨_,q⟩:=x a _ r
  exact q
def Mut:Option HO → Prop
 | some (.lst _)=>True
 | some (.dK _)=>True
 | some (.dT _)=>True
 | some (.set _ _)=>True
 | some (.ins _ _ _)=>True
 | some (.ext _)=>True
 | _=>False
section
variable {P:Program} {w:World} {H:Hp} {h h':Heap} {x e:Addr} {o':HO}
theorem HOk.write (ok:HOk P w H h) (mu:Mut (H x)) (he:e = x ∨ H e = some (.own x)) (k:∀ b u,b ≠ e → h.get? b = some u → h'.get? b = some u) (heo:∃ u,h'.get? e = some u)
  (new:acx P w (upd H x o') h' x o'):HOk P w (upd H x o') h':=fun b u q=>by
 have nown:∀ c y,H c = some (.own y) → c ≠ x:=fun c y r z=>by subst z; rw [r] at mu; exact mu
 have ntup:∀ c xs,H c = some (.tup xs) → c ≠ x:=fun c xs r z=>by subst z; rw [r] at mu; exact mu
 by_cases hb:b = x
 ·subst hb; rw [aa6] at q; cases q; exact new
 ·rw [aaQ hb] at q
  by_cases hbe:b = e
  ·have q':H b = some (.own x):=by
    rcases he with z | z
    ·exact absurd (hbe.trans z) hb
    ·rw [hbe]; exact z
   rw [q] at q'; cases q'
   obtain ⟨v,hv⟩:=heo
   exact ⟨v,by rw [hbe]; exact hv⟩
  ·refine (ok b u q).stay (fun c v hc r=>k c v ?_ r) (fun c r=>by rw [aaQ (nown c b r)]; exact r) fun c xs r=>by rw [aaQ (ntup c xs r)]; exact r
   rcases hc with rfl | hc
   ·exact hbe
   ·rintro rfl
    rcases he with z | z
    ·exact nown c b hc z
    ·rw [hc] at z; cases z; exact hb rfl
end
structure Un (fs ex:List Addr) (H H':Hp) (h h':Heap):Prop where
 keep:∀ b o,h.get? b = some o → H b = none → b ∉ fs → b ∉ ex → h'.get? b = some o
 slot:∀ b o,h.get? b = some o → H b = none → b ∈ fs → b ∉ ex → ∃ sl,h'.get? b = some { o with slots:=sl }
 free:∀ b o,h.get? b = some o → H b = none → b ∉ ex → H' b = none
 there:∀ b o,h.get? b = some o → b ∉ ex → ∃ o',h'.get? b = some o'
 tups:∀ b xs,H b = some (.tup xs) → H' b = some (.tup xs)
 frzs:∀ b o u,H b = some (.frz o u) → H' b = some (.frz o u)
 tbls:∀ b ps,H b = some (.tbl ps) → ∃ more,H' b = some (.tbl (ps ++ more))
section
variable {fs fs' ex ex':List Addr} {H H1 H2:Hp} {h h1 h2 h':Heap} {a x e:Addr} {o:HO}
theorem Un.any (u:Un fs ex H H1 h h1) {b:Addr} {ob:Obj} (q:h.get? b = some ob) (n:H b = none) (hx:b ∉ ex):∃ sl,h1.get? b = some { ob with slots:=sl }:=by
 by_cases hb:b ∈ fs
 ·exact u.slot b ob q n hb hx
 ·exact ⟨ob.slots,u.keep b ob q n hb hx⟩
theorem Un.trans (a:Un fs ex H H1 h h1) (b:Un fs ex H1 H2 h1 h2):Un fs ex H H2 h h2 where
 keep:=fun c ob q n hc hx=>b.keep c ob (a.keep c ob q n hc hx) (a.free c ob q n hx) hc hx
 slot:=fun c ob q n hc hx=>by
  obtain ⟨sl,e1⟩:=a.slot c ob q n hc hx
  obtain ⟨sl',e2⟩:=b.slot c _ e1 (a.free c ob q n hx) hc hx
  exact ⟨sl',e2⟩
 free:=fun c ob q n hx=>by
  obtain ⟨o',e1⟩:=a.there c ob q hx
  exact b.free c o' e1 (a.free c ob q n hx) hx
 there:=fun c ob q hx=>by
  obtain ⟨o',e1⟩:=a.there c ob q hx
  exact b.there c o' e1 hx
 tups:=fun c xs q=>b.tups c xs (a.tups c xs q)
 frzs:=fun c ob xs q=>b.frzs c ob xs (a.frzs c ob xs q)
 tbls:=fun c ps q=>by
  obtain ⟨m1,e1⟩:=a.tbls c ps q
  obtain ⟨m2,e2⟩:=b.tbls c _ e1
  exact ⟨m1 ++ m2,by rw [e2,Array.append_assoc]⟩
theorem Un.kept (k:∀ b u,h.get? b = some u → h'.get? b = some u):Un fs ex H H h h' :=
 ⟨fun b ob q _ _ _=>k b ob q,fun b ob q _ _ _=>⟨ob.slots,k b ob q⟩,fun _ _ _ n _=>n,fun b ob q _=>⟨ob,k b ob q⟩,fun _ _ q=>q,fun _ _ _ q=>q,fun _ ps q=>⟨#[],by rw [q]; simp⟩⟩
theorem Un.refl:Un fs ex H H h h:=Un.kept fun _ _ q=>q
theorem Un.laid (k:∀ b u,h.get? b = some u → h'.get? b = some u) (hp:h.objs.size ≤ a) (hn:H a = none):Un fs ex H (upd H a o) h h' where
 keep:=fun b u q _ _ _=>k b u q
 slot:=fun b u q _ _ _=>⟨u.slots,k b u q⟩
 free:=fun b u q n _=>by rw [aaQ (Nat.ne_of_lt (Nat.lt_of_lt_of_le (Heap.lt_size q) hp))]; exact n
 there:=fun b u q _=>⟨u,k b u q⟩
 tups:=fun b xs q=>by rw [aaQ (aaX q hn)]; exact q
 frzs:=fun b u xs q=>by rw [aaQ (aaX q hn)]; exact q
 tbls:=fun b ps q=>⟨#[],by rw [aaQ (aaX q hn),q]; simp⟩
theorem Un.write (mu:Mut (H x)) (he:e = x ∨ H e = some (.own x)) (k:∀ b u,b ≠ e → h.get? b = some u → h'.get? b = some u) (heo:∃ u,h'.get? e = some u):Un fs ex H (upd H x o) h h':=by
 have hx:∀ b,H b = none → b ≠ x:=fun b n z=>by subst z; rw [n] at mu; exact mu
 have hb:∀ b,H b = none → b ≠ e:=fun b n z=>by
  subst z
  rcases he with r | r
  ·exact hx b n r
  ·rw [n] at r; cases r
 have hm:∀ b u,H b = some u → ¬ Mut (some u) → b ≠ x:=fun b u q nm z=>by subst z; rw [q] at mu; exact nm mu
 refine ⟨fun b u q n _ _=>k b u (hb b n) q,fun b u q n _ _=>⟨u.slots,k b u (hb b n) q⟩,fun b u q n _=>by rw [aaQ (hx b n)]; exact n,fun b u q _=>?_,
  fun b xs q=>by rw [aaQ (hm b _ q fun z=>z)]; exact q,fun b u xs q=>by rw [aaQ (hm b _ q fun z=>z)]; exact q,fun b ps q=>⟨#[],by rw [aaQ (hm b _ q fun z=>z),q]; simp⟩⟩
 by_cases hbe:b = e
 ·subst hbe; exact heo
 ·exact ⟨u,k b u hbe q⟩
theorem Un.mono (u:Un fs ex H H1 h h1) (hs:∀ b ∈ fs,b ∈ fs') (hx:∀ b ∈ ex,b ∈ ex'):Un fs' ex' H H1 h h1 :=
 ⟨fun b ob q n hb he=>u.keep b ob q n (fun z=>hb (hs b z)) fun z=>he (hx b z),fun _ _ q n _ he=>u.any q n fun z=>he (hx _ z),fun b ob q n he=>u.free b ob q n fun z=>he (hx b z),fun b ob q he=>u.there b ob q fun z=>he (hx b z),u.tups,u.frzs,u.tbls⟩
end
def trk (h:Heap) (H:Hp):List Addr:=(List.range h.objs.size).filter fun a=>(H a).isSome
def hidT (h:Heap) (H:Hp):Heap:=PySem.W.hideAll h (trk h H)
theorem aj3 (h:Heap) (H:Hp):(hidT h H).objs.size = h.objs.size:=PySem.W.hideAll_size _ _
theorem aln {h:Heap} {H:Hp} {b:Addr} {o:Obj} (e:h.get? b = some o) (n:H b = none):(hidT h H).get? b = some o :=
 PySem.W.hideAll_get _ e fun hm=>by
  have q:(H b).isSome = true:=(List.mem_filter.mp hm).2
  rw [n] at q; simp at q
theorem anU {h:Heap} {H:Hp} {b:Addr} {o:Obj} (e:(hidT h H).get? b = some o):h.get? b = some o ∧ H b = none:=by
 have e':h.get? b = some o:=PySem.W.of_hideAll (trk h H) e
 refine ⟨e',?_⟩
 cases q:H b with
 | none=>rfl
 | some x =>
  have hm:b ∈ trk h H:=List.mem_filter.mpr ⟨List.mem_range.mpr (Heap.lt_size e'),by simp [q]⟩
  have z:(hidT h H).get? b = none:=PySem.W.hideAll_none (trk h H) hm
  rw [z] at e; cases e
def amZ (g h:Heap) (L:Addr):List (Addr × Obj):=(List.range h.objs.size).filterMap fun a=>if a = L ∨ (g.get? a).isSome = true then none else (h.get? a).map fun o=>(a,o)
def rest (g h:Heap) (L d:Addr):List (Addr × Obj):=(amZ g h L).filter fun p=>decide (p.1 ≠ d)
end L2
namespace L2
open PySem PySem.Spec PyProof.Rows
structure Mod (K:PySem.W.Frag) (mg:Str → Option Value) (base:Heap):Prop where
 kin:K.In base
 glob:base.Ns mainGlobals mg
 blt:∃ mb,base.Ns builtinsNs mb ∧ ∀ x:Str,x ≠ "__name__" → mb x = bootBuiltins x
 nolimit:base.NoLimit
structure Cx where
 prog:Program
 w:World
 K:PySem.W.Frag
 mg:Str → Option Value
 base:Heap
 A:Around
 N:List Str
 s₀:Shared
 H₀:Hp
 env:Env
 outer:List Env
 stack:List Env
 ex:List Addr
 fn:Str → Bool
 calm:Bool
 pn:List (Addr × Obj)
 xe:Value → Shared → Prop
def frs (l:List Env):List Addr:=l.filterMap (·.frame)
abbrev Cx.fs (X:Cx):List Addr:=frs X.outer
def Vis (sc:Scope) (x:Str):Prop:=sc.names.lookup x = some .local ∨ sc.names.lookup x = some .cell ∨ sc.names.lookup x = some .free
def Loc (sc:Scope) (x:Str):Prop:=sc.names.lookup x = some .local ∨ sc.names.lookup x = some .cell
def Look (env:Env) (h:Heap) (m:Str → Option Value) (x:Str) (u:Value):Prop :=
 (env.kindOf x = some .local ∧ m x = some u) ∨ ((env.kindOf x = some .cell ∨ env.kindOf x = some .free) ∧ ∃ c,env.cells.lookup x = some c ∧ h.IsCell c (some u))
structure Cx.Ok (X:Cx):Prop where
 mod:Mod X.K X.mg X.base
 kind:X.env.scope.kind = .function
 glob:X.env.globals = mainGlobals
 blt:X.env.builtins = builtinsNs
 above:X.s₀.heap.objs.size ≤ X.env.locals
 inj:∀ x y c,X.env.cells.lookup x = some c → X.env.cells.lookup y = some c → x = y
 has:∀ x,(X.env.kindOf x = some .cell ∨ X.env.kindOf x = some .free) → ∃ c,X.env.cells.lookup x = some c
 cab:∀ x c,X.fn x = true → X.env.cells.lookup x = some c → X.s₀.heap.objs.size ≤ c
 hd:X.calm = true → X.A.handled = none
 frames:X.A.frames = some X.stack
 stk:X.stack = X.outer ∨ (X.stack = X.env :: X.outer ∧ X.env.frame = some X.env.locals)
 exf:∀ b ∈ X.ex,b ≠ X.env.locals ∧ ∀ x c,X.env.cells.lookup x = some c → c ≠ b
 bs:∀ b o,X.base.get? b = some o → X.s₀.heap.get? b = some o ∧ X.H₀ b = none
 bsz:X.base.objs.size ≤ X.s₀.heap.objs.size
 noex:∀ b o,X.base.get? b = some o → b ∉ X.ex
 exfs:∀ b ∈ X.ex,b ∉ X.fs
 funs:X.s₀.heap.FunFrames X.base X.outer
 frf:∀ b ∈ X.fs,X.H₀ b = none
structure Inv (X:Cx) (pins:List (Addr × Obj)) (σ:List (Option V)) (H:Hp) (s:Shared):Prop where
 ok:X.Ok
 os:s.os = X.s₀.os
 bare:AllBare s.gens
 base:Un X.fs X.ex X.H₀ H X.s₀.heap s.heap
 loc:∃ m,s.heap.Ns X.env.locals m ∧ ∀ (i:Nat) (x:Str) (v:V),X.N[i]? = some x → σ[i]? = some (some v) → Vis X.env.scope x → ∃ u,RelV v u ∧ Look X.env s.heap m x u
 cell:∀ x c,X.env.cells.lookup x = some c → ∃ v,s.heap.IsCell c v
 free:H X.env.locals = none
 freeC:∀ x c,X.env.cells.lookup x = some c → H c = none
 pin:∀ p ∈ X.pn ++ pins,s.heap.get? p.1 = some p.2 ∧ H p.1 = none ∧ p.1 ≠ X.env.locals ∧ p.1 ∉ X.fs ∧ ∀ v,p.2.data ≠ .cell v
 hok:HOk X.prog X.w H s.heap
 len:σ.length = X.N.length
section
variable {X:Cx} {pins:List (Addr × Obj)} {σ:List (Option V)} {H H':Hp} {s:Shared} {h':Heap}
theorem Cx.Ok.nofr (ok:X.Ok) {b:Addr} {o:Obj} (e:X.base.get? b = some o):b ∉ X.fs:=fun hb=>by
 have:=(ok.funs.mem hb).1
 rw [e] at this; cases this
theorem Inv.bs (I:Inv X pins σ H s):∀ b o,X.base.get? b = some o → s.heap.get? b = some o ∧ H b = none:=fun b o e =>
 ⟨I.base.keep b o (I.ok.bs b o e).1 (I.ok.bs b o e).2 (I.ok.nofr e) (I.ok.noex b o e),I.base.free b o (I.ok.bs b o e).1 (I.ok.bs b o e).2 (I.ok.noex b o e)⟩
theorem Inv.bk (I:Inv X pins σ H s):∀ b o,X.base.get? b = some o → s.heap.get? b = some o:=fun b o e=>(I.bs b o e).1
theorem Inv.mod (I:Inv X pins σ H s):Mod X.K X.mg X.base:=I.ok.mod
theorem Inv.kIn (I:Inv X pins σ H s):X.K.In s.heap:=I.ok.mod.kin.keeps I.bk
theorem Inv.nolimit (I:Inv X pins σ H s):s.heap.NoLimit:=I.ok.mod.nolimit.keeps I.bk
theorem Inv.fr (I:Inv X pins σ H s):∃ m,Fr X.base X.env.locals s.heap m :=
 let ⟨m,hn,_⟩:=I.loc
 ⟨m,hn,I.bk,Nat.le_trans I.ok.bsz I.ok.above⟩
theorem Inv.lt (I:Inv X pins σ H s):X.env.locals < s.heap.objs.size:=let ⟨_,hn,_⟩:=I.loc; hn.lt
theorem Inv.sz (I:Inv X pins σ H s):X.s₀.heap.objs.size ≤ s.heap.objs.size:=Nat.le_trans I.ok.above (Nat.le_of_lt I.lt)
theorem Inv.nofs (I:Inv X pins σ H s) {a:Addr} (h:s.heap.objs.size ≤ a):a ∉ X.fs:=fun hb=>by
 obtain ⟨_,o,ho,_⟩:=I.ok.funs.mem hb
 exact absurd (Nat.lt_of_lt_of_le (Heap.lt_size ho) (Nat.le_trans I.sz h)) (Nat.lt_irrefl _)
theorem Inv.cne (I:Inv X pins σ H s):∀ x c,X.env.cells.lookup x = some c → c ≠ X.env.locals:=fun x c e z=>by
 obtain ⟨v,o,ho,hd⟩:=I.cell x c e
 obtain ⟨m,⟨o',es,ep,ho',hd',_⟩,_⟩:=I.loc
 rw [z,ho'] at ho; cases ho; rw [hd'] at hd; cases hd
theorem Inv.funs (I:Inv X pins σ H s):s.heap.FunFrames X.base X.outer:=by
 have all:∀ (l:List Env),(∀ b ∈ frs l,b ∈ X.fs) → X.s₀.heap.FunFrames X.base l → s.heap.FunFrames X.base l:=by
  intro l
  induction l with
  | nil=>intro _ _; trivial
  | cons env r ih =>
   intro hs hl
   obtain ⟨hk,⟨L,o,hf,hn,ho,hd⟩,hr⟩:=hl
   have hL:L ∈ X.fs:=hs L (by unfold frs; rw [List.filterMap_cons,hf]; exact List.mem_cons_self)
   obtain ⟨sl,e⟩:=I.base.slot L o ho (I.ok.frf L hL) hL fun z=>I.ok.exfs L z hL
   exact ⟨hk,⟨L,_,hf,hn,e,hd⟩,ih (fun b hb=>hs b (by unfold frs; rw [List.filterMap_cons,hf]; exact List.mem_cons_of_mem _ hb)) hr⟩
 exact all X.outer (fun _ hb=>hb) I.ok.funs
theorem Inv.stack (I:Inv X pins σ H s):s.heap.FunFrames X.base X.stack:=by
 rcases I.ok.stk with e | ⟨e,hf⟩
 ·rw [e]; exact I.funs
 ·rw [e]
  obtain ⟨m,hn,_⟩:=I.loc
  refine .cons (by rw [I.ok.kind]; decide) hf hn ?_ I.funs
  exact Heap.get?_none_of_le (Nat.le_trans I.ok.bsz I.ok.above)
theorem Inv.stkSub (I:Inv X pins σ H s):∀ b ∈ frs X.stack,b ∈ X.env.locals :: X.fs:=fun b hb=>by
 rcases I.ok.stk with e | ⟨e,hf⟩
 ·rw [e] at hb; exact List.mem_cons_of_mem _ hb
 ·rw [e] at hb
  unfold frs at hb
  rw [List.filterMap_cons,hf] at hb
  exact hb
theorem Inv.stkFree (I:Inv X pins σ H s):∀ b ∈ frs X.stack,H b = none:=fun b hb=>by
 rcases List.mem_cons.mp (I.stkSub b hb) with e | hb
 ·rw [e]; exact I.free
 ·obtain ⟨_,o,ho,_⟩:=I.ok.funs.mem hb
  exact I.base.free b o ho (I.ok.frf b hb) fun z=>I.ok.exfs b z hb
theorem Inv.step {g':Array GenState} {t':Nat} {d':Drawn} {ch:List Addr} (I:Inv X pins σ H s)
  (hch:∀ b ∈ ch,(b ∈ X.ex ∨ X.s₀.heap.objs.size ≤ b) ∧ b ≠ X.env.locals ∧ (∀ x c,X.env.cells.lookup x = some c → c ≠ b) ∧ ∀ p ∈ X.pn ++ pins,p.1 ≠ b)
  (keep:∀ b o,b ≠ X.env.locals → b ∉ X.fs → b ∉ ch → s.heap.get? b = some o → H b = none → h'.get? b = some o)
  (slot:∀ b o,b ≠ X.env.locals → b ∈ X.fs → b ∉ ch → s.heap.get? b = some o → H b = none → ∃ sl,h'.get? b = some { o with slots:=sl }) (free:∀ b o,b ∉ ch → s.heap.get? b = some o → H b = none → H' b = none)
  (there:∀ b o,b ∉ ch → s.heap.get? b = some o → ∃ o',h'.get? b = some o')
  (tups:∀ b xs,H b = some (.tup xs) → H' b = some (.tup xs)) (frzs:∀ b o u,H b = some (.frz o u) → H' b = some (.frz o u)) (tbls:∀ b ps,H b = some (.tbl ps) → ∃ more,H' b = some (.tbl (ps ++ more)))
  (ns:∀ m,s.heap.Ns X.env.locals m → h'.Ns X.env.locals m) (hok:HOk X.prog X.w H' h') (hg:AllBare g') :
  Inv X pins σ H' { s with heap:=h',gens:=g',drawn:=d',toks:=t' }:=by
 have neL:∀ b o,X.s₀.heap.get? b = some o → b ≠ X.env.locals:=fun b o e=>Nat.ne_of_lt (Nat.lt_of_lt_of_le (Heap.lt_size e) I.ok.above)
 have neC:∀ b o,X.s₀.heap.get? b = some o → b ∉ X.ex → b ∉ ch:=fun b o e hx hb=>by
  rcases (hch b hb).1 with z | z
  ·exact hx z
  ·exact absurd (Nat.lt_of_lt_of_le (Heap.lt_size e) z) (Nat.lt_irrefl _)
 have cellK:∀ x c,X.env.cells.lookup x = some c → ∀ v,s.heap.IsCell c v → h'.IsCell c v:=fun x c e v ⟨o,ho,hd⟩=>by
  have nch:c ∉ ch:=fun z=>(hch c z).2.2.1 x c e rfl
  by_cases hc:c ∈ X.fs
  ·obtain ⟨sl,q⟩:=slot c o (I.cne x c e) hc nch ho (I.freeC x c e)
   exact ⟨_,q,hd⟩
  ·exact ⟨o,keep c o (I.cne x c e) hc nch ho (I.freeC x c e),hd⟩
 refine ⟨I.ok,I.os,hg,⟨fun b o e n hb hx=>?_,fun b o e n hb hx=>?_,fun b o e n hx=>?_,fun b o e hx=>?_,fun b xs e=>tups b xs (I.base.tups b xs e),fun b o xs e=>frzs b o xs (I.base.frzs b o xs e),fun b ps e=>?_⟩,?_,fun x c e=>?_,?_,fun x c e=>?_,fun p hp=>?_,hok,I.len⟩
 ·exact keep b o (neL b o e) hb (neC b o e hx) (I.base.keep b o e n hb hx) (I.base.free b o e n hx)
 ·obtain ⟨sl,e1⟩:=I.base.slot b o e n hb hx
  obtain ⟨sl',e2⟩:=slot b _ (neL b o e) hb (neC b o e hx) e1 (I.base.free b o e n hx)
  exact ⟨sl',e2⟩
 ·obtain ⟨o',e1⟩:=I.base.there b o e hx
  exact free b o' (neC b o e hx) e1 (I.base.free b o e n hx)
 ·obtain ⟨o',e1⟩:=I.base.there b o e hx
  exact there b o' (neC b o e hx) e1
 ·obtain ⟨m1,e1⟩:=I.base.tbls b ps e
  obtain ⟨m2,e2⟩:=tbls b _ e1
  exact ⟨m1 ++ m2,by rw [e2,Array.append_assoc]⟩
 ·obtain ⟨m,hn,hl⟩:=I.loc
  refine ⟨m,ns m hn,fun i x v e1 e2 e3=>?_⟩
  obtain ⟨u,r,l⟩:=hl i x v e1 e2 e3
  refine ⟨u,r,?_⟩
  rcases l with l | ⟨k,c,e,z⟩
  ·exact .inl l
  ·exact .inr ⟨k,c,e,cellK x c e _ z⟩
 ·obtain ⟨v,z⟩:=I.cell x c e
  exact ⟨v,cellK x c e v z⟩
 ·obtain ⟨m,⟨o,_,_,ho,_⟩,_⟩:=I.loc
  exact free _ o (fun z=>(hch _ z).2.1 rfl) ho I.free
 ·obtain ⟨v,o,ho,hd⟩:=I.cell x c e
  exact free c o (fun z=>(hch c z).2.2.1 x c e rfl) ho (I.freeC x c e)
 ·obtain ⟨e,n,ne,nf,d⟩:=I.pin p hp
  have nch:p.1 ∉ ch:=fun z=>(hch p.1 z).2.2.2 p hp rfl
  exact ⟨keep p.1 p.2 ne nf nch e n,free p.1 p.2 nch e n,ne,nf,d⟩
theorem Inv.un {t':Nat} (I:Inv X pins σ H s) (u:Un X.fs [] H H' s.heap h') (hok:HOk X.prog X.w H' h'):Inv X pins σ H' { s with heap:=h',toks:=t' }:=by
 obtain ⟨m,⟨o,es,ep,ho,r⟩,_⟩:=id I.loc
 obtain ⟨sl,hL⟩:=u.any ho I.free (by simp)
 exact I.step (g':=s.gens) (d':=s.drawn) (ch:=[]) (fun _ z=>nomatch z) (fun b o _ hb _ e n=>u.keep b o e n hb (by simp)) (fun b o _ hb _ e n=>u.slot b o e n hb (by simp)) (fun b o _ e n=>u.free b o e n (by simp)) (fun b o _ e=>u.there b o e (by simp)) u.tups u.frzs u.tbls (fun m' hm=>by
  obtain ⟨o',es',ep',ho',r'⟩:=hm
  rw [ho] at ho'; cases ho'
  exact ⟨_,es',ep',hL,r'⟩) hok I.bare
theorem Inv.call {g':Array GenState} {t':Nat} {d':Drawn} {ch:List Addr} (I:Inv X pins σ H s) (u:Un (frs X.stack) ch H H' s.heap h') (hok:HOk X.prog X.w H' h') (hg:AllBare g')
  (hch:∀ b ∈ ch,(b ∈ X.ex ∨ X.s₀.heap.objs.size ≤ b) ∧ b ≠ X.env.locals ∧ (∀ x c,X.env.cells.lookup x = some c → c ≠ b) ∧ ∀ p ∈ X.pn ++ pins,p.1 ≠ b) :
  Inv X pins σ H' { s with heap:=h',gens:=g',drawn:=d',toks:=t' }:=by
 obtain ⟨m,⟨o,es,ep,ho,r⟩,_⟩:=id I.loc
 obtain ⟨sl,hL⟩:=u.any ho I.free fun z=>(hch _ z).2.1 rfl
 exact I.step (ch:=ch) hch (fun b o hL hb hc e n=>u.keep b o e n (fun z=>(List.mem_cons.mp (I.stkSub b z)).elim hL hb) hc) (fun b o _ _ hc e n=>u.any e n hc) (fun b o hc e n=>u.free b o e n hc) (fun b o hc e=>u.there b o e hc) u.tups u.frzs u.tbls (fun m' hm=>by
  obtain ⟨o',es',ep',ho',r'⟩:=hm
  rw [ho] at ho'; cases ho'
  exact ⟨_,es',ep',hL,r'⟩) hok hg
theorem Inv.turned {t':Nat} {it:Addr} (I:Inv X pins σ H s) (k:∀ b o,b ≠ it → s.heap.get? b = some o → h'.get? b = some o) (hn:H it = none) (hL:it ≠ X.env.locals)
  (h1:it ∈ X.ex ∨ X.s₀.heap.objs.size ≤ it) (h2:∀ x c,X.env.cells.lookup x = some c → c ≠ it) (h3:∀ p ∈ X.pn ++ pins,p.1 ≠ it):Inv X pins σ H { s with heap:=h',toks:=t' }:=by
 have nit:∀ b u,H b = some u → b ≠ it:=fun b u e z=>by rw [z,hn] at e; cases e
 refine I.step (g':=s.gens) (d':=s.drawn) (ch:=[it]) (fun b hb=>?_) (fun b o _ _ hc e _=>k b o (fun z=>hc (by simp [z])) e) (fun b o _ _ hc e _=>⟨o.slots,k b o (fun z=>hc (by simp [z])) e⟩) (fun _ _ _ _ n=>n)
  (fun b o hc e=>⟨o,k b o (fun z=>hc (by simp [z])) e⟩) (fun _ _ e=>e) (fun _ _ _ e=>e) (fun b ps e=>⟨#[],by rw [e]; simp⟩) (fun m hm=>?_) (fun b u e=>?_) I.bare
 ·have e:b = it:=by simpa using hb
  subst e
  exact ⟨h1,hL,h2,h3⟩
 ·obtain ⟨o,es,ep,ho,r⟩:=hm
  exact ⟨o,es,ep,k _ o (Ne.symm hL) ho,r⟩
 ·refine (I.hok b u e).stay (fun c v hc q=>k c v ?_ q) (fun _ q=>q) fun _ _ q=>q
  rcases hc with z | z
  ·rw [z]; exact nit b u e
  ·exact nit c _ z
theorem Inv.tok (I:Inv X pins σ H s) (t:Nat):Inv X pins σ H { s with toks:=t }:=I.un (h':=s.heap) (t':=t) Un.refl I.hok
theorem Inv.kept {t':Nat} (I:Inv X pins σ H s) (k:∀ b u,s.heap.get? b = some u → h'.get? b = some u):Inv X pins σ H { s with heap:=h',toks:=t' }:=I.un (Un.kept k) (I.hok.kept k)
theorem Inv.laid {a:Addr} {o:HO} {t':Nat} (I:Inv X pins σ H s) (k:∀ b u,s.heap.get? b = some u → h'.get? b = some u) (hp:s.heap.objs.size ≤ a) (new:acx X.prog X.w (upd H a o) h' a o) :
  Inv X pins σ (upd H a o) { s with heap:=h',toks:=t' }:=I.un (Un.laid k hp (I.hok.fresh hp)) (I.hok.laid k hp new)
theorem Inv.write {x e:Addr} {o:HO} {t':Nat} (I:Inv X pins σ H s) (mu:Mut (H x)) (he:e = x ∨ H e = some (.own x)) (k:∀ b u,b ≠ e → s.heap.get? b = some u → h'.get? b = some u) (heo:∃ u,h'.get? e = some u)
  (new:acx X.prog X.w (upd H x o) h' x o):Inv X pins σ (upd H x o) { s with heap:=h',toks:=t' }:=I.un (Un.write mu he k heo) (I.hok.write mu he k heo new)
theorem Inv.pins_of {pins':List (Addr × Obj)} (I:Inv X pins σ H s) (h:∀ p ∈ pins',s.heap.get? p.1 = some p.2 ∧ H p.1 = none ∧ p.1 ≠ X.env.locals ∧ p.1 ∉ X.fs ∧ ∀ v,p.2.data ≠ .cell v):Inv X pins' σ H s :=
 ⟨I.ok,I.os,I.bare,I.base,I.loc,I.cell,I.free,I.freeC,fun p hp=>(List.mem_append.mp hp).elim (fun z=>I.pin p (List.mem_append_left _ z)) (h p),I.hok,I.len⟩
theorem agx {N:List Str} (hN:N.Nodup) {i j:Nat} {x:Str} (a:N[i]? = some x) (b:N[j]? = some x):i = j:=by
 obtain ⟨h1,e1⟩:=List.getElem?_eq_some_iff.mp a
 obtain ⟨h2,e2⟩:=List.getElem?_eq_some_iff.mp b
 exact (List.getElem_inj hN).mp (e1.trans e2.symm)
theorem akQ {M:Model} {A:Around} {E:Value → Shared → Prop} {i:Nat} {x:Str} {v:V} {u:Value} {Q:Unit → Shared → Prop} (I:Inv X pins σ H s) (hN:X.N.Nodup) (hi:X.N[i]? = some x) (hx:Loc X.env.scope x) (r:RelV v u)
  (h:∀ s',Inv X pins (σ.set i (some v)) H s' → (∃ a,Heap.SameBut a s.heap s'.heap ∧ (a = X.env.locals ∨ X.env.cells.lookup x = some a)) → Q () s') (hf:X.fn x = true ∨ X.env.scope.names.lookup x = some .local:=by first | exact .inl rfl | exact .inr rfl | assumption):wpAny M A (storeName X.env x u) Q E s:=by
 obtain ⟨m,hn,hl⟩:=id I.loc
 have hcls:(X.env.scope.kind == .class || (X.env.scope.kind == .module && X.env.locals != X.env.globals)) = false:=by rw [I.ok.kind]; rfl
 have hiσ:i < σ.length:=by rw [I.len]; exact (List.getElem?_eq_some_iff.mp hi).1
 have cne:=I.cne
 have tracked:∀ {a:Addr} {h':Heap},(∃ o,s.heap.get? a = some o ∧ H a = none) → Heap.SameBut a s.heap h' → HOk X.prog X.w H h':=fun {a h'} ha hs b ob e=>by
  obtain ⟨_,_,hfree⟩:=ha
  refine (I.hok b ob e).stay (fun c w' hc q=>(hs.2 c ?_).trans q) (fun _ q=>q) fun _ _ q=>q
  rintro rfl
  rcases hc with rfl | hc
  ·rw [hfree] at e; cases e
  ·rw [hfree] at hc; cases hc
 rcases hx with hk | hk
 ·refine wpAny_storeName_local hk hn (fun h' hn' hs=>?_) hcls
  obtain ⟨oL,_,_,hoL,_⟩:=id hn
  refine h _ ⟨I.ok,I.os,I.bare,⟨fun b o e n hb hx=>?_,fun b o e n hb hx=>?_,I.base.free,fun b o e hx=>?_,I.base.tups,I.base.frzs,I.base.tbls⟩,⟨_,hn',fun j y v' e1 e2 e3=>?_⟩,fun y c e=>?_,I.free,I.freeC,fun p hp=>?_,tracked ⟨oL,hoL,I.free⟩ hs,by simpa using I.len⟩ ⟨_,hs,.inl rfl⟩
  ·exact (hs.2 b (Nat.ne_of_lt (Nat.lt_of_lt_of_le (Heap.lt_size e) I.ok.above))).trans (I.base.keep b o e n hb hx)
  ·obtain ⟨sl,e1⟩:=I.base.slot b o e n hb hx
   exact ⟨sl,(hs.2 b (Nat.ne_of_lt (Nat.lt_of_lt_of_le (Heap.lt_size e) I.ok.above))).trans e1⟩
  ·obtain ⟨o',e1⟩:=I.base.there b o e hx
   exact ⟨o',(hs.2 b (Nat.ne_of_lt (Nat.lt_of_lt_of_le (Heap.lt_size e) I.ok.above))).trans e1⟩
  ·by_cases hj:j = i
   ·subst hj
    rw [hi] at e1; cases e1
    rw [List.getElem?_set_self hiσ] at e2
    cases e2
    exact ⟨u,r,.inl ⟨hk,by simp⟩⟩
   ·rw [List.getElem?_set_ne (Ne.symm hj)] at e2
    obtain ⟨u',r',q⟩:=hl j y v' e1 e2 e3
    refine ⟨u',r',?_⟩
    rcases q with ⟨k,e⟩ | ⟨k,c,e,z⟩
    ·refine .inl ⟨k,?_⟩
     have:y ≠ x:=fun e=>hj (agx hN e1 (e ▸ hi))
     simp [this,e]
    ·exact .inr ⟨k,c,e,z.sameBut hs (cne y c e)⟩
  ·obtain ⟨w',z⟩:=I.cell y c e
   exact ⟨w',z.sameBut hs (cne y c e)⟩
  ·obtain ⟨e,n,ne,nf,d⟩:=I.pin p hp
   exact ⟨(hs.2 p.1 ne).trans e,n,ne,nf,d⟩
 ·have hfn:X.fn x = true:=by
   rcases hf with z | z
   ·exact z
   ·rw [z] at hk; cases hk
  obtain ⟨c,hc⟩:=I.ok.has x (.inl hk)
  obtain ⟨w',z⟩:=I.cell x c hc
  refine wpAny_storeName_cell I.ok.kind hk hc z (fun h' hc' hs=>?_)
  obtain ⟨oc,hoc,hocd⟩:=id z
  refine h { s with heap:=h' } ⟨I.ok,I.os,I.bare,⟨fun b o e n hb hx=>?_,fun b o e n hb hx=>?_,I.base.free,fun b o e hx=>?_,I.base.tups,I.base.frzs,I.base.tbls⟩,⟨m,hn.sameBut hs (Ne.symm (cne x c hc)),fun j y v' e1 e2 e3=>?_⟩,fun y c' e=>?_,I.free,I.freeC,fun p hp=>?_,tracked ⟨oc,hoc,I.freeC x c hc⟩ hs,by simpa using I.len⟩ ⟨c,hs,.inr hc⟩
  ·exact (hs.2 b (Nat.ne_of_lt (Nat.lt_of_lt_of_le (Heap.lt_size e) (I.ok.cab x c hfn hc)))).trans (I.base.keep b o e n hb hx)
  ·obtain ⟨sl,e1⟩:=I.base.slot b o e n hb hx
   exact ⟨sl,(hs.2 b (Nat.ne_of_lt (Nat.lt_of_lt_of_le (Heap.lt_size e) (I.ok.cab x c hfn hc)))).trans e1⟩
  ·obtain ⟨o',e1⟩:=I.base.there b o e hx
   exact ⟨o',(hs.2 b (Nat.ne_of_lt (Nat.lt_of_lt_of_le (Heap.lt_size e) (I.ok.cab x c hfn hc)))).trans e1⟩
  ·by_cases hj:j = i
   ·subst hj
    rw [hi] at e1; cases e1
    rw [List.getElem?_set_self hiσ] at e2
    cases e2
    exact ⟨u,r,.inr ⟨.inl hk,c,hc,hc'⟩⟩
   ·rw [List.getElem?_set_ne (Ne.symm hj)] at e2
    obtain ⟨u',r',q⟩:=hl j y v' e1 e2 e3
    refine ⟨u',r',?_⟩
    rcases q with q | ⟨k,c',e,z'⟩
    ·exact .inl q
    ·refine .inr ⟨k,c',e,z'.sameBut hs ?_⟩
     rintro rfl
     exact hj (agx hN e1 (I.ok.inj _ _ _ e hc ▸ hi))
  ·by_cases hcc:c' = c
   ·subst hcc; exact ⟨_,hc'⟩
   ·obtain ⟨w2,z2⟩:=I.cell y c' e
    exact ⟨w2,z2.sameBut hs hcc⟩
  ·obtain ⟨e,n,ne,nf,d⟩:=I.pin p hp
   refine ⟨(hs.2 p.1 ?_).trans e,n,ne,nf,d⟩
   intro q
   rw [q,hoc] at e
   have q':oc = p.2:=Option.some.inj e
   exact d w' (by rw [← q']; exact hocd)
theorem acF {M:Model} {A:Around} {E:Value → Shared → Prop} {i:Nat} {x:Str} {v:V} {u:Value} {Q:Unit → Shared → Prop} (I:Inv X pins σ H s) (hN:X.N.Nodup) (hi:X.N[i]? = some x) (hx:Loc X.env.scope x) (r:RelV v u)
  (h:∀ s',Inv X pins (σ.set i (some v)) H s' → Q () s') (hf:X.fn x = true ∨ X.env.scope.names.lookup x = some .local:=by first | exact .inl rfl | exact .inr rfl | assumption):wpAny M A (storeName X.env x u) Q E s :=
 akQ I hN hi hx r (fun s' I' _=>h s' I') hf
theorem Inv.call' {s':Shared} {ch:List Addr} (I:Inv X pins σ H s) (ho:s'.os = s.os) (u:Un (frs X.stack) ch H H' s.heap s'.heap) (hok:HOk X.prog X.w H' s'.heap) (hg:AllBare s'.gens)
  (hch:∀ b ∈ ch,(b ∈ X.ex ∨ X.s₀.heap.objs.size ≤ b) ∧ b ≠ X.env.locals ∧ (∀ x c,X.env.cells.lookup x = some c → c ≠ b) ∧ ∀ p ∈ X.pn ++ pins,p.1 ≠ b):Inv X pins σ H' s':=by
 obtain ⟨h',g',d',t',o'⟩:=s'
 have e:o' = s.os:=ho
 subst e
 exact I.call (g':=g') (t':=t') (d':=d') u hok hg hch
end
abbrev XK:=Value → Option Addr → Hp → Prop
abbrev St:=List (Option V)
abbrev VK:=V → Hp → Prop
abbrev TE:=St → Hp → VK → Prop
abbrev TT:=St → Hp → (Bool → Hp → Prop) → Prop
abbrev TA:=St → Hp → (List V → Hp → Prop) → Prop
structure Ends where
 nx:St → Hp → Prop
 rt:VK
 bk:St → Hp → Prop:=fun _ _=>False
 ct:St → Hp → Prop:=fun _ _=>False
abbrev TS:=Ends → St → Hp → Prop
def EP (X:Cx) (pins:List (Addr × Obj)) (σ:St) (Q:VK) (u:Value) (s':Shared):Prop:=∃ v H',Inv X pins σ H' s' ∧ RelV v u ∧ Q v H'
def TP (X:Cx) (pins:List (Addr × Obj)) (σ:St) (Q:Bool → Hp → Prop) (b:Bool) (s':Shared):Prop:=∃ H',Inv X pins σ H' s' ∧ Q b H'
def AP (X:Cx) (pins:List (Addr × Obj)) (σ:St) (Q:List V → Hp → Prop) (us:List Value) (s':Shared):Prop:=∃ vs H',Inv X pins σ H' s' ∧ Vals vs us ∧ Q vs H'
def SP (X:Cx) (pins:List (Addr × Obj)) (D:Ends) (f:Flow) (s':Shared):Prop :=
 match f with
 | .next=>∃ σ' H',Inv X pins σ' H' s' ∧ D.nx σ' H'
 | .brk=>∃ σ' H',Inv X pins σ' H' s' ∧ D.bk σ' H'
 | .cont=>∃ σ' H',Inv X pins σ' H' s' ∧ D.ct σ' H'
 | .ret u=>∃ v σ' H',Inv X pins σ' H' s' ∧ RelV v u ∧ D.rt v H'
def PE (X:Cx) (e:Expr) (t:TE):Prop :=
 ∀ (pins:List (Addr × Obj)) (s:Shared) (σ:St) (H:Hp) (Q:VK),Inv X pins σ H s → t σ H Q → wpAny (model X.prog X.w) X.A (eval e X.env) (EP X pins σ Q) X.xe s
def PT (X:Cx) (e:Expr) (t:TT):Prop :=
 ∀ (pins:List (Addr × Obj)) (s:Shared) (σ:St) (H:Hp) (Q:Bool → Hp → Prop),Inv X pins σ H s → t σ H Q → wpAny (model X.prog X.w) X.A (isTrue e X.env (eval e X.env)) (TP X pins σ Q) X.xe s
def PW (X:Cx) (e:Expr) (t:TT):Prop :=
 ∀ (whole:Sem Value) (pins:List (Addr × Obj)) (s:Shared) (σ:St) (H:Hp) (Q:Bool → Hp → Prop),Inv X pins σ H s → t σ H Q → wpAny (model X.prog X.w) X.A (isTrue e X.env whole) (TP X pins σ Q) X.xe s
theorem PW.pt {X:Cx} {e:Expr} {t:TT} (h:PW X e t):PT X e t:=h _
def PA (X:Cx) (es:List Expr) (t:TA):Prop :=
 ∀ (pos:Pos) (pins:List (Addr × Obj)) (s:Shared) (σ:St) (H:Hp) (Q:List V → Hp → Prop),Inv X pins σ H s → t σ H Q → wpAny (model X.prog X.w) X.A (spliced (backTo pos (starEach es X.env))) (AP X pins σ Q) X.xe s
def PS (X:Cx) (st:Stmt) (t:TS):Prop :=
 ∀ (pins:List (Addr × Obj)) (s:Shared) (σ:St) (H:Hp) (D:Ends),Inv X pins σ H s → t D σ H → wpAny (model X.prog X.w) X.A (exec st X.env) (SP X pins D) X.xe s
def PSs (X:Cx) (st:List Stmt) (t:TS):Prop :=
 ∀ (pins:List (Addr × Obj)) (s:Shared) (σ:St) (H:Hp) (D:Ends),Inv X pins σ H s → t D σ H → wpAny (model X.prog X.w) X.A (execs st X.env) (SP X pins D) X.xe s
theorem thn {α:Type} {t:Sem α} {Q Q':α → Shared → Prop} {M:Model} {A:Around} {E:Value → Shared → Prop} {s:Shared} (h:wpAny M A t Q E s) (hQ:∀ a s,Q a s → Q' a s):wpAny M A t Q' E s:=wpAny_mono h hQ fun _ _ x=>x
end L2
namespace L2
open PySem PySem.Spec PyProof.Rows
section
variable {X:Cx}
theorem bin {a b:Expr} {ta tb:TE} (ha:PE X a ta) (hb:PE X b tb) {pins:List (Addr × Obj)} {s:Shared} {σ:St} {H:Hp} {R:V → V → Hp → Prop} (I:Inv X pins σ H s) (h:ta σ H fun x H1=>tb σ H1 fun y H2=>R x y H2)
  {α:Type} {Q:α → Shared → Prop} {f:Value → Value → Sem α}
  (hf:∀ v u s2 x y H2,Inv X pins σ H2 s2 → RelV x v → RelV y u → R x y H2 → wpAny (model X.prog X.w) X.A (f v u) Q X.xe s2) :
  wpAny (model X.prog X.w) X.A (eval a X.env) (fun v s₁=>wpAny (model X.prog X.w) X.A (eval b X.env) (fun u s₂=>wpAny (model X.prog X.w) X.A (f v u) Q X.xe s₂) X.xe s₁) X.xe s:=by
 refine thn (ha pins s σ H _ I h) fun v s1 ⟨x,H1,I1,r1,q1⟩=>?_
 refine thn (hb pins s1 σ H1 _ I1 q1) fun u s2 ⟨y,H2,I2,r2,q2⟩=>?_
 exact hf v u s2 x y H2 I2 r1 r2 q2
def tVar (i:Nat):TE:=fun σ H Q=>∃ v,σ[i]? = some (some v) ∧ Q v H
def tC (v:V):TE:=fun _ H Q=>Q v H
theorem aeR {i:Nat} {x:Str} {pos:Pos} (hN:X.N[i]? = some x) (hv:Vis X.env.scope x) (hd:(x == ("__debug__":Str)) = false:=by decide) (hcd:(x == ("__classdict__":Str)) = false:=by decide):PE X (.Name x pos) (tVar i):=by
 intro pins s σ H Q I h
 obtain ⟨v,e,h⟩:=h
 obtain ⟨m,hn,hl⟩:=I.loc
 obtain ⟨u,r,l⟩:=hl i x v hN e hv
 have fin:EP X pins σ Q u s:=⟨v,H,I,r,h⟩
 rcases l with ⟨hk,hm⟩ | ⟨hk,c,hc,hcell⟩
 ·exact wpAny_Name (wpAny_loadName_local I.ok.kind hk hn hm fin) hd
 ·rcases hk with hk | hk
  ·exact wpAny_Name (wpAny_loadName_cell I.ok.kind hk hc hcell fin) hd
  ·exact wpAny_Name (wpAny_loadName_free I.ok.kind hk hc hcell fin hcd) hd
theorem amc {i j pos}:PE X (.Constant (.int i) j pos) (tC (.int i)):=fun _ _ _ H _ I h=>wpAny_Constant_int ⟨.int i,H,I.tok _,⟨_,rfl⟩,h⟩
theorem apw {b j pos}:PE X (.Constant (.bool b) j pos) (tC (.bl b)):=fun _ _ _ H _ I h=>Constant_bool ⟨.bl b,H,I,rfl,h⟩
theorem aow {j pos}:PE X (.Constant .none j pos) (tC .non):=fun _ _ _ H _ I h=>Constant_none ⟨.non,H,I,rfl,h⟩
theorem aon {x j pos}:PE X (.Constant (.str x) j pos) (tC (.str x)):=fun _ _ _ H _ I h=>Calls.Constant_str ⟨.str x,H,I.tok _,⟨_,rfl⟩,h⟩
def Gl (X:Cx) (x:Str):Prop:=X.env.kindOf x = some .globalImplicit
theorem ae1 {E:Value → Shared → Prop} {pins:List (Addr × Obj)} {s:Shared} {σ:St} {H:Hp} {x:Str} {u:Value} {pos:Pos} {Q:Value → Shared → Prop} (I:Inv X pins σ H s) (hg:Gl X x) (hm:X.mg x = some u) (h:Q u s)
  (hd:(x == ("__debug__":Str)) = false:=by decide):wpAny (model X.prog X.w) X.A (eval (.Name x pos) X.env) Q E s :=
 Calls.Name_function_global I.ok.kind hg (Calls.loadGlobal_global (by rw [I.ok.glob]; exact I.mod.glob.keeps I.bk) hm h) hd
theorem afg {E:Value → Shared → Prop} {pins:List (Addr × Obj)} {s:Shared} {σ:St} {H:Hp} {x:Str} {u:Value} {pos:Pos} {Q:Value → Shared → Prop} (I:Inv X pins σ H s) (hg:Gl X x) (hm:X.mg x = none) (hv:bootBuiltins x = some u) (h:Q u s)
  (hn:x ≠ "__name__":=by decide) (hd:(x == ("__debug__":Str)) = false:=by decide):wpAny (model X.prog X.w) X.A (eval (.Name x pos) X.env) Q E s:=by
 obtain ⟨mb,h1,h2⟩:=I.mod.blt
 exact Calls.Name_function_global I.ok.kind hg (Calls.loadGlobal_builtin (by rw [I.ok.glob]; exact I.mod.glob.keeps I.bk) hm (by rw [I.ok.blt]; exact h1.keeps I.bk) ((h2 x hn).trans hv) h) hd
theorem anK {x:Str} {v:V} {u:Value} {pos:Pos} (hg:Gl X x) (hm:X.mg x = some u) (r:RelV v u) (hd:(x == ("__debug__":Str)) = false:=by decide):PE X (.Name x pos) (tC v) :=
 fun _ _ _ H _ I h=>ae1 I hg hm ⟨v,H,I,r,h⟩ hd
theorem anI {x:Str} {v:V} {u:Value} {pos:Pos} (hg:Gl X x) (hm:X.mg x = none) (hv:bootBuiltins x = some u) (r:RelV v u) (hn:x ≠ "__name__":=by decide) (hd:(x == ("__debug__":Str)) = false:=by decide):PE X (.Name x pos) (tC v) :=
 fun _ _ _ H _ I h=>afg I hg hm hv ⟨v,H,I,r,h⟩ hn hd
variable {a b:Expr} {ta tb:TE} {pos:Pos}
def PC (X:Cx) (op:CmpOp) (a b:Expr) (t:TE):Prop :=
 ∀ (pins:List (Addr × Obj)) (s:Shared) (σ:St) (H:Hp) (Q:VK),Inv X pins σ H s → t σ H Q →
  wpAny (model X.prog X.w) X.A (eval a X.env) (fun v s₁=>wpAny (model X.prog X.w) X.A (eval b X.env) (fun u s₂=>wpAny (model X.prog X.w) X.A (compareOp op v u) (EP X pins σ Q) X.xe s₂) X.xe s₁) X.xe s
theorem aic (b:Expr) {op:CmpOp} (h:op ≠ .In) (h2:op ≠ .NotIn):behindInMarks op b = false:=by
 have e1:(op == CmpOp.In) = false:=by cases op <;> first | rfl | exact absurd rfl h
 have e2:(op == CmpOp.NotIn) = false:=by cases op <;> first | rfl | exact absurd rfl h2
 cases b <;> simp [behindInMarks,e1,e2]
def tIsN (ta:TE):TE:=fun σ H Q=>ta σ H fun x H1=>Q (.bl (decide (x = .non))) H1
theorem RelV.none_iff {x:V} {v:Value} (r:RelV x v):(v == Value.none) = decide (x = .non):=by
 cases x with
 | non=>cases r; rfl
 | bl _=>cases r; rfl
 | int _=>obtain ⟨t,rfl⟩:=r; rfl
 | str _=>obtain ⟨t,rfl⟩:=r; rfl
 | byt _=>obtain ⟨t,rfl⟩:=r; rfl
 | flt _=>obtain ⟨t,rfl⟩:=r; rfl
 | ref _=>cases r; rfl
 | ty _=>cases r; rfl
theorem aoa {j pos'} (ha:PE X a ta):PC X .Is a (.Constant .none j pos') (tIsN ta):=by
 intro pins s σ H Q I h
 refine thn (ha pins s σ H _ I h) fun v s1 ⟨x,H1,I1,r1,q1⟩=>?_
 exact Constant_none (is_none_gen ⟨.bl _,H1,I1,by rw [r1.none_iff]; rfl,q1⟩)
def tB (t:TE):TT:=fun σ H Q=>t σ H fun x H1=>∃ c,x = .bl c ∧ Q c H1
theorem aph {op:CmpOp} {t:TE} (h:PC X op a b t) (h1:behindInMarks op b = false:=by first | exact aic _ (by decide) (by decide) | rfl):PE X (.Compare a [op] [b] pos) t:=fun pins s σ H Q I hw=>wpAny_Compare1 (h pins s σ H Q I hw) h1
theorem aqc {op:CmpOp} {t:TE} (h:PC X op a b t) (h1:behindInMarks op b = false:=by first | exact aic _ (by decide) (by decide) | rfl):PT X (.Compare a [op] [b] pos) (tB t):=by
 intro pins s σ H Q I hw
 refine wpAny_isTrue_Compare1 (thn (h pins s σ H _ I hw) fun v s1 h1=>thn h1 fun u s2 h2=>thn h2 fun c s3 ⟨x,H1,I1,r1,q1⟩=>?_) h1
 obtain ⟨d,rfl,q⟩:=q1
 cases r1
 exact wpAny_truthy_bool ⟨H1,I1,q⟩
theorem aoA {e:Expr} {t:TE} (h:PE X e t) (he:∀ whole,isTrue e X.env whole = (do let v ← whole; standAt e.pos; holding [v] (truthy v)):=by intro _; rfl):PT X e (tB t):=by
 intro pins s σ H Q I hw
 refine isTrue_plain (thn (h pins s σ H _ I hw) fun v s1 ⟨x,H1,I1,r1,q1⟩=>?_) (he _)
 obtain ⟨d,rfl,q⟩:=q1
 cases r1
 exact wpAny_truthy_bool ⟨H1,I1,q⟩
variable {tA tB':TT} {rest:List Expr}
def tAnd (t u:TT):TT:=fun σ H Q=>t σ H fun c H1=>if c = true then u σ H1 Q else Q false H1
def tOr (t u:TT):TT:=fun σ H Q=>t σ H fun c H1=>if c = true then Q true H1 else u σ H1 Q
def tNot (t:TT):TT:=fun σ H Q=>t σ H fun c H1=>Q (!c) H1
theorem anN (ha:PT X a tA):PW X (.BoolOp .And [a] pos) tA:=by
 intro wh pins s σ H Q I h
 refine isTrue_and (thn (ha pins s σ H Q I h) fun c s1 e=>?_)
 cases c with
 | true=>exact isTrue_and_nil e
 | false=>exact e
theorem aoC (ha:PT X a tA):PW X (.BoolOp .Or [a] pos) tA:=by
 intro wh pins s σ H Q I h
 refine isTrue_or (thn (ha pins s σ H Q I h) fun c s1 e=>?_)
 cases c with
 | false=>exact isTrue_or_nil e
 | true=>exact e
theorem aoq (ha:PT X a tA) (hb:PW X (.BoolOp .And (b :: rest) pos) tB'):PW X (.BoolOp .And (a :: b :: rest) pos) (tAnd tA tB'):=by
 intro wh pins s σ H Q I h
 refine isTrue_and (thn (ha pins s σ H _ I h) fun c s1 ⟨H1,I1,q1⟩=>?_)
 cases c with
 | true=>exact hb wh pins s1 σ H1 Q I1 q1
 | false=>exact ⟨H1,I1,q1⟩
theorem apG (ha:PT X a tA) (hb:PW X (.BoolOp .Or (b :: rest) pos) tB'):PW X (.BoolOp .Or (a :: b :: rest) pos) (tOr tA tB'):=by
 intro wh pins s σ H Q I h
 refine isTrue_or (thn (ha pins s σ H _ I h) fun c s1 ⟨H1,I1,q1⟩=>?_)
 cases c with
 | true=>exact ⟨H1,I1,q1⟩
 | false=>exact hb wh pins s1 σ H1 Q I1 q1
theorem ao1 (ha:PT X a tA):PT X (.UnaryOp .Not a pos) (tNot tA):=by
 intro pins s σ H Q I h
 exact isTrue_not (ha pins s σ H (fun c H1=>Q (!c) H1) I h)
def aqb (ta tb:TE):TE:=fun σ H Q=>ta σ H fun x H1=>∃ c,x = .bl c ∧ if c = true then tb σ H1 Q else Q (.bl false) H1
def apT (ta:TE):TE:=fun σ H Q=>ta σ H fun x H1=>∃ c,x = .bl c ∧ Q (.bl (!c)) H1
theorem aoV {op} {t:TE} (h:PE X a t):PE X (.BoolOp op [a] pos) t:=fun pins s σ H Q I hw=>BoolOp_one (h pins s σ H Q I hw)
theorem ao8 (ha:PE X a ta) (hb:PE X (.BoolOp .And (b :: rest) pos) tb):PE X (.BoolOp .And (a :: b :: rest) pos) (aqb ta tb):=by
 intro pins s σ H Q I h
 refine BoolOp_and (thn (ha pins s σ H _ I h) fun v s1 ⟨x,H1,I1,r1,q1⟩=>?_)
 obtain ⟨c,rfl,q1⟩:=q1
 cases r1
 refine wpAny_truthy_bool ?_
 cases c with
 | true=>exact hb pins s1 σ H1 Q I1 q1
 | false=>exact ⟨.bl false,H1,I1,rfl,q1⟩
theorem aoh (ha:PE X a ta):PE X (.UnaryOp .Not a pos) (apT ta):=by
 intro pins s σ H Q I h
 refine UnaryOp_ (thn (ha pins s σ H _ I h) fun v s1 ⟨x,H1,I1,r1,q1⟩=>?_)
 obtain ⟨c,rfl,q1⟩:=q1
 cases r1
 exact not_of (wpAny_truthy_bool ⟨.bl (!c),H1,I1,rfl,q1⟩)
end
end L2
namespace L2
open PySem PySem.Spec PyProof.Rows
def SqL (K:PySem.W.Frag) (H:Hp) (a:Addr) (xs:List V):Prop :=
 Rd H a (.lst xs) ∨
  ∃ (o:Obj) (its:Array Value) (n:Nat),K.lookup a = some o ∧ o.cls = .type "list" ∧ o.dict = none ∧ o.data = .seq its n ∧ its.size ≤ sizeLine ∧ Vals xs its.toList
def SqT (K:PySem.W.Frag) (H:Hp) (a:Addr) (xs:List V):Prop :=
 Rd H a (.tup xs) ∨
  ∃ (o:Obj) (its:Array Value) (n:Nat),K.lookup a = some o ∧ o.cls = .type "tuple" ∧ o.data = .seq its n ∧ its.size ≤ sizeLine ∧ Vals xs its.toList
def absV:Value → Option V
 | .none=>some .non
 | .bool b=>some (.bl b)
 | .int i _=>some (.int i)
 | .str x _=>some (.str x)
 | .bytes b _=>some (.byt b)
 | .float b _=>some (.flt b)
 | .ref a=>some (.ref a)
 | .type n=>some (.ty n)
 | _=>none
theorem RelV.abs {x:V} {u:Value} (r:RelV x u):absV u = some x:=by
 cases x with
 | non=>cases r; rfl
 | bl _=>cases r; rfl
 | int _=>obtain ⟨t,rfl⟩:=r; rfl
 | str _=>obtain ⟨t,rfl⟩:=r; rfl
 | byt _=>obtain ⟨t,rfl⟩:=r; rfl
 | flt _=>obtain ⟨t,rfl⟩:=r; rfl
 | ref _=>cases r; rfl
 | ty _=>cases r; rfl
theorem RelV.inj {x y:V} {u:Value} (r:RelV x u) (q:RelV y u):x = y:=Option.some.inj (r.abs.symm.trans q.abs)
theorem Vals.inj:∀ {xs ys:List V} {us:List Value},Vals xs us → Vals ys us → xs = ys
 | _,_,_,.nil,.nil=>rfl
 | _,_,_,.cons r t,.cons r' t'=>by rw [r.inj r',Vals.inj t t']
section
variable {X:Cx} {pins:List (Addr × Obj)} {σ:St} {H:Hp} {s:Shared} {a:Addr} {xs ys:List V}
theorem SqL.of {K:PySem.W.Frag} (h:H a = some (.lst xs)):SqL K H a xs:=.inl (.inl h)
theorem SqT.of {K:PySem.W.Frag} (h:H a = some (.tup xs)):SqT K H a xs:=.inl (.inl h)
theorem Inv.list (I:Inv X pins σ H s) (h:SqL X.K H a xs):∃ its:List Value,Vals xs its ∧ PlainL s.heap a its.toArray ∧ xs.length ≤ sizeLine:=by
 rcases h with h | ⟨o,its,n,hk,hc,hd,hs,hz,r⟩
 ·obtain ⟨z,its,n,r,e⟩:=h.ok I.hok
  exact ⟨its,r,⟨_,n,e,rfl,rfl,rfl⟩,z⟩
 ·refine ⟨its.toList,r,⟨o,n,I.kIn a o hk,hc,hd,by simpa using hs⟩,?_⟩
  have e:=r.length
  simp only [Array.length_toList] at e
  omega
theorem Inv.tuple (I:Inv X pins σ H s) (h:SqT X.K H a xs):∃ its:List Value,Vals xs its ∧ IsTup s.heap a its.toArray ∧ xs.length ≤ sizeLine:=by
 rcases h with h | ⟨o,its,n,hk,hc,hs,hz,r⟩
 ·obtain ⟨z,its,r,p⟩:=h.ok I.hok
  exact ⟨its,r,p,z⟩
 ·refine ⟨its.toList,r,⟨o,I.kIn a o hk,hc,n,by simpa using hs⟩,?_⟩
  have e:=r.length
  simp only [Array.length_toList] at e
  omega
theorem Inv.list_inj (I:Inv X pins σ H s) (h:SqL X.K H a xs) (h':SqL X.K H a ys):xs = ys:=by
 obtain ⟨its,r,⟨o,n,e,_,_,d⟩,_⟩:=I.list h
 obtain ⟨its',r',⟨o',n',e',_,_,d'⟩,_⟩:=I.list h'
 rw [e] at e'; cases e'
 rw [d] at d'
 injection d' with d1 _
 have:its = its':=by simpa using congrArg Array.toList d1
 subst this
 exact r.inj r'
theorem Inv.tuple_inj (I:Inv X pins σ H s) (h:SqT X.K H a xs) (h':SqT X.K H a ys):xs = ys:=by
 obtain ⟨its,r,⟨o,e,_,n,d⟩,_⟩:=I.tuple h
 obtain ⟨its',r',⟨o',e',_,n',d'⟩,_⟩:=I.tuple h'
 rw [e] at e'; cases e'
 rw [d] at d'
 injection d' with d1 _
 have:its = its':=by simpa using congrArg Array.toList d1
 subst this
 exact r.inj r'
end
abbrev Cx.wish (X:Cx) (E:Value → Shared → Prop):Cx:={ X with xe:=E }
abbrev Cx.nox (X:Cx):Cx:=X.wish fun _ _=>False
theorem Cx.Ok.wish {X:Cx} (ok:X.Ok) (E:Value → Shared → Prop):(X.wish E).Ok :=
 ⟨ok.mod,ok.kind,ok.glob,ok.blt,ok.above,ok.inj,ok.has,ok.cab,ok.hd,ok.frames,ok.stk,ok.exf,ok.bs,ok.bsz,ok.noex,ok.exfs,ok.funs,ok.frf⟩
theorem Cx.Ok.unwish {X:Cx} {E:Value → Shared → Prop} (ok:(X.wish E).Ok):X.Ok :=
 ⟨ok.mod,ok.kind,ok.glob,ok.blt,ok.above,ok.inj,ok.has,ok.cab,ok.hd,ok.frames,ok.stk,ok.exf,ok.bs,ok.bsz,ok.noex,ok.exfs,ok.funs,ok.frf⟩
section
variable {X:Cx} {pins:List (Addr × Obj)} {σ:St} {H:Hp} {s:Shared} {E:Value → Shared → Prop}
theorem Inv.wish (I:Inv X pins σ H s) (E:Value → Shared → Prop):Inv (X.wish E) pins σ H s:=⟨I.ok.wish E,I.os,I.bare,I.base,I.loc,I.cell,I.free,I.freeC,I.pin,I.hok,I.len⟩
theorem Inv.unwish (I:Inv (X.wish E) pins σ H s):Inv X pins σ H s:=⟨I.ok.unwish,I.os,I.bare,I.base,I.loc,I.cell,I.free,I.freeC,I.pin,I.hok,I.len⟩
theorem SP.unwish {D:Ends} {f:Flow} {s':Shared} (h:SP (X.wish E) pins D f s'):SP X pins D f s':=by
 cases f with
 | next=>obtain ⟨σ',H',I,q⟩:=h; exact ⟨σ',H',I.unwish,q⟩
 | brk=>obtain ⟨σ',H',I,q⟩:=h; exact ⟨σ',H',I.unwish,q⟩
 | cont=>obtain ⟨σ',H',I,q⟩:=h; exact ⟨σ',H',I.unwish,q⟩
 | ret u=>obtain ⟨v,σ',H',I,r,q⟩:=h; exact ⟨v,σ',H',I.unwish,r,q⟩
theorem PSs.nox {st:List Stmt} {t:TS} (h:PSs X.nox st t):PSs X st t:=fun pins s σ H D I hw =>
 wpAny_mono (h pins s σ H D (I.wish _) hw) (fun _ _ q=>q.unwish) fun _ _ z=>False.elim z
end
section
variable {X:Cx} {st:Stmt} {rest:List Stmt} {t u:TS} {e:Expr} {te:TE} {pos:Pos}
def apM:TS:=fun D σ H=>D.nx σ H
def tSeq (t u:TS):TS:=fun D σ H=>t { D with nx:=u D } σ H
theorem anl:PSs X [] apM:=fun _ _ σ H _ I h=>wpAny_execs_nil ⟨σ,H,I,h⟩
theorem ak0 (h1:PS X st t) (h2:PSs X rest u):PSs X (st :: rest) (tSeq t u):=by
 intro pins s σ H D I h
 refine wpAny_execs_cons (thn (h1 pins s σ H { D with nx:=u D } I h) fun f s1 q=>?_)
 cases f with
 | next =>
  obtain ⟨σ',H',I',q⟩:=q
  exact h2 pins s1 σ' H' D I' q
 | ret v=>exact q
 | brk=>exact q
 | cont=>exact q
theorem ahS (h1:PS X st t):PSs X [st] t:=by
 intro pins s σ H D I h
 refine wpAny_execs_cons (thn (h1 pins s σ H D I h) fun f s1 q=>?_)
 cases f with
 | next=>exact wpAny_execs_nil q
 | ret v=>exact q
 | brk=>exact q
 | cont=>exact q
theorem Inv.quiet {pins:List (Addr × Obj)} {σ:St} {H:Hp} {s:Shared} (I:Inv X pins σ H s):interactive X.env = false:=by simp [interactive,I.ok.kind]
def ap5 (te:TE):TS:=fun D σ H=>te σ H fun _ H1=>D.nx σ H1
theorem amC (he:PE X e te) (hs:swapsWith e none pos.line X.env = pure false:=by rfl):PS X (.Expr e pos) (ap5 te):=by
 intro pins s σ H D I h
 exact wpAny_Expr_any (thn (he pins s σ H _ I h) fun v s1 ⟨x,H1,I1,r1,q1⟩=>⟨σ,H1,I1,q1⟩) I.quiet hs
def tRet (te:TE):TS:=fun D σ H=>te σ H D.rt
theorem aoe (he:PE X e te):PS X (.Return (some e) pos) (tRet te):=by
 intro pins s σ H D I h
 exact wpAny_Return_some (thn (he pins s σ H _ I h) fun v s1 ⟨x,H1,I1,r1,q1⟩=>⟨x,σ,H1,I1,r1,q1⟩)
def tIfS (c:TT) (t u:TS):TS:=fun D σ H=>c σ H fun b H1=>if b = true then t D σ H1 else u D σ H1
theorem apL {c:Expr} {a b:List Stmt} {tc:TT} (hc:PT X c tc) (ha:PSs X a t) (hb:PSs X b u):PS X (.If c a b pos) (tIfS tc t u):=by
 intro pins s σ H D I h
 refine wpAny_If (thn (hc pins s σ H _ I h) fun d s1 ⟨H1,I1,q1⟩=>?_)
 cases d with
 | true=>exact ha pins s1 σ H1 D I1 q1
 | false=>exact hb pins s1 σ H1 D I1 q1
end
abbrev TG:=V → St → Hp → (St → Hp → Prop) → Prop
abbrev TGs:=List V → St → Hp → (St → Hp → Prop) → Prop
def PG (X:Cx) (target:Expr) (t:TG):Prop :=
 ∀ (pins:List (Addr × Obj)) (s:Shared) (σ:St) (H:Hp) (v:V) (u:Value) (Q:St → Hp → Prop),Inv X pins σ H s → RelV v u → t v σ H Q →
  wpAny (model X.prog X.w) X.A (assign target X.env u) (fun _ s'=>∃ σ' H',Inv X pins σ' H' s' ∧ Q σ' H') X.xe s
def PGs (X:Cx) (ts:List Expr) (t:TGs):Prop :=
 ∀ (pins:List (Addr × Obj)) (s:Shared) (σ:St) (H:Hp) (vs:List V) (us:List Value) (Q:St → Hp → Prop),Inv X pins σ H s → Vals vs us → t vs σ H Q →
  wpAny (model X.prog X.w) X.A (assignInOrder ((assignEach ts X.env).map (·.2)) us) (fun _ s'=>∃ σ' H',Inv X pins σ' H' s' ∧ Q σ' H') X.xe s
abbrev TSet:=V → V → V → Hp → (Hp → Prop) → Prop
def PSet (X:Cx) (t:TSet):Prop :=
 ∀ (pins:List (Addr × Obj)) (s:Shared) (σ:St) (H:Hp) (o i v:V) (ov iv u:Value) (Q:Hp → Prop),Inv X pins σ H s → RelV o ov → RelV i iv → RelV v u → t o i v H Q →
  wpAny (model X.prog X.w) X.A (setItem ov iv u) (fun _ s'=>∃ H',Inv X pins σ H' s' ∧ Q H') X.xe s
abbrev TIp:=V → V → Hp → VK → Prop
def PIp (X:Cx) (op:Operator) (t:TIp):Prop :=
 ∀ (pins:List (Addr × Obj)) (s:Shared) (σ:St) (H:Hp) (x y:V) (v u:Value) (Q:VK),Inv X pins σ H s → RelV x v → RelV y u → t x y H Q →
  wpAny (model X.prog X.w) X.A (inplaceOp op v u) (EP X pins σ Q) X.xe s
section
variable {X:Cx} {pos:Pos}
def amA (i:Nat):TG:=fun v σ H Q=>Q (σ.set i (some v)) H
theorem ajG {i:Nat} {x:Str} (hN:X.N.Nodup) (hi:X.N[i]? = some x) (hx:Loc X.env.scope x) (hf:X.fn x = true ∨ X.env.scope.names.lookup x = some .local:=by first | exact .inl rfl | exact .inr rfl | assumption):PG X (.Name x pos) (amA i):=by
 intro pins s σ H v u Q I r h
 exact wpAny_assign_Name (acF I hN hi hx r (fun s' I'=>⟨_,H,I',h⟩) hf)
def gNil:TGs:=fun vs σ H Q=>vs = [] ∧ Q σ H
def apZ (t:TG) (u:TGs):TGs:=fun vs σ H Q=>∃ v r,vs = v :: r ∧ t v σ H fun σ' H'=>u r σ' H' Q
theorem amP:PGs X [] gNil:=by
 intro pins s σ H vs us Q I r h
 obtain ⟨e,h⟩:=h
 subst e
 cases r
 exact assignInOrder_nil ⟨σ,H,I,h⟩
theorem alr {e:Expr} {es:List Expr} {t:TG} {u:TGs} (h1:PG X e t) (h2:PGs X es u)
  (hs:(assignEach (e :: es) X.env).map (·.2) = assign e X.env :: (assignEach es X.env).map (·.2):=by rfl):PGs X (e :: es) (apZ t u):=by
 intro pins s σ H vs us Q I r h
 obtain ⟨v,vr,e1,h⟩:=h
 subst e1
 cases r with
 | cons r rr =>
  rw [hs]
  refine assignInOrder_cons (thn (h1 pins s σ H _ _ _ I r h) fun _ s1 ⟨σ1,H1,I1,q1⟩=>?_)
  exact h2 pins s1 σ1 H1 _ _ Q I1 rr q1
def gTup (K:PySem.W.Frag) (n:Nat) (t:TGs):TG:=fun v σ H Q=>∃ a xs,v = .ref a ∧ SqT K H a xs ∧ xs.length = n ∧ t xs σ H Q
theorem apm {es:List Expr} {k:Nat} {t:TGs} {n:Nat} (hc:X.calm = true) (h:PGs X es t)
  (hn:(assignEach es X.env).length = n:=by rfl) (hst:(assignEach es X.env).findIdx? (·.1) = none:=by rfl):PG X (.Tuple es k pos) (gTup X.K n t):=by
 intro pins s σ H v u Q I r hw
 obtain ⟨a,xs,e1,hq,hl,hw⟩:=hw
 subst e1
 cases r
 obtain ⟨its,rv,ht,hz⟩:=I.tuple hq
 refine assign_Tuple_tuple (I.ok.hd hc) ht (by simp [hn,← hl,rv.length]) hst fun h' hx=>?_
 have I1:Inv X pins σ H { s with heap:=h' }:=I.kept (t':=s.toks) fun b o e=>hx b o (Nat.ne_of_lt (Heap.lt_size e)) e
 exact h pins _ σ H xs _ Q I1 (by simpa using rv) hw
def gSub (to ti:TE) (t:TSet):TG:=fun v σ H Q=>to σ H fun o H1=>ti σ H1 fun i H2=>t o i v H2 fun H3=>Q σ H3
theorem amu {o i:Expr} {to ti:TE} {t:TSet} (ho:PE X o to) (hi:PE X i ti) (hs:PSet X t)
  (ha:∀ v,assign (.Subscript o i pos) X.env v = (do
   let ov ← holding [v] (eval o X.env)
   let iv ← holding [v,ov] (eval i X.env)
   standAt pos
   holding [v,ov,iv] (setItem ov iv v)
   release [v,ov,iv] []):=by intro _; rfl):PG X (.Subscript o i pos) (gSub to ti t):=by
 intro pins s σ H v u Q I r h
 rw [ha]
 refine wpAny_bind (wpAny_holding (thn (ho pins s σ H _ I h) fun ov s1 ⟨x,H1,I1,r1,q1⟩=>?_))
 refine wpAny_bind (wpAny_holding (thn (hi pins s1 σ H1 _ I1 q1) fun iv s2 ⟨y,H2,I2,r2,q2⟩=>?_))
 refine wpAny_bind (wpAny_standAt (wpAny_bind (wpAny_holding (thn (hs pins s2 σ H2 x y v ov iv u _ I2 r1 r2 r q2) fun _ s3 ⟨H3,I3,q3⟩=>?_))))
 exact wpAny_release ⟨σ,H3,I3,q3⟩
def tAsg (te:TE) (g:TG):TS:=fun D σ H=>te σ H fun x H1=>g x σ H1 D.nx
theorem ami {tg e:Expr} {te:TE} {g:TG} (he:PE X e te) (hg:PG X tg g) (hs:swapsWithSole [tg] e pos.line X.env = pure false:=by rfl) (hw:swappedStores [tg] e X.env = pure none:=by rfl)
  (h1:(assignEach [tg] X.env).map (·.2) = [assign tg X.env]:=by rfl):PS X (.Assign [tg] e pos) (tAsg te g):=by
 intro pins s σ H D I h
 refine wpAny_Assign_stores (thn (he pins s σ H _ I h) fun v s1 ⟨x,H1,I1,r1,q1⟩=>?_) hs hw
 rw [h1]
 exact thn (hg pins s1 σ H1 x v _ I1 r1 q1) fun _ s2 q=>q
theorem amf {i:Nat} {x:Str} {e:Expr} {te:TE} {pos':Pos} (hN:X.N.Nodup) (hi:X.N[i]? = some x) (hx:Loc X.env.scope x) (he:PE X e te) (hs:swapsWith e (some (.Name x pos')) pos.line X.env = pure false:=by rfl) (hf:X.fn x = true ∨ X.env.scope.names.lookup x = some .local:=by first | exact .inl rfl | exact .inr rfl | assumption) :
  PS X (.Assign [.Name x pos'] e pos) (tAsg te (amA i)):=by
 intro pins s σ H D I h
 refine wpAny_Assign_Name (thn (he pins s σ H _ I h) fun v s1 ⟨y,H1,I1,r1,q1⟩=>?_) hs
 exact acF I1 hN hi hx r1 (fun s2 I2=>⟨_,H1,I2,q1⟩) hf
def tPar (i j:Nat) (ta:TA):TS:=fun D σ H=>ta σ H fun vs H1=>∃ v w,vs = [v,w] ∧ D.nx ((σ.set i (some v)).set j (some w)) H1
theorem ao4 {i j:Nat} {x y:Str} {a b:Expr} {ta:TA} {px py pt:Pos} {kt k2 pt2} (hc:X.calm = true) (hN:X.N.Nodup) (hi:X.N[i]? = some x) (hj:X.N[j]? = some y) (hij:i ≠ j)
  (hx:X.env.scope.names.lookup x = some .local) (hy:X.env.scope.names.lookup y = some .local) (ha:PA X [a,b] ta)
  (hw:swappedStores [.Tuple [.Name x px,.Name y py] kt pt] (.Tuple [a,b] k2 pt2) X.env = pure (some [x,y]))
  (hs:swapsWithSole [.Tuple [.Name x px,.Name y py] kt pt] (.Tuple [a,b] k2 pt2) pos.line X.env = pure false:=by rfl) :
  PS X (.Assign [.Tuple [.Name x px,.Name y py] kt pt] (.Tuple [a,b] k2 pt2) pos) (tPar i j ta):=by
 intro pins s σ H D I h
 rw [exec_Assign_arm]
 refine wpAny_bind (wpAny_standAt ?_)
 rw [hs]
 refine wpAny_bind (wpAny_pure ?_)
 rw [if_neg (by decide)]
 refine wpAny_bind (Tuple_ (thn (ha _ pins s σ H _ I h) fun us s1 ⟨vs,H1,I1,r1,q1⟩=>?_))
 obtain ⟨v,w,e1,q1⟩:=q1
 subst e1
 obtain ⟨u1,u2,rfl,rv,rw'⟩:∃ u1 u2,us = [u1,u2] ∧ RelV v u1 ∧ RelV w u2:=by
  cases r1 with
  | cons p q =>
   cases q with
   | cons p' q' =>
    cases q'
    exact ⟨_,_,rfl,p,p'⟩
 refine wpAny_newObj_type ?_ (by show 2 ≤ sizeLine; decide)
 have I2:Inv X pins σ H1 { s1 with heap:=s1.heap.push { cls:=.type "tuple",data:=.seq [u1,u2].toArray } }:=I1.kept (t':=s1.toks) fun b o e=>Heap.get?_push_of_some _ e
 rw [hw]
 refine wpAny_bind (wpAny_pure ?_)
 show wpAny (model X.prog X.w) X.A (do rule "assign.swapped-stores"; let items ← unpackItems (.ref s1.heap.objs.size) 2 none; assignInOrder [fun v=>bindName X.env y v,fun v=>bindName X.env x v] items.reverse; pure Flow.next) _ _ _
 refine wpAny_bind (wpAny_rule (wpAny_bind (unpackItems_tuple (items:=#[u1,u2]) (I.ok.hd hc) (IsTup.new s1.heap _) fun h' hx'=>?_)))
 have I3:=I2.kept (h':=h') (t':=s1.toks) fun b o e=>hx' b o (Nat.ne_of_lt (Heap.lt_size e)) e
 show wpAny _ _ (assignInOrder [fun v=>bindName X.env y v,fun v=>bindName X.env x v] [u2,u1] >>= fun _=>pure Flow.next) _ _ _
 refine wpAny_bind (assignInOrder_cons (wpAny_bindName (acF I3 hN hj (.inl hy) rw' (fun s2 I4=>?_) (.inr hy))))
 refine assignInOrder_cons (wpAny_bindName (acF I4 hN hi (.inl hx) rv (fun s3 I5=>assignInOrder_nil (wpAny_pure ?_)) (.inr hx)))
 rw [List.set_comm _ _ (Ne.symm hij)] at I5
 exact ⟨_,H1,I5,q1⟩
def tAug (i:Nat) (te:TE) (ti:TIp):TS:=fun D σ H=>∃ x,σ[i]? = some (some x) ∧ te σ H fun y H1=>ti x y H1 fun z H2=>D.nx (σ.set i (some z)) H2
theorem an1 {i:Nat} {x:Str} {e:Expr} {te:TE} {op:Operator} {ti:TIp} {pos':Pos} (hN:X.N.Nodup) (hi:X.N[i]? = some x) (hx:Loc X.env.scope x) (he:PE X e te) (ho:PIp X op ti) (hf:X.fn x = true ∨ X.env.scope.names.lookup x = some .local:=by first | exact .inl rfl | exact .inr rfl | assumption) :
  PS X (.AugAssign (.Name x pos') op e pos) (tAug i te ti):=by
 intro pins s σ H D I h
 obtain ⟨v,e1,h⟩:=h
 obtain ⟨m,hn,hl⟩:=I.loc
 have vis:Vis X.env.scope x:=by rcases hx with k | k; exact .inl k; exact .inr (.inl k)
 obtain ⟨u,r,l⟩:=hl i x v hi e1 vis
 refine wpAny_AugAssign_Name ?_
 have go:wpAny (model X.prog X.w) X.A (eval e X.env) (fun w s₂=>wpAny (model X.prog X.w) X.A (inplaceOp op u w) (fun r s₃=>wpAny (model X.prog X.w) X.A (storeName X.env x r) (fun _=>SP X pins D .next) X.xe s₃) X.xe s₂) X.xe s:=by
  refine thn (he pins s σ H _ I h) fun w s1 ⟨y,H1,I1,r1,q1⟩=>?_
  refine thn (ho pins s1 σ H1 v y u w _ I1 r r1 q1) fun z s2 ⟨zv,H2,I2,r2,q2⟩=>?_
  exact acF I2 hN hi hx r2 (fun s3 I3=>⟨_,H2,I3,q2⟩) hf
 rcases l with ⟨hk,hm⟩ | ⟨hk,c,hc,hcell⟩
 ·exact wpAny_loadName_local I.ok.kind hk hn hm go
 ·rcases hk with hk | hk
  ·exact wpAny_loadName_cell I.ok.kind hk hc hcell go
  ·rcases hx with k | k
   ·have:X.env.scope.names.lookup x = some .free:=hk
    rw [k] at this; cases this
   ·have:X.env.scope.names.lookup x = some .free:=hk
    rw [k] at this; cases this
end
section
variable {X:Cx} {pos:Pos}
def aoN (c:TT) (tb:TS):TS:=fun D σ H=>∃ W:Nat → St → Hp → Prop,(∃ m,W m σ H) ∧ ∀ m σ H,W m σ H →
 c σ H fun b H1=>if b = true then ∃ N:St → Hp → Prop,(∀ σ' H',N σ' H' → ∃ m',m' < m ∧ W m' σ' H') ∧ tb { D with nx:=N,ct:=N,bk:=D.nx } σ H1 else D.nx σ H1
theorem aly {c:Expr} {body:List Stmt} {tc:TT} {tb:TS} (hp:PassesOwn (model X.prog X.w) X.A X.env X.xe) (hc:PT X c tc) (hb:PSs X body tb):PS X (.While c body [] pos) (aoN tc tb):=by
 intro pins s σ H D I h
 obtain ⟨W,⟨m0,w0⟩,turn⟩:=h
 refine wpAny_While (codeAny_whileLoop (fun n s'=>∃ σ' H',Inv X pins σ' H' s' ∧ W n σ' H') ?_ m0 ⟨σ,H,I,w0⟩)
 rintro n s1 ⟨σ1,H1,I1,w1⟩
 refine wpAny_passesOwn hp (thn (hc pins s1 σ1 H1 _ I1 (turn n σ1 H1 w1)) fun b s2 ⟨H2,I2,q2⟩=>?_)
 cases b with
 | true =>
  obtain ⟨N,hN,q2⟩:=q2
  rw [if_pos rfl]
  refine wpAny_passesOwn hp (thn (hb pins s2 σ1 H2 _ I2 q2) fun f s3 q3=>?_)
  cases f with
  | next =>
   obtain ⟨σ3,H3,I3,n3⟩:=q3
   obtain ⟨m',hm,w3⟩:=hN σ3 H3 n3
   exact ⟨m',hm,σ3,H3,I3,w3⟩
  | cont =>
   obtain ⟨σ3,H3,I3,n3⟩:=q3
   obtain ⟨m',hm,w3⟩:=hN σ3 H3 n3
   exact ⟨m',hm,σ3,H3,I3,w3⟩
  | brk=>exact q3
  | ret v=>exact q3
 | false =>
  rw [if_neg Bool.false_ne_true]
  exact wpAny_execs_nil ⟨σ1,H2,I2,q2⟩
end
structure It where
 go:Nat → Hp → Prop
 yld:Nat → Hp → V → Hp → Prop
 stop:Nat → Hp → Prop
def FpOk (X:Cx) (pins:List (Addr × Obj)) (H:Hp) (b:Addr):Prop :=
 H b = none ∧ b ≠ X.env.locals ∧ b ∉ X.fs ∧ (b ∈ X.ex ∨ X.s₀.heap.objs.size ≤ b) ∧ (∀ x c,X.env.cells.lookup x = some c → c ≠ b) ∧ ∀ p ∈ X.pn ++ pins,p.1 ≠ b
theorem Inv.fpOk {X:Cx} {pins:List (Addr × Obj)} {σ:St} {H H':Hp} {s:Shared} {b:Addr} (I:Inv X pins σ H s) (hb:s.heap.objs.size ≤ b) (hn:H' b = none):FpOk X pins H' b:=by
 refine ⟨hn,Nat.ne_of_gt (Nat.lt_of_lt_of_le I.lt hb),I.nofs hb,.inr (Nat.le_trans I.sz hb),fun x c e z=>?_,fun p hp z=>?_⟩
 ·obtain ⟨v,q⟩:=I.cell x c e
  exact absurd (Nat.lt_of_lt_of_le q.lt (by rw [z]; exact hb)) (Nat.lt_irrefl _)
 ·exact absurd (Nat.lt_of_lt_of_le (Heap.lt_size (I.pin p hp).1) (by rw [z]; exact hb)) (Nat.lt_irrefl _)
structure Turn (P:Program) (w:World) (K:PySem.W.Frag) (tg:Expr) (J:It) (fp:List Addr) (it:Addr) (tn:Nat → Heap → Prop):Prop where
 mem:it ∈ fp
 obj:∀ i h,tn i h → ∀ b ∈ fp,∃ o,h.get? b = some o ∧ ∀ v,o.data ≠ .cell v
 keep:∀ i h h',tn i h → (∀ b ∈ fp,∀ o,h.get? b = some o → h'.get? b = some o) → tn i h'
 item:∀ (X:Cx),X.prog = P → X.w = w → X.K = K → X.calm = true → ∀ (i:Nat) (pins:List (Addr × Obj)) (s:Shared) (σ:St) (H:Hp) (E:Value → Shared → Prop),Inv X pins σ H s → (∀ b ∈ fp,FpOk X pins H b) → tn i s.heap → J.go i H →
  wpAny (model P w) X.A (pyNext (.ref it)) (fun r s1=>∃ u,r = some u ∧
   wpAny (model P w) X.A (letOwnedTupleGo tg (.ref it) u) (fun _ s2=>∃ x H',Inv X pins σ H' s2 ∧ RelV x u ∧ J.yld i H x H' ∧ tn (i + 1) s2.heap ∧ ∀ b ∈ fp,H' b = none) E s1) E s
 done:∀ (X:Cx),X.prog = P → X.w = w → X.K = K → X.calm = true → ∀ (i:Nat) (pins:List (Addr × Obj)) (s:Shared) (σ:St) (H:Hp) (E:Value → Shared → Prop),Inv X pins σ H s → (∀ b ∈ fp,FpOk X pins H b) → tn i s.heap → J.stop i H →
  wpAny (model P w) X.A (pyNext (.ref it)) (fun r s1=>r = none ∧ Inv X pins σ H s1) E s
 self:∀ (A:Around) (i:Nat) (s:Shared) (Q:Value → Shared → Prop) (E:Value → Shared → Prop),tn i s.heap → Q (.ref it) s → wpAny (model P w) A (pyIter (.ref it)) Q E s
abbrev TI:=St → Hp → (It → Hp → Prop) → Prop
def PIE (X:Cx) (pins:List (Addr × Obj)) (σ:St) (tg:Expr) (R:It → Hp → Prop) (itv:Value) (s2:Shared):Prop :=
 ∃ (it:Addr) (fp:List Addr) (tn:Nat → Heap → Prop) (J:It) (H':Hp),itv = .ref it ∧ Inv X pins σ H' s2 ∧ Turn X.prog X.w X.K tg J fp it tn ∧ tn 0 s2.heap ∧ (∀ b ∈ fp,FpOk X pins H' b) ∧ R J H'
def PI (X:Cx) (tg iter:Expr) (wi:TI):Prop :=
 ∀ (pins:List (Addr × Obj)) (s:Shared) (σ:St) (H:Hp) (R:It → Hp → Prop),Inv X pins σ H s → wi σ H R →
  wpAny (model X.prog X.w) X.A (eval iter X.env) (fun v s1=>wpAny (model X.prog X.w) X.A (pyIter v) (PIE X pins σ tg R) X.xe s1) X.xe s
theorem anj {M : Model} {A : Around} {E : Value → Shared → Prop} {s : Shared} {tg : Expr} {it : Addr} {u : Value} {o : Obj} {n : String} {vs : Array Value} {Q : Unit → Shared → Prop} (ho : s.heap.get? it = some o) (hc : o.cls = .type n) (hd : o.data = .fields vs)
    (hn : ["enumerate", "zip", "dict_itemiterator", "dict_reverseitemiterator", "odict_iterator", "itertools.zip_longest", "itertools.pairwise"].contains n = false) (hQ : Q () s) : wpAny M A (letOwnedTupleGo tg (.ref it) u) Q E s := by
  unfold letOwnedTupleGo
  cases tg <;> first
    | exact wpAny_pure hQ
    | (cases u <;> first
        | exact wpAny_pure hQ
        | (refine wpAny_bind (wpAny_load ho ?_)
           rw [hc, hd]
           show wpAny M A (if (["enumerate", "zip", "dict_itemiterator", "dict_reverseitemiterator", "odict_iterator", "itertools.zip_longest", "itertools.pairwise"].contains n && vs[0]? == some (rawInt _)) = true then _ else _) Q E s
           rw [if_neg (by intro h; rw [hn, Bool.false_and] at h; cases h)]
           exact wpAny_pure hQ))
def Itl (K:PySem.W.Frag) (a:Addr):It :=
 ⟨fun i H=>∃ xs x,SqL K H a xs ∧ xs[i]? = some x,fun i H x H'=>H' = H ∧ ∀ xs,SqL K H a xs → xs[i]? = some x,fun i H=>∃ xs,SqL K H a xs ∧ xs.length ≤ i⟩
def Itt (K:PySem.W.Frag) (a:Addr):It :=
 ⟨fun i H=>∃ xs x,SqT K H a xs ∧ xs[i]? = some x,fun i H x H'=>H' = H ∧ ∀ xs,SqT K H a xs → xs[i]? = some x,fun i H=>∃ xs,SqT K H a xs ∧ xs.length ≤ i⟩
def Itr (lo:Int) (n:Nat):It:=⟨fun i _=>i < n,fun i H x H'=>H' = H ∧ x = .int (lo + i),fun i _=>n ≤ i⟩
theorem akr {P:Program} {w:World} {K:PySem.W.Frag} {tg:Expr} (a it:Addr):Turn P w K tg (Itl K a) [it] it (fun i h=>h.IsListIter it a i) where
 mem:=by simp
 obj:=fun i h st b hb=>by
  have e:b = it:=by simpa using hb
  subst e
  obtain ⟨o,e,c,d⟩:=st
  exact ⟨o,e,fun v z=>by rw [d] at z; cases z⟩
 keep:=fun i h h' st k=>st.at fun o e=>k it (by simp) o e
 item:=by
  intro X hP hw hK hc i pins s σ H E I hf st hg
  subst hP hw hK
  obtain ⟨xs,x,hq,hx⟩:=hg
  obtain ⟨its,rv,p,hz⟩:=I.list hq
  obtain ⟨u,hu,ru⟩:=rv.get hx
  obtain ⟨f0,f1,f2,f3,f4,f5⟩:=hf it (by simp)
  refine wpAny_pyNext_list_item st p.isList (x:=u) (by simpa using hu) fun h' st' sb=>?_
  have I1:Inv X pins σ H { s with heap:=h' }:=I.turned (t':=s.toks) (fun b o hb e=>(sb.2 b hb).trans e) f0 f1 f3 f4 f5
  obtain ⟨o,e,c,d⟩:=id st'
  exact ⟨u,rfl,anj (s:={ s with heap:=h' }) e c d (by decide) ⟨x,H,I1,ru,⟨rfl,fun ys hy=>by rw [I.list_inj hy hq]; exact hx⟩,st',fun b hb=>(hf b hb).1⟩⟩
 done:=by
  intro X hP hw hK hc i pins s σ H E I hf st hg
  subst hP hw hK
  obtain ⟨xs,hq,hx⟩:=hg
  obtain ⟨its,rv,p,hz⟩:=I.list hq
  obtain ⟨f0,f1,f2,f3,f4,f5⟩:=hf it (by simp)
  have hl:=rv.length
  exact wpAny_pyNext_list_end (I.ok.hd hc) st p.isList (by simp; omega) fun h' eb=>⟨rfl,I.turned (t':=s.toks) (fun b o hb e=>eb b o hb e) f0 f1 f3 f4 f5⟩
 self:=fun _ _ _ _ _ st h=>wpAny_pyIter_listiter st h
theorem ai4 {P:Program} {w:World} {K:PySem.W.Frag} {tg:Expr} (a it:Addr):Turn P w K tg (Itt K a) [it] it (fun i h=>h.IsTupleIter it a i) where
 mem:=by simp
 obj:=fun i h st b hb=>by
  have e:b = it:=by simpa using hb
  subst e
  obtain ⟨o,e,c,d⟩:=st
  exact ⟨o,e,fun v z=>by rw [d] at z; cases z⟩
 keep:=fun i h h' st k=>st.at fun o e=>k it (by simp) o e
 item:=by
  intro X hP hw hK hc i pins s σ H E I hf st hg
  subst hP hw hK
  obtain ⟨xs,x,hq,hx⟩:=hg
  obtain ⟨its,rv,p,hz⟩:=I.tuple hq
  obtain ⟨u,hu,ru⟩:=rv.get hx
  obtain ⟨f0,f1,f2,f3,f4,f5⟩:=hf it (by simp)
  refine wpAny_pyNext_tuple_item st (show s.heap.IsTuple a its.toArray from p) (x:=u) (by simpa using hu) fun h' st' sb=>?_
  have I1:Inv X pins σ H { s with heap:=h' }:=I.turned (t':=s.toks) (fun b o hb e=>(sb.2 b hb).trans e) f0 f1 f3 f4 f5
  obtain ⟨o,e,c,d⟩:=id st'
  exact ⟨u,rfl,anj (s:={ s with heap:=h' }) e c d (by decide) ⟨x,H,I1,ru,⟨rfl,fun ys hy=>by rw [I.tuple_inj hy hq]; exact hx⟩,st',fun b hb=>(hf b hb).1⟩⟩
 done:=by
  intro X hP hw hK hc i pins s σ H E I hf st hg
  subst hP hw hK
  obtain ⟨xs,hq,hx⟩:=hg
  obtain ⟨its,rv,p,hz⟩:=I.tuple hq
  obtain ⟨f0,f1,f2,f3,f4,f5⟩:=hf it (by simp)
  have hl:=rv.length
  exact wpAny_pyNext_tuple_end (I.ok.hd hc) st (show s.heap.IsTuple a its.toArray from p) (by simp; omega) fun h' eb=>⟨rfl,I.turned (t':=s.toks) (fun b o hb e=>eb b o hb e) f0 f1 f3 f4 f5⟩
 self:=fun _ _ _ _ _ st h=>wpAny_pyIter_tupleiter st h
theorem aja {P:Program} {w:World} {K:PySem.W.Frag} {tg:Expr} (it:Addr) (lo:Int) (n:Nat):Turn P w K tg (Itr lo n) [it] it (fun i h=>IsRangeIter h it (lo + (i:Nat) * 1) ((n:Int) - (i:Nat)) 1) where
 mem:=by simp
 obj:=fun i h st b hb=>by
  have e:b = it:=by simpa using hb
  subst e
  exact ⟨_,st,fun v z=>by
   have z':Data.fields _ = Data.cell v:=z
   cases z'⟩
 keep:=fun i h h' st k=>k it (by simp) _ st
 item:=by
  intro X hP hw hK hc i pins s σ H E I hf st hg
  subst hP hw hK
  obtain ⟨f0,f1,f2,f3,f4,f5⟩:=hf it (by simp)
  have W:=Walks.range (prog:=X.prog) (w:=X.w) (I.ok.hd hc) it lo 1 n
  refine W.item i s _ _ hg st fun v h' tk hv st' kk=>?_
  obtain ⟨t,rfl⟩:=hv
  have I1:Inv X pins σ H { s with heap:=h',toks:=tk }:=I.turned (fun b o hb e=>kk b o (by simpa using hb) e) f0 f1 f3 f4 f5
  refine ⟨_,rfl,anj (s:={ s with heap:=h',toks:=tk }) (n:="range_iterator") st' rfl rfl (by decide) ⟨.int (lo + i),H,I1,⟨t,?_⟩,⟨rfl,rfl⟩,st',fun b hb=>(hf b hb).1⟩⟩
  rw [Int.mul_one]
 done:=by
  intro X hP hw hK hc i pins s σ H E I hf st hg
  subst hP hw hK
  obtain ⟨f0,f1,f2,f3,f4,f5⟩:=hf it (by simp)
  exact wpAny_pyNext_range_end (I.ok.hd hc) st (by have:n ≤ i:=hg; omega) fun h' eb=>⟨rfl,I.turned (t':=s.toks) (fun b o hb e=>eb b o hb e) f0 f1 f3 f4 f5⟩
 self:=fun _ _ _ _ _ st h=>wpAny_pyIter_rangeiter st h
end L2
namespace L2
open PySem PySem.Spec PyProof.Rows
section
variable {X:Cx} {tg:Expr}
theorem ahU {pins:List (Addr × Obj)} {σ:St} {H:Hp} {s:Shared} {R:It → Hp → Prop} {E:Value → Shared → Prop} {lo hi:Int} {t u v:Tok} {tk:Nat} (I:Inv X pins σ H s) (h1:-(2 ^ 62) ≤ lo) (h2:lo < 2 ^ 62) (h3:-(2 ^ 62) ≤ hi) (h4:hi < 2 ^ 62)
  (q:R (Itr lo (hi - lo).toNat) H):wpAny (model X.prog X.w) X.A (pyIter (.ref s.heap.objs.size)) (PIE X pins σ tg R) E { s with heap:=s.heap.push { cls:=.type "range",data:=.fields #[.int lo t,.int hi u,.int 1 v] },toks:=tk }:=by
 refine wpAny_pyIter_range (IsRange.new ..) (small_one h1 h2 h3 h4) ?_
 have I1:Inv X pins σ H { s with heap:=s.heap.push { cls:=.type "range",data:=.fields #[.int lo t,.int hi u,.int 1 v] },toks:=tk }:=I.kept fun b o e=>Heap.get?_push_of_some _ e
 refine ⟨(s.heap.push { cls:=.type "range",data:=.fields #[.int lo t,.int hi u,.int 1 v] }).objs.size,[(s.heap.push { cls:=.type "range",data:=.fields #[.int lo t,.int hi u,.int 1 v] }).objs.size],_,_,H,rfl,
  I1.kept (t':=tk) fun b o e=>Heap.get?_push_of_some _ e,aja _ lo (hi - lo).toNat,?_,fun b hb=>?_,q⟩
 ·have e1:lo + ((0:Nat):Int) * 1 = lo:=by simp
  have e2:(((hi - lo).toNat:Nat):Int) - ((0:Nat):Int) = Builtin.Range.rangeSize lo hi 1:=by rw [rangeSize_one]; split <;> omega
  show IsRangeIter _ _ (lo + ((0:Nat):Int) * 1) ((((hi - lo).toNat:Nat):Int) - ((0:Nat):Int)) 1
  rw [e1,e2]
  exact Heap.get?_push_size _ rfl
 ·have e:b = (s.heap.push { cls:=.type "range",data:=.fields #[.int lo t,.int hi u,.int 1 v] }).objs.size:=by simpa using hb
  subst e
  exact I1.fpOk (Nat.le_refl _) (I1.hok.fresh (Nat.le_refl _))
def apA (ta:TA):TI:=fun σ H R=>ta σ H fun vs H1=>∃ j:Int,vs = [.int j] ∧ -(2 ^ 62) ≤ j ∧ j < 2 ^ 62 ∧ R (Itr 0 j.toNat) H1
def ap1 (ta:TA):TI:=fun σ H R=>ta σ H fun vs H1=>∃ i j:Int,vs = [.int i,.int j] ∧ (-(2 ^ 62) ≤ i ∧ i < 2 ^ 62 ∧ -(2 ^ 62) ≤ j ∧ j < 2 ^ 62) ∧ R (Itr i (j - i).toNat) H1
theorem akq {a:Expr} {ta:TA} {p pos:Pos} (hg:Gl X "range") (hm:X.mg "range" = none) (ha:PA X [a] ta) (hs:starEach [a] X.env = [(false,eval a X.env)]:=by rfl):PI X tg (.Call (.Name "range" p) [a] [] pos) (apA ta):=by
 intro pins s σ H R I h
 refine Call_ (afg I hg hm boot_range (PyProof.Rows.callWith_type1 (thn (ha pos pins s σ H _ I h) fun us s1 ⟨vs,H1,I1,r1,q1⟩=>?_) hs rfl))
 obtain ⟨j,e,q1,q2,q⟩:=q1
 subst e
 cases r1 with
 | cons r rr =>
  cases rr
  obtain ⟨t,rfl⟩:=r
  exact call_range_1 (ahU I1 (by omega) (by omega) q1 q2 (by simpa using q))
theorem ajN {a b:Expr} {ta:TA} {p pos:Pos} (hg:Gl X "range") (hm:X.mg "range" = none) (ha:PA X [a,b] ta) (hs:starEach [a,b] X.env = [(false,eval a X.env),(false,eval b X.env)]:=by rfl) (hs2:starEach [b] X.env = [(false,eval b X.env)]:=by rfl) :
  PI X tg (.Call (.Name "range" p) [a,b] [] pos) (ap1 ta):=by
 intro pins s σ H R I h
 refine Call_ (afg I hg hm boot_range (PyProof.Rows.callWith_type1 (thn (ha pos pins s σ H _ I h) fun us s1 ⟨vs,H1,I1,r1,q1⟩=>?_) (by rw [hs,hs2]) (by rw [hs2]; rfl)))
 obtain ⟨i,j,e,⟨q1,q2,q3,q4⟩,q⟩:=q1
 subst e
 cases r1 with
 | cons r rr =>
  cases rr with
  | cons r' rr =>
   cases rr
   obtain ⟨t,rfl⟩:=r
   obtain ⟨t',rfl⟩:=r'
   exact call_range_2 (ahU I1 q1 q2 q3 q4 q)
def tFor (wi:TI) (g:TG) (tb:TS):TS:=fun D σ H=>wi σ H fun J H1=>∃ W:Nat → Nat → St → Hp → Prop,(∃ m,W 0 m σ H1) ∧ ∀ i m σ H,W i m σ H →
 (J.stop i H ∧ D.nx σ H) ∨ (J.go i H ∧ ∃ N:St → Hp → Prop,(∀ σ' H',N σ' H' → ∃ m',m' < m ∧ W (i + 1) m' σ' H') ∧ ∀ x H',J.yld i H x H' → g x σ H' fun σ2 H2=>tb { D with nx:=N,ct:=N,bk:=D.nx } σ2 H2)
def aiL (fp:List Addr) (h:Heap):List (Addr × Obj):=fp.filterMap fun b=>(h.get? b).map fun o=>(b,o)
theorem aci {fp:List Addr} {h:Heap} {b:Addr} {o:Obj} (hb:b ∈ fp) (e:h.get? b = some o):(b,o) ∈ aiL fp h:=List.mem_filterMap.mpr ⟨b,hb,by rw [e]; rfl⟩
theorem aka {fp:List Addr} {h:Heap} {p:Addr × Obj} (hp:p ∈ aiL fp h):p.1 ∈ fp ∧ h.get? p.1 = some p.2:=by
 obtain ⟨b,hb,e⟩:=List.mem_filterMap.mp hp
 cases q:h.get? b with
 | none=>rw [q] at e; cases e
 | some o =>
  rw [q] at e
  have e':(b,o) = p:=Option.some.inj e
  subst e'
  exact ⟨hb,q⟩
theorem Inv.pinned {pins:List (Addr × Obj)} {σ:St} {H:Hp} {s:Shared} {fp:List Addr} (I:Inv X pins σ H s) (hf:∀ b ∈ fp,FpOk X pins H b) (ho:∀ b ∈ fp,∃ o,s.heap.get? b = some o ∧ ∀ v,o.data ≠ .cell v):Inv X (pins ++ aiL fp s.heap) σ H s :=
 I.pins_of fun p hp=>(List.mem_append.mp hp).elim (fun z=>I.pin p (List.mem_append_right _ z)) fun z=>by
  obtain ⟨hb,e⟩:=aka z
  obtain ⟨f0,f1,f2,_⟩:=hf p.1 hb
  obtain ⟨o,e',d⟩:=ho p.1 hb
  rw [e] at e'; cases e'
  exact ⟨e,f0,f1,f2,d⟩
theorem Inv.unpinned {pins pl:List (Addr × Obj)} {σ:St} {H:Hp} {s:Shared} (I:Inv X (pins ++ pl) σ H s):Inv X pins σ H s:=I.pins_of fun p hp=>I.pin p (List.mem_append_right _ (List.mem_append_left _ hp))
theorem amh {iter:Expr} {body:List Stmt} {wi:TI} {g:TG} {tb:TS} {pos:Pos} (hp:PassesOwn (model X.prog X.w) X.A X.env X.xe) (hc:X.calm = true) (hi:PI X tg iter wi) (hg:PG X tg g) (hb:PSs X body tb)
  (hs:∀ x,foldedSetIterable iter X.env x = pure x:=by intro _; rfl):PS X (.For tg iter body [] pos) (tFor wi g tb):=by
 intro pins s σ H D I h
 refine wpAny_For (thn (hi pins s σ H _ I h) fun v s1 h1=>thn h1 fun itv s2 h2=>?_) hs
 obtain ⟨it,fp,tn,J,H2,e,I2,T,st2,f2,W,⟨m0,w0⟩,turn⟩:=h2
 subst e
 -- what stays true of the iterator's objects through the loop
 have stat:∀ {H':Hp},(∀ b ∈ fp,H' b = none) → ∀ b ∈ fp,FpOk X pins H' b:=fun hn b hb=>⟨hn b hb,(f2 b hb).2⟩
 refine codeAny_forLoop_any (fun n s'=>∃ i σ' H',Inv X pins σ' H' s' ∧ tn i s'.heap ∧ (∀ b ∈ fp,H' b = none) ∧ W i n σ' H') ?_ m0 ⟨0,σ,H2,I2,st2,fun b hb=>(f2 b hb).1,w0⟩
 rintro n s3 ⟨i,σ3,H3,I3,st3,fr3,w3⟩
 rcases turn i n σ3 H3 w3 with ⟨stop,qn⟩ | ⟨go,N,hN,step⟩
 ·refine wpAny_passesOwn hp (thn (T.done X rfl rfl rfl hc i pins s3 σ3 H3 X.xe I3 (stat fr3) st3 stop) fun r s4 ⟨hr,I4⟩=>?_)
  subst hr
  exact wpAny_execs_nil ⟨σ3,H3,I4,qn⟩
 ·refine wpAny_passesOwn hp (thn (T.item X rfl rfl rfl hc i pins s3 σ3 H3 X.xe I3 (stat fr3) st3 go) fun r s4 ⟨u,hr,h4⟩=>?_)
  subst hr
  refine wpAny_passesOwn hp (thn h4 fun _ s5 ⟨x,H5,I5,r5,y5,st5,fr5⟩=>?_)
  have I5':=I5.pinned (stat fr5) (T.obj _ _ st5)
  refine wpAny_passesOwn hp (thn (hg _ s5 σ3 H5 x u _ I5' r5 (step x H5 y5)) fun _ s6 ⟨σ6,H6,I6,q6⟩=>?_)
  refine wpAny_passesOwn hp (thn (hb _ s6 σ6 H6 _ I6 q6) fun f s7 q7=>?_)
  have again:∀ {σ7:St} {H7:Hp},Inv X (pins ++ aiL fp s5.heap) σ7 H7 s7 → N σ7 H7 → ∃ m,m < n ∧ ∃ i σ' H',Inv X pins σ' H' s7 ∧ tn i s7.heap ∧ (∀ b ∈ fp,H' b = none) ∧ W i m σ' H':=fun {σ7 H7} I7 n7=>by
   obtain ⟨m',hm,w7⟩:=hN σ7 H7 n7
   refine ⟨m',hm,i + 1,σ7,H7,I7.unpinned,T.keep _ _ _ st5 fun b hb o e=>(I7.pin (b,o) (List.mem_append_right _ (List.mem_append_right _ (aci hb e)))).1,fun b hb=>?_,w7⟩
   obtain ⟨o,e,d⟩:=T.obj _ _ st5 b hb
   exact (I7.pin (b,o) (List.mem_append_right _ (List.mem_append_right _ (aci hb e)))).2.1
  cases f with
  | next=>obtain ⟨σ7,H7,I7,n7⟩:=q7; exact again I7 n7
  | cont=>obtain ⟨σ7,H7,I7,n7⟩:=q7; exact again I7 n7
  | brk=>obtain ⟨σ7,H7,I7,q7⟩:=q7; exact ⟨σ7,H7,I7.unpinned,q7⟩
  | ret v=>obtain ⟨x7,σ7,H7,I7,r7,q7⟩:=q7; exact ⟨x7,σ7,H7,I7.unpinned,r7,q7⟩
end
end L2
namespace L2
open PySem PySem.Spec PyProof.Rows
abbrev R2:=V → V → Hp → VK → Prop
def OpR (X:Cx) (f:Value → Value → Sem Value) (r:R2):Prop :=
 ∀ (pins:List (Addr × Obj)) (s:Shared) (σ:St) (H:Hp) (x y:V) (v u:Value) (Q:VK),Inv X pins σ H s → RelV x v → RelV y u → r x y H Q →
  wpAny (model X.prog X.w) X.A (f v u) (EP X pins σ Q) X.xe s
def UnR (X:Cx) (f:Value → Sem Value) (r:V → Hp → VK → Prop):Prop :=
 ∀ (pins:List (Addr × Obj)) (s:Shared) (σ:St) (H:Hp) (x:V) (v:Value) (Q:VK),Inv X pins σ H s → RelV x v → r x H Q →
  wpAny (model X.prog X.w) X.A (f v) (EP X pins σ Q) X.xe s
def ad4 (X:Cx) (f:Value) (r:List V → Hp → VK → Prop):Prop :=
 ∀ (pins:List (Addr × Obj)) (s:Shared) (σ:St) (H:Hp) (xs:List V) (us:List Value) (Q:VK),Inv X pins σ H s → Vals xs us → r xs H Q →
  wpAny (model X.prog X.w) X.A (call f us) (EP X pins σ Q) X.xe s
def tOp (r:R2) (ta tb:TE):TE:=fun σ H Q=>ta σ H fun x H1=>tb σ H1 fun y H2=>r x y H2 Q
def tUn (r:V → Hp → VK → Prop) (ta:TE):TE:=fun σ H Q=>ta σ H fun x H1=>r x H1 Q
def rI (C:Int → Int → Prop) (g:Int → Int → V):R2:=fun x y H Q=>∃ i j,x = .int i ∧ y = .int j ∧ C i j ∧ Q (g i j) H
def rI0 (g:Int → Int → V):R2:=fun x y H Q=>∃ i j,x = .int i ∧ y = .int j ∧ Q (g i j) H
def rU (g:Int → V):V → Hp → VK → Prop:=fun x H Q=>∃ i,x = .int i ∧ Q (g i) H
section
variable {X:Cx} {a b c:Expr} {ta tb tc:TE} {pos:Pos}
theorem binT (ha:PE X a ta) (hb:PE X b tb) {pins:List (Addr × Obj)} {s:Shared} {σ:St} {H:Hp} {R:V → V → Hp → Prop} (I:Inv X pins σ H s)
  (h:ta σ H fun x H1=>tb σ H1 fun y H2=>R x y H2) {Q:Value → Shared → Prop} {f:Value → Value → Sem Value}
  (hf:∀ v u s2 x y H2,Inv X pins σ H2 s2 → RelV x v → RelV y u → R x y H2 → wpAny (model X.prog X.w) X.A (f v u) Q X.xe s2) :
  wpAny (model X.prog X.w) X.A (eval a X.env) (fun v s₁=>wpAny (model X.prog X.w) X.A (eval b X.env) (fun u s₂=>wpAny (model X.prog X.w) X.A (f v u) Q X.xe s₂) X.xe s₁) X.xe s:=by
 refine thn (ha pins s σ H _ I h) fun v s1 ⟨x,H1,I1,r1,q1⟩=>?_
 refine thn (hb pins s1 σ H1 _ I1 q1) fun u s2 ⟨y,H2,I2,r2,q2⟩=>?_
 exact hf v u s2 x y H2 I2 r1 r2 q2
theorem aoQ {op:Operator} {r:R2} (ho:OpR X (binaryOp op) r) (ha:PE X a ta) (hb:PE X b tb):PE X (.BinOp a op b pos) (tOp r ta tb):=by
 intro pins s σ H Q I h
 exact wpAny_BinOp (binT ha hb I h fun v u s2 x y H2 I2 rx ry q=>ho pins s2 σ H2 x y v u Q I2 rx ry q)
theorem apP {op:UnaryOp} {r:V → Hp → VK → Prop} (ho:UnR X (unaryOp op) r) (ha:PE X a ta):PE X (.UnaryOp op a pos) (tUn r ta):=by
 intro pins s σ H Q I h
 exact UnaryOp_ (thn (ha pins s σ H _ I h) fun v s1 ⟨x,H1,I1,r1,q1⟩=>ho pins s1 σ H1 x v Q I1 r1 q1)
theorem opI {f:Value → Value → Sem Value} {C:Int → Int → Prop} {g:Int → Int → Int}
  (rule:∀ (i j:Int) (t u:Tok) (s:Shared) (Q:Value → Shared → Prop) (E:Value → Shared → Prop),C i j → Q (.int (g i j) s.toks) { s with toks:=s.toks + 1 } → wpAny (model X.prog X.w) X.A (f (.int i t) (.int j u)) Q E s) :
  OpR X f (rI C fun i j=>.int (g i j)):=by
 intro pins s σ H x y v u Q I rx ry h
 obtain ⟨i,j,rfl,rfl,hc,q⟩:=h
 obtain ⟨t,rfl⟩:=rx
 obtain ⟨t',rfl⟩:=ry
 exact rule i j t t' s _ _ hc ⟨.int (g i j),H,I.tok _,⟨_,rfl⟩,q⟩
theorem opI0 {f:Value → Value → Sem Value} {g:Int → Int → Int}
  (rule:∀ (i j:Int) (t u:Tok) (s:Shared) (Q:Value → Shared → Prop) (E:Value → Shared → Prop),Q (.int (g i j) s.toks) { s with toks:=s.toks + 1 } → wpAny (model X.prog X.w) X.A (f (.int i t) (.int j u)) Q E s) :
  OpR X f (rI0 fun i j=>.int (g i j)):=by
 intro pins s σ H x y v u Q I rx ry h
 obtain ⟨i,j,rfl,rfl,q⟩:=h
 obtain ⟨t,rfl⟩:=rx
 obtain ⟨t',rfl⟩:=ry
 exact rule i j t t' s _ _ ⟨.int (g i j),H,I.tok _,⟨_,rfl⟩,q⟩
theorem opB0 {f:Value → Value → Sem Value} {g:Int → Int → Bool}
  (rule:∀ (i j:Int) (t u:Tok) (s:Shared) (Q:Value → Shared → Prop) (E:Value → Shared → Prop),Q (.bool (g i j)) s → wpAny (model X.prog X.w) X.A (f (.int i t) (.int j u)) Q E s) :
  OpR X f (rI0 fun i j=>.bl (g i j)):=by
 intro pins s σ H x y v u Q I rx ry h
 obtain ⟨i,j,rfl,rfl,q⟩:=h
 obtain ⟨t,rfl⟩:=rx
 obtain ⟨t',rfl⟩:=ry
 exact rule i j t t' s _ _ ⟨.bl (g i j),H,I,rfl,q⟩
def CPow (i j:Int):Prop:=0 ≤ j ∧ j ≤ 1000000 ∧ i.natAbs < 2 ^ 64
def CMul (i j:Int):Prop:=(-(2 ^ 64) < i ∧ i < 2 ^ 64) ∨ (-(2 ^ 64) < j ∧ j < 2 ^ 64)
theorem CMul.ok {i j:Int} (h:CMul i j):IntMulOk i j:=by
 rcases h with ⟨h1,h2⟩ | ⟨h1,h2⟩
 ·exact .of_left (intBits_le_64 h1 h2)
 ·exact .of_right (intBits_le_64 h1 h2)
theorem apc:OpR X (binaryOp .Add) (rI0 fun i j=>.int (i + j)):=opI0 fun _ _ _ _ _ _ _ q=>add_int q
theorem ab7:OpR X (binaryOp .Sub) (rI0 fun i j=>.int (i - j)):=opI0 fun _ _ _ _ _ _ _ q=>sub_int q
theorem ac6:OpR X (binaryOp .Mod) (rI (fun _ j=>j ≠ 0) fun i j=>.int (i.fmod j)):=opI fun _ _ _ _ _ _ _ hc q=>mod_int' hc q
theorem afi:OpR X (binaryOp .Pow) (rI CPow fun i j=>.int (i ^ j.toNat)):=opI fun _ _ _ _ _ _ _ hc q=>pow_int_small hc.1 hc.2.1 hc.2.2 q
theorem unI {f:Value → Sem Value} {g:Int → Int}
  (rule:∀ (i:Int) (t:Tok) (s:Shared) (Q:Value → Shared → Prop) (E:Value → Shared → Prop),Q (.int (g i) s.toks) { s with toks:=s.toks + 1 } → wpAny (model X.prog X.w) X.A (f (.int i t)) Q E s) :
  UnR X f (rU fun i=>.int (g i)):=by
 intro pins s σ H x v Q I rx h
 obtain ⟨i,rfl,q⟩:=h
 obtain ⟨t,rfl⟩:=rx
 exact rule i t s _ _ ⟨.int (g i),H,I.tok _,⟨_,rfl⟩,q⟩
theorem abj:UnR X (unaryOp .USub) (rU fun i=>.int (-i)):=unI fun _ _ _ _ _ q=>neg_int q
end
section
variable {X:Cx} {a b c:Expr} {ta tb tc:TE} {pos:Pos}
theorem akn:OpR X (compareOp .Lt) (rI0 fun i j=>.bl (decide (i < j))):=opB0 fun _ _ _ _ _ _ _ q=>lt_int q
theorem ajZ:OpR X (compareOp .Gt) (rI0 fun i j=>.bl (decide (j < i))):=opB0 fun _ _ _ _ _ _ _ q=>gt_int q
theorem ap2:OpR X (compareOp .GtE) (rI0 fun i j=>.bl (decide (j ≤ i))):=opB0 fun _ _ _ _ _ _ _ q=>ge_int q
theorem OpR.or {f:Value → Value → Sem Value} {r r':R2} (h:OpR X f r) (h':OpR X f r'):OpR X f (fun x y H Q=>r x y H Q ∨ r' x y H Q):=by
 intro pins s σ H x y v u Q I rx ry q
 rcases q with q | q
 ·exact h pins s σ H x y v u Q I rx ry q
 ·exact h' pins s σ H x y v u Q I rx ry q
theorem aa4 (b:Expr) {op:CmpOp} (h:op ≠ .In:=by decide) (h2:op ≠ .NotIn:=by decide):behindInMarks op b = false:=by
 have e1:(op == CmpOp.In) = false:=by cases op <;> first | rfl | exact absurd rfl h
 have e2:(op == CmpOp.NotIn) = false:=by cases op <;> first | rfl | exact absurd rfl h2
 cases b <;> simp [behindInMarks,e1,e2]
theorem am6 {op:CmpOp} {r:R2} (ho:OpR X (compareOp op) r) (ha:PE X a ta) (hb:PE X b tb) (hm:behindInMarks op b = false):PE X (.Compare a [op] [b] pos) (tOp r ta tb):=by
 intro pins s σ H Q I h
 exact wpAny_Compare1 (binT ha hb I h fun v u s2 x y H2 I2 rx ry q=>ho pins s2 σ H2 x y v u Q I2 rx ry q) hm
def apN (t:TE):TT:=fun σ H Q=>t σ H fun x H'=>∃ k,x = .bl k ∧ Q k H'
theorem anh {op:CmpOp} {r:R2} (ho:OpR X (compareOp op) r) (ha:PE X a ta) (hb:PE X b tb) (hm:behindInMarks op b = false):PT X (.Compare a [op] [b] pos) (apN (tOp r ta tb)):=by
 intro pins s σ H Q I h
 refine wpAny_isTrue_Compare1 (thn (ha pins s σ H _ I h) fun v s1 ⟨x,H1,I1,r1,q1⟩=>thn (hb pins s1 σ H1 _ I1 q1) fun u s2 ⟨y,H2,I2,r2,q2⟩ =>
  thn (ho pins s2 σ H2 x y v u _ I2 r1 r2 q2) fun c s3 ⟨z,H3,I3,r3,k,e,q3⟩=>?_) hm
 subst e
 cases r3
 exact wpAny_truthy_bool ⟨H3,I3,q3⟩
theorem ag4:(sizeLine:Nat) < 2 ^ 63:=by rw [sizeLine_eq]; decide
theorem afr {x:V} {us:List Value} (r:Vals [x] us):∃ u,us = [u] ∧ RelV x u:=by
 cases r with
 | cons r1 r2=>cases r2; exact ⟨_,rfl,r1⟩
theorem amQ {x y:V} {us:List Value} (r:Vals [x,y] us):∃ u w',us = [u,w'] ∧ RelV x u ∧ RelV y w':=by
 cases r with
 | cons r1 r2 =>
  cases r2 with
  | cons r3 r4=>cases r4; exact ⟨_,_,rfl,r1,r3⟩
theorem af3:ad4 X (.builtin "abs") (fun xs H Q=>∃ i,xs = [.int i] ∧ Q (.int (if i < 0 then -i else i)) H):=by
 intro pins s σ H xs us Q I r h
 obtain ⟨i,rfl,q⟩:=h
 obtain ⟨u,rfl,t,rfl⟩:=afr r
 exact call_abs_int fun u tk=>⟨.int (if i < 0 then -i else i),H,I.tok _,⟨_,rfl⟩,q⟩
theorem ag6:ad4 X (.type "int") (fun xs H Q=>(∃ i,xs = [.int i] ∧ Q (.int i) H) ∨ ∃ k,xs = [.bl k] ∧ Q (.int (if k then 1 else 0)) H):=by
 intro pins s σ H xs us Q I r h
 rcases h with ⟨i,rfl,q⟩ | ⟨k,rfl,q⟩
 ·obtain ⟨u,rfl,t,rfl⟩:=afr r
  exact call_int_int ⟨.int i,H,I,⟨_,rfl⟩,q⟩
 ·obtain ⟨u,rfl,r1⟩:=afr r
  cases r1
  exact call_int_bool ⟨.int (if k then 1 else 0),H,I.tok _,⟨_,rfl⟩,q⟩
end
end L2
namespace L2
open PySem PySem.Spec PyProof.Rows
structure ObjM (h:Heap) (x dx C:Addr) (mA:Str → Option Value):Prop where
 obj:h.get? x = some (PySem.W.instObj C dx)
 ns:h.Ns1 dx mA
 ne:dx ≠ x
theorem akJ {h:Heap} {dx:Addr} {mA:Str → Option Value} (n:h.Ns1 dx mA):∃ od,h.get? dx = some od ∧ ∀ name,PySem.W.lookIn name od = some (mA name):=by
 obtain ⟨o,es,ep,ho,hd,hk,_,hm⟩:=n
 refine ⟨o,ho,fun name=>?_⟩
 have e:=hm name
 unfold nsFind findBy at e
 rw [← Array.find?_toList] at e
 unfold PySem.W.lookIn
 rw [hd]
 dsimp only
 split
 ·rename_i y q
  rw [q] at e
  exact congrArg some e
 ·rename_i q
  rw [q] at e
  have a:es.toList.any (·.refKey) = false:=by
   rw [List.any_eq_false]
   intro y hy
   obtain ⟨z,t,hkey⟩:=hk y (Array.mem_toList_iff.mp hy)
   simp [DictEntry.refKey,hkey]
  have a':¬ es.toList.any (·.refKey) = true:=by rw [a]; exact Bool.false_ne_true
  rw [if_neg a']
  exact congrArg some e
theorem ObjM.look {h:Heap} {x dx C:Addr} {mA:Str → Option Value} (I:ObjM h x dx C mA):∃ od,PySem.W.InstAt h x (PySem.W.instObj C dx) C (some od) ∧ ∀ name,PySem.W.lookIn name od = some (mA name) :=
 let ⟨od,ho,hl⟩:=akJ I.ns
 ⟨od,⟨I.obj,rfl,rfl,ho⟩,hl⟩
section
variable {prog:Program} {w:World} {A:Around} {E:Value → Shared → Prop} {s:Shared} {K:PySem.W.Frag} {x dx C f:Addr} {mA:Str → Option Value} {name:Str} {v:Value}
end
section
variable {P:Program} {w:World} {H H':Hp} {h h':Heap} {a C dx:Addr} {fs fs':List (Str × V)}
theorem ane (hok:HOk P w H h) (e:H a = some (.ins C dx fs)):∃ mA,ObjM h a dx C mA ∧ (∀ f,RelO (fs.lookup f) (mA f)) ∧ PySem.Within mA (fs.map (·.1)) ∧ fs.length ≤ 1000 ∧ H dx = some (.own a):=by
 obtain ⟨d,z,ne,ob,mA,n,r,q⟩:=(show acx P w H h a (.ins C dx fs) from hok a _ e)
 exact ⟨mA,⟨ob,n,ne⟩,r,q,z,d⟩
end
structure Cls (K:PySem.W.Frag) (C:Addr):Prop where
 pg:PySem.W.plainGet K C Str.empty = true
 hd:PySem.W.hasDictIn K C = true
 po:PySem.W.plainOver K C = true
 sa:PySem.W.findIn K (.ref C) "__setattr__" = some (some (.builtin "object.__setattr__"))
theorem Cls.get {K:PySem.W.Frag} {C:Addr} (c:Cls K C) (f:Str):PySem.W.plainGet K C f = true:=c.pg
section
variable {X:Cx} {pins:List (Addr × Obj)} {σ:St} {H:Hp} {s:Shared} {a C dx:Addr} {fs:List (Str × V)} {f:Str} {v:V} {A:Around} {E:Value → Shared → Prop}
theorem Inv.made (I:Inv X pins σ H s):Inv X pins σ (upd (upd H s.heap.objs.size (.own (s.heap.objs.size + 1))) (s.heap.objs.size + 1) (.ins C s.heap.objs.size []))
  { s with heap:=(s.heap.push PySem.W.emptyDict).push (PySem.W.instObj C s.heap.objs.size) }:=by
 have e1:(s.heap.push PySem.W.emptyDict).get? s.heap.objs.size = some PySem.W.emptyDict:=Heap.get?_push_size s.heap rfl
 have e2:((s.heap.push PySem.W.emptyDict).push (PySem.W.instObj C s.heap.objs.size)).get? (s.heap.objs.size + 1) = some (PySem.W.instObj C s.heap.objs.size):=by
  have:=Heap.get?_push_size (s.heap.push PySem.W.emptyDict) (o:=PySem.W.instObj C s.heap.objs.size) rfl
  rwa [Heap.size_push] at this
 have e3:(s.heap.push PySem.W.emptyDict).Ns s.heap.objs.size (fun _=>none):=⟨PySem.W.emptyDict,#[],_,e1,rfl,(fun e he=>absurd he (by simp)),fun _=>rfl⟩
 have I1:=I.laid (a:=s.heap.objs.size) (o:=.own (s.heap.objs.size + 1)) (h':=s.heap.push PySem.W.emptyDict) (t':=s.toks) (fun b u q=>Heap.get?_push_of_some _ q) (Nat.le_refl _) ⟨_,e1⟩
 refine I1.laid (a:=s.heap.objs.size + 1) (o:=.ins C s.heap.objs.size []) (t':=s.toks) (fun b u q=>Heap.get?_push_of_some _ q) (Nat.le_of_eq (Heap.size_push _ _)) ?_
 have ne:s.heap.objs.size ≠ s.heap.objs.size + 1:=Nat.ne_of_lt (Nat.lt_succ_self _)
 refine ⟨by rw [aaQ ne,aa6],Nat.zero_le _,ne,e2,fun _=>none,(Heap.Ns1.of_empty e3).at fun o q=>Heap.get?_push_of_some _ q,fun _=>True.intro,fun y hy=>absurd rfl hy⟩
end
section
variable {X:Cx} {o e value:Expr} {f:Str} {pos pos' tpos:Pos} {ta tv:TE}
end
section
variable {X:Cx} {pins:List (Addr × Obj)} {σ:St} {H:Hp} {s:Shared} {A:Around} {E:Value → Shared → Prop} {Q:Value → Shared → Prop} {c:Value} {b:Bool}
inductive TyOf (K:PySem.W.Frag) (H:Hp):V → Value → Prop where
 | non:TyOf K H .non (.type "NoneType")
 | bl (x:Bool):TyOf K H (.bl x) (.type "bool")
 | int (i:Int):TyOf K H (.int i) (.type "int")
 | str (x:Str):TyOf K H (.str x) (.type "str")
 | flt (x:UInt64):TyOf K H (.flt x) (.type "float")
 | lst {a:Addr} {xs:List V} (e:H a = some (.lst xs)):TyOf K H (.ref a) (.type "list")
 | frz {a:Addr} {o:Obj} {xs:List V} (e:H a = some (.frz o (.lst xs))):TyOf K H (.ref a) (.type "list")
 | tup {a:Addr} {xs:List V} (e:H a = some (.tup xs)):TyOf K H (.ref a) (.type "tuple")
 | dK {a:Addr} {kvs:List (Key × V)} (e:H a = some (.dK kvs)):TyOf K H (.ref a) (.type "dict")
 | dT {a:Addr} {kvs:List (List Key × V)} (e:H a = some (.dT kvs)):TyOf K H (.ref a) (.type "dict")
 | ins {a C dx:Addr} {fs:List (Str × V)} (e:H a = some (.ins C dx fs)) (cl:Cls K C) (ha:PySem.W.findIn K (.ref C) "__class__" = some (some (.builtin "object.__class__")))
   (hn:PySem.W.specialIn K (.builtin "object.__class__") "__get__" = some (some (.builtin "getset_descriptor.__get__"))) (htk:PySem.W.takesIn K (.builtin "object.__class__") = some true)
   (hm:PySem.W.mroIn K C (.type "object") = some true):TyOf K H (.ref a) (.ref C)
theorem akA {x:V} {u t:Value} (I:Inv X pins σ H s) (rx:RelV x u) (ty:TyOf X.K H x t) (e:PySem.W.kitOne X.K t c = some b) (h:∀ tk,Q (.bool b) { s with toks:=tk }) :
  wpAny (model X.prog X.w) A (call (.builtin "isinstance") [u,c]) Q E s:=by
 cases ty with
 | non=>cases (show u = Value.none from rx); exact PySem.W.kia_one PySem.W.kitx_none I.kIn True.intro e (fun z=>nomatch z) h
 | bl y=>cases (show u = Value.bool y from rx); exact PySem.W.kia_one PySem.W.kitx_bool I.kIn True.intro e (fun z=>nomatch z) h
 | int i=>obtain ⟨t,q⟩:=(show ∃ t,u = Value.int i t from rx); cases q; exact PySem.W.kia_one PySem.W.kitx_int I.kIn True.intro e (fun z=>nomatch z) h
 | str y=>obtain ⟨t,q⟩:=(show ∃ t,u = Value.str y t from rx); cases q; exact PySem.W.kia_one PySem.W.kitx_str I.kIn True.intro e (fun z=>nomatch z) h
 | flt y=>obtain ⟨t,q⟩:=(show ∃ t,u = Value.float y t from rx); cases q; exact PySem.W.kia_one PySem.W.kitx_float I.kIn True.intro e (fun z=>nomatch z) h
 | @lst a xs ea =>
  cases (show u = Value.ref a from rx)
  obtain ⟨_,_,n,_,h1⟩:=(show acx X.prog X.w H s.heap a (.lst xs) from I.hok a _ ea)
  exact PySem.W.kia_one PySem.W.kitx_list I.kIn ⟨_,h1,rfl⟩ e (fun z=>nomatch z) h
 | @frz a ob xs ea =>
  cases (show u = Value.ref a from rx)
  obtain ⟨_,_,_,n,_,h1⟩:=(show acx X.prog X.w H s.heap a (.frz ob (.lst xs)) from I.hok a _ ea)
  exact PySem.W.kia_one PySem.W.kitx_list I.kIn ⟨_,h1,rfl⟩ e (fun z=>nomatch z) h
 | @tup a xs ea =>
  cases (show u = Value.ref a from rx)
  obtain ⟨_,_,_,p⟩:=(show acx X.prog X.w H s.heap a (.tup xs) from I.hok a _ ea)
  obtain ⟨o,h1,h2,_⟩:=p
  exact PySem.W.kia_one PySem.W.kitx_tuple I.kIn ⟨o,h1,h2⟩ e (fun z=>nomatch z) h
 | @dK a kvs ea =>
  cases (show u = Value.ref a from rx)
  obtain ⟨_,_,vs,_,p⟩:=(show acx X.prog X.w H s.heap a (.dK kvs) from I.hok a _ ea)
  obtain ⟨o,es,ep,h1,h2,_⟩:=p
  exact PySem.W.kia_one PySem.W.kitx_dict I.kIn ⟨o,h1,h2.1⟩ e (fun z=>nomatch z) h
 | @dT a kvs ea =>
  cases (show u = Value.ref a from rx)
  obtain ⟨_,_,xs,_,o,es,ep,h1,h2,_⟩:=(show acx X.prog X.w H s.heap a (.dT kvs) from I.hok a _ ea)
  exact PySem.W.kia_one PySem.W.kitx_dict I.kIn ⟨o,h1,h2.1⟩ e (fun z=>nomatch z) h
 | @ins a C dx fs ea cl ha hn htk hm =>
  cases (show u = Value.ref a from rx)
  obtain ⟨mA,O,_⟩:=ane I.hok ea
  obtain ⟨od,J,_⟩:=O.look
  exact PySem.W.kia_one (PySem.W.kitx_own (cl.get _) cl.hd ha hn htk hm) I.kIn J e (fun z=>nomatch z) h
end
end L2
namespace L2
open PySem PySem.Spec PyProof.Rows
structure Room (k:Nat) (A:Around):Prop where
 hd:A.handled = none
 dp:A.depth + 3 * k + 5 < recursionLimit
 un:A.units + 16 * k + 200 < cLine
theorem Room.mono {j k:Nat} {A:Around} (r:Room k A) (h:j ≤ k):Room j A:=⟨r.hd,by have:=r.dp; omega,by have:=r.un; omega⟩
theorem Room.deeper {k:Nat} {A:Around} (r:Room (k + 1) A) (env:Env):Room k (A.deeper env) :=
 ⟨r.hd,by have:=r.dp; show A.depth + 1 + 3 * k + 5 < _; omega,by have:=r.un; show A.units + 3 + 16 * k + 200 < _; omega⟩
theorem Room.depth {k:Nat} {A:Around} (r:Room k A):A.depth < recursionLimit:=by have:=r.dp; omega
theorem Room.units {k:Nat} {A:Around} (r:Room k A):A.units + 64 < cLine:=by have:=r.un; omega
def tNil:TA:=fun _ H Q=>Q [] H
def apy (ta:TE) (tr:TA):TA:=fun σ H Q=>ta σ H fun x H1=>tr σ H1 fun xs H2=>Q (x :: xs) H2
section
variable {X:Cx} {e:Expr} {es:List Expr} {te:TE} {t:TA} {pos:Pos}
theorem afF:PA X [] tNil:=fun _ _ _ _ H Q I h=>Calls.spliced_nil ⟨[],H,I,.nil,h⟩
theorem adn (ha:PE X e te) (hr:PA X es t) (hs:starEach (e :: es) X.env = (false,eval e X.env) :: starEach es X.env:=by rfl):PA X (e :: es) (apy te t):=by
 intro pos pins s σ H Q I h
 rw [hs]
 show wpAny _ _ (spliced ((false,eval e X.env) :: backTo pos (starEach es X.env))) _ _ s
 refine Calls.spliced_cons (thn (ha pins s σ H _ I h) fun u s1 ⟨x,H1,I1,r1,q1⟩=>?_)
 exact thn (hr pos pins s1 σ H1 _ I1 q1) fun us s2 ⟨xs,H2,I2,r2,q2⟩=>⟨x :: xs,H2,I2,.cons r1 r2,q2⟩
def tTup (t:TA):TE:=fun σ H Q=>t σ H fun xs H1=>xs.length ≤ sizeLine ∧ ∀ p,H1 p = none → Q (.ref p) (upd H1 p (.tup xs))
def tLst (t:TA):TE:=fun σ H Q=>t σ H fun xs H1=>xs.length ≤ sizeLine ∧ ∀ p,H1 p = none → Q (.ref p) (upd H1 p (.lst xs))
theorem apb {x1} (h:PA X es t):PE X (.Tuple es x1 pos) (tTup t):=by
 intro pins s σ H Q I hq
 refine wpAny_Tuple_spliced (thn (h pos pins s σ H _ I hq) fun us s1 ⟨xs,H1,I1,r,z,q⟩=>⟨by rw [← r.length]; exact z,?_⟩)
 have hf:H1 s1.heap.objs.size = none:=I1.hok.fresh (Nat.le_refl _)
 refine ⟨.ref s1.heap.objs.size,upd H1 s1.heap.objs.size (.tup xs),I1.laid (t':=s1.toks) (fun b u e=>Heap.get?_push_of_some _ e) (Nat.le_refl _) ?_,rfl,q _ hf⟩
 exact ⟨z,us,r,⟨_,Heap.get?_push_size _ rfl,rfl,_,rfl⟩⟩
theorem akf (h:PA X es t):PE X (.List es pos) (tLst t):=by
 intro pins s σ H Q I hq
 refine wpAny_List_spliced (thn (h pos pins s σ H _ I hq) fun us s1 ⟨xs,H1,I1,r,z,q⟩=>⟨by rw [← r.length]; exact z,?_⟩)
 have hf:H1 s1.heap.objs.size = none:=I1.hok.fresh (Nat.le_refl _)
 refine ⟨.ref s1.heap.objs.size,upd H1 s1.heap.objs.size (.lst xs),I1.laid (t':=s1.toks) (fun b u e=>Heap.get?_push_of_some _ e) (Nat.le_refl _) ?_,rfl,q _ hf⟩
 exact ⟨z,us,0,r,Heap.get?_push_size _ rfl⟩
end
abbrev Sp:=List V → Hp → VK → XK → Prop
abbrev CXT:=List Env → Hp → Shared → XK → Value → Shared → Prop
structure Env0 (P:Program) (w:World) (K:PySem.W.Frag) (mg:Str → Option Value) (base:Heap) (A:Around) (outer:List Env) (s:Shared) (H:Hp):Prop where
 frames:A.frames = some outer
 mod:Mod K mg base
 bs:∀ b o,base.get? b = some o → s.heap.get? b = some o ∧ H b = none
 bsz:base.objs.size ≤ s.heap.objs.size
 funs:s.heap.FunFrames base outer
 frf:∀ b ∈ frs outer,H b = none
 hok:HOk P w H s.heap
 bare:AllBare s.gens
def CE (outer:List Env) (P:Program) (w:World) (H:Hp) (s:Shared) (Q:VK) (u:Value) (s':Shared):Prop :=
 ∃ v H',s'.os = s.os ∧ AllBare s'.gens ∧ Un (frs outer) [] H H' s.heap s'.heap ∧ HOk P w H' s'.heap ∧ RelV v u ∧ Q v H'
def CR (CX:CXT) (outer:List Env) (P:Program) (w:World) (H:Hp) (s:Shared) (Q:VK) (E:XK) (r:Result) (s':Shared):Prop :=
 match r with
 | .ok (.ret u)=>CE outer P w H s Q u s'
 | .ok _=>False
 | .error e=>CX outer H s E e s'
structure FnOk (P:Program) (w:World) (K:PySem.W.Frag) (mg:Str → Option Value) (base:Heap) (CX:CXT) (k:Nat) (f:Addr) (fd:FuncData) (ps:List Str) (sp:Sp):Prop where
 len:∀ vs H Q E,sp vs H Q E → vs.length = ps.length
 run:∀ (A:Around) (outer:List Env) (s:Shared) (H:Hp) (args:Args) (us:List Value) (vs:List V) (Q:VK) (E:XK),Room k A → Env0 P w K mg base A outer s H → BindsTo s fd args (ps.zip us) → Vals vs us → sp vs H Q E →
  codeAny (model P w) A (.call (.ref f) args) (CR CX outer P w H s Q E) s
theorem FnOk.mono {P:Program} {w:World} {K:PySem.W.Frag} {mg:Str → Option Value} {base:Heap} {CX:CXT} {j k:Nat} {f:Addr} {fd:FuncData} {ps:List Str} {sp:Sp} (F:FnOk P w K mg base CX j f fd ps sp) (h:j ≤ k) :
  FnOk P w K mg base CX k f fd ps sp:=⟨F.len,fun A outer s H args us vs Q E hr=>F.run A outer s H args us vs Q E (hr.mono h)⟩
theorem FnOk.imp {P:Program} {w:World} {K:PySem.W.Frag} {mg:Str → Option Value} {base:Heap} {CX:CXT} {k:Nat} {f:Addr} {fd:FuncData} {ps:List Str} {sp sp':Sp} (F:FnOk P w K mg base CX k f fd ps sp)
  (h:∀ vs H Q E,sp' vs H Q E → sp vs H Q E):FnOk P w K mg base CX k f fd ps sp' :=
 ⟨fun vs H Q E q=>F.len vs H Q E (h _ _ _ _ q),fun A outer s H args us vs Q E hr he hb hv hs=>F.run A outer s H args us vs Q E hr he hb hv (h _ _ _ _ hs)⟩
section
variable {X:Cx} {pins:List (Addr × Obj)} {σ:St} {H:Hp} {s s':Shared}
theorem Inv.env0 (I:Inv X pins σ H s):Env0 X.prog X.w X.K X.mg X.base X.A X.stack s H :=
 ⟨I.ok.frames,I.ok.mod,I.bs,Nat.le_trans I.ok.bsz I.sz,I.stack,I.stkFree,I.hok,I.bare⟩
theorem Inv.after {Q:VK} {u:Value} (I:Inv X pins σ H s) (h:CE X.stack X.prog X.w H s Q u s'):EP X pins σ Q u s':=by
 obtain ⟨v,H',os,bare,un,hok,r,q⟩:=h
 obtain ⟨hh,g,d,t,os'⟩:=s'
 obtain rfl:os' = s.os:=os
 exact ⟨v,H',I.call (h':=hh) (g':=g) (d':=d) (t':=t) (ch:=[]) un hok bare (fun b z=>absurd z (by simp)),r,q⟩
end
def apx (sp:Sp) (dvs:List V) (E:XK) (t:TA):TE:=fun σ H Q=>t σ H fun vs H1=>sp (vs ++ dvs) H1 Q E
def ac2 (K:PySem.W.Frag) (fd:FuncData) (ps:List Str) (ds:List Value):Prop :=
 ∀ (s:Shared) (us:List Value),K.In s.heap → (us ++ ds).length = ps.length → BindsTo s fd ⟨us,[]⟩ (ps.zip (us ++ ds))
theorem ac2.all {K:PySem.W.Frag} {fd:FuncData} {ps:List Str} (h:∀ us:List Value,us.length = ps.length → bindArgs fd ⟨us,[]⟩ = pure (ps.zip us)):ac2 K fd ps []:=fun s us _ hl=>by
 rw [List.append_nil] at hl ⊢
 exact .of_eq (h us hl)
def aib (CX:CXT) (X:Cx) (E:XK):Prop:=∀ (pins:List (Addr × Obj)) (σ:St) (H:Hp) (s:Shared) (e:Value) (s':Shared),Inv X pins σ H s → CX X.stack H s E e s' → X.xe e s'
section
variable {X:Cx} {CX:CXT} {k:Nat} {f C:Addr} {fd:FuncData} {ps:List Str} {sp:Sp} {dvs:List V} {ds:List Value} {E:XK} {x m:Str} {p pos apos:Pos} {e o:Expr} {es:List Expr} {ta:TE} {t:TA}
theorem apn {pins:List (Addr × Obj)} {σ:St} {H:Hp} {s:Shared} {Q:VK} {us:List Value} {vs:List V} (F:FnOk X.prog X.w X.K X.mg X.base CX k f fd ps sp) (hr:Room k X.A) (hb:ac2 X.K fd ps ds) (hd:Vals dvs ds) (hx:aib CX X E)
  (I:Inv X pins σ H s) (r:Vals vs us) (h:sp (vs ++ dvs) H Q E):wpAny (model X.prog X.w) X.A (call (.ref f) us) (EP X pins σ Q) X.xe s:=by
 have r2:Vals (vs ++ dvs) (us ++ ds):=r.append hd
 have hl:(us ++ ds).length = ps.length:=by rw [← r2.length]; exact F.len _ _ _ _ h
 refine wpAny_call (codeAny_mono (F.run X.A X.stack s H ⟨us,[]⟩ (us ++ ds) (vs ++ dvs) Q E hr I.env0 (hb s us I.kIn hl) r2 h) fun r s' hq=>?_)
 cases r with
 | error e=>exact hx pins σ H s e s' I hq
 | ok fl =>
  cases fl with
  | ret u=>exact I.after hq
  | next=>exact False.elim hq
  | brk=>exact False.elim hq
  | cont=>exact False.elim hq
theorem aga (F:FnOk X.prog X.w X.K X.mg X.base CX k f fd ps sp) (hr:Room k X.A) (hg:Gl X x) (hm:X.mg x = some (.ref f)) (hk:PySem.W.keepIn X.K (.ref f) = true) (hb:ac2 X.K fd ps ds) (hd:Vals dvs ds) (hx:aib CX X E)
  (ha:PA X (e :: es) t) (hdb:(x == ("__debug__":Str)) = false:=by decide) (he:starEach (e :: es) X.env = (false,eval e X.env) :: starEach es X.env:=by rfl) (hpl:(backTo pos (starEach es X.env)).any (·.1) = false:=by rfl) :
  PE X (.Call (.Name x p) (e :: es) [] pos) (apx sp dvs E t):=by
 intro pins s σ H Q I h
 refine wpAny_Call_Name_kw (ae1 I hg hm ?_ hdb)
 refine PySem.W.callWith_K (h₀:=X.base) I.ok.mod.kin hk (thn (ha pos pins s σ H _ I h) fun us s1 ⟨vs,H1,I1,r,q⟩=>⟨I1.kIn,?_⟩) he hpl
 exact apn F hr hb hd hx I1 r q
end
section
variable {X:Cx} {CX:CXT} {k:Nat} {f C:Addr} {fd:FuncData} {ps ks:List Str} {sp:Sp} {E:XK} {x m:Str} {p pos apos kpos:Pos} {e o:Expr} {es:List Expr} {kws:List Keyword} {te ta:TE} {t tk:TA} {nm:Option Str}
variable {g:List Value → List Value → List Value} {gV:List V → List V → List V}
end
structure aaI (N P:List Str) (sc:Scope):Prop where
 kind:sc.kind = .function
 co:sc.isCoroutine = false
 gen:sc.isGenerator = false
 nd:N.Nodup
 pre:N.take P.length = P
 par:∀ x ∈ P,sc.names.lookup x = some .local ∨ sc.names.lookup x = some .cell
 nofree:∀ y ∈ sc.names,y.2 ≠ .free
theorem ag0 {kindOf:Str → Option NameKind} {x:Str}:∀ {binds:List (Str × Value)} {m:Str → Option Value},(∀ v,(x,v) ∉ binds) → bindL kindOf binds m x = m x
 | [],_,_=>rfl
 | (n,v) :: r,m,h=>by
  unfold bindL
  rw [ag0 fun w hw=>h w (List.mem_cons_of_mem _ hw)]
  split
  ·have:x ≠ n:=by rintro rfl; exact h v List.mem_cons_self
   simp [this]
  ·rfl
theorem agI {kindOf:Str → Option NameKind} {x:Str}:∀ {binds:List (Str × Value)} {m:Str → Option Value},(∀ v,(x,v) ∉ binds) → bindC kindOf binds m x = m x
 | [],_,_=>rfl
 | (n,v) :: r,m,h=>by
  unfold bindC
  rw [agI fun w hw=>h w (List.mem_cons_of_mem _ hw)]
  split
  ·rfl
  ·have:x ≠ n:=by rintro rfl; exact h v List.mem_cons_self
   simp [this]
theorem aha {kindOf:Str → Option NameKind} {x:Str} {v:Value}:∀ {P:List Str} {vs:List Value} {i:Nat} {m:Str → Option Value},P.Nodup → P[i]? = some x → vs[i]? = some v → kindOf x = some .local →
  bindL kindOf (P.zip vs) m x = some v
 | [],_,_,_,_,h,_,_=>by simp at h
 | _ :: _,[],_,_,_,_,h,_=>by simp at h
 | p :: P,w :: vs,0,m,nd,h1,h2,hk=>by
  simp at h1 h2; subst h1; subst h2
  show bindL kindOf ((p,w) :: P.zip vs) m p = _
  unfold bindL
  rw [ag0 fun v hv=>(List.nodup_cons.mp nd).1 (List.of_mem_zip hv).1,if_pos hk]
  simp
 | p :: P,w :: vs,i + 1,m,nd,h1,h2,hk=>by
  show bindL kindOf ((p,w) :: P.zip vs) m x = _
  unfold bindL
  exact aha (i:=i) (List.nodup_cons.mp nd).2 (by simpa using h1) (by simpa using h2) hk
theorem agE {kindOf:Str → Option NameKind} {x:Str} {v:Value}:∀ {P:List Str} {vs:List Value} {i:Nat} {m:Str → Option Value},P.Nodup → P[i]? = some x → vs[i]? = some v → kindOf x ≠ some .local →
  bindC kindOf (P.zip vs) m x = some v
 | [],_,_,_,_,h,_,_=>by simp at h
 | _ :: _,[],_,_,_,_,h,_=>by simp at h
 | p :: P,w :: vs,0,m,nd,h1,h2,hk=>by
  simp at h1 h2; subst h1; subst h2
  show bindC kindOf ((p,w) :: P.zip vs) m p = _
  unfold bindC
  rw [agI fun v hv=>(List.nodup_cons.mp nd).1 (List.of_mem_zip hv).1,if_neg hk]
  simp
 | p :: P,w :: vs,i + 1,m,nd,h1,h2,hk=>by
  show bindC kindOf ((p,w) :: P.zip vs) m x = _
  unfold bindC
  exact agE (i:=i) (List.nodup_cons.mp nd).2 (by simpa using h1) (by simpa using h2) hk
def start (N:List Str) (vs:List V):St:=vs.map some ++ List.replicate (N.length - vs.length) none
def cxOf (CX:CXT) (P:Program) (w:World) (K:PySem.W.Frag) (mg:Str → Option Value) (base:Heap) (N:List Str) (qual:Str) (scope:Scope) (f:Addr) (cd:Value) (A:Around) (outer:List Env) (s:Shared) (H:Hp) (E:XK):Cx where
 prog:=P
 w:=w
 K:=K
 mg:=mg
 base:=base
 A:=A.deeper (envOfC qual scope s.heap.objs.size f cd)
 N:=N
 s₀:=s
 H₀:=H
 env:=envOfC qual scope s.heap.objs.size f cd
 outer:=outer
 stack:=envOfC qual scope s.heap.objs.size f cd :: outer
 ex:=[]
 calm:=true
 fn:=fun _=>true
 pn:=[]
 xe:=fun e s'=>wpAny (model P w) (A.deeper (envOfC qual scope s.heap.objs.size f cd)) (leaving (envOfC qual scope s.heap.objs.size f cd) e) (fun _ s''=>CX outer H s E e s'') (fun e' s''=>CX outer H s E e' s'') s'
theorem aiK {sc:Scope} {n:Nat} {x:Str} (h:sc.names.lookup x = some .cell):∃ c,(cellsFrom n sc.names []).lookup x = some c:=by
 have q:=PySem.W.cellsFrom_some sc.names n [] (.inl h)
 exact Option.isSome_iff_exists.mp q
theorem ajp {CX:CXT} {P:Program} {w:World} {K:PySem.W.Frag} {mg:Str → Option Value} {base:Heap} {N ps:List Str} {qual:Str} {scope:Scope} {f:Addr} {cd:Value} {A:Around} {outer:List Env} {s s1:Shared} {H:Hp} {E:XK} {us:List Value} {vs:List V}
  (S:aaI N ps scope) (hd:A.handled = none) (e0:Env0 P w K mg base A outer s H) (hl:vs.length = ps.length) (r:Vals vs us)
  (x:InCallC s s.heap.objs.size (bindL (envOfC qual scope s.heap.objs.size f cd).kindOf (ps.zip us) fun _=>none) (cellsFrom (s.heap.objs.size + 1) scope.names []) (bindC (envOfC qual scope s.heap.objs.size f cd).kindOf (ps.zip us) fun _=>none) s1) :
  Inv (cxOf CX P w K mg base N qual scope f cd A outer s H E) [] (start N vs) H s1:=by
 have hpl:ps.length ≤ N.length:=by have:=congrArg List.length S.pre; rw [List.length_take] at this; omega
 obtain ⟨h1,tk,rfl,hk⟩:=x.done
 have noA:∀ b:Addr,b ∉ (cxOf CX P w K mg base N qual scope f cd A outer s H E).ex:=fun b z=>absurd (show b ∈ ([]:List Addr) from z) (by simp)
 refine ⟨⟨e0.mod,S.kind,rfl,rfl,Nat.le_refl _,fun y z c h1 h2=>?_,fun y hy=>?_,fun y c _ h=>?_,fun _=>hd,Around.frames_deeper e0.frames,.inr ⟨rfl,rfl⟩,fun b z=>absurd z (noA b),e0.bs,e0.bsz,fun b _ _=>noA b,fun b z=>absurd z (noA b),e0.funs,e0.frf⟩,
  rfl,e0.bare,Un.kept hk,⟨_,x.toInCall.ns,fun i y v h1 h2 h3=>?_⟩,fun y c h=>⟨_,x.cell y c h⟩,e0.hok.fresh (Nat.le_refl _),fun y c h=>?_,fun p hp=>absurd (show p ∈ ([]:List (Addr × Obj)) from hp) (by simp),e0.hok.kept hk,?_⟩
 ·exact name_of_addr x.apart (PySem.mem_of_lookup h1) (PySem.mem_of_lookup h2)
 ·have hy:scope.names.lookup y = some .cell ∨ scope.names.lookup y = some .free:=hy
  rcases hy with hy | hy
  ·exact aiK hy
  ·exact absurd rfl (S.nofree _ (PySem.mem_of_lookup hy))
 ·exact Nat.le_of_lt (x.above y c (PySem.mem_of_lookup h))
 ·have hi:i < vs.length:=by
   unfold start at h2
   by_cases hi:i < vs.length
   ·exact hi
   ·rw [List.getElem?_append_right (by simpa using hi)] at h2
    rw [List.getElem?_replicate] at h2
    split at h2 <;> cases h2
  have ha:vs[i]? = some v:=by
   unfold start at h2
   rw [List.getElem?_append_left (by simpa using hi),List.getElem?_map] at h2
   cases e:vs[i]? with
   | none=>rw [e] at h2; cases h2
   | some a=>rw [e] at h2; cases h2; rfl
  obtain ⟨u,hu,rv⟩:=r.get ha
  have hp:ps[i]? = some y:=by
   rw [← S.pre,List.getElem?_take_of_lt (by omega)]; exact h1
  have ndP:ps.Nodup:=by rw [← S.pre]; exact S.nd.sublist (List.take_sublist _ _)
  refine ⟨u,rv,?_⟩
  rcases S.par y (List.mem_of_getElem? hp) with k | k
  ·exact .inl ⟨k,aha ndP hp hu k⟩
  ·obtain ⟨c,e⟩:=aiK (n:=s.heap.objs.size + 1) k
   refine .inr ⟨.inl k,c,e,?_⟩
   have q:=x.cell y c e
   rw [agE ndP hp hu (by show scope.names.lookup y ≠ _; rw [k]; decide)] at q
   exact q
 ·exact e0.hok.fresh (Nat.le_of_lt (x.above y c (PySem.mem_of_lookup h)))
 ·unfold start
  show _ = N.length
  rw [List.length_append,List.length_map,List.length_replicate]
  omega
theorem ak5 {CX:CXT} {P:Program} {w:World} {K:PySem.W.Frag} {mg:Str → Option Value} {base:Heap} {k:Nat} {f:Addr} {name qual:Str} {params:Arguments} {body:List Stmt} {scope:Scope} {dV kV doc pm cdv ct oc:Value} {an od:Option Addr}
  {osl:Array (Option Value)} {N ps:List Str} {sp:Sp} (lk:K.lookup f = some ⟨oc,od,.func (PySem.W.fnOf name qual params body scope dV kV doc pm an cdv ct),osl⟩) (hcd:PySem.W.codeIn K cdv qual = true) (S:aaI N ps scope)
  (len:∀ vs H Q E,sp vs H Q E → vs.length = ps.length)
  (hbody:∀ (A:Around) (outer:List Env) (s:Shared) (H:Hp) (vs:List V) (Q:VK) (E:XK),Room k (A.deeper (envOfC qual scope s.heap.objs.size f cdv)) → sp vs H Q E →
   ∃ t,PSs (cxOf CX P w K mg base N qual scope f cdv A outer s H E) body t ∧ t { nx:=fun _ H'=>Q .non H',rt:=Q } (start N vs) H) :
  FnOk P w K mg base CX (k + 1) f (PySem.W.fnOf name qual params body scope dV kV doc pm an cdv ct) ps sp:=by
 refine ⟨len,fun A outer s H args us vs Q E hr e0 hb r hsp=>?_⟩
 have hl:=len _ _ _ _ hsp
 have KX:K.In s.heap:=e0.mod.kin.keeps fun b o e=>(e0.bs b o e).1
 have lim:s.heap.NoLimit:=e0.mod.nolimit.keeps fun b o e=>(e0.bs b o e).1
 have hkind:∀ y ∈ ps.zip us,scope.names.lookup y.1 = some .local ∨ (scope.names.lookup y.1 = some .cell ∧ ((cellsFrom (s.heap.objs.size + 1) scope.names []).lookup y.1).isSome = true):=fun ⟨n,v⟩ hy=>by
  rcases S.par n (List.of_mem_zip hy).1 with q | q
  ·exact .inl q
  ·exact .inr ⟨q,PySem.W.cellsFrom_some _ _ _ (.inl q)⟩
 refine codeAny_call_function hr.depth (KX _ _ lk) rfl S.co S.gen rfl (PySem.W.codeRec_of KX hcd) (hb _ _ _ _ ?_)
 refine wpAny_newFunctionEnv_cells S.kind hkind fun env he s1 x=>?_
 subst he
 refine ⟨lim.keeps x.toInCall.keep,codeAny_func ?_⟩
 obtain ⟨t,ht,hq⟩:=hbody A outer s H vs Q E (hr.deeper _) hsp
 have I:Inv (cxOf CX P w K mg base N qual scope f cdv A outer s H E) [] (start N vs) H s1:=ajp S hr.hd e0 hl r x
 refine wpAny_mono (ht [] s1 (start N vs) H _ I hq) (fun fl s' hs=>?_) fun e s' hs=>hs
 have fin:∀ {σ':St} {H':Hp} {v:V} {u:Value},Inv (cxOf CX P w K mg base N qual scope f cdv A outer s H E) [] σ' H' s' → RelV v u → Q v H' → CE outer P w H s Q u s' :=
  fun {σ' H' v u} J rv q=>⟨v,H',J.os,J.bare,J.base,J.hok,rv,q⟩
 cases fl with
 | ret u =>
  obtain ⟨v,σ',H',J,rv,q⟩:=hs
  exact fin J rv q
 | next =>
  obtain ⟨σ',H',J,q⟩:=hs
  exact fin (v:=V.non) (u:=Value.none) J rfl q
 | brk =>
  obtain ⟨_,_,_,q⟩:=hs
  exact False.elim q
 | cont =>
  obtain ⟨_,_,_,q⟩:=hs
  exact False.elim q
end L2
namespace L2
open PySem PySem.Spec PyProof.Rows
section
variable {X:Cx} {x:Str} {p pos:Pos} {e:Expr} {es:List Expr} {t:TA} {id T:String} {r:List V → Hp → VK → Prop}
def tCB (r:List V → Hp → VK → Prop) (t:TA):TE:=fun σ H Q=>t σ H fun vs H1=>r vs H1 Q
theorem agq (hc:ad4 X (.builtin id) r) (hg:Gl X x) (hm:X.mg x = none) (hv:bootBuiltins x = some (.builtin id)) (ha:PA X (e :: es) t) (hn:x ≠ "__name__":=by decide) (hdb:(x == ("__debug__":Str)) = false:=by decide)
  (he:starEach (e :: es) X.env = (false,eval e X.env) :: starEach es X.env:=by rfl) (hpl:(backTo pos (starEach es X.env)).any (·.1) = false:=by rfl):PE X (.Call (.Name x p) (e :: es) [] pos) (tCB r t):=by
 intro pins s σ H Q I h
 refine wpAny_Call_Name_kw (afg I hg hm hv ?_ hn hdb)
 exact PyProof.Rows.callWith_builtin1 (thn (ha pos pins s σ H _ I h) fun us s1 ⟨vs,H1,I1,r1,q1⟩=>hc pins s1 σ H1 vs us Q I1 r1 q1) he hpl
theorem ae7 (hc:ad4 X (.type T) r) (hg:Gl X x) (hm:X.mg x = none) (hv:bootBuiltins x = some (.type T)) (ha:PA X (e :: es) t) (hn:x ≠ "__name__":=by decide) (hdb:(x == ("__debug__":Str)) = false:=by decide)
  (he:starEach (e :: es) X.env = (false,eval e X.env) :: starEach es X.env:=by rfl) (hpl:(backTo pos (starEach es X.env)).any (·.1) = false:=by rfl):PE X (.Call (.Name x p) (e :: es) [] pos) (tCB r t):=by
 intro pins s σ H Q I h
 refine wpAny_Call_Name_kw (afg I hg hm hv ?_ hn hdb)
 exact PyProof.Rows.callWith_type1 (thn (ha pos pins s σ H _ I h) fun us s1 ⟨vs,H1,I1,r1,q1⟩=>hc pins s1 σ H1 vs us Q I1 r1 q1) he hpl
end
end L2
namespace HT
open PySem PyProof.Rows
def lexLt:List Int → List Int → Bool
 | [],[]=>false
 | [],_ :: _=>true
 | _ :: _,[]=>false
 | x :: xs,y :: ys=>if x = y then lexLt xs ys else decide (x < y)
theorem lexLt_cons (x y:Int) (xs ys:List Int):lexLt (x :: xs) (y :: ys) = if x = y then lexLt xs ys else decide (x < y):=rfl
section
open PySem.SeqAt
open PySem.AutoSeq1 (wpAny_loadPart')
open PySem.MeetsSeq PySem.MeetsSeq2 PySem.MeetsSeq3
end
section
variable {prog:Program} {w:World} {A:Around} {E:Value → Shared → Prop} {s:Shared}
theorem cat_tup {t b:Addr} {vs ws:List Value} {Q:Value → Shared → Prop} (ht:IsTup s.heap t vs.toArray) (hb:IsTup s.heap b ws.toArray) (hv:vs ≠ [])
  (h1:ws = [] → Q (.ref t) s) (h2:ws ≠ [] → Q (.ref s.heap.objs.size) { s with heap:=s.heap.push { cls:=.type "tuple",data:=.seq (vs ++ ws).toArray } })
  (hsz:vs.length + ws.length ≤ sizeLine):wpAny (model prog w) A (binaryOp .Add (.ref t) (.ref b)) Q E s:=by
 obtain ⟨⟨cls,dd,data,sl⟩,ho,hc,n,hd⟩:=id ht
 obtain ⟨⟨cls2,dd2,data2,sl2⟩,ho2,hc2,n2,hd2⟩:=id hb
 simp only at hc hd hc2 hd2
 subst hc hd hc2 hd2
 have e:vs.toArray ++ ws.toArray = (vs ++ ws).toArray:=by simp
 by_cases hw:ws = []
 ·exact concat_meets ⟨_,ho,rfl⟩ ⟨_,ho2,rfl⟩ noFill_tuple_add seq_tuple_add PySem.F.slot_tuple_add PySem.F.entry_tuple_add (PySem.F.args_tuple_add_2 _ _)
   (tuple_addW1 t b vs.toArray ws.toArray n n2 dd dd2 sl sl2 (by simpa using hv) (by simp [hw])) ⟨ho,ho2,h1 hw⟩
 ·refine concat_meets ⟨_,ho,rfl⟩ ⟨_,ho2,rfl⟩ noFill_tuple_add seq_tuple_add PySem.F.slot_tuple_add PySem.F.entry_tuple_add (PySem.F.args_tuple_add_2 _ _)
   (tuple_addW2 t b vs.toArray ws.toArray n n2 dd dd2 sl sl2 (by simpa using hv) (by simpa using hw) (by rw [List.size_toArray,List.size_toArray]; exact hsz)) ⟨ho,ho2,?_⟩
  rw [e]
  exact h2 hw
def sIx (n d:Nat):Option Int → Nat
 | none=>d
 | some v=>if v < 0 then (v + (n:Int)).toNat else min v.toNat n
theorem sIx_nat (n d k:Nat):sIx n d (some (k:Int)) = min k n:=by
 show (if (k:Int) < 0 then ((k:Int) + (n:Int)).toNat else min (k:Int).toNat n) = min k n
 rw [if_neg (by omega),Int.toNat_natCast]
theorem an2 (n d:Nat) (hd:d ≤ n) (o:Option Int):sIx n d o ≤ n:=by
 cases o with
 | none=>exact hd
 | some v =>
  show (if v < 0 then (v + (n:Int)).toNat else min v.toNat n) ≤ n
  by_cases hv:v < 0
  ·rw [if_pos hv]; omega
  ·rw [if_neg hv]; exact Nat.min_le_right _ _
theorem akm (v:Int) (n d:Nat):(if v < 0 then max (v + (n:Int)) 0 else min v (n:Int)) = ((sIx n d (some v):Nat):Int):=by
 show (if v < 0 then max (v + (n:Int)) 0 else min v (n:Int)) = (((if v < 0 then (v + (n:Int)).toNat else min v.toNat n):Nat):Int)
 by_cases hv:v < 0
 ·simp only [if_pos hv]; omega
 ·simp only [if_neg hv]; omega
theorem aje (lo hi:Option Int) (n:Nat):Builtin.Slice.sliceAdjust lo hi 1 (n:Int) = (((sIx n 0 lo:Nat):Int),((sIx n n hi:Nat):Int)):=by
 have h1:¬ ((1:Int) < 0):=by omega
 unfold Builtin.Slice.sliceAdjust
 simp only [h1,if_false]
 refine Prod.ext ?_ ?_
 ·cases lo with
  | none=>rfl
  | some v=>exact akm v n 0
 ·cases hi with
  | none=>rfl
  | some v=>exact akm v n n
theorem aiW (i j:Nat):Builtin.Slice.slicePlaces (i:Int) (j:Int) 1 = j - i:=by
 unfold Builtin.Slice.slicePlaces
 have h1:(1:Int) > 0:=by omega
 simp only [h1,if_true,Int.ediv_one]
 split <;> omega
theorem afW {v:Value} {o:Option Int} {Q:Option Int → Shared → Prop} (p:IsPart v o) (h:Q o s):wpAny (model prog w) A (Builtin.Slice.slicePartIndex v) Q E s:=by
 cases p with
 | none=>exact slicePart_none h
 | int i t=>exact slicePart_int h
theorem aeD {sl:Addr} {vl vu:Value} {lo hi:Option Int} {n:Nat} {Q:Int × Int × Nat → Shared → Prop} (hs:s.heap.IsSliceOf sl vl vu .none) (pl:IsPart vl lo) (pu:IsPart vu hi)
  (h:Q (((sIx n 0 lo:Nat):Int),1,sIx n n hi - sIx n 0 lo) s):wpAny (model prog w) A (Builtin.Slice.sliceApplied (.ref sl) (pure (n:Int))) Q E s:=by
 obtain ⟨os,hos,hcs,hds⟩:=id hs
 unfold Builtin.Slice.sliceApplied Builtin.Slice.sliceFields
 refine wpAny_bind (wpAny_bind (wpAny_field hos hds (x:=vl) rfl (wpAny_bind (wpAny_field hos hds (x:=vu) rfl (wpAny_bind (wpAny_field hos hds (x:=.none) rfl (wpAny_pure ?_)))))))
 refine wpAny_bind (slicePart_none ?_)
 show wpAny _ _ (if ((1:Int) == 0) = true then _ else _) _ _ s
 rw [if_neg (by decide)]
 refine wpAny_bind (afW pl (wpAny_bind (afW pu (wpAny_bind (wpAny_pure ?_)))))
 show wpAny _ _ (match Builtin.Slice.sliceAdjust lo hi 1 (n:Int) with | (lo,hi)=>pure (lo,(1:Int),Builtin.Slice.slicePlaces lo hi 1)) _ _ s
 rw [aje lo hi n]
 show wpAny _ _ (pure (((sIx n 0 lo:Nat):Int),(1:Int),Builtin.Slice.slicePlaces ((sIx n 0 lo:Nat):Int) ((sIx n n hi:Nat):Int) 1)) _ _ s
 rw [aiW]
 exact wpAny_pure h
theorem alh (xs:Array Value) (i k:Nat):((List.range k).filterMap fun (m:Nat)=>xs[((i:Int) + (m:Int) * 1).toNat]?).toArray = ((xs.toList.drop i).take k).toArray:=by
 have e:(fun (m:Nat)=>xs[((i:Int) + (m:Int) * 1).toNat]?) = fun m=>xs[i + m]?:=by
  funext m
  have:((i:Int) + (m:Int) * 1).toNat = i + m:=by omega
  rw [this]
 rw [e]
 have:=pick_run xs i k
 rw [List.filterMap_map] at this
 have e2:((fun x=>xs[x]?) ∘ fun x=>i + x) = fun m=>xs[i + m]?:=rfl
 rw [e2] at this
 rw [this]
theorem getItem_tuple_cut {t sl:Addr} {items:Array Value} {vl vu:Value} {lo hi:Option Int} {Q:Value → Shared → Prop} (ht:IsTup s.heap t items) (hs:s.heap.IsSliceOf sl vl vu .none) (pl:IsPart vl lo) (pu:IsPart vu hi)
  (hw:¬ (sIx items.size 0 lo = 0 ∧ sIx items.size items.size hi = items.size))
  (h:Q (.ref s.heap.objs.size) { s with heap:=s.heap.push { cls:=.type "tuple",data:=.seq ((items.toList.drop (sIx items.size 0 lo)).take (sIx items.size items.size hi - sIx items.size 0 lo)).toArray } })
  (hsz:items.size ≤ sizeLine):wpAny (model prog w) A (getItem (.ref t) (.ref sl)) Q E s:=by
 have htake:sizeOk (.seq ((items.toList.drop (sIx items.size 0 lo)).take (sIx items.size items.size hi - sIx items.size 0 lo)).toArray):=by
  show ((items.toList.drop (sIx items.size 0 lo)).take (sIx items.size items.size hi - sIx items.size 0 lo)).toArray.size ≤ sizeLine
  rw [List.size_toArray,List.length_take,List.length_drop,Array.length_toList]
  omega
 have hj:sIx items.size items.size hi ≤ items.size:=an2 _ _ (Nat.le_refl _) hi
 obtain ⟨os,hos,hcs,hds⟩:=id hs
 have hTs:s.TypeIs (.ref sl) "slice":=⟨os,hos,hcs⟩
 unfold getItem
 try with_reducible refine wpAny_holding ?_
 first | refine wpAny_bind (wpAny_pure ?_) | skip
 refine wpAny_bind (wpAny_sequenceKey ht.typeIs (by decide) ?_)
 refine wpAny_bind (wpAny_callSpecial?_slot (name:=Str.ofString "__getitem__") ht.typeIs PyProof.Rows.slot_tuple_getitem
  (wpAny_call_entry PyProof.Rows.slot_tuple_getitem ht.typeIs entry_tuple_getitem ?_ (args_tuple_getitem _ _)))
 show wpAny _ _ (Builtin.Tuple.tupleItemsOf (.ref t) >>= _) _ _ s
 refine wpAny_bind (tupleItemsOf_ ht ?_)
 refine wpAny_bind (wpAny_typeOf hTs ?_)
 rw [if_pos (by decide)]
 refine wpAny_bind (aeD hs pl pu ?_)
 have hno:¬ ((((sIx items.size 0 lo:Nat):Int) == 0 && (1:Int) == 1 && (sIx items.size items.size hi - sIx items.size 0 lo) == items.size) = true):=by
  intro q
  rw [Bool.and_eq_true,Bool.and_eq_true] at q
  have q1:((sIx items.size 0 lo:Nat):Int) = 0:=eq_of_beq q.1.1
  have q2:sIx items.size items.size hi - sIx items.size 0 lo = items.size:=eq_of_beq q.2
  exact hw ⟨by omega,by omega⟩
 show wpAny _ _ (if (((sIx items.size 0 lo:Nat):Int) == 0 && (1:Int) == 1 && (sIx items.size items.size hi - sIx items.size 0 lo) == items.size) = true then _ else _) _ _ s
 rw [if_neg hno,alh]
 first
  | exact wpAny_bind (m:=Builtin.Tuple.tupleExact _) (wpAny_newObj_type (wpAny_pure ⟨_,rfl,wpAny_pure h⟩) htake)
  | exact wpAny_bind (m:=Builtin.Tuple.tupleExact _) (wpAny_newObj_type (wpAny_bind (wpAny_pure (wpAny_pure ⟨_,rfl,wpAny_pure h⟩))) htake)
  | exact wpAny_bind (wpAny_bind (m:=Builtin.Tuple.tupleExact _) (wpAny_newObj_type (wpAny_pure (wpAny_pure ⟨_,rfl,wpAny_pure h⟩)) htake))
  | exact wpAny_bind (wpAny_bind (m:=Builtin.Tuple.tupleExact _) (wpAny_newObj_type (wpAny_pure ⟨_,rfl,wpAny_pure h⟩) htake))
end
end HT
namespace L2
open PySem PySem.Spec PyProof.Rows
abbrev TO:=St → Hp → (Option Int → Hp → Prop) → Prop
def PO (X:Cx) (e:Option Expr) (t:TO):Prop :=
 ∀ (pins:List (Addr × Obj)) (s:Shared) (σ:St) (H:Hp) (Q:Option Int → Hp → Prop),Inv X pins σ H s → t σ H Q →
  wpAny (model X.prog X.w) X.A (evalPart e X.env) (fun u s'=>∃ o H',Inv X pins σ H' s' ∧ IsPart u o ∧ Q o H') X.xe s
def anF:TO:=fun _ H Q=>Q none H
def apY (t:TE):TO:=fun σ H Q=>t σ H fun x H1=>∃ i,x = .int i ∧ Q (some i) H1
section
variable {X:Cx} {e:Expr} {te:TE} {lo hi:Option Expr} {tl th:TO} {pos p2:Pos}
theorem anH:PO X none anF:=by
 intro pins s σ H Q I h
 rw [evalPart_none]
 exact wpAny_pure ⟨none,H,I,.none,h⟩
theorem anw (h:PE X e te):PO X (some e) (apY te):=by
 intro pins s σ H Q I hw
 rw [evalPart_some]
 refine thn (h pins s σ H _ I hw) fun u s1 ⟨x,H1,I1,r1,q1⟩=>?_
 obtain ⟨i,rfl,q⟩:=q1
 obtain ⟨t,rfl⟩:=r1
 exact ⟨some i,H1,I1,.int i t,q⟩
def SlR (X:Cx) (r:V → Option Int → Option Int → Hp → VK → Prop):Prop :=
 ∀ (pins:List (Addr × Obj)) (s:Shared) (σ:St) (H:Hp) (x:V) (v vl vu:Value) (lo hi:Option Int) (sl:Addr) (Q:VK),Inv X pins σ H s → RelV x v → s.heap.IsSliceOf sl vl vu .none → IsPart vl lo → IsPart vu hi → r x lo hi H Q →
  ∃ T id,typeLookup (.type T) "__getitem__" = pure (some (.builtin id)) ∧ s.TypeIs v T ∧ wpAny (model X.prog X.w) X.A (getItem v (.ref sl)) (EP X pins σ Q) X.xe s
theorem SlR.or {r r':V → Option Int → Option Int → Hp → VK → Prop} (h:SlR X r) (h':SlR X r'):SlR X (fun x lo hi H Q=>r x lo hi H Q ∨ r' x lo hi H Q):=by
 intro pins s σ H x v vl vu lo hi sl Q I rx hs pl pu q
 rcases q with q | q
 ·exact h pins s σ H x v vl vu lo hi sl Q I rx hs pl pu q
 ·exact h' pins s σ H x v vl vu lo hi sl Q I rx hs pl pu q
def tSl (r:V → Option Int → Option Int → Hp → VK → Prop) (te:TE) (tl th:TO):TE:=fun σ H Q=>te σ H fun x H1=>tl σ H1 fun l H2=>th σ H2 fun u H3=>r x l u H3 Q
theorem alP {r:V → Option Int → Option Int → Hp → VK → Prop} (hr:SlR X r) (he:PE X e te) (hl:PO X lo tl) (hu:PO X hi th):PE X (.Subscript e (.Slice lo hi none p2) pos) (tSl r te tl th):=by
 intro pins s σ H Q I h
 refine Subscript_ (thn (he pins s σ H _ I h) fun v s1 ⟨x,H1,I1,r1,q1⟩=>?_)
 refine wpAny_Slice (thn (hl pins s1 σ H1 _ I1 q1) fun vl s2 ⟨l,H2,I2,pl,q2⟩=>thn (hu pins s2 σ H2 _ I2 q2) fun vu s3 ⟨u,H3,I3,pu,q3⟩=>?_)
 rw [evalPart_none]
 refine wpAny_pure ?_
 have I4:Inv X pins σ H3 { s3 with heap:=s3.heap.push { cls:=.type "slice",data:=.fields #[vl,vu,.none] } }:=I3.kept (t':=s3.toks) fun b ob q=>Heap.get?_push_of_some _ q
 obtain ⟨T,id,hT,ht,hg⟩:=hr pins { s3 with heap:=s3.heap.push { cls:=.type "slice",data:=.fields #[vl,vu,.none] } } σ H3 x v vl vu l u s3.heap.objs.size Q I4 r1 (Heap.IsSliceOf.new ..) pl pu q3
 show wpAny (model X.prog X.w) X.A (subscriptTail e (.Slice lo hi none p2) v (.ref s3.heap.objs.size)) (EP X pins σ Q) X.xe { s3 with heap:=s3.heap.push { cls:=.type "slice",data:=.fields #[vl,vu,.none] } }
 exact tail_any (ops:=[.ref s3.heap.objs.size,v]) ht hT hg (by with_unfolding_all rfl)
def cutV (xs:List V) (lo hi:Option Int):List V:=(xs.drop (HT.sIx xs.length 0 lo)).take (HT.sIx xs.length xs.length hi - HT.sIx xs.length 0 lo)
theorem ac4 (xs:List V) (lo hi:Option Int):(cutV xs lo hi).length ≤ xs.length:=by
 unfold cutV
 rw [List.length_take,List.length_drop]
 omega
def rSlT (K:PySem.W.Frag):V → Option Int → Option Int → Hp → VK → Prop:=fun x lo hi H Q=>∃ a xs,x = .ref a ∧ SqT K H a xs ∧
 ¬ (HT.sIx xs.length 0 lo = 0 ∧ HT.sIx xs.length xs.length hi = xs.length) ∧ ∀ p,H p = none → Q (.ref p) (upd H p (.tup (cutV xs lo hi)))
theorem aom:SlR X (rSlT X.K):=by
 intro pins s σ H x v vl vu lo hi sl Q I rx hs pl pu h
 obtain ⟨a,xs,rfl,hx,hw,q⟩:=h
 cases rx
 obtain ⟨its,r,ht,hz⟩:=I.tuple hx
 have hlen:its.toArray.size = xs.length:=by rw [List.size_toArray]; exact r.length.symm
 refine ⟨"tuple",_,PyProof.Rows.slot_tuple_getitem.lookup,ht.typeIs,?_⟩
 refine HT.getItem_tuple_cut ht hs pl pu (by rw [hlen]; exact hw) ?_ (by rw [hlen]; exact hz)
 rw [hlen]
 refine ⟨.ref s.heap.objs.size,_,I.laid (t':=s.toks) (o:=.tup (cutV xs lo hi)) (fun b ob q=>Heap.get?_push_of_some _ q) (Nat.le_refl _) ?_,rfl,q _ (I.hok.fresh (Nat.le_refl _))⟩
 exact ⟨Nat.le_trans (ac4 xs lo hi) hz,_,(r.drop (HT.sIx xs.length 0 lo)).take (HT.sIx xs.length xs.length hi - HT.sIx xs.length 0 lo),IsTup.new _ _⟩
def an4 (K:PySem.W.Frag):R2:=fun x y H Q=>∃ a b xs ys,x = .ref a ∧ y = .ref b ∧ SqT K H a xs ∧ SqT K H b ys ∧ xs ≠ [] ∧ xs.length + ys.length ≤ sizeLine ∧
 (ys = [] → Q (.ref a) H) ∧ (ys ≠ [] → ∀ p,H p = none → Q (.ref p) (upd H p (.tup (xs ++ ys))))
theorem Vals.nil_iff {xs:List V} {us:List Value} (r:Vals xs us):us = [] ↔ xs = []:=by
 cases r with
 | nil=>simp
 | cons _ _=>simp
theorem amU:OpR X (binaryOp .Add) (an4 X.K):=by
 intro pins s σ H x y v u Q I rx ry h
 obtain ⟨a,b,xs,ys,rfl,rfl,ha,hb,hx,hz,q1,q2⟩:=h
 cases rx
 cases ry
 obtain ⟨its,r1,p1,_⟩:=I.tuple ha
 obtain ⟨its2,r2,p2,_⟩:=I.tuple hb
 refine HT.cat_tup p1 p2 (fun z=>hx (r1.nil_iff.mp z)) (fun z=>⟨.ref a,H,I,rfl,q1 (r2.nil_iff.mp z)⟩) (fun z=>?_) (by rw [← r1.length,← r2.length]; exact hz)
 refine ⟨.ref s.heap.objs.size,_,I.laid (t':=s.toks) (o:=.tup (xs ++ ys)) (fun b ob q=>Heap.get?_push_of_some _ q) (Nat.le_refl _) ?_,rfl,q2 (fun w=>z (r2.nil_iff.mpr w)) _ (I.hok.fresh (Nat.le_refl _))⟩
 exact ⟨by rw [List.length_append]; exact hz,_,r1.append r2,IsTup.new _ _⟩
end
end L2
namespace L2
open PySem PySem.Spec PyProof.Rows
def ixN (n:Nat) (i:Int):Option Nat:=if 0 ≤ i then (if i < n then some i.toNat else none) else if -(n:Int) ≤ i then some (i + n).toNat else none
def atI {α:Type} (xs:List α) (i:Int):Option α:=(ixN xs.length i).bind fun j=>xs[j]?
theorem akz {n:Nat} {i:Int} {j:Nat} (h:ixN n i = some j):seqIndex? i n = some j ∧ j < n ∧ -(n:Int) ≤ i ∧ i < n:=by
 unfold ixN at h
 by_cases h0:0 ≤ i
 ·rw [if_pos h0] at h
  by_cases h1:i < n
  ·rw [if_pos h1] at h
   have e:i.toNat = j:=Option.some.inj h
   exact ⟨by rw [seqIndex_of h0 h1,e],by omega,by omega,h1⟩
  ·rw [if_neg h1] at h; cases h
 ·rw [if_neg h0] at h
  by_cases h1:-(n:Int) ≤ i
  ·rw [if_pos h1] at h
   have e:(i + n).toNat = j:=Option.some.inj h
   exact ⟨by rw [seqIndex_neg (by omega) h1,e],by omega,h1,by omega⟩
  ·rw [if_neg h1] at h; cases h
theorem ahp {α:Type} {xs:List α} {i:Int} {v:α} (h:atI xs i = some v):∃ j,seqIndex? i xs.length = some j ∧ xs[j]? = some v ∧ j < xs.length ∧ -(xs.length:Int) ≤ i ∧ i < xs.length:=by
 unfold atI at h
 cases e:ixN xs.length i with
 | none=>rw [e] at h; cases h
 | some j =>
  rw [e] at h
  obtain ⟨h1,h2,h3,h4⟩:=akz e
  exact ⟨j,h1,h,h2,h3,h4⟩
theorem ant {α:Type} {xs:List α} {j:Nat} {v:α} (h:xs[j]? = some v):atI xs (j:Int) = some v:=by
 have hj:j < xs.length:=(List.getElem?_eq_some_iff.mp h).1
 have e:ixN xs.length (j:Int) = some j:=by
  unfold ixN
  rw [if_pos (by omega),if_pos (by omega)]; simp
 unfold atI; rw [e]; exact h
theorem alO {α:Type} (xs:List α) (v:α):atI (xs ++ [v]) (-1) = some v:=by
 have hl:(xs ++ [v]).length = xs.length + 1:=by simp
 have e:ixN (xs ++ [v]).length (-1) = some xs.length:=by
  unfold ixN
  rw [hl,if_neg (by decide),if_pos (by omega)]
  congr 1
  omega
 unfold atI
 rw [e]
 show (xs ++ [v])[xs.length]? = some v
 simp
def ahv (b:Expr):Prop:=∀ o i,subscripted b false o i = operate [o,i] (getItem o i)
def IxR (X:Cx) (r:R2):Prop :=
 ∀ (value slice:Expr) (pins:List (Addr × Obj)) (s:Shared) (σ:St) (H:Hp) (x y:V) (v u:Value) (Q:VK),Inv X pins σ H s → RelV x v → RelV y u → r x y H Q →
  subscripted slice false v u = operate [v,u] (getItem v u) → wpAny (model X.prog X.w) X.A (subscriptTail value slice v u) (EP X pins σ Q) X.xe s
def MtR (X:Cx) (id:String) (r:V → List V → Hp → VK → Prop):Prop :=
 ∀ (pins:List (Addr × Obj)) (s:Shared) (σ:St) (H:Hp) (x:V) (xs:List V) (v:Value) (us:List Value) (Q:VK),Inv X pins σ H s → RelV x v → Vals xs us → r x xs H Q →
  wpAny (model X.prog X.w) X.A (call (.builtin id) (v :: us)) (EP X pins σ Q) X.xe s
section
variable {X:Cx} {a b:Expr} {ta tb:TE} {pos:Pos}
theorem IxR.or {r r':R2} (h:IxR X r) (h':IxR X r'):IxR X (fun x y H Q=>r x y H Q ∨ r' x y H Q):=by
 intro value slice pins s σ H x y v u Q I rx ry q hs
 rcases q with q | q
 ·exact h value slice pins s σ H x y v u Q I rx ry q hs
 ·exact h' value slice pins s σ H x y v u Q I rx ry q hs
theorem ao2 {r:R2} (hr:IxR X r) (ha:PE X a ta) (hb:PE X b tb) (hs:ahv b):PE X (.Subscript a b pos) (tOp r ta tb):=by
 intro pins s σ H Q I h
 exact Subscript_ (binT ha hb I h fun v u s2 x y H2 I2 rx ry q=>hr a b pins s2 σ H2 x y v u Q I2 rx ry q (hs _ _))
def rIxL (K:PySem.W.Frag):R2:=fun x y H Q=>∃ p xs i v,x = .ref p ∧ y = .int i ∧ SqL K H p xs ∧ atI xs i = some v ∧ Q v H
def rIxT (K:PySem.W.Frag):R2:=fun x y H Q=>∃ p xs i v,x = .ref p ∧ y = .int i ∧ SqT K H p xs ∧ atI xs i = some v ∧ Q v H
def rIxS:R2:=fun x y H Q=>∃ z i c,x = .str z ∧ y = .int i ∧ z.length ≤ sizeLine ∧ atI z.cps.toList i = some c ∧ Q (.str ⟨#[c]⟩) H
theorem anQ:IxR X (rIxL X.K):=by
 intro value slice pins s σ H x y v u Q I rx ry h hs
 obtain ⟨p,xs,i,z,rfl,rfl,hq,he,q⟩:=h
 cases rx
 obtain ⟨t,rfl⟩:=ry
 obtain ⟨its,r,pl,hz⟩:=I.list hq
 obtain ⟨j,h1,h2,h3,h4,h5⟩:=ahp he
 obtain ⟨w,ew,rw'⟩:=r.get h2
 have hl:=r.length
 have hn:=ag4
 have fin:EP X pins σ Q w s:=⟨z,H,I,rw',q⟩
 by_cases h0:0 ≤ i
 ·have hj:i.toNat = j:=by
   rw [seqIndex_of h0 h5] at h1
   exact Option.some.inj h1
  exact item_listR pl.isList h0 (by omega) (by rw [hj]; simpa using ew) fin hs
 ·have hj:(i + (its.toArray.size:Int)).toNat = j:=by
   rw [seqIndex_neg (by omega) h4] at h1
   rw [List.size_toArray,← hl]
   exact Option.some.inj h1
  exact subscriptTail_builtinR (x:=w) pl.isList.typeIs slot_list_getitem.lookup
   (wpAny_getItem_list_neg (Q:=fun r s'=>r = w ∧ EP X pins σ Q r s') pl.isList (by omega) (by rw [List.size_toArray] <;> omega) (by omega) (by rw [hj]; simpa using ew) ⟨rfl,fin⟩) hs
theorem aoP:IxR X (rIxT X.K):=by
 intro value slice pins s σ H x y v u Q I rx ry h hs
 obtain ⟨p,xs,i,z,rfl,rfl,hq,he,q⟩:=h
 cases rx
 obtain ⟨t,rfl⟩:=ry
 obtain ⟨its,r,pl,hz⟩:=I.tuple hq
 obtain ⟨j,h1,h2,h3,h4,h5⟩:=ahp he
 obtain ⟨w,ew,rw'⟩:=r.get h2
 have hl:=r.length
 have hn:=ag4
 have fin:EP X pins σ Q w s:=⟨z,H,I,rw',q⟩
 exact subscriptTail_builtinR (x:=w) pl.typeIs slot_tuple_getitem.lookup
  (getItem_tuple (j:=j) (Q:=fun r s'=>r = w ∧ EP X pins σ Q r s') pl (by omega) (by omega) (by rw [List.size_toArray,← hl]; exact h1) (by simpa using ew) ⟨rfl,fin⟩) hs
theorem aof:IxR X rIxS:=by
 intro value slice pins s σ H x y v u Q I rx ry h hs
 obtain ⟨z,i,c,rfl,rfl,hz,he,q⟩:=h
 obtain ⟨t,rfl⟩:=rx
 obtain ⟨t',rfl⟩:=ry
 obtain ⟨j,h1,h2,h3,h4,h5⟩:=ahp he
 have hl:z.cps.toList.length = z.length:=by simp [Str.length]
 rw [hl] at h1 h4 h5
 have hn:=ag4
 exact tail_any (typeIs_str s z t) slot_str_getitem.lookup (getItem_str (c:=c) (by
  have e1:decide (i < -(2 ^ 63:Int)) = false:=decide_eq_false (by omega)
  have e2:decide (i ≥ 2 ^ 63) = false:=decide_eq_false (by omega)
  rw [e1,e2,Bool.or_false]) (by rw [h1]; simpa using h2) ⟨.str ⟨#[c]⟩,H,I.tok _,⟨_,rfl⟩,q⟩) hs
def rIx (K:PySem.W.Frag):R2:=fun x y H Q=>rIxL K x y H Q ∨ rIxT K x y H Q ∨ rIxS x y H Q
theorem amv:IxR X (rIx X.K):=anQ.or (aoP.or aof)
theorem aiU (its:List Value) (n j:Nat) (u:Value):Obj.mapSeq (·.setIfInBounds j u) { cls:=.type "list",data:=.seq its.toArray n } = { cls:=.type "list",data:=.seq (its.set j u).toArray n }:=by
 simp [Obj.mapSeq]
theorem Inv.lst {pins:List (Addr × Obj)} {σ:St} {H:Hp} {s:Shared} {p:Addr} {xs:List V} (I:Inv X pins σ H s) (h:H p = some (.lst xs)) :
  ∃ (its:List Value) (n:Nat),Vals xs its ∧ s.heap.get? p = some { cls:=.type "list",data:=.seq its.toArray n } ∧ xs.length ≤ sizeLine:=by
 obtain ⟨z,its,n,r,e⟩:=I.hok p _ h
 exact ⟨its,n,r,e,z⟩
theorem Inv.lstUpd {pins:List (Addr × Obj)} {σ:St} {H:Hp} {s:Shared} {p:Addr} {xs ys:List V} {its its':List Value} {n n':Nat} {f:Obj → Obj} (I:Inv X pins σ H s) (h:H p = some (.lst xs))
  (ho:s.heap.get? p = some { cls:=.type "list",data:=.seq its.toArray n }) (hf:f { cls:=.type "list",data:=.seq its.toArray n } = { cls:=.type "list",data:=.seq its'.toArray n' }) (r:Vals ys its') (hz:ys.length ≤ sizeLine) (t:Nat) :
  Inv X pins σ (upd H p (.lst ys)) { s with heap:=s.heap.update p f,toks:=t }:=by
 have e:(s.heap.update p f).get? p = some { cls:=.type "list",data:=.seq its'.toArray n' }:=by
  rw [Heap.get?_update_self f ho (by rw [hf] <;> rfl),hf]
 refine I.write (x:=p) (e:=p) (by rw [h]; trivial) (.inl rfl) (fun b u hb q=>(Heap.get?_update_other _ _ (Ne.symm hb)).trans q) ⟨_,e⟩ ?_
 exact ⟨hz,its',n',r,e⟩
def apI:V → V → V → Hp → (Hp → Prop) → Prop:=fun o i v H Q=>∃ p xs k j,o = .ref p ∧ i = .int k ∧ H p = some (.lst xs) ∧ ixN xs.length k = some j ∧ Q (upd H p (.lst (xs.set j v)))
theorem ah8:PSet X apI:=by
 intro pins s σ H o i v ov iv u Q I ro ri rv h
 obtain ⟨p,xs,k,j,rfl,rfl,hp,hj,q⟩:=h
 cases ro
 obtain ⟨t,rfl⟩:=ri
 obtain ⟨its,n,r,ho,hz⟩:=I.lst hp
 obtain ⟨h1,h2,h3,h4⟩:=akz hj
 have hl:=r.length
 have hn:=ag4
 have I':Inv X pins σ (upd H p (.lst (xs.set j v))) { s with heap:=s.heap.update p (Obj.mapSeq (·.setIfInBounds j u)) } :=
  I.lstUpd hp ho (aiU its n j u) (r.set rv j) (by rw [List.length_set]; exact hz) s.toks
 by_cases h0:0 ≤ k
 ·have hk:k.toNat = j:=by
   rw [seqIndex_of h0 h4] at h1
   exact Option.some.inj h1
  exact PySem.W.ki_setAt ho h0 (by omega) (by rw [List.size_toArray,← hl]; exact h4) (by rw [hk]; exact ⟨_,I',q⟩)
 ·have hk:(k + (its.toArray.size:Int)).toNat = j:=by
   rw [seqIndex_neg (by omega) h3] at h1
   rw [List.size_toArray,← hl]
   exact Option.some.inj h1
  exact PySem.W.ki_setBack ho (by omega) (by rw [List.size_toArray,← hl]; exact h3) (by omega) (by rw [hk]; exact ⟨_,I',q⟩)
theorem agJ (lo hi:Option Int) (n:Nat):(sliceBounds lo hi none n).1 = ((HT.sIx n 0 lo:Nat):Int) ∧ (sliceBounds lo hi none n).2.1 = ((HT.sIx n n hi:Nat):Int) ∧ (sliceBounds lo hi none n).2.2 = 1:=by
 refine ⟨?_,?_,rfl⟩
 ·cases lo with
  | none=>simp [sliceBounds,HT.sIx]
  | some i =>
   simp only [sliceBounds,HT.sIx,Option.getD_none,show (1:Int) > 0 by decide,if_true]
   by_cases h:i < 0
   ·simp only [h,if_true] <;> omega
   ·simp only [h,if_false] <;> omega
 ·cases hi with
  | none=>simp [sliceBounds,HT.sIx]
  | some i =>
   simp only [sliceBounds,HT.sIx,Option.getD_none,show (1:Int) > 0 by decide,if_true]
   by_cases h:i < 0
   ·simp only [h,if_true] <;> omega
   ·simp only [h,if_false] <;> omega
theorem agA (its:List Value) (lo hi:Option Int):slicePick its.toArray lo hi none = ((its.drop (HT.sIx its.length 0 lo)).take (HT.sIx its.length its.length hi - HT.sIx its.length 0 lo)).toArray:=by
 obtain ⟨h1,h2,h3⟩:=agJ lo hi its.toArray.size
 unfold slicePick
 rw [h1,h2,h3]
 simp only [sliceRange_one,pick_run,List.size_toArray] <;> rfl
def rSlL (K:PySem.W.Frag):V → Option Int → Option Int → Hp → VK → Prop:=fun x lo hi H Q=>∃ a xs,x = .ref a ∧ SqL K H a xs ∧ ∀ p,H p = none → Q (.ref p) (upd H p (.lst (cutV xs lo hi)))
theorem amW:SlR X (rSlL X.K):=by
 intro pins s σ H x v vl vu lo hi sl Q I rx hs pl pu h
 obtain ⟨a,xs,rfl,hx,q⟩:=h
 cases rx
 obtain ⟨its,r,ht,hz⟩:=I.list hx
 have hlen:=r.length
 refine ⟨"list",_,slot_list_getitem.lookup,ht.isList.typeIs,?_⟩
 refine wpAny_getItem_list_slice ht.isList hs pl pu .none (by simp) ?_ (by rw [List.size_toArray] <;> omega)
 rw [agA,← hlen]
 refine ⟨.ref s.heap.objs.size,_,I.laid (t':=s.toks) (o:=.lst (cutV xs lo hi)) (fun b ob q=>Heap.get?_push_of_some _ q) (Nat.le_refl _) ?_,rfl,q _ (I.hok.fresh (Nat.le_refl _))⟩
 exact ⟨Nat.le_trans (ac4 xs lo hi) hz,_,0,(r.drop (HT.sIx xs.length 0 lo)).take (HT.sIx xs.length xs.length hi - HT.sIx xs.length 0 lo),Heap.get?_push_size _ rfl⟩
theorem aa8:ad4 X (.builtin "len") (fun xs H Q=>∃ p ys,xs = [.ref p] ∧ (SqL X.K H p ys ∨ SqT X.K H p ys) ∧ Q (.int ys.length) H):=by
 intro pins s σ H xs us Q I r h
 obtain ⟨p,ys,rfl,hq,q⟩:=h
 obtain ⟨u,rfl,rx⟩:=afr r
 cases rx
 have hn:=ag4
 rcases hq with hq | hq
 ·obtain ⟨its,r',pl,hz⟩:=I.list hq
  have hlen:=r'.length
  exact Calls.call_len_list pl.isList (by simp only [List.size_toArray] <;> omega) ⟨.int ys.length,H,I.tok _,⟨s.toks + 1,by rw [List.size_toArray,hlen]⟩,q⟩
 ·obtain ⟨its,r',pl,hz⟩:=I.tuple hq
  have hlen:=r'.length
  exact len_tuple pl (by simp only [List.size_toArray] <;> omega) ⟨.int ys.length,H,I.tok _,⟨s.toks + 1,by rw [List.size_toArray,hlen]⟩,q⟩
theorem abX:ad4 X (.type "list") (fun xs H Q=>∃ p ys,xs = [.ref p] ∧ (SqL X.K H p ys ∨ SqT X.K H p ys) ∧ ∀ l,H l = none → Q (.ref l) (upd H l (.lst ys))):=by
 intro pins s σ H xs us Q I r h
 obtain ⟨p,ys,rfl,hq,q⟩:=h
 obtain ⟨u,rfl,rx⟩:=afr r
 cases rx
 have fin:∀ (its:List Value),Vals ys its → ys.length ≤ sizeLine → ∀ (h':Heap) (c':Nat),(∀ b o',s.heap.get? b = some o' → h'.get? b = some o') →
   h'.get? s.heap.objs.size = some { cls:=.type "list",dict:=none,data:=.seq its.toArray c',slots:=#[] } → EP X pins σ Q (.ref s.heap.objs.size) { s with heap:=h' }:=fun its r' hz h' c' kp e =>
  ⟨.ref s.heap.objs.size,_,I.laid (t':=s.toks) kp (Nat.le_refl _) (show acx X.prog X.w _ h' _ (.lst ys) from ⟨hz,its,c',r',e⟩),rfl,q _ (I.hok.fresh (Nat.le_refl _))⟩
 rcases hq with hq | hq
 ·obtain ⟨its,r',pl,hz⟩:=I.list hq
  have hlen:=r'.length
  obtain ⟨o,ho,hc,n,hd⟩:=pl.isList
  exact call_list_seq p (.inl rfl) ho hc hd (fun h' c' kp e=>fin its r' hz h' c' kp e) (by simp only [List.size_toArray] <;> omega)
 ·obtain ⟨its,r',pl,hz⟩:=I.tuple hq
  have hlen:=r'.length
  obtain ⟨o,ho,hc,n,hd⟩:=pl
  exact call_list_seq p (.inr rfl) ho hc hd (fun h' c' kp e=>fin its r' hz h' c' kp e) (by simp only [List.size_toArray] <;> omega)
theorem abC:ad4 X (.type "tuple") (fun xs H Q=>∃ p ys,xs = [.ref p] ∧ ((SqL X.K H p ys ∧ ∀ l,H l = none → Q (.ref l) (upd H l (.tup ys))) ∨ (SqT X.K H p ys ∧ Q (.ref p) H))):=by
 intro pins s σ H xs us Q I r h
 obtain ⟨p,ys,rfl,h⟩:=h
 obtain ⟨u,rfl,rx⟩:=afr r
 cases rx
 rcases h with ⟨hq,q⟩ | ⟨hq,q⟩
 ·obtain ⟨its,r',pl,hz⟩:=I.list hq
  have hlen:=r'.length
  refine call_tuple_list pl.isList (fun h' kp=>?_) (by simp only [List.size_toArray] <;> omega)
  have I1:Inv X pins σ H { s with heap:=h' }:=I.kept (t':=s.toks) kp
  have I2:Inv X pins σ (upd H h'.objs.size (.tup ys)) { s with heap:=h'.push { cls:=.type "tuple",data:=.seq its.toArray } } :=
   I1.laid (t':=s.toks) (fun b o e=>Heap.get?_push_of_some _ e) (Nat.le_refl _) (show acx X.prog X.w _ _ _ (.tup ys) from ⟨hz,its,r',IsTup.new _ _⟩)
  exact ⟨.ref h'.objs.size,_,I2,rfl,q _ (I1.hok.fresh (Nat.le_refl _))⟩
 ·obtain ⟨its,r',pl,hz⟩:=I.tuple hq
  exact call_tuple_same pl ⟨.ref p,H,I,rfl,q⟩
def tyV (K:PySem.W.Frag) (T:String) (x:V) (H:Hp):Prop:=match x with
 | .str _=>T = "str"
 | .int _=>T = "int"
 | .ref p=>(T = "list" ∧ ∃ xs,SqL K H p xs) ∨ (T = "tuple" ∧ ∃ o,K.lookup p = some o ∧ o.cls = .type "tuple" ∧ o.dict = none) ∨
   (T = "dict" ∧ ((∃ kvs,H p = some (.dK kvs)) ∨ ∃ kvs,H p = some (.dT kvs))) ∨ (T = "set" ∧ ∃ S n,H p = some (.set S n))
 | _=>False
theorem ao5 {pins:List (Addr × Obj)} {σ:St} {H:Hp} {s:Shared} {T:String} {x:V} {v:Value} (I:Inv X pins σ H s) (r:RelV x v) (ty:tyV X.K T x H) :
  s.TypeIs v T ∧ ∀ a,v = .ref a → ∃ ob,s.heap.get? a = some ob ∧ ob.dict = none:=by
 cases x with
 | str z =>
  obtain ⟨t,rfl⟩:=r
  cases (show T = "str" from ty)
  exact ⟨typeIs_str s z t,fun _ e=>nomatch e⟩
 | int i =>
  obtain ⟨t,rfl⟩:=r
  cases (show T = "int" from ty)
  exact ⟨typeIs_int s i t,fun _ e=>nomatch e⟩
 | ref p =>
  cases r
  rcases ty with ⟨rfl,xs,hq⟩ | ⟨rfl,o,hk,hc,hd⟩ | ⟨rfl,hk⟩ | ⟨rfl,S,n,hk⟩
  ·obtain ⟨its,_,pl,_⟩:=I.list hq
   refine ⟨pl.isList.typeIs,fun a e=>?_⟩
   cases e
   obtain ⟨o,n,e,c,hd,_⟩:=pl
   exact ⟨o,e,hd⟩
  ·refine ⟨⟨o,I.kIn p o hk,hc⟩,fun a e=>?_⟩
   cases e
   exact ⟨o,I.kIn _ o hk,hd⟩
  ·have z:∃ o,s.heap.get? p = some o ∧ o.ExactDict:=by
    rcases hk with ⟨kvs,hk⟩ | ⟨kvs,hk⟩
    ·obtain ⟨_,_,_,_,o,_,_,e,ex,_⟩:=I.hok p _ hk
     exact ⟨o,e,ex⟩
    ·obtain ⟨_,_,_,_,o,_,_,e,ex,_⟩:=I.hok p _ hk
     exact ⟨o,e,ex⟩
   obtain ⟨o,e,ex⟩:=z
   refine ⟨⟨o,e,ex.1⟩,fun a e2=>?_⟩
   cases e2
   exact ⟨o,e,ex.2.1⟩
  ·obtain ⟨o,_,_,_,e,ex,_⟩:=I.hok p _ hk
   refine ⟨⟨o,e,ex.1⟩,fun a e2=>?_⟩
   cases e2
   exact ⟨o,e,ex.2.1⟩
 | _=>exact False.elim ty
def tBM (K:PySem.W.Frag) (T:String) (r:V → List V → Hp → VK → Prop) (to:TE) (t:TA):TE:=fun σ H Q=>to σ H fun x H1=>tyV K T x H1 ∧ t σ H1 fun xs H2=>r x xs H2 Q
variable {o e:Expr} {es:List Expr} {to:TE} {t:TA} {name:Str} {apos cpos:Pos} {T id:String} {r:V → List V → Hp → VK → Prop}
theorem am8 (pa:PlainAttrs T) (slot:Slot T name id) (hty:typeOf (.builtin id) = pure (.type "method_descriptor")) (hm:MtR X id r) (ho:PE X o to) (ha:PA X (e :: es) t)
  (hbase:attributeBase o name X.env (eval o X.env) = eval o X.env:=by rfl)
  (hfew:((backTo cpos (starEach (e :: es) X.env)).all (fun x=>!x.1) && (backToKw cpos (keywordEach [] X.env)).all (fun x=>x.1.isSome)
   && decide ((e :: es).length + ([]:List Keyword).length + (if ([]:List Keyword).isEmpty then 0 else 1) < 30)) = true:=by rfl)
  (hline:(apos.endLine == cpos.line) = true:=by rfl) (hs:starEach (e :: es) X.env = (false,eval e X.env) :: starEach es X.env:=by rfl) (hplain:(backTo cpos (starEach es X.env)).any (·.1) = false:=by rfl) :
  PE X (.Call (.Attribute o name apos) (e :: es) [] cpos) (tBM X.K T r to t):=by
 intro pins s σ H Q I h
 refine wpAny_Call_method_late hbase hfew hline rfl (thn (ho pins s σ H _ I h) fun v s1 ⟨x,H1,I1,r1,ty,q1⟩=>?_)
 obtain ⟨h1,h2⟩:=ao5 I1 r1 ty
 refine ⟨T,id,pa,slot,hty,h1,h2,?_⟩
 have hA:=ha cpos pins s1 σ H1 _ I1 q1
 rw [hs] at hA ⊢
 refine Calls.callWith_builtin (by show (false || (backTo cpos (starEach es X.env)).any (·.1)) = false; rw [hplain] <;> rfl) (Calls.evalArgs_plain ?_)
 exact thn hA fun us s2 ⟨vs,H2,I2,r2,q2⟩=>hm pins s2 σ H2 x vs v us Q I2 r1 r2 q2
end
end L2
namespace L2
open PySem PySem.Spec PyProof.Rows
def MtM (X:Cx) (id:String) (r:V → List V → Hp → VK → Prop):Prop :=
 ∀ (pins:List (Addr × Obj)) (s:Shared) (σ:St) (H:Hp) (x:V) (xs:List V) (v:Value) (us:List Value) (Q:VK),Inv X pins σ H s → RelV x v → Vals xs us → r x xs H Q →
  wpAny (model X.prog X.w) X.A (call (.builtin id) (v :: us)) (EP X pins σ Q) X.xe s
theorem Vals.one:∀ {x:V} {us:List Value},Vals [x] us → ∃ u,us = [u] ∧ RelV x u
 | _,_,.cons r .nil=>⟨_,rfl,r⟩
theorem Vals.zero:∀ {us:List Value},Vals [] us → us = []
 | _,.nil=>rfl
theorem Vals.eraseIdx:∀ {xs:List V} {us:List Value} (i:Nat),Vals xs us → Vals (xs.eraseIdx i) (us.eraseIdx i)
 | _,_,_,.nil=>.nil
 | _,_,0,.cons _ t=>t
 | _,_,i + 1,.cons r t=>.cons r (Vals.eraseIdx i t)
theorem aeY {α:Type}:∀ (l:List α) (i:Nat),(l.eraseIdx i).length ≤ l.length
 | [],_=>Nat.le_refl _
 | _ :: _,0=>Nat.le_succ _
 | _ :: r,i + 1=>Nat.succ_le_succ (aeY r i)
section
variable {X:Cx} {pins:List (Addr × Obj)} {σ:St} {H:Hp} {s:Shared} {l b:Addr} {xs ys zs:List V}
theorem Inv.lset {its its':List Value} {n:Nat} {f:Array Value → Array Value} {t':Nat} (I:Inv X pins σ H s) (hH:H l = some (.lst xs))
  (e:s.heap.get? l = some { cls:=.type "list",data:=.seq its.toArray n }) (hf:f its.toArray = its'.toArray) (hv:Vals ys its') (hz:ys.length ≤ sizeLine) :
  Inv X pins σ (upd H l (.lst ys)) { s with heap:=s.heap.update l (Obj.mapSeq f),toks:=t' }:=by
 have q:=PySem.IsL.update e f
 rw [hf] at q
 refine I.write (x:=l) (e:=l) (by rw [hH]; exact trivial) (.inl rfl) (fun b' u hb hu=>(Heap.get?_update_other s.heap (Obj.mapSeq f) (Ne.symm hb)).trans hu) ⟨_,q⟩ ?_
 exact ⟨hz,its',_,hv,q⟩
theorem Inv.lnew {its:List Value} {t':Nat} (I:Inv X pins σ H s) (hv:Vals ys its) (hz:ys.length ≤ sizeLine) :
  Inv X pins σ (upd H s.heap.objs.size (.lst ys)) { s with heap:=s.heap.push { cls:=.type "list",data:=.seq its.toArray },toks:=t' } :=
 I.laid (fun _ _ q=>Heap.get?_push_of_some _ q) (Nat.le_refl _) ⟨hz,its,0,hv,Heap.get?_push_size _ rfl⟩
theorem Inv.fresh (I:Inv X pins σ H s):H s.heap.objs.size = none:=I.hok.fresh (Nat.le_refl _)
theorem Inv.lstM (I:Inv X pins σ H s) (hH:H l = some (.lst xs)):xs.length ≤ sizeLine ∧ ∃ (its:List Value) (n:Nat),Vals xs its ∧ xs.length = its.length ∧ s.heap.get? l = some { cls:=.type "list",data:=.seq its.toArray n }:=by
 obtain ⟨z,its,n,r,e⟩:=I.hok l _ hH
 exact ⟨z,its,n,r,r.length,e⟩
theorem al0 {n:Nat} (h:n ≤ sizeLine):Builtin.List.listTooLong n = false:=by
 unfold Builtin.List.listTooLong
 exact decide_eq_false (by omega)
end
section
variable {X:Cx}
def anT:V → List V → Hp → VK → Prop:=fun x vs H Q=>∃ l xs y,x = .ref l ∧ vs = [y] ∧ H l = some (.lst xs) ∧ xs.length < sizeLine ∧ Q .non (upd H l (.lst (xs ++ [y])))
theorem adV:MtM X "list.append" anT:=by
 intro pins s σ H x vs v us Q I rx rv h
 obtain ⟨l,xs,y,rfl,rfl,hH,hz,q⟩:=h
 cases rx
 obtain ⟨u,rfl,ru⟩:=rv.one
 obtain ⟨z,its,n,r,hl,e⟩:=I.lstM hH
 refine call_meets F.slot_list_append ⟨_,e,rfl⟩ F.entry_list_append (F.args_list_append_2 _ _) (PySem.list_append l its.toArray n u (by rw [List.size_toArray]; omega)) ⟨e,?_⟩
 refine ⟨.non,_,I.lset (its':=its ++ [u]) hH e (by simp) (r.append (.cons ru .nil)) ?_,rfl,q⟩
 rw [List.length_append,List.length_singleton]
 omega
def aoF:V → List V → Hp → VK → Prop:=fun x vs H Q=>∃ l xs i k y,x = .ref l ∧ vs = [.int i] ∧ H l = some (.lst xs) ∧ -(2 ^ 63) ≤ i ∧ i < 2 ^ 63 ∧ seqIndex? i xs.length = some k ∧ xs[k]? = some y ∧ Q y (upd H l (.lst (xs.eraseIdx k)))
theorem al3:MtM X "list.pop" aoF:=by
 intro pins s σ H x vs v us Q I rx rv h
 obtain ⟨l,xs,i,k,y,rfl,rfl,hH,h1,h2,hk,hy,q⟩:=h
 cases rx
 obtain ⟨u,rfl,ru⟩:=rv.one
 obtain ⟨t,rfl⟩:=ru
 obtain ⟨z,its,n,r,hl,e⟩:=I.lstM hH
 obtain ⟨w,hw,rw'⟩:=r.get hy
 refine call_meets F.slot_list_pop ⟨_,e,rfl⟩ F.entry_list_pop (F.args_list_pop_2 _ _)
  (MeetsSeq.list_pop_at l its.toArray n i t k w (fitsIndex_both h1 h2) (by rw [List.size_toArray,← hl]; exact hk) (by rw [← Array.getElem?_toList]; exact hw) (by rw [List.size_toArray]; omega)) ⟨e,?_⟩
 refine ⟨y,_,I.lset (its':=its.eraseIdx k) hH e ?_ (r.eraseIdx k) ?_,rw',q⟩
 ·show its.toArray.eraseIdxIfInBounds k = (its.eraseIdx k).toArray
  rw [List.eraseIdxIfInBounds_toArray]
 ·have:=aeY xs k
  omega
end
section
variable {prog:Program} {w:World} {A:Around} {E:Value → Shared → Prop} {s:Shared}
end
section
variable {X:Cx}
end
end L2
namespace Att
open PySem PySem.W PySem.Calls PyProof.Rows
theorem aeM {P:Params} {h:Heap}:∀ (ns:List Int) (vs:List Value),WellAll P h vs (ns.map WData.int) → IntsAre vs ns:=by
 intro ns
 induction ns with
 | nil =>
  intro vs w
  rw [List.map_nil] at w
  cases w
  exact .nil
 | cons n ns ih =>
  intro vs w
  rw [List.map_cons] at w
  cases w with
  | cons a b =>
   cases a
   exact .cons _ _ (ih _ b)
theorem ajy {l:OpenLaw} {n:Nat} (hn:l.most = some n) {P:Params} {h:Heap} {args:List WData} {vals:List Value}
  (hpre:l.row.toRowW.claim.pre args = true) (hwl:WellAll P h vals args) :
  ∃ a vs ns,vals = [Value.ref a] ∧ args = [WData.list (ns.map WData.int)] ∧ h.get? a = some { cls:=.type "list",data:=.seq vs.toArray } ∧ IntsAre vs ns ∧ ns.length ≤ n:=by
 have hsh:WShape.hasAll [] args [.list .int] = true:=(pre_splitW hpre).1
 have hc:l.pre.holds [] { args:=args } = true:=(pre_splitW hpre).2
 obtain ⟨d,r,rfl,h1,h2⟩:=hasAllW_cons hsh
 obtain rfl:=hasAllW_nil h2
 obtain ⟨xs,rfl,h3⟩:=hasW_list h1
 obtain ⟨ns,rfl⟩:=items_int h3
 have hlen:ns.length ≤ n:=by
  unfold OpenLaw.pre at hc
  have h4:(WTm.not (.lt (.lit (.int (n:Int))) (.len (.arg 0)))).holds [] { args:=[.list (ns.map .int)] } = true:=by
   have h4:=(holds_andW hc).1
   rw [hn] at h4
   exact h4
  have h5:=condW_of h4 (w_not (w_lt w_lit (w_len_list (w_arg rfl))))
  rw [List.length_map] at h5
  refine Nat.le_of_not_lt fun q=>?_
  have q':(n:Int) < ((ns.length:Nat):Int):=by omega
  first
   | (rw [decide_eq_true q'] at h5; exact absurd h5 (by decide))
   | (simp at h5; omega)
 cases hwl with
 | cons w1 w2 =>
  cases w2
  cases w1 with
  | list ho hall=>exact ⟨_,_,ns,rfl,rfl,ho,aeM ns _ hall,hlen⟩
theorem ajO (l:OpenLaw) (args:List WData):l.row.toRowW.claim.post args (.bool true) args = true :=
 postW_of (r:=l.row.toRowW) (X:=(true == true))
  (show WShape.has [] (.bool true) .bool = true by first | rfl | decide | simp [WShape.has,WShape.arms,WShape.armsAll])
  (show (WTm.eq .res (.lit (.bool true))).value [] { args:=args,res:=some (.bool true),after:=args } = some (.bool (true == true)) from w_eq_bool (w_res rfl) w_lit) rfl
theorem attach_call {l:OpenLaw} {n:Nat} {q:Program} {loose:List Str} {XP:(Str → Option Value) → Heap → Prop} {YP:World → Heap → Prop} {d:DefRec}
  (hn:l.most = some n) (hdf:d.params.defaults = [])
  (call:∀ (w:World) (s₀ s₁:Shared) (mg mb:Str → Option Value) (fa:Addr) (o:Obj) (pm cd doc:Value) (a:Addr) (vs:List Value) (ns:List Int),
   Ground q loose [] XP w s₀ mg mb s₁.heap → YP w s₁.heap →
   s₁.heap.get? fa = some o → o.data = .func (docDef d.name d.params d.body d.scope pm cd doc) → s₁.heap.CodeRec cd d.name → mg d.name = some (.ref fa) →
   s₁.heap.get? a = some { cls:=.type "list",data:=.seq vs.toArray } → IntsAre vs ns → ns.length ≤ n → s₁.gens = #[] →
   codeAny (model l.prog w) callerA (.call (.ref fa) ⟨[.ref a],[]⟩) (fun r s'=>r = .ok (.ret (.bool true)) ∧ OldK s₁.heap s'.heap ∧ s'.os = s₁.os ∧ AllBare s'.gens) s₁) :
  WalkO q loose XP YP l.row.toRowW d [] (fun f vs=>PySem.call f vs):=by
 intro w s₀ s₁ mg mb G Y fa o pm cd doc dV kV ho hd hcd hD hmg hg args vals as hpre hlay hrd hwl hlo
 obtain rfl:dV = .none:=Dflts.none hD hdf
 obtain rfl:kV = .none:=Dflts.noKw hD
 obtain ⟨a,vs,ns,rfl,rfl,hobj,hints,hlen⟩:=ajy hn hpre hwl
 refine enter_call (codeAny_mono (call w s₀ s₁ mg mb fa o pm cd doc a vs ns G Y ho (fd_plain hd) hcd hmg hobj hints hlen hg) fun r s' hq=>?_)
 obtain ⟨rfl,h2,h3,h4⟩:=hq
 exact ⟨.inl ⟨.bool true,.bool true,[],rfl,fun _=>rfl,.bool true,ajO l _,fun _=>⟨List.Pairwise.nil,fun _ hm=>(nomatch hm)⟩⟩,h2,h3,h4⟩
section
variable {prog:Program} {w:World} {A:Around} {E:Value → Shared → Prop} {s:Shared} {K:Frag}
end
end Att
namespace L2
open PySem PySem.Spec PyProof.Rows
theorem agK:∀ {vs:List Value} {ns:List Int},IntsAre vs ns → Vals (ns.map V.int) vs
 | _,_,.nil=>.nil
 | _,_,.cons n t h=>.cons ⟨t,rfl⟩ (agK h)
def Only (H:Hp):Prop:=∀ b,H b = none ∨ ∃ o xs,H b = some (.frz o (.lst xs))
theorem ak3 {P:Program} {w:World} {K:PySem.W.Frag} {mg mb:Str → Option Value} {CX:CXT} {k:Nat} {fa a:Addr} {fd:FuncData} {x:Str} {sp:Sp} {s₁:Shared} {vs:List Value} {ns:List Int}
  (KX:K.In s₁.heap) (hns:s₁.heap.Ns mainGlobals mg) (hb:s₁.heap.Ns builtinsNs mb) (hbb:∀ x:Str,x ≠ "__name__" → mb x = bootBuiltins x) (hlim:s₁.heap.NoLimit) (hg:s₁.gens = #[])
  (ha:s₁.heap.get? a = some { cls:=.type "list",data:=.seq vs.toArray }) (hi:IntsAre vs ns) (hl:ns.length ≤ sizeLine) (hr:Room k callerA)
  (F:∀ base:Heap,K.In base → base.Ns mainGlobals mg → FnOk P w K mg base CX k fa fd [x] sp) (hbind:∀ (s:Shared) (u:Value),BindsTo s fd ⟨[u],[]⟩ [(x,u)])
  (hsp:∀ H:Hp,Only H → SqL K H a (ns.map V.int) → sp [.ref a] H (fun v _=>v = .bl true) fun _ _ _=>False)
  (hCX:∀ H e s',CX [] H s₁ (fun _ _ _=>False) e s' → False) :
  codeAny (model P w) callerA (.call (.ref fa) ⟨[.ref a],[]⟩) (fun r s'=>r = .ok (.ret (.bool true)) ∧ OldK s₁.heap s'.heap ∧ s'.os = s₁.os ∧ AllBare s'.gens) s₁:=by
 have rv:=agK hi
 have lenV:=hi.length
 -- from an abstract heap in which nothing but the script may be tracked
 have core:∀ H:Hp,Only H → SqL K H a (ns.map V.int) → HOk P w H s₁.heap → (∀ b,H b ≠ none → b = a) → (H a ≠ none → K.lookup a = none) →
   codeAny (model P w) callerA (.call (.ref fa) ⟨[.ref a],[]⟩) (fun r s'=>r = .ok (.ret (.bool true)) ∧ OldK s₁.heap s'.heap ∧ s'.os = s₁.os ∧ AllBare s'.gens) s₁:=by
  intro H hO hS hok hA hK
  have base_of:∀ {b:Addr} {o:Obj},s₁.heap.get? b = some o → H b = none → (hidT s₁.heap H).get? b = some o:=fun e n=>aln e n
  have noA:∀ {b:Addr} {o:Obj} {es:Array DictEntry} {ep:Nat},s₁.heap.get? b = some o → o.data = .dict es ep → H b = none:=fun {b o es ep} e d=>by
   cases q:H b with
   | none=>rfl
   | some u =>
    have e':b = a:=hA b (by rw [q]; simp)
    subst e'
    rw [ha] at e; cases e
    have d':Data.seq vs.toArray _ = Data.dict es ep:=d
    cases d'
  have nsK:∀ {b:Addr} {m:Str → Option Value},s₁.heap.Ns b m → (hidT s₁.heap H).Ns b m:=fun {b m} ⟨o,es,ep,e,d,r⟩=>⟨o,es,ep,base_of e (noA e d),d,r⟩
  have hKb:K.In (hidT s₁.heap H):=fun b o e=>base_of (KX b o e) (by
   cases q:H b with
   | none=>rfl
   | some u =>
    have e':b = a:=hA b (by rw [q]; simp)
    subst e'
    rw [hK (by rw [q]; simp)] at e; cases e)
  have hM:Mod K mg (hidT s₁.heap H):=⟨hKb,nsK hns,⟨mb,nsK hb,hbb⟩,let ⟨mc,h1,h2⟩:=hlim; ⟨mc,nsK h1,h2⟩⟩
  have e0:Env0 P w K mg (hidT s₁.heap H) callerA [] s₁ H:=⟨rfl,hM,fun b o e=>anU e,Nat.le_of_eq (aj3 _ _),trivial,fun b hb=>absurd (show b ∈ ([]:List Addr) from hb) (by simp),hok,.of_eq hg⟩
  refine codeAny_mono ((F _ hKb (nsK hns)).run callerA [] s₁ H ⟨[.ref a],[]⟩ [.ref a] [.ref a] _ _ hr e0 (hbind s₁ (.ref a)) (.cons rfl .nil) (hsp H hO hS)) fun r s' h=>?_
  cases r with
  | error e=>exact (hCX H e s' h).elim
  | ok fl =>
   cases fl with
   | next=>exact False.elim h
   | brk=>exact False.elim h
   | cont=>exact False.elim h
   | ret u =>
    obtain ⟨v,H',os,bare,un,hok',r',q⟩:=h
    have q':v = .bl true:=q
    subst q'
    obtain rfl:u = Value.bool true:=r'
    refine ⟨rfl,OldK.of_keep fun b o e=>?_,os,bare⟩
    cases q:H b with
    | none=>exact un.keep b o e q (by intro z; exact absurd (show b ∈ ([]:List Addr) from z) (by simp)) (by simp)
    | some u =>
     rcases hO b with z | ⟨ob,xs,z⟩
     ·rw [q] at z; cases z
     ·have z2:=un.frzs b ob _ z
      obtain ⟨e1,_⟩:=hok b _ z
      obtain ⟨e2,_⟩:=hok' b _ z2
      rw [e] at e1; cases e1
      exact e2
 cases hk:K.lookup a with
 | some o =>
  -- the script is one of the module's own objects
  have e:=KX a o hk
  rw [ha] at e
  cases e
  refine core (fun _=>none) (fun _=>.inl rfl) (.inr ⟨_,vs.toArray,_,hk,rfl,rfl,rfl,by rw [List.size_toArray,lenV]; exact hl,by simpa using rv⟩) (fun b u z=>by have z':(none:Option HO) = some u:=z; cases z') (fun b z=>absurd rfl z) fun z=>absurd rfl z
 | none =>
  refine core (fun b=>if b = a then some (.frz { cls:=.type "list",data:=.seq vs.toArray } (.lst (ns.map V.int))) else none) (fun b=>?_) (.inl (.inr ⟨{ cls:=.type "list",data:=.seq vs.toArray },if_pos rfl⟩)) (fun b u z=>?_) (fun b z=>?_) fun _=>hk
  ·by_cases hb:b = a
   ·exact .inr ⟨_,_,if_pos hb⟩
   ·exact .inl (if_neg hb)
  ·by_cases hb:b = a
   ·have z':=(if_pos hb).symm.trans z
    cases z'
    subst hb
    exact ⟨ha,by rw [List.length_map]; exact hl,vs,_,rv,ha⟩
   ·have z':=(if_neg hb).symm.trans z
    cases z'
  ·by_cases hb:b = a
   ·exact hb
   ·exact absurd (if_neg hb) z
end L2
namespace L2
open PySem PySem.Spec PyProof.Rows
theorem walk_of {l:PySem.W.OpenLaw} {n k:Nat} {q:Program} {loose:List Str} {XP:(Str → Option Value) → Heap → Prop} {YP:World → Heap → Prop} {d:DefRec} {K:Params → PySem.W.Frag} {CX:World → CXT} {sp:World → Sp} {x:Str}
  (hn:l.most = some n) (hn2:n ≤ sizeLine) (hdf:d.params.defaults = []) (hr:Room k callerA)
  (hY:∀ (w:World) (h:Heap),YP w h → (K w.params).In h)
  (F:∀ (w:World) (mg:Str → Option Value) (fa:Addr) (h:Heap),(K w.params).In h → h.Ns mainGlobals mg → mg d.name = some (.ref fa) →
   ∃ fd:FuncData,(∀ (s:Shared) (u:Value),BindsTo s fd ⟨[u],[]⟩ [(x,u)]) ∧
    ∀ base:Heap,(K w.params).In base → base.Ns mainGlobals mg → FnOk l.prog w (K w.params) mg base (CX w) k fa fd [x] (sp w))
  (hsp:∀ (w:World) (H:Hp) (a:Addr) (ns:List Int),ns.length ≤ n → Only H → SqL (K w.params) H a (ns.map V.int) → sp w [.ref a] H (fun v _=>v = .bl true) fun _ _ _=>False)
  (hCX:∀ (w:World) (H:Hp) (s:Shared) (e:Value) (s':Shared),CX w [] H s (fun _ _ _=>False) e s' → False) :
  PySem.W.WalkO q loose XP YP l.row.toRowW d [] (fun f vs=>PySem.call f vs):=by
 refine Att.attach_call hn hdf fun w s₀ s₁ mg mb fa o pm cd doc a vs ns G Y ho hd hcd hmg hobj hints hlen hg=>?_
 have KX:=hY w _ Y
 obtain ⟨fd,hb,hF⟩:=F w mg fa _ KX G.T.g hmg
 exact ak3 KX G.T.g G.T.b G.T.builtins G.T.nolimit hg hobj hints (Nat.le_trans hlen hn2) hr hF hb (fun H hO hS=>hsp w H a ns hlen hO hS) fun H e s'=>hCX w H s₁ e s'
end L2
namespace L2
open PySem PySem.Spec PyProof.Rows
abbrev CX0:CXT:=fun _ _ _ _ _ _=>False
abbrev E0:XK:=fun _ _ _=>False
theorem amN {X:Cx}:aib CX0 X E0:=fun _ _ _ _ _ _ _ h=>h.elim
structure Fun (K:PySem.W.Frag) (x qual:Str) (st:Stmt) (f:Addr) (fd:FuncData):Prop where
 ex:∃ (oc:Value) (od:Option Addr) (kV doc pm:Value) (an:Option Addr) (cdv ct:Value) (osl:Array (Option Value)),
  fd = PySem.W.fnOf x qual (aaL st) (aaw st) (aad st) .none kV doc pm an cdv ct ∧ K.lookup f = some ⟨oc,od,.func fd,osl⟩ ∧ PySem.W.codeIn K cdv qual = true
 kp:PySem.W.keepIn K (.ref f) = true
section
variable {P:Program} {w:World} {K:PySem.W.Frag} {mg:Str → Option Value} {base:Heap}
theorem Fun.ok {x qual:Str} {st:Stmt} {f:Addr} {fd:FuncData} {N ps:List Str} {k:Nat} {sp:Sp} (F:Fun K x qual st f fd) (S:aaI N ps (aad st)) (len:∀ vs H Q E,sp vs H Q E → vs.length = ps.length)
  (hbody:∀ (cdv:Value) (A:Around) (outer:List Env) (s:Shared) (H:Hp) (vs:List V) (Q:VK) (E:XK),Room k (A.deeper (envOfC qual (aad st) s.heap.objs.size f cdv)) → sp vs H Q E →
   ∃ t,PSs (cxOf CX0 P w K mg base N qual (aad st) f cdv A outer s H E).nox (aaw st) t ∧ t { nx:=fun _ H'=>Q .non H',rt:=Q } (start N vs) H):FnOk P w K mg base CX0 (k + 1) f fd ps sp:=by
 obtain ⟨oc,od,kV,doc,pm,an,cdv,ct,osl,rfl,lk,hcd⟩:=F.ex
 refine ak5 lk hcd S len fun A outer s H vs Q E hr hsp=>?_
 obtain ⟨t,h,q⟩:=hbody cdv A outer s H vs Q E hr hsp
 exact ⟨t,h.nox,q⟩
theorem Fun.binds {x qual:Str} {st:Stmt} {f:Addr} {fd:FuncData} {ps:List Str} (F:Fun K x qual st f fd)
  (h:∀ (kV doc pm:Value) (an:Option Addr) (cdv ct:Value) (us:List Value),us.length = ps.length → bindArgs (PySem.W.fnOf x qual (aaL st) (aaw st) (aad st) .none kV doc pm an cdv ct) ⟨us,[]⟩ = pure (ps.zip us)):ac2 K fd ps []:=by
 obtain ⟨oc,od,kV,doc,pm,an,cdv,ct,osl,rfl,lk,hcd⟩:=F.ex
 exact .all (h kV doc pm an cdv ct)
theorem aa0 {x qual:Str} {st:Stmt} {f:Addr} {oc:Value} {od an:Option Addr} {osl:Array (Option Value)} {kV doc pm cdv ct:Value} (l:K.lookup f = some ⟨oc,od,.func (PySem.W.fnOf x qual (aaL st) (aaw st) (aad st) .none kV doc pm an cdv ct),osl⟩)
  (c:PySem.W.codeIn K cdv qual = true) (k:PySem.W.keepIn K (.ref f) = true):Fun K x qual st f (PySem.W.fnOf x qual (aaL st) (aaw st) (aad st) .none kV doc pm an cdv ct):=⟨⟨oc,od,kV,doc,pm,an,cdv,ct,osl,rfl,l,c⟩,k⟩
end
section
variable {X:Cx}
theorem pv (i:Nat) {x:Str} {pos:Pos} (hN:X.N[i]? = some x:=by rfl) (hv:Vis X.env.scope x:=by first | exact Or.inl rfl | exact Or.inr (Or.inl rfl) | exact Or.inr (Or.inr rfl)) (hd:(x == ("__debug__":Str)) = false:=by decide)
  (hcd:(x == ("__classdict__":Str)) = false:=by decide):PE X (.Name x pos) (tVar i):=aeR hN hv hd hcd
end
def Same (H H':Hp):Prop:=∀ b o,H b = some o → H' b = some o
theorem Same.refl (H:Hp):Same H H:=fun _ _ h=>h
theorem Same.free {H H':Hp} (e:Same H H') {l:Addr} (h:H' l = Option.none):H l = Option.none:=by
 cases q:H l with
 | none=>rfl
 | some o =>
  rw [e l o q] at h
  cases h
end L2
namespace Bn
def Bd (k:Nat) (i:Int):Prop:=i.natAbs < 2 ^ k
theorem Bd.mono {j k:Nat} {i:Int} (h:Bd j i) (l:j ≤ k):Bd k i:=Nat.lt_of_lt_of_le h (Nat.pow_le_pow_right (by decide) l)
theorem Bd.mul {j k:Nat} {a b:Int} (h:Bd j a) (g:Bd k b):Bd (j + k) (a * b):=by
 unfold Bd at *
 rw [Int.natAbs_mul,Nat.pow_add]
 exact Nat.mul_lt_mul'' h g
theorem Bd.add {k:Nat} {a b:Int} (h:Bd k a) (g:Bd k b):Bd (k + 1) (a + b):=by
 unfold Bd at *
 rw [Nat.pow_succ]
 have:=Int.natAbs_add_le a b
 omega
theorem Bd.neg {k:Nat} {a:Int} (h:Bd k a):Bd k (-a):=by
 unfold Bd at *
 rw [Int.natAbs_neg]
 exact h
theorem Bd.sub {k:Nat} {a b:Int} (h:Bd k a) (g:Bd k b):Bd (k + 1) (a - b):=by
 rw [Int.sub_eq_add_neg]
 exact h.add g.neg
theorem Bd.le {k:Nat} {a b:Int} (h:Bd k b) (l:a.natAbs ≤ b.natAbs):Bd k a:=Nat.lt_of_le_of_lt l h
theorem Bd.of {k n:Nat} {a:Int} (l:a.natAbs ≤ n) (h:n < 2 ^ k):Bd k a:=Nat.lt_of_le_of_lt l h
theorem Bd.log {k:Nat} {a:Int} (h:Bd k a) (hk:0 < k):a.natAbs.log2 < k:=by
 rcases Nat.eq_zero_or_pos a.natAbs with z | z
 ·rw [z]
  exact Nat.lt_of_le_of_lt (Nat.le_of_eq (by decide)) hk
 ·exact (Nat.log2_lt (Nat.ne_of_gt z)).mpr h
theorem ahd (a:Int) {b:Int} (h:b ≠ 0):(a.fmod b).natAbs < b.natAbs:=by
 rw [Int.fmod_eq_emod]
 have h1:=Int.emod_nonneg a h
 have h2:a % b < (b.natAbs:Int):=Int.emod_lt a h
 by_cases c:0 ≤ b ∨ b ∣ a
 ·rw [if_pos c]
  omega
 ·rw [if_neg c]
  have hb:b < 0:=by omega
  have h3:a % b ≠ 0:=fun z=>c (.inr (Int.dvd_of_emod_eq_zero z))
  have h4:b.natAbs = (-b).toNat:=by omega
  omega
theorem aiG (a b:Int):Int.gcd b (a.fmod b) = Int.gcd a b:=by
 rw [Int.fmod_def,Int.mul_comm,Int.gcd_sub_mul_right_right,Int.gcd_comm]
theorem aky (x:Int):(if x < 0 then -x else x) = (x.natAbs:Int):=by
 split <;> omega
end Bn
namespace Bn
def gl:List Int → Int → Int
 | [],g=>g
 | n :: r,g=>gl r (Int.gcd g n:Nat)
def low (ns:List Int):List Int:=if gl ns 0 = 0 then ns else ns.map (· / gl ns 0)
theorem aoc:∀ (ns:List Int) (g:Int),0 ≤ g → 0 ≤ gl ns g
 | [],_,h=>h
 | _ :: r,_,_=>aoc r _ (Int.natCast_nonneg _)
theorem amr (k:Int):∀ (ns:List Int) (g:Int),0 ≤ g → gl (ns.map (k * ·)) ((k.natAbs:Int) * g) = (k.natAbs:Int) * gl ns g
 | [],_,_=>rfl
 | n :: r,g,h=>by
  show gl (r.map (k * ·)) ((Int.gcd ((k.natAbs:Int) * g) (k * n):Nat):Int) = (k.natAbs:Int) * gl r _
  have e:((Int.gcd ((k.natAbs:Int) * g) (k * n):Nat):Int) = (k.natAbs:Int) * ((Int.gcd g n:Nat):Int):=by
   rcases Int.natAbs_eq k with q | q
   ·rw [← q,Int.gcd_mul_left]
    have:(k.natAbs:Int) = k:=q.symm
    push_cast
    rw [this]
   ·have e2:k * n = (k.natAbs:Int) * (-n):=by rw [Int.mul_neg,← Int.neg_mul,← q]
    rw [e2,Int.gcd_mul_left,Int.gcd_neg]
    push_cast
    simp
  rw [e]
  exact amr k r _ (Int.natCast_nonneg _)
theorem af5 (k:Int) (ns:List Int):gl (ns.map (k * ·)) 0 = (k.natAbs:Int) * gl ns 0:=by
 have:=amr k ns 0 (Int.le_refl 0)
 rwa [Int.mul_zero] at this
theorem agF {k:Int} (h:0 < k) (ns:List Int):gl ns 0 ≠ 0 → low (ns.map (k * ·)) = low ns:=fun z=>by
 have hk:(k.natAbs:Int) = k:=by omega
 have e:=af5 k ns
 rw [hk] at e
 have nz:k * gl ns 0 ≠ 0:=Int.mul_ne_zero (by omega) z
 unfold low
 rw [e,if_neg nz,if_neg z,List.map_map]
 refine List.map_congr_left fun n _=>?_
 show k * n / (k * gl ns 0) = n / gl ns 0
 exact Int.mul_ediv_mul_of_pos _ _ h
theorem adD:∀ (ns:List Int) (g:Int),gl ns g ∣ g ∧ ∀ n ∈ ns,gl ns g ∣ n
 | [],g=>⟨Int.dvd_refl g,fun _ h=>nomatch h⟩
 | m :: r,g=>by
  obtain ⟨h1,h2⟩:=adD r ((Int.gcd g m:Nat):Int)
  refine ⟨Int.dvd_trans h1 (Int.gcd_dvd_left ..),fun n hn=>?_⟩
  rcases List.mem_cons.mp hn with q | q
  ·subst q
   exact Int.dvd_trans h1 (Int.gcd_dvd_right ..)
  ·exact h2 n q
theorem ans {ns:List Int} (h:gl ns 0 = 0):∀ n ∈ ns,n = 0:=fun n hn=>by
 have:=(adD ns 0).2 n hn
 rw [h] at this
 exact Int.zero_dvd.mp this
theorem alR {ns:List Int} {n:Int} (hn:n ∈ ns) (h:n ≠ 0):gl ns 0 ≠ 0:=fun z=>h (ans z n hn)
theorem ako {ns:List Int} {n:Int} (hn:n ∈ ns) (h:n ≠ 0):0 < gl ns 0:=by
 have h1:=aoc ns 0 (Int.le_refl 0)
 have h2:=alR hn h
 omega
theorem ajD {ns:List Int} {n:Int} (hn:n ∈ ns) (h:n ≠ 0):low ns = ns.map (· / gl ns 0):=by
 unfold low
 rw [if_neg (alR hn h)]
theorem Bd.gcd {k:Nat} {a b:Int} (h:Bd k a) (g:Bd k b):Bd k (Int.gcd a b:Nat):=by
 unfold Bd at *
 rw [Int.natAbs_natCast]
 rcases Nat.eq_zero_or_pos a.natAbs with z | z
 ·have:a = 0:=by omega
  subst this
  rw [Int.gcd_zero_left]
  exact g
 ·exact Nat.lt_of_le_of_lt (Nat.gcd_le_left _ z) h
theorem alS {k:Nat}:∀ {ns:List Int} {g:Int},Bd k g → (∀ n ∈ ns,Bd k n) → Bd k (gl ns g)
 | [],_,h,_=>h
 | n :: r,g,h,hn=>by
  show Bd k (gl r _)
  exact alS (ns:=r) (h.gcd (hn n List.mem_cons_self)) fun m hm=>hn m (List.mem_cons_of_mem _ hm)
theorem ah4 {k:Nat} {ns:List Int} (h:∀ n ∈ ns,Bd k n):∀ n ∈ low ns,Bd k n:=fun n hn=>by
 unfold low at hn
 by_cases c:gl ns 0 = 0
 ·rw [if_pos c] at hn
  exact h n hn
 ·rw [if_neg c] at hn
  obtain ⟨m,hm,rfl⟩:=List.mem_map.mp hn
  refine (h m hm).le ?_
  have d:=(adD ns 0).2 m hm
  obtain ⟨q,e⟩:=d
  rw [e,Int.mul_ediv_cancel_left _ c,Int.natAbs_mul]
  exact Nat.le_mul_of_pos_left _ (by omega)
def fr (t b:Int):List Int:=if b < 0 then low [0 - t,0 - b] else low [t,b]
theorem mem2 (a b:Int):b ∈ [a,b]:=List.mem_cons_of_mem _ List.mem_cons_self
theorem ap8 {t b:Int} (h:b ≠ 0):∃ p q:Int,fr t b = [p,q] ∧ 0 < q ∧ p * b = t * q:=by
 have go:∀ {t b:Int},0 < b → ∃ p q:Int,low [t,b] = [p,q] ∧ 0 < q ∧ p * b = t * q:=fun {t b} hb=>by
  have nz:b ≠ 0:=by omega
  have gp:=ako (mem2 t b) nz
  refine ⟨t / gl [t,b] 0,b / gl [t,b] 0,ajD (mem2 t b) nz,?_,?_⟩
  ·obtain ⟨m,e⟩:=(adD [t,b] 0).2 b (mem2 t b)
   have:b / gl [t,b] 0 = m:=by
    conv=>lhs; lhs; rw [e]
    exact Int.mul_ediv_cancel_left _ (by omega)
   rw [this]
   have hm:0 < m * gl [t,b] 0:=by rw [Int.mul_comm,← e]; exact hb
   exact Int.pos_of_mul_pos_left hm gp
  ·obtain ⟨m,e⟩:=(adD [t,b] 0).2 b (mem2 t b)
   obtain ⟨n,f⟩:=(adD [t,b] 0).2 t List.mem_cons_self
   have e1:b / gl [t,b] 0 = m:=by
    conv=>lhs; lhs; rw [e]
    exact Int.mul_ediv_cancel_left _ (by omega)
   have e2:t / gl [t,b] 0 = n:=by
    conv=>lhs; lhs; rw [f]
    exact Int.mul_ediv_cancel_left _ (by omega)
   rw [e1,e2]
   conv=>lhs; rhs; rw [e]
   conv=>rhs; lhs; rw [f]
   rw [Int.mul_left_comm,Int.mul_assoc]
 unfold fr
 by_cases c:b < 0
 ·rw [if_pos c]
  obtain ⟨p,q,e1,e2,e3⟩:=go (t:=0 - t) (b:=0 - b) (by omega)
  refine ⟨p,q,e1,e2,?_⟩
  rw [Int.zero_sub,Int.zero_sub,Int.mul_neg,Int.neg_mul] at e3
  omega
 ·rw [if_neg c]
  exact go (by omega)
def sg (n:Int):Int:=if 0 < n then 1 else if n < 0 then -1 else 0
theorem alD (b:Int):-(2 ^ 64) < sg b ∧ sg b < 2 ^ 64:=by
 unfold sg
 split
 ·decide
 ·split <;> decide
theorem acm {g n:Int} (h:g ≠ 0):(g * n).fdiv g = n:=by
 rw [Int.fdiv_eq_ediv_of_dvd ⟨n,rfl⟩,Int.mul_ediv_cancel_left _ h]
theorem ajq (n:Int):∀ (l:List Int) (g:Int),gl (l ++ [n]) g = (Int.gcd (gl l g) n:Nat)
 | [],g=>rfl
 | m :: r,g=>ajq n r _
theorem apE {k:Nat} {t b p q:Int} (ht:Bd k t) (hb:Bd k b) (e:fr t b = [p,q]):Bd k p ∧ Bd k q:=by
 have go:∀ {x y:Int},Bd k x → Bd k y → low [x,y] = [p,q] → Bd k p ∧ Bd k q:=fun {x y} hx hy e=>by
  have h:=ah4 (k:=k) (ns:=[x,y]) fun n hn=>by
   rcases List.mem_cons.mp hn with z | z
   ·rw [z]; exact hx
   ·have z':n = y:=by simpa using z
    rw [z']; exact hy
  rw [e] at h
  exact ⟨h p List.mem_cons_self,h q (mem2 _ _)⟩
 unfold fr at e
 split at e
 ·exact go (by rw [Int.zero_sub]; exact ht.neg) (by rw [Int.zero_sub]; exact hb.neg) e
 ·exact go ht hb e
theorem al1 {k m:Int} (hk:0 < k) (hm:0 < m) {A B:List Int} (hA:gl A 0 ≠ 0) (e:A.map (k * ·) = B.map (m * ·)):low A = low B:=by
 have hB:gl B 0 ≠ 0:=fun z=>by
  have h:=af5 k A
  rw [e,af5 m B,z,Int.mul_zero] at h
  have:(k.natAbs:Int) * gl A 0 ≠ 0:=Int.mul_ne_zero (by omega) hA
  exact this h.symm
 rw [← agF hk A hA,e,agF hm B hB]
theorem amz (b:Int):∀ (ns:List Int) (g:Int),gl ns (Int.gcd g b:Nat) = (Int.gcd (gl ns g) b:Nat)
 | [],_=>rfl
 | n :: r,g=>by
  show gl r ((Int.gcd ((Int.gcd g b:Nat):Int) n:Nat):Int) = ((Int.gcd (gl r _) b:Nat):Int)
  rw [← amz b r,Int.gcd_assoc,Int.gcd_comm b n,← Int.gcd_assoc]
theorem ahH {ns:List Int} {b:Int} (hb:0 < b):gl (ns ++ [b]) 0 = gl ns b:=by
 rw [ajq,← amz,Int.gcd_zero_left]
 congr 1
 omega
theorem ab3 (ns:List Int) (b:Int):b ∈ ns ++ [b]:=List.mem_append_right _ List.mem_cons_self
theorem aoW {ns:List Int} {b:Int} (hb:0 < b):low (ns ++ [b]) = (ns.map fun n=>n.fdiv (gl ns b)) ++ [b.fdiv (gl ns b)] ∧ 0 < gl ns b:=by
 have gp:=ako (ab3 ns b) (by omega)
 rw [ahH hb] at gp
 refine ⟨?_,gp⟩
 rw [ajD (ab3 ns b) (by omega),ahH hb,List.map_append]
 have e:∀ n:Int,n / gl ns b = n.fdiv (gl ns b):=fun n=>(Int.fdiv_eq_ediv_of_nonneg n (Int.le_of_lt gp)).symm
 simp only [e,List.map_cons,List.map_nil]
theorem ahW (ns:List Int) {b:Int} (hb:0 < b):∃ (zs:List Int) (z g:Int),low (ns ++ [b]) = zs ++ [z] ∧ 0 < g ∧ 0 < z ∧ ns = zs.map (g * ·) ∧ b = g * z ∧ zs.length = ns.length:=by
 obtain ⟨e,gp⟩:=aoW (ns:=ns) hb
 have dv:=adD (ns ++ [b]) 0
 rw [ahH hb] at dv
 have ex:∀ n ∈ ns ++ [b],gl ns b * n.fdiv (gl ns b) = n:=fun n hn=>by
  obtain ⟨q,e⟩:=dv.2 n hn
  conv=>lhs; rhs; rw [e]
  rw [acm (by omega)]
  exact e.symm
 refine ⟨_,_,gl ns b,e,gp,?_,?_,(ex b (ab3 ns b)).symm,List.length_map _⟩
 ·have h:=ex b (ab3 ns b)
  have:0 < b.fdiv (gl ns b) * gl ns b:=by rw [Int.mul_comm,h]; exact hb
  exact Int.pos_of_mul_pos_left this gp
 ·rw [List.map_map]
  conv=>lhs; rw [← List.map_id ns]
  refine List.map_congr_left fun n hn=>?_
  exact (ex n (List.mem_append_left _ hn)).symm
theorem ahO (ns:List Int) {b:Int} (hb:0 < b):low (low (ns ++ [b])) = low (ns ++ [b]):=by
 obtain ⟨zs,z,g,e,hg,hz,e1,e2,_⟩:=ahW ns hb
 rw [e]
 refine al1 (k:=g) (m:=1) hg (by decide) (alR (ab3 zs z) (by omega)) ?_ |>.trans e
 rw [List.map_append,← e1]
 show ns ++ [g * z] = (ns ++ [b]).map (1 * ·)
 rw [← e2]
 conv=>lhs; rw [← List.map_id (ns ++ [b])]
 refine List.map_congr_left fun n _=>?_
 exact (Int.one_mul n).symm
end Bn
namespace Bn
def sm (xs:List Int) (w:Int) (ys:List Int) (v:Int):List Int:=List.zipWith (fun x y=>x * v + y * w) xs ys
theorem ao6 {xs ys:List Int} {f g:Int → Int → Int} (h:∀ x y,f x y = g x y):List.zipWith f xs ys = List.zipWith g xs ys:=by
 have:f = g:=funext fun x=>funext fun y=>h x y
 rw [this]
theorem ajh (xs:List Int) (w:Int) (ys:List Int) (v:Int):List.zipWith (fun x y=>1 * x * v + y * w) xs ys = sm xs w ys v:=ao6 fun x y=>by rw [Int.one_mul]
theorem ahD (xs:List Int) (w:Int) (ys:List Int) (v:Int):List.zipWith (fun y x=>-1 * y * w + x * v) ys xs = sm xs w (ys.map (- ·)) v:=by
 unfold sm
 rw [List.zipWith_map_right,List.zipWith_comm]
 refine ao6 fun x y=>?_
 rw [Int.neg_mul,Int.one_mul]
 exact Int.add_comm _ _
theorem apo {xs ys:List Int} {w v:Int} (h:xs.length = ys.length):(sm xs w ys v).length = xs.length:=by
 unfold sm
 rw [List.length_zipWith]
 omega
end Bn
namespace L2
open PySem PySem.Spec PyProof.Rows Bn
section
variable {X:Cx}
def CBig (i j:Int):Prop:=Bd 4000 i ∧ Bd 4000 j
theorem agk {k:Nat} {i:Int} (h:Bd k i):Builtin.Int.intBits i ≤ k:=by
 unfold Builtin.Int.intBits
 split
 ·exact Nat.zero_le _
 ·rename_i c
  have z:i.natAbs ≠ 0:=by
   intro q
   have:i = 0:=by omega
   subst this
   exact c rfl
  have:=(Nat.log2_lt z).mpr h
  omega
theorem CBig.ok {i j:Int} (h:CBig i j):IntMulOk i j:=by
 have h1:=agk h.1
 have h2:=agk h.2
 unfold IntMulOk Builtin.Int.intTooBig bitsLine
 intro c
 simp only [Bool.and_eq_true,decide_eq_true_eq] at c
 have:=c.2
 omega
def ai8 (_ j:Int):Prop:=j ≠ 0 ∧ Bd 8000 j
theorem ad8:OpR X (binaryOp .FloorDiv) (rI ai8 fun i j=>.int (i.fdiv j)) :=
 opI fun _ _ _ _ _ _ _ hc q=>floordiv_int hc.1 q (.inl (PyProof.noPylong_of_log2 (Nat.lt_trans (hc.2.log (by decide)) (by decide))))
theorem PS.imp {st:Stmt} {t t':TS} (h:PS X st t) (i:∀ D σ H,t' D σ H → t D σ H):PS X st t':=fun pins s σ H D I q=>h pins s σ H D I (i D σ H q)
theorem PSs.imp {st:List Stmt} {t t':TS} (h:PSs X st t) (i:∀ D σ H,t' D σ H → t D σ H):PSs X st t':=fun pins s σ H D I q=>h pins s σ H D I (i D σ H q)
theorem PE.imp {e:Expr} {t t':TE} (h:PE X e t) (i:∀ σ H Q,t' σ H Q → t σ H Q):PE X e t':=fun pins s σ H Q I q=>h pins s σ H Q I (i σ H Q q)
theorem PT.imp {e:Expr} {t t':TT} (h:PT X e t) (i:∀ σ H Q,t' σ H Q → t σ H Q):PT X e t':=fun pins s σ H Q I q=>h pins s σ H Q I (i σ H Q q)
theorem Inv.turnedNew {pins:List (Addr × Obj)} {σ:St} {H:Hp} {s:Shared} {h':Heap} {t':Nat} {ch:List Addr} {a:Addr} {o:HO} (I:Inv X pins σ H s) (hf:∀ b ∈ ch,FpOk X pins H b)
  (k:∀ b u,b ∉ ch → s.heap.get? b = some u → h'.get? b = some u) (hp:s.heap.objs.size ≤ a) (new:acx X.prog X.w (upd H a o) h' a o) :
  Inv X pins σ (upd H a o) { s with heap:=h',toks:=t' }:=by
 have hn:H a = none:=I.hok.fresh hp
 have nch:∀ b u,H b = some u → b ∉ ch:=fun b u e z=>by
  rw [(hf b z).1] at e
  cases e
 have nea:∀ b u,H b = some u → b ≠ a:=fun b u e=>aaX e hn
 refine I.step (g':=s.gens) (d':=s.drawn) (ch:=ch) (fun b hb=>?_) (fun b u _ _ hc e _=>k b u hc e) (fun b u _ _ hc e _=>⟨u.slots,k b u hc e⟩) (fun b u _ e n=>?_)
  (fun b u hc e=>⟨u,k b u hc e⟩) (fun b xs e=>?_) (fun b u v e=>?_) (fun b ps e=>⟨#[],?_⟩) (fun m hm=>?_) (fun b u e=>?_) I.bare
 ·obtain ⟨_,f1,_,f3,f4,f5⟩:=hf b hb
  exact ⟨f3,f1,f4,f5⟩
 ·rw [aaQ (Nat.ne_of_lt (Nat.lt_of_lt_of_le (Heap.lt_size e) hp))]
  exact n
 ·rw [aaQ (nea b _ e)]
  exact e
 ·rw [aaQ (nea b _ e)]
  exact e
 ·rw [aaQ (nea b _ e),e]
  simp
 ·obtain ⟨ob,es,ep,ho,r⟩:=hm
  exact ⟨ob,es,ep,k _ ob (fun z=>(hf _ z).2.1 rfl) ho,r⟩
 ·by_cases hb:b = a
  ·subst hb
   rw [aa6] at e
   cases e
   exact new
  ·rw [aaQ hb] at e
   refine (I.hok b u e).stay (fun c v hc q=>k c v ?_ q) (fun c q=>?_) fun c xs q=>?_
   ·rcases hc with z | z
    ·rw [z]
     exact nch b u e
    ·exact nch c _ z
   ·rw [aaQ (nea c _ q)]
    exact q
   ·rw [aaQ (nea c _ q)]
    exact q
theorem Inv.turnedL {pins:List (Addr × Obj)} {σ:St} {H:Hp} {s:Shared} {h':Heap} {t':Nat} {ch:List Addr} (I:Inv X pins σ H s) (hf:∀ b ∈ ch,FpOk X pins H b)
  (k:∀ b u,b ∉ ch → s.heap.get? b = some u → h'.get? b = some u):Inv X pins σ H { s with heap:=h',toks:=t' }:=by
 have nch:∀ b u,H b = some u → b ∉ ch:=fun b u e z=>by
  rw [(hf b z).1] at e
  cases e
 refine I.step (g':=s.gens) (d':=s.drawn) (ch:=ch) (fun b hb=>?_) (fun b u _ _ hc e _=>k b u hc e) (fun b u _ _ hc e _=>⟨u.slots,k b u hc e⟩) (fun b u _ e n=>n)
  (fun b u hc e=>⟨u,k b u hc e⟩) (fun b xs e=>e) (fun b u v e=>e) (fun b ps e=>⟨#[],?_⟩) (fun m hm=>?_) (fun b u e=>?_) I.bare
 ·obtain ⟨_,f1,_,f3,f4,f5⟩:=hf b hb
  exact ⟨f3,f1,f4,f5⟩
 ·rw [e]
  simp
 ·obtain ⟨ob,es,ep,ho,r⟩:=hm
  exact ⟨ob,es,ep,k _ ob (fun z=>(hf _ z).2.1 rfl) ho,r⟩
 ·refine (I.hok b u e).stay (fun c v hc q=>k c v ?_ q) (fun c q=>q) fun c xs q=>q
  rcases hc with z | z
  ·rw [z]
   exact nch b u e
  ·exact nch c _ z
end
def Ite (K : PySem.W.Frag) (a : Addr) : It :=
  ⟨fun i H => ∃ xs x, SqL K H a xs ∧ xs[i]? = some x,
   fun i H x H' => ∃ p y, H p = none ∧ x = .ref p ∧ H' = upd H p (.tup [.int i, y]) ∧ ∀ xs, SqL K H a xs → xs[i]? = some y,
   fun i H => ∃ xs, SqL K H a xs ∧ xs.length ≤ i⟩
theorem akj {P:Program} {w:World} {K:PySem.W.Frag} {elts:List Expr} {x1:Nat} {tp:Pos} (a e it:Addr) (hne:e ≠ it) :
  Turn P w K (.Tuple elts x1 tp) (Ite K a) [e,it] e (fun i h=>(∃ old,IsEnum h e it (i:Int) old) ∧ h.IsListIter it a i) where
 mem:=by simp
 obj:=fun i h st b hb=>by
  obtain ⟨⟨old,q⟩,o,e1,c,d⟩:=st
  rcases List.mem_cons.mp hb with z | z
  ·subst z
   exact ⟨_,q,fun v z=>nomatch z⟩
  ·have z':b = it:=by simpa using z
   subst z'
   exact ⟨o,e1,fun v z=>by rw [d] at z; cases z⟩
 keep:=fun i h h' st k=>⟨let ⟨old,q⟩:=st.1; ⟨old,k e (by simp) _ q⟩,st.2.at fun o q=>k it (by simp) o q⟩
 item:=by
  intro X hP hw hK hc i pins s σ H E I hf st hg
  subst hP hw hK
  obtain ⟨xs,x,hq,hx⟩:=hg
  obtain ⟨its,rv,pl,hz⟩:=I.list hq
  obtain ⟨u,hu,ru⟩:=rv.get hx
  obtain ⟨⟨old,he⟩,hit⟩:=st
  refine wpAny_pyNext_enum_item he hit pl.isList (x:=u) (by simpa using hu) hne fun h1 ho1 hit1 ht1 hs1 hk1=>⟨_,rfl,?_⟩
  have lt1:e < s.heap.objs.size:=Heap.lt_size he
  refine wpAny_letOwnedTupleGo_enum (s:={ s with heap:=h1,toks:=s.toks + 1 }) ho1 fun h2 he2 sb2=>?_
  have ht2:h2.get? s.heap.objs.size = some { cls:=.type "tuple",data:=.seq #[.int i s.toks,u] }:=(sb2.2 _ (Nat.ne_of_gt lt1)).trans ht1
  have I2:Inv X pins σ (upd H s.heap.objs.size (.tup [.int i,x])) { s with heap:=h2,toks:=s.toks + 1 } :=
   I.turnedNew hf (fun b o hb q=>(sb2.2 b (fun z=>hb (by simp [z]))).trans (hk1 b o (fun z=>hb (by simp [z])) (fun z=>hb (by simp [z])) q)) (Nat.le_refl _)
    ⟨by show 2 ≤ sizeLine; decide,[.int i s.toks,u],.cons ⟨_,rfl⟩ (.cons ru .nil),⟨_,ht2,rfl,_,rfl⟩⟩
  refine ⟨.ref s.heap.objs.size,_,I2,rfl,⟨_,x,I.hok.fresh (Nat.le_refl _),rfl,rfl,fun ys hy=>by rw [I.list_inj hy hq]; exact hx⟩,⟨⟨_,by simpa using he2⟩,hit1.at fun o q=>(sb2.2 it hne.symm).trans q⟩,fun b hb=>?_⟩
  have hb':=(hf b hb).1
  have lt:b ≠ s.heap.objs.size:=by
   rcases List.mem_cons.mp hb with z | z
   ·subst z
    exact Nat.ne_of_lt lt1
   ·have z':b = it:=by simpa using z
    subst z'
    obtain ⟨o,q,_⟩:=hit
    exact Nat.ne_of_lt (Heap.lt_size q)
  rw [aaQ lt]
  exact hb'
 done:=by
  intro X hP hw hK hc i pins s σ H E I hf st hg
  subst hP hw hK
  obtain ⟨xs,hq,hx⟩:=hg
  obtain ⟨its,rv,pl,hz⟩:=I.list hq
  obtain ⟨⟨old,he⟩,hit⟩:=st
  have hl:=rv.length
  exact wpAny_pyNext_enum_end (I.ok.hd hc) he hit pl.isList (by simp; omega) fun h' eb=>⟨rfl,I.turnedL (t':=s.toks) hf fun b o hb q=>eb b o (fun z=>hb (by simp [z])) q⟩
 self:=fun _ _ _ _ _ st h=>let ⟨_,q⟩:=st.1; wpAny_pyIter_enum q h
section
variable {X:Cx} {elts:List Expr} {x1:Nat} {tp:Pos}
def apz (K:PySem.W.Frag) (tl:TA):TI:=fun σ H R=>tl σ H fun vs H1=>∃ a,vs = [.ref a] ∧ (∃ xs,SqL K H1 a xs) ∧ R (Ite K a) H1
theorem amT {l:Expr} {tl:TA} {p pos:Pos} (hg:Gl X "enumerate") (hm:X.mg "enumerate" = none) (hl:PA X [l] tl) (hs:starEach [l] X.env = [(false,eval l X.env)]:=by rfl) :
  PI X (.Tuple elts x1 tp) (.Call (.Name "enumerate" p) [l] [] pos) (apz X.K tl):=by
 intro pins s σ H R I h
 refine Call_ (afg I hg hm boot_enumerate (PyProof.Rows.callWith_type1 (thn (hl pos pins s σ H _ I h) fun us s1 ⟨vs,H1,I1,r1,q1⟩=>?_) hs rfl))
 obtain ⟨a,rfl,⟨xs,hq⟩,q⟩:=q1
 obtain ⟨u,rfl,ru⟩:=afr r1
 cases ru
 obtain ⟨its,rv,pl,hz⟩:=I1.list hq
 refine call_enumerate_list pl.isList fun h' he hit hsz k=>?_
 have I2:Inv X pins σ H1 { s1 with heap:=h' }:=I1.kept (t':=s1.toks) k
 refine wpAny_pyIter_enum (s:={ s1 with heap:=h' }) he ?_
 refine ⟨s1.heap.objs.size + 1,[s1.heap.objs.size + 1,s1.heap.objs.size],_,_,H1,rfl,I2,akj a _ _ (Nat.succ_ne_self _),⟨⟨_,he⟩,hit⟩,fun b hb=>?_,q⟩
 have hb':s1.heap.objs.size ≤ b:=by
  rcases List.mem_cons.mp hb with z | z
  ·rw [z]
   exact Nat.le_succ _
  ·have z':b = s1.heap.objs.size:=by simpa using z
   rw [z']
   exact Nat.le_refl _
 exact I1.fpOk hb' (I1.hok.fresh hb')
end
end L2
namespace L2
open PySem PySem.Spec PyProof.Rows Bn
def acW (env:Env):List (Str × NameKind) → List (Str × Addr) → List (Str × Addr)
 | [],acc=>acc
 | p :: r,acc=>if (p.2 == .free) = true then acW env r ((p.1,(env.cells.lookup p.1).getD 0) :: acc) else acW env r acc
theorem aj0 {sc:Scope} {env:Env} (h:∀ p ∈ sc.names,p.2 = .free → ∃ c,env.cells.lookup p.1 = some c):closureFor sc env = pure (acW env sc.names []):=by
 unfold closureFor
 have go:∀ (l:List (Str × NameKind)) (acc:List (Str × Addr)),(∀ p ∈ l,p.2 = .free → ∃ c,env.cells.lookup p.1 = some c) →
   (forIn l acc (fun x r=>if (x.2 == NameKind.free) = true then do let a ← cellOf env x.1; pure (ForInStep.yield ((x.1,a) :: r)) else pure (ForInStep.yield r)):Sem _) = pure (acW env l acc):=by
  intro l
  induction l with
  | nil=>intro acc _; rfl
  | cons p r ih =>
   intro acc hp
   rw [List.forIn_cons]
   have hr:=fun acc'=>ih acc' fun q hq=>hp q (List.mem_cons_of_mem _ hq)
   by_cases c:(p.2 == NameKind.free) = true
   ·obtain ⟨a,ea⟩:=hp p List.mem_cons_self (by simpa using c)
    have e1:cellOf env p.1 = pure a:=by unfold cellOf; rw [ea]
    rw [if_pos c,e1]
    simp only [pure_bind]
    rw [hr]
    show _ = pure (if (p.2 == .free) = true then _ else _)
    rw [if_pos c,ea]
    rfl
   ·rw [if_neg c]
    simp only [pure_bind]
    rw [hr]
    show _ = pure (if (p.2 == .free) = true then _ else _)
    rw [if_neg c]
 have e:=go sc.names [] h
 show (forIn sc.names [] _ >>= fun r=>pure r) = _
 rw [bind_pure]
 exact e
theorem adw {env:Env}:∀ (l:List (Str × NameKind)) (acc:List (Str × Addr)),(∀ p ∈ l,p.2 = .free → ∃ c,env.cells.lookup p.1 = some c) →
  ∀ y c,(acW env l acc).lookup y = some c → acc.lookup y = some c ∨ env.cells.lookup y = some c
 | [],acc,_,y,c,e=>.inl e
 | p :: r,acc,h,y,c,e=>by
  have hr:∀ q ∈ r,q.2 = .free → ∃ c,env.cells.lookup q.1 = some c:=fun q hq=>h q (List.mem_cons_of_mem _ hq)
  unfold acW at e
  by_cases k:(p.2 == NameKind.free) = true
  ·rw [if_pos k] at e
   obtain ⟨a,ea⟩:=h p List.mem_cons_self (by simpa using k)
   rcases adw r _ hr y c e with z | z
   ·rw [List.lookup_cons] at z
    cases w:y == p.1 with
    | true =>
     rw [w,ea] at z
     have hy:y = p.1:=by simpa using w
     rw [hy,ea]
     exact .inr z
    | false =>
     rw [w] at z
     exact .inl z
   ·exact .inr z
  ·rw [if_neg k] at e
   exact adw r acc hr y c e
theorem acT {env:Env}:∀ (l:List (Str × NameKind)) (acc:List (Str × Addr)) (y:Str),((∃ c,acc.lookup y = some c) ∨ (y,NameKind.free) ∈ l) → ∃ c,(acW env l acc).lookup y = some c
 | [],acc,y,h=>by
  rcases h with h | h
  ·exact h
  ·cases h
 | p :: r,acc,y,h=>by
  unfold acW
  by_cases k:(p.2 == NameKind.free) = true
  ·rw [if_pos k]
   refine acT r _ y ?_
   cases w:y == p.1 with
   | true=>exact .inl ⟨_,by rw [List.lookup_cons,w]⟩
   | false =>
    rcases h with ⟨c,h⟩ | h
    ·exact .inl ⟨c,by rw [List.lookup_cons,w]; exact h⟩
    ·rcases List.mem_cons.mp h with z | z
     ·rw [← z] at w
      simp at w
     ·exact .inr z
  ·rw [if_neg k]
   refine acT r _ y ?_
   rcases h with h | h
   ·exact .inl h
   ·rcases List.mem_cons.mp h with z | z
    ·rw [← z] at k
     simp at k
    ·exact .inr z
theorem aey {env:Env}:∀ {names:List (Str × NameKind)} {x:Str},(∀ y ∈ names,y.2 ≠ .cell) →
  (let l:=(names.map fun (n,k)=>if (k == NameKind.free && env.scope.kind == .function && env.kindOf n == some .cell) then (n,NameKind.cell) else (n,k)).lookup x; l = some .cell ∨ l = some .free) → (x,NameKind.free) ∈ names
 | [],x,_,h=>by
  rcases h with h | h <;> cases h
 | (n,k) :: r,x,hc,h=>by
  dsimp only at h
  rw [List.map_cons] at h
  have ih:=@aey env r x fun y hy=>hc y (List.mem_cons_of_mem _ hy)
  have nk:k ≠ .cell:=hc (n,k) List.mem_cons_self
  by_cases c:(k == NameKind.free && env.scope.kind == .function && env.kindOf n == some .cell) = true
  ·have kf:k = .free:=by
    simp only [Bool.and_eq_true,beq_iff_eq] at c
    exact c.1.1
   dsimp only at h
   rw [if_pos c,List.lookup_cons] at h
   cases w:x == n with
   | true =>
    have hx:x = n:=by simpa using w
    rw [hx,← kf]
    exact List.mem_cons_self
   | false =>
    rw [w] at h
    exact List.mem_cons_of_mem _ (ih h)
  ·dsimp only at h
   rw [if_neg c,List.lookup_cons] at h
   cases w:x == n with
   | true =>
    rw [w] at h
    have hx:x = n:=by simpa using w
    have kf:k = .free:=by
     rcases h with h | h
     ·exact absurd (Option.some.inj h) nk
     ·exact Option.some.inj h
    rw [hx,← kf]
    exact List.mem_cons_self
   | false =>
    rw [w] at h
    exact List.mem_cons_of_mem _ (ih h)
def adf (X:Cx) (sc:Scope) (N:List Str) (C:Addr) (s₀:Shared) (H₀:Hp) (ex:List Addr):Cx where
 prog:=X.prog
 w:=X.w
 K:=X.K
 mg:=X.mg
 base:=X.base
 A:=X.A
 N:=N
 s₀:=s₀
 H₀:=H₀
 env:=compEnvC sc (acW X.env sc.names []) C X.env
 outer:=X.stack
 stack:=X.stack
 ex:=ex
 fn:=fun _=>false
 calm:=X.calm
 pn:=[]
 xe:=fun _ _=>False
def aef (own:List Str) (cap:List (Nat × Str)) (σ:St):St:=own.map (fun _=>none) ++ cap.map fun p=>(σ[p.1]?).join
def cmpN (own:List Str) (cap:List (Nat × Str)):List Str:=own ++ cap.map (·.2)
def cmpW (J:It) (g:TG) (te:TE) (σ₀:St) (H1:Hp) (D:Addr) (Q:VK):Prop :=
 ∃ W:Nat → Nat → St → Hp → List V → Prop,(∃ m,W 0 m σ₀ (upd H1 D (.lst [])) []) ∧ ∀ i m σ H ys,W i m σ H ys → H D = some (.lst ys) ∧
  ((J.stop i H ∧ Q (.ref D) H) ∨ (J.go i H ∧ ys.length < sizeLine ∧ ∀ x H2,J.yld i H x H2 → g x σ H2 fun σ3 H3=>te σ3 H3 fun y H4=>H4 D = some (.lst ys) ∧ ∃ m',m' < m ∧ W (i + 1) m' σ3 (upd H4 D (.lst (ys ++ [y]))) (ys ++ [y])))
def ajH (own:List Str) (cap:List (Nat × Str)) (wi:TI) (g:TG) (te:TE):TE:=fun σ H Q=>wi σ H fun J H1=>∀ D,H1 D = none → cmpW J g te (aef own cap σ) H1 D Q
def Nx (n:Nat) (Pv:Nat → St → Hp → List V → Prop) (D:Addr) (i:Nat) (ys:List V) (σ:St) (y:V) (H:Hp):Prop :=
 H D = some (.lst ys) ∧ ∃ m,m < n - i ∧ (m = n - (i + 1) ∧ i + 1 ≤ n ∧ Pv (i + 1) σ (upd H D (.lst (ys ++ [y]))) (ys ++ [y]))
theorem ap9 {n:Nat} {Pv:Nat → St → Hp → List V → Prop} {D:Addr} {i:Nat} {ys:List V} {σ:St} {y:V} {H:Hp} (h:i < n) (hD:H D = some (.lst ys)) (p:Pv (i + 1) σ (upd H D (.lst (ys ++ [y]))) (ys ++ [y])):Nx n Pv D i ys σ y H :=
 ⟨hD,n - (i + 1),by omega,rfl,h,p⟩
theorem am2 {J:It} {g:TG} {te:TE} {σ₀:St} {H1:Hp} {D:Addr} {Q:VK} (n:Nat) (hn:n ≤ sizeLine) (Pv:Nat → St → Hp → List V → Prop) (h0:Pv 0 σ₀ (upd H1 D (.lst [])) [])
  (hl:∀ i σ H ys,Pv i σ H ys → ys.length = i ∧ H D = some (.lst ys)) (hgo:∀ i σ H ys,i < n → Pv i σ H ys → J.go i H)
  (hs:∀ i σ H ys x H2,i < n → Pv i σ H ys → J.yld i H x H2 → g x σ H2 fun σ3 H3=>te σ3 H3 fun y H4=>Nx n Pv D i ys σ3 y H4)
  (hd:∀ σ H ys,Pv n σ H ys → J.stop n H ∧ Q (.ref D) H):cmpW J g te σ₀ H1 D Q:=by
 refine ⟨fun i m σ H ys=>m = n - i ∧ i ≤ n ∧ Pv i σ H ys,⟨n,rfl,Nat.zero_le _,h0⟩,?_⟩
 rintro i m σ H ys ⟨rfl,hi,p⟩
 obtain ⟨l1,l2⟩:=hl i σ H ys p
 refine ⟨l2,?_⟩
 by_cases hlt:i < n
 ·exact .inr ⟨hgo i σ H ys hlt p,by omega,fun x H2 y=>hs i σ H ys x H2 hlt p y⟩
 ·have e:i = n:=by omega
  subst e
  exact .inl (hd σ H ys p)
section
variable {prog:Program} {w:World} {A:Around} {R:Result → Shared → Prop} {s:Shared}
theorem ahm {elt target iter:Expr} {sc:Scope} {pos:Pos} {it acc:Value} {env:Env} (I:Nat → Shared → Prop)
  (turn:∀ n s,I n s → wpAny (model prog w) A (pyNext it) (fun r s1=>match r with
   | none=>R (.ok .next) s1
   | some v=>wpAny (model prog w) A (letOwnedTupleGo target it v) (fun _ s2=>wpAny (model prog w) A (assign target env v) (fun _ s3=>wpAny (model prog w) A (eval elt env)
     (fun x s4=>wpAny (model prog w) A (call (.builtin "list.append") [acc,x]) (fun _ s5=>∃ m,m < n ∧ I m s5) (fun _ _=>False) s4) (fun _ _=>False) s3) (fun _ _=>False) s2) (fun _ _=>False) s1) (fun _ _=>False) s)
  (n:Nat) (h:I n s):codeAny (model prog w) A (.compLoop (.ListComp elt [⟨target,iter,[],0⟩] sc pos) 0 it acc env) R s:=by
 refine codeAny_loop rfl I (fun n s hI=>?_) n h
 show wpAny _ _ ((compTurn (.ListComp elt [⟨target,iter,[],0⟩] sc pos) 0 it acc env).onRaise (fun x=>do noteFrame x env; theTreesLotGoes x)) _ _ s
 refine wpAny_noted ?_
 rw [compTurn_list1]
 refine wpAny_bind (wpAny_standAt (wpAny_bind ?_))
 refine wpAny_mono (turn n s hI) (fun r s1 h1=>?_) fun _ _ z=>z.elim
 cases r with
 | none=>exact wpAny_pure h1
 | some v =>
  refine wpAny_bind (wpAny_mono h1 (fun _ s2 h2=>?_) fun _ _ z=>z.elim)
  refine wpAny_bind (wpAny_mono h2 (fun _ s3 h3=>?_) fun _ _ z=>z.elim)
  refine wpAny_bind (wpAny_bind (wpAny_mono h3 (fun x s4 h4=>?_) fun _ _ z=>z.elim))
  refine wpAny_bind (wpAny_mono h4 (fun _ s5 h5=>?_) fun _ _ z=>z.elim)
  exact wpAny_pure (wpAny_pure ⟨rfl,h5⟩)
end
structure aeE (X:Cx) (sc:Scope) (own:List Str) (cap:List (Nat × Str)):Prop where
 kind:sc.kind = .function
 names:∀ y ∈ sc.names,y.2 = .local → sc.names.lookup y.1 = some .local
 nocell:∀ y ∈ sc.names,y.2 ≠ .cell
 free:∀ y ∈ sc.names,y.2 = .free → X.env.kindOf y.1 = some .cell
 at':∀ p ∈ cap,X.N[p.1]? = some p.2
 cap:∀ p ∈ cap,sc.names.lookup p.2 = some .free
section
variable {X:Cx} {sc:Scope} {own:List Str} {cap:List (Nat × Str)} {pins:List (Addr × Obj)} {σ:St} {H:Hp} {s:Shared}
theorem aeE.has (k:aeE X sc own cap) (ok:X.Ok):∀ p ∈ sc.names,p.2 = .free → ∃ c,X.env.cells.lookup p.1 = some c:=fun p hp e=>ok.has p.1 (.inl (k.free p hp e))
theorem acz {env:Env}:∀ {names:List (Str × NameKind)} {x:Str},env.scope.kind = .function → names.lookup x = some .free → env.kindOf x = some .cell →
  (names.map fun (n,k)=>if (k == NameKind.free && env.scope.kind == .function && env.kindOf n == some .cell) then (n,NameKind.cell) else (n,k)).lookup x = some .cell
 | [],x,_,h,_=>by cases h
 | (n,k) :: r,x,hk,h,hx=>by
  rw [List.map_cons]
  dsimp only
  rw [List.lookup_cons] at h
  cases w:x == n with
  | true =>
   rw [w] at h
   have e:x = n:=by simpa using w
   have kf:k = .free:=Option.some.inj h
   have c:(k == NameKind.free && env.scope.kind == .function && env.kindOf n == some .cell) = true:=by
    rw [kf,hk,← e,hx]
    decide
   rw [if_pos c,List.lookup_cons,w]
  | false =>
   rw [w] at h
   have ih:=@acz env r x hk h hx
   by_cases c:(k == NameKind.free && env.scope.kind == .function && env.kindOf n == some .cell) = true
   ·rw [if_pos c,List.lookup_cons,w]
    exact ih
   ·rw [if_neg c,List.lookup_cons,w]
    exact ih
theorem Inv.cmp (k:aeE X sc own cap) {h4:Heap} {fp:List Addr} {m:Str → Option Value} {t':Nat} (I:Inv X pins σ H s) (hf:∀ b ∈ fp,FpOk X pins H b) (hlt:∀ b ∈ fp,b < s.heap.objs.size) (hns:h4.Ns s.heap.objs.size m)
  (kp:∀ b o,s.heap.get? b = some o → h4.get? b = some o):Inv (adf X sc (cmpN own cap) s.heap.objs.size s H fp) [] (aef own cap σ) H { s with heap:=h4,toks:=t' }:=by
 have hcl:∀ y c,(acW X.env sc.names []).lookup y = some c → X.env.cells.lookup y = some c:=fun y c e=>by
  rcases adw sc.names [] (k.has I.ok) y c e with z | z
  ·cases z
  ·exact z
 have nst:∀ b ∈ fp,b ∉ frs X.stack:=fun b hb z=>by
  rcases List.mem_cons.mp (I.stkSub b z) with e | e
  ·exact (hf b hb).2.1 e
  ·exact (hf b hb).2.2.1 e
 refine ⟨⟨I.ok.mod,k.kind,I.ok.glob,I.ok.blt,Nat.le_refl _,fun x y c h1 h2=>I.ok.inj x y c (hcl x c h1) (hcl y c h2),fun x hx=>?_,fun x c e=>(nomatch e),I.ok.hd,I.ok.frames,.inl rfl,fun b hb=>⟨Nat.ne_of_lt (hlt b hb),fun x c e=>(hf b hb).2.2.2.2.1 x c (hcl x c e)⟩,
  I.bs,Nat.le_trans I.ok.bsz I.sz,fun b o e hb=>?_,nst,I.stack,I.stkFree⟩,rfl,I.bare,Un.kept kp,⟨m,hns,fun i x v h1 h2 h3=>?_⟩,fun x c e=>?_,I.hok.fresh (Nat.le_refl _),fun x c e=>I.freeC x c (hcl x c e),fun p hp=>absurd (show p ∈ ([]:List (Addr × Obj)) from hp) (by simp),I.hok.kept kp,?_⟩
 ·exact acT sc.names [] x (.inr (aey k.nocell hx))
 ·rcases (hf b hb).2.2.2.1 with z | z
  ·exact I.ok.noex b o e z
  ·exact absurd (Nat.lt_of_lt_of_le (Heap.lt_size (I.ok.bs b o e).1) z) (Nat.lt_irrefl _)
 ·have hN:(cmpN own cap)[i]? = some x:=h1
  unfold cmpN at hN
  unfold aef at h2
  by_cases hi:i < own.length
  ·rw [List.getElem?_append_left (by simpa using hi),List.getElem?_map] at h2
   cases e:own[i]? with
   | none=>rw [e] at h2; cases h2
   | some z=>rw [e] at h2; cases h2
  ·rw [List.getElem?_append_right (by simpa using hi),List.getElem?_map,List.length_map] at h2
   rw [List.getElem?_append_right (by omega),List.getElem?_map] at hN
   cases e:cap[i - own.length]? with
   | none=>rw [e] at h2; cases h2
   | some p =>
    rw [e] at h2 hN
    have hp:p ∈ cap:=List.mem_of_getElem? e
    have hx:p.2 = x:=Option.some.inj hN
    have hv:(σ[p.1]?).join = some v:=Option.some.inj h2
    have hv':σ[p.1]? = some (some v):=by
     cases e2:σ[p.1]? with
     | none=>rw [e2] at hv; cases hv
     | some z=>rw [e2] at hv; exact congrArg some hv
    have fr:=k.cap p hp
    have kc:X.env.kindOf p.2 = some .cell:=k.free (p.2,.free) (PySem.mem_of_lookup fr) rfl
    obtain ⟨m0,_,hl⟩:=I.loc
    obtain ⟨u,ru,lk⟩:=hl p.1 p.2 v (k.at' p hp) hv' (.inr (.inl kc))
    refine ⟨u,ru,?_⟩
    rcases lk with ⟨k1,_⟩ | ⟨_,c,ec,cell⟩
    ·rw [kc] at k1
     cases k1
    ·rw [← hx]
     obtain ⟨c',ec'⟩:=acT (env:=X.env) sc.names [] p.2 (.inr (PySem.mem_of_lookup fr))
     have:=(hcl _ _ ec').symm.trans ec
     cases this
     obtain ⟨o,ho,hd⟩:=cell
     exact .inr ⟨.inl (acz I.ok.kind fr kc),c,ec',o,kp c o ho,hd⟩
 ·obtain ⟨v,o,ho,hd⟩:=I.cell x c (hcl x c e)
  exact ⟨v,o,kp c o ho,hd⟩
 ·unfold aef
  show _ = (cmpN own cap).length
  unfold cmpN
  rw [List.length_append,List.length_append,List.length_map,List.length_map,List.length_map]
theorem Inv.uncmp {s3 s':Shared} {H3 H':Hp} {N:List Str} {σ':St} {C:Addr} {fp:List Addr} {pl:List (Addr × Obj)} (I:Inv X pins σ H s) (hf:∀ b ∈ fp,FpOk X pins H b) (u:Un (frs X.stack) fp H H3 s.heap s3.heap) (os:s3.os = s.os)
  (J:Inv (adf X sc N C s3 H3 fp) pl σ' H' s'):Inv X pins σ H' s':=by
 have os':s'.os = s.os:=(show s'.os = s3.os from J.os).trans os
 refine I.call' (ch:=fp) os' (u.trans J.base) J.hok J.bare fun b hb=>?_
 obtain ⟨_,f1,_,f3,f4,f5⟩:=hf b hb
 exact ⟨f3,f1,f4,f5⟩
end
end L2
namespace L2
open PySem PySem.Spec PyProof.Rows Bn
section
variable {X:Cx} {sc:Scope} {own:List Str} {cap:List (Nat × Str)} {pins:List (Addr × Obj)} {σ:St} {H:Hp} {s:Shared} {elt target iter:Expr} {pos pos':Pos} {wi:TI} {g:TG} {te:TE} {Q:VK}
theorem agR {use:Option (Value → Sem Unit)} {Qf:Value → Shared → Prop} (k:aeE X sc own cap) (hi:PI X target iter wi) (hc:X.calm = true)
  (hg:∀ C s₀ H₀ ex,PG (adf X sc (cmpN own cap) C s₀ H₀ ex) target g) (he:∀ C s₀ H₀ ex,PE (adf X sc (cmpN own cap) C s₀ H₀ ex) elt te) (I:Inv X pins σ H s) (h:ajH own cap wi g te σ H Q)
  (fin:∀ D C s' H' m,Inv X pins σ H' s' → FpOk X pins H' C → s'.heap.Ns C m → Q (.ref D) H' → compPost (model X.prog X.w) X.A X.xe use Qf (.ref D) C (.ok .next) s')
  (hs:∀ x,foldedSetIterable iter X.env x = pure x) :
  wpAny (model X.prog X.w) X.A (comprehension (.ListComp elt [⟨target,iter,[],0⟩] sc pos) sc X.env pos' (newList []) false (eval iter X.env) use) Qf X.xe s:=by
 refine wpAny_comprehension_free (use:=use) rfl hs (aj0 (k.has I.ok)) k.kind k.names ?_
 refine thn (hi pins s σ H _ I h) fun v s1 h1=>thn h1 fun itv s2 h2=>?_
 obtain ⟨it,fp,tn,J,H2,e,I2,T,st2,f2,hW⟩:=h2
 subst e
 refine wpAny_newObj_type (wpAny_newFunctionEnv k.nocell (fun y hy=>nomatch hy) (fun h4 hns hsb=>?_) k.kind)
 have I3:Inv X pins σ (upd H2 s2.heap.objs.size (.lst [])) { s2 with heap:=s2.heap.push { cls:=.type "list",data:=.seq ([]:List Value).toArray },toks:=s2.toks }:=I2.lnew (ys:=[]) (its:=[]) .nil (Nat.zero_le _)
 have hD:H2 s2.heap.objs.size = none:=I2.fresh
 have ltf:∀ b ∈ fp,b < s2.heap.objs.size:=fun b hb=>by
  obtain ⟨o,ho,_⟩:=T.obj _ _ st2 b hb
  exact Heap.lt_size ho
 have f3:∀ b ∈ fp,FpOk X pins (upd H2 s2.heap.objs.size (.lst [])) b:=fun b hb=>⟨by rw [aaQ (Nat.ne_of_lt (ltf b hb))]; exact (f2 b hb).1,(f2 b hb).2⟩
 have un:Un (frs X.stack) fp H2 (upd H2 s2.heap.objs.size (.lst [])) s2.heap (s2.heap.push { cls:=.type "list",data:=.seq ([]:List Value).toArray }):=Un.laid (fun b u q=>Heap.get?_push_of_some _ q) (Nat.le_refl _) hD
 have kp:∀ b o,(s2.heap.push { cls:=.type "list",data:=.seq ([]:List Value).toArray }).get? b = some o → h4.get? b = some o:=fun b o q=>hsb.extBut b o (Nat.ne_of_lt (Heap.lt_size q)) (Heap.get?_push_of_some _ q)
 have J0:=I3.cmp (t':=s2.toks + ([]:List (Str × Value)).length) k f3 (fun b hb=>Nat.lt_of_lt_of_le (ltf b hb) (by rw [Heap.size_push]; exact Nat.le_succ _)) hns kp
 have stat:∀ {H':Hp},(∀ b ∈ fp,H' b = none) → ∀ b ∈ fp,FpOk (adf X sc (cmpN own cap) (s2.heap.push { cls:=.type "list",data:=.seq ([]:List Value).toArray }).objs.size { s2 with heap:=s2.heap.push { cls:=.type "list",data:=.seq ([]:List Value).toArray },toks:=s2.toks } (upd H2 s2.heap.objs.size (.lst [])) fp) [] H' b:=fun hn b hb =>
  ⟨hn b hb,(J0.ok.exf b hb).1,J0.ok.exfs b hb,.inl hb,(J0.ok.exf b hb).2,fun p hp=>absurd (show p ∈ ([]:List (Addr × Obj)) from hp) (by simp)⟩
 have st4:tn 0 h4:=T.keep _ _ _ st2 fun b hb o q=>kp b o (Heap.get?_push_of_some _ q)
 have fr0:∀ b ∈ fp,(upd H2 s2.heap.objs.size (.lst [])) b = none:=fun b hb=>(f3 b hb).1
 have loop:codeAny (model X.prog X.w) X.A (.compLoop (.ListComp elt [⟨target,iter,[],0⟩] sc pos) 0 (.ref it) (.ref s2.heap.objs.size) (compEnvC sc (acW X.env sc.names []) (s2.heap.push { cls:=.type "list",data:=.seq ([]:List Value).toArray }).objs.size X.env))
   (compPost (model X.prog X.w) X.A X.xe use Qf (.ref s2.heap.objs.size) (s2.heap.push { cls:=.type "list",data:=.seq ([]:List Value).toArray }).objs.size) { s2 with heap:=h4,toks:=s2.toks + ([]:List (Str × Value)).length }:=by
  obtain ⟨W,⟨m0,w0⟩,turn⟩:=hW s2.heap.objs.size hD
  refine ahm (fun n s'=>∃ i σ' H' ys,Inv (adf X sc (cmpN own cap) (s2.heap.push { cls:=.type "list",data:=.seq ([]:List Value).toArray }).objs.size { s2 with heap:=s2.heap.push { cls:=.type "list",data:=.seq ([]:List Value).toArray },toks:=s2.toks } (upd H2 s2.heap.objs.size (.lst [])) fp) [] σ' H' s' ∧ tn i s'.heap ∧ (∀ b ∈ fp,H' b = none) ∧ W i n σ' H' ys) ?_ m0
   ⟨0,_,_,[],J0,st4,fr0,w0⟩
  rintro n s5 ⟨i,σ5,H5,ys,I5,st5,fr5,w5⟩
  obtain ⟨hD5,w5⟩:=turn i n σ5 H5 ys w5
  rcases w5 with ⟨stop,qn⟩ | ⟨go,hlt,step⟩
  ·refine thn (T.done (adf X sc (cmpN own cap) (s2.heap.push { cls:=.type "list",data:=.seq ([]:List Value).toArray }).objs.size { s2 with heap:=s2.heap.push { cls:=.type "list",data:=.seq ([]:List Value).toArray },toks:=s2.toks } (upd H2 s2.heap.objs.size (.lst [])) fp) rfl rfl rfl hc i [] s5 σ5 H5 _ I5 (stat fr5) st5 stop) fun r s6 ⟨hr,I6⟩=>?_
   subst hr
   obtain ⟨m,hn,_⟩:=id I6.loc
   exact fin _ _ s6 H5 m (I2.uncmp (s3:={ s2 with heap:=s2.heap.push { cls:=.type "list",data:=.seq ([]:List Value).toArray },toks:=s2.toks }) f2 un rfl I6) (I3.fpOk (Nat.le_refl _) I6.free) hn qn
  ·refine thn (T.item (adf X sc (cmpN own cap) (s2.heap.push { cls:=.type "list",data:=.seq ([]:List Value).toArray }).objs.size { s2 with heap:=s2.heap.push { cls:=.type "list",data:=.seq ([]:List Value).toArray },toks:=s2.toks } (upd H2 s2.heap.objs.size (.lst [])) fp) rfl rfl rfl hc i [] s5 σ5 H5 _ I5 (stat fr5) st5 go) fun r s6 ⟨u,hr,h6⟩=>?_
   subst hr
   refine thn h6 fun _ s7 ⟨x,H7,I7,r7,y7,st7,fr7⟩=>?_
   have I7':=I7.pinned (stat fr7) (T.obj _ _ st7)
   refine thn (hg _ _ _ _ _ s7 σ5 H7 x u _ I7' r7 (step x H7 y7)) fun _ s8 ⟨σ8,H8,I8,q8⟩=>?_
   refine thn (he _ _ _ _ _ s8 σ8 H8 _ I8 q8) fun v9 s9 ⟨y,H9,I9,r9,hD9,m',hm,w9⟩=>?_
   refine thn (adV _ s9 σ8 H9 (.ref s2.heap.objs.size) [y] (.ref s2.heap.objs.size) [v9] (fun _ H'=>H' = upd H9 s2.heap.objs.size (.lst (ys ++ [y]))) I9 rfl (.cons r9 .nil) ⟨_,ys,y,rfl,rfl,hD9,hlt,rfl⟩) fun _ s10 ⟨_,H10,I10,_,q10⟩=>?_
   subst q10
   refine ⟨m',hm,i + 1,σ8,_,_,I10.unpinned,T.keep _ _ _ st7 fun b hb o q=>(I10.pin (b,o) (List.mem_append_right _ (List.mem_append_right _ (aci hb q)))).1,fun b hb=>?_,w9⟩
   obtain ⟨o,q,d⟩:=T.obj _ _ st7 b hb
   exact (I10.pin (b,o) (List.mem_append_right _ (List.mem_append_right _ (aci hb q)))).2.1
 exact codeAny_compStart_list loop (T.self _ 0 _ _ _ st4 loop)
theorem ang (k:aeE X sc own cap) (hi:PI X target iter wi) (hc:X.calm = true)
  (hg:∀ C s₀ H₀ ex,PG (adf X sc (cmpN own cap) C s₀ H₀ ex) target g) (he:∀ C s₀ H₀ ex,PE (adf X sc (cmpN own cap) C s₀ H₀ ex) elt te)
  (hs:∀ x,foldedSetIterable iter X.env x = pure x:=by intro _; rfl):PE X (.ListComp elt [⟨target,iter,[],0⟩] sc pos) (ajH own cap wi g te):=by
 intro pins s σ H Q I h
 rw [eval_ListComp]
 refine agR (use:=none) k hi hc hg he I h (fun D C s' H' m I' fC hn q=>?_) hs
 refine ⟨m,hn,fun h' sb=>⟨.ref D,H',?_,rfl,q⟩⟩
 obtain ⟨f0,f1,f2,f3,f4,f5⟩:=fC
 exact I'.turned (t':=s'.toks) (fun b o hb e=>(sb.2 b hb).trans e) f0 f1 f3 f4 f5
theorem aj7 {i:Nat} {x:Str} {py spos:Pos} (hN:X.N.Nodup) (hx:X.N[i]? = some x) (hl:Loc X.env.scope x) (k:aeE X sc own cap) (hi:PI X target iter wi) (hc:X.calm = true)
  (hg:∀ C s₀ H₀ ex,PG (adf X sc (cmpN own cap) C s₀ H₀ ex) target g) (he:∀ C s₀ H₀ ex,PE (adf X sc (cmpN own cap) C s₀ H₀ ex) elt te)
  (hs:∀ x,foldedSetIterable iter X.env x = pure x:=by intro _; rfl) (hsw:swapsWith (.ListComp elt [⟨target,iter,[],0⟩] sc pos) (some (.Name x py)) spos.line X.env = pure true:=by rfl)
  (hf:X.fn x = true ∨ X.env.scope.names.lookup x = some .local:=by first | exact .inl rfl | exact .inr rfl | assumption) :
  PS X (.Assign [.Name x py] (.ListComp elt [⟨target,iter,[],0⟩] sc pos) spos) (tAsg (ajH own cap wi g te) (amA i)):=by
 intro pins s σ H D I h
 rw [exec_Assign_Name_used _ _ _ _ hsw]
 refine wpAny_bind (wpAny_standAt (wpAny_bind ?_))
 show wpAny _ X.A (comprehension (.ListComp elt [⟨target,iter,[],0⟩] sc pos) sc X.env _ (newList []) false (eval iter X.env) (some (assign (.Name x py) X.env)) >>= fun _=>pure ()) _ _ s
 refine wpAny_bind (thn (agR (use:=some (assign (.Name x py) X.env)) (Qf:=fun _ s'=>SP X pins D .next s') k hi hc hg he I h (fun B C s' H' m I' fC hn q=>?_) hs) fun _ s' hq=>wpAny_pure (wpAny_pure hq))
 show wpAny _ _ (assign (.Name x py) X.env (.ref B)) _ _ s'
 obtain ⟨o,es,ep,ho,hd,r⟩:=hn
 obtain ⟨f0,f1,f2,f3,f4,f5⟩:=fC
 have I'':Inv X (pins ++ [(C,o)]) σ H' s':=I'.pins_of fun p hp=>(List.mem_append.mp hp).elim (fun z=>I'.pin p (List.mem_append_right _ z)) fun z=>by
  have e:p = (C,o):=by simpa using z
  subst e
  exact ⟨ho,f0,f1,f2,fun v z=>by rw [hd] at z; cases z⟩
 refine wpAny_assign_Name (acF I'' hN hx hl (v:=.ref B) rfl (fun s2 I2=>?_) hf)
 have pC:=I2.pin (C,o) (by simp)
 refine ⟨m,⟨o,es,ep,pC.1,hd,r⟩,fun h' sb=>⟨_,H',?_,q⟩⟩
 exact (I2.unpinned).turned (t':=s2.toks) (fun b o hb e=>(sb.2 b hb).trans e) f0 f1 f3 f4 f5
end
section
variable {X:Cx}
theorem agt (hc:X.calm = true):ad4 X (.builtin "all") (fun xs H Q=>∃ (a:Addr) (bs:List Bool),xs = [.ref a] ∧ SqL X.K H a (bs.map V.bl) ∧ Q (.bl (bs.all id)) H):=by
 intro pins s σ H xs us Q I r h
 obtain ⟨a,bs,rfl,hq,q⟩:=h
 obtain ⟨u,rfl,ru⟩:=afr r
 cases ru
 obtain ⟨its,rv,pl,hz⟩:=I.list hq
 have hl:bs.length = its.length:=by
  have:=rv.length
  rwa [List.length_map] at this
 refine call_all_walk (wpAny_pyIter_list pl.isList ?_)
 have ha:a < s.heap.objs.size:=by
  obtain ⟨o,ho,_⟩:=pl.isList
  exact Heap.lt_size ho
 refine ⟨_,_,_,_,_,_,fun i=>bs.getD i true,rfl,Walks.list (prog:=X.prog) (w:=X.w) (A:=X.A.in1) (show X.A.in1.handled = none from I.ok.hd hc) s.heap.objs.size a (Nat.ne_of_lt ha) its.toArray,⟨⟨_,Heap.get?_push_size _ rfl,rfl,rfl⟩,Heap.IsList.at pl.isList fun o e=>Heap.get?_push_of_some _ e⟩,fun i v s' Q' E' hv hQ=>?_,fun h' tk kp=>?_⟩
 ·have hv':its[i]? = some v:=by simpa using hv
  have hi:i < bs.length:=by
   have:=(List.getElem?_eq_some_iff.mp hv').1
   omega
  obtain ⟨u,hu,ru⟩:=rv.get (i:=i) (x:=.bl bs[i]) (by rw [List.getElem?_map,List.getElem?_eq_getElem hi]; rfl)
  rw [hv'] at hu
  cases hu
  cases (show v = Value.bool bs[i] from ru)
  have e:bs.getD i true = bs[i]:=by simp [List.getD,hi]
  have hQ':Q' (bs.getD i true) s':=hQ
  rw [e] at hQ'
  exact wpAny_truthy_bool hQ'
 ·have e:(List.range its.toArray.size).all (fun i=>bs.getD i true) = bs.all id:=by
   rw [List.size_toArray,← hl,Bool.eq_iff_iff,List.all_eq_true,List.all_eq_true]
   constructor
   ·intro z b hb
    obtain ⟨i,hi,rfl⟩:=List.mem_iff_getElem.mp hb
    have:=z i (by simpa using hi)
    simpa [List.getD,hi] using this
   ·intro z i hi
    have hi':i < bs.length:=by simpa using hi
    have:=z bs[i] (List.getElem_mem hi')
    simpa [List.getD,hi'] using this
  show EP X pins σ Q (.bool ((List.range its.toArray.size).all fun i=>bs.getD i true)) _
  rw [e]
  have I1:Inv X pins σ H { s with heap:=s.heap.push { cls:=.type "list_iterator",data:=.fields #[.ref a,.int 0 0] },toks:=s.toks }:=I.kept fun b o z=>Heap.get?_push_of_some _ z
  have fp:FpOk X pins H s.heap.objs.size:=I.fpOk (Nat.le_refl _) (I.hok.fresh (Nat.le_refl _))
  obtain ⟨f0,f1,f2,f3,f4,f5⟩:=fp
  exact ⟨.bl (bs.all id),H,I1.turned (fun b o hb z=>kp b o (by simpa using hb) z) f0 f1 f3 f4 f5,rfl,q⟩
end
end L2
namespace L2
open PySem Bn
section
variable {prog:Program} {w:World} {A:Around} {E:Value → Shared → Prop} {s:Shared}
theorem aiZ {it t:Addr} {i:Nat} {items:Array Value} {x:Value} {Q:Value → Shared → Prop} (git:s.heap.IsTupleIter it t i) (gt:s.heap.IsTuple t items) (gx:items[i]? = some x)
  (gQ:∀ h',h'.IsTupleIter it t (i + 1) → Heap.SameBut it s.heap h' → Q x { s with heap:=h' }):wpAny (model prog w) A (Builtin.SmallTypes.nextOf (.ref it)) Q E s:=by
 obtain ⟨o,go,gc,gd⟩:=id git
 obtain ⟨ol,gol,_,nl,gdl⟩:=gt
 unfold Builtin.SmallTypes.nextOf
 refine wpAny_bind (wpAny_callSpecial?_slot (name:=Str.ofString "__next__") git.typeIs F.slot_tuple_iterator_next (wpAny_call_entry F.slot_tuple_iterator_next git.typeIs F.entry_tuple_iterator_next ?_ (F.args_tuple_iterator_next_1 _)))
 show wpAny _ _ (field (.ref it) 0 >>= _) _ _ s
 refine wpAny_bind (wpAny_field go gd (x:=.ref t) rfl ?_)
 show wpAny _ _ (if (Value.ref t == Value.none) = true then _ else _) _ _ s
 rw [if_neg (show ¬ ((Value.ref t == Value.none) = true) from Bool.false_ne_true)]
 show wpAny _ _ (field (.ref it) 1 >>= _) _ _ s
 refine wpAny_bind (wpAny_field go gd (x:=.int i 0) rfl ?_)
 show wpAny _ _ (seqItems? (.ref t) >>= _) _ _ s
 refine wpAny_bind (wpAny_seqItems gol gdl ?_)
 simp only [Int.toNat_natCast,gx]
 refine wpAny_bind (wpAny_setField go gd (by simp) (wpAny_pure ⟨_,rfl,wpAny_pure (gQ _ ?_ (Heap.SameBut.update ..))⟩))
 refine ⟨_,Heap.get?_update_self _ go (Obj.isFreed_of_fields (Obj.data_mapFields gd _)),(Obj.cls_mapFields ..).trans gc,?_⟩
 rw [Obj.data_mapFields gd]
 simp [rawInt]
theorem afs {it t:Addr} {i:Nat} {items:Array Value} {Q:Value → Shared → Prop} (hh:A.handled = none) (git:s.heap.IsTupleIter it t i) (gt:s.heap.IsTuple t items) (gx:items[i]? = none)
  (gE:∀ h' e,Heap.ExtBut it s.heap h' → (∃ o,h'.get? e = some o ∧ o.cls = .type "StopIteration") → E (.ref e) { s with heap:=h' }):wpAny (model prog w) A (Builtin.SmallTypes.nextOf (.ref it)) Q E s:=by
 obtain ⟨o,go,gc,gd⟩:=id git
 obtain ⟨ol,gol,_,nl,gdl⟩:=gt
 unfold Builtin.SmallTypes.nextOf
 refine wpAny_bind (wpAny_callSpecial?_slot (name:=Str.ofString "__next__") git.typeIs F.slot_tuple_iterator_next (wpAny_call_entry F.slot_tuple_iterator_next git.typeIs F.entry_tuple_iterator_next ?_ (F.args_tuple_iterator_next_1 _)))
 show wpAny _ _ (field (.ref it) 0 >>= _) _ _ s
 refine wpAny_bind (wpAny_field go gd (x:=.ref t) rfl ?_)
 show wpAny _ _ (if (Value.ref t == Value.none) = true then _ else _) _ _ s
 rw [if_neg (show ¬ ((Value.ref t == Value.none) = true) from Bool.false_ne_true)]
 show wpAny _ _ (field (.ref it) 1 >>= _) _ _ s
 refine wpAny_bind (wpAny_field go gd (x:=.int i 0) rfl ?_)
 show wpAny _ _ (seqItems? (.ref t) >>= _) _ _ s
 refine wpAny_bind (wpAny_seqItems gol gdl ?_)
 simp only [Int.toNat_natCast,gx]
 first
  | refine wpAny_bind (wpAny_rule (wpAny_bind (wpAny_setField go gd (by simp) (wpAny_bind (wpAny_letGo ?_)))))
  | refine wpAny_bind (wpAny_rule (wpAny_bind (wpAny_setField go gd (by simp) ?_)))
 show wpAny _ _ (newExc (.type "StopIteration") [] >>= _) _ _ _
 refine wpAny_bind ?_
 simp only [newExc,newTuple]
 refine wpAny_bind (wpAny_newObj_type ?_ (by size_fits))
 refine wpAny_bind (m:=firstArgMember _ _) (wpAny_of_eq (a:=Value.none) (by first | rfl | (simp only [firstArgMember]; rfl)) ?_)
 refine wpAny_newObj_type ?_ (by size_fits)
 simp only [raiseNew]
 refine wpAny_bind (wpAny_handled ?_)
 first
  | rw [show A.in1.handled = none from hh]
  | rw [hh]
 refine wpAny_bind (wpAny_pure (wpAny_throw ?_))
 exact gE _ _ (((Heap.SameBut.update ..).extBut.push _).push _) ⟨_,Heap.get?_push_size _ rfl,rfl⟩
end
theorem alv {prog:Program} {w:World} {A:Around} (hh:A.handled = none) (it t:Addr) (hne:t ≠ it) (items:Array Value) :
  Draws prog w A it [it,t] items.size (fun i v=>items[i]? = some v) (fun i h=>h.IsTupleIter it t i ∧ h.IsTuple t items) where
 live:=fun _ _ st=>let ⟨o,ho,_⟩:=st.1; ⟨o,ho⟩
 frame:=fun _ _ _ st hk=>⟨let ⟨o,ho,r⟩:=st.1; ⟨o,hk it (by simp) o ho,r⟩,let ⟨o,ho,r⟩:=st.2; ⟨o,hk t (by simp) o ho,r⟩⟩
 item:=fun i s Q E hi st hQ=>by
  refine aiZ st.1 st.2 (x:=items[i]) (by simp [hi]) fun h' hit' hs'=>?_
  exact hQ _ h' s.toks (by simp [hi]) ⟨hit',st.2.extBut hs'.extBut hne⟩ hs'
 done:=fun s Q E st hE=>afs hh st.1 st.2 (by simp) hE
structure ZAp (z TI TO i1 i2:Addr) (fp1 fp2:List Addr):Prop where
 tiz:TI ≠ z
 toz:TO ≠ z
 tito:TI ≠ TO
 ti1:TI ≠ i1
 ti2:TI ≠ i2
 z1:z ∉ fp1
 z2:z ∉ fp2
 to1:TO ∉ fp1
 to2:TO ∉ fp2
 i12:i1 ∉ fp2
 i21:i2 ∉ fp1
 m1:i1 ∈ fp1
 m2:i2 ∈ fp2
section
variable {prog:Program} {w:World} {A:Around} {E:Value → Shared → Prop} {s:Shared} {z TI TO i1 i2:Addr} {fp1 fp2:List Addr} {n1 n2 i:Nat} {P1 P2:Nat → Value → Prop} {S1 S2:Nat → Heap → Prop} {a b:Value}
theorem aj8 {Q:Value → Shared → Prop} (D1:Draws prog w A i1 fp1 n1 P1 S1) (D2:Draws prog w A i2 fp2 n2 P2 S2) (ap:ZAp z TI TO i1 i2 fp1 fp2) (gz:IsZip s.heap z TI TO .none) (gTI:IsPair s.heap TI (.ref i1) (.ref i2)) (gTO:IsPair s.heap TO a b)
  (g1:S1 i s.heap) (g2:S2 i s.heap) (l1:i < n1) (l2:i < n2)
  (gQ:∀ h' tk x y,P1 i x → P2 i y → IsZip h' z TI TO (rawInt s.heap.objs.size) → IsPair h' TO x y → S1 (i + 1) h' → S2 (i + 1) h' → IsPair h' s.heap.objs.size x y →
   (∀ c o,c ≠ z → c ≠ TO → c ≠ i1 → c ≠ i2 → s.heap.get? c = some o → h'.get? c = some o) → Q (.ref s.heap.objs.size) { s with heap:=h',toks:=tk }) :
  wpAny (model prog w) A (Builtin.«zip.__next__» ⟨[.ref z],[]⟩) (fun fin s'=>∃ v,fin = .done (.ret v) ∧ Q v s') E s:=by
 have nz1:i1 ≠ z:=fun q=>ap.z1 (q ▸ ap.m1)
 have nz2:i2 ≠ z:=fun q=>ap.z2 (q ▸ ap.m2)
 have nt1:TO ≠ i1:=fun q=>ap.to1 (q ▸ ap.m1)
 have nt2:TO ≠ i2:=fun q=>ap.to2 (q ▸ ap.m2)
 show wpAny _ _ (field (.ref z) 2 >>= _) _ _ _
 refine wpAny_bind (wpAny_field gz rfl (x:=.bool false) rfl ?_)
 show wpAny _ _ (field (.ref z) 3 >>= _) _ _ _
 refine wpAny_bind (wpAny_field gz rfl (x:=.ref TI) rfl ?_)
 refine wpAny_bind (wpAny_seqItems gTI rfl ?_)
 show wpAny _ _ (Builtin.SmallTypes.ownedTupleIsFree (.ref z) >>= _) _ _ _
 refine wpAny_bind ?_
 unfold Builtin.SmallTypes.ownedTupleIsFree
 refine wpAny_bind (wpAny_field gz rfl (x:=.none) rfl (wpAny_pure ?_))
 simp only [if_true]
 refine wpAny_bind (wpAny_rule ?_)
 refine wpAny_bind (wpAny_field gz rfl (x:=.ref TO) rfl ?_)
 refine wpAny_bind (wpAny_setField_rec gz (by simp) fun h1 gz1 s1=>?_)
 replace gz1:IsZip h1 z TI TO .ellipsis:=gz1
 refine wpAny_bind ?_
 simp only [List.zipIdx_cons,List.zipIdx_nil,List.forIn_cons,List.forIn_nil]
 refine wpAny_bind (wpAny_bind (wpAny_onRaise ?_))
 show wpAny _ _ (Builtin.SmallTypes.nextOf (.ref i1) >>= _) _ _ _
 refine wpAny_bind (D1.item i _ _ _ l1 (D1.frame _ _ _ g1 fun c hc o q=>s1.extBut c o (fun e=>ap.z1 (e ▸ hc)) q) fun x h2 tk2 px g1' s2=>wpAny_pure ?_)
 have gTO2:IsPair h2 TO a b:=s2.extBut _ _ nt1 (s1.extBut _ _ ap.toz gTO)
 refine wpAny_bind (wpAny_seqItems gTO2 rfl ?_)
 refine wpAny_bind (wpAny_updateSeq_pair (s:={ s with heap:=h2,toks:=tk2 }) gTO2 fun h3 gTO3 s3=>?_)
 replace gTO3:IsPair h3 TO x b:=gTO3
 replace s3:Heap.SameBut TO h2 h3:=s3
 refine wpAny_bind (wpAny_letGo (wpAny_pure ?_))
 refine wpAny_bind (wpAny_bind (wpAny_onRaise ?_))
 show wpAny _ _ (Builtin.SmallTypes.nextOf (.ref i2) >>= _) _ _ _
 have g2':S2 i h3:=D2.frame _ _ _ g2 fun c hc o q=>s3.extBut c o (fun e=>ap.to2 (e ▸ hc)) (s2.extBut c o (fun e=>ap.i12 (e ▸ hc)) (s1.extBut c o (fun e=>ap.z2 (e ▸ hc)) q))
 refine wpAny_bind (D2.item i _ _ _ l2 g2' fun y h4 tk4 py g2'' s4=>wpAny_pure ?_)
 replace s4:Heap.SameBut i2 h3 h4:=s4
 have gTO4:IsPair h4 TO x b:=s4.extBut _ _ nt2 gTO3
 refine wpAny_bind (wpAny_seqItems gTO4 rfl ?_)
 refine wpAny_bind (wpAny_updateSeq_pair (s:={ s with heap:=h4,toks:=tk4 }) gTO4 fun h5 gTO5 s5=>?_)
 replace gTO5:IsPair h5 TO x y:=gTO5
 replace s5:Heap.SameBut TO h4 h5:=s5
 refine wpAny_bind (wpAny_letGo (wpAny_pure (wpAny_pure ?_)))
 refine wpAny_bind (wpAny_seqItems gTO5 rfl ?_)
 refine wpAny_bind (wpAny_newTuple ?_)
 have hsz:h5.objs.size = s.heap.objs.size:=by rw [s5.1,s4.1,s3.1,s2.1,s1.1]
 have gz5:IsZip h5 z TI TO .ellipsis:=s5.extBut _ _ ap.toz.symm (s4.extBut _ _ nz2.symm (s3.extBut _ _ ap.toz.symm (s2.extBut _ _ nz1.symm gz1)))
 have k5:∀ c o,c ≠ z → c ≠ TO → c ≠ i1 → c ≠ i2 → s.heap.get? c = some o → h5.get? c = some o:=fun c o c1 c2 c3 c4 q=>s5.extBut _ _ c2 (s4.extBut _ _ c4 (s3.extBut _ _ c2 (s2.extBut _ _ c3 (s1.extBut _ _ c1 q))))
 have g15:S1 (i + 1) h5:=D1.frame _ _ _ g1' fun c hc o q=>s5.extBut c o (fun e=>ap.to1 (e ▸ hc)) (s4.extBut c o (fun e=>ap.i21 (e ▸ hc)) (s3.extBut c o (fun e=>ap.to1 (e ▸ hc)) q))
 have g25:S2 (i + 1) h5:=D2.frame _ _ _ g2'' fun c hc o q=>s5.extBut c o (fun e=>ap.to2 (e ▸ hc)) q
 have zlt:z < h5.objs.size:=Heap.lt_size gz5
 show wpAny _ _ (Builtin.SmallTypes.ownedTupleHandOut (.ref z) (.ref h5.objs.size) >>= _) _ _ _
 refine wpAny_bind ?_
 unfold Builtin.SmallTypes.ownedTupleHandOut
 have gz6:IsZip (h5.push { cls:=.type "tuple",data:=.seq #[x,y] }) z TI TO .ellipsis:=Heap.get?_push_of_some _ gz5
 refine wpAny_bind (wpAny_setField_rec gz6 (by simp) fun h7 gz7 s7=>?_)
 replace gz7:IsZip h7 z TI TO (rawInt h5.objs.size):=gz7
 refine wpAny_setField_rec gz7 (by simp) fun h8 gz8 s8=>?_
 replace gz8:IsZip h8 z TI TO (rawInt h5.objs.size):=gz8
 have up:∀ c o,c ≠ z → h5.get? c = some o → h8.get? c = some o:=fun c o c1 q=>s8.extBut _ _ c1 (s7.extBut _ _ c1 (Heap.get?_push_of_some _ q))
 have gT8:IsPair h8 h5.objs.size x y:=s8.extBut _ _ (Nat.ne_of_gt zlt) (s7.extBut _ _ (Nat.ne_of_gt zlt) (Heap.get?_push_size _ rfl))
 rw [hsz] at gz8 gT8
 refine wpAny_pure ⟨_,rfl,?_⟩
 show Q (.ref h5.objs.size) _
 rw [hsz]
 exact gQ h8 _ x y px py gz8 (up _ _ ap.toz gTO5) (D1.frame _ _ _ g15 fun c hc o q=>up c o (fun e=>ap.z1 (e ▸ hc)) q) (D2.frame _ _ _ g25 fun c hc o q=>up c o (fun e=>ap.z2 (e ▸ hc)) q) gT8 fun c o c1 c2 c3 c4 q=>up c o c1 (k5 c o c1 c2 c3 c4 q)
theorem ajB {Q:Fin → Shared → Prop} (D1:Draws prog w A i1 fp1 n1 P1 S1) (D2:Draws prog w A i2 fp2 n2 P2 S2) (ap:ZAp z TI TO i1 i2 fp1 fp2) (gz:IsZip s.heap z TI TO .none) (gTI:IsPair s.heap TI (.ref i1) (.ref i2)) (gTO:IsPair s.heap TO a b)
  (g1:S1 i s.heap) (g2:S2 i s.heap) (fin:i = n1 ∨ (i < n1 ∧ i = n2))
  (gE:∀ h' tk e,(∀ c o,c ≠ z → c ≠ TO → c ≠ i1 → c ≠ i2 → s.heap.get? c = some o → h'.get? c = some o) → (∃ o,h'.get? e = some o ∧ o.cls = .type "StopIteration") → E (.ref e) { s with heap:=h',toks:=tk }) :
  wpAny (model prog w) A (Builtin.«zip.__next__» ⟨[.ref z],[]⟩) Q E s:=by
 have nz1:i1 ≠ z:=fun q=>ap.z1 (q ▸ ap.m1)
 have nz2:i2 ≠ z:=fun q=>ap.z2 (q ▸ ap.m2)
 have nt1:TO ≠ i1:=fun q=>ap.to1 (q ▸ ap.m1)
 have nt2:TO ≠ i2:=fun q=>ap.to2 (q ▸ ap.m2)
 show wpAny _ _ (field (.ref z) 2 >>= _) _ _ _
 refine wpAny_bind (wpAny_field gz rfl (x:=.bool false) rfl ?_)
 show wpAny _ _ (field (.ref z) 3 >>= _) _ _ _
 refine wpAny_bind (wpAny_field gz rfl (x:=.ref TI) rfl ?_)
 refine wpAny_bind (wpAny_seqItems gTI rfl ?_)
 show wpAny _ _ (Builtin.SmallTypes.ownedTupleIsFree (.ref z) >>= _) _ _ _
 refine wpAny_bind ?_
 unfold Builtin.SmallTypes.ownedTupleIsFree
 refine wpAny_bind (wpAny_field gz rfl (x:=.none) rfl (wpAny_pure ?_))
 simp only [if_true]
 refine wpAny_bind (wpAny_rule ?_)
 refine wpAny_bind (wpAny_field gz rfl (x:=.ref TO) rfl ?_)
 refine wpAny_bind (wpAny_setField_rec gz (by simp) fun h1 gz1 s1=>?_)
 replace gz1:IsZip h1 z TI TO .ellipsis:=gz1
 refine wpAny_bind ?_
 simp only [List.zipIdx_cons,List.zipIdx_nil,List.forIn_cons,List.forIn_nil]
 refine wpAny_bind (wpAny_bind (wpAny_onRaise ?_))
 show wpAny _ _ (Builtin.SmallTypes.nextOf (.ref i1) >>= _) _ _ _
 have g1':S1 i h1:=D1.frame _ _ _ g1 fun c hc o q=>s1.extBut c o (fun e=>ap.z1 (e ▸ hc)) q
 rcases fin with e1 | ⟨l1,e2⟩
 ·subst e1
  refine wpAny_bind (D1.done _ _ _ g1' fun h2 e s2 he=>?_)
  obtain ⟨oe,hoe,hce⟩:=he
  have gz2:IsZip h2 z TI TO .ellipsis:=s2 _ _ nz1.symm gz1
  have hez:e ≠ z:=fun q=>by
   subst q
   rw [gz2] at hoe
   cases hoe
   simp at hce
  refine wpAny_setField_rec (s:={ s with heap:=h2 }) gz2 (by simp) fun h3 _ s3=>?_
  exact gE h3 _ e (fun c o c1 _ c3 _ q=>s3.extBut _ _ c1 (s2 _ _ c3 (s1.extBut _ _ c1 q))) ⟨oe,s3.extBut _ _ hez hoe,hce⟩
 ·subst e2
  refine wpAny_bind (D1.item i _ _ _ l1 g1' fun x h2 tk2 px g1'' s2=>wpAny_pure ?_)
  have gTO2:IsPair h2 TO a b:=s2.extBut _ _ nt1 (s1.extBut _ _ ap.toz gTO)
  refine wpAny_bind (wpAny_seqItems gTO2 rfl ?_)
  refine wpAny_bind (wpAny_updateSeq_pair (s:={ s with heap:=h2,toks:=tk2 }) gTO2 fun h3 gTO3 s3=>?_)
  replace s3:Heap.SameBut TO h2 h3:=s3
  refine wpAny_bind (wpAny_letGo (wpAny_pure ?_))
  refine wpAny_bind (wpAny_bind (wpAny_onRaise ?_))
  show wpAny _ _ (Builtin.SmallTypes.nextOf (.ref i2) >>= _) _ _ _
  have g2':S2 i h3:=D2.frame _ _ _ g2 fun c hc o q=>s3.extBut c o (fun e=>ap.to2 (e ▸ hc)) (s2.extBut c o (fun e=>ap.i12 (e ▸ hc)) (s1.extBut c o (fun e=>ap.z2 (e ▸ hc)) q))
  refine wpAny_bind (D2.done _ _ _ g2' fun h4 e s4 he=>?_)
  replace s4:Heap.ExtBut i2 h3 h4:=s4
  obtain ⟨oe,hoe,hce⟩:=he
  have gz4:IsZip h4 z TI TO .ellipsis:=s4 _ _ nz2.symm (s3.extBut _ _ ap.toz.symm (s2.extBut _ _ nz1.symm gz1))
  have hez:e ≠ z:=fun q=>by
   subst q
   rw [gz4] at hoe
   cases hoe
   simp at hce
  refine wpAny_setField_rec (s:={ s with heap:=h4,toks:=tk2 }) gz4 (by simp) fun h5 _ s5=>?_
  exact gE h5 _ e (fun c o c1 c2 c3 c4 q=>s5.extBut _ _ c1 (s4 _ _ c4 (s3.extBut _ _ c2 (s2.extBut _ _ c3 (s1.extBut _ _ c1 q))))) ⟨oe,s5.extBut _ _ hez hoe,hce⟩
theorem ahw {Q:Option Value → Shared → Prop} (D1:Draws prog w A.in1 i1 fp1 n1 P1 S1) (D2:Draws prog w A.in1 i2 fp2 n2 P2 S2) (ap:ZAp z TI TO i1 i2 fp1 fp2) (gz:IsZip s.heap z TI TO .none) (gTI:IsPair s.heap TI (.ref i1) (.ref i2)) (gTO:IsPair s.heap TO a b)
  (g1:S1 i s.heap) (g2:S2 i s.heap) (l1:i < n1) (l2:i < n2)
  (gQ:∀ h' tk x y,P1 i x → P2 i y → IsZip h' z TI TO (rawInt s.heap.objs.size) → IsPair h' TO x y → S1 (i + 1) h' → S2 (i + 1) h' → IsPair h' s.heap.objs.size x y →
   (∀ c o,c ≠ z → c ≠ TO → c ≠ i1 → c ≠ i2 → s.heap.get? c = some o → h'.get? c = some o) → Q (some (.ref s.heap.objs.size)) { s with heap:=h',toks:=tk }) :
  wpAny (model prog w) A (pyNext (.ref z)) Q E s:=by
 have gT:s.TypeIs (.ref z) "zip":=⟨_,gz,rfl⟩
 unfold pyNext
 refine wpAny_bind (wpAny_attempt (wpAny_callSpecial?_slot (name:=Str.ofString "__next__") gT F.slot_zip_next (wpAny_call_entry F.slot_zip_next gT F.entry_zip_next ?_ (F.args_zip_next_1 _))))
 exact aj8 D1 D2 ap gz gTI gTO g1 g2 l1 l2 fun h' tk x y p1 p2 e1 e2 e3 e4 e5 e6=>wpAny_pure (gQ h' tk x y p1 p2 e1 e2 e3 e4 e5 e6)
theorem afj {Q:Option Value → Shared → Prop} (D1:Draws prog w A.in1 i1 fp1 n1 P1 S1) (D2:Draws prog w A.in1 i2 fp2 n2 P2 S2) (ap:ZAp z TI TO i1 i2 fp1 fp2) (gz:IsZip s.heap z TI TO .none) (gTI:IsPair s.heap TI (.ref i1) (.ref i2)) (gTO:IsPair s.heap TO a b)
  (g1:S1 i s.heap) (g2:S2 i s.heap) (fin:i = n1 ∨ (i < n1 ∧ i = n2))
  (gQ:∀ h' tk,(∀ c o,c ≠ z → c ≠ TO → c ≠ i1 → c ≠ i2 → s.heap.get? c = some o → h'.get? c = some o) → Q none { s with heap:=h',toks:=tk }):wpAny (model prog w) A (pyNext (.ref z)) Q E s:=by
 have gT:s.TypeIs (.ref z) "zip":=⟨_,gz,rfl⟩
 unfold pyNext
 refine wpAny_bind (wpAny_attempt (wpAny_callSpecial?_slot (name:=Str.ofString "__next__") gT F.slot_zip_next (wpAny_call_entry F.slot_zip_next gT F.entry_zip_next ?_ (F.args_zip_next_1 _))))
 refine ajB D1 D2 ap gz gTI gTO g1 g2 fin fun h' tk e hk he=>?_
 obtain ⟨o,ho,hc⟩:=he
 refine wpAny_bind (wpAny_isInstance (T:="StopIteration") (b:=true) ⟨o,ho,hc⟩ isSubtype_stop ?_)
 exact wpAny_pure (gQ _ _ hk)
end
end L2
namespace L2
open PySem Bn
abbrev zpH1 (h:Heap) (o1:Obj):Heap:=h.push o1
abbrev zpH2 (h:Heap) (o1 o2:Obj):Heap:=(zpH1 h o1).push o2
abbrev zpH3 (h:Heap) (o1 o2:Obj):Heap:=(zpH2 h o1 o2).push { cls:=.type "tuple",data:=.seq #[.ref h.objs.size,.ref (zpH1 h o1).objs.size] }
abbrev zpH4 (h:Heap) (o1 o2:Obj):Heap:=(zpH3 h o1 o2).push { cls:=.type "tuple",data:=.seq #[.none,.none] }
abbrev zpH5 (h:Heap) (o1 o2:Obj):Heap:=(zpH4 h o1 o2).push { cls:=.type "zip",data:=.fields #[.none,.bool false,.bool false,.ref (zpH2 h o1 o2).objs.size,.ref (zpH3 h o1 o2).objs.size] }
def MkIt (l:Addr) (o:Obj) (G:Heap → Prop):Prop :=
 ∀ (prog:Program) (w:World) (A:Around) (E:Value → Shared → Prop) (s:Shared) (Q:Value → Shared → Prop),G s.heap → Q (.ref s.heap.objs.size) { s with heap:=s.heap.push o } → wpAny (model prog w) A (pyIter (.ref l)) Q E s
theorem aj5 (l1 l2:Addr) (o1 o2:Obj) (G1 G2:Heap → Prop) (p1:MkIt l1 o1 G1) (p2:MkIt l2 o2 G2) (k2:∀ h,G2 h → G2 (h.push o1)) :
  Meets (Builtin.«zip.__new__» ⟨[.type "zip",.ref l1,.ref l2],[]⟩) (fun _ R s=>G1 s.heap ∧ G2 s.heap ∧ R (.ok (.ret (.ref (zpH4 s.heap o1 o2).objs.size))) { s with heap:=zpH5 s.heap o1 o2 }) :=
 .of_wp fun prog w A R s h=>by
  obtain ⟨hp,g,d,tk,os⟩:=s
  obtain ⟨g1,g2,h⟩:=h
  have hsub:=sub_zip
  have q1:=fun (A':Around) (E':Value → Shared → Prop) (Q':Value → Shared → Prop)=>p1 prog w A' E' ⟨hp,g,d,tk,os⟩ Q' g1
  have q2:=fun (A':Around) (E':Value → Shared → Prop) (Q':Value → Shared → Prop)=>p2 prog w A' E' ⟨hp.push o1,g,d,tk,os⟩ Q' (k2 _ g2)
  wp_walk using q1 _ _ _,q2 _ _ _
  exact ⟨_,rfl,h⟩
theorem agT {prog:Program} {w:World} {A:Around} {E:Value → Shared → Prop} {s:Shared} {l1 l2:Addr} {o1 o2:Obj} {G1 G2:Heap → Prop} {Q:Value → Shared → Prop} (p1:MkIt l1 o1 G1) (p2:MkIt l2 o2 G2) (k2:∀ h,G2 h → G2 (h.push o1)) (g1:G1 s.heap) (g2:G2 s.heap)
  (f1:o1.isFreed = false) (f2:o2.isFreed = false)
  (h:∀ h',IsZip h' (s.heap.objs.size + 4) (s.heap.objs.size + 2) (s.heap.objs.size + 3) .none → IsPair h' (s.heap.objs.size + 2) (.ref s.heap.objs.size) (.ref (s.heap.objs.size + 1)) → IsPair h' (s.heap.objs.size + 3) .none .none →
   h'.get? s.heap.objs.size = some o1 → h'.get? (s.heap.objs.size + 1) = some o2 → (∀ c o,s.heap.get? c = some o → h'.get? c = some o) → Q (.ref (s.heap.objs.size + 4)) { s with heap:=h' }) :
  wpAny (model prog w) A (call (.type "zip") [.ref l1,.ref l2]) Q E s:=by
 refine callType_new F.called_zip (by decide) (F.typeCall_zip_2 _ _) (F.newCall_zip_2 _ _) (fun obj=>F.args_object_init_3 obj _ _) F.entry_zip_new (aj5 l1 l2 o1 o2 G1 G2 p1 p2 k2) ⟨g1,g2,?_⟩
 have e1:(zpH1 s.heap o1).objs.size = s.heap.objs.size + 1:=Heap.size_push ..
 have e2:(zpH2 s.heap o1 o2).objs.size = s.heap.objs.size + 2:=by rw [Heap.size_push,e1]
 have e3:(zpH3 s.heap o1 o2).objs.size = s.heap.objs.size + 3:=by rw [Heap.size_push,e2]
 have e4:(zpH4 s.heap o1 o2).objs.size = s.heap.objs.size + 4:=by rw [Heap.size_push,e3]
 have r5:(zpH5 s.heap o1 o2).get? (zpH4 s.heap o1 o2).objs.size = some _:=Heap.get?_push_size _ rfl
 have r4:(zpH5 s.heap o1 o2).get? (zpH3 s.heap o1 o2).objs.size = some _:=Heap.get?_push_of_some _ (Heap.get?_push_size _ rfl)
 have r3:(zpH5 s.heap o1 o2).get? (zpH2 s.heap o1 o2).objs.size = some _:=Heap.get?_push_of_some _ (Heap.get?_push_of_some _ (Heap.get?_push_size _ rfl))
 have r2:(zpH5 s.heap o1 o2).get? (zpH1 s.heap o1).objs.size = some o2:=Heap.get?_push_of_some _ (Heap.get?_push_of_some _ (Heap.get?_push_of_some _ (Heap.get?_push_size _ f2)))
 have r1:(zpH5 s.heap o1 o2).get? s.heap.objs.size = some o1:=Heap.get?_push_of_some _ (Heap.get?_push_of_some _ (Heap.get?_push_of_some _ (Heap.get?_push_of_some _ (Heap.get?_push_size _ f1))))
 show _ ∧ _
 rw [e2,e3,e4] at r5
 rw [e1,e2] at r3
 rw [e3] at r4
 rw [e1] at r2
 rw [e4]
 exact ⟨⟨_,r5,rfl⟩,h _ r5 r3 r4 r1 r2 fun c o q=>Heap.get?_push_of_some _ (Heap.get?_push_of_some _ (Heap.get?_push_of_some _ (Heap.get?_push_of_some _ (Heap.get?_push_of_some _ q))))⟩
end L2
namespace L2
open PySem PySem.Spec PyProof.Rows Bn
def SqF (f:Bool) (K:PySem.W.Frag) (H:Hp) (a:Addr) (xs:List V):Prop:=match f with
 | true=>SqT K H a xs
 | false=>SqL K H a xs
def ItF (f:Bool) (it a:Addr) (i:Nat) (h:Heap):Prop:=match f with
 | true=>h.IsTupleIter it a i
 | false=>h.IsListIter it a i
def HasF (f:Bool) (a:Addr) (items:Array Value) (h:Heap):Prop:=match f with
 | true=>h.IsTuple a items
 | false=>h.IsList a items
def ItO (f:Bool) (a:Addr):Obj:=match f with
 | true=>{ cls:=.type "tuple_iterator",data:=.fields #[.ref a,.int 0 0] }
 | false=>{ cls:=.type "list_iterator",data:=.fields #[.ref a,.int 0 0] }
section
variable {X:Cx} {pins:List (Addr × Obj)} {σ:St} {H:Hp} {s:Shared} {a:Addr} {xs ys:List V} {f:Bool}
theorem Inv.seqF (I:Inv X pins σ H s) (h:SqF f X.K H a xs):∃ its:List Value,Vals xs its ∧ HasF f a its.toArray s.heap ∧ xs.length ≤ sizeLine:=by
 cases f with
 | true =>
  obtain ⟨its,r,p,z⟩:=I.tuple h
  exact ⟨its,r,p,z⟩
 | false =>
  obtain ⟨its,r,p,z⟩:=I.list h
  exact ⟨its,r,p.isList,z⟩
theorem Inv.seqF_inj (I:Inv X pins σ H s) (h:SqF f X.K H a xs) (h':SqF f X.K H a ys):xs = ys:=by
 cases f with
 | true=>exact I.tuple_inj h h'
 | false=>exact I.list_inj h h'
theorem Inv.apart {b:Addr} (I:Inv X pins σ H s) (fb:FpOk X pins H b) (h:SqF f X.K H a xs):a ≠ b:=by
 have viaK:∀ {o:Obj},X.K.lookup a = some o → a ≠ b:=fun {o} q e=>by
  have hb:X.base.get? b = some o:=e ▸ I.ok.mod.kin a o q
  rcases fb.2.2.2.1 with z | z
  ·exact I.ok.noex b o hb z
  ·exact absurd (Nat.lt_of_lt_of_le (Heap.lt_size (I.ok.bs b o hb).1) z) (Nat.lt_irrefl _)
 cases f with
 | true =>
  rcases h with (h | ⟨o,h⟩) | ⟨o,_,_,q,_⟩
  ·exact aaX h fb.1
  ·exact aaX h fb.1
  ·exact viaK q
 | false =>
  rcases h with (h | ⟨o,h⟩) | ⟨o,_,_,q,_⟩
  ·exact aaX h fb.1
  ·exact aaX h fb.1
  ·exact viaK q
end
theorem aiN {prog:Program} {w:World} {A:Around} (f:Bool) (hh:A.handled = none) (it a:Addr) (hne:a ≠ it) (items:Array Value) :
  Draws prog w A it [it,a] items.size (fun i v=>items[i]? = some v) (fun i h=>ItF f it a i h ∧ HasF f a items h):=by
 cases f with
 | true=>exact alv hh it a hne items
 | false=>exact Draws.list hh it a hne items
theorem aoZ (f:Bool) (a:Addr) (items:Array Value):MkIt a (ItO f a) (HasF f a items):=by
 cases f with
 | true=>exact fun prog w A E s Q g q=>wpAny_pyIter_tuple g q
 | false=>exact fun prog w A E s Q g q=>wpAny_pyIter_list g q
theorem ItF.keep {f:Bool} {it a:Addr} {i:Nat} {h h':Heap} (x:ItF f it a i h) (k:∀ o,h.get? it = some o → h'.get? it = some o):ItF f it a i h':=by
 cases f with
 | true=>obtain ⟨o,e,r⟩:=x; exact ⟨o,k o e,r⟩
 | false=>obtain ⟨o,e,r⟩:=x; exact ⟨o,k o e,r⟩
theorem HasF.keep {f:Bool} {a:Addr} {items:Array Value} {h h':Heap} (x:HasF f a items h) (k:∀ o,h.get? a = some o → h'.get? a = some o):HasF f a items h':=by
 cases f with
 | true=>obtain ⟨o,e,r⟩:=x; exact ⟨o,k o e,r⟩
 | false=>obtain ⟨o,e,r⟩:=x; exact ⟨o,k o e,r⟩
theorem ItF.obj {f:Bool} {it a:Addr} {i:Nat} {h:Heap} (x:ItF f it a i h):∃ o,h.get? it = some o ∧ ∀ v,o.data ≠ .cell v:=by
 cases f with
 | true=>obtain ⟨o,e,_,d⟩:=x; exact ⟨o,e,fun v z=>by rw [d] at z; cases z⟩
 | false=>obtain ⟨o,e,_,d⟩:=x; exact ⟨o,e,fun v z=>by rw [d] at z; cases z⟩
theorem ahh (f:Bool) (a it:Addr) {h:Heap} (e:h.get? it = some (ItO f a)):ItF f it a 0 h:=by
 cases f with
 | true=>exact ⟨_,e,rfl,rfl⟩
 | false=>exact ⟨_,e,rfl,rfl⟩
theorem aix (f:Bool) (a:Addr):(ItO f a).isFreed = false:=by cases f <;> rfl
def Itz (K : PySem.W.Frag) (f1 : Bool) (a : Addr) (f2 : Bool) (b : Addr) : It :=
  ⟨fun i H => ∃ xs ys x y, SqF f1 K H a xs ∧ SqF f2 K H b ys ∧ xs[i]? = some x ∧ ys[i]? = some y,
   fun i H v H' => ∃ p x y, H p = none ∧ v = .ref p ∧ H' = upd H p (.tup [x, y]) ∧ (∀ xs, SqF f1 K H a xs → xs[i]? = some x) ∧ ∀ ys, SqF f2 K H b ys → ys[i]? = some y,
   fun i H => ∃ xs ys, SqF f1 K H a xs ∧ SqF f2 K H b ys ∧ (i = xs.length ∨ (i < xs.length ∧ i = ys.length))⟩
structure ZRec (z TI TO i1 i2:Addr):Prop where
 tiz:TI ≠ z
 toz:TO ≠ z
 i1z:i1 ≠ z
 i2z:i2 ≠ z
 tito:TI ≠ TO
 ti1:TI ≠ i1
 ti2:TI ≠ i2
 to1:TO ≠ i1
 to2:TO ≠ i2
 i12:i1 ≠ i2
theorem ZRec.ap {z TI TO i1 i2 a b:Addr} (r:ZRec z TI TO i1 i2) (h:∀ c ∈ [z,TI,TO,i1,i2],a ≠ c) (g:∀ c ∈ [z,TI,TO,i1,i2],b ≠ c):ZAp z TI TO i1 i2 [i1,a] [i2,b] where
 tiz:=r.tiz
 toz:=r.toz
 tito:=r.tito
 ti1:=r.ti1
 ti2:=r.ti2
 z1:=fun q=>by simp at q; rcases q with q | q; exact r.i1z q.symm; exact h z (by simp) q.symm
 z2:=fun q=>by simp at q; rcases q with q | q; exact r.i2z q.symm; exact g z (by simp) q.symm
 to1:=fun q=>by simp at q; rcases q with q | q; exact r.to1 q; exact h TO (by simp) q.symm
 to2:=fun q=>by simp at q; rcases q with q | q; exact r.to2 q; exact g TO (by simp) q.symm
 i12:=fun q=>by simp at q; rcases q with q | q; exact r.i12 q; exact g i1 (by simp) q.symm
 i21:=fun q=>by simp at q; rcases q with q | q; exact r.i12 q.symm; exact h i2 (by simp) q.symm
 m1:=by simp
 m2:=by simp
theorem akX {P:Program} {w:World} {K:PySem.W.Frag} {elts:List Expr} {x1:Nat} {tp:Pos} (f1 f2:Bool) (a b z TI TO i1 i2:Addr) (zr:ZRec z TI TO i1 i2) :
  Turn P w K (.Tuple elts x1 tp) (Itz K f1 a f2 b) [z,TI,TO,i1,i2] z (fun i h=>IsZip h z TI TO .none ∧ IsPair h TI (.ref i1) (.ref i2) ∧ (∃ u v,IsPair h TO u v) ∧ ItF f1 i1 a i h ∧ ItF f2 i2 b i h) where
 mem:=by simp
 obj:=fun i h st c hc=>by
  obtain ⟨e1,e2,⟨u,v,e3⟩,e4,e5⟩:=st
  simp at hc
  rcases hc with q | q | q | q | q
  ·subst q
   exact ⟨_,e1,fun v z=>nomatch z⟩
  ·subst q
   exact ⟨_,e2,fun v z=>nomatch z⟩
  ·subst q
   exact ⟨_,e3,fun v z=>nomatch z⟩
  ·subst q
   exact e4.obj
  ·subst q
   exact e5.obj
 keep:=fun i h h' st k=>by
  obtain ⟨e1,e2,⟨u,v,e3⟩,e4,e5⟩:=st
  exact ⟨k z (by simp) _ e1,k TI (by simp) _ e2,⟨u,v,k TO (by simp) _ e3⟩,e4.keep fun o q=>k i1 (by simp) o q,e5.keep fun o q=>k i2 (by simp) o q⟩
 item:=by
  intro X hP hw hK hc i pins s σ H E I hf st hg
  subst hP hw hK
  obtain ⟨xs,ys,x,y,hx,hy,ex,ey⟩:=hg
  obtain ⟨its,r1,p1,_⟩:=I.seqF hx
  obtain ⟨jts,r2,p2,_⟩:=I.seqF hy
  obtain ⟨ux,gx,rx⟩:=r1.get ex
  obtain ⟨uy,gy,ry⟩:=r2.get ey
  obtain ⟨e1,e2,⟨u,v,e3⟩,e4,e5⟩:=st
  have na:∀ c ∈ [z,TI,TO,i1,i2],a ≠ c:=fun c hc=>I.apart (hf c hc) hx
  have nb:∀ c ∈ [z,TI,TO,i1,i2],b ≠ c:=fun c hc=>I.apart (hf c hc) hy
  have hd:X.A.in1.handled = none:=I.ok.hd hc
  have D1:=aiN (prog:=X.prog) (w:=X.w) f1 hd i1 a (na i1 (by simp)) its.toArray
  have D2:=aiN (prog:=X.prog) (w:=X.w) f2 hd i2 b (nb i2 (by simp)) jts.toArray
  refine ahw D1 D2 (zr.ap na nb) e1 e2 e3 ⟨e4,p1⟩ ⟨e5,p2⟩ (List.getElem?_eq_some_iff.mp gx).1 (List.getElem?_eq_some_iff.mp gy).1 fun h1 tk vx vy px py q1 q2 q3 q4 q5 k1=>⟨_,rfl,?_⟩
  have ex':vx = ux:=by
   have:its[i]? = some vx:=by simpa using px
   rw [gx] at this
   exact (Option.some.inj this).symm
  have ey':vy = uy:=by
   have:jts[i]? = some vy:=by simpa using py
   rw [gy] at this
   exact (Option.some.inj this).symm
  subst ex' ey'
  have lt:∀ c ∈ [z,TI,TO,i1,i2],c ≠ s.heap.objs.size:=fun c hc=>by
   have:∃ o,s.heap.get? c = some o:=by
    simp at hc
    rcases hc with q | q | q | q | q
    ·exact ⟨_,q ▸ e1⟩
    ·exact ⟨_,q ▸ e2⟩
    ·exact ⟨_,q ▸ e3⟩
    ·obtain ⟨o,ho,_⟩:=e4.obj
     exact ⟨o,q ▸ ho⟩
    ·obtain ⟨o,ho,_⟩:=e5.obj
     exact ⟨o,q ▸ ho⟩
   obtain ⟨o,ho⟩:=this
   exact Nat.ne_of_lt (Heap.lt_size ho)
  refine wpAny_letOwnedTupleGo_zip (s:={ s with heap:=h1,toks:=tk }) q1 fun h2 z2 sb2=>?_
  have t2:h2.get? s.heap.objs.size = some { cls:=.type "tuple",data:=.seq #[vx,vy] }:=(sb2.2 _ (lt z (by simp)).symm).trans q5
  have I2:Inv X pins σ (upd H s.heap.objs.size (.tup [x,y])) { s with heap:=h2,toks:=tk } :=
   I.turnedNew hf (fun c o hc q=>(sb2.2 c (fun e=>hc (by simp [e]))).trans (k1 c o (fun e=>hc (by simp [e])) (fun e=>hc (by simp [e])) (fun e=>hc (by simp [e])) (fun e=>hc (by simp [e])) q)) (Nat.le_refl _)
    ⟨by show 2 ≤ sizeLine; decide,[vx,vy],.cons rx (.cons ry .nil),⟨_,t2,rfl,_,rfl⟩⟩
  refine ⟨.ref s.heap.objs.size,_,I2,rfl,⟨_,x,y,I.hok.fresh (Nat.le_refl _),rfl,rfl,fun zs hz=>by rw [I.seqF_inj hz hx]; exact ex,fun zs hz=>by rw [I.seqF_inj hz hy]; exact ey⟩,
   ⟨z2,(sb2.2 _ zr.tiz).trans (k1 _ _ zr.tiz zr.tito zr.ti1 zr.ti2 e2),⟨_,_,(sb2.2 _ zr.toz).trans q2⟩,q3.1.keep fun o q=>(sb2.2 _ zr.i1z).trans q,q4.1.keep fun o q=>(sb2.2 _ zr.i2z).trans q⟩,fun c hc=>?_⟩
  rw [aaQ (lt c hc)]
  exact (hf c hc).1
 done:=by
  intro X hP hw hK hc i pins s σ H E I hf st hg
  subst hP hw hK
  obtain ⟨xs,ys,hx,hy,fin⟩:=hg
  obtain ⟨its,r1,p1,_⟩:=I.seqF hx
  obtain ⟨jts,r2,p2,_⟩:=I.seqF hy
  have l1:=r1.length
  have l2:=r2.length
  obtain ⟨e1,e2,⟨u,v,e3⟩,e4,e5⟩:=st
  have na:∀ c ∈ [z,TI,TO,i1,i2],a ≠ c:=fun c hc=>I.apart (hf c hc) hx
  have nb:∀ c ∈ [z,TI,TO,i1,i2],b ≠ c:=fun c hc=>I.apart (hf c hc) hy
  have hd:X.A.in1.handled = none:=I.ok.hd hc
  have D1:=aiN (prog:=X.prog) (w:=X.w) f1 hd i1 a (na i1 (by simp)) its.toArray
  have D2:=aiN (prog:=X.prog) (w:=X.w) f2 hd i2 b (nb i2 (by simp)) jts.toArray
  refine afj D1 D2 (zr.ap na nb) e1 e2 e3 ⟨e4,p1⟩ ⟨e5,p2⟩ (by rw [List.size_toArray,List.size_toArray,← l1,← l2]; exact fin) fun h' tk k=>⟨rfl,?_⟩
  exact I.turnedL hf fun c o hc q=>k c o (fun e=>hc (by simp [e])) (fun e=>hc (by simp [e])) (fun e=>hc (by simp [e])) (fun e=>hc (by simp [e])) q
 self:=fun _ _ _ _ _ st h=>wpAny_pyIter_zip st.1 h
section
variable {X:Cx} {elts:List Expr} {x1:Nat} {tp:Pos}
def iZip (K:PySem.W.Frag) (tl:TA):TI:=fun σ H R=>tl σ H fun vs H1=>∃ f1 a f2 b xs ys,vs = [.ref a,.ref b] ∧ SqF f1 K H1 a xs ∧ SqF f2 K H1 b ys ∧ R (Itz K f1 a f2 b) H1
theorem aoY {l r:Expr} {tl:TA} {p pos:Pos} (hg:Gl X "zip") (hm:X.mg "zip" = none) (hl:PA X [l,r] tl) (hs:starEach [l,r] X.env = [(false,eval l X.env),(false,eval r X.env)]:=by rfl) (hs2:starEach [r] X.env = [(false,eval r X.env)]:=by rfl) :
  PI X (.Tuple elts x1 tp) (.Call (.Name "zip" p) [l,r] [] pos) (iZip X.K tl):=by
 intro pins s σ H R I h
 refine Call_ (afg I hg hm boot_zip (PyProof.Rows.callWith_type1 (thn (hl pos pins s σ H _ I h) fun us s1 ⟨vs,H1,I1,r1,q1⟩=>?_) (by rw [hs,hs2]) (by rw [hs2]; rfl)))
 obtain ⟨f1,a,f2,b,xs,ys,rfl,hx,hy,q⟩:=q1
 obtain ⟨u,v,rfl,ru,rv⟩:=amQ r1
 cases ru
 cases rv
 obtain ⟨its,_,p1,_⟩:=I1.seqF hx
 obtain ⟨jts,_,p2,_⟩:=I1.seqF hy
 refine agT (aoZ f1 a its.toArray) (aoZ f2 b jts.toArray) (fun h g=>g.keep fun o z=>Heap.get?_push_of_some _ z) p1 p2 (aix _ _) (aix _ _) fun h' e1 e2 e3 e4 e5 k=>?_
 refine wpAny_pyIter_zip (s:={ s1 with heap:=h' }) e1 ?_
 have zr:ZRec (s1.heap.objs.size + 4) (s1.heap.objs.size + 2) (s1.heap.objs.size + 3) s1.heap.objs.size (s1.heap.objs.size + 1):=by
  generalize s1.heap.objs.size = n
  have g:∀ i j:Nat,i ≠ j → ((n:Nat) + i:Nat) ≠ n + j:=fun i j h=>by omega
  exact ⟨g 2 4 (by decide),g 3 4 (by decide),g 0 4 (by decide),g 1 4 (by decide),g 2 3 (by decide),g 2 0 (by decide),g 2 1 (by decide),g 3 0 (by decide),g 3 1 (by decide),g 0 1 (by decide)⟩
 refine ⟨_,[s1.heap.objs.size + 4,s1.heap.objs.size + 2,s1.heap.objs.size + 3,s1.heap.objs.size,s1.heap.objs.size + 1],_,_,H1,rfl,I1.kept (t':=s1.toks) k,akX f1 f2 a b _ _ _ _ _ zr,⟨e1,e2,⟨_,_,e3⟩,ahh f1 a _ e4,ahh f2 b _ e5⟩,fun c hc=>?_,q⟩
 have hb:s1.heap.objs.size ≤ c:=by
  simp only [List.mem_cons,List.not_mem_nil,or_false] at hc
  rcases hc with q | q | q | q | q
  all_goals rw [q]
  all_goals first | exact Nat.le_refl _ | exact Nat.le_add_right _ _
 exact I1.fpOk hb (I1.hok.fresh hb)
end
end L2
namespace L2
open PySem PySem.Spec PyProof.Rows Bn
theorem aoS (K:PySem.W.Frag):PySem.W.kitOne K (.type "int") (.type "bool") = some false:=by
 unfold PySem.W.kitOne PySem.W.kitCls
 rw [if_neg (by decide)]
 show (if PySem.W.kitMeta "bool" = true then PySem.W.subIn K (.type "int") (.type "bool") else none) = some false
 rw [if_pos (by decide +kernel)]
 show (fastBuiltinMro "int").map (·.contains (.type "bool")) = some false
 decide +kernel
structure FunD (K:PySem.W.Frag) (x qual:Str) (st:Stmt) (f:Addr) (fd:FuncData) (ds:Array Value):Prop where
 ex:∃ (oc:Value) (od:Option Addr) (T:Addr) (oT:Obj) (n:Nat) (kV doc pm:Value) (an:Option Addr) (cdv ct:Value) (osl:Array (Option Value)),
  fd = PySem.W.fnOf x qual (aaL st) (aaw st) (aad st) (.ref T) kV doc pm an cdv ct ∧ K.lookup f = some ⟨oc,od,.func fd,osl⟩ ∧ PySem.W.codeIn K cdv qual = true ∧ K.lookup T = some oT ∧ oT.data = .seq ds n
 kp:PySem.W.keepIn K (.ref f) = true
section
variable {P:Program} {w:World} {K:PySem.W.Frag} {mg:Str → Option Value} {base:Heap}
theorem FunD.ok {x qual:Str} {st:Stmt} {f:Addr} {fd:FuncData} {ds:Array Value} {N ps:List Str} {k:Nat} {sp:Sp} (F:FunD K x qual st f fd ds) (S:aaI N ps (aad st)) (len:∀ vs H Q E,sp vs H Q E → vs.length = ps.length)
  (hbody:∀ (cdv:Value) (A:Around) (outer:List Env) (s:Shared) (H:Hp) (vs:List V) (Q:VK) (E:XK),Room k (A.deeper (envOfC qual (aad st) s.heap.objs.size f cdv)) → sp vs H Q E →
   ∃ t,PSs (cxOf CX0 P w K mg base N qual (aad st) f cdv A outer s H E).nox (aaw st) t ∧ t { nx:=fun _ H'=>Q .non H',rt:=Q } (start N vs) H):FnOk P w K mg base CX0 (k + 1) f fd ps sp:=by
 obtain ⟨oc,od,T,oT,n,kV,doc,pm,an,cdv,ct,osl,rfl,lk,hcd,_,_⟩:=F.ex
 refine ak5 lk hcd S len fun A outer s H vs Q E hr hsp=>?_
 obtain ⟨t,h,q⟩:=hbody cdv A outer s H vs Q E hr hsp
 exact ⟨t,h.nox,q⟩
theorem FunD.binds {x qual:Str} {st:Stmt} {f:Addr} {fd:FuncData} {ds:Array Value} {ps:List Str} {dd:List Value} (F:FunD K x qual st f fd ds)
  (h:∀ (T:Addr) (kV doc pm:Value) (an:Option Addr) (cdv ct:Value) (us:List Value),(us ++ dd).length = ps.length →
   ∃ k,bindArgs (PySem.W.fnOf x qual (aaL st) (aaw st) (aad st) (.ref T) kV doc pm an cdv ct) ⟨us,[]⟩ = seqItems? (.ref T) >>= k ∧ k (some ds) = pure (ps.zip (us ++ dd))):ac2 K fd ps dd:=by
 obtain ⟨oc,od,T,oT,n,kV,doc,pm,an,cdv,ct,osl,rfl,lk,hcd,lT,hT⟩:=F.ex
 intro s us hK hl
 obtain ⟨k,h1,h2⟩:=h T kV doc pm an cdv ct us hl
 exact PySem.W.binds_K hK rfl lT hT h1 h2
theorem am7 {x qual:Str} {st:Stmt} {f T:Addr} {oT:Obj} {n:Nat} {ds:Array Value} {oc:Value} {od an:Option Addr} {osl:Array (Option Value)} {kV doc pm cdv ct:Value} (l:K.lookup f = some ⟨oc,od,.func (PySem.W.fnOf x qual (aaL st) (aaw st) (aad st) (.ref T) kV doc pm an cdv ct),osl⟩)
  (c:PySem.W.codeIn K cdv qual = true) (k:PySem.W.keepIn K (.ref f) = true) (lT:K.lookup T = some oT) (hT:oT.data = .seq ds n):FunD K x qual st f (PySem.W.fnOf x qual (aaL st) (aaw st) (aad st) (.ref T) kV doc pm an cdv ct) ds :=
 ⟨⟨oc,od,T,oT,n,kV,doc,pm,an,cdv,ct,osl,rfl,l,c,lT,hT⟩,k⟩
end
theorem abG {X:Cx} {sc:Scope} {own:List Str} {cap:List (Nat × Str)} (so:Scope) (N:List Str) (hso:X.env.scope = so) (hN:X.N = N) (kind:sc.kind = .function) (names:∀ y ∈ sc.names,y.2 = .local → sc.names.lookup y.1 = some .local)
  (nocell:∀ y ∈ sc.names,y.2 ≠ .cell) (free:∀ y ∈ sc.names,y.2 = .free → so.names.lookup y.1 = some .cell) (at':∀ p ∈ cap,N[p.1]? = some p.2) (hcap:∀ p ∈ cap,sc.names.lookup p.2 = some .free):aeE X sc own cap :=
 ⟨kind,names,nocell,fun y hy e=>by show X.env.scope.names.lookup y.1 = _; rw [hso]; exact free y hy e,fun p hp=>by rw [hN]; exact at' p hp,hcap⟩
end L2
namespace L2
open PySem PySem.Spec PyProof.Rows Bn
theorem agb (n d:Nat):HT.sIx (n + 1) d (some (-1)) = n:=by
 unfold HT.sIx
 simp
 omega
end L2
namespace L2
open PySem PySem.Spec PyProof.Rows Bn
section
variable {X:Cx}
end
end L2
namespace L2
open PySem PySem.Spec PyProof.Rows Bn
theorem acx.has {P:Program} {w:World} {H:Hp} {h:Heap} {a:Addr} {o:HO} (x:acx P w H h a o):∃ u,h.get? a = some u:=by
 cases o with
 | lst xs=>obtain ⟨_,_,_,_,e⟩:=x; exact ⟨_,e⟩
 | tup xs=>obtain ⟨_,_,_,u,e,_⟩:=x; exact ⟨u,e⟩
 | dK kvs=>obtain ⟨_,_,_,_,o,_,_,e,_⟩:=x; exact ⟨_,e⟩
 | dT kvs=>obtain ⟨_,_,_,_,o,_,_,e,_⟩:=x; exact ⟨_,e⟩
 | set S n=>obtain ⟨o,_,_,_,e,_⟩:=x; exact ⟨_,e⟩
 | ins C dx fs=>obtain ⟨_,_,_,e,_⟩:=x; exact ⟨_,e⟩
 | own y=>exact x
 | xd fs=>obtain ⟨_,⟨_,_,_,e,_⟩,_⟩:=x; exact ⟨_,e⟩
 | rng lo hi=>obtain ⟨_,_,_,e⟩:=x; exact ⟨_,e⟩
 | frz ob u=>obtain ⟨e,_⟩:=x; exact ⟨_,e⟩
 | tbl ps=>exact ⟨_,show h.get? a = some _ from x⟩
 | met f y=>exact ⟨_,show h.get? a = some _ from x⟩
 | ext φ=>exact x.2.1
abbrev acn:List Value:=[.type "ValueError",.type "Exception",.type "BaseException",.type "object"]
theorem akD {K:PySem.W.Frag} {h:Heap} {C:Addr} {bmB:List Value} {newId:String} (X:K.In h) (q:PySem.W.excIn K C bmB newId = true) :
  ∃ bm N nm qn bs hdct sn sub ab col dd k0 k1 k2 k3 k5 mN,h.get? C = some (excClassObj nm qn C N bs bm hdct sn sub ab col dd k0 k1 k2 k3 k5 newId) ∧ h.Ns N mN ∧ mN "__init__" = none ∧ OwnTail h bmB bm:=by
 unfold PySem.W.excIn at q
 split at q
 ·rename_i dd cd sl ho
  split at q
  ·rename_i C' bm k0 k1 k2 k3 n k5 hm hs
   simp only [Bool.and_eq_true,beq_iff_eq,Bool.not_eq_true'] at q
   obtain ⟨⟨⟨⟨⟨z1,z2⟩,hdel⟩,ht⟩,hok⟩,hni⟩:=q
   subst z1 z2
   obtain ⟨nm,bs,mro,ns,qn,hd,sn,sub,ab,col,del⟩:=cd
   dsimp only at hm hdel hok hni
   subst hm hdel
   have hsl:sl = #[k0,k1,k2,k3,some (.builtin n),k5]:=by
    obtain ⟨l⟩:=sl
    simp only at hs
    rw [hs]
   subst hsl
   refine ⟨bm,ns,nm,qn,bs,hd,sn,sub,ab,col,dd,k0,k1,k2,k3,k5,_,X _ _ ho,.of_isNs (PySem.W.isNs_of_in X hok),PySem.W.nsMap_none_of_in X hok hni,PySem.W.tail_of_in X ht⟩
  ·cases q
 ·cases q
def CX1 (P:Program) (w:World):CXT:=fun outer H s E e s'=>∃ (x C t:Addr) (B:Heap) (H':Hp),e = .ref x ∧ s'.os = s.os ∧ AllBare s'.gens ∧ Un (frs outer) [] H H' s.heap s'.heap ∧ HOk P w H' s'.heap ∧
 Heap.FlyingW B outer x (.ref C) (.ref t) s'.heap ∧ (∀ b o,s'.heap.get? b = some o → (∃ u,H' b = some u) ∨ (∃ o',s.heap.get? b = some o' ∧ b ∉ frs outer) → B.get? b = some o) ∧ E (.ref C) none H'
theorem alc {P:Program} {w:World} {K:PySem.W.Frag} {mg:Str → Option Value} {base:Heap} {N:List Str} {qual:Str} {scope:Scope} {f:Addr} {cd:Value} {A:Around} {outer:List Env} {s₀:Shared} {H₀:Hp} {E:XK}
  {x:Str} {C:Addr} {txt:Str} {j:Nat} {np p1 cpos pos:Pos} (hg:Gl (cxOf (CX1 P w) P w K mg base N qual scope f cd A outer s₀ H₀ E) x) (hm:mg x = some (.ref C)) (hx:PySem.W.excIn K C acn "ValueError.__new__" = true)
  (hd:(x == ("__debug__":Str)) = false:=by decide) :
  PS (cxOf (CX1 P w) P w K mg base N qual scope f cd A outer s₀ H₀ E) (.Raise (some (.Call (.Name x np) [.Constant (.str txt) j p1] [] cpos)) none pos) (fun _ _ H=>E (.ref C) none H):=by
 intro pins s σ H D I h
 obtain ⟨bm,Nn,nm,qn,bs,hdct,sn,sub,ab,col,dd,k0,k1,k2,k3,k5,mN,hC,hN,hni,T⟩:=akD I.ok.mod.kin hx
 refine wpAny_Raise_call_subT (C:=C) (nm:=nm) (q:=qn) (N:=Nn) (bs:=bs) (bm:=bm) (hdct:=hdct) (sn:=sn) (sub:=sub) (ab:=ab) (col:=col) (dd:=dd) (k0:=k0) (k1:=k1) (k2:=k2) (k3:=k3) (k5:=k5)
  PySem.F.excBase_ValueError (mN:=mN) (T.hasType (by decide)) (I.ok.hd rfl) rfl hni (ae1 I hg hm ⟨rfl,?_⟩ hd)
 refine Calls.evalArgs_plain (thn ((adn aon afF) cpos pins s σ H (fun vs H1=>vs = [.str txt] ∧ H1 = H) I ⟨rfl,rfl⟩) fun us s2 q2=>?_)
 obtain ⟨vs,H2,I2,r2,rfl,rfl⟩:=q2
 have l2:=r2.length
 refine ⟨rfl,by rw [← l2]; show 1 ≤ sizeLine; decide,I2.bk _ _ hC,hN.keeps I2.bk,T.keeps I2.bk,fun h' e made=>?_⟩
 -- the frame is left
 have stk:(cxOf (CX1 P w) P w K mg base N qual scope f cd A outer s₀ H₀ E).stack = envOfC qual scope s₀.heap.objs.size f cd :: outer:=rfl
 have nfr:∀ {b u},H2 b = some u → b ∉ frs (envOfC qual scope s₀.heap.objs.size f cd :: outer):=fun {b u} q z=>by
  rw [I2.stkFree b z] at q
  cases q
 have nL:∀ {b o},s₀.heap.get? b = some o → b ∉ frs outer → b ∉ frs (envOfC qual scope s₀.heap.objs.size f cd :: outer):=fun {b o} q z y=>by
  rcases List.mem_cons.mp (I2.stkSub b y) with g | g
  ·exact absurd (Nat.lt_of_lt_of_le (Heap.lt_size q) I2.ok.above) (by rw [g]; exact Nat.lt_irrefl _)
  ·exact z g
 refine wpAny_leaves_madeW (base:=PySem.W.hideAll s2.heap (frs (envOfC qual scope s₀.heap.objs.size f cd :: outer))) (h:=s2.heap) (s:={ s2 with heap:=h' }) I2.ok.frames rfl (fun b o q=>PySem.W.of_hideAll _ q)
  (PySem.W.funFrames_hide I2.stack fun env he b hb=>List.mem_filterMap.mpr ⟨env,he,hb⟩) made fun h'' t fl tup nb ups=>?_
 have keepB:∀ b o,s2.heap.get? b = some o → b ∉ frs (envOfC qual scope s₀.heap.objs.size f cd :: outer) → h''.get? b = some o:=fun b o q z=>fl.1 b o (PySem.W.hideAll_get _ q z)
 have upS:∀ b o,s2.heap.get? b = some o → (∀ vs,o.data ≠ .fields vs) → ∃ sl,h''.get? b = some { o with slots:=sl }:=fun b o q z=>ups b o (made.keeps b o q) z
 refine ⟨e,C,t,_,H2,rfl,I2.os,I2.bare,⟨fun b o q n hb _=>?_,fun b o q n hb _=>?_,fun b o q n _=>I2.base.free b o q n (by intro z; cases z),fun b o q _=>?_,I2.base.tups,I2.base.frzs,I2.base.tbls⟩,fun b u q=>?_,fl,fun b o q z=>?_,h⟩
 ·exact keepB b o (I2.base.keep b o q n hb (by intro z; cases z)) (nL q hb)
 ·obtain ⟨sl,g⟩:=I2.base.slot b o q n hb (by intro z; cases z)
  obtain ⟨_,o',ho',hd'⟩:=I2.ok.funs.mem hb
  have eo:o' = o:=by
   have ho2:s₀.heap.get? b = some o':=ho'
   rw [q] at ho2
   exact (Option.some.inj ho2).symm
  subst eo
  obtain ⟨sl',g'⟩:=upS b _ g hd'
  exact ⟨sl',g'⟩
 ·obtain ⟨o',g⟩:=I2.base.there b o q (by intro z; cases z)
  by_cases c:b ∈ frs (envOfC qual scope s₀.heap.objs.size f cd :: outer)
  ·obtain ⟨_,o2,ho2,hd2⟩:=I2.stack.mem c
   obtain ⟨sl,g'⟩:=upS b o2 ho2 hd2
   exact ⟨_,g'⟩
  ·exact ⟨o',keepB b o' g c⟩
 ·refine (I2.hok b u q).stay (fun c v hc g=>keepB c v g ?_) (fun _ g=>g) fun _ _ g=>g
  rcases hc with z | z
  ·rw [z]
   exact nfr q
  ·exact nfr z
 ·have go:∀ {o2},s2.heap.get? b = some o2 → b ∉ frs (envOfC qual scope s₀.heap.objs.size f cd :: outer) → (PySem.W.hideAll s2.heap (frs (envOfC qual scope s₀.heap.objs.size f cd :: outer))).get? b = some o:=fun {o2} g n=>by
   have:=keepB b o2 g n
   have q':h''.get? b = some o:=q
   rw [q'] at this
   cases this
   exact PySem.W.hideAll_get _ g n
  rcases z with ⟨u,z⟩ | ⟨o',z,nz⟩
  ·obtain ⟨o2,g⟩:=(I2.hok b u z).has
   exact go g (nfr z)
  ·obtain ⟨o2,g⟩:=I2.base.there b o' z (by intro z; cases z)
   exact go g (nL z nz)
end L2
namespace L2
open PySem PySem.Spec PyProof.Rows Bn
section
variable {X:Cx} {pins:List (Addr × Obj)} {σ:St} {H H':Hp} {s s':Shared}
theorem Inv.flown {B h5:Heap} (I:Inv X pins σ H s) (os:s'.os = s.os) (bare:AllBare s'.gens) (un:Un (frs X.stack) [] H H' s.heap s'.heap) (hok:HOk X.prog X.w H' s'.heap)
  (cov:∀ b o,s'.heap.get? b = some o → (∃ u,H' b = some u) ∨ (∃ o',s.heap.get? b = some o' ∧ b ∉ frs X.stack) → B.get? b = some o) (fr:∀ b ∈ frs X.stack,H' b = none)
  (st:B.StaysIn h5) (up:s'.heap.UpToSlots h5):Inv X pins σ H' { s' with heap:=h5 }:=by
 have nofr:∀ {b u},H' b = some u → b ∉ frs X.stack:=fun {b u} q z=>by
  rw [fr b z] at q
  cases q
 have frame:∀ b ∈ frs X.stack,∃ o sl,s.heap.get? b = some o ∧ H b = none ∧ h5.get? b = some { o with slots:=sl }:=fun b hb=>by
  obtain ⟨_,o,ho,hd⟩:=I.stack.mem hb
  have hn:=I.stkFree b hb
  obtain ⟨sl,g⟩:=un.slot b o ho hn hb (by intro z; cases z)
  obtain ⟨sl',g'⟩:=up b _ g hd
  exact ⟨o,sl',ho,hn,g'⟩
 refine I.call' (s':={ s' with heap:=h5 }) (ch:=[]) os ⟨fun b o q n hb _=>?_,fun b o q n hb _=>?_,un.free,fun b o q _=>?_,un.tups,un.frzs,un.tbls⟩ (fun b u q=>?_) bare fun b z=>nomatch z
 ·exact st b o (cov b o (un.keep b o q n hb (by intro z; cases z)) (.inr ⟨o,q,hb⟩))
 ·obtain ⟨o',sl,g1,_,g2⟩:=frame b hb
  rw [q] at g1
  cases g1
  exact ⟨sl,g2⟩
 ·by_cases c:b ∈ frs X.stack
  ·obtain ⟨o',sl,_,_,g2⟩:=frame b c
   exact ⟨_,g2⟩
  ·obtain ⟨o',g⟩:=un.there b o q (by intro z; cases z)
   exact ⟨o',st b o' (cov b o' g (.inr ⟨o,q,c⟩))⟩
 ·refine (hok b u q).stay (fun c v hc g=>st c v (cov c v g (.inl ?_))) (fun _ g=>g) fun _ _ g=>g
  rcases hc with z | z
  ·exact ⟨u,by rw [z]; exact q⟩
  ·exact ⟨_,z⟩
end
section
variable {X:Cx} {k:Nat} {f:Addr} {fd:FuncData} {ps:List Str} {sp:Sp} {dvs:List V} {ds:List Value} {E:XK} {x:Str} {p pos:Pos} {e:Expr} {es:List Expr} {t:TA}
theorem anJ {pins:List (Addr × Obj)} {σ:St} {H:Hp} {s:Shared} {Q:VK} {us:List Value} {vs:List V} {Ex:Value → Shared → Prop} (F:FnOk X.prog X.w X.K X.mg X.base (CX1 X.prog X.w) k f fd ps sp) (hr:Room k X.A) (hb:ac2 X.K fd ps ds) (hd:Vals dvs ds)
  (I:Inv X pins σ H s) (r:Vals vs us) (h:sp (vs ++ dvs) H Q E) (hx:∀ e s',CX1 X.prog X.w X.stack H s E e s' → Ex e s'):wpAny (model X.prog X.w) X.A (call (.ref f) us) (EP X pins σ Q) Ex s:=by
 have r2:Vals (vs ++ dvs) (us ++ ds):=r.append hd
 have hl:(us ++ ds).length = ps.length:=by rw [← r2.length]; exact F.len _ _ _ _ h
 refine wpAny_call (codeAny_mono (F.run X.A X.stack s H ⟨us,[]⟩ (us ++ ds) (vs ++ dvs) Q E hr I.env0 (hb s us I.kIn hl) r2 h) fun rr s' hq=>?_)
 cases rr with
 | error e=>exact hx e s' hq
 | ok fl =>
  cases fl with
  | ret u=>exact I.after hq
  | next=>exact False.elim hq
  | brk=>exact False.elim hq
  | cont=>exact False.elim hq
theorem ak8 {pins:List (Addr × Obj)} {σ:St} {H:Hp} {s:Shared} {Q:VK} {Ex:Value → Shared → Prop} (hxe:X.xe = fun _ _=>False) (F:FnOk X.prog X.w X.K X.mg X.base (CX1 X.prog X.w) k f fd ps sp) (hr:Room k X.A) (hg:Gl X x) (hm:X.mg x = some (.ref f)) (hk:PySem.W.keepIn X.K (.ref f) = true)
  (hb:ac2 X.K fd ps ds) (hd:Vals dvs ds) (ha:PA X (e :: es) t) (I:Inv X pins σ H s) (h:t σ H fun vs H1=>sp (vs ++ dvs) H1 Q E)
  (hx:∀ s1 H1 e s',Inv X pins σ H1 s1 → CX1 X.prog X.w X.stack H1 s1 E e s' → Ex e s')
  (hdb:(x == ("__debug__":Str)) = false:=by decide) (he:starEach (e :: es) X.env = (false,eval e X.env) :: starEach es X.env:=by rfl) (hpl:(backTo pos (starEach es X.env)).any (·.1) = false:=by rfl) :
  wpAny (model X.prog X.w) X.A (eval (.Call (.Name x p) (e :: es) [] pos) X.env) (EP X pins σ Q) Ex s:=by
 refine wpAny_Call_Name_kw (ae1 I hg hm ?_ hdb)
 refine PySem.W.callWith_K (h₀:=X.base) I.ok.mod.kin hk (wpAny_mono (ha pos pins s σ H _ I h) (fun us s1 q1=>?_) fun _ _ z=>?_) he hpl
 ·obtain ⟨vs,H1,I1,r,q⟩:=q1
  exact ⟨I1.kIn,anJ F hr hb hd I1 r q fun e s' c=>hx s1 H1 e s' I1 c⟩
 ·rw [hxe] at z
  exact z.elim
end
end L2
namespace L2
open PySem PySem.Spec PyProof.Rows Bn
section
variable {P:Program} {w:World} {K:PySem.W.Frag} {mg:Str → Option Value} {base:Heap} {CX:CXT}
theorem Fun.okX {x qual:Str} {st:Stmt} {f:Addr} {fd:FuncData} {N ps:List Str} {k:Nat} {sp:Sp} (F:Fun K x qual st f fd) (S:aaI N ps (aad st)) (len:∀ vs H Q E,sp vs H Q E → vs.length = ps.length)
  (hbody:∀ (cdv:Value) (A:Around) (outer:List Env) (s:Shared) (H:Hp) (vs:List V) (Q:VK) (E:XK),Room k (A.deeper (envOfC qual (aad st) s.heap.objs.size f cdv)) → sp vs H Q E →
   ∃ t,PSs (cxOf CX P w K mg base N qual (aad st) f cdv A outer s H E) (aaw st) t ∧ t { nx:=fun _ H'=>Q .non H',rt:=Q } (start N vs) H):FnOk P w K mg base CX (k + 1) f fd ps sp:=by
 obtain ⟨oc,od,kV,doc,pm,an,cdv,ct,osl,rfl,lk,hcd⟩:=F.ex
 exact ak5 lk hcd S len fun A outer s H vs Q E hr hsp=>hbody cdv A outer s H vs Q E hr hsp
theorem FunD.okX {x qual:Str} {st:Stmt} {f:Addr} {fd:FuncData} {ds:Array Value} {N ps:List Str} {k:Nat} {sp:Sp} (F:FunD K x qual st f fd ds) (S:aaI N ps (aad st)) (len:∀ vs H Q E,sp vs H Q E → vs.length = ps.length)
  (hbody:∀ (cdv:Value) (A:Around) (outer:List Env) (s:Shared) (H:Hp) (vs:List V) (Q:VK) (E:XK),Room k (A.deeper (envOfC qual (aad st) s.heap.objs.size f cdv)) → sp vs H Q E →
   ∃ t,PSs (cxOf CX P w K mg base N qual (aad st) f cdv A outer s H E) (aaw st) t ∧ t { nx:=fun _ H'=>Q .non H',rt:=Q } (start N vs) H):FnOk P w K mg base CX (k + 1) f fd ps sp:=by
 obtain ⟨oc,od,T,oT,n,kV,doc,pm,an,cdv,ct,osl,rfl,lk,hcd,_,_⟩:=F.ex
 exact ak5 lk hcd S len fun A outer s H vs Q E hr hsp=>hbody cdv A outer s H vs Q E hr hsp
end
theorem apB {P:Program} {w:World} {K:PySem.W.Frag} {mg:Str → Option Value} {base:Heap} {N:List Str} {qual:Str} {scope:Scope} {f:Addr} {cd:Value} {A:Around} {outer:List Env} {s₀:Shared} {H₀:Hp} {E:XK} :
  aib (CX1 P w) (cxOf (CX1 P w) P w K mg base N qual scope f cd A outer s₀ H₀ E) E:=by
 intro pins σ H s e s' I c
 obtain ⟨x,C,t,B,H',rfl,os,bare,un,hok,fl,cov,hE⟩:=c
 have fr:∀ b ∈ frs (cxOf (CX1 P w) P w K mg base N qual scope f cd A outer s₀ H₀ E).stack,H' b = none:=fun b hb=>by
  obtain ⟨_,o,ho,hd⟩:=I.stack.mem hb
  exact un.free b o ho (I.stkFree b hb) (by intro z; cases z)
 have nL:∀ {b o},s₀.heap.get? b = some o → b ∉ frs outer → b ∉ frs (envOfC qual scope s₀.heap.objs.size f cd :: outer):=fun {b o} q z y=>by
  rcases List.mem_cons.mp (I.stkSub b y) with g | g
  ·exact absurd (Nat.lt_of_lt_of_le (Heap.lt_size q) I.ok.above) (by rw [g]; exact Nat.lt_irrefl _)
  ·exact z g
 refine wpAny_leaves_onW (base:=B) I.ok.frames rfl fl fun h' fl' up=>?_
 have I5:=I.flown os bare un hok cov fr fl'.1 up
 refine ⟨x,C,t,B,H',rfl,os.trans I.os,bare,I5.base,I5.hok,fl',fun b o q z=>?_,hE⟩
 have go:∀ {o2},B.get? b = some o2 → B.get? b = some o:=fun {o2} g=>by
  have:=fl'.1 b o2 g
  have q':h'.get? b = some o:=q
  rw [q'] at this
  cases this
  exact g
 rcases z with ⟨u,z⟩ | ⟨o',z,nz⟩
 ·obtain ⟨o2,g⟩:=(hok b u z).has
  exact go (cov b o2 g (.inl ⟨u,z⟩))
 ·obtain ⟨o2,g⟩:=I.base.there b o' z (by intro z; cases z)
  obtain ⟨o3,g3⟩:=un.there b o2 g (by intro z; cases z)
  exact go (cov b o3 g3 (.inr ⟨o2,g,nL z nz⟩))
end L2
namespace L2
open PySem PySem.Spec PyProof.Rows Bn
section
variable {X:Cx} {pins:List (Addr × Obj)} {σ:St} {H:Hp} {s:Shared}
theorem ada {M:Model} {A:Around} {E:Value → Shared → Prop} {i:Nat} {n:Str} {pos:Pos} {Q:Unit → Shared → Prop} (I:Inv X pins σ H s) (hN:X.N.Nodup) (hi:X.N[i]? = some n) (hk:X.env.scope.names.lookup n = some .local)
  (h:∀ s',Inv X pins (σ.set i none) H s' → Q () s'):wpAny M A (do bindName X.env n Value.none; unbindBehindTheSuite X.env n pos) Q E s:=by
 obtain ⟨m,hn,hl⟩:=id I.loc
 have hcls:(X.env.scope.kind == .class || (X.env.scope.kind == .module && X.env.locals != X.env.globals)) = false:=by rw [I.ok.kind]; rfl
 have hiσ:i < σ.length:=by rw [I.len]; exact (List.getElem?_eq_some_iff.mp hi).1
 have cne:=I.cne
 refine wpAny_nameGoes_keeps hk hn hcls fun h' v hn' hs=>?_
 obtain ⟨oL,_,_,hoL,_⟩:=id hn
 refine h _ ⟨I.ok,I.os,I.bare,⟨fun b o e n hb hx=>?_,fun b o e n hb hx=>?_,I.base.free,fun b o e hx=>?_,I.base.tups,I.base.frzs,I.base.tbls⟩,⟨_,hn',fun j y v' e1 e2 e3=>?_⟩,fun y c e=>?_,I.free,I.freeC,fun p hp=>?_,fun b ob e=>?_,by simpa using I.len⟩
 ·exact (hs.2 b (Nat.ne_of_lt (Nat.lt_of_lt_of_le (Heap.lt_size e) I.ok.above))).trans (I.base.keep b o e n hb hx)
 ·obtain ⟨sl,e1⟩:=I.base.slot b o e n hb hx
  exact ⟨sl,(hs.2 b (Nat.ne_of_lt (Nat.lt_of_lt_of_le (Heap.lt_size e) I.ok.above))).trans e1⟩
 ·obtain ⟨o',e1⟩:=I.base.there b o e hx
  exact ⟨o',(hs.2 b (Nat.ne_of_lt (Nat.lt_of_lt_of_le (Heap.lt_size e) I.ok.above))).trans e1⟩
 ·by_cases hj:j = i
  ·subst hj
   rw [List.getElem?_set_self hiσ] at e2
   cases e2
  ·rw [List.getElem?_set_ne (Ne.symm hj)] at e2
   obtain ⟨u',r',q⟩:=hl j y v' e1 e2 e3
   refine ⟨u',r',?_⟩
   rcases q with ⟨k,e⟩ | ⟨k,c,e,z⟩
   ·refine .inl ⟨k,?_⟩
    have:y ≠ n:=fun e=>hj (agx hN e1 (e ▸ hi))
    simp [this,e]
   ·exact .inr ⟨k,c,e,z.sameBut hs (cne y c e)⟩
 ·obtain ⟨w',z⟩:=I.cell y c e
  exact ⟨w',z.sameBut hs (cne y c e)⟩
 ·obtain ⟨e,n,ne,nf,d⟩:=I.pin p hp
  exact ⟨(hs.2 p.1 ne).trans e,n,ne,nf,d⟩
 ·refine (I.hok b ob e).stay (fun c w' hc q=>(hs.2 c ?_).trans q) (fun _ q=>q) fun _ _ q=>q
  have hfree:=I.free
  rintro rfl
  rcases hc with rfl | hc
  ·rw [hfree] at e; cases e
  ·rw [hfree] at hc; cases hc
end
abbrev Cx.mk1 (X:Cx) (x:Addr) (l:List (Addr × Obj)):Cx:={ X with A:=X.A.mark (some (.ref x)),calm:=false,pn:=l ++ X.pn,xe:=fun _ _=>False }
section
variable {X:Cx} {pins:List (Addr × Obj)} {σ:St} {H:Hp} {s:Shared}
theorem Cx.Ok.mk1 (ok:X.Ok) (x:Addr) (l:List (Addr × Obj)):(X.mk1 x l).Ok :=
 ⟨ok.mod,ok.kind,ok.glob,ok.blt,ok.above,ok.inj,ok.has,ok.cab,fun z=>(by cases z),ok.frames,ok.stk,ok.exf,ok.bs,ok.bsz,ok.noex,ok.exfs,ok.funs,ok.frf⟩
theorem Inv.mk1 (I:Inv X pins σ H s) (x:Addr) (l:List (Addr × Obj)) (h:∀ p ∈ l,s.heap.get? p.1 = some p.2 ∧ H p.1 = none ∧ p.1 ≠ X.env.locals ∧ p.1 ∉ X.fs ∧ ∀ v,p.2.data ≠ .cell v):Inv (X.mk1 x l) pins σ H s :=
 ⟨I.ok.mk1 x l,I.os,I.bare,I.base,I.loc,I.cell,I.free,I.freeC,fun p hp=>by
  rw [List.append_assoc] at hp
  exact (List.mem_append.mp hp).elim (h p) (I.pin p),I.hok,I.len⟩
theorem Inv.unmk1 {x:Addr} {l:List (Addr × Obj)} (ok:X.Ok) (I:Inv (X.mk1 x l) pins σ H s):Inv X pins σ H s :=
 ⟨ok,I.os,I.bare,I.base,I.loc,I.cell,I.free,I.freeC,fun p hp=>I.pin p (by rw [List.append_assoc]; exact List.mem_append_right _ hp),I.hok,I.len⟩
end
end L2
namespace L2
open PySem PySem.Spec PyProof.Rows Bn
theorem akI {a b c:Heap} (h1:a.UpToSlots b) (h2:b.UpToSlots c):a.UpToSlots c:=fun x o q d=>by
 obtain ⟨sl,g⟩:=h1 x o q d
 obtain ⟨sl',g'⟩:=h2 x _ g d
 exact ⟨sl',g'⟩
section
variable {X:Cx} {k:Nat} {f:Addr} {fd:FuncData} {ps:List Str} {sp:Sp} {dvs:List V} {ds:List Value} {x:Str} {p pos pos1 pos2 pos3 pc:Pos} {e:Expr} {es:List Expr} {t:TA} {c n:Str} {C:Addr} {i:Nat} {b₀:Stmt} {body:List Stmt} {newId:String}
end
end L2
namespace L2
open PySem PySem.Spec PySem.W PySem.Calls PySem.Builtin PySem.Builtin.Getset_descriptor PyProof.Rows Bn
section
variable {prog:Program} {w:World} {A:Around} {E:Value → Shared → Prop} {s:Shared} {K:PySem.W.Frag} {x D:Addr} {B:String} {R:Result → Shared → Prop}
def ahB (h:Heap) (x D:Addr):Prop:=∃ o,h.get? x = some o ∧ o.cls = .ref D
theorem ahB.ty {M:Model} {h:Heap} (I:ahB h x D):Looks M h (typeOf (.ref x)) (.ref D):=by
 obtain ⟨o,h1,h2⟩:=I
 rw [← h2]
 exact (Looks.ld h1).andThen .now
structure XCls (K:PySem.W.Frag) (D:Addr):Prop where
 ga:findIn K (.ref D) "__getattribute__" = some (some (.builtin "BaseException.__getattribute__"))
 gt:findIn K (.ref D) "__getattr__" = some none
 be:mroIn K D (.type "BaseException") = some true
 ob:mroIn K D (.type "object") = some true
 cl:findIn K (.ref D) "__class__" = some (some (.builtin "object.__class__"))
 sp:specialIn K (.builtin "object.__class__") "__get__" = some (some (.builtin "getset_descriptor.__get__"))
 tk:takesIn K (.builtin "object.__class__") = some true
 ci:(clsIn K D).isSome = true
theorem akU {M:Model} {h:Heap} (Z:XCls K D) (X:K.In h):Looks M h (Builtin.ObjectAttr.find (.ref x) (.ref D) "__class__") (.bind (.builtin "getset_descriptor.__get__") (.builtin "object.__class__")):=by
 have d:Looks M h (Builtin.ObjectAttr.dataDescriptor? (some (.builtin "object.__class__")) (some (.builtin "getset_descriptor.__get__"))) (some (.builtin "getset_descriptor.__get__",.builtin "object.__class__")) :=
  (looks_takesIn X Z.tk).andThen .now
 have g:Looks M h (Builtin.ObjectAttr.getOf (some (.builtin "object.__class__"))) (some (.builtin "getset_descriptor.__get__")):=looks_specialIn X Z.sp
 exact (looks_findIn X Z.cl).andThen (g.andThen (d.andThen (Looks.tag .now)))
theorem anL {tp:Value} (Z:XCls K D) (X:K.In s.heap) (I:ahB s.heap x D) (h:R (.ok (.ret (.ref D))) s) :
  codeAny (model prog w) A (.call (.builtin "getset_descriptor.__get__") ⟨[.builtin "object.__class__",.ref x,tp],[]⟩) R s:=by
 obtain ⟨hh,g,dr,t,os⟩:=s
 have l0:=I.ty (M:=model prog w)
 have l1:=looks_mroIn (M:=model prog w) X Z.ob
 refine codeAny_call_builtin KF.slot_gs.plain KF.entry_gs
  (KF.slot_gs.check _ _ _ _ _ _ _ _ KF.type_class (KF.args_gs _ _ _) ?_)
 unfold Builtin.«getset_descriptor.__get__» descrGet; rw [dga_obj]
 refine wpAny_bind (wpAny_pure ?_); unfold descrGetter descrCheckInstance descrNameAndClass isInstance
 simp only [KF.owner_class]; repeat lk
 refine ⟨Code.quiet_builtin _ (by decide +kernel),
  codeAny_builtin KF.entry_class ?_⟩
 unfold Builtin.«object.__class__» shownTypeOf; repeat lk
 exact h
theorem aov {tk:Tok} (FB:ExcAttrFacts B) (Z:XCls K D) (X:K.In s.heap) (I:ahB s.heap x D) (h:R (.ok (.ret (.ref D))) s) :
  codeAny (model prog w) A (.call (.builtin "BaseException.__getattribute__") ⟨[.ref x,.str "__class__" tk],[]⟩) R s:=by
 obtain ⟨hh,g,d,t,os⟩:=s
 have l0:=I.ty (M:=model prog w)
 have lb:=looks_mroIn (M:=model prog w) X Z.be
 have l1:=akU (M:=model prog w) (x:=x) Z X
 refine codeAny_call_builtin FB.ga.plain F.entry_bexc_ga ?_
 have e1:builtinKind "BaseException.__getattribute__" = some .slot:=by decide +kernel
 have e2:splitId "BaseException.__getattribute__" = some ("BaseException","__getattribute__"):=by decide +kernel
 have ha:=F.args_bexc_ga (.ref x) (.str "__class__" tk)
 simp only [checkBuiltinCall,e1,e2]
 refine wpAny_bind ?_
 unfold isInstance
 refine wpAny_bind (l0.at (lb.at ?_))
 repeat (any_goals (first | wp_step))
 obtain ⟨o,h1,h2⟩:=id I
 refine wpAny_loadPart h1 (wpAny_pure ?_)
 rw [h2]
 refine wpAny_bind (l1.at ?_)
 unfold Builtin.ObjectAttr.bindTo
 repeat (any_goals (first | wp_step))
 exact anL Z X I (wpAny_pure h)
theorem akx {Q:Option Value → Shared → Prop} (FB:ExcAttrFacts B) (Z:XCls K D) (X:K.In s.heap) (I:ahB s.heap x D) (h:Q (some (.ref D)) { s with toks:=s.toks + 1 }) :
  wpAny (model prog w) A (getAttr? (.ref x) "__class__") Q E s:=by
 obtain ⟨hh,g,d,t,os⟩:=s
 have l0:=I.ty (M:=model prog w)
 have l1:=looks_findIn (M:=model prog w) X Z.ga
 have l2:=looks_findIn (M:=model prog w) X Z.gt
 have f3:=FB.ga.bind (.ref x)
 have e2:(Value.builtin "BaseException.__getattribute__" == Value.builtin "object.__getattribute__") = false:=by decide +kernel
 unfold getAttr? getAttrBy? getAttrBy
 refine wpAny_bind (wpAny_mkText (wpAny_bind (wpAny_attempt (wpAny_holding (wpAny_bind (l0.at (wpAny_bind (l1.at ?_))))))))
 dsimp only
 rw [e2]
 simp only [Bool.and_false,Bool.false_eq_true,if_false]
 unfold getAttrByItsOwn hookBefore onTheHeap
 simp only [if_true]
 refine wpAny_bind (l2.at ?_)
 repeat (any_goals (first | assumption | wp_step))
 refine aov (s:=⟨hh,g,d,t + 1,os⟩) FB Z X I ?_
 exact handed_on rfl (wpAny_pure h)
theorem aiy (FB:ExcAttrFacts B) (Z:XCls K D):KitX K (.ref x) (.ref D) (fun h=>ahB h x D) where
 ty:=fun _ _ _ I=>I.ty
 it:=fun _ _ X _=>by
  obtain ⟨cd,hc⟩:=Option.isSome_iff_exists.mp Z.ci
  unfold clsIn at hc
  split at hc
  ·rename_i _ _ _ _ ho
   exact (Looks.ld (X _ _ ho)).andThen .now
  ·cases hc
 ne:=fun h tp dd its n sl X htp=>by
  obtain ⟨cd,hc⟩:=Option.isSome_iff_exists.mp Z.ci
  cases q:(Value.ref D == Value.ref tp) with
  | false=>rfl
  | true =>
   cases Value.ref.inj (beq_iff_eq.mp q)
   unfold clsIn at hc
   split at hc
   ·rename_i _ _ _ _ ho
    cases (X _ _ ho).symm.trans htp
   ·cases hc
 ca:=fun X I k=>akx FB Z X I k
end
end L2
namespace L2
open PySem PySem.Spec PyProof.Rows Bn
section
variable {X:Cx} {y D:Addr} {oe:Obj}
theorem alq (Z:XCls X.K D) (hp:(y,oe) ∈ X.pn) (hc:oe.cls = .ref D):ad4 X (.builtin "isinstance") (fun xs H Q=>∃ c b,((∃ n,c = V.ty n ∧ PySem.W.kitOne X.K (.ref D) (.type n) = some b) ∨ ∃ C,c = V.ref C ∧ PySem.W.kitOne X.K (.ref D) (.ref C) = some b) ∧ xs = [.ref y,c] ∧ Q (.bl b) H):=by
 intro pins s σ H xs us Q I r h
 obtain ⟨c,b,e,rfl,q⟩:=h
 obtain ⟨u,c',rfl,rx,rc⟩:=amQ r
 cases (show u = Value.ref y from rx)
 have of:ahB s.heap y D:=⟨oe,(I.pin _ (List.mem_append_left _ hp)).1,hc⟩
 rcases e with ⟨n,rfl,e⟩ | ⟨C,rfl,e⟩
 ·cases (show c' = Value.type n from rc)
  exact PySem.W.kia_one (aiy PySem.F.excAttr_ValueError Z) I.kIn of e (by intro q; cases q) fun tk=>⟨.bl b,H,I.tok tk,rfl,q⟩
 ·cases (show c' = Value.ref C from rc)
  exact PySem.W.kia_one (aiy PySem.F.excAttr_ValueError Z) I.kIn of e (by intro q; cases q) fun tk=>⟨.bl b,H,I.tok tk,rfl,q⟩
end
end L2
namespace L2.Pp
open PySem PySem.Spec PyProof.Rows Bn
inductive PV where
 | non | bl (b:Bool) | int (i:Int) | str (x:Str) | tup (xs:List PV) | lst (xs:List PV)
inductive SO where
 | lst (xs:List PV)
 | lol (xss:List (List PV))
abbrev Sto:=List SO
inductive AV where
 | pv (v:PV) | ref (k:Nat)
abbrev Rho:=List (Option AV)
inductive Res (α:Type) where
 | ok (a:α) (S:Sto) | exc (n:Str) (S:Sto) | fail
def Res.bind {α β:Type} (r:Res α) (k:α → Sto → Res β):Res β:=match r with
 | .ok a S=>k a S
 | .exc n S=>.exc n S
 | .fail=>.fail
inductive SRes where
 | nx (ρ:Rho) (S:Sto) | rt (v:AV) (S:Sto) | bk (ρ:Rho) (S:Sto) | ct (ρ:Rho) (S:Sto) | exc (n:Str) (S:Sto) | fail
def LAt (K:PySem.W.Frag) (c:Addr → Prop) (H:Hp) (a:Addr) (vs:List V):Prop :=
 (H a = some (.lst vs) ∧ ¬ c a) ∨ (∃ o,H a = some (.frz o (.lst vs))) ∨
  ∃ (o:Obj) (its:Array Value) (n:Nat),K.lookup a = some o ∧ o.cls = .type "list" ∧ o.dict = none ∧ o.data = .seq its n ∧ its.size ≤ sizeLine ∧ Vals vs its.toList
theorem LAt.sq {K:PySem.W.Frag} {c:Addr → Prop} {H:Hp} {a:Addr} {vs:List V} (h:LAt K c H a vs):SqL K H a vs:=by
 rcases h with h | h | h
 ·exact .inl (.inl h.1)
 ·exact .inl (.inr h)
 ·exact .inr h
mutual
def Rep (K:PySem.W.Frag) (c:Addr → Prop) (H:Hp):PV → V → Prop
 | .non,x=>x = .non
 | .bl b,x=>x = .bl b
 | .int i,x=>x = .int i
 | .str s,x=>x = .str s
 | .tup xs,x=>∃ a vs,x = .ref a ∧ SqT K H a vs ∧ vs.length ≤ sizeLine ∧ Reps K c H xs vs
 | .lst xs,x=>∃ a vs,x = .ref a ∧ LAt K c H a vs ∧ vs.length ≤ sizeLine ∧ Reps K c H xs vs
def Reps (K:PySem.W.Frag) (c:Addr → Prop) (H:Hp):List PV → List V → Prop
 | [],vs=>vs = []
 | p :: ps,vs=>∃ v r,vs = v :: r ∧ Rep K c H p v ∧ Reps K c H ps r
end
section
variable {K:PySem.W.Frag} {c c':Addr → Prop} {H H':Hp}
mutual
theorem Rep.mono (hT:∀ a vs,SqT K H a vs → SqT K H' a vs) (hL:∀ a vs,LAt K c H a vs → LAt K c' H' a vs):∀ (v:PV) (x:V),Rep K c H v x → Rep K c' H' v x
 | .non,x,h=>h
 | .bl b,x,h=>h
 | .int i,x,h=>h
 | .str s,x,h=>h
 | .tup xs,x,h=>by
  unfold Rep at h ⊢
  obtain ⟨a,vs,e,t,z,r⟩:=h
  exact ⟨a,vs,e,hT a vs t,z,Reps.mono hT hL xs vs r⟩
 | .lst xs,x,h=>by
  unfold Rep at h ⊢
  obtain ⟨a,vs,e,t,z,r⟩:=h
  exact ⟨a,vs,e,hL a vs t,z,Reps.mono hT hL xs vs r⟩
theorem Reps.mono (hT:∀ a vs,SqT K H a vs → SqT K H' a vs) (hL:∀ a vs,LAt K c H a vs → LAt K c' H' a vs):∀ (v:List PV) (x:List V),Reps K c H v x → Reps K c' H' v x
 | [],vs,h=>by
  unfold Reps at h ⊢
  exact h
 | p :: ps,vs,h=>by
  unfold Reps at h ⊢
  obtain ⟨v,r,e,h1,h2⟩:=h
  exact ⟨v,r,e,Rep.mono hT hL p v h1,Reps.mono hT hL ps r h2⟩
end
theorem Reps.length:∀ {xs:List PV} {vs:List V},Reps K c H xs vs → xs.length = vs.length
 | [],vs,h=>by
  unfold Reps at h
  rw [h]
  rfl
 | p :: ps,vs,h=>by
  unfold Reps at h
  obtain ⟨v,r,rfl,_,h2⟩:=h
  rw [List.length_cons,List.length_cons,Reps.length h2]
theorem Reps.get:∀ {xs:List PV} {vs:List V} {i:Nat} {p:PV},Reps K c H xs vs → xs[i]? = some p → ∃ v,vs[i]? = some v ∧ Rep K c H p v
 | [],vs,i,p,h,e=>by simp at e
 | q :: ps,vs,0,p,h,e=>by
  unfold Reps at h
  obtain ⟨v,r,rfl,h1,_⟩:=h
  simp at e
  subst e
  exact ⟨v,rfl,h1⟩
 | q :: ps,vs,i + 1,p,h,e=>by
  unfold Reps at h
  obtain ⟨v,r,rfl,_,h2⟩:=h
  obtain ⟨u,e1,e2⟩:=Reps.get (i:=i) h2 (by simpa using e)
  exact ⟨u,by simpa using e1,e2⟩
theorem Reps.nil:Reps K c H [] []:=by
 unfold Reps
 rfl
theorem Reps.cons {p:PV} {v:V} {ps:List PV} {vs:List V} (h:Rep K c H p v) (t:Reps K c H ps vs):Reps K c H (p :: ps) (v :: vs):=by
 unfold Reps
 exact ⟨v,vs,rfl,h,t⟩
theorem Reps.append:∀ {xs ys:List PV} {vs ws:List V},Reps K c H xs vs → Reps K c H ys ws → Reps K c H (xs ++ ys) (vs ++ ws)
 | [],ys,vs,ws,h,g=>by
  unfold Reps at h
  subst h
  exact g
 | p :: ps,ys,vs,ws,h,g=>by
  unfold Reps at h
  obtain ⟨v,r,rfl,h1,h2⟩:=h
  exact .cons h1 (h2.append g)
theorem Reps.drop:∀ {xs:List PV} {vs:List V} (n:Nat),Reps K c H xs vs → Reps K c H (xs.drop n) (vs.drop n)
 | xs,vs,0,h=>by simpa using h
 | [],vs,n + 1,h=>by
  unfold Reps at h
  subst h
  simpa using Reps.nil
 | p :: ps,vs,n + 1,h=>by
  unfold Reps at h
  obtain ⟨v,r,rfl,_,h2⟩:=h
  simpa using h2.drop n
theorem Reps.take:∀ {xs:List PV} {vs:List V} (n:Nat),Reps K c H xs vs → Reps K c H (xs.take n) (vs.take n)
 | xs,vs,0,h=>by simpa using Reps.nil
 | [],vs,n + 1,h=>by
  unfold Reps at h
  subst h
  simpa using Reps.nil
 | p :: ps,vs,n + 1,h=>by
  unfold Reps at h
  obtain ⟨v,r,rfl,h1,h2⟩:=h
  simpa using Reps.cons h1 (h2.take n)
theorem Reps.eraseIdx:∀ {xs:List PV} {vs:List V} (n:Nat),Reps K c H xs vs → Reps K c H (xs.eraseIdx n) (vs.eraseIdx n)
 | [],vs,n,h=>by
  unfold Reps at h
  subst h
  simpa using Reps.nil
 | p :: ps,vs,0,h=>by
  unfold Reps at h
  obtain ⟨v,r,rfl,h1,h2⟩:=h
  simpa using h2
 | p :: ps,vs,n + 1,h=>by
  unfold Reps at h
  obtain ⟨v,r,rfl,h1,h2⟩:=h
  simpa using Reps.cons h1 (h2.eraseIdx n)
theorem Reps.set {p:PV} {v:V} (g:Rep K c H p v):∀ {xs:List PV} {vs:List V} (n:Nat),Reps K c H xs vs → Reps K c H (xs.set n p) (vs.set n v)
 | [],vs,n,h=>by
  unfold Reps at h
  subst h
  simpa using Reps.nil
 | q :: ps,vs,0,h=>by
  unfold Reps at h
  obtain ⟨v,r,rfl,h1,h2⟩:=h
  simpa using Reps.cons g h2
 | q :: ps,vs,n + 1,h=>by
  unfold Reps at h
  obtain ⟨v,r,rfl,h1,h2⟩:=h
  simpa using Reps.cons h1 (Reps.set g n h2)
end
structure Ph where
 f:List Addr
 w:Addr → Prop
 c:Addr → Prop
def apJ (K:PySem.W.Frag) (c:Addr → Prop) (H:Hp) (xss:List (List PV)) (bs:List Addr):Prop :=
 xss.length = bs.length ∧ ∀ (i:Nat) (xs:List PV) (b:Addr),xss[i]? = some xs → bs[i]? = some b → ∃ vs,H b = some (.lst vs) ∧ vs.length ≤ sizeLine ∧ Reps K c H xs vs
def SObj (K:PySem.W.Frag) (p:Ph) (H:Hp) (a:Addr):SO → Prop
 | .lst xs=>∃ vs,H a = some (.lst vs) ∧ vs.length ≤ sizeLine ∧ Reps K p.c H xs vs
 | .lol xss=>∃ bs:List Addr,H a = some (.lst (bs.map V.ref)) ∧ bs.length ≤ sizeLine ∧ bs.Nodup ∧ (∀ b ∈ bs,p.w b ∧ b ∉ p.f) ∧ apJ K p.c H xss bs
theorem SObj.mono {K:PySem.W.Frag} {p p':Ph} {H H':Hp} {a:Addr} {o:SO} (h:SObj K p H a o) (ha:∀ vs,H a = some (.lst vs) → H' a = some (.lst vs))
  (hb:∀ b,p.w b → b ∉ p.f → (p'.w b ∧ b ∉ p'.f) ∧ ∀ vs,H b = some (.lst vs) → H' b = some (.lst vs)) (hR:∀ xs vs,Reps K p.c H xs vs → Reps K p'.c H' xs vs):SObj K p' H' a o:=by
 cases o with
 | lst xs =>
  obtain ⟨vs,e,l,r⟩:=h
  exact ⟨vs,ha vs e,l,hR xs vs r⟩
 | lol xss =>
  obtain ⟨bs,e,l,nd,wf,z,at_⟩:=h
  refine ⟨bs,ha _ e,l,nd,fun b m=>(hb b (wf b m).1 (wf b m).2).1,z,fun i xs b e1 e2=>?_⟩
  obtain ⟨vs,g1,g2,g3⟩:=at_ i xs b e1 e2
  have m:=wf b (List.mem_of_getElem? e2)
  exact ⟨vs,(hb b m.1 m.2).2 vs g1,g2,hR xs vs g3⟩
def Mb:HO → Prop
 | .lst _=>True
 | .dK _=>True
 | .dT _=>True
 | .ins _ _ _=>True
 | _=>False
structure Sim (K:PySem.W.Frag) (p:Ph) (S:Sto) (H:Hp):Prop where
 nd:p.f.Nodup
 len:p.f.length = S.length
 sub:∀ a ∈ p.f,p.w a
 wc:∀ a,p.w a → p.c a
 mu:∀ a,p.c a → ∃ o,H a = some o ∧ Mb o
 obj:∀ (k:Nat) (a:Addr) (o:SO),p.f[k]? = some a → S[k]? = some o → SObj K p H a o
structure Step (p:Ph) (H:Hp) (q:Ph) (H':Hp):Prop where
 wc:∀ a,p.w a → p.c a
 mu:∀ a,p.c a → ∃ o,H a = some o ∧ Mb o
 pre:p.f <+: q.f
 mw:∀ a,p.w a → q.w a
 mono:∀ a,p.c a → q.c a
 nf:∀ a ∈ q.f,a ∉ p.f → H a = none
 nw:∀ a,q.w a → ¬ p.w a → H a = none
 nc:∀ a,q.c a → ¬ p.c a → H a = none
 keep:∀ a o,H a = some o → ¬ p.w a → H' a = some o
def RepA (K:PySem.W.Frag) (p:Ph) (H:Hp):AV → V → Prop
 | .pv v,x=>Rep K p.c H v x
 | .ref k,x=>∃ a,p.f[k]? = some a ∧ x = .ref a
abbrev adb (K:PySem.W.Frag) (p:Ph) (H:Hp):List AV → List V → Prop:=Paired (RepA K p H)
structure RepE (K:PySem.W.Frag) (p:Ph) (H:Hp) (ρ:Rho) (σ:St):Prop where
 len:ρ.length = σ.length
 at_:∀ (i:Nat) (v:AV),ρ[i]? = some (some v) → ∃ x,σ[i]? = some (some x) ∧ RepA K p H v x
section
variable {K:PySem.W.Frag} {p q r:Ph} {H H' H'':Hp} {S:Sto}
theorem Sim.step (s:Sim K p S H):Step p H p H:=⟨s.wc,s.mu,List.prefix_rfl,fun _ h=>h,fun _ h=>h,fun _ h g=>absurd h g,fun _ h g=>absurd h g,fun _ h g=>absurd h g,fun _ _ h _=>h⟩
theorem Step.trans (a:Step p H q H') (b:Step q H' r H''):Step p H r H'':=by
 have back:∀ x,H' x = none → ¬ p.w x → H x = none:=fun x h n=>by
  cases e:H x with
  | none=>rfl
  | some o=>rw [a.keep x o e n] at h; cases h
 refine ⟨a.wc,a.mu,a.pre.trans b.pre,fun x h=>b.mw x (a.mw x h),fun x h=>b.mono x (a.mono x h),fun x h n=>?_,fun x h n=>?_,fun x h n=>?_,fun x o e n=>?_⟩
 ·by_cases m:x ∈ q.f
  ·exact a.nf x m n
  ·have hn:=b.nf x h m
   refine back x hn fun z=>?_
   obtain ⟨o,ho,_⟩:=b.mu x (a.mono x (a.wc x z))
   rw [hn] at ho
   cases ho
 ·by_cases m:q.w x
  ·exact a.nw x m n
  ·exact back x (b.nw x h m) n
 ·by_cases m:q.c x
  ·exact a.nc x m n
  ·exact back x (b.nc x h m) fun z=>n (a.wc x z)
 ·refine b.keep x o (a.keep x o e n) fun z=>?_
  rw [a.nw x z n] at e
  cases e
theorem Step.tup (s:Step p H q H') {a:Addr} {vs:List V} (h:SqT K H a vs):SqT K H' a vs:=by
 have go:∀ o,H a = some o → ¬ Mb o → H' a = some o:=fun o e n=>s.keep a o e fun z=>by
  obtain ⟨u,e',m⟩:=s.mu a (s.wc a z)
  rw [e] at e'
  cases e'
  exact n m
 rcases h with (h | ⟨o,h⟩) | h
 ·exact .inl (.inl (go _ h (fun z=>z)))
 ·exact .inl (.inr ⟨o,go _ h (fun z=>z)⟩)
 ·exact .inr h
theorem Step.lat (s:Step p H q H') {a:Addr} {vs:List V} (h:LAt K p.c H a vs):LAt K q.c H' a vs:=by
 rcases h with ⟨h,n⟩ | ⟨o,h⟩ | h
 ·refine .inl ⟨s.keep a _ h fun z=>n (s.wc a z),fun z=>?_⟩
  rw [s.nc a z n] at h
  cases h
 ·refine .inr (.inl ⟨o,s.keep a _ h fun z=>?_⟩)
  obtain ⟨u,e',m⟩:=s.mu a (s.wc a z)
  rw [h] at e'
  cases e'
  exact m
 ·exact .inr (.inr h)
theorem Step.rep (s:Step p H q H') {v:PV} {x:V} (h:Rep K p.c H v x):Rep K q.c H' v x:=Rep.mono (fun _ _=>s.tup) (fun _ _=>s.lat) v x h
theorem Step.reps (s:Step p H q H') {v:List PV} {x:List V} (h:Reps K p.c H v x):Reps K q.c H' v x:=Reps.mono (fun _ _=>s.tup) (fun _ _=>s.lat) v x h
theorem Step.at_ (s:Step p H q H') {k:Nat} {a:Addr} (h:p.f[k]? = some a):q.f[k]? = some a:=by
 obtain ⟨t,e⟩:=s.pre
 rw [← e,List.getElem?_append_left (by
  have:=List.getElem?_eq_some_iff.mp h
  exact this.1)]
 exact h
theorem Step.repA (s:Step p H q H') {v:AV} {x:V} (h:RepA K p H v x):RepA K q H' v x:=by
 cases v with
 | pv v=>exact s.rep h
 | ref k =>
  obtain ⟨a,e,f⟩:=h
  exact ⟨a,s.at_ e,f⟩
theorem Step.repE (s:Step p H q H') {ρ:Rho} {σ:St} (h:RepE K p H ρ σ):RepE K q H' ρ σ :=
 ⟨h.len,fun i v e=>let ⟨x,e1,e2⟩:=h.at_ i v e; ⟨x,e1,s.repA e2⟩⟩
theorem Sim.same (s:Sim K p S H) (h:Same H H'):Step p H p H':=⟨s.wc,s.mu,List.prefix_rfl,fun _ h=>h,fun _ h=>h,fun _ h g=>absurd h g,fun _ h g=>absurd h g,fun _ h g=>absurd h g,fun a o e _=>h a o e⟩
theorem Sim.ofSame (s:Sim K p S H) (h:Same H H'):Sim K p S H' :=
 ⟨s.nd,s.len,s.sub,s.wc,fun a m=>let ⟨o,e,m⟩:=s.mu a m; ⟨o,h a o e,m⟩,fun k a o e1 e2=>by
  exact (s.obj k a o e1 e2).mono (fun vs e=>h _ _ e) (fun b w f=>⟨⟨w,f⟩,fun vs e=>h _ _ e⟩) fun xs vs=>(s.same h).reps⟩
theorem abM {a:Addr} {o:HO} (h:H a = none):Same H (upd H a o):=fun b u e=>by
 rw [aaQ (aaX e h)]
 exact e
end
section
variable {α β γ δ:Type}
def abd (K:PySem.W.Frag) (cl:Str → Addr) (R:Ph → Hp → α → β → Prop) (p:Ph) (H:Hp) (r:Res α) (Q:β → Hp → Prop) (E:XK):Prop:=match r with
 | .ok a S=>∀ q H' x,Step p H q H' → Sim K q S H' → R q H' a x → Q x H'
 | .exc n S=>∀ q H',Step p H q H' → Sim K q S H' → E (.ref (cl n)) none H'
 | .fail=>False
def ab0 (K:PySem.W.Frag) (cl:Str → Addr) (p:Ph) (H:Hp) (r:SRes) (D:Ends) (E:XK):Prop:=match r with
 | .nx ρ S=>∀ q H' σ,Step p H q H' → Sim K q S H' → RepE K q H' ρ σ → D.nx σ H'
 | .bk ρ S=>∀ q H' σ,Step p H q H' → Sim K q S H' → RepE K q H' ρ σ → D.bk σ H'
 | .ct ρ S=>∀ q H' σ,Step p H q H' → Sim K q S H' → RepE K q H' ρ σ → D.ct σ H'
 | .rt v S=>∀ q H' x,Step p H q H' → Sim K q S H' → RepA K q H' v x → D.rt x H'
 | .exc n S=>∀ q H',Step p H q H' → Sim K q S H' → E (.ref (cl n)) none H'
 | .fail=>False
variable {K:PySem.W.Frag} {cl:Str → Addr} {p q:Ph} {H H':Hp} {S:Sto} {E:XK} {R:Ph → Hp → α → β → Prop} {R':Ph → Hp → γ → δ → Prop}
theorem abd.mono {r:Res α} {Q:β → Hp → Prop} (h:abd K cl R p H r Q E) (s:Step p H q H'):abd K cl R q H' r Q E:=by
 cases r with
 | ok a S=>exact fun q' H'' x s'=>h q' H'' x (s.trans s')
 | exc n S=>exact fun q' H'' s'=>h q' H'' (s.trans s')
 | fail=>exact h
theorem ab0.mono {r:SRes} {D:Ends} (h:ab0 K cl p H r D E) (s:Step p H q H'):ab0 K cl q H' r D E:=by
 cases r with
 | nx ρ S=>exact fun q' H'' x s'=>h q' H'' x (s.trans s')
 | bk ρ S=>exact fun q' H'' x s'=>h q' H'' x (s.trans s')
 | ct ρ S=>exact fun q' H'' x s'=>h q' H'' x (s.trans s')
 | rt v S=>exact fun q' H'' x s'=>h q' H'' x (s.trans s')
 | exc n S=>exact fun q' H'' s'=>h q' H'' (s.trans s')
 | fail=>exact h
theorem abd.ret {a:α} {x:β} {Q:β → Hp → Prop} (h:abd K cl R p H (.ok a S) Q E) (s:Sim K p S H) (r:R p H a x):Q x H:=h p H x s.step s r
theorem abd.same {a:α} {x:β} {Q:β → Hp → Prop} (h:abd K cl R p H (.ok a S) Q E) (s:Sim K p S H) (e:Same H H') (r:R p H' a x):Q x H':=h p H' x (s.same e) (s.ofSame e) r
def tP (K:PySem.W.Frag) (cl:Str → Addr) (E:XK) (R:Ph → Hp → α → β → Prop) (m:Rho → Sto → Res α) (σ:St) (H:Hp) (Q:β → Hp → Prop):Prop :=
 ∃ p S ρ,Sim K p S H ∧ RepE K p H ρ σ ∧ abd K cl R p H (m ρ S) Q E
def tS (K:PySem.W.Frag) (cl:Str → Addr) (E:XK) (m:Rho → Sto → SRes):TS:=fun D σ H =>
 ∃ p S ρ,Sim K p S H ∧ RepE K p H ρ σ ∧ ab0 K cl p H (m ρ S) D E
theorem aaO {m:Rho → Sto → Res α} {k:α → Sto → Res γ} {ρ:Rho} {σ:St} {Q:δ → Hp → Prop} {T:β → Hp → Prop} (s:Sim K p S H) (e:RepE K p H ρ σ) (h:abd K cl R' p H ((m ρ S).bind k) Q E)
  (g:∀ q H' a b S',Step p H q H' → Sim K q S' H' → RepE K q H' ρ σ → R q H' a b → abd K cl R' q H' (k a S') Q E → T b H'):tP K cl E R m σ H T:=by
 refine ⟨p,S,ρ,s,e,?_⟩
 cases z:m ρ S with
 | ok a S1 =>
  rw [z] at h
  exact fun q H' b st sm r=>g q H' a b S1 st sm (st.repE e) r (abd.mono (r:=k a S1) h st)
 | exc n S1 =>
  rw [z] at h
  exact h
 | fail =>
  rw [z] at h
  exact h
def SRes.of {α:Type} (r:Res α) (k:α → Sto → SRes):SRes:=match r with
 | .ok a S=>k a S
 | .exc n S=>.exc n S
 | .fail=>.fail
theorem acr {m:Rho → Sto → Res α} {k:α → Sto → SRes} {ρ:Rho} {σ:St} {D:Ends} {T:β → Hp → Prop} (s:Sim K p S H) (e:RepE K p H ρ σ) (h:ab0 K cl p H (SRes.of (m ρ S) k) D E)
  (g:∀ q H' a b S',Step p H q H' → Sim K q S' H' → RepE K q H' ρ σ → R q H' a b → ab0 K cl q H' (k a S') D E → T b H'):tP K cl E R m σ H T:=by
 refine ⟨p,S,ρ,s,e,?_⟩
 cases z:m ρ S with
 | ok a S1 =>
  rw [z] at h
  exact fun q H' b st sm r=>g q H' a b S1 st sm (st.repE e) r (ab0.mono (r:=k a S1) h st)
 | exc n S1 =>
  rw [z] at h
  exact h
 | fail =>
  rw [z] at h
  exact h
end
end L2.Pp
namespace L2.Pp
open PySem PySem.Spec PyProof.Rows Bn
abbrev RB:Ph → Hp → Bool → Bool → Prop:=fun _ _ a b=>a = b
abbrev ME:=Rho → Sto → Res AV
abbrev MT:=Rho → Sto → Res Bool
abbrev MA:=Rho → Sto → Res (List AV)
abbrev MS:=Rho → Sto → SRes
section
variable (K:PySem.W.Frag) (cl:Str → Addr) (E:XK) (X:Cx)
def PEp (e:Expr) (m:ME):Prop:=X.K = K → PE X e (tP K cl E (RepA K) m)
def PTp (e:Expr) (m:MT):Prop:=X.K = K → PT X e (tP K cl E RB m)
def PWp (e:Expr) (m:MT):Prop:=X.K = K → PW X e (tP K cl E RB m)
def PAp (es:List Expr) (m:MA):Prop:=X.K = K → PA X es (tP K cl E (adb K) m)
def PSp (st:Stmt) (m:MS):Prop:=X.K = K → PS X st (tS K cl E m)
def PSsp (st:List Stmt) (m:MS):Prop:=X.K = K → PSs X st (tS K cl E m)
end
theorem PA.imp {X:Cx} {es:List Expr} {t t':TA} (h:PA X es t) (i:∀ σ H Q,t' σ H Q → t σ H Q):PA X es t':=fun pos pins s σ H Q I q=>h pos pins s σ H Q I (i σ H Q q)
theorem PW.imp {X:Cx} {e:Expr} {t t':TT} (h:PW X e t) (i:∀ σ H Q,t' σ H Q → t σ H Q):PW X e t':=fun wh pins s σ H Q I q=>h wh pins s σ H Q I (i σ H Q q)
def mVar (i:Nat):ME:=fun ρ S=>match ρ[i]? with
 | some (some v)=>.ok v S
 | _=>.fail
def mC (v:PV):ME:=fun _ S=>.ok (.pv v) S
def rd (S:Sto):AV → Option PV
 | .pv v=>some v
 | .ref k=>match S[k]? with
  | some (.lst xs)=>some (.lst xs)
  | _=>none
def aax (S:Sto):List AV → Option (List PV)
 | []=>some []
 | a :: r=>match rd S a with
  | some v=>match aax S r with
   | some vs=>some (v :: vs)
   | none=>none
  | none=>none
def okO (o:Option PV) (S:Sto):Res AV:=match o with
 | some r=>.ok (.pv r) S
 | none=>.fail
def aaG (f:PV → Option PV) (a:AV) (S:Sto):Res AV:=okO ((rd S a).bind f) S
def aaA (f:PV → PV → Option PV) (a b:AV) (S:Sto):Res AV:=okO ((rd S a).bind fun x=>(rd S b).bind fun y=>f x y) S
def mUn (f:PV → Option PV) (ma:ME):ME:=fun ρ S=>(ma ρ S).bind fun x S1=>aaG f x S1
def mBin (f:PV → PV → Option PV) (ma mb:ME):ME:=fun ρ S=>(ma ρ S).bind fun x S1=>(mb ρ S1).bind fun y S2=>aaA f x y S2
def mNil:MA:=fun _ S=>.ok [] S
def aab (ma:ME) (mr:MA):MA:=fun ρ S=>(ma ρ S).bind fun x S1=>(mr ρ S1).bind fun xs S2=>.ok (x :: xs) S2
def aaB:List AV → Option (List PV)
 | []=>some []
 | .pv v :: r=>match aaB r with
  | some vs=>some (v :: vs)
  | none=>none
 | .ref _ :: _=>none
def aaH (f:List PV → Option PV) (xs:List AV) (S:Sto):Res AV:=okO ((aaB xs).bind f) S
def aaD (f:List PV → Option PV) (xs:List AV) (S:Sto):Res AV:=okO ((aax S xs).bind f) S
def mR (f:List PV → Option PV) (ma:MA):ME:=fun ρ S=>(ma ρ S).bind fun xs S1=>aaD f xs S1
def mN (f:List PV → Option PV) (ma:MA):ME:=fun ρ S=>(ma ρ S).bind fun xs S1=>aaH f xs S1
def fTup (vs:List PV):Option PV:=if vs.length ≤ 16777216 then some (.tup vs) else none
def fLst (vs:List PV):Option PV:=if vs.length ≤ 16777216 then some (.lst vs) else none
def tst:AV → Sto → Res Bool
 | .pv (.bl b),S=>.ok b S
 | _,_=>.fail
def mTst (m:ME):MT:=fun ρ S=>(m ρ S).bind tst
def mNot (m:MT):MT:=fun ρ S=>(m ρ S).bind fun b S1=>.ok (!b) S1
def mAnd (m n:MT):MT:=fun ρ S=>(m ρ S).bind fun b S1=>if b = true then n ρ S1 else .ok false S1
def mOr (m n:MT):MT:=fun ρ S=>(m ρ S).bind fun b S1=>if b = true then .ok true S1 else n ρ S1
def aaE (m n:ME):ME:=fun ρ S=>(m ρ S).bind fun x S1=>match x with
 | .pv (.bl true)=>n ρ S1
 | .pv (.bl false)=>.ok (.pv (.bl false)) S1
 | _=>.fail
def mOrV (m n:ME):ME:=fun ρ S=>(m ρ S).bind fun x S1=>match x with
 | .pv (.bl false)=>n ρ S1
 | .pv (.bl true)=>.ok (.pv (.bl true)) S1
 | _=>.fail
def fNot:PV → Option PV
 | .bl b=>some (.bl (!b))
 | _=>none
def mIf (c:MT) (a b:ME):ME:=fun ρ S=>(c ρ S).bind fun t S1=>if t = true then a ρ S1 else b ρ S1
section
variable {K:PySem.W.Frag} {cl:Str → Addr} {E:XK} {X:Cx} {a b c e:Expr} {es:List Expr} {ma mb mc m:ME} {mt nt:MT} {ms:MA} {pos:Pos}
theorem aac (i:Nat) {x:Str} (hN:X.N[i]? = some x:=by rfl) (hv:Vis X.env.scope x:=by first | exact Or.inl rfl | exact Or.inr (Or.inl rfl) | exact Or.inr (Or.inr rfl)) (hd:(x == ("__debug__":Str)) = false:=by decide)
  (hcd:(x == ("__classdict__":Str)) = false:=by decide):PEp K cl E X (.Name x pos) (mVar i):=fun _=>(aeR hN hv hd hcd).imp fun σ H Q ⟨p,S,ρ,s,e,h⟩=>by
 unfold mVar at h
 cases z:ρ[i]? with
 | none=>rw [z] at h; exact h.elim
 | some o =>
  cases o with
  | none=>rw [z] at h; exact h.elim
  | some v =>
   rw [z] at h
   obtain ⟨x,e1,e2⟩:=e.at_ i v z
   exact ⟨x,e1,abd.ret h s e2⟩
theorem aaf {i:Int} {j}:PEp K cl E X (.Constant (.int i) j pos) (mC (.int i)):=fun _=>amc.imp fun σ H Q ⟨p,S,ρ,s,e,h⟩=>abd.ret (R:=RepA K) (x:=.int i) h s (by show Rep K p.c H (.int i) (.int i); unfold Rep; rfl)
theorem ahJ {i:Bool} {j}:PEp K cl E X (.Constant (.bool i) j pos) (mC (.bl i)):=fun _=>apw.imp fun σ H Q ⟨p,S,ρ,s,e,h⟩=>abd.ret (R:=RepA K) (x:=.bl i) h s (by show Rep K p.c H (.bl i) (.bl i); unfold Rep; rfl)
theorem aob {j}:PEp K cl E X (.Constant .none j pos) (mC .non):=fun _=>aow.imp fun σ H Q ⟨p,S,ρ,s,e,h⟩=>abd.ret (R:=RepA K) (x:=.non) h s (by show Rep K p.c H .non .non; unfold Rep; rfl)
def RepR (K:PySem.W.Frag) (p:Ph) (H:Hp) (v:PV) (x:V):Prop:=Rep K p.c H v x ∨ ∃ xs a vs,v = .lst xs ∧ x = .ref a ∧ H a = some (.lst vs) ∧ vs.length ≤ sizeLine ∧ Reps K p.c H xs vs
theorem RepR.int {p:Ph} {H:Hp} {i:Int} {x:V} (h:RepR K p H (.int i) x):x = .int i:=by
 rcases h with h | ⟨_,_,_,e,_⟩
 ·unfold Rep at h; exact h
 ·cases e
theorem RepR.bl {p:Ph} {H:Hp} {i:Bool} {x:V} (h:RepR K p H (.bl i) x):x = .bl i:=by
 rcases h with h | ⟨_,_,_,e,_⟩
 ·unfold Rep at h; exact h
 ·cases e
theorem RepR.str {p:Ph} {H:Hp} {i:Str} {x:V} (h:RepR K p H (.str i) x):x = .str i:=by
 rcases h with h | ⟨_,_,_,e,_⟩
 ·unfold Rep at h; exact h
 ·cases e
theorem RepR.non {p:Ph} {H:Hp} {x:V} (h:RepR K p H .non x):x = .non:=by
 rcases h with h | ⟨_,_,_,e,_⟩
 ·unfold Rep at h; exact h
 ·cases e
theorem RepR.tup {p:Ph} {H:Hp} {xs:List PV} {x:V} (h:RepR K p H (.tup xs) x):∃ a vs,x = .ref a ∧ SqT K H a vs ∧ vs.length ≤ sizeLine ∧ Reps K p.c H xs vs:=by
 rcases h with h | ⟨_,_,_,e,_⟩
 ·unfold Rep at h; exact h
 ·cases e
theorem RepR.lst {p:Ph} {H:Hp} {xs:List PV} {x:V} (h:RepR K p H (.lst xs) x):∃ a vs,x = .ref a ∧ SqL K H a vs ∧ vs.length ≤ sizeLine ∧ Reps K p.c H xs vs:=by
 rcases h with h | ⟨ys,a,vs,e,e2,h,z,r⟩
 ·unfold Rep at h
  obtain ⟨a,vs,e,l,z,r⟩:=h
  exact ⟨a,vs,e,l.sq,z,r⟩
 ·cases e
  exact ⟨a,vs,e2,SqL.of h,z,r⟩
theorem agN {p:Ph} {S:Sto} {H:Hp} {a:AV} {v:PV} {x:V} (s:Sim K p S H) (r:RepA K p H a x) (e:rd S a = some v):RepR K p H v x:=by
 cases a with
 | pv u=>cases e; exact .inl r
 | ref k =>
  obtain ⟨a,e1,rfl⟩:=r
  unfold rd at e
  cases z:S[k]? with
  | none=>simp only [z] at e; cases e
  | some o =>
   cases o with
   | lst xs =>
    simp only [z] at e
    cases e
    obtain ⟨vs,h,l,r⟩:=s.obj k a _ e1 z
    exact .inr ⟨xs,a,vs,rfl,rfl,h,l,r⟩
   | lol xss=>simp only [z] at e; cases e
abbrev apl (K:PySem.W.Frag) (p:Ph) (H:Hp):List PV → List V → Prop:=Paired (RepR K p H)
theorem aeT {p:Ph} {S:Sto} {H:Hp} (s:Sim K p S H):∀ {as:List AV} {vs:List PV} {xs:List V},adb K p H as xs → aax S as = some vs → apl K p H vs xs
 | [],vs,_,.nil,e=>by
  cases e
  exact .nil
 | a :: r,vs,_,.cons h t,e=>by
  unfold aax at e
  cases z:rd S a with
  | none=>simp only [z] at e; cases e
  | some v =>
   simp only [z] at e
   cases y:aax S r with
   | none=>simp only [y] at e; cases e
   | some us =>
    simp only [y] at e
    cases e
    exact .cons (agN s h z) (aeT s t y)
def OpS (K:PySem.W.Frag) (r:R2) (f:PV → PV → Option PV):Prop:=∀ {p:Ph} {S:Sto} {H:Hp} {a b c:PV} {x y:V} {Q:VK},Sim K p S H → RepR K p H a x → RepR K p H b y → f a b = some c →
 (∀ H' z,Same H H' → Rep K p.c H' c z → Q z H') → r x y H Q
def UnS (K:PySem.W.Frag) (r:V → Hp → VK → Prop) (f:PV → Option PV):Prop:=∀ {p:Ph} {S:Sto} {H:Hp} {a c:PV} {x:V} {Q:VK},Sim K p S H → RepR K p H a x → f a = some c →
 (∀ H' z,Same H H' → Rep K p.c H' c z → Q z H') → r x H Q
def CaS (K:PySem.W.Frag) (r:List V → Hp → VK → Prop) (f:List PV → Option PV):Prop:=∀ {p:Ph} {S:Sto} {H:Hp} {as:List PV} {c:PV} {xs:List V} {Q:VK},Sim K p S H → Reps K p.c H as xs → f as = some c →
 (∀ H' z,Same H H' → Rep K p.c H' c z → Q z H') → r xs H Q
def CaR (K:PySem.W.Frag) (r:List V → Hp → VK → Prop) (f:List PV → Option PV):Prop:=∀ {p:Ph} {S:Sto} {H:Hp} {as:List PV} {c:PV} {xs:List V} {Q:VK},Sim K p S H → apl K p H as xs → f as = some c →
 (∀ H' z,Same H H' → Rep K p.c H' c z → Q z H') → r xs H Q
theorem afq {p:Ph} {S:Sto} {H:Hp} {o:Option PV} {Q:VK} (s:Sim K p S H) (h:abd K cl (RepA K) p H (okO o S) Q E):∃ c,o = some c ∧ ∀ H' z,Same H H' → Rep K p.c H' c z → Q z H':=by
 cases o with
 | none=>exact h.elim
 | some c=>exact ⟨c,rfl,fun H' z sm rz=>abd.same (R:=RepA K) h s sm rz⟩
theorem adT {r:R2} {f:PV → PV → Option PV} (hf:OpS K r f) {p:Ph} {S:Sto} {H:Hp} {a b:AV} {x y:V} {Q:VK} (s:Sim K p S H) (ra:RepA K p H a x) (rb:RepA K p H b y) (h:abd K cl (RepA K) p H (aaA f a b S) Q E):r x y H Q:=by
 obtain ⟨c,e,k⟩:=afq s h
 cases z:rd S a with
 | none=>rw [z] at e; cases e
 | some v =>
  cases y:rd S b with
  | none=>rw [z,y] at e; cases e
  | some w =>
   rw [z,y] at e
   exact hf s (agN s ra z) (agN s rb y) e k
theorem adU {r:V → Hp → VK → Prop} {f:PV → Option PV} (hf:UnS K r f) {p:Ph} {S:Sto} {H:Hp} {a:AV} {x:V} {Q:VK} (s:Sim K p S H) (ra:RepA K p H a x) (h:abd K cl (RepA K) p H (aaG f a S) Q E):r x H Q:=by
 obtain ⟨c,e,k⟩:=afq s h
 cases z:rd S a with
 | none=>rw [z] at e; cases e
 | some v =>
  rw [z] at e
  exact hf s (agN s ra z) e k
theorem ag1 {r:List V → Hp → VK → Prop} {f:List PV → Option PV} (hf:CaR K r f) {p:Ph} {S:Sto} {H:Hp} {as:List AV} {xs:List V} {Q:VK} (s:Sim K p S H) (ra:adb K p H as xs) (h:abd K cl (RepA K) p H (aaD f as S) Q E):r xs H Q:=by
 obtain ⟨c,e,k⟩:=afq s h
 cases z:aax S as with
 | none=>rw [z] at e; cases e
 | some v =>
  rw [z] at e
  exact hf s (aeT s ra z) e k
theorem aej {p:Ph} {H:Hp}:∀ {as:List AV} {vs:List PV} {xs:List V},aaB as = some vs → adb K p H as xs → Reps K p.c H vs xs
 | [],vs,_,e,.nil=>by
  cases e
  exact .nil
 | .pv v :: r,vs,_,e,.cons h t=>by
  unfold aaB at e
  cases z:aaB r with
  | none=>simp only [z] at e; cases e
  | some us =>
   simp only [z] at e
   cases e
   exact .cons h (aej z t)
 | .ref k :: r,vs,_,e,.cons h t=>by
  cases e
theorem agD {r:List V → Hp → VK → Prop} {f:List PV → Option PV} (hf:CaS K r f) {p:Ph} {S:Sto} {H:Hp} {as:List AV} {xs:List V} {Q:VK} (s:Sim K p S H) (ra:adb K p H as xs) (h:abd K cl (RepA K) p H (aaH f as S) Q E):r xs H Q:=by
 obtain ⟨c,e,k⟩:=afq s h
 cases z:aaB as with
 | none=>rw [z] at e; cases e
 | some v =>
  rw [z] at e
  exact hf s (aej z ra) e k
theorem aau {op:Operator} {r:R2} {f:PV → PV → Option PV} (ho:OpR X (binaryOp op) r) (hf:OpS X.K r f) (ha:PEp K cl E X a ma) (hb:PEp K cl E X b mb):PEp K cl E X (.BinOp a op b pos) (mBin f ma mb):=by
 intro hK
 subst hK
 refine (aoQ ho (ha rfl) (hb rfl)).imp fun σ H Q ⟨p,S,ρ,s,e,h⟩=>?_
 exact aaO s e h fun q H1 a x S1 st s1 e1 r1 h1=>aaO s1 e1 h1 fun q2 H2 b y S2 st2 s2 e2 r2 h2=>adT hf s2 (st2.repA r1) r2 h2
theorem abW {op:UnaryOp} {r:V → Hp → VK → Prop} {f:PV → Option PV} (ho:UnR X (unaryOp op) r) (hf:UnS X.K r f) (ha:PEp K cl E X a ma):PEp K cl E X (.UnaryOp op a pos) (mUn f ma):=by
 intro hK
 subst hK
 refine (apP ho (ha rfl)).imp fun σ H Q ⟨p,S,ρ,s,e,h⟩=>?_
 exact aaO s e h fun q H1 a x S1 st s1 e1 r1 h1=>adU hf s1 r1 h1
theorem afE {op:CmpOp} {r:R2} {f:PV → PV → Option PV} (ho:OpR X (compareOp op) r) (hf:OpS X.K r f) (ha:PEp K cl E X a ma) (hb:PEp K cl E X b mb) (hm:behindInMarks op b = false):PEp K cl E X (.Compare a [op] [b] pos) (mBin f ma mb):=by
 intro hK
 subst hK
 refine (am6 ho (ha rfl) (hb rfl) hm).imp fun σ H Q ⟨p,S,ρ,s,e,h⟩=>?_
 exact aaO s e h fun q H1 a x S1 st s1 e1 r1 h1=>aaO s1 e1 h1 fun q2 H2 b y S2 st2 s2 e2 r2 h2=>adT hf s2 (st2.repA r1) r2 h2
theorem aoy {p:Ph} {H:Hp} {v:AV} {x:V} (r:RepA K p H v x) {b:Bool} (e:v = .pv (.bl b)):x = .bl b:=by
 subst e
 unfold RepA Rep at r
 exact r
theorem aia {p:Ph} {S:Sto} {H:Hp} {v:AV} {x:V} {Q:Bool → Hp → Prop} (s:Sim K p S H) (r:RepA K p H v x)
  (h:abd K cl RB p H (tst v S) Q E):∃ k,x = .bl k ∧ Q k H:=by
 cases v with
 | ref k=>exact h.elim
 | pv v =>
  cases v with
  | bl b=>exact ⟨b,aoy r rfl,abd.ret (R:=RB) h s rfl⟩
  | _=>exact h.elim
theorem aa2 {op:CmpOp} {r:R2} {f:PV → PV → Option PV} (ho:OpR X (compareOp op) r) (hf:OpS X.K r f) (ha:PEp K cl E X a ma) (hb:PEp K cl E X b mb) (hm:behindInMarks op b = false):PTp K cl E X (.Compare a [op] [b] pos) (mTst (mBin f ma mb)):=by
 intro hK
 subst hK
 refine (anh ho (ha rfl) (hb rfl) hm).imp fun σ H Q ⟨p,S,ρ,s,e,h⟩=>?_
 have z:tP X.K cl E (RepA X.K) (mBin f ma mb) σ H fun x H'=>∃ k,x = .bl k ∧ Q k H':=aaO s e h fun q H1 a x S1 st s1 e1 r1 h1=>aia s1 r1 h1
 obtain ⟨p',S',ρ',s',e',h'⟩:=z
 exact aaO s' e' h' fun q H1 a x S1 st s1 e1 r1 h1=>aaO s1 e1 h1 fun q2 H2 b y S2 st2 s2 e2 r2 h2=>adT hf s2 (st2.repA r1) r2 h2
theorem afo (ha:PEp K cl E X a ma) (he:∀ whole,isTrue a X.env whole = (do let v ← whole; standAt a.pos; holding [v] (truthy v)):=by intro _; rfl):PTp K cl E X a (mTst ma):=by
 intro hK
 subst hK
 refine (aoA (ha rfl) he).imp fun σ H Q ⟨p,S,ρ,s,e,h⟩=>?_
 exact aaO s e h fun q H1 a x S1 st s1 e1 r1 h1=>aia s1 r1 h1
theorem aeQ (ha:PTp K cl E X a mt):PTp K cl E X (.UnaryOp .Not a pos) (mNot mt):=by
 intro hK
 subst hK
 refine (ao1 (ha rfl)).imp fun σ H Q ⟨p,S,ρ,s,e,h⟩=>?_
 exact aaO s e h fun q H1 a x S1 st s1 e1 r1 h1=>by
  cases r1
  exact abd.ret (R:=RB) h1 s1 rfl
theorem aip (ha:PTp K cl E X a mt):PWp K cl E X (.BoolOp .And [a] pos) mt:=fun hK=>anN (ha hK)
theorem ahC (ha:PTp K cl E X a mt):PWp K cl E X (.BoolOp .Or [a] pos) mt:=fun hK=>aoC (ha hK)
theorem PWp.pt (h:PWp K cl E X a mt):PTp K cl E X a mt:=fun hK=>PW.pt (h hK)
theorem ajR {rest:List Expr} (ha:PTp K cl E X a mt) (hb:PWp K cl E X (.BoolOp .And (b :: rest) pos) nt):PWp K cl E X (.BoolOp .And (a :: b :: rest) pos) (mAnd mt nt):=by
 intro hK
 subst hK
 refine PW.imp (aoq (ha rfl) (hb rfl)) fun σ H Q ⟨p,S,ρ,s,e,h⟩=>?_
 refine aaO s e h fun q H1 a x S1 st s1 e1 r1 h1=>?_
 cases r1
 cases a with
 | true=>exact ⟨q,S1,ρ,s1,e1,h1⟩
 | false=>exact abd.ret (R:=RB) h1 s1 rfl
theorem akg {rest:List Expr} (ha:PTp K cl E X a mt) (hb:PWp K cl E X (.BoolOp .Or (b :: rest) pos) nt):PWp K cl E X (.BoolOp .Or (a :: b :: rest) pos) (mOr mt nt):=by
 intro hK
 subst hK
 refine PW.imp (apG (ha rfl) (hb rfl)) fun σ H Q ⟨p,S,ρ,s,e,h⟩=>?_
 refine aaO s e h fun q H1 a x S1 st s1 e1 r1 h1=>?_
 cases r1
 cases a with
 | true=>exact abd.ret (R:=RB) h1 s1 rfl
 | false=>exact ⟨q,S1,ρ,s1,e1,h1⟩
theorem aiF {op} (h:PEp K cl E X a ma):PEp K cl E X (.BoolOp op [a] pos) ma:=fun hK=>aoV (h hK)
theorem ahZ {rest:List Expr} (ha:PEp K cl E X a ma) (hb:PEp K cl E X (.BoolOp .And (b :: rest) pos) mb):PEp K cl E X (.BoolOp .And (a :: b :: rest) pos) (aaE ma mb):=by
 intro hK
 subst hK
 refine (ao8 (ha rfl) (hb rfl)).imp fun σ H Q ⟨p,S,ρ,s,e,h⟩=>?_
 refine aaO s e h fun q H1 a x S1 st s1 e1 r1 h1=>?_
 cases a with
 | ref k=>exact h1.elim
 | pv v =>
  cases v with
  | bl b =>
   refine ⟨b,aoy r1 rfl,?_⟩
   cases b with
   | true=>exact ⟨q,S1,ρ,s1,e1,h1⟩
   | false=>exact abd.ret (R:=RepA X.K) h1 s1 (by show Rep X.K q.c H1 _ _; unfold Rep; rfl)
  | _=>exact h1.elim
theorem aoO (ha:PEp K cl E X a ma):PEp K cl E X (.UnaryOp .Not a pos) (mUn fNot ma):=by
 intro hK
 subst hK
 refine (aoh (ha rfl)).imp fun σ H Q ⟨p,S,ρ,s,e,h⟩=>?_
 refine aaO s e h fun q H1 a x S1 st s1 e1 r1 h1=>?_
 refine adU (r:=fun x H Q=>∃ c,x = .bl c ∧ Q (.bl (!c)) H) (f:=fNot) (fun {p S H a c x Q} s r e k=>?_) s1 r1 h1
 cases a with
 | bl b =>
  cases e
  exact ⟨b,r.bl,k H _ (Same.refl H) (by unfold Rep; rfl)⟩
 | _=>cases e
theorem aag:PAp K cl E X [] mNil:=fun _=>(PA.imp afF fun σ H Q ⟨p,S,ρ,s,e,h⟩=>abd.ret (R:=adb K) h s .nil)
theorem aaa (ha:PEp K cl E X e m) (hr:PAp K cl E X es ms) (hs:starEach (e :: es) X.env = (false,eval e X.env) :: starEach es X.env:=by rfl):PAp K cl E X (e :: es) (aab m ms):=by
 intro hK
 subst hK
 refine PA.imp (adn (ha rfl) (hr rfl) hs) fun σ H Q ⟨p,S,ρ,s,e,h⟩=>?_
 exact aaO s e h fun q H1 a x S1 st s1 e1 r1 h1=>aaO s1 e1 h1 fun q2 H2 b y S2 st2 s2 e2 r2 h2=>abd.ret (R:=adb X.K) h2 s2 (.cons (st2.repA r1) r2)
theorem aek {p:Ph} {S:Sto} {H:Hp} {vs:List PV} {xs:List V} {t:Addr} (s:Sim K p S H) (r:Reps K p.c H vs xs) (z:xs.length ≤ sizeLine) (ht:H t = none):Rep K p.c (upd H t (.tup xs)) (.tup vs) (.ref t):=by
 unfold Rep
 exact ⟨t,xs,rfl,SqT.of aa6,z,(s.same (abM ht)).reps r⟩
theorem aeq {p:Ph} {S:Sto} {H:Hp} {vs:List PV} {xs:List V} {t:Addr} (s:Sim K p S H) (r:Reps K p.c H vs xs) (z:xs.length ≤ sizeLine) (ht:H t = none):Rep K p.c (upd H t (.lst xs)) (.lst vs) (.ref t):=by
 unfold Rep
 refine ⟨t,xs,rfl,.inl ⟨aa6,fun c=>?_⟩,z,(s.same (abM ht)).reps r⟩
 obtain ⟨o,e,_⟩:=s.mu t c
 rw [ht] at e
 cases e
theorem abb:sizeLine = 16777216:=sizeLine_eq
theorem amb {x1} (h:PAp K cl E X es ms):PEp K cl E X (.Tuple es x1 pos) (mN fTup ms):=by
 intro hK
 subst hK
 refine (apb (h rfl)).imp fun σ H Q ⟨p,S,ρ,s,e,h⟩=>?_
 refine aaO s e h fun q H1 as xs S1 st s1 e1 r1 h1=>?_
 refine agD (r:=fun xs H Q=>xs.length ≤ sizeLine ∧ ∀ t,H t = none → Q (.ref t) (upd H t (.tup xs))) (f:=fTup) (fun {p S H as c xs Q} s r e k=>?_) s1 r1 h1
 unfold fTup at e
 split at e
 ·rename_i hl
  cases e
  rw [r.length,← abb] at hl
  exact ⟨hl,fun t ht=>k _ _ (abM ht) (aek s r hl ht)⟩
 ·cases e
theorem acd (h:PAp K cl E X es ms):PEp K cl E X (.List es pos) (mN fLst ms):=by
 intro hK
 subst hK
 refine (akf (h rfl)).imp fun σ H Q ⟨p,S,ρ,s,e,h⟩=>?_
 refine aaO s e h fun q H1 as xs S1 st s1 e1 r1 h1=>?_
 refine agD (r:=fun xs H Q=>xs.length ≤ sizeLine ∧ ∀ t,H t = none → Q (.ref t) (upd H t (.lst xs))) (f:=fLst) (fun {p S H as c xs Q} s r e k=>?_) s1 r1 h1
 unfold fLst at e
 split at e
 ·rename_i hl
  cases e
  rw [r.length,← abb] at hl
  exact ⟨hl,fun t ht=>k _ _ (abM ht) (aeq s r hl ht)⟩
 ·cases e
end
end L2.Pp
namespace L2.Pp
open PySem PySem.Spec PyProof.Rows Bn
def sNil:MS:=fun ρ S=>.nx ρ S
def sSeq (a b:MS):MS:=fun ρ S=>match a ρ S with
 | .nx ρ1 S1=>b ρ1 S1
 | r=>r
def aat (m:ME):MS:=fun ρ S=>SRes.of (m ρ S) fun _ S1=>.nx ρ S1
def sRet (m:ME):MS:=fun ρ S=>SRes.of (m ρ S) fun v S1=>.rt v S1
def aaM:MS:=fun _ S=>.rt (.pv .non) S
def sIf (c:MT) (a b:MS):MS:=fun ρ S=>SRes.of (c ρ S) fun t S1=>if t = true then a ρ S1 else b ρ S1
def sSet (i:Nat) (m:ME):MS:=fun ρ S=>SRes.of (m ρ S) fun v S1=>.nx (ρ.set i (some v)) S1
def sPar (i j:Nat) (m:MA):MS:=fun ρ S=>SRes.of (m ρ S) fun vs S1=>match vs with
 | [v,w]=>.nx ((ρ.set i (some v)).set j (some w)) S1
 | _=>.fail
abbrev GM:=PV → Rho → Option Rho
abbrev GMs:=List PV → Rho → Option Rho
def gN (i:Nat):GM:=fun v ρ=>some (ρ.set i (some (.pv v)))
def acK:GMs:=fun vs ρ=>match vs with
 | []=>some ρ
 | _=>none
def abc (g:GM) (gs:GMs):GMs:=fun vs ρ=>match vs with
 | []=>none
 | v :: r=>match g v ρ with
  | some ρ1=>gs r ρ1
  | none=>none
def gT (n:Nat) (gs:GMs):GM:=fun v ρ=>match v with
 | .tup vs=>if vs.length = n then gs vs ρ else none
 | _=>none
abbrev Gd:=List (Nat × List PV)
def gOk (G:Gd) (S:Sto):Prop:=∀ g ∈ G,S[g.1]? = some (.lst g.2)
theorem aeb (S:Sto):gOk [] S:=fun _ h=>nomatch h
abbrev MI:=Rho → Sto → Res (List PV × Gd)
open Classical in
noncomputable def abT (G:Gd) (g:GM) (mb:MS):List PV → Rho → Sto → SRes
 | [],ρ,S=>if gOk G S then .nx ρ S else .fail
 | x :: r,ρ,S=>if gOk G S then (match g x ρ with
  | none=>.fail
  | some ρ1=>match mb ρ1 S with
   | .nx ρ2 S2=>abT G g mb r ρ2 S2
   | .ct ρ2 S2=>abT G g mb r ρ2 S2
   | .bk ρ2 S2=>.nx ρ2 S2
   | .rt v S2=>.rt v S2
   | .exc n S2=>.exc n S2
   | .fail=>.fail) else .fail
noncomputable def sFor (mi:MI) (g:GM) (mb:MS):MS:=fun ρ S=>SRes.of (mi ρ S) fun xs S1=>abT xs.2 g mb xs.1 ρ S1
theorem abo {g:GM} {mb:MS} {ρ:Rho} {S:Sto}:abT [] g mb [] ρ S = .nx ρ S:=by
 unfold abT
 rw [if_pos (aeb S)]
theorem aaY {g:GM} {mb:MS} {x:PV} {r:List PV} {ρ:Rho} {S:Sto}:abT [] g mb (x :: r) ρ S = (match g x ρ with
  | none=>.fail
  | some ρ1=>match mb ρ1 S with
   | .nx ρ2 S2=>abT [] g mb r ρ2 S2
   | .ct ρ2 S2=>abT [] g mb r ρ2 S2
   | .bk ρ2 S2=>.nx ρ2 S2
   | .rt v S2=>.rt v S2
   | .exc n S2=>.exc n S2
   | .fail=>.fail):=by
 rw [abT,if_pos (aeb S)]
def abg (c:MT) (mb:MS):Nat → Rho → Sto → SRes
 | 0,_,_=>.fail
 | n + 1,ρ,S=>SRes.of (c ρ S) fun t S1=>if t = true then (match mb ρ S1 with
   | .nx ρ2 S2=>abg c mb n ρ2 S2
   | .ct ρ2 S2=>abg c mb n ρ2 S2
   | .bk ρ2 S2=>.nx ρ2 S2
   | .rt v S2=>.rt v S2
   | .exc n S2=>.exc n S2
   | .fail=>.fail) else .nx ρ S1
open Classical in
noncomputable def aeU (c:MT) (mb:MS):MS:=fun ρ S=>if h:∃ n,abg c mb n ρ S ≠ .fail then abg c mb h.choose ρ S else .fail
theorem SRes.of_ok {α:Type} {r:Res α} {k k':α → Sto → SRes} (h:∀ a S,k a S ≠ .fail → k' a S = k a S) (n:SRes.of r k ≠ .fail):SRes.of r k' = SRes.of r k:=by
 cases r with
 | ok a S=>exact h a S n
 | exc=>rfl
 | fail=>rfl
theorem adM {c:MT} {mb:MS}:∀ {n:Nat} {ρ:Rho} {S:Sto},abg c mb n ρ S ≠ .fail → abg c mb (n + 1) ρ S = abg c mb n ρ S
 | 0,_,_,h=>absurd rfl h
 | n + 1,ρ,S,h=>by
  unfold abg at h
  rw [abg]
  conv=>rhs; rw [abg]
  refine SRes.of_ok (fun t S1 h1=>?_) h
  by_cases ht:t = true
  ·simp only [if_pos ht] at h1 ⊢
   cases z:mb ρ S1 with
   | nx ρ2 S2=>rw [z] at h1; exact adM h1
   | ct ρ2 S2=>rw [z] at h1; exact adM h1
   | _=>rfl
  ·simp only [if_neg ht] at h1 ⊢
theorem aec {c:MT} {mb:MS} {n:Nat} {ρ:Rho} {S:Sto} (h:abg c mb n ρ S ≠ .fail):∀ k,abg c mb (n + k) ρ S = abg c mb n ρ S
 | 0=>rfl
 | k + 1=>by
  have ih:=aec h k
  rw [← Nat.add_assoc,adM (by rw [ih]; exact h),ih]
theorem afa {c:MT} {mb:MS} {n:Nat} {ρ:Rho} {S:Sto} {r:SRes} (e:abg c mb n ρ S = r) (h:r ≠ .fail):aeU c mb ρ S = r:=by
 have h':∃ n,abg c mb n ρ S ≠ .fail:=⟨n,by rw [e]; exact h⟩
 unfold aeU
 rw [dif_pos h']
 have e2:=h'.choose_spec
 rcases Nat.le_total n h'.choose with l | l
 ·obtain ⟨k,q⟩:=Nat.exists_eq_add_of_le l
  rw [q,aec (by rw [e]; exact h),e]
 ·obtain ⟨k,q⟩:=Nat.exists_eq_add_of_le l
  have z:=aec e2 k
  rw [← q,e] at z
  exact z.symm
section
variable {K:PySem.W.Frag} {cl:Str → Addr} {E:XK} {X:Cx} {a b c e tg:Expr} {es:List Expr} {m:ME} {mt:MT} {ms:MA} {b1 b2:MS} {st:Stmt} {sts sts':List Stmt} {pos:Pos}
theorem RepE.set {p:Ph} {H:Hp} {ρ:Rho} {σ:St} {v:AV} {x:V} (h:RepE K p H ρ σ) (r:RepA K p H v x) (i:Nat):RepE K p H (ρ.set i (some v)) (σ.set i (some x)):=by
 refine ⟨by rw [List.length_set,List.length_set,h.len],fun j u e=>?_⟩
 by_cases q:i = j
 ·subst q
  by_cases l:i < ρ.length
  ·rw [List.getElem?_set_self l] at e
   cases e
   exact ⟨x,List.getElem?_set_self (by rw [← h.len]; exact l),r⟩
  ·rw [List.getElem?_eq_none (by rw [List.length_set]; omega)] at e
   cases e
 ·rw [List.getElem?_set_ne q] at e ⊢
  exact h.at_ j u e
theorem aa3:PSsp K cl E X [] sNil:=fun _=>PSs.imp anl fun D σ H ⟨p,S,ρ,s,e,h⟩=>h p H σ s.step s e
theorem ab0.nxD {p:Ph} {H:Hp} {ρ:Rho} {S:Sto} {D:Ends} (h:ab0 K cl p H (.nx ρ S) D E) {σ:St} (s:Sim K p S H) (e:RepE K p H ρ σ):D.nx σ H:=h p H σ s.step s e
theorem aah (h1:PSp K cl E X st b1) (h2:PSsp K cl E X sts b2):PSsp K cl E X (st :: sts) (sSeq b1 b2):=by
 intro hK
 subst hK
 refine PSs.imp (ak0 (h1 rfl) (h2 rfl)) fun D σ H ⟨p,S,ρ,s,e,h⟩=>⟨p,S,ρ,s,e,?_⟩
 unfold sSeq at h
 cases z:b1 ρ S with
 | nx ρ1 S1 =>
  rw [z] at h
  exact fun q H' σ' stp sm ev=>⟨q,S1,ρ1,sm,ev,ab0.mono (r:=b2 ρ1 S1) h stp⟩
 | bk ρ1 S1=>rw [z] at h; exact h
 | ct ρ1 S1=>rw [z] at h; exact h
 | rt v S1=>rw [z] at h; exact h
 | exc n S1=>rw [z] at h; exact h
 | fail=>rw [z] at h; exact h
theorem aai (h1:PSp K cl E X st b1):PSsp K cl E X [st] b1:=fun hK=>ahS (h1 hK)
theorem abQ (he:PEp K cl E X e m) (hs:swapsWith e none pos.line X.env = pure false:=by rfl):PSp K cl E X (.Expr e pos) (aat m):=by
 intro hK
 subst hK
 refine PS.imp (amC (he rfl) hs) fun D σ H ⟨p,S,ρ,s,e,h⟩=>?_
 exact acr s e h fun q H' a b S' stp sm ev r k=>ab0.nxD k sm ev
theorem aaz (he:PEp K cl E X e m):PSp K cl E X (.Return (some e) pos) (sRet m):=by
 intro hK
 subst hK
 refine PS.imp (aoe (he rfl)) fun D σ H ⟨p,S,ρ,s,e,h⟩=>?_
 exact acr s e h fun q H' a b S' stp sm ev r k=>k q H' b sm.step sm r
theorem abu (hc:PTp K cl E X c mt) (ha:PSsp K cl E X sts b1) (hb:PSsp K cl E X sts' b2):PSp K cl E X (.If c sts sts' pos) (sIf mt b1 b2):=by
 intro hK
 subst hK
 refine PS.imp (apL (hc rfl) (ha rfl) (hb rfl)) fun D σ H ⟨p,S,ρ,s,e,h⟩=>?_
 refine acr s e h fun q H' a b S' stp sm ev r k=>?_
 cases r
 cases a with
 | true=>exact ⟨q,S',ρ,sm,ev,k⟩
 | false=>exact ⟨q,S',ρ,sm,ev,k⟩
theorem aaK {i:Nat} {x:Str} {pos':Pos} (hN:X.N.Nodup) (hi:X.N[i]? = some x) (hx:Loc X.env.scope x) (he:PEp K cl E X e m) (hs:swapsWith e (some (.Name x pos')) pos.line X.env = pure false:=by rfl)
  (hf:X.fn x = true ∨ X.env.scope.names.lookup x = some .local:=by first | exact .inl rfl | exact .inr rfl | assumption):PSp K cl E X (.Assign [.Name x pos'] e pos) (sSet i m):=by
 intro hK
 subst hK
 refine PS.imp (amf hN hi hx (he rfl) hs hf) fun D σ H ⟨p,S,ρ,s,e,h⟩=>?_
 exact acr s e h fun q H' a b S' stp sm ev r k=>ab0.nxD k sm (ev.set r i)
theorem ano {i j:Nat} {x y:Str} {px py pt:Pos} {kt k2 pt2} (hc:X.calm = true) (hN:X.N.Nodup) (hi:X.N[i]? = some x) (hj:X.N[j]? = some y) (hij:i ≠ j)
  (hx:X.env.scope.names.lookup x = some .local) (hy:X.env.scope.names.lookup y = some .local) (ha:PAp K cl E X [a,b] ms)
  (hw:swappedStores [.Tuple [.Name x px,.Name y py] kt pt] (.Tuple [a,b] k2 pt2) X.env = pure (some [x,y]))
  (hs:swapsWithSole [.Tuple [.Name x px,.Name y py] kt pt] (.Tuple [a,b] k2 pt2) pos.line X.env = pure false:=by rfl) :
  PSp K cl E X (.Assign [.Tuple [.Name x px,.Name y py] kt pt] (.Tuple [a,b] k2 pt2) pos) (sPar i j ms):=by
 intro hK
 subst hK
 refine PS.imp (ao4 hc hN hi hj hij hx hy (ha rfl) hw hs) fun D σ H ⟨p,S,ρ,s,e,h⟩=>?_
 refine acr s e h fun q H' vs xs S' stp sm ev r k=>?_
 match vs,xs,r with
 | [],_,.nil=>exact k.elim
 | [v],_,.cons _ .nil=>exact k.elim
 | [v,w],_,.cons (b:=x1) r1 (.cons (b:=x2) r2 .nil)=>exact ⟨x1,x2,rfl,ab0.nxD k sm ((ev.set r1 i).set r2 j)⟩
 | _ :: _ :: _ :: _,_,.cons _ (.cons _ (.cons _ _))=>exact k.elim
def gP (K:PySem.W.Frag) (g:GM):TG:=fun x σ H Q=>∃ p S ρ v ρ',Sim K p S H ∧ RepE K p H ρ σ ∧ Rep K p.c H v x ∧ g v ρ = some ρ' ∧ ∀ σ',RepE K p H ρ' σ' → Q σ' H
def gPs (K:PySem.W.Frag) (g:GMs):TGs:=fun xs σ H Q=>∃ p S ρ vs ρ',Sim K p S H ∧ RepE K p H ρ σ ∧ Reps K p.c H vs xs ∧ g vs ρ = some ρ' ∧ ∀ σ',RepE K p H ρ' σ' → Q σ' H
variable (K X)
def PGp (tg:Expr) (g:GM):Prop:=X.K = K → PG X tg (gP K g)
def PGsp (ts:List Expr) (g:GMs):Prop:=X.K = K → PGs X ts (gPs K g)
variable {K X}
theorem PG.imp {tg:Expr} {t t':TG} (h:PG X tg t) (i:∀ x σ H Q,t' x σ H Q → t x σ H Q):PG X tg t':=fun pins s σ H v u Q I r q=>h pins s σ H v u Q I r (i v σ H Q q)
theorem PGs.imp {ts:List Expr} {t t':TGs} (h:PGs X ts t) (i:∀ x σ H Q,t' x σ H Q → t x σ H Q):PGs X ts t':=fun pins s σ H v u Q I r q=>h pins s σ H v u Q I r (i v σ H Q q)
theorem aay {i:Nat} {x:Str} (hN:X.N.Nodup) (hi:X.N[i]? = some x) (hx:Loc X.env.scope x) (hf:X.fn x = true ∨ X.env.scope.names.lookup x = some .local:=by first | exact .inl rfl | exact .inr rfl | assumption):PGp K X (.Name x pos) (gN i) :=
 fun _=>PG.imp (ajG hN hi hx hf) fun x σ H Q ⟨p,S,ρ,v,ρ',s,ev,r,g,k⟩=>by
  cases g
  exact k _ (ev.set (v:=.pv v) r i)
theorem ac8:PGsp K X [] acK:=fun _=>PGs.imp amP fun xs σ H Q ⟨p,S,ρ,vs,ρ',s,ev,r,g,k⟩=>by
 cases vs with
 | nil =>
  cases g
  unfold Reps at r
  exact ⟨r,k _ ev⟩
 | cons _ _=>cases g
theorem abl {g:GM} {gs:GMs} (h1:PGp K X e g) (h2:PGsp K X es gs) (hs:(assignEach (e :: es) X.env).map (·.2) = assign e X.env :: (assignEach es X.env).map (·.2):=by rfl):PGsp K X (e :: es) (abc g gs):=by
 intro hK
 subst hK
 refine PGs.imp (alr (h1 rfl) (h2 rfl) hs) fun xs σ H Q ⟨p,S,ρ,vs,ρ',s,ev,r,g1,k⟩=>?_
 cases vs with
 | nil=>cases g1
 | cons v vr =>
  unfold Reps at r
  obtain ⟨x,xr,rfl,r1,r2⟩:=r
  unfold abc at g1
  cases z:g v ρ with
  | none=>simp only [z] at g1; cases g1
  | some ρ1 =>
   simp only [z] at g1
   exact ⟨x,xr,rfl,p,S,ρ,v,ρ1,s,ev,r1,z,fun σ' ev'=>⟨p,S,ρ1,vr,ρ',s,ev',r2,g1,k⟩⟩
theorem adJ {k:Nat} {gs:GMs} {n:Nat} (hc:X.calm = true) (h:PGsp K X es gs) (hn:(assignEach es X.env).length = n:=by rfl) (hst:(assignEach es X.env).findIdx? (·.1) = none:=by rfl):PGp K X (.Tuple es k pos) (gT n gs):=by
 intro hK
 subst hK
 refine PG.imp (apm hc (h rfl) hn hst) fun x σ H Q ⟨p,S,ρ,v,ρ',s,ev,r,g1,k⟩=>?_
 cases v with
 | tup vs =>
  unfold Rep at r
  obtain ⟨a,xs,rfl,t,z,r⟩:=r
  unfold gT at g1
  dsimp only at g1
  split at g1
  ·rename_i hl
   exact ⟨a,xs,rfl,t,r.length.symm.trans hl,p,S,ρ,vs,ρ',s,ev,r,g1,k⟩
  ·cases g1
 | _=>cases g1
def ItOk (K:PySem.W.Frag) (p:Ph) (H:Hp) (xs:List PV × Gd) (J:It):Prop:=xs.1.length ≤ sizeLine ∧ ∀ q H1 S1,Step p H q H1 → Sim K q S1 H1 → gOk xs.2 S1 →
 (∀ (i:Nat) (v:PV),xs.1[i]? = some v → J.go i H1 ∧ ∀ x H2,J.yld i H1 x H2 → Same H1 H2 ∧ Rep K q.c H2 v x) ∧ J.stop xs.1.length H1
theorem ItOk.step {p q:Ph} {H H':Hp} {xs:List PV × Gd} {J:It} (h:ItOk K p H xs J) (s:Step p H q H'):ItOk K q H' xs J:=⟨h.1,fun r H1 S1 t=>h.2 r H1 S1 (s.trans t)⟩
variable (K cl E X)
def PIp (tg iter:Expr) (m:MI):Prop:=X.K = K → PI X tg iter (tP K cl E (ItOk K) m)
variable {K cl E X}
theorem PI.imp {tg iter:Expr} {t t':TI} (h:PI X tg iter t) (i:∀ σ H Q,t' σ H Q → t σ H Q):PI X tg iter t':=fun pins s σ H R I q=>h pins s σ H R I (i σ H R q)
def iAny (K:PySem.W.Frag) (tl:TE):TI:=fun σ H R=>tl σ H fun x H1=>∃ a,x = .ref a ∧ (((∃ xs,SqL K H1 a xs) ∧ R (Itl K a) H1) ∨ ((∃ xs,SqT K H1 a xs) ∧ R (Itt K a) H1))
theorem amt {l:Expr} {tl:TE} (hl:PE X l tl):PI X tg l (iAny X.K tl):=by
 intro pins s σ H R I h
 refine thn (hl pins s σ H _ I h) fun v s1 ⟨x,H1,I1,r1,q1⟩=>?_
 obtain ⟨a,e,q⟩:=q1
 subst e
 cases r1
 rcases q with ⟨⟨xs,hq⟩,q⟩ | ⟨⟨xs,hq⟩,q⟩
 ·obtain ⟨its,rv,p,hz⟩:=I1.list hq
  refine wpAny_pyIter_list p.isList ?_
  refine ⟨s1.heap.objs.size,[s1.heap.objs.size],_,_,H1,rfl,I1.kept (t':=s1.toks) fun b o e=>Heap.get?_push_of_some _ e,akr a _,⟨_,Heap.get?_push_size _ rfl,rfl,rfl⟩,fun b hb=>?_,q⟩
  have e:b = s1.heap.objs.size:=by simpa using hb
  subst e
  exact I1.fpOk (Nat.le_refl _) (I1.hok.fresh (Nat.le_refl _))
 ·obtain ⟨its,rv,p,hz⟩:=I1.tuple hq
  refine wpAny_pyIter_tuple (show s1.heap.IsTuple a its.toArray from p) ?_
  refine ⟨s1.heap.objs.size,[s1.heap.objs.size],_,_,H1,rfl,I1.kept (t':=s1.toks) fun b o e=>Heap.get?_push_of_some _ e,ai4 a _,⟨_,Heap.get?_push_size _ rfl,rfl,rfl⟩,fun b hb=>?_,q⟩
  have e:b = s1.heap.objs.size:=by simpa using hb
  subst e
  exact I1.fpOk (Nat.le_refl _) (I1.hok.fresh (Nat.le_refl _))
def abx:AV → Sto → Res (List PV × Gd)
 | .pv (.lst xs),S=>.ok (xs,[]) S
 | .pv (.tup xs),S=>.ok (xs,[]) S
 | .ref k,S=>match S[k]? with
  | some (.lst xs)=>.ok (xs,[(k,xs)]) S
  | _=>.fail
 | _,_=>.fail
def mIt (m:ME):MI:=fun ρ S=>(m ρ S).bind abx
theorem aol {p:Ph} {H:Hp} {xs:List PV} {a:Addr} {vs:List V} (l:LAt K p.c H a vs) (z:vs.length ≤ sizeLine) (r:Reps K p.c H xs vs):ItOk K p H (xs,[]) (Itl K a):=by
 refine ⟨by rw [r.length]; exact z,fun q H1 S1 st _ _=>⟨fun i v e=>?_,?_⟩⟩
 ·have l1:=(st.lat l).sq
  obtain ⟨x,e1,r1⟩:=(st.reps r).get e
  refine ⟨⟨vs,x,l1,e1⟩,fun y H2 hy=>?_⟩
  obtain ⟨rfl,hy⟩:=hy
  have:=(hy vs l1).symm.trans e1
  cases this
  exact ⟨Same.refl _,r1⟩
 ·exact ⟨vs,(st.lat l).sq,by rw [r.length]; exact Nat.le_refl _⟩
theorem apu {p:Ph} {H:Hp} {xs:List PV} {a:Addr} {vs:List V} (l:SqT K H a vs) (z:vs.length ≤ sizeLine) (r:Reps K p.c H xs vs):ItOk K p H (xs,[]) (Itt K a):=by
 refine ⟨by rw [r.length]; exact z,fun q H1 S1 st _ _=>⟨fun i v e=>?_,?_⟩⟩
 ·have l1:=st.tup l
  obtain ⟨x,e1,r1⟩:=(st.reps r).get e
  refine ⟨⟨vs,x,l1,e1⟩,fun y H2 hy=>?_⟩
  obtain ⟨rfl,hy⟩:=hy
  have:=(hy vs l1).symm.trans e1
  cases this
  exact ⟨Same.refl _,r1⟩
 ·exact ⟨vs,st.tup l,by rw [r.length]; exact Nat.le_refl _⟩
theorem aoo {p:Ph} {H:Hp} {xs:List PV} {a:Addr} {k:Nat} {n:xs.length ≤ sizeLine} (hf:p.f[k]? = some a):ItOk K p H (xs,[(k,xs)]) (Itl K a):=by
 refine ⟨n,fun q H1 S1 st sm g=>?_⟩
 have e0:S1[k]? = some (.lst xs):=g (k,xs) List.mem_cons_self
 obtain ⟨vs,h1,l1,r1⟩:=sm.obj k a _ (st.at_ hf) e0
 refine ⟨fun i v e=>?_,?_⟩
 ·obtain ⟨x,e1,r2⟩:=r1.get e
  refine ⟨⟨vs,x,SqL.of h1,e1⟩,fun y H2 hy=>?_⟩
  obtain ⟨rfl,hy⟩:=hy
  have:=(hy vs (SqL.of h1)).symm.trans e1
  cases this
  exact ⟨Same.refl _,r2⟩
 ·exact ⟨vs,SqL.of h1,by rw [r1.length]; exact Nat.le_refl _⟩
theorem abv (h:PEp K cl E X e m):PIp K cl E X tg e (mIt m):=by
 intro hK
 subst hK
 refine PI.imp (amt (h rfl)) fun σ H R ⟨p,S,ρ,s,ev,h⟩=>?_
 refine aaO s ev h fun q H' v x S' stp sm ev r k=>?_
 cases v with
 | ref j =>
  obtain ⟨a,e,rfl⟩:=r
  unfold abx at k
  dsimp only at k
  cases z:S'[j]? with
  | none=>rw [z] at k; exact k.elim
  | some o =>
   cases o with
   | lst xs =>
    rw [z] at k
    obtain ⟨vs,h1,l1,r1⟩:=sm.obj j a _ e z
    exact ⟨a,rfl,.inl ⟨⟨vs,SqL.of h1⟩,abd.ret (R:=ItOk X.K) k sm (aoo (n:=by rw [r1.length]; exact l1) e)⟩⟩
   | lol xss=>rw [z] at k; exact k.elim
 | pv v =>
  cases v with
  | lst xs =>
   have r:Rep X.K q.c H' (.lst xs) x:=r
   unfold Rep at r
   obtain ⟨a,vs,rfl,l,z,r⟩:=r
   exact ⟨a,rfl,.inl ⟨⟨vs,l.sq⟩,abd.ret (R:=ItOk X.K) k sm (aol l z r)⟩⟩
  | tup xs =>
   have r:Rep X.K q.c H' (.tup xs) x:=r
   unfold Rep at r
   obtain ⟨a,vs,rfl,l,z,r⟩:=r
   exact ⟨a,rfl,.inr ⟨⟨vs,l⟩,abd.ret (R:=ItOk X.K) k sm (apu l z r)⟩⟩
  | _=>exact k.elim
def abt (lo:Int) (n:Nat):List PV:=(List.range n).map fun i=>.int (lo + (i:Nat))
noncomputable def rng1:List AV → Sto → Res (List PV × Gd)
 | [.pv (.int j)],S1=>@ite _ (j ≤ 16777216 ∧ -16777216 ≤ j) (Classical.propDecidable _) (.ok (abt 0 j.toNat,[]) S1) .fail
 | _,_=>.fail
noncomputable def aaS (ms:MA):MI:=fun ρ S=>(ms ρ S).bind rng1
noncomputable def rng2:List AV → Sto → Res (List PV × Gd)
 | [.pv (.int i),.pv (.int j)],S1=>@ite _ ((-4611686018427387904 ≤ i ∧ i < 4611686018427387904 ∧ -4611686018427387904 ≤ j ∧ j < 4611686018427387904) ∧ j - i ≤ 16777216) (Classical.propDecidable _) (.ok (abt i (j - i).toNat,[]) S1) .fail
 | _,_=>.fail
noncomputable def adS (ms:MA):MI:=fun ρ S=>(ms ρ S).bind rng2
theorem amg {p:Ph} {H:Hp} {lo:Int} {n:Nat} (h:n ≤ sizeLine):ItOk K p H (abt lo n,[]) (Itr lo n):=by
 have hl:(abt lo n).length = n:=by unfold abt; rw [List.length_map,List.length_range]
 refine ⟨by show (abt lo n).length ≤ _; rw [hl]; exact h,fun q H1 S1 st _ _=>⟨fun i v e=>?_,?_⟩⟩
 ·have hi:i < n:=by
   have:=(List.getElem?_eq_some_iff.mp (show (abt lo n)[i]? = some v from e)).1
   omega
  refine ⟨hi,fun x H2 hy=>?_⟩
  obtain ⟨rfl,rfl⟩:=hy
  have e:(abt lo n)[i]? = some v:=e
  unfold abt at e
  rw [List.getElem?_map,List.getElem?_range hi] at e
  cases e
  refine ⟨Same.refl _,?_⟩
  unfold Rep
  rfl
 ·show n ≤ (abt lo n).length
  rw [hl]
  exact Nat.le_refl n
theorem abh {p:Pos} (hg:Gl X "range") (hm:X.mg "range" = none) (ha:PAp K cl E X [a] ms) (hs:starEach [a] X.env = [(false,eval a X.env)]:=by rfl):PIp K cl E X tg (.Call (.Name "range" p) [a] [] pos) (aaS ms):=by
 intro hK
 subst hK
 refine PI.imp (akq hg hm (ha rfl) hs) fun σ H R ⟨p,S,ρ,s,ev,h⟩=>?_
 refine aaO s ev h fun q H' vs xs S' stp sm ev r k=>?_
 unfold rng1 at k
 split at k
 ·rename_i j
  cases r with
  | cons r1 r2 =>
   cases r2
   rename_i x
   have e:x = .int j:=by
    have r1:Rep X.K q.c H' (.int j) x:=r1
    unfold Rep at r1
    exact r1
   subst e
   split at k
   ·rename_i hj
    have hz:=abb
    exact ⟨j,rfl,by omega,by omega,abd.ret (R:=ItOk X.K) k sm (amg (by omega))⟩
   ·exact k.elim
 ·exact k.elim
theorem aiQ {p:Pos} (hg:Gl X "range") (hm:X.mg "range" = none) (ha:PAp K cl E X [a,b] ms) (hs:starEach [a,b] X.env = [(false,eval a X.env),(false,eval b X.env)]:=by rfl) (hs2:starEach [b] X.env = [(false,eval b X.env)]:=by rfl):PIp K cl E X tg (.Call (.Name "range" p) [a,b] [] pos) (adS ms):=by
 intro hK
 subst hK
 refine PI.imp (ajN hg hm (ha rfl) hs hs2) fun σ H R ⟨p,S,ρ,s,ev,h⟩=>?_
 refine aaO s ev h fun q H' vs xs S' stp sm ev r k=>?_
 unfold rng2 at k
 split at k
 ·rename_i i j
  cases r with
  | cons r1 r2 =>
   cases r2 with
   | cons r2 r3 =>
    cases r3
    rename_i x y
    have e:x = .int i:=by
     have r1:Rep X.K q.c H' (.int i) x:=r1
     unfold Rep at r1
     exact r1
    have e2:y = .int j:=by
     have r1:Rep X.K q.c H' (.int j) y:=r2
     unfold Rep at r1
     exact r1
    subst e e2
    split at k
    ·rename_i hj
     have hz:=abb
     exact ⟨i,j,rfl,by omega,abd.ret (R:=ItOk X.K) k sm (amg (by omega))⟩
    ·exact k.elim
 ·exact k.elim
theorem ab9 {mi:MI} {g:GM} (hp:PassesOwn (model X.prog X.w) X.A X.env X.xe) (hc:X.calm = true) (hi:PIp K cl E X tg e mi) (hg:PGp K X tg g) (hb:PSsp K cl E X sts b1)
  (hs:∀ x,foldedSetIterable e X.env x = pure x:=by intro _; rfl):PSp K cl E X (.For tg e sts [] pos) (sFor mi g b1):=by
 intro hK
 subst hK
 refine PS.imp (amh hp hc (hi rfl) (hg rfl) (hb rfl) hs) fun D σ H ⟨p,S,ρ,s,ev,h⟩=>?_
 refine acr s ev h fun q H' xg J S' stp sm ev it k=>?_
 obtain ⟨xs,G⟩:=xg
 refine ⟨fun i n σ H=>n = xs.length - i ∧ i ≤ xs.length ∧ ∃ p S ρ,Sim X.K p S H ∧ RepE X.K p H ρ σ ∧ ItOk X.K p H (xs,G) J ∧ ab0 X.K cl p H (abT G g b1 (xs.drop i) ρ S) D E,⟨xs.length,by simp,Nat.zero_le _,q,S',ρ,sm,ev,it,by simpa using k⟩,?_⟩
 rintro i n σ1 H1 ⟨rfl,hi,p1,S1,ρ1,sm1,ev1,it1,k1⟩
 by_cases hlt:i < xs.length
 ·have hx:xs[i]? = some xs[i]:=List.getElem?_eq_getElem hlt
  rw [List.drop_eq_getElem_cons hlt] at k1
  unfold abT at k1
  split at k1
  ·rename_i gk
   obtain ⟨g1,y1⟩:=(it1.2 p1 H1 S1 sm1.step sm1 gk).1 i _ hx
   cases z:g xs[i] ρ1 with
   | none=>simp only [z] at k1; exact k1.elim
   | some ρ2 =>
    simp only [z] at k1
    refine .inr ⟨g1,fun σ' H'=>i + 1 ≤ xs.length ∧ ∃ p S ρ,Sim X.K p S H' ∧ RepE X.K p H' ρ σ' ∧ ItOk X.K p H' (xs,G) J ∧ ab0 X.K cl p H' (abT G g b1 (xs.drop (i + 1)) ρ S) D E,fun σ' H' hN=>⟨xs.length - (i + 1),by omega,rfl,hN⟩,fun x H2 hy=>?_⟩
    obtain ⟨same,rx⟩:=y1 x H2 hy
    have st2:=sm1.same same
    have sm2:=sm1.ofSame same
    refine ⟨p1,S1,ρ1,xs[i],ρ2,sm2,st2.repE ev1,rx,z,fun σ3 ev3=>⟨p1,S1,ρ2,sm2,ev3,?_⟩⟩
    have it2:=it1.step st2
    cases y:b1 ρ2 S1 with
    | nx ρ4 S4 =>
     rw [y] at k1
     exact fun q5 H5 σ5 st5 sm5 ev5=>⟨hlt,q5,S4,ρ4,sm5,ev5,it2.step st5,ab0.mono (r:=abT G g b1 (xs.drop (i + 1)) ρ4 S4) k1 (st2.trans st5)⟩
    | ct ρ4 S4 =>
     rw [y] at k1
     exact fun q5 H5 σ5 st5 sm5 ev5=>⟨hlt,q5,S4,ρ4,sm5,ev5,it2.step st5,ab0.mono (r:=abT G g b1 (xs.drop (i + 1)) ρ4 S4) k1 (st2.trans st5)⟩
    | bk ρ4 S4=>rw [y] at k1; exact ab0.mono (r:=.nx ρ4 S4) k1 st2
    | rt v S4=>rw [y] at k1; exact ab0.mono (r:=.rt v S4) k1 st2
    | exc v S4=>rw [y] at k1; exact ab0.mono (r:=.exc v S4) k1 st2
    | fail=>rw [y] at k1; exact k1.elim
  ·exact k1.elim
 ·have e:i = xs.length:=by omega
  subst e
  rw [List.drop_length] at k1
  unfold abT at k1
  split at k1
  ·rename_i gk
   exact .inl ⟨(it1.2 p1 H1 S1 sm1.step sm1 gk).2,ab0.nxD k1 sm1 ev1⟩
  ·exact k1.elim
theorem aeX (hp:PassesOwn (model X.prog X.w) X.A X.env X.xe) (hc:PTp K cl E X c mt) (hb:PSsp K cl E X sts b1):PSp K cl E X (.While c sts [] pos) (aeU mt b1):=by
 intro hK
 subst hK
 refine PS.imp (aly hp (hc rfl) (hb rfl)) fun D σ H ⟨p,S,ρ,s,ev,h⟩=>?_
 unfold aeU at h
 split at h
 ·rename_i hh
  refine ⟨fun n σ H=>∃ p S ρ,Sim X.K p S H ∧ RepE X.K p H ρ σ ∧ ab0 X.K cl p H (abg mt b1 n ρ S) D E,⟨_,p,S,ρ,s,ev,h⟩,?_⟩
  rintro n σ1 H1 ⟨p1,S1,ρ1,sm1,ev1,k1⟩
  cases n with
  | zero=>exact k1.elim
  | succ n =>
   unfold abg at k1
   refine acr sm1 ev1 k1 fun q H2 t t' S2 stp sm2 ev2 r k2=>?_
   cases r
   cases t with
   | true =>
    rw [if_pos rfl] at k2 ⊢
    refine ⟨fun σ' H'=>∃ p S ρ,Sim X.K p S H' ∧ RepE X.K p H' ρ σ' ∧ ab0 X.K cl p H' (abg mt b1 n ρ S) D E,fun σ' H' hN=>⟨n,Nat.lt_succ_self n,hN⟩,q,S2,ρ1,sm2,ev2,?_⟩
    cases y:b1 ρ1 S2 with
    | nx ρ4 S4 =>
     rw [y] at k2
     exact fun q5 H5 σ5 st5 sm5 ev5=>⟨q5,S4,ρ4,sm5,ev5,ab0.mono (r:=abg mt b1 n ρ4 S4) k2 st5⟩
    | ct ρ4 S4 =>
     rw [y] at k2
     exact fun q5 H5 σ5 st5 sm5 ev5=>⟨q5,S4,ρ4,sm5,ev5,ab0.mono (r:=abg mt b1 n ρ4 S4) k2 st5⟩
    | bk ρ4 S4=>rw [y] at k2; exact k2
    | rt v S4=>rw [y] at k2; exact k2
    | exc v S4=>rw [y] at k2; exact k2
    | fail=>rw [y] at k2; exact k2.elim
   | false =>
    rw [if_neg Bool.false_ne_true] at k2 ⊢
    exact ab0.nxD k2 sm2 ev2
 ·exact h.elim
end
end L2.Pp
namespace L2.Pp
open PySem PySem.Spec PyProof.Rows Bn
def aak (n:Nat) (xs:List AV):Rho:=xs.map some ++ List.replicate (n - xs.length) none
def aaF (n:Nat):AV → Sto → Res AV
 | .pv v,S=>.ok (.pv v) (S.take n)
 | .ref k,S=>if k < n then .ok (.ref k) (S.take n) else match S[k]? with
  | some (.lst xs)=>.ok (.ref n) (S.take n ++ [.lst xs])
  | _=>.fail
def frz (n:Nat):Res AV → Res AV
 | .ok (.ref k) S=>if k < n then .ok (.ref k) S else match S[k]? with
  | some (.lst xs)=>.ok (.pv (.lst xs)) (S.take n)
  | _=>.fail
 | r=>r
def aan (n:Nat):SRes → Res AV
 | .rt v S=>aaF n v S
 | .nx _ S=>.ok (.pv .non) (S.take n)
 | .exc e S=>.exc e (S.take n)
 | _=>.fail
def fnM (np n:Nat) (b:MS) (xs:List AV) (S:Sto):Res AV:=if xs.length = np then aan S.length (b (aak n xs) S) else .fail
def aaJ {α:Type}:Res α → Res α
 | .ok a S=>.ok a S
 | _=>.fail
abbrev FM:=List AV → Sto → Res AV
def aaC (f:FM) (ds:List PV) (ms:MA):ME:=fun ρ S=>(ms ρ S).bind fun xs S1=>frz S1.length (f (xs ++ ds.map .pv) S1)
def aae (f:FM) (ds:List PV) (ms:MA):ME:=fun ρ S=>(ms ρ S).bind fun xs S1=>frz S1.length (aaJ (f (xs ++ ds.map .pv) S1))
def aao (f:FM) (ds:List PV) (ms:MA):ME:=fun ρ S=>(ms ρ S).bind fun xs S1=>aaJ (f (xs ++ ds.map .pv) S1)
def spP (K:PySem.W.Frag) (cl:Str → Addr) (f:FM):Sp:=fun vs H Q E=>∃ p S xs,Sim K p S H ∧ adb K p H xs vs ∧ abd K cl (RepA K) p H (f xs S) Q E
def spP0 (K:PySem.W.Frag) (cl:Str → Addr) (f:FM):Sp:=fun vs H Q _=>spP K cl f vs H Q E0
section
variable {K:PySem.W.Frag} {cl:Str → Addr} {p q:Ph} {H H':Hp} {S S':Sto}
theorem afJ {c c':Addr → Prop} (h:∀ a,c a → c' a) {a:Addr} {vs:List V} (l:LAt K c' H a vs):LAt K c H a vs:=by
 rcases l with ⟨l,n⟩ | l | l
 ·exact .inl ⟨l,fun z=>n (h a z)⟩
 ·exact .inr (.inl l)
 ·exact .inr (.inr l)
theorem acy {c c':Addr → Prop} (h:∀ a,c a → c' a) {ps:List PV} {vs:List V} (r:Reps K c' H ps vs):Reps K c H ps vs:=Reps.mono (fun _ _ t=>t) (fun _ _ l=>afJ h l) ps vs r
theorem ai3 {c c':Addr → Prop} (h:∀ a,c a → c' a) {v:PV} {x:V} (r:Rep K c' H v x):Rep K c H v x:=Rep.mono (fun _ _ t=>t) (fun _ _ l=>afJ h l) v x r
theorem ahP {f g:List Addr} (h:f <+: g):g.take f.length = f:=by
 obtain ⟨t,e⟩:=h
 rw [← e,List.take_left]
theorem adr {α:Type}:∀ {l:List α} {i j:Nat} {a:α},l.Nodup → l[i]? = some a → l[j]? = some a → i = j
 | [],i,j,a,_,e,_=>by simp at e
 | b :: l,0,0,a,_,_,_=>rfl
 | b :: l,0,j + 1,a,n,e,f=>by
  simp at e f
  subst e
  exact absurd (List.mem_of_getElem? f) (List.nodup_cons.mp n).1
 | b :: l,i + 1,0,a,n,e,f=>by
  simp at e f
  subst f
  exact absurd (List.mem_of_getElem? e) (List.nodup_cons.mp n).1
 | b :: l,i + 1,j + 1,a,n,e,f=>by
  exact congrArg (· + 1) (adr (l:=l) (a:=a) (List.nodup_cons.mp n).2 (by simpa using e) (by simpa using f))
theorem Sim.cutX (D:Addr → Prop) (s:Sim K p S H) (st:Step p H q H') (s':Sim K q S' H') (hD:∀ b,D b → H b = none) (hq:(∀ b,D b → b ∈ q.f) ∨ ∀ k xss,S'[k]? = some (.lol xss) → ¬ k < S.length) :
  let r:Ph:=⟨p.f,fun b=>q.w b ∧ ¬ D b,fun b=>q.c b ∧ ¬ D b⟩
  Step p H r H' ∧ Sim K r (S'.take S.length) H':=by
 intro r
 have nD:∀ a,p.c a → ¬ D a:=fun a c d=>by
  obtain ⟨o,ho,_⟩:=s.mu a c
  rw [hD a d] at ho
  cases ho
 have le:S.length ≤ S'.length:=by
  have:=st.pre.length_le
  rw [← s.len,← s'.len]
  exact this
 refine ⟨⟨s.wc,s.mu,List.prefix_rfl,fun a h=>⟨st.mw a h,nD a (s.wc a h)⟩,fun a h=>⟨st.mono a h,nD a h⟩,fun _ h g=>absurd h g,fun a h=>st.nw a h.1,fun a h=>st.nc a h.1,st.keep⟩,s.nd,by rw [s.len,List.length_take]; omega,fun a h=>⟨st.mw a (s.sub a h),nD a (s.wc a (s.sub a h))⟩,fun a h=>⟨s'.wc a h.1,h.2⟩,fun a h=>s'.mu a h.1,fun k a o e1 e2=>?_⟩
 have hk:k < S.length:=by
  have:=(List.getElem?_eq_some_iff.mp e1).1
  rw [← s.len]
  exact this
 have e2':S'[k]? = some o:=by
  rw [List.getElem?_take,if_pos hk] at e2
  exact e2
 have z:=s'.obj k a o (st.at_ e1) e2'
 have shr:∀ xs vs,Reps K q.c H' xs vs → Reps K r.c H' xs vs:=fun xs vs=>acy (fun b h=>h.1)
 have sub:∀ b,b ∉ q.f → b ∉ p.f:=fun b n h=>n (st.pre.subset h)
 rcases hq with hq | hq
 ·exact z.mono (fun _ e=>e) (fun b w f=>⟨⟨⟨w,fun d=>f (hq b d)⟩,sub b f⟩,fun _ e=>e⟩) shr
 ·cases o with
  | lst xs =>
   obtain ⟨vs,e,l,g⟩:=z
   exact ⟨vs,e,l,shr xs vs g⟩
  | lol xss=>exact absurd hk (hq k xss e2')
theorem Sim.cut (s:Sim K p S H) (st:Step p H q H') (s':Sim K q S' H'):Step p H ⟨p.f,fun b=>q.w b ∧ ¬ False,fun b=>q.c b ∧ ¬ False⟩ H' ∧ Sim K ⟨p.f,fun b=>q.w b ∧ ¬ False,fun b=>q.c b ∧ ¬ False⟩ (S'.take S.length) H' :=
 s.cutX (fun _=>False) st s' (fun _ h=>h.elim) (.inl fun _ h=>h.elim)
theorem aeL (s:Sim K p S H) (st:Step p H q H') (sm:Sim K q S' H') {k:Nat} {a:Addr} (e:q.f[k]? = some a) (hk:¬ k < S.length):a ∉ p.f ∧ H a = none ∧ ¬ p.c a:=by
 have na:a ∉ p.f:=fun hm=>by
  obtain ⟨j,hj,ej⟩:=List.getElem_of_mem hm
  have e2:q.f[j]? = some a:=st.at_ (by rw [List.getElem?_eq_getElem hj,ej])
  have hjk:j = k:=adr sm.nd e2 e
  rw [s.len] at hj
  omega
 have hn:=st.nf a (List.mem_of_getElem? e) na
 refine ⟨na,hn,fun c=>?_⟩
 obtain ⟨o,ho,_⟩:=s.mu a c
 rw [hn] at ho
 cases ho
theorem ags {r:Res AV} {Q:VK} {E:XK} (s:Sim K p S H) (h:abd K cl (RepA K) p H (frz S.length r) Q E):abd K cl (RepA K) p H r Q E:=by
 cases r with
 | exc n S1=>exact h
 | fail=>exact h
 | ok v S1 =>
  cases v with
  | pv v=>exact h
  | ref k =>
   have h:abd K cl (RepA K) p H (if k < S.length then .ok (.ref k) S1 else match S1[k]? with
    | some (.lst xs)=>.ok (.pv (.lst xs)) (S1.take S.length)
    | _=>.fail) Q E:=h
   split at h
   ·exact h
   ·rename_i hk
    cases z:S1[k]? with
    | none=>rw [z] at h; exact h.elim
    | some o =>
     cases o with
     | lol xss=>rw [z] at h; exact h.elim
     | lst xs =>
      rw [z] at h
      intro q H' x st sm r
      obtain ⟨a,e,rfl⟩:=r
      obtain ⟨na,hn,nc⟩:=aeL s st sm e hk
      obtain ⟨st1,sm1⟩:=s.cutX (fun b=>b = a) st sm (fun b d=>d ▸ hn) (.inl fun b d=>d ▸ List.mem_of_getElem? e)
      obtain ⟨vs,h1,l,r⟩:=sm.obj k a _ e z
      refine h _ H' (.ref a) st1 sm1 ?_
      show Rep K (fun b=>q.c b ∧ ¬ b = a) H' (.lst xs) (.ref a)
      unfold Rep
      exact ⟨a,vs,rfl,.inl ⟨h1,fun d=>d.2 rfl⟩,l,acy (fun b h=>h.1) r⟩
theorem aei {r:SRes} {Q:VK} {E:XK} (s:Sim K p S H) (h:abd K cl (RepA K) p H (aan S.length r) Q E):ab0 K cl p H r { nx:=fun _ H'=>Q .non H',rt:=Q } E:=by
 cases r with
 | nx ρ S1 =>
  intro q H' σ st sm ev
  obtain ⟨st1,sm1⟩:=s.cut st sm
  exact h _ H' .non st1 sm1 (by show Rep K (fun b=>q.c b ∧ ¬ False) H' .non .non; unfold Rep; rfl)
 | exc n S1 =>
  intro q H' st sm
  obtain ⟨st1,sm1⟩:=s.cut st sm
  exact h _ H' st1 sm1
 | rt v S1 =>
  intro q H' x st sm r
  obtain ⟨st1,sm1⟩:=s.cut st sm
  cases v with
  | pv v=>exact h _ H' x st1 sm1 (show Rep K (fun b=>q.c b ∧ ¬ False) H' v x from ai3 (fun b h=>h.1) r)
  | ref k =>
   obtain ⟨a,e,rfl⟩:=r
   have h:abd K cl (RepA K) p H (if k < S.length then .ok (.ref k) (S1.take S.length) else match S1[k]? with
    | some (.lst xs)=>.ok (.ref S.length) (S1.take S.length ++ [.lst xs])
    | _=>.fail) Q E:=h
   split at h
   ·rename_i hk
    refine h _ H' (.ref a) st1 sm1 ⟨a,?_,rfl⟩
    show p.f[k]? = some a
    have hf:=ahP st.pre
    rw [← hf,List.getElem?_take,if_pos (by rw [s.len]; exact hk)]
    exact e
   ·rename_i hk
    cases z:S1[k]? with
    | none=>rw [z] at h; exact h.elim
    | some o =>
     cases o with
     | lol xss=>rw [z] at h; exact h.elim
     | lst xs =>
      rw [z] at h
      obtain ⟨vs,h1,l,r⟩:=sm.obj k a _ e z
      obtain ⟨na,hn,nc⟩:=aeL s st sm e hk
      have l1:(S1.take S.length).length = S.length:=by rw [← sm1.len,← s.len]
      have ma:a ∈ q.f:=List.mem_of_getElem? e
      refine h ⟨p.f ++ [a],q.w,q.c⟩ H' (.ref a) ⟨s.wc,s.mu,⟨[a],rfl⟩,st.mw,st.mono,fun b hb n=>?_,st.nw,st.nc,st.keep⟩ ⟨?_,?_,fun b hb=>?_,sm.wc,sm.mu,fun j b o e1 e2=>?_⟩ ⟨a,?_,rfl⟩
      ·rcases List.mem_append.mp hb with z | z
       ·exact absurd z n
       ·have:b = a:=by simpa using z
        rw [this]
        exact hn
      ·show (p.f ++ [a]).Nodup
       rw [List.nodup_append]
       refine ⟨s.nd,by simp,fun b hb c hc z=>?_⟩
       have:c = a:=by simpa using hc
       exact na (this ▸ z ▸ hb)
      ·show (p.f ++ [a]).length = _
       rw [List.length_append,List.length_append,l1,s.len]
       rfl
      ·rcases List.mem_append.mp hb with z | z
       ·exact st.mw b (s.sub b z)
       ·have:b = a:=by simpa using z
        rw [this]
        exact sm.sub a ma
      ·by_cases hj:j < S.length
       ·have e1':p.f[j]? = some b:=by
         have e1:(p.f ++ [a])[j]? = some b:=e1
         rwa [List.getElem?_append_left (by rw [s.len]; exact hj)] at e1
        rw [List.getElem?_append_left (by rw [l1]; exact hj),List.getElem?_take,if_pos hj] at e2
        refine (sm.obj j b o (st.at_ e1') e2).mono (fun _ e=>e) (fun c w f=>⟨⟨w,fun m=>?_⟩,fun _ e=>e⟩) fun _ _ r=>r
        rcases List.mem_append.mp m with z | z
        ·exact f (st.pre.subset z)
        ·have:c = a:=by simpa using z
         exact f (this ▸ ma)
       ·have hj':j = S.length:=by
         have:=(List.getElem?_eq_some_iff.mp e2).1
         rw [List.length_append,l1] at this
         simp at this
         omega
        subst hj'
        rw [List.getElem?_append_right (by rw [l1]; exact Nat.le_refl _),l1,Nat.sub_self] at e2
        have e1:(p.f ++ [a])[S.length]? = some b:=e1
        rw [← s.len,List.getElem?_append_right (Nat.le_refl _),Nat.sub_self] at e1
        cases e1
        cases e2
        exact ⟨vs,h1,l,r⟩
      ·show (p.f ++ [a])[S.length]? = some a
       rw [← s.len,List.getElem?_append_right (Nat.le_refl _),Nat.sub_self]
       rfl
 | bk ρ S1=>exact h.elim
 | ct ρ S1=>exact h.elim
 | fail=>exact h.elim
theorem adv {N:List Str} {xs:List AV} {vs:List V} (r:adb K p H xs vs):RepE K p H (aak N.length xs) (L2.start N vs):=by
 have go:∀ {xs:List AV} {vs:List V},adb K p H xs vs → xs.length = vs.length:=fun {xs vs} r=>by
  induction r with
  | nil=>rfl
  | cons _ _ ih=>rw [List.length_cons,List.length_cons,ih]
 have get:∀ {xs:List AV} {vs:List V},adb K p H xs vs → ∀ (i:Nat) (v:AV),xs[i]? = some v → ∃ x,vs[i]? = some x ∧ RepA K p H v x:=fun {xs vs} r=>by
  induction r with
  | nil=>intro i v e; simp at e
  | cons h _ ih =>
   intro i v e
   cases i with
   | zero =>
    simp at e
    subst e
    exact ⟨_,rfl,h⟩
   | succ i=>simpa using ih i v (by simpa using e)
 have hl:=go r
 refine ⟨by unfold aak L2.start; simp [hl],fun i v e=>?_⟩
 unfold aak at e
 unfold L2.start
 by_cases hi:i < xs.length
 ·rw [List.getElem?_append_left (by simpa using hi),List.getElem?_map] at e
  cases z:xs[i]? with
  | none=>rw [z] at e; cases e
  | some u =>
   rw [z] at e
   cases e
   obtain ⟨x,e1,e2⟩:=get r i v z
   refine ⟨x,?_,e2⟩
   rw [List.getElem?_append_left (by rw [List.length_map,← hl]; exact hi),List.getElem?_map,e1]
   rfl
 ·rw [List.getElem?_append_right (by rw [List.length_map]; omega),List.getElem?_replicate] at e
  split at e
  ·cases e
  ·cases e
end
section
variable {P:Program} {w:World} {K:PySem.W.Frag} {mg:Str → Option Value} {base:Heap} {cl:Str → Addr}
theorem ag3 {K:PySem.W.Frag} {p:Ph} {H:Hp} {xs:List AV} {vs:List V} (h:adb K p H xs vs):xs.length = vs.length:=by
 induction h with
 | nil=>rfl
 | cons _ _ ih=>rw [List.length_cons,List.length_cons,ih]
theorem akt {np n:Nat} {b:MS} {vs:List V} {H:Hp} {Q:VK} {E:XK} (h:spP K cl (fnM np n b) vs H Q E):vs.length = np:=by
 obtain ⟨p,S,xs,sm,ra,h⟩:=h
 unfold fnM at h
 split at h
 ·rename_i e
  rw [← ag3 ra,e]
 ·exact h.elim
theorem okP {x qual:Str} {st:Stmt} {f:Addr} {fd:FuncData} {N ps:List Str} {k np n:Nat} {b:MS} (F:Fun K x qual st f fd) (S:aaI N ps (aad st)) (hnp:ps.length = np) (hn:N.length = n)
  (hb:∀ (cdv:Value) (A:Around) (outer:List Env) (s:Shared) (H:Hp) (E:XK),Room k (A.deeper (envOfC qual (aad st) s.heap.objs.size f cdv)) → PSsp K cl E0 (cxOf CX0 P w K mg base N qual (aad st) f cdv A outer s H E).nox (aaw st) b) :
  FnOk P w K mg base CX0 (k + 1) f fd ps (spP0 K cl (fnM np n b)):=by
 subst hnp hn
 refine F.ok S (fun vs H Q E h=>akt h) fun cdv A outer s H vs Q E hr h=>⟨_,hb cdv A outer s H E hr rfl,?_⟩
 obtain ⟨p,S,xs,sm,ra,h⟩:=h
 unfold fnM at h
 split at h
 ·exact ⟨p,S,_,sm,adv ra,aei sm h⟩
 ·exact h.elim
theorem okX {x qual:Str} {st:Stmt} {f:Addr} {fd:FuncData} {N ps:List Str} {k np n:Nat} {b:MS} (F:Fun K x qual st f fd) (S:aaI N ps (aad st)) (hnp:ps.length = np) (hn:N.length = n)
  (hb:∀ (cdv:Value) (A:Around) (outer:List Env) (s:Shared) (H:Hp) (E:XK),Room k (A.deeper (envOfC qual (aad st) s.heap.objs.size f cdv)) → PSsp K cl E (cxOf (CX1 P w) P w K mg base N qual (aad st) f cdv A outer s H E) (aaw st) b) :
  FnOk P w K mg base (CX1 P w) (k + 1) f fd ps (spP K cl (fnM np n b)):=by
 subst hnp hn
 refine F.okX S (fun vs H Q E h=>akt h) fun cdv A outer s H vs Q E hr h=>⟨_,hb cdv A outer s H E hr rfl,?_⟩
 obtain ⟨p,S,xs,sm,ra,h⟩:=h
 unfold fnM at h
 split at h
 ·exact ⟨p,S,_,sm,adv ra,aei sm h⟩
 ·exact h.elim
theorem okXD {x qual:Str} {st:Stmt} {f:Addr} {fd:FuncData} {ds:Array Value} {N ps:List Str} {k np n:Nat} {b:MS} (F:FunD K x qual st f fd ds) (S:aaI N ps (aad st)) (hnp:ps.length = np) (hn:N.length = n)
  (hb:∀ (cdv:Value) (A:Around) (outer:List Env) (s:Shared) (H:Hp) (E:XK),Room k (A.deeper (envOfC qual (aad st) s.heap.objs.size f cdv)) → PSsp K cl E (cxOf (CX1 P w) P w K mg base N qual (aad st) f cdv A outer s H E) (aaw st) b) :
  FnOk P w K mg base (CX1 P w) (k + 1) f fd ps (spP K cl (fnM np n b)):=by
 subst hnp hn
 refine F.okX S (fun vs H Q E h=>akt h) fun cdv A outer s H vs Q E hr h=>⟨_,hb cdv A outer s H E hr rfl,?_⟩
 obtain ⟨p,S,xs,sm,ra,h⟩:=h
 unfold fnM at h
 split at h
 ·exact ⟨p,S,_,sm,adv ra,aei sm h⟩
 ·exact h.elim
theorem x0 {f:Addr} {fd:FuncData} {ps:List Str} {k:Nat} {g:FM} (F:FnOk P w K mg base (CX1 P w) k f fd ps (spP K cl g)):FnOk P w K mg base CX0 k f fd ps (spP0 K cl g) :=
 ⟨fun vs H Q E h=>F.len vs H Q E0 h,fun A outer s H args us vs Q E hr e0 hb hv h=>codeAny_mono (F.run A outer s H args us vs Q E0 hr e0 hb hv h) fun r s' hq=>by
  cases r with
  | error e =>
   obtain ⟨_,_,_,_,_,_,_,_,_,_,_,_,z⟩:=hq
   exact z
  | ok fl =>
   cases fl with
   | ret u=>exact hq
   | next=>exact hq
   | brk=>exact hq
   | cont=>exact hq⟩
end
section
variable {K:PySem.W.Frag} {cl:Str → Addr} {E:XK} {X:Cx} {e:Expr} {es:List Expr} {ms:MA} {pos p:Pos} {k n:Nat} {f:Addr} {fd:FuncData} {ps:List Str} {g:FM} {x:Str} {dvs:List V} {ds:List Value} {dv:List PV}
theorem ace {p:Ph} {H:Hp} {xs ys:List AV} {vs ws:List V} (h:adb K p H xs vs) (g:adb K p H ys ws):adb K p H (xs ++ ys) (vs ++ ws):=by
 induction h with
 | nil=>exact g
 | cons h _ ih=>exact .cons h ih
def Dv (dv:List PV) (dvs:List V):Prop:=∀ K p H,adb K p H (dv.map .pv) dvs
theorem Dv.nil:Dv [] []:=fun _ _ _=>.nil
theorem Dv.int {i:Int} {dv:List PV} {dvs:List V} (h:Dv dv dvs):Dv (.int i :: dv) (.int i :: dvs):=fun K p H=>.cons (by show Rep K p.c H _ _; unfold Rep; rfl) (h K p H)
theorem Dv.bl {i:Bool} {dv:List PV} {dvs:List V} (h:Dv dv dvs):Dv (.bl i :: dv) (.bl i :: dvs):=fun K p H=>.cons (by show Rep K p.c H _ _; unfold Rep; rfl) (h K p H)
theorem akG (F:FnOk X.prog X.w X.K X.mg X.base CX0 k f fd ps (spP0 K cl g)) (hr:Room k X.A) (hg:Gl X x) (hm:X.mg x = some (.ref f)) (hk:PySem.W.keepIn X.K (.ref f) = true) (hb:ac2 X.K fd ps ds) (hd:Vals dvs ds) (hv:Dv dv dvs)
  (ha:PAp K cl E0 X (e :: es) ms) (hdb:(x == ("__debug__":Str)) = false:=by decide) (he:starEach (e :: es) X.env = (false,eval e X.env) :: starEach es X.env:=by rfl) (hpl:(backTo pos (starEach es X.env)).any (·.1) = false:=by rfl) :
  PEp K cl E0 X (.Call (.Name x p) (e :: es) [] pos) (aaC g dv ms):=by
 intro hK
 refine PE.imp (aga F hr hg hm hk hb hd amN (ha hK) hdb he hpl) fun σ H Q ⟨p,S,ρ,s,ev,h⟩=>?_
 exact aaO s ev h fun q H' as xs S' stp sm ev r k=>⟨q,S',_,sm,ace r (hv K q H'),ags sm k⟩
theorem afV {α β:Type} {R:Ph → Hp → α → β → Prop} {p:Ph} {H:Hp} {r:Res α} {Q:β → Hp → Prop} (h:abd K cl R p H (aaJ r) Q E):abd K cl R p H r Q E0:=by
 cases r with
 | ok a S=>exact h
 | exc n S=>exact h.elim
 | fail=>exact h.elim
theorem alH (F:FnOk X.prog X.w X.K X.mg X.base CX0 k f fd ps (spP0 K cl g)) (hr:Room k X.A) (hg:Gl X x) (hm:X.mg x = some (.ref f)) (hk:PySem.W.keepIn X.K (.ref f) = true) (hb:ac2 X.K fd ps ds) (hd:Vals dvs ds) (hv:Dv dv dvs)
  (ha:PAp K cl E X (e :: es) ms) (hdb:(x == ("__debug__":Str)) = false:=by decide) (he:starEach (e :: es) X.env = (false,eval e X.env) :: starEach es X.env:=by rfl) (hpl:(backTo pos (starEach es X.env)).any (·.1) = false:=by rfl) :
  PEp K cl E X (.Call (.Name x p) (e :: es) [] pos) (aae g dv ms):=by
 intro hK
 refine PE.imp (aga F hr hg hm hk hb hd amN (ha hK) hdb he hpl) fun σ H Q ⟨p,S,ρ,s,ev,h⟩=>?_
 exact aaO s ev h fun q H' as xs S' stp sm ev r k=>⟨q,S',_,sm,ace r (hv K q H'),afV (ags sm k)⟩
theorem al8 (F:FnOk X.prog X.w X.K X.mg X.base CX0 k f fd ps (spP0 K cl g)) (hr:Room k X.A) (hg:Gl X x) (hm:X.mg x = some (.ref f)) (hk:PySem.W.keepIn X.K (.ref f) = true) (hb:ac2 X.K fd ps ds) (hd:Vals dvs ds) (hv:Dv dv dvs)
  (ha:PAp K cl E X (e :: es) ms) (hdb:(x == ("__debug__":Str)) = false:=by decide) (he:starEach (e :: es) X.env = (false,eval e X.env) :: starEach es X.env:=by rfl) (hpl:(backTo pos (starEach es X.env)).any (·.1) = false:=by rfl) :
  PEp K cl E X (.Call (.Name x p) (e :: es) [] pos) (aao g dv ms):=by
 intro hK
 refine PE.imp (aga F hr hg hm hk hb hd amN (ha hK) hdb he hpl) fun σ H Q ⟨p,S,ρ,s,ev,h⟩=>?_
 exact aaO s ev h fun q H' as xs S' stp sm ev r k=>⟨q,S',_,sm,ace r (hv K q H'),afV k⟩
theorem alg {P:Program} {w:World} {mg:Str → Option Value} {base:Heap} {N:List Str} {qual:Str} {scope:Scope} {fo:Addr} {cd:Value} {A:Around} {outer:List Env} {s₀:Shared} {H₀:Hp}
  (F:FnOk P w K mg base (CX1 P w) k f fd ps (spP K cl g)) (hr:Room k (cxOf (CX1 P w) P w K mg base N qual scope fo cd A outer s₀ H₀ E).A) (hg:Gl (cxOf (CX1 P w) P w K mg base N qual scope fo cd A outer s₀ H₀ E) x) (hm:mg x = some (.ref f)) (hk:PySem.W.keepIn K (.ref f) = true) (hb:ac2 K fd ps ds) (hd:Vals dvs ds) (hv:Dv dv dvs)
  (ha:PAp K cl E (cxOf (CX1 P w) P w K mg base N qual scope fo cd A outer s₀ H₀ E) (e :: es) ms) (hdb:(x == ("__debug__":Str)) = false:=by decide)
  (he:starEach (e :: es) (cxOf (CX1 P w) P w K mg base N qual scope fo cd A outer s₀ H₀ E).env = (false,eval e (cxOf (CX1 P w) P w K mg base N qual scope fo cd A outer s₀ H₀ E).env) :: starEach es (cxOf (CX1 P w) P w K mg base N qual scope fo cd A outer s₀ H₀ E).env:=by rfl)
  (hpl:(backTo pos (starEach es (cxOf (CX1 P w) P w K mg base N qual scope fo cd A outer s₀ H₀ E).env)).any (·.1) = false:=by rfl) :
  PEp K cl E (cxOf (CX1 P w) P w K mg base N qual scope fo cd A outer s₀ H₀ E) (.Call (.Name x p) (e :: es) [] pos) (aaC g dv ms):=by
 intro hK
 refine PE.imp (aga F hr hg hm hk hb hd apB (ha hK) hdb he hpl) fun σ H Q ⟨p,S,ρ,s,ev,h⟩=>?_
 exact aaO s ev h fun q H' as xs S' stp sm ev r k=>⟨q,S',_,sm,ace r (hv K q H'),ags sm k⟩
def ahg (n:Str):MS:=fun _ S=>.exc n S
theorem aeS {P:Program} {w:World} {mg:Str → Option Value} {base:Heap} {N:List Str} {qual:Str} {scope:Scope} {f:Addr} {cd:Value} {A:Around} {outer:List Env} {s₀:Shared} {H₀:Hp}
  {txt:Str} {j:Nat} {np p1 cpos:Pos} (hg:Gl (cxOf (CX1 P w) P w K mg base N qual scope f cd A outer s₀ H₀ E) x) (hm:mg x = some (.ref (cl x))) (hx:PySem.W.excIn K (cl x) acn "ValueError.__new__" = true)
  (hd:(x == ("__debug__":Str)) = false:=by decide) :
  PSp K cl E (cxOf (CX1 P w) P w K mg base N qual scope f cd A outer s₀ H₀ E) (.Raise (some (.Call (.Name x np) [.Constant (.str txt) j p1] [] cpos)) none pos) (ahg x) :=
 fun _=>PS.imp (alc hg hm hx hd) fun D σ H ⟨p,S,ρ,s,ev,h⟩=>h p H s.step s
end
end L2.Pp
namespace L2.Pp
open PySem PySem.Spec PyProof.Rows Bn
def cmpR (own:List Str) (cap:List (Nat × Str)) (ρ:Rho):Rho:=own.map (fun _=>none) ++ cap.map fun p=>(ρ[p.1]?).join
open Classical in
noncomputable def aa9 (G:Gd) (g:GM) (me:ME):List PV → Rho → Sto → Res (List PV)
 | [],_,S=>if gOk G S then .ok [] S else .fail
 | x :: r,ρ,S=>if gOk G S then (match g x ρ with
  | none=>.fail
  | some ρ1=>match me ρ1 S with
   | .ok (.pv y) S1=>match aa9 G g me r ρ1 S1 with
    | .ok ys S2=>.ok (y :: ys) S2
    | _=>.fail
   | _=>.fail) else .fail
theorem aaR {g:GM} {me:ME} {ρ:Rho} {S:Sto}:aa9 [] g me [] ρ S = .ok [] S:=by
 unfold aa9
 rw [if_pos (aeb S)]
theorem aaP {g:GM} {me:ME} {x:PV} {r:List PV} {ρ:Rho} {S:Sto}:aa9 [] g me (x :: r) ρ S = (match g x ρ with
  | none=>.fail
  | some ρ1=>match me ρ1 S with
   | .ok (.pv y) S1=>match aa9 [] g me r ρ1 S1 with
    | .ok ys S2=>.ok (y :: ys) S2
    | _=>.fail
   | _=>.fail):=by
 rw [aa9,if_pos (aeb S)]
noncomputable def aaW (own:List Str) (cap:List (Nat × Str)) (mi:MI) (g:GM) (me:ME):ME:=fun ρ S=>(mi ρ S).bind fun xs S1=>(aa9 xs.2 g me xs.1 (cmpR own cap ρ) S1).bind fun ys S2=>.ok (.pv (.lst ys)) S2
theorem afk {G:Gd} {g:GM} {me:ME}:∀ (xs:List PV) (ρ:Rho) (S:Sto) (n:Str) (S':Sto),aa9 G g me xs ρ S ≠ .exc n S'
 | [],_,_,_,_,e=>by
  unfold aa9 at e
  split at e <;> cases e
 | x :: r,ρ,S,n,S',e=>by
  unfold aa9 at e
  split at e
  ·split at e
   ·cases e
   ·split at e
    ·split at e
     ·cases e
     ·cases e
    ·cases e
  ·cases e
theorem ail {G:Gd} {g:GM} {me:ME} {xs zs:List PV} {ρ:Rho} {S S':Sto} (e:aa9 G g me xs ρ S = .ok zs S'):gOk G S:=by
 cases xs with
 | nil =>
  unfold aa9 at e
  split at e
  ·assumption
  ·cases e
 | cons x r =>
  unfold aa9 at e
  split at e
  ·assumption
  ·cases e
section
variable {K:PySem.W.Frag} {cl:Str → Addr} {E:XK} {X:Cx} {p q:Ph} {H H':Hp} {S:Sto}
theorem alA {ρ:Rho} {σ:St} {own:List Str} {cap:List (Nat × Str)} (h:RepE K p H ρ σ):RepE K p H (cmpR own cap ρ) (aef own cap σ):=by
 refine ⟨by unfold cmpR aef; simp,fun i v e=>?_⟩
 unfold cmpR at e
 unfold aef
 by_cases hi:i < own.length
 ·rw [List.getElem?_append_left (by simpa using hi),List.getElem?_map,List.getElem?_eq_getElem hi] at e
  cases e
 ·rw [List.getElem?_append_right (by rw [List.length_map]; omega),List.getElem?_map,List.length_map] at e ⊢
  cases z:cap[i - own.length]? with
  | none=>rw [z] at e; cases e
  | some c =>
   rw [z] at e
   have e:(ρ[c.1]?).join = some v:=Option.some.inj e
   have e':ρ[c.1]? = some (some v):=by
    cases y:ρ[c.1]? with
    | none=>rw [y] at e; cases e
    | some o=>rw [y] at e; exact congrArg some e
   obtain ⟨x,e1,e2⟩:=h.at_ c.1 v e'
   refine ⟨x,?_,e2⟩
   show some ((σ[c.1]?).join) = some (some x)
   rw [e1]
   rfl
def Ph.res (p:Ph) (D:Addr):Ph:=⟨p.f,fun a=>p.w a ∨ a = D,fun a=>p.c a ∨ a = D⟩
def Ph.hold (p:Ph) (D:Addr):Ph:=⟨p.f,fun a=>p.w a ∧ a ≠ D,p.c⟩
def Ph.less (p:Ph) (D:Addr):Ph:=⟨p.f,fun a=>p.w a ∧ a ≠ D,fun a=>p.c a ∧ a ≠ D⟩
theorem Sim.notin (s:Sim K p S H) {D:Addr} (h:H D = none):¬ p.c D:=fun c=>by
 obtain ⟨o,e,_⟩:=s.mu D c
 rw [h] at e
 cases e
theorem Sim.res (s:Sim K p S H) {D:Addr} {o:HO} (h:H D = none) (mo:Mb o):Step p H (p.res D) (upd H D o) ∧ Sim K (p.res D) S (upd H D o):=by
 have st:Step p H (p.res D) (upd H D o):=⟨s.wc,s.mu,List.prefix_rfl,fun a h=>.inl h,fun a h=>.inl h,fun a h g=>absurd h g,fun a x n=>x.elim (fun z=>absurd z n) (fun z=>by rw [z]; exact h),fun a x n=>x.elim (fun z=>absurd z n) (fun z=>by rw [z]; exact h),fun a u e _=>by
  rw [aaQ (aaX e h)]
  exact e⟩
 refine ⟨st,s.nd,s.len,fun a h=>.inl (s.sub a h),fun a x=>x.elim (fun z=>.inl (s.wc a z)) .inr,fun a x=>?_,fun k a u e1 e2=>?_⟩
 ·by_cases z:a = D
  ·rw [z,aa6]
   exact ⟨o,rfl,mo⟩
  ·rw [aaQ z]
   exact s.mu a (x.elim id fun y=>absurd y z)
 ·exact (s.obj k a u e1 e2).mono (fun vs e=>by rw [aaQ (aaX e h)]; exact e) (fun b w f=>⟨⟨.inl w,f⟩,fun vs e=>by rw [aaQ (aaX e h)]; exact e⟩) fun _ _ r=>st.reps r
theorem Sim.resHold (s:Sim K p S H) {D:Addr} {o:HO} (h:H D = none) (mo:Mb o):Sim K ((p.res D).hold D) S (upd H D o):=by
 obtain ⟨st,sm⟩:=s.res (o:=o) h mo
 have ne:∀ a,p.w a → a ≠ D:=fun a w z=>s.notin h (z ▸ s.wc a w)
 refine ⟨sm.nd,sm.len,fun a m=>⟨sm.sub a m,ne a (s.sub a m)⟩,fun a x=>sm.wc a x.1,sm.mu,fun k a u e1 e2=>?_⟩
 exact (s.obj k a u e1 e2).mono (fun vs e=>by rw [aaQ (aaX e h)]; exact e) (fun b w f=>⟨⟨⟨.inl w,ne b w⟩,f⟩,fun vs e=>by rw [aaQ (aaX e h)]; exact e⟩) fun _ _ r=>st.reps r
theorem Step.unhold {D:Addr} (h:p.w D) (st:Step (p.hold D) H q H') (s:Sim K p S H):Step p H ⟨q.f,fun a=>q.w a ∨ a = D,q.c⟩ H' :=
 ⟨s.wc,s.mu,st.pre,fun a x=>by
  by_cases z:a = D
  ·exact .inr z
  ·exact .inl (st.mw a ⟨x,z⟩),st.mono,st.nf,fun a x n=>by
  rcases x with x | x
  ·exact st.nw a x fun z=>n z.1
  ·exact absurd (x ▸ h) n,st.nc,fun a o e n=>st.keep a o e fun z=>n z.1⟩
theorem Sim.grow {D:Addr} {ys:List V} {o:HO} (s:Sim K p S H) (sh:Sim K (p.hold D) S H) (w:p.w D) (n:D ∉ p.f) (mo:Mb o):Step p H p (upd H D o) ∧ Sim K p S (upd H D o) ∧ Sim K (p.hold D) S (upd H D o):=by
 have st:Step p H p (upd H D o):=⟨s.wc,s.mu,List.prefix_rfl,fun _ h=>h,fun _ h=>h,fun _ h g=>absurd h g,fun _ h g=>absurd h g,fun _ h g=>absurd h g,fun a u e nw=>by
  rw [aaQ (fun z:a = D=>nw (by rw [z]; exact w))]
  exact e⟩
 have hm:∀ a,p.c a → ∃ u,upd H D o a = some u ∧ Mb u:=fun a x=>by
  by_cases z:a = D
  ·rw [z,aa6]
   exact ⟨o,rfl,mo⟩
  ·rw [aaQ z]
   exact s.mu a x
 refine ⟨st,⟨s.nd,s.len,s.sub,s.wc,hm,fun k a u e1 e2=>?_⟩,⟨sh.nd,sh.len,sh.sub,sh.wc,hm,fun k a u e1 e2=>?_⟩⟩
 ·have ne:a ≠ D:=fun z=>n (z ▸ List.mem_of_getElem? e1)
  exact (sh.obj k a u e1 e2).mono (fun vs e=>by rw [aaQ ne]; exact e) (fun b w f=>⟨⟨w.1,f⟩,fun vs e=>by rw [aaQ w.2]; exact e⟩) fun _ _ r=>st.reps r
 ·have ne:a ≠ D:=fun z=>n (z ▸ List.mem_of_getElem? e1)
  exact (sh.obj k a u e1 e2).mono (fun vs e=>by rw [aaQ ne]; exact e) (fun b w f=>⟨⟨w,f⟩,fun vs e=>by rw [aaQ w.2]; exact e⟩) fun _ _ r=>st.reps r
theorem Sim.toLess {D:Addr} (s:Sim K (p.hold D) S H):Sim K (p.less D) S H :=
 ⟨s.nd,s.len,s.sub,fun a h=>⟨s.wc a h,h.2⟩,fun a h=>s.mu a h.1,fun k a o e1 e2 =>
  (s.obj k a o e1 e2).mono (fun _ e=>e) (fun b w f=>⟨⟨w,f⟩,fun _ e=>e⟩) fun _ _ r=>acy (fun a h=>h.1) r⟩
theorem Step.toLess {D:Addr} (st:Step p H q H') (h:H D = none):Step p H (q.less D) H':=by
 have nD:∀ a,p.c a → a ≠ D:=fun a c z=>by
  obtain ⟨o,e,_⟩:=st.mu a c
  rw [z,h] at e
  cases e
 exact ⟨st.wc,st.mu,st.pre,fun a x=>⟨st.mw a x,nD a (st.wc a x)⟩,fun a x=>⟨st.mono a x,nD a x⟩,st.nf,fun a x=>st.nw a x.1,fun a x=>st.nc a x.1,st.keep⟩
variable {sc:Scope} {own:List Str} {cap:List (Nat × Str)} {elt target iter:Expr} {pos:Pos} {mi:MI} {g:GM} {me:ME}
theorem ag2 {σ:St} {ρ:Rho} {xs zs:List PV} {G:Gd} {J:It} {Q:VK} {D:Addr} {S2:Sto} (sm:Sim K p S H) (ev:RepE K p H ρ σ) (it:ItOk K p H (xs,G) J) (z:aa9 G g me xs (cmpR own cap ρ) S = .ok zs S2) (hD:H D = none)
  (k:∀ q H' vs,Step p H q H' → Sim K q S2 H' → Sim K (q.hold D) S2 H' → q.w D → D ∉ q.f → H' D = some (.lst vs) → vs.length ≤ sizeLine → Reps K q.c H' zs vs → Q (.ref D) H') :
  cmpW J (gP K g) (tP K cl E0 (RepA K) me) (aef own cap σ) H D Q:=by
 obtain ⟨st0,sm0⟩:=sm.res (D:=D) (o:=.lst []) hD trivial
 have sh0:=sm.resHold (D:=D) (o:=.lst []) hD trivial
 have nf0:D ∉ p.f:=fun h=>sm.notin hD (sm.wc D (sm.sub D h))
 refine am2 xs.length it.1 (fun i σ1 H1 ys=>ys.length = i ∧ i ≤ xs.length ∧ H1 D = some (.lst ys) ∧ ∃ p1 S1 ρ1 us ws,(Sim K p1 S1 H1 ∧ Sim K (p1.hold D) S1 H1) ∧ Step p H p1 H1 ∧ p1.w D ∧ D ∉ p1.f ∧ RepE K p1 H1 ρ1 σ1 ∧ ItOk K p1 H1 (xs,G) J ∧ gOk G S1 ∧ Reps K p1.c H1 us ys ∧ zs = us ++ ws ∧ aa9 G g me (xs.drop i) ρ1 S1 = .ok ws S2) ?_ ?_ ?_ ?_ ?_
 ·refine ⟨rfl,Nat.zero_le _,aa6,p.res D,S,cmpR own cap ρ,[],zs,⟨sm0,sh0⟩,st0,.inr rfl,nf0,alA (st0.repE ev),it.step st0,?_,.nil,rfl,by simpa using z⟩
  exact ail z
 ·rintro i σ1 H1 ys ⟨h1,_,h2,_⟩
  exact ⟨h1,h2⟩
 ·rintro i σ1 H1 ys hi ⟨_,_,_,p1,S1,ρ1,us,ws,⟨sm1,sh1⟩,st1,w1,f1,ev1,it1,g1,_⟩
  exact ((it1.2 p1 H1 S1 sm1.step sm1 g1).1 i xs[i] (List.getElem?_eq_getElem hi)).1
 ·rintro i σ1 H1 ys x H2 hi ⟨hl,_,hH,p1,S1,ρ1,us,ws,⟨sm1,sh1⟩,st1,w1,f1,ev1,it1,g1,r1,e1,c1⟩ hy
  obtain ⟨same,rx⟩:=((it1.2 p1 H1 S1 sm1.step sm1 g1).1 i xs[i] (List.getElem?_eq_getElem hi)).2 x H2 hy
  rw [List.drop_eq_getElem_cons hi] at c1
  unfold aa9 at c1
  rw [if_pos g1] at c1
  split at c1
  ·cases c1
  ·rename_i ρ2 gz
   split at c1
   ·rename_i y S3 mz
    split at c1
    ·rename_i vs S4 cz
     cases c1
     have st2:=sm1.same same
     have sm2:=sm1.ofSame same
     have smh:=sh1.ofSame same
     have stS:Step p H p1 H2:=st1.trans st2
     refine ⟨p1,S1,ρ1,xs[i],ρ2,sm2,st2.repE ev1,rx,gz,fun σ3 ev3=>⟨p1.hold D,S1,ρ2,smh,⟨ev3.len,ev3.at_⟩,?_⟩⟩
     rw [mz]
     intro q H4 y' st4 sm4 ry
     have hD2:H2 D = some (.lst ys):=same _ _ hH
     have hD4:H4 D = some (.lst ys):=st4.keep D _ hD2 fun z=>z.2 rfl
     have fq:D ∉ q.f:=fun h=>by
      have:=st4.nf D h f1
      rw [hD2] at this
      cases this
     have stU:=Step.unhold w1 st4 sm2
     have nq:¬ q.w D:=fun z=>by
      have:=st4.nw D z fun y=>y.2 rfl
      rw [hD2] at this
      cases this
     have smU:Sim K ⟨q.f,fun a=>q.w a ∨ a = D,q.c⟩ S3 H4:=⟨sm4.nd,sm4.len,fun a h=>.inl (sm4.sub a h),fun a h=>h.elim (sm4.wc a) fun z=>z ▸ st4.mono D (sm2.wc D w1),sm4.mu,fun k a o e1 e2 =>
      (sm4.obj k a o e1 e2).mono (fun _ e=>e) (fun b w f=>⟨⟨.inl w,f⟩,fun _ e=>e⟩) fun _ _ r=>r⟩
     have shU:Sim K (Ph.hold ⟨q.f,fun a=>q.w a ∨ a = D,q.c⟩ D) S3 H4:=⟨sm4.nd,sm4.len,fun a h=>⟨.inl (sm4.sub a h),fun z=>nq (z ▸ sm4.sub a h)⟩,fun a h=>smU.wc a h.1,sm4.mu,fun k a o e1 e2 =>
      (sm4.obj k a o e1 e2).mono (fun _ e=>e) (fun b w f=>⟨⟨⟨.inl w,fun z=>nq (z ▸ w)⟩,f⟩,fun _ e=>e⟩) fun _ _ r=>r⟩
     obtain ⟨stG,smG,shG⟩:=smU.grow (ys:=ys) (D:=D) (o:=.lst (ys ++ [y'])) shU (.inr rfl) fq trivial
     have stA:=st2.trans (stU.trans stG)
     refine ap9 hi hD4 ⟨by rw [List.length_append,hl]; rfl,hi,aa6,_,S3,ρ2,us ++ [y],vs,⟨smG,shG⟩,st1.trans stA,.inr rfl,fq,stG.repE (stU.repE ev3),it1.step stA,ail cz,?_,by rw [e1,List.append_assoc]; rfl,cz⟩
     exact (stA.reps r1).append (.cons (stG.rep ry) .nil)
    ·cases c1
   ·cases c1
 ·rintro σ1 H1 ys ⟨hl,_,hH,p1,S1,ρ1,us,ws,⟨sm1,sh1⟩,st1,w1,f1,ev1,it1,g1,r1,e1,c1⟩
  rw [List.drop_length] at c1
  unfold aa9 at c1
  rw [if_pos g1] at c1
  cases c1
  refine ⟨(it1.2 p1 H1 _ sm1.step sm1 g1).2,?_⟩
  rw [List.append_nil] at e1
  subst e1
  exact k p1 H1 ys st1 sm1 sh1 w1 f1 hH (by rw [hl]; exact it.1) r1
theorem afm {σ:St} {ρ:Rho} {xs:List PV × Gd} {J:It} {Q:VK} {D:Addr} (sm:Sim K p S H) (ev:RepE K p H ρ σ) (it:ItOk K p H xs J) (k:abd K cl (RepA K) p H ((aa9 xs.2 g me xs.1 (cmpR own cap ρ) S).bind fun ys S2=>.ok (.pv (.lst ys)) S2) Q E) (hD:H D = none) :
  cmpW J (gP K g) (tP K cl E0 (RepA K) me) (aef own cap σ) H D Q:=by
 cases z:aa9 xs.2 g me xs.1 (cmpR own cap ρ) S with
 | fail=>rw [z] at k; exact k.elim
 | exc n S'=>exact absurd z (afk _ _ _ _ _)
 | ok zs S2 =>
  rw [z] at k
  have k:∀ q H' x,Step p H q H' → Sim K q S2 H' → Rep K q.c H' (.lst zs) x → Q x H':=k
  refine ag2 sm ev it z hD fun q H' vs st1 sm1 sh1 w1 f1 hH l1 r1=>?_
  refine k (q.less D) H' (.ref D) (st1.toLess hD) sh1.toLess ?_
  unfold Rep
  exact ⟨D,vs,rfl,.inl ⟨hH,fun z=>z.2 rfl⟩,l1,acy (fun a h=>h.1) r1⟩
theorem abK (k:aeE X sc own cap) (hi:PIp K cl E X target iter mi) (hc:X.calm = true) (hg:∀ C s₀ H₀ ex,PGp K (adf X sc (cmpN own cap) C s₀ H₀ ex) target g) (he:∀ C s₀ H₀ ex,PEp K cl E0 (adf X sc (cmpN own cap) C s₀ H₀ ex) elt me)
  (hs:∀ x,foldedSetIterable iter X.env x = pure x:=by intro _; rfl):PEp K cl E X (.ListComp elt [⟨target,iter,[],0⟩] sc pos) (aaW own cap mi g me):=by
 intro hK
 refine PE.imp (ang k (hi hK) hc (fun C s₀ H₀ ex=>hg C s₀ H₀ ex hK) (fun C s₀ H₀ ex=>he C s₀ H₀ ex hK) hs) fun σ H Q ⟨p,S,ρ,s,ev,h⟩=>?_
 exact aaO s ev h fun q H' xs J S' stp sm ev it kk D hD=>afm sm ev it kk hD
theorem acC {i:Nat} {x:Str} {py spos:Pos} (hN:X.N.Nodup) (hx:X.N[i]? = some x) (hl:Loc X.env.scope x) (k:aeE X sc own cap) (hi:PIp K cl E X target iter mi) (hc:X.calm = true) (hg:∀ C s₀ H₀ ex,PGp K (adf X sc (cmpN own cap) C s₀ H₀ ex) target g) (he:∀ C s₀ H₀ ex,PEp K cl E0 (adf X sc (cmpN own cap) C s₀ H₀ ex) elt me)
  (hs:∀ x,foldedSetIterable iter X.env x = pure x:=by intro _; rfl) (hsw:swapsWith (.ListComp elt [⟨target,iter,[],0⟩] sc pos) (some (.Name x py)) spos.line X.env = pure true:=by rfl)
  (hf:X.fn x = true ∨ X.env.scope.names.lookup x = some .local:=by first | exact .inl rfl | exact .inr rfl | assumption) :
  PSp K cl E X (.Assign [.Name x py] (.ListComp elt [⟨target,iter,[],0⟩] sc pos) spos) (sSet i (aaW own cap mi g me)):=by
 intro hK
 refine PS.imp (aj7 hN hx hl k (hi hK) hc (fun C s₀ H₀ ex=>hg C s₀ H₀ ex hK) (fun C s₀ H₀ ex=>he C s₀ H₀ ex hK) hs hsw hf) fun D σ H ⟨p,S,ρ,s,ev,h⟩=>?_
 have h2:tP K cl E (RepA K) (aaW own cap mi g me) σ H fun y H1=>D.nx (σ.set i (some y)) H1:=by
  refine ⟨p,S,ρ,s,ev,?_⟩
  unfold sSet at h
  cases z:aaW own cap mi g me ρ S with
  | ok v S1 =>
   rw [z] at h
   exact fun q H' y st sm r=>h q H' _ st sm ((st.repE ev).set r i)
  | exc n S1=>rw [z] at h; exact h
  | fail=>rw [z] at h; exact h
 obtain ⟨p,S,ρ,s,ev,h⟩:=h2
 exact aaO s ev h fun q H' xs J S' stp sm ev it kk B hB=>afm sm ev it kk hB
end
end L2.Pp
namespace L2.Pp
open PySem PySem.Spec PyProof.Rows Bn
def acB:List (Option Bool) → Option (List Bool)
 | []=>some []
 | some b :: r=>match acB r with
  | some bs=>some (b :: bs)
  | none=>none
 | none :: _=>none
theorem afI:∀ {l:List (Option Bool)} {bs:List Bool},acB l = some bs → bs.length = l.length
 | [],_,e=>by cases e; rfl
 | some b :: r,bs,e=>by
  unfold acB at e
  split at e
  ·rename_i cs h
   cases e
   rw [List.length_cons,List.length_cons,afI h]
  ·cases e
 | none :: r,_,e=>by cases e
theorem aen:∀ {l:List (Option Bool)} {bs:List Bool} {i:Nat} {o:Option Bool},acB l = some bs → l[i]? = some o → ∃ b,o = some b ∧ bs[i]? = some b
 | [],_,i,o,_,h=>by simp at h
 | some b :: r,bs,i,o,e,h=>by
  unfold acB at e
  split at e
  ·rename_i cs h'
   cases e
   cases i with
   | zero =>
    simp at h
    exact ⟨b,h.symm,rfl⟩
   | succ i=>simpa using aen h' (by simpa using h)
  ·cases e
 | none :: r,_,_,_,e,_=>by cases e
def eqN:Nat → PV → PV → Option Bool
 | _,.non,.non=>some true
 | _,.bl a,.bl b=>some (a == b)
 | _,.int a,.int b=>some (a == b)
 | _,.str a,.str b=>some (a == b)
 | n + 1,.tup xs,.tup ys=>match acB (List.zipWith (eqN n) xs ys) with
  | some bs=>some (bs.all id && xs.length == ys.length)
  | none=>none
 | n + 1,.lst xs,.lst ys=>if xs.length = ys.length then (match acB (List.zipWith (eqN n) xs ys) with
  | some bs=>some (bs.all id)
  | none=>none) else some false
 | _,_,_=>none
theorem aea (bs:List Bool):((List.range bs.length).all fun j=>bs.getD j true) = bs.all id:=by
 rw [Bool.eq_iff_iff,List.all_eq_true,List.all_eq_true]
 constructor
 ·intro h b hb
  obtain ⟨j,hj,e⟩:=List.getElem_of_mem hb
  have:=h j (by simpa using hj)
  simpa [List.getD,hj,e] using this
 ·intro h j hj
  have hj:j < bs.length:=by simpa using hj
  have:=h bs[j] (List.getElem_mem hj)
  simpa [List.getD,hj] using this
section
variable {X:Cx} {pins:List (Addr × Obj)} {σ:St} {H:Hp} {s:Shared} {c:Addr → Prop}
theorem aeG {n:Nat} {xs ys:List PV} {vs ws:List V} {its jts:List Value} {bs:List Bool} {A:Around}
  (ih:∀ (v w:PV) (x y:V) (u u':Value) (b:Bool),Rep X.K c H v x → Rep X.K c H w y → RelV x u → RelV y u' → eqN n v w = some b → SeqAt.EqAt A s u u' b)
  (r1:Reps X.K c H xs vs) (r2:Reps X.K c H ys ws) (q1:Vals vs its) (q2:Vals ws jts) (e:acB (List.zipWith (eqN n) xs ys) = some bs) :
  ∀ j (h1:j < its.toArray.size) (h2:j < jts.toArray.size),SeqAt.EqAt A s its.toArray[j] jts.toArray[j] (bs.getD j true):=fun j h1 h2=>by
 have l1:=r1.length.trans q1.length
 have l2:=r2.length.trans q2.length
 have g1:j < xs.length:=by rw [l1]; simpa using h1
 have g2:j < ys.length:=by rw [l2]; simpa using h2
 obtain ⟨x,ex,rx⟩:=r1.get (List.getElem?_eq_getElem g1)
 obtain ⟨y,ey,ry⟩:=r2.get (List.getElem?_eq_getElem g2)
 obtain ⟨u,eu,ru⟩:=q1.get ex
 obtain ⟨u',eu',ru'⟩:=q2.get ey
 have hz:(List.zipWith (eqN n) xs ys)[j]? = some (eqN n xs[j] ys[j]):=by
  rw [List.getElem?_zipWith,List.getElem?_eq_getElem g1,List.getElem?_eq_getElem g2]
 obtain ⟨b,eb,eb'⟩:=aen e hz
 have e1:its.toArray[j] = u:=by
  rw [List.getElem_toArray]
  rw [List.getElem?_eq_getElem (by simpa using h1)] at eu
  exact Option.some.inj eu
 have e2:jts.toArray[j] = u':=by
  rw [List.getElem_toArray]
  rw [List.getElem?_eq_getElem (by simpa using h2)] at eu'
  exact Option.some.inj eu'
 rw [e1,e2]
 have e3:bs.getD j true = b:=by simp [List.getD,eb']
 rw [e3]
 exact ih _ _ _ _ _ _ _ rx ry ru ru' eb
theorem afl {n:Nat} {xs ys:List PV} {bs:List Bool} (e:acB (List.zipWith (eqN n) xs ys) = some bs):bs.length = min xs.length ys.length:=by
 rw [afI e,List.length_zipWith]
theorem agB (n:Nat) (v w:PV) (x:V) (b:Bool) (nt:∀ xs,v ≠ .tup xs) (nl:∀ xs,v ≠ .lst xs) (h:Rep X.K c H v x) (g:Rep X.K c H w x) (e:eqN n v w = some b):b = true:=by
 cases v with
 | tup xs=>exact absurd rfl (nt xs)
 | lst xs=>exact absurd rfl (nl xs)
 | non =>
  cases w <;> first | (unfold eqN at e; simp at e; done) | skip
  unfold eqN at e; cases e; rfl
 | bl i =>
  cases w <;> first | (unfold eqN at e; simp at e; done) | skip
  unfold Rep at h g; subst h; injection g with g'; subst g'; unfold eqN at e; cases e; exact beq_self_eq_true _
 | int i =>
  cases w <;> first | (unfold eqN at e; simp at e; done) | skip
  unfold Rep at h g; subst h; injection g with g'; subst g'; unfold eqN at e; cases e; exact beq_self_eq_true _
 | str i =>
  cases w <;> first | (unfold eqN at e; simp at e; done) | skip
  unfold Rep at h g; subst h; injection g with g'; subst g'; unfold eqN at e; cases e; exact beq_self_eq_true _
theorem aie (I:Inv X pins σ H s):∀ (n:Nat) (v w:PV) (x:V) (b:Bool),Rep X.K c H v x → Rep X.K c H w x → eqN n v w = some b → b = true:=by
 intro n
 induction n with
 | zero =>
  intro v w x b h g e
  cases v with
  | tup xs=>unfold eqN at e; simp at e
  | lst xs=>unfold eqN at e; simp at e
  | _=>exact agB 0 _ w x b (by intro _ z; cases z) (by intro _ z; cases z) h g e
 | succ n ih =>
  have items:∀ (xs ys:List PV) (vs:List V) (bs:List Bool),Reps X.K c H xs vs → Reps X.K c H ys vs → acB (List.zipWith (eqN n) xs ys) = some bs → bs.all id = true ∧ xs.length = ys.length:=fun xs ys vs bs r1 r2 e=>by
   have ll:=r1.length.trans r2.length.symm
   refine ⟨?_,ll⟩
   rw [List.all_eq_true]
   intro b hb
   obtain ⟨j,hj,ej⟩:=List.getElem_of_mem hb
   have hj':=hj
   rw [afl e] at hj'
   have g1:j < xs.length:=by omega
   have g2:j < ys.length:=by omega
   obtain ⟨x,ex,rx⟩:=r1.get (List.getElem?_eq_getElem g1)
   obtain ⟨y,ey,ry⟩:=r2.get (List.getElem?_eq_getElem g2)
   have:=ex.symm.trans ey
   cases this
   have hz:(List.zipWith (eqN n) xs ys)[j]? = some (eqN n xs[j] ys[j]):=by
    rw [List.getElem?_zipWith,List.getElem?_eq_getElem g1,List.getElem?_eq_getElem g2]
   obtain ⟨b',eb,eb'⟩:=aen e hz
   rw [List.getElem?_eq_getElem hj,ej] at eb'
   cases eb'
   exact ih _ _ _ _ rx ry eb
  intro v w x b h g e
  cases v with
  | tup xs =>
   cases w with
   | tup ys =>
    unfold Rep at h g
    obtain ⟨a,vs,rfl,t1,_,r1⟩:=h
    obtain ⟨a',ws,e1,t2,_,r2⟩:=g
    cases e1
    have:=I.tuple_inj t1 t2
    subst this
    unfold eqN at e
    split at e
    ·rename_i bs hb
     obtain ⟨z1,z2⟩:=items xs ys vs bs r1 r2 hb
     rw [z1,z2,beq_self_eq_true] at e
     cases e
     rfl
    ·cases e
   | _=>unfold eqN at e; simp at e
  | lst xs =>
   cases w with
   | lst ys =>
    unfold Rep at h g
    obtain ⟨a,vs,rfl,t1,_,r1⟩:=h
    obtain ⟨a',ws,e1,t2,_,r2⟩:=g
    cases e1
    have:=I.list_inj t1.sq t2.sq
    subst this
    unfold eqN at e
    rw [if_pos (r1.length.trans r2.length.symm)] at e
    split at e
    ·rename_i bs hb
     obtain ⟨z1,z2⟩:=items xs ys vs bs r1 r2 hb
     rw [z1] at e
     cases e
     rfl
    ·cases e
   | _=>unfold eqN at e; simp at e
  | _=>exact agB (n + 1) _ w x b (by intro _ z; cases z) (by intro _ z; cases z) h g e
theorem amd (I:Inv X pins σ H s):∀ (n:Nat) (v w:PV) (x y:V) (u u':Value) (b:Bool) (A:Around),A.units + n < cLine → Rep X.K c H v x → Rep X.K c H w y → RelV x u → RelV y u' → eqN n v w = some b → SeqAt.RcAt A s u u' b ∧ SeqAt.EqAt A s u u' b:=by
 have flat:∀ (n:Nat) (v w:PV) (x y:V) (u u':Value) (b:Bool) (A:Around),(∀ xs,v ≠ .tup xs) → (∀ xs,v ≠ .lst xs) → Rep X.K c H v x → Rep X.K c H w y → RelV x u → RelV y u' → eqN n v w = some b → SeqAt.RcAt A s u u' b ∧ SeqAt.EqAt A s u u' b:=by
  intro n v w x y u u' b A nt nl h g r r' e
  cases v with
  | tup xs=>exact absurd rfl (nt xs)
  | lst xs=>exact absurd rfl (nl xs)
  | non =>
   cases w <;> first | (unfold eqN at e; simp at e; done) | skip
   unfold Rep at h g; subst h g; cases r; cases r'; unfold eqN at e; cases e; exact ⟨SeqAt.RcAt.none_none,SeqAt.EqAt.same _⟩
  | bl i =>
   cases w <;> first | (unfold eqN at e; simp at e; done) | skip
   unfold Rep at h g; subst h g; cases r; cases r'; unfold eqN at e; cases e; exact ⟨SeqAt.RcAt.bool_bool _ _,SeqAt.EqAt.bool_bool _ _⟩
  | int i =>
   cases w <;> first | (unfold eqN at e; simp at e; done) | skip
   unfold Rep at h g; subst h g; obtain ⟨t,rfl⟩:=r; obtain ⟨t',rfl⟩:=r'; unfold eqN at e; cases e; exact ⟨SeqAt.RcAt.int_int _ _ _ _,SeqAt.EqAt.int_int _ _ _ _⟩
  | str i =>
   cases w <;> first | (unfold eqN at e; simp at e; done) | skip
   unfold Rep at h g; subst h g; obtain ⟨t,rfl⟩:=r; obtain ⟨t',rfl⟩:=r'; unfold eqN at e; cases e; exact ⟨SeqAt.RcAt.str_str _ _ _ _,SeqAt.EqAt.str_str _ _ _ _⟩
 have main:∀ (n:Nat) (v w:PV) (x y:V) (u u':Value) (b:Bool) (A:Around),A.units + n < cLine → Rep X.K c H v x → Rep X.K c H w y → RelV x u → RelV y u' → eqN n v w = some b → SeqAt.RcAt A s u u' b ∧ SeqAt.EqAt A s u u' b:=by
  intro n
  induction n with
  | zero =>
   intro v w x y u u' b A hu h g r r' e
   cases v with
   | tup xs=>unfold eqN at e; simp at e
   | lst xs=>unfold eqN at e; simp at e
   | _=>exact flat 0 _ w x y u u' b A (by intro _ z; cases z) (by intro _ z; cases z) h g r r' e
  | succ n ih =>
   intro v w x y u u' b A hu h g r r' e
   have hin:A.in1.units + n < cLine:=by show A.units + 1 + n < cLine; omega
   cases v with
   | tup xs =>
    cases w with
    | tup ys =>
     have hs:x = y → b = true:=fun z=>aie I (n + 1) _ _ x b h (z ▸ g) e
     unfold Rep at h g
     obtain ⟨a,vs,rfl,t1,_,r1⟩:=h
     obtain ⟨a',ws,rfl,t2,_,r2⟩:=g
     cases r
     cases r'
     obtain ⟨its,q1,p1,_⟩:=I.tuple t1
     obtain ⟨jts,q2,p2,_⟩:=I.tuple t2
     unfold eqN at e
     split at e
     ·rename_i bs hb
      cases e
      have z:=SeqAt.RcAt.tuples (A:=A) (s:=s) (e:=fun j=>bs.getD j true) (show s.heap.IsTuple a its.toArray from p1) (show s.heap.IsTuple a' jts.toArray from p2) (by omega)
       (aeG (A:=A.in1) (fun v w x y u u' b h1 h2 h3 h4 h5=>(ih v w x y u u' b A.in1 hin h1 h2 h3 h4 h5).2) r1 r2 q1 q2 hb)
      have l1:=r1.length.trans q1.length
      have l2:=r2.length.trans q2.length
      rw [List.size_toArray,List.size_toArray,← l1,← l2,← afl hb,aea] at z
      refine ⟨z,?_⟩
      by_cases ha:a = a'
      ·subst ha
       rw [hs rfl]
       exact SeqAt.EqAt.same _
      ·exact SeqAt.EqAt.of_refs ha z
     ·cases e
    | _=>unfold eqN at e; simp at e
   | lst xs =>
    cases w with
    | lst ys =>
     have hs:x = y → b = true:=fun z=>aie I (n + 1) _ _ x b h (z ▸ g) e
     unfold Rep at h g
     obtain ⟨a,vs,rfl,t1,_,r1⟩:=h
     obtain ⟨a',ws,rfl,t2,_,r2⟩:=g
     cases r
     cases r'
     obtain ⟨its,q1,p1,_⟩:=I.list t1.sq
     obtain ⟨jts,q2,p2,_⟩:=I.list t2.sq
     have l1:=r1.length.trans q1.length
     have l2:=r2.length.trans q2.length
     have fin:SeqAt.RcAt A s (.ref a) (.ref a') b → SeqAt.RcAt A s (.ref a) (.ref a') b ∧ SeqAt.EqAt A s (.ref a) (.ref a') b:=fun z=>by
      refine ⟨z,?_⟩
      by_cases ha:a = a'
      ·subst ha
       rw [hs rfl]
       exact SeqAt.EqAt.same _
      ·exact SeqAt.EqAt.of_refs ha z
     unfold eqN at e
     split at e
     ·rename_i hl
      split at e
      ·rename_i bs hb
       cases e
       have z:=SeqAt.RcAt.lists (A:=A) (s:=s) (e:=fun j=>bs.getD j true) p1.isList p2.isList (by rw [List.size_toArray,List.size_toArray]; omega) (by omega)
        (aeG (A:=A.in1) (fun v w x y u u' b h1 h2 h3 h4 h5=>(ih v w x y u u' b A.in1 hin h1 h2 h3 h4 h5).2) r1 r2 q1 q2 hb)
       have hm:its.length = bs.length:=by rw [afl hb]; omega
       rw [List.size_toArray,hm,aea] at z
       exact fin z
      ·cases e
     ·rename_i hl
      cases e
      exact fin (SeqAt.RcAt.lists_lengths p1.isList p2.isList (by rw [List.size_toArray,List.size_toArray]; simp; omega) (by omega))
    | _=>unfold eqN at e; simp at e
   | _=>exact flat (n + 1) _ w x y u u' b A (by intro _ z; cases z) (by intro _ z; cases z) h g r r' e
 exact main
end
end L2.Pp
namespace L2.Pp
open PySem PySem.Spec PyProof.Rows Bn
section
variable {X:Cx}
theorem apg {pins:List (Addr × Obj)} {σ:St} {H:Hp} {s:Shared} (I:Inv X pins σ H s) {p:Ph} {v w:PV} {x y:V} {u u':Value} {b:Bool} {A:Around} (hu:A.units + 8 < cLine) (h:RepR X.K p H v x) (g:RepR X.K p H w y) (r:RelV x u) (r':RelV y u') (e:eqN 8 v w = some b) :
  SeqAt.RcAt A s u u' b ∧ SeqAt.RcNeAt A s u u' (!b):=by
 have hin:A.in1.units + 7 < cLine:=by show A.units + 1 + 7 < cLine; omega
 cases v with
 | non =>
  cases w <;> first | (unfold eqN at e; simp at e; done) | skip
  have h:=h.non; have g:=g.non; subst h g; cases r; cases r'; unfold eqN at e; cases e; exact ⟨SeqAt.RcAt.none_none,SeqAt.RcNeAt.none_none⟩
 | bl i =>
  cases w <;> first | (unfold eqN at e; simp at e; done) | skip
  have h:=h.bl; have g:=g.bl; subst h g; cases r; cases r'; unfold eqN at e; cases e; exact ⟨SeqAt.RcAt.bool_bool _ _,SeqAt.RcNeAt.bool_bool _ _⟩
 | int i =>
  cases w <;> first | (unfold eqN at e; simp at e; done) | skip
  have h:=h.int; have g:=g.int; subst h g; obtain ⟨t,rfl⟩:=r; obtain ⟨t',rfl⟩:=r'; unfold eqN at e; cases e; exact ⟨SeqAt.RcAt.int_int _ _ _ _,SeqAt.RcNeAt.int_int _ _ _ _⟩
 | str i =>
  cases w <;> first | (unfold eqN at e; simp at e; done) | skip
  have h:=h.str; have g:=g.str; subst h g; obtain ⟨t,rfl⟩:=r; obtain ⟨t',rfl⟩:=r'; unfold eqN at e; cases e; exact ⟨SeqAt.RcAt.str_str _ _ _ _,SeqAt.RcNeAt.str_str _ _ _ _⟩
 | tup xs =>
  cases w with
  | tup ys =>
   obtain ⟨a,vs,rfl,t1,_,r1⟩:=h.tup
   obtain ⟨a',ws,rfl,t2,_,r2⟩:=g.tup
   cases r
   cases r'
   obtain ⟨its,q1,p1,_⟩:=I.tuple t1
   obtain ⟨jts,q2,p2,_⟩:=I.tuple t2
   unfold eqN at e
   split at e
   ·rename_i bs hb
    cases e
    have it:=aeG (s:=s) (A:=A.in1) (fun v w x y u u' b h1 h2 h3 h4 h5=>(amd I 7 v w x y u u' b A.in1 hin h1 h2 h3 h4 h5).2) r1 r2 q1 q2 hb
    have z:=SeqAt.RcAt.tuples (A:=A) (s:=s) (e:=fun j=>bs.getD j true) (show s.heap.IsTuple a its.toArray from p1) (show s.heap.IsTuple a' jts.toArray from p2) (by omega) it
    have z':=SeqAt.RcNeAt.tuples (A:=A) (s:=s) (e:=fun j=>bs.getD j true) (show s.heap.IsTuple a its.toArray from p1) (show s.heap.IsTuple a' jts.toArray from p2) (by omega) it
    have l1:=r1.length.trans q1.length
    have l2:=r2.length.trans q2.length
    rw [List.size_toArray,List.size_toArray,← l1,← l2,← afl hb,aea] at z z'
    exact ⟨z,z'⟩
   ·cases e
  | _=>unfold eqN at e; simp at e
 | lst xs =>
  cases w with
  | lst ys =>
   obtain ⟨a,vs,rfl,t1,_,r1⟩:=h.lst
   obtain ⟨a',ws,rfl,t2,_,r2⟩:=g.lst
   cases r
   cases r'
   obtain ⟨its,q1,p1,_⟩:=I.list t1
   obtain ⟨jts,q2,p2,_⟩:=I.list t2
   have l1:=r1.length.trans q1.length
   have l2:=r2.length.trans q2.length
   unfold eqN at e
   split at e
   ·rename_i hl
    split at e
    ·rename_i bs hb
     cases e
     have it:=aeG (s:=s) (A:=A.in1) (fun v w x y u u' b h1 h2 h3 h4 h5=>(amd I 7 v w x y u u' b A.in1 hin h1 h2 h3 h4 h5).2) r1 r2 q1 q2 hb
     have z:=SeqAt.RcAt.lists (A:=A) (s:=s) (e:=fun j=>bs.getD j true) p1.isList p2.isList (by rw [List.size_toArray,List.size_toArray]; omega) (by omega) it
     have z':=SeqAt.RcNeAt.lists (A:=A) (s:=s) (e:=fun j=>bs.getD j true) p1.isList p2.isList (by rw [List.size_toArray,List.size_toArray]; omega) (by omega) it
     have hm:its.length = bs.length:=by rw [afl hb]; omega
     rw [List.size_toArray,hm,aea] at z z'
     exact ⟨z,z'⟩
    ·cases e
   ·rename_i hl
    cases e
    exact ⟨SeqAt.RcAt.lists_lengths p1.isList p2.isList (by rw [List.size_toArray,List.size_toArray]; simp; omega) (by omega),SeqAt.RcNeAt.lists_lengths p1.isList p2.isList (by rw [List.size_toArray,List.size_toArray]; simp; omega) (by omega)⟩
  | _=>unfold eqN at e; simp at e
def rEqP (K:PySem.W.Frag) (neg:Bool):R2:=fun x y H Q=>∃ p v w b,RepR K p H v x ∧ RepR K p H w y ∧ eqN 8 v w = some b ∧ Q (.bl (if neg then !b else b)) H
theorem ab1 (hu:X.A.units + 8 < cLine):OpR X (compareOp .Eq) (rEqP X.K false):=by
 intro pins s σ H x y v u Q I rx ry h
 obtain ⟨p,a,b,k,h1,h2,e,q⟩:=h
 exact (apg I hu h1 h2 rx ry e).1 X.prog X.w X.xe _ ⟨.bl k,H,I,rfl,q⟩
theorem af1 (hu:X.A.units + 8 < cLine):OpR X (compareOp .NotEq) (rEqP X.K true):=by
 intro pins s σ H x y v u Q I rx ry h
 obtain ⟨p,a,b,k,h1,h2,e,q⟩:=h
 exact (apg I hu h1 h2 rx ry e).2 X.prog X.w X.xe _ ⟨.bl (!k),H,I,rfl,q⟩
def fEq (a b:PV):Option PV:=(eqN 8 a b).map .bl
def fNe (a b:PV):Option PV:=(eqN 8 a b).map fun k=>.bl (!k)
theorem s_eq {K:PySem.W.Frag}:OpS K (rEqP K false) fEq:=fun {p S H a b c x y Q} s ra rb e k=>by
 unfold fEq at e
 cases z:eqN 8 a b with
 | none=>rw [z] at e; cases e
 | some t =>
  rw [z] at e
  cases e
  exact ⟨p,a,b,t,ra,rb,z,k H _ (Same.refl H) (by unfold Rep; rfl)⟩
theorem s_ne {K:PySem.W.Frag}:OpS K (rEqP K true) fNe:=fun {p S H a b c x y Q} s ra rb e k=>by
 unfold fNe at e
 cases z:eqN 8 a b with
 | none=>rw [z] at e; cases e
 | some t =>
  rw [z] at e
  cases e
  exact ⟨p,a,b,t,ra,rb,z,k H _ (Same.refl H) (by unfold Rep; rfl)⟩
def i2 (f:Int → Int → Option PV):PV → PV → Option PV
 | .int a,.int b=>f a b
 | _,_=>none
open Classical in
noncomputable def cI (C:Int → Int → Prop) (g:Int → Int → PV) (a b:Int):Option PV:=if C a b then some (g a b) else none
def toV:PV → V
 | .int i=>.int i
 | .bl b=>.bl b
 | .str s=>.str s
 | _=>.non
def am3:PV → Bool
 | .int _=>true
 | .bl _=>true
 | .str _=>true
 | .non=>true
 | _=>false
theorem abL {K:PySem.W.Frag} {c:Addr → Prop} {H:Hp} {v:PV} (h:am3 v = true):Rep K c H v (toV v):=by
 cases v with
 | tup _=>cases h
 | lst _=>cases h
 | _=>unfold Rep toV; rfl
theorem s_i2 {K:PySem.W.Frag} {C:Int → Int → Prop} {g:Int → Int → PV} {h:Int → Int → V} (fl:∀ i j,am3 (g i j) = true ∧ toV (g i j) = h i j):OpS K (rI C h) (i2 (cI C g)):=fun {p S H a b c x y Q} s ra rb e k=>by
 cases a with
 | int i =>
  cases b with
  | int j =>
   unfold i2 cI at e
   dsimp only at e
   split at e
   ·rename_i hc
    cases e
    refine ⟨i,j,ra.int,rb.int,hc,?_⟩
    rw [← (fl i j).2]
    exact k H _ (Same.refl H) (abL (fl i j).1)
   ·cases e
  | _=>cases e
 | _=>cases e
theorem s_i0 {K:PySem.W.Frag} {g:Int → Int → PV} {h:Int → Int → V} (fl:∀ i j,am3 (g i j) = true ∧ toV (g i j) = h i j):OpS K (rI0 h) (i2 fun i j=>some (g i j)):=fun {p S H a b c x y Q} s ra rb e k=>by
 cases a with
 | int i =>
  cases b with
  | int j =>
   cases e
   refine ⟨i,j,ra.int,rb.int,?_⟩
   rw [← (fl i j).2]
   exact k H _ (Same.refl H) (abL (fl i j).1)
  | _=>cases e
 | _=>cases e
def aiT (i j:Int):Prop:=CMul i j ∨ (Bd 1000000 i ∧ Bd 1000000 j)
theorem aiT.ok {i j:Int} (h:aiT i j):IntMulOk i j:=by
 rcases h with h | h
 ·exact h.ok
 have h1:=agk h.1
 have h2:=agk h.2
 unfold IntMulOk Builtin.Int.intTooBig bitsLine
 intro c
 simp only [Bool.and_eq_true,decide_eq_true_eq] at c
 have:=c.2
 omega
theorem aaN:OpR X (binaryOp .Mult) (rI aiT fun i j=>.int (i * j)):=opI fun _ _ _ _ _ _ _ hc q=>mul_int q hc.ok
noncomputable def fMul:=i2 (cI aiT fun i j=>.int (i * j))
noncomputable def adA:=i2 (cI ai8 fun i j=>.int (i.fdiv j))
noncomputable def fMod:=i2 (cI (fun _ j=>j ≠ 0) fun i j=>.int (i.fmod j))
noncomputable def fPow:=i2 (cI CPow fun i j=>.int (i ^ j.toNat))
def fSub:=i2 fun i j=>some (.int (i - j))
def fLt:=i2 fun i j=>some (.bl (decide (i < j)))
def fLe:=i2 fun i j=>some (.bl (decide (i ≤ j)))
def fGt:=i2 fun i j=>some (.bl (decide (j < i)))
def fGe:=i2 fun i j=>some (.bl (decide (j ≤ i)))
theorem aa7 {K:PySem.W.Frag}:OpS K (rI aiT fun i j=>.int (i * j)) fMul:=s_i2 fun _ _=>⟨rfl,rfl⟩
theorem agG {K:PySem.W.Frag}:OpS K (rI ai8 fun i j=>.int (i.fdiv j)) adA:=s_i2 fun _ _=>⟨rfl,rfl⟩
theorem agn {K:PySem.W.Frag}:OpS K (rI (fun _ j=>j ≠ 0) fun i j=>.int (i.fmod j)) fMod:=s_i2 fun _ _=>⟨rfl,rfl⟩
theorem ahQ {K:PySem.W.Frag}:OpS K (rI CPow fun i j=>.int (i ^ j.toNat)) fPow:=s_i2 fun _ _=>⟨rfl,rfl⟩
theorem adk {K:PySem.W.Frag}:OpS K (rI0 fun i j=>.int (i - j)) fSub:=s_i0 fun _ _=>⟨rfl,rfl⟩
theorem s_lt {K:PySem.W.Frag}:OpS K (rI0 fun i j=>.bl (decide (i < j))) fLt:=s_i0 fun _ _=>⟨rfl,rfl⟩
theorem s_gt {K:PySem.W.Frag}:OpS K (rI0 fun i j=>.bl (decide (j < i))) fGt:=s_i0 fun _ _=>⟨rfl,rfl⟩
theorem s_ge {K:PySem.W.Frag}:OpS K (rI0 fun i j=>.bl (decide (j ≤ i))) fGe:=s_i0 fun _ _=>⟨rfl,rfl⟩
def fNeg:PV → Option PV
 | .int i=>some (.int (-i))
 | _=>none
theorem abV {K:PySem.W.Frag}:UnS K (rU fun i=>.int (-i)) fNeg:=fun {p S H a c x Q} s ra e k=>by
 cases a with
 | int i =>
  cases e
  exact ⟨i,ra.int,k H _ (Same.refl H) (abL (v:=.int (-i)) rfl)⟩
 | _=>cases e
def aoJ (K:PySem.W.Frag):R2:=fun x y H Q=>∃ l b xs zs,x = .ref l ∧ y = .ref b ∧ SqL K H l xs ∧ SqL K H b zs ∧ xs.length + zs.length ≤ sizeLine ∧ ∀ p,H p = none → Q (.ref p) (upd H p (.lst (xs ++ zs)))
theorem anm:OpR X (binaryOp .Add) (aoJ X.K):=by
 intro pins s σ H x y v u Q I rx ry h
 obtain ⟨l,b,xs,zs,rfl,rfl,hx,hy,hz,q⟩:=h
 cases rx
 cases ry
 obtain ⟨its,r1,p1,_⟩:=I.list hx
 obtain ⟨jts,r2,p2,_⟩:=I.list hy
 obtain ⟨⟨cls,dd,data,sl⟩,n,ho,hc,_,hd⟩:=p1
 obtain ⟨⟨cls2,dd2,data2,sl2⟩,n2,ho2,hc2,_,hd2⟩:=p2
 simp only at hc hd hc2 hd2
 subst hc hd hc2 hd2
 have e:its.toArray ++ jts.toArray = (its ++ jts).toArray:=by simp
 have l1:=r1.length
 have l2:=r2.length
 refine concat_meets ⟨_,ho,rfl⟩ ⟨_,ho2,rfl⟩ noFill_list_add seq_list_add PySem.F.slot_list_add PySem.F.entry_list_add (PySem.F.args_list_add_2 _ _) (list_addW l b its.toArray jts.toArray n n2 dd dd2 sl sl2 (by rw [List.size_toArray,List.size_toArray]; omega)) ⟨ho,ho2,?_⟩
 rw [e]
 exact ⟨.ref _,_,I.lnew (t':=s.toks) (r1.append r2) (by rw [List.length_append]; omega),rfl,q _ I.fresh⟩
def fAdd:PV → PV → Option PV
 | .int a,.int b=>some (.int (a + b))
 | .lst xs,.lst ys=>if xs.length + ys.length ≤ 16777216 then some (.lst (xs ++ ys)) else none
 | .tup xs,.tup ys=>if xs.length ≠ 0 ∧ ys.length ≠ 0 ∧ xs.length + ys.length ≤ 16777216 then some (.tup (xs ++ ys)) else none
 | _,_=>none
def anV (K:PySem.W.Frag):R2:=fun x y H Q=>(rI0 fun i j=>.int (i + j)) x y H Q ∨ aoJ K x y H Q ∨ an4 K x y H Q
theorem aaU:OpR X (binaryOp .Add) (anV X.K):=OpR.or apc (OpR.or anm amU)
theorem abz {K:PySem.W.Frag}:OpS K (anV K) fAdd:=fun {p S H a b c x y Q} s ra rb e k=>by
 cases a with
 | int i =>
  cases b with
  | int j =>
   cases e
   exact .inl ⟨i,j,ra.int,rb.int,k H _ (Same.refl H) (abL (v:=.int (i + j)) rfl)⟩
  | _=>cases e
 | lst xs =>
  cases b with
  | lst ys =>
   have e:(if xs.length + ys.length ≤ 16777216 then some (PV.lst (xs ++ ys)) else none) = some c:=e
   split at e
   ·rename_i hl
    cases e
    obtain ⟨a1,vs,rfl,l1,z1,r1⟩:=ra.lst
    obtain ⟨a2,ws,rfl,l2,z2,r2⟩:=rb.lst
    have hz:vs.length + ws.length ≤ sizeLine:=by rw [← r1.length,← r2.length,abb]; exact hl
    exact .inr (.inl ⟨a1,a2,vs,ws,rfl,rfl,l1,l2,hz,fun t ht=>k _ _ (abM ht) (aeq s (r1.append r2) (by rw [List.length_append]; exact hz) ht)⟩)
   ·cases e
  | _=>cases e
 | tup xs =>
  cases b with
  | tup ys =>
   have e:(if xs.length ≠ 0 ∧ ys.length ≠ 0 ∧ xs.length + ys.length ≤ 16777216 then some (PV.tup (xs ++ ys)) else none) = some c:=e
   split at e
   ·rename_i hl
    cases e
    obtain ⟨a1,vs,rfl,l1,z1,r1⟩:=ra.tup
    obtain ⟨a2,ws,rfl,l2,z2,r2⟩:=rb.tup
    have hz:vs.length + ws.length ≤ sizeLine:=by rw [← r1.length,← r2.length,abb]; exact hl.2.2
    refine .inr (.inr ⟨a1,a2,vs,ws,rfl,rfl,l1,l2,fun q=>hl.1 (by rw [r1.length,q]; rfl),hz,fun q=>absurd (show ys.length = 0 by rw [r2.length,q]; rfl) hl.2.1,fun _ t ht=>k _ _ (abM ht) (aek s (r1.append r2) (by rw [List.length_append]; exact hz) ht)⟩)
   ·cases e
  | _=>cases e
 | _=>cases e
end
section
variable {K:PySem.W.Frag} {cl:Str → Addr} {E:XK} {X:Cx} {a b e:Expr} {es:List Expr} {ma mb m:ME} {ms:MA} {pos p2:Pos}
def fIx:PV → PV → Option PV
 | .lst xs,.int i=>atI xs i
 | .tup xs,.int i=>atI xs i
 | _,_=>none
theorem akS {c:Addr → Prop} {H:Hp} {xs:List PV} {vs:List V} {i:Int} {v:PV} (r:Reps K c H xs vs) (e:atI xs i = some v):∃ x,atI vs i = some x ∧ Rep K c H v x:=by
 unfold atI at e ⊢
 rw [← r.length]
 cases z:ixN xs.length i with
 | none=>rw [z] at e; cases e
 | some j =>
  rw [z] at e
  exact r.get e
theorem s_ix:OpS K (rIx K) fIx:=fun {p S H a b c x y Q} s ra rb e k=>by
 cases b with
 | int i =>
  cases a with
  | lst xs =>
   obtain ⟨a1,vs,rfl,l1,z1,r1⟩:=ra.lst
   obtain ⟨x,e1,r2⟩:=akS r1 e
   exact .inl ⟨a1,vs,i,x,rfl,rb.int,l1,e1,k H x (Same.refl H) r2⟩
  | tup xs =>
   obtain ⟨a1,vs,rfl,l1,z1,r1⟩:=ra.tup
   obtain ⟨x,e1,r2⟩:=akS r1 e
   exact .inr (.inl ⟨a1,vs,i,x,rfl,rb.int,l1,e1,k H x (Same.refl H) r2⟩)
  | _=>cases e
 | _=>cases a <;> cases e
theorem aaT (ha:PEp K cl E X a ma) (hb:PEp K cl E X b mb) (hs:ahv b:=by intro _ _; rfl):PEp K cl E X (.Subscript a b pos) (mBin fIx ma mb):=by
 intro hK
 subst hK
 refine (ao2 amv (ha rfl) (hb rfl) hs).imp fun σ H Q ⟨p,S,ρ,s,e,h⟩=>?_
 exact aaO s e h fun q H1 a x S1 st s1 e1 r1 h1=>aaO s1 e1 h1 fun q2 H2 b y S2 st2 s2 e2 r2 h2=>adT s_ix s2 (st2.repA r1) r2 h2
abbrev MO:=Rho → Sto → Res (Option Int)
def mO0:MO:=fun _ S=>.ok none S
def abY:AV → Sto → Res (Option Int)
 | .pv (.int i),S=>.ok (some i) S
 | _,_=>.fail
def mO1 (m:ME):MO:=fun ρ S=>(m ρ S).bind abY
abbrev RO:Ph → Hp → Option Int → Option Int → Prop:=fun _ _ a b=>a = b
variable (K cl E X)
def POp (e:Option Expr) (m:MO):Prop:=X.K = K → PO X e (tP K cl E RO m)
variable {K cl E X}
theorem PO.imp {e:Option Expr} {t t':TO} (h:PO X e t) (i:∀ σ H Q,t' σ H Q → t σ H Q):PO X e t':=fun pins s σ H Q I q=>h pins s σ H Q I (i σ H Q q)
theorem abD:POp K cl E X none mO0:=fun _=>PO.imp anH fun σ H Q ⟨p,S,ρ,s,e,h⟩=>abd.ret (R:=RO) h s rfl
theorem abm (h:PEp K cl E X e m):POp K cl E X (some e) (mO1 m):=by
 intro hK
 subst hK
 refine PO.imp (anw (h rfl)) fun σ H Q ⟨p,S,ρ,s,e,h⟩=>?_
 refine aaO s e h fun q H1 a x S1 st s1 e1 r1 h1=>?_
 unfold abY at h1
 split at h1
 ·rename_i i
  exact ⟨i,(show RepR X.K q H1 (.int i) x from .inl r1).int,abd.ret (R:=RO) h1 s1 rfl⟩
 ·exact h1.elim
def cutP (xs:List PV) (lo hi:Option Int):List PV:=(xs.drop (HT.sIx xs.length 0 lo)).take (HT.sIx xs.length xs.length hi - HT.sIx xs.length 0 lo)
def fSl (v:PV) (lo hi:Option Int):Option PV:=match v with
 | .lst xs=>some (.lst (cutP xs lo hi))
 | .tup xs=>if HT.sIx xs.length 0 lo = 0 ∧ HT.sIx xs.length xs.length hi = xs.length then none else some (.tup (cutP xs lo hi))
 | _=>none
def mSl (m:ME) (ml mh:MO):ME:=fun ρ S=>(m ρ S).bind fun v S1=>(ml ρ S1).bind fun lo S2=>(mh ρ S2).bind fun hi S3=>okO ((rd S3 v).bind fun x=>fSl x lo hi) S3
theorem aii {c:Addr → Prop} {H:Hp} {xs:List PV} {vs:List V} {lo hi:Option Int} (r:Reps K c H xs vs):Reps K c H (cutP xs lo hi) (cutV vs lo hi):=by
 unfold cutP cutV
 rw [← r.length]
 exact (r.drop _).take _
theorem adB {lo hi:Option Expr} {ml mh:MO} (he:PEp K cl E X e m) (hl:POp K cl E X lo ml) (hu:POp K cl E X hi mh):PEp K cl E X (.Subscript e (.Slice lo hi none p2) pos) (mSl m ml mh):=by
 intro hK
 subst hK
 refine (alP (SlR.or amW aom) (he rfl) (hl rfl) (hu rfl)).imp fun σ H Q ⟨p,S,ρ,s,e,h⟩=>?_
 refine aaO s e h fun q H1 a x S1 st s1 e1 r1 h1=>aaO s1 e1 h1 fun q2 H2 lo lo' S2 st2 s2 e2 r2 h2=>aaO s2 e2 h2 fun q3 H3 hi hi' S3 st3 s3 e3 r3 h3=>?_
 cases r2
 cases r3
 have ra:=st3.repA (st2.repA r1)
 obtain ⟨c,ec,k⟩:=afq s3 h3
 cases z:rd S3 a with
 | none=>rw [z] at ec; cases ec
 | some v =>
  rw [z] at ec
  have rv:=agN s3 ra z
  cases v with
  | lst xs =>
   have ec:some (PV.lst (cutP xs lo hi)) = some c:=ec
   cases ec
   obtain ⟨a1,vs,rfl,l1,z1,r1⟩:=rv.lst
   exact .inl ⟨a1,vs,rfl,l1,fun t ht=>k _ _ (abM ht) (aeq s3 (aii r1) (Nat.le_trans (ac4 vs lo hi) z1) ht)⟩
  | tup xs =>
   obtain ⟨a1,vs,rfl,l1,z1,r1⟩:=rv.tup
   have ec:(if HT.sIx xs.length 0 lo = 0 ∧ HT.sIx xs.length xs.length hi = xs.length then none else some (PV.tup (cutP xs lo hi))) = some c:=ec
   split at ec
   ·cases ec
   ·rename_i hw
    cases ec
    rw [r1.length] at hw
    exact .inr ⟨a1,vs,rfl,l1,hw,fun t ht=>k _ _ (abM ht) (aek s3 (aii r1) (Nat.le_trans (ac4 vs lo hi) z1) ht)⟩
  | _=>cases ec
theorem aa5 {id:String} {r:List V → Hp → VK → Prop} {f:List PV → Option PV} {x:Str} {p:Pos} (hc:ad4 X (.builtin id) r) (hf:CaR X.K r f) (hg:Gl X x) (hm:X.mg x = none) (hv:bootBuiltins x = some (.builtin id)) (ha:PAp K cl E X (e :: es) ms) (hn:x ≠ "__name__":=by decide) (hdb:(x == ("__debug__":Str)) = false:=by decide)
  (he:starEach (e :: es) X.env = (false,eval e X.env) :: starEach es X.env:=by rfl) (hpl:(backTo pos (starEach es X.env)).any (·.1) = false:=by rfl):PEp K cl E X (.Call (.Name x p) (e :: es) [] pos) (mR f ms):=by
 intro hK
 subst hK
 refine PE.imp (agq hc hg hm hv (ha rfl) hn hdb he hpl) fun σ H Q ⟨p,S,ρ,s,ev,h⟩=>?_
 exact aaO s ev h fun q H' as xs S' stp sm ev r k=>ag1 hf sm r k
theorem abw {T:String} {r:List V → Hp → VK → Prop} {f:List PV → Option PV} {x:Str} {p:Pos} (hc:ad4 X (.type T) r) (hf:CaR X.K r f) (hg:Gl X x) (hm:X.mg x = none) (hv:bootBuiltins x = some (.type T)) (ha:PAp K cl E X (e :: es) ms) (hn:x ≠ "__name__":=by decide) (hdb:(x == ("__debug__":Str)) = false:=by decide)
  (he:starEach (e :: es) X.env = (false,eval e X.env) :: starEach es X.env:=by rfl) (hpl:(backTo pos (starEach es X.env)).any (·.1) = false:=by rfl):PEp K cl E X (.Call (.Name x p) (e :: es) [] pos) (mR f ms):=by
 intro hK
 subst hK
 refine PE.imp (ae7 hc hg hm hv (ha rfl) hn hdb he hpl) fun σ H Q ⟨p,S,ρ,s,ev,h⟩=>?_
 exact aaO s ev h fun q H' as xs S' stp sm ev r k=>ag1 hf sm r k
def fLen:List PV → Option PV
 | [.lst xs]=>some (.int xs.length)
 | [.tup xs]=>some (.int xs.length)
 | _=>none
theorem ae3:CaR K (fun xs H Q=>∃ p ys,xs = [.ref p] ∧ (SqL K H p ys ∨ SqT K H p ys) ∧ Q (.int ys.length) H) fLen:=fun {p S H as c xs Q} s ra e k=>by
 unfold fLen at e
 split at e
 ·rename_i zs
  cases e
  cases ra with
  | cons h t =>
   cases t
   obtain ⟨a,vs,rfl,l,z,r⟩:=h.lst
   refine ⟨a,vs,rfl,.inl l,?_⟩
   rw [← r.length]
   exact k H _ (Same.refl H) (abL (v:=.int zs.length) rfl)
 ·rename_i zs
  cases e
  cases ra with
  | cons h t =>
   cases t
   obtain ⟨a,vs,rfl,l,z,r⟩:=h.tup
   refine ⟨a,vs,rfl,.inr l,?_⟩
   rw [← r.length]
   exact k H _ (Same.refl H) (abL (v:=.int zs.length) rfl)
 ·cases e
def fAbs:List PV → Option PV
 | [.int i]=>some (.int (if i < 0 then -i else i))
 | _=>none
theorem anr:CaR K (fun xs H Q=>∃ i,xs = [.int i] ∧ Q (.int (if i < 0 then -i else i)) H) fAbs:=fun {p S H as c xs Q} s ra e k=>by
 unfold fAbs at e
 split at e
 ·rename_i i
  cases e
  cases ra with
  | cons h t =>
   cases t
   cases h.int
   exact ⟨i,rfl,k H _ (Same.refl H) (abL (v:=.int _) rfl)⟩
 ·cases e
def aam:List PV → Option PV
 | [.lst xs]=>some (.tup xs)
 | [.tup xs]=>some (.tup xs)
 | _=>none
theorem adI:CaR K (fun xs H Q=>∃ p ys,xs = [.ref p] ∧ ((SqL K H p ys ∧ ∀ l,H l = none → Q (.ref l) (upd H l (.tup ys))) ∨ (SqT K H p ys ∧ Q (.ref p) H))) aam:=fun {p S H as c xs Q} s ra e k=>by
 unfold aam at e
 split at e
 ·rename_i zs
  cases e
  cases ra with
  | cons h t =>
   cases t
   obtain ⟨a,vs,rfl,l,z,r⟩:=h.lst
   exact ⟨a,vs,rfl,.inl ⟨l,fun t ht=>k _ _ (abM ht) (aek s r z ht)⟩⟩
 ·rename_i zs
  cases e
  cases ra with
  | cons h t =>
   cases t
   obtain ⟨a,vs,rfl,l,z,r⟩:=h.tup
   refine ⟨a,vs,rfl,.inr ⟨l,k H _ (Same.refl H) ?_⟩⟩
   unfold Rep
   exact ⟨a,vs,rfl,l,z,r⟩
 ·cases e
def aal:List PV → Option PV
 | [.lst xs]=>some (.lst xs)
 | [.tup xs]=>some (.lst xs)
 | _=>none
theorem agc:CaR K (fun xs H Q=>∃ p ys,xs = [.ref p] ∧ (SqL K H p ys ∨ SqT K H p ys) ∧ ∀ l,H l = none → Q (.ref l) (upd H l (.lst ys))) aal:=fun {p S H as c xs Q} s ra e k=>by
 unfold aal at e
 split at e
 ·rename_i zs
  cases e
  cases ra with
  | cons h t =>
   cases t
   obtain ⟨a,vs,rfl,l,z,r⟩:=h.lst
   exact ⟨a,vs,rfl,.inl l,fun t ht=>k _ _ (abM ht) (aeq s r z ht)⟩
 ·rename_i zs
  cases e
  cases ra with
  | cons h t =>
   cases t
   obtain ⟨a,vs,rfl,l,z,r⟩:=h.tup
   exact ⟨a,vs,rfl,.inr l,fun t ht=>k _ _ (abM ht) (aeq s r z ht)⟩
 ·cases e
def afu:List PV → Option (List Bool)
 | []=>some []
 | .bl b :: r=>match afu r with
  | some bs=>some (b :: bs)
  | none=>none
 | _ :: _=>none
def fAll:List PV → Option PV
 | [.lst xs]=>(afu xs).map fun bs=>.bl (bs.all id)
 | _=>none
theorem aig {c:Addr → Prop} {H:Hp}:∀ {xs:List PV} {bs:List Bool} {vs:List V},afu xs = some bs → Reps K c H xs vs → vs = bs.map V.bl
 | [],bs,vs,e,r=>by
  cases e
  unfold Reps at r
  exact r
 | .bl b :: xs,bs,vs,e,r=>by
  unfold afu at e
  split at e
  ·rename_i cs h
   cases e
   unfold Reps at r
   obtain ⟨v,w,rfl,r1,r2⟩:=r
   unfold Rep at r1
   rw [r1,aig h r2]
   rfl
  ·cases e
 | .non :: _,_,_,e,_=>by cases e
 | .int _ :: _,_,_,e,_=>by cases e
 | .str _ :: _,_,_,e,_=>by cases e
 | .tup _ :: _,_,_,e,_=>by cases e
 | .lst _ :: _,_,_,e,_=>by cases e
theorem amY:CaR K (fun xs H Q=>∃ (a:Addr) (bs:List Bool),xs = [.ref a] ∧ SqL K H a (bs.map V.bl) ∧ Q (.bl (bs.all id)) H) fAll:=fun {p S H as c xs Q} s ra e k=>by
 unfold fAll at e
 split at e
 ·rename_i zs
  cases y:afu zs with
  | none=>rw [y] at e; cases e
  | some bs =>
   rw [y] at e
   cases e
   cases ra with
   | cons h t =>
    cases t
    obtain ⟨a,vs,rfl,l,z,r⟩:=h.lst
    rw [aig y r] at l
    exact ⟨a,bs,rfl,l,k H _ (Same.refl H) (abL (v:=.bl _) rfl)⟩
 ·cases e
def fInt:List PV → Option PV
 | [.int i]=>some (.int i)
 | [.bl b]=>some (.int (if b then 1 else 0))
 | _=>none
theorem ao7:CaR K (fun xs H Q=>(∃ i,xs = [.int i] ∧ Q (.int i) H) ∨ ∃ k,xs = [.bl k] ∧ Q (.int (if k then 1 else 0)) H) fInt:=fun {p S H as c xs Q} s ra e k=>by
 unfold fInt at e
 split at e
 ·rename_i i
  cases e
  cases ra with
  | cons h t =>
   cases t
   cases h.int
   exact .inl ⟨i,rfl,k H _ (Same.refl H) (abL (v:=.int _) rfl)⟩
 ·rename_i i
  cases e
  cases ra with
  | cons h t =>
   cases t
   cases h.bl
   exact .inr ⟨i,rfl,k H _ (Same.refl H) (abL (v:=.int _) rfl)⟩
 ·cases e
end
end L2.Pp
namespace L2.Pp
open PySem PySem.Spec PyProof.Rows Bn
section
variable {K:PySem.W.Frag} {cl:Str → Addr} {E:XK} {X:Cx} {a b c e l tg:Expr} {es:List Expr} {m ma mb:ME} {ms:MA} {pos:Pos} {p q:Ph} {H H':Hp} {S:Sto}
theorem Sim.push (s:Sim K p S H) {D:Addr} {ps:List PV} {vs:List V} (h:H D = none) (l:vs.length ≤ sizeLine) (r:Reps K p.c H ps vs) :
  let q:Ph:=⟨p.f ++ [D],fun a=>p.w a ∨ a = D,fun a=>p.c a ∨ a = D⟩
  Step p H q (upd H D (.lst vs)) ∧ Sim K q (S ++ [.lst ps]) (upd H D (.lst vs)):=by
 intro q
 obtain ⟨st0,sm0⟩:=s.res (D:=D) (o:=.lst vs) h trivial
 have nf0:D ∉ p.f:=fun z=>s.notin h (s.wc D (s.sub D z))
 refine ⟨⟨st0.wc,st0.mu,⟨[D],rfl⟩,st0.mw,st0.mono,fun a x n=>?_,st0.nw,st0.nc,st0.keep⟩,?_,by simp [q,s.len],fun a x=>?_,sm0.wc,sm0.mu,fun k a o e1 e2=>?_⟩
 ·rcases List.mem_append.mp x with z | z
  ·exact absurd z n
  ·have:a = D:=by simpa using z
   rw [this]
   exact h
 ·show (p.f ++ [D]).Nodup
  rw [List.nodup_append]
  refine ⟨s.nd,by simp,fun a ha b hb z=>?_⟩
  have:b = D:=by simpa using hb
  exact nf0 (this ▸ z ▸ ha)
 ·rcases List.mem_append.mp x with z | z
  ·exact .inl (s.sub a z)
  ·exact .inr (by simpa using z)
 ·by_cases hk:k < S.length
  ·have e1':p.f[k]? = some a:=by
    have e1:(p.f ++ [D])[k]? = some a:=e1
    rwa [List.getElem?_append_left (by rw [s.len]; exact hk)] at e1
   rw [List.getElem?_append_left hk] at e2
   refine (s.obj k a o e1' e2).mono (fun vs e=>by rw [aaQ (aaX e h)]; exact e) (fun b w f=>⟨⟨.inl w,fun m=>?_⟩,fun vs e=>by rw [aaQ (aaX e h)]; exact e⟩) fun _ _ r=>st0.reps r
   rcases List.mem_append.mp m with z | z
   ·exact f z
   ·have:b = D:=by simpa using z
    exact s.notin h (this ▸ s.wc b w)
  ·have hk':k = S.length:=by
    have:=(List.getElem?_eq_some_iff.mp e2).1
    simp at this
    omega
   subst hk'
   rw [List.getElem?_append_right (Nat.le_refl _),Nat.sub_self] at e2
   have e1:(p.f ++ [D])[S.length]? = some a:=e1
   rw [← s.len,List.getElem?_append_right (Nat.le_refl _),Nat.sub_self] at e1
   cases e1
   cases e2
   exact ⟨vs,aa6,l,st0.reps r⟩
theorem Sim.write (s:Sim K p S H) {D:Addr} {k:Nat} {ps:List PV} {vs:List V} (h:p.f[k]? = some D) (hk:k < S.length) (l:vs.length ≤ sizeLine) (r:Reps K p.c H ps vs) :
  Step p H p (upd H D (.lst vs)) ∧ Sim K p (S.set k (.lst ps)) (upd H D (.lst vs)):=by
 have w:p.w D:=s.sub D (List.mem_of_getElem? h)
 have st:Step p H p (upd H D (.lst vs)):=⟨s.wc,s.mu,List.prefix_rfl,fun _ h=>h,fun _ h=>h,fun _ h g=>absurd h g,fun _ h g=>absurd h g,fun _ h g=>absurd h g,fun a u e nw=>by
  rw [aaQ (fun z:a = D=>nw (by rw [z]; exact w))]
  exact e⟩
 refine ⟨st,s.nd,by rw [List.length_set]; exact s.len,s.sub,s.wc,fun a x=>?_,fun j a o e1 e2=>?_⟩
 ·by_cases z:a = D
  ·rw [z,aa6]
   exact ⟨_,rfl,trivial⟩
  ·rw [aaQ z]
   exact s.mu a x
 ·by_cases hj:k = j
  ·subst hj
   rw [h] at e1
   cases e1
   rw [List.getElem?_set_self hk] at e2
   cases e2
   exact ⟨vs,aa6,l,st.reps r⟩
  ·rw [List.getElem?_set_ne hj] at e2
   have ne:a ≠ D:=fun q=>hj (adr s.nd h (q ▸ e1))
   exact (s.obj j a o e1 e2).mono (fun vs e=>by rw [aaQ ne]; exact e) (fun b w f=>⟨⟨w,f⟩,fun vs e=>by rw [aaQ (fun z:b = D=>f (z ▸ List.mem_of_getElem? h))]; exact e⟩) fun _ _ r=>st.reps r
def ae5 (xs:List AV) (S:Sto):Res AV:=match aaB xs with
 | some vs=>if vs.length ≤ 16777216 then .ok (.ref S.length) (S ++ [.lst vs]) else .fail
 | none=>.fail
def mNew (ms:MA):ME:=fun ρ S=>(ms ρ S).bind ae5
theorem ac5 (h:PAp K cl E X es ms):PEp K cl E X (.List es pos) (mNew ms):=by
 intro hK
 subst hK
 refine (akf (h rfl)).imp fun σ H Q ⟨p,S,ρ,s,e,h⟩=>?_
 refine aaO s e h fun q H1 as xs S1 st s1 e1 r1 h1=>?_
 unfold ae5 at h1
 split at h1
 ·rename_i vs hv
  split at h1
  ·rename_i hl
   have r:=aej hv r1
   rw [r.length,← abb] at hl
   refine ⟨hl,fun t ht=>?_⟩
   obtain ⟨st2,sm2⟩:=s1.push ht hl r
   exact h1 _ _ (.ref t) st2 sm2 ⟨t,by show (q.f ++ [t])[S1.length]? = some t; rw [← s1.len,List.getElem?_append_right (Nat.le_refl _),Nat.sub_self]; rfl,rfl⟩
  ·exact h1.elim
 ·exact h1.elim
def aed (k:Nat) (ys:List AV) (S:Sto):Res AV:=match ys with
 | [.pv y]=>match S[k]? with
  | some (.lst xs)=>if xs.length < 16777216 then .ok (.pv .non) (S.set k (.lst (xs ++ [y]))) else .fail
  | _=>.fail
 | _=>.fail
def acM {α:Type} (k:AV) (f:Nat → Res α):Res α:=match k with
 | .ref k=>f k
 | _=>.fail
def mApp (m:ME) (ms:MA):ME:=fun ρ S=>(m ρ S).bind fun k S1=>acM k fun k=>(ms ρ S1).bind fun ys S2=>aed k ys S2
theorem ahx {k:Nat} {x:V} (s:Sim K p S H) (r:RepA K p H (.ref k) x):tyV K "list" x H:=by
 obtain ⟨a,e,rfl⟩:=r
 have hk:k < S.length:=by
  have:=(List.getElem?_eq_some_iff.mp e).1
  rw [← s.len]
  exact this
 have z:=s.obj k a S[k] e (List.getElem?_eq_getElem hk)
 cases y:S[k] with
 | lst xs =>
  rw [y] at z
  obtain ⟨vs,h,_⟩:=z
  exact .inl ⟨rfl,vs,SqL.of h⟩
 | lol xss =>
  rw [y] at z
  obtain ⟨bs,h,_⟩:=z
  exact .inl ⟨rfl,_,SqL.of h⟩
theorem abU {apos cpos:Pos} (ho:PEp K cl E X a m) (ha:PAp K cl E X [e] ms) (hbase:attributeBase a "append" X.env (eval a X.env) = eval a X.env:=by rfl)
  (hfew:((backTo cpos (starEach [e] X.env)).all (fun x=>!x.1) && (backToKw cpos (keywordEach [] X.env)).all (fun x=>x.1.isSome) && decide (([e]:List Expr).length + ([]:List Keyword).length + (if ([]:List Keyword).isEmpty then 0 else 1) < 30)) = true:=by rfl)
  (hline:(apos.endLine == cpos.line) = true:=by rfl) (hs:starEach [e] X.env = [(false,eval e X.env)]:=by rfl):PEp K cl E X (.Call (.Attribute a "append" apos) [e] [] cpos) (mApp m ms):=by
 intro hK
 subst hK
 refine PE.imp (am8 PySem.F.plainAttrs_list PySem.F.slot_list_append PySem.F.type_list_append adV (ho rfl) (ha rfl) hbase hfew hline hs rfl) fun σ H Q ⟨p,S,ρ,s,ev,h⟩=>?_
 refine aaO s ev h fun q H1 k x S1 st s1 e1 r1 h1=>?_
 cases k with
 | pv v=>exact h1.elim
 | ref k =>
  refine ⟨ahx s1 r1,aaO s1 e1 h1 fun q2 H2 ys xs S2 st2 s2 e2 r2 h2=>?_⟩
  obtain ⟨a,ea,rfl⟩:=st2.repA r1
  unfold aed at h2
  split at h2
  ·rename_i y
   cases r2 with
   | cons r3 r4 =>
    cases r4
    rename_i x
    cases z:S2[k]? with
    | none=>rw [z] at h2; exact h2.elim
    | some o =>
     cases o with
     | lol xss=>simp only [z] at h2; exact h2.elim
     | lst zs =>
      simp only [z] at h2
      obtain ⟨vs,h3,l3,r4⟩:=s2.obj k a _ ea z
      split at h2
      ·rename_i hl
       rw [r4.length] at hl
       have hz:=abb
       refine ⟨a,vs,x,rfl,rfl,h3,by omega,?_⟩
       obtain ⟨st3,sm3⟩:=s2.write ea (List.getElem?_eq_some_iff.mp z).1 (ps:=zs ++ [y]) (vs:=vs ++ [x]) (by rw [List.length_append,List.length_singleton]; omega) (r4.append (.cons r3 .nil))
       exact h2 _ _ .non st3 sm3 (by show Rep X.K q2.c (upd H2 a (.lst (vs ++ [x]))) .non .non; unfold Rep; rfl)
      ·exact h2.elim
  ·exact h2.elim
def akK (k:Nat) (ys:List AV) (S:Sto):Res AV:=match ys with
 | [.pv (.int i)]=>if -9223372036854775808 ≤ i ∧ i < 9223372036854775808 then (match S[k]? with
  | some (.lst xs)=>match seqIndex? i xs.length with
   | some j=>match xs[j]? with
    | some v=>.ok (.pv v) (S.set k (.lst (xs.eraseIdx j)))
    | none=>.fail
   | none=>.fail
  | _=>.fail) else .fail
 | _=>.fail
def mPop (m:ME) (ms:MA):ME:=fun ρ S=>(m ρ S).bind fun k S1=>acM k fun k=>(ms ρ S1).bind fun ys S2=>akK k ys S2
theorem amk {apos cpos:Pos} (ho:PEp K cl E X a m) (ha:PAp K cl E X [e] ms) (hbase:attributeBase a "pop" X.env (eval a X.env) = eval a X.env:=by rfl)
  (hfew:((backTo cpos (starEach [e] X.env)).all (fun x=>!x.1) && (backToKw cpos (keywordEach [] X.env)).all (fun x=>x.1.isSome) && decide (([e]:List Expr).length + ([]:List Keyword).length + (if ([]:List Keyword).isEmpty then 0 else 1) < 30)) = true:=by rfl)
  (hline:(apos.endLine == cpos.line) = true:=by rfl) (hs:starEach [e] X.env = [(false,eval e X.env)]:=by rfl):PEp K cl E X (.Call (.Attribute a "pop" apos) [e] [] cpos) (mPop m ms):=by
 intro hK
 subst hK
 refine PE.imp (am8 PySem.F.plainAttrs_list PySem.F.slot_list_pop PySem.F.type_list_pop al3 (ho rfl) (ha rfl) hbase hfew hline hs rfl) fun σ H Q ⟨p,S,ρ,s,ev,h⟩=>?_
 refine aaO s ev h fun q H1 k x S1 st s1 e1 r1 h1=>?_
 cases k with
 | pv v=>exact h1.elim
 | ref k =>
  refine ⟨ahx s1 r1,aaO s1 e1 h1 fun q2 H2 ys xs S2 st2 s2 e2 r2 h2=>?_⟩
  obtain ⟨a,ea,rfl⟩:=st2.repA r1
  unfold akK at h2
  split at h2
  ·rename_i i
   cases r2 with
   | cons r3 r4 =>
    cases r4
    rename_i x
    have ex:x = .int i:=(show RepR X.K q2 H2 (.int i) x from .inl r3).int
    subst ex
    split at h2
    ·rename_i hi
     cases z:S2[k]? with
     | none=>rw [z] at h2; exact h2.elim
     | some o =>
      cases o with
      | lol xss=>simp only [z] at h2; exact h2.elim
      | lst zs =>
       simp only [z] at h2
       obtain ⟨vs,h3,l3,r4⟩:=s2.obj k a _ ea z
       cases y:seqIndex? i zs.length with
       | none=>simp only [y] at h2; exact h2.elim
       | some j =>
        simp only [y] at h2
        cases yv:zs[j]? with
        | none=>simp only [yv] at h2; exact h2.elim
        | some v =>
         simp only [yv] at h2
         obtain ⟨u,eu,ru⟩:=r4.get yv
         refine ⟨a,vs,i,j,u,rfl,rfl,h3,hi.1,hi.2,by rw [← r4.length]; exact y,eu,?_⟩
         obtain ⟨st3,sm3⟩:=s2.write ea (List.getElem?_eq_some_iff.mp z).1 (ps:=zs.eraseIdx j) (vs:=vs.eraseIdx j) (Nat.le_trans (aeY vs j) l3) (r4.eraseIdx j)
         exact h2 _ _ u st3 sm3 (st3.rep ru)
    ·exact h2.elim
  ·exact h2.elim
def ahG (k:Nat) (i:AV) (v:AV) (S:Sto):Res Unit:=match i,v with
 | .pv (.int i),.pv v=>match S[k]? with
  | some (.lst xs)=>match ixN xs.length i with
   | some j=>.ok () (S.set k (.lst (xs.set j v)))
   | none=>.fail
  | _=>.fail
 | _,_=>.fail
def adg (mo mi mv:ME):MS:=fun ρ S=>SRes.of (mv ρ S) fun v S1=>SRes.of (mo ρ S1) fun k S2=>SRes.of (mi ρ S2) fun i S3=>SRes.of (acM k fun k=>ahG k i v S3) fun _ S4=>.nx ρ S4
theorem adX {o i v:Expr} {mo mi mv:ME} {tpos:Pos} (hv:PEp K cl E X v mv) (ho:PEp K cl E X o mo) (hi:PEp K cl E X i mi)
  (ha:∀ v,assign (.Subscript o i tpos) X.env v = (do
   let ov ← holding [v] (eval o X.env)
   let iv ← holding [v,ov] (eval i X.env)
   standAt tpos
   holding [v,ov,iv] (setItem ov iv v)
   release [v,ov,iv] []):=by intro _; rfl)
  (hs:swapsWithSole [.Subscript o i tpos] v pos.line X.env = pure false:=by rfl) (hw:swappedStores [.Subscript o i tpos] v X.env = pure none:=by rfl)
  (h1:(assignEach [.Subscript o i tpos] X.env).map (·.2) = [assign (.Subscript o i tpos) X.env]:=by rfl):PSp K cl E X (.Assign [.Subscript o i tpos] v pos) (adg mo mi mv):=by
 intro hK
 subst hK
 refine PS.imp (ami (hv rfl) (amu (ho rfl) (hi rfl) ah8 ha) hs hw h1) fun D σ H ⟨p,S,ρ,s,ev,h⟩=>?_
 refine acr s ev h fun q H1 v x S1 st s1 e1 r1 h1=>?_
 refine acr s1 e1 h1 fun q2 H2 k y S2 st2 s2 e2 r2 h2=>?_
 refine acr s2 e2 h2 fun q3 H3 i z S3 st3 s3 e3 r3 h3=>?_
 cases k with
 | pv _=>exact h3.elim
 | ref k =>
  obtain ⟨a,ea,rfl⟩:=st3.repA r2
  have rv:=st3.repA (st2.repA r1)
  have h3:ab0 X.K cl q3 H3 (SRes.of (ahG k i v S3) fun _ S4=>.nx ρ S4) D E:=h3
  unfold ahG at h3
  split at h3
  ·rename_i ii vv _
   have ez:z = .int ii:=(show RepR X.K q3 H3 (.int ii) z from .inl r3).int
   subst ez
   cases w:S3[k]? with
   | none=>rw [w] at h3; exact h3.elim
   | some o =>
    cases o with
    | lol xss=>simp only [w] at h3; exact h3.elim
    | lst zs =>
     simp only [w] at h3
     obtain ⟨vs,hh,ll,rr⟩:=s3.obj k a _ ea w
     cases y:ixN zs.length ii with
     | none=>simp only [y] at h3; exact h3.elim
     | some j =>
      simp only [y] at h3
      refine ⟨a,vs,ii,j,rfl,rfl,hh,by rw [← rr.length]; exact y,?_⟩
      obtain ⟨st4,sm4⟩:=s3.write ea (List.getElem?_eq_some_iff.mp w).1 (ps:=zs.set j vv) (vs:=vs.set j x) (by rw [List.length_set]; exact ll) (Reps.set rv j rr)
      exact h3 _ _ _ st4 sm4 (st4.repE e3)
  ·exact h3.elim
def zipP:List PV → List PV → List PV
 | x :: xs,y :: ys=>.tup [x,y] :: zipP xs ys
 | _,_=>[]
theorem ago:∀ (xs ys:List PV),(zipP xs ys).length = min xs.length ys.length
 | [],ys=>by cases ys <;> simp [zipP]
 | x :: xs,[]=>by simp [zipP]
 | x :: xs,y :: ys=>by
  unfold zipP
  rw [List.length_cons,ago xs ys,List.length_cons,List.length_cons]
  omega
theorem aiJ:∀ {xs ys:List PV} {i:Nat} {v:PV},(zipP xs ys)[i]? = some v → ∃ x y,xs[i]? = some x ∧ ys[i]? = some y ∧ v = .tup [x,y]
 | [],ys,i,v,e=>by cases ys <;> simp [zipP] at e
 | x :: xs,[],i,v,e=>by simp [zipP] at e
 | x :: xs,y :: ys,0,v,e=>by
  unfold zipP at e
  simp at e
  exact ⟨x,y,rfl,rfl,e.symm⟩
 | x :: xs,y :: ys,i + 1,v,e=>by
  unfold zipP at e
  obtain ⟨a,b,h1,h2,h3⟩:=aiJ (xs:=xs) (ys:=ys) (i:=i) (v:=v) (by simpa using e)
  exact ⟨a,b,by simpa using h1,by simpa using h2,h3⟩
def afw:List AV → Sto → Res (List PV × Gd)
 | [a,b],S=>match abx a S with
  | .ok xs _=>match abx b S with
   | .ok ys _=>.ok (zipP xs.1 ys.1,xs.2 ++ ys.2) S
   | _=>.fail
  | _=>.fail
 | _,_=>.fail
def mZip (ms:MA):MI:=fun ρ S=>(ms ρ S).bind afw
theorem ahV {a:AV} {x:V} {xs:List PV × Gd} {S':Sto} (s:Sim K p S H) (r:RepA K p H a x) (e:abx a S = .ok xs S'):∃ f ad vs,x = .ref ad ∧ SqF f K H ad vs ∧ xs.1.length ≤ sizeLine ∧ ∀ q H1 S1,Step p H q H1 → Sim K q S1 H1 → gOk xs.2 S1 → ∃ vs,SqF f K H1 ad vs ∧ Reps K q.c H1 xs.1 vs:=by
 cases a with
 | ref j =>
  obtain ⟨a,e1,rfl⟩:=r
  unfold abx at e
  dsimp only at e
  cases z:S[j]? with
  | none=>rw [z] at e; cases e
  | some o =>
   cases o with
   | lol xss=>rw [z] at e; cases e
   | lst ys =>
    rw [z] at e
    cases e
    obtain ⟨vs,h1,l1,r1⟩:=s.obj j a _ e1 z
    refine ⟨false,a,vs,rfl,SqL.of h1,by rw [r1.length]; exact l1,fun q H1 S1 st sm g=>?_⟩
    obtain ⟨ws,h2,l2,r2⟩:=sm.obj j a _ (st.at_ e1) (g (j,ys) List.mem_cons_self)
    exact ⟨ws,SqL.of h2,r2⟩
 | pv v =>
  cases v with
  | lst ys =>
   cases e
   have r:Rep K p.c H (.lst ys) x:=r
   unfold Rep at r
   obtain ⟨a,vs,rfl,l,z,r⟩:=r
   exact ⟨false,a,vs,rfl,l.sq,by rw [r.length]; exact z,fun q H1 S1 st sm g=>⟨vs,(st.lat l).sq,st.reps r⟩⟩
  | tup ys =>
   cases e
   have r:Rep K p.c H (.tup ys) x:=r
   unfold Rep at r
   obtain ⟨a,vs,rfl,l,z,r⟩:=r
   exact ⟨true,a,vs,rfl,l,by rw [r.length]; exact z,fun q H1 S1 st sm g=>⟨vs,st.tup l,st.reps r⟩⟩
  | _=>cases e
theorem aee {elts:List Expr} {x1:Nat} {tp p:Pos} (hg:Gl X "zip") (hm:X.mg "zip" = none) (hl:PAp K cl E X [a,b] ms) (hs:starEach [a,b] X.env = [(false,eval a X.env),(false,eval b X.env)]:=by rfl) (hs2:starEach [b] X.env = [(false,eval b X.env)]:=by rfl) :
  PIp K cl E X (.Tuple elts x1 tp) (.Call (.Name "zip" p) [a,b] [] pos) (mZip ms):=by
 intro hK
 subst hK
 refine PI.imp (aoY hg hm (hl rfl) hs hs2) fun σ H R ⟨p,S,ρ,s,ev,h⟩=>?_
 refine aaO s ev h fun q H' as xs S' stp sm ev r k=>?_
 unfold afw at k
 split at k
 ·rename_i u v
  cases r with
  | cons r1 r2 =>
   cases r2 with
   | cons r2 r3 =>
    cases r3
    split at k
    ·rename_i xs1 S1 hx
     split at k
     ·rename_i ys1 S2 hy
      obtain ⟨f1,a1,vs1,rfl,q1,z1,st1⟩:=ahV sm r1 hx
      obtain ⟨f2,a2,vs2,rfl,q2,z2,st2⟩:=ahV sm r2 hy
      refine ⟨f1,a1,f2,a2,vs1,vs2,rfl,q1,q2,abd.ret (R:=ItOk X.K) k sm ?_⟩
      refine ⟨by rw [ago]; omega,fun q3 H3 S3 st3 sm3 g3=>?_⟩
      obtain ⟨ws1,w1,rr1⟩:=st1 q3 H3 S3 st3 sm3 fun g hg=>g3 g (List.mem_append_left _ hg)
      obtain ⟨ws2,w2,rr2⟩:=st2 q3 H3 S3 st3 sm3 fun g hg=>g3 g (List.mem_append_right _ hg)
      refine ⟨fun i v e=>?_,?_⟩
      ·obtain ⟨x,y,ex,ey,rfl⟩:=aiJ e
       obtain ⟨x',ex',rx⟩:=rr1.get ex
       obtain ⟨y',ey',ry⟩:=rr2.get ey
       refine ⟨⟨ws1,ws2,x',y',w1,w2,ex',ey'⟩,fun z H4 hz=>?_⟩
       obtain ⟨t,x2,y2,ht,rfl,rfl,g1,g2⟩:=hz
       have e1:=(g1 ws1 w1).symm.trans ex'
       have e2:=(g2 ws2 w2).symm.trans ey'
       cases e1
       cases e2
       refine ⟨abM ht,aek sm3 (.cons rx (.cons ry .nil)) (by show 2 ≤ sizeLine; decide) ht⟩
      ·refine ⟨ws1,ws2,w1,w2,?_⟩
       show (zipP xs1.1 ys1.1).length = _ ∨ _
       rw [ago,rr1.length,rr2.length]
       omega
     ·exact k.elim
    ·exact k.elim
 ·exact k.elim
def ad7:Nat → List PV → List PV
 | _,[]=>[]
 | n,x :: xs=>.tup [.int n,x] :: ad7 (n + 1) xs
theorem ae9:∀ (n:Nat) (xs:List PV),(ad7 n xs).length = xs.length
 | _,[]=>rfl
 | n,x :: xs=>by
  unfold ad7
  rw [List.length_cons,ae9 (n + 1) xs,List.length_cons]
theorem agZ:∀ {n:Nat} {xs:List PV} {i:Nat} {v:PV},(ad7 n xs)[i]? = some v → ∃ x,xs[i]? = some x ∧ v = .tup [.int ((n + i:Nat):Int),x]
 | n,[],i,v,e=>by simp [ad7] at e
 | n,x :: xs,0,v,e=>by
  unfold ad7 at e
  simp at e
  exact ⟨x,rfl,e.symm⟩
 | n,x :: xs,i + 1,v,e=>by
  unfold ad7 at e
  obtain ⟨y,h1,h2⟩:=agZ (n:=n + 1) (xs:=xs) (i:=i) (v:=v) (by simpa using e)
  refine ⟨y,by simpa using h1,?_⟩
  rw [h2,show n + 1 + i = n + (i + 1) by omega]
def ajP:List AV → Sto → Res (List PV × Gd)
 | [.pv (.lst xs)],S=>.ok (ad7 0 xs,[]) S
 | [.ref k],S=>match abx (.ref k) S with
  | .ok xs _=>.ok (ad7 0 xs.1,xs.2) S
  | _=>.fail
 | _,_=>.fail
def anR (ms:MA):MI:=fun ρ S=>(ms ρ S).bind ajP
theorem amp {xs:List PV} {G:Gd} {a:Addr} (z:xs.length ≤ sizeLine) (st1:∀ q H1 S1,Step p H q H1 → Sim K q S1 H1 → gOk G S1 → ∃ vs,SqL K H1 a vs ∧ Reps K q.c H1 xs vs):ItOk K p H (ad7 0 xs,G) (Ite K a):=by
 refine ⟨by rw [ae9]; exact z,fun q3 H3 S3 st3 sm3 g3=>?_⟩
 obtain ⟨ws1,w1,rr1⟩:=st1 q3 H3 S3 st3 sm3 g3
 refine ⟨fun i v e=>?_,?_⟩
 ·obtain ⟨x,ex,rfl⟩:=agZ e
  obtain ⟨x',ex',rx⟩:=rr1.get ex
  refine ⟨⟨ws1,x',w1,ex'⟩,fun z H4 hz=>?_⟩
  obtain ⟨t,y2,ht,rfl,rfl,g1⟩:=hz
  have e1:=(g1 ws1 w1).symm.trans ex'
  cases e1
  refine ⟨abM ht,aek sm3 (.cons ?_ (.cons rx .nil)) (by show 2 ≤ sizeLine; decide) ht⟩
  rw [Nat.zero_add]
  exact abL (v:=.int _) rfl
 ·refine ⟨ws1,w1,?_⟩
  show _ ≤ (ad7 0 xs).length
  rw [ae9,rr1.length]
  exact Nat.le_refl _
theorem alV {elts:List Expr} {x1:Nat} {tp p:Pos} (hg:Gl X "enumerate") (hm:X.mg "enumerate" = none) (hl:PAp K cl E X [l] ms) (hs:starEach [l] X.env = [(false,eval l X.env)]:=by rfl) :
  PIp K cl E X (.Tuple elts x1 tp) (.Call (.Name "enumerate" p) [l] [] pos) (anR ms):=by
 intro hK
 subst hK
 refine PI.imp (amT hg hm (hl rfl) hs) fun σ H R ⟨p,S,ρ,s,ev,h⟩=>?_
 refine aaO s ev h fun q H' as xs S' stp sm ev r k=>?_
 unfold ajP at k
 split at k
 ·rename_i ys
  cases r with
  | cons r1 r2 =>
   cases r2
   rename_i x
   have r1:Rep X.K q.c H' (.lst ys) x:=r1
   unfold Rep at r1
   obtain ⟨a,vs,rfl,l,z,r⟩:=r1
   exact ⟨a,rfl,⟨vs,l.sq⟩,abd.ret (R:=ItOk X.K) k sm (amp (by rw [r.length]; exact z) fun q H1 S1 st sm g=>⟨vs,(st.lat l).sq,st.reps r⟩)⟩
 ·rename_i j
  cases r with
  | cons r1 r2 =>
   cases r2
   split at k
   ·rename_i xs1 S1 hx
    obtain ⟨a,e1,rfl⟩:=r1
    cases z:S'[j]? with
    | none=>unfold abx at hx; simp only [z] at hx; cases hx
    | some o =>
     cases o with
     | lol xss=>unfold abx at hx; simp only [z] at hx; cases hx
     | lst ys =>
      unfold abx at hx
      simp only [z] at hx
      cases hx
      obtain ⟨vs,h1,l1,r1⟩:=sm.obj j a _ e1 z
      refine ⟨a,rfl,⟨vs,SqL.of h1⟩,abd.ret (R:=ItOk X.K) k sm (amp (by rw [r1.length]; exact l1) fun q H1 S1 st sm g=>?_)⟩
      obtain ⟨ws,h2,l2,r2⟩:=sm.obj j a _ (st.at_ e1) (g (j,ys) List.mem_cons_self)
      exact ⟨ws,SqL.of h2,r2⟩
   ·exact k.elim
 ·exact k.elim
end
end L2.Pp
namespace L2.Pp
open PySem PySem.Spec PyProof.Rows Bn
theorem hu8 {A:Around} {k:Nat} (hr:Room k A):A.units + 8 < cLine:=by
 have:=hr.units
 omega
section
variable {K:PySem.W.Frag} {cl:Str → Addr} {E:XK} {X:Cx} {a b c e l tg:Expr} {es:List Expr} {m ma mb:ME} {ms:MA} {pos:Pos} {p q:Ph} {H H':Hp} {S:Sto}
def fIsi (n:String):PV → Option PV
 | .int _=>if n = "int" then some (.bl true) else if n = "bool" then some (.bl false) else none
 | .tup _=>if n = "tuple" then some (.bl true) else none
 | .lst _=>if n = "list" then some (.bl true) else none
 | .str _=>if n = "str" then some (.bl true) else none
 | .bl _=>if n = "bool" then some (.bl true) else none
 | _=>none
theorem adZ (K:PySem.W.Frag) (n:String):PySem.W.kitOne K (.type n) (.type n) = some true:=by
 unfold PySem.W.kitOne
 rw [if_pos (beq_self_eq_true _)]
def rIsi (K:PySem.W.Frag) (n:String):V → Hp → VK → Prop:=fun x H Q=>(∃ t b,TyOf K H x t ∧ PySem.W.kitOne K t (.type n) = some b ∧ Q (.bl b) H) ∨ (n = "tuple" ∧ ∃ a xs,x = .ref a ∧ SqT K H a xs ∧ Q (.bl true) H) ∨ (n = "list" ∧ ∃ a xs,x = .ref a ∧ SqL K H a xs ∧ Q (.bl true) H)
theorem aj4 (n:String):ad4 X (.builtin "isinstance") (fun xs H Q=>∃ x,xs = [x,.ty n] ∧ rIsi X.K n x H Q):=by
 intro pins s σ H xs us Q I r h
 obtain ⟨x,rfl,h⟩:=h
 obtain ⟨u,c,rfl,rx,rc⟩:=amQ r
 cases (show c = Value.type n from rc)
 rcases h with ⟨t,b,ty,e,q⟩ | ⟨rfl,a,xs,rfl,t,q⟩ | ⟨rfl,a,xs,rfl,t,q⟩
 ·exact akA I rx ty e fun tk=>⟨.bl b,H,I.tok tk,rfl,q⟩
 ·cases rx
  obtain ⟨its,_,⟨o,h1,h2,_⟩,_⟩:=I.tuple t
  exact PySem.W.kia_one PySem.W.kitx_tuple I.kIn ⟨o,h1,h2⟩ (adZ X.K "tuple") (fun z=>nomatch z) fun tk=>⟨.bl true,H,I.tok tk,rfl,q⟩
 ·cases rx
  obtain ⟨its,_,pl,_⟩:=I.list t
  obtain ⟨o,h1,h2,_⟩:=pl.isList
  exact PySem.W.kia_one PySem.W.kitx_list I.kIn ⟨o,h1,h2⟩ (adZ X.K "list") (fun z=>nomatch z) fun tk=>⟨.bl true,H,I.tok tk,rfl,q⟩
theorem apH (n:String):UnS K (rIsi K n) (fIsi n):=fun {p S H a c x Q} s ra e k=>by
 have fin:∀ b,c = .bl b → Q (.bl b) H:=fun b h=>by
  subst h
  exact k H _ (Same.refl H) (by unfold Rep; rfl)
 cases a with
 | int i =>
  cases ra.int
  unfold fIsi at e
  dsimp only at e
  split at e
  ·rename_i hn
   cases e
   subst hn
   exact .inl ⟨_,true,.int i,adZ K _,fin _ rfl⟩
  ·split at e
   ·rename_i hn
    cases e
    subst hn
    exact .inl ⟨_,false,.int i,aoS K,fin _ rfl⟩
   ·cases e
 | bl i =>
  cases ra.bl
  unfold fIsi at e
  dsimp only at e
  split at e
  ·rename_i hn
   cases e
   subst hn
   exact .inl ⟨_,true,.bl i,adZ K _,fin _ rfl⟩
  ·cases e
 | str i =>
  cases ra.str
  unfold fIsi at e
  dsimp only at e
  split at e
  ·rename_i hn
   cases e
   subst hn
   exact .inl ⟨_,true,.str i,adZ K _,fin _ rfl⟩
  ·cases e
 | tup xs =>
  obtain ⟨a,vs,rfl,t,_,_⟩:=ra.tup
  unfold fIsi at e
  dsimp only at e
  split at e
  ·rename_i hn
   cases e
   exact .inr (.inl ⟨hn,a,vs,rfl,t,fin _ rfl⟩)
  ·cases e
 | lst xs =>
  obtain ⟨a,vs,rfl,t,_,_⟩:=ra.lst
  unfold fIsi at e
  dsimp only at e
  split at e
  ·rename_i hn
   cases e
   exact .inr (.inr ⟨hn,a,vs,rfl,t,fin _ rfl⟩)
  ·cases e
 | non=>cases e
theorem agM {n:String} {t:Str} {p p2:Pos} (hg:Gl X "isinstance") (hm:X.mg "isinstance" = none) (hgt:Gl X t) (hmt:X.mg t = none) (hv:bootBuiltins t = some (.type n)) (ha:PEp K cl E X a m)
  (htn:t ≠ "__name__":=by decide) (htd:(t == ("__debug__":Str)) = false:=by decide)
  (he:starEach [a,.Name t p2] X.env = (false,eval a X.env) :: starEach [.Name t p2] X.env:=by rfl) (he2:starEach [.Name t p2] X.env = [(false,eval (.Name t p2) X.env)]:=by rfl) (hpl:(backTo pos (starEach [.Name t p2] X.env)).any (·.1) = false:=by rfl) :
  PEp K cl E X (.Call (.Name "isinstance" p) [a,.Name t p2] [] pos) (mUn (fIsi n) m):=by
 intro hK
 subst hK
 refine PE.imp (agq (aj4 n) hg hm PyProof.Rows.boot_isinstance (adn (ha rfl) (adn (anI hgt hmt hv (v:=.ty n) rfl htn htd) afF he2) he) (by decide) (by decide) he hpl) fun σ H Q ⟨p,S,ρ,s,ev,h⟩=>?_
 exact aaO s ev h fun q H' as x S' stp sm ev r k=>⟨x,rfl,adU (apH n) sm r k⟩
def fIsN:PV → Option PV
 | .non=>some (.bl true)
 | _=>some (.bl false)
theorem apf {j pos'} (ha:PEp K cl E X a m):PEp K cl E X (.Compare a [.Is] [.Constant .none j pos'] pos) (mUn fIsN m):=by
 intro hK
 subst hK
 refine PE.imp (aph (aoa (ha rfl))) fun σ H Q ⟨p,S,ρ,s,ev,h⟩=>?_
 refine aaO s ev h fun q H' as x S' stp sm ev r k=>?_
 refine adU (r:=fun x H Q=>Q (.bl (decide (x = .non))) H) (f:=fIsN) (fun {p S H a c x Q} s ra e k=>?_) sm r k
 have z:c = .bl (decide (x = .non)):=by
  cases a with
  | non=>cases ra.non; cases e; rfl
  | int i=>cases ra.int; cases e; rfl
  | bl i=>cases ra.bl; cases e; rfl
  | str i=>cases ra.str; cases e; rfl
  | tup xs=>obtain ⟨a,vs,rfl,_⟩:=ra.tup; cases e; rfl
  | lst xs=>obtain ⟨a,vs,rfl,_⟩:=ra.lst; cases e; rfl
 subst z
 exact k H _ (Same.refl H) (by unfold Rep; rfl)
def alT (K:PySem.W.Frag):Sp:=fun vs H Q _=>∃ (a:Addr) (ns:List Int),vs = [.ref a] ∧ SqL K H a (ns.map V.int) ∧ ns.length ≤ 63 ∧ ∀ H',Q (.bl true) H'
theorem amJ {f:FM} (ht:∀ ns:List Int,ns.length ≤ 63 → ∃ S,f [.pv (.lst (ns.map .int))] [] = .ok (.pv (.bl true)) S) {vs:List V} {H:Hp} {Q:VK} {E:XK} (h:alT K vs H Q E):spP0 K cl f vs H Q E:=by
 obtain ⟨a,ns,rfl,hS,hl,hQ⟩:=h
 obtain ⟨S,e⟩:=ht ns hl
 have rs:∀ (ns:List Int),Reps K (fun _=>False) H (ns.map .int) (ns.map V.int):=fun ns=>by
  induction ns with
  | nil=>exact .nil
  | cons n ns ih=>exact .cons (by unfold Rep; rfl) ih
 refine ⟨⟨[],fun _=>False,fun _=>False⟩,[],[.pv (.lst (ns.map .int))],⟨List.nodup_nil,rfl,(fun _ h=>absurd h (List.not_mem_nil)),(fun _ h=>h),(fun _ h=>h.elim),(fun k a o e=>by simp at e)⟩,.cons ?_ .nil,?_⟩
 ·show Rep K (fun _=>False) H (.lst (ns.map .int)) (.ref a)
  unfold Rep
  refine ⟨a,_,rfl,?_,?_,rs ns⟩
  ·rcases hS with (h | h) | h
   ·exact .inl ⟨h,fun z=>z⟩
   ·exact .inr (.inl h)
   ·exact .inr (.inr h)
  ·rw [List.length_map,abb]
   omega
 ·rw [e]
  intro q H' x st sm r
  have r:Rep K q.c H' (.bl true) x:=r
  unfold Rep at r
  rw [r]
  exact hQ H'
end
end L2.Pp
namespace L2.Pp
open PySem PySem.Spec PyProof.Rows Bn
section
variable {K:PySem.W.Frag} {cl:Str → Addr} {E:XK} {X:Cx} {e:Expr} {es:List Expr} {ms:MA} {p q:Ph} {H H':Hp} {S:Sto}
theorem RepE.forget {ρ:Rho} {σ:St} (h:RepE K p H ρ σ) (i:Nat) (x:Option V):RepE K p H (ρ.set i none) (σ.set i x):=by
 refine ⟨by rw [List.length_set,List.length_set,h.len],fun j u e=>?_⟩
 by_cases q:i = j
 ·subst q
  by_cases l:i < ρ.length
  ·rw [List.getElem?_set_self l] at e
   cases e
  ·rw [List.getElem?_eq_none (by rw [List.length_set]; omega)] at e
   cases e
 ·rw [List.getElem?_set_ne q] at e ⊢
  exact h.at_ j u e
theorem RepE.setB {ρ:Rho} {σ:St} (h:RepE K p H ρ σ) (i:Nat) (b:Bool):RepE K p H (ρ.set i (some (.pv (.bl b)))) (σ.set i (some (.bl b))):=h.set (v:=.pv (.bl b)) (x:=.bl b) (by show Rep K p.c H _ _; unfold Rep; rfl) i
variable {k:Nat} {f:Addr} {fd:FuncData} {ps:List Str} {g:FM} {dvs:List V} {ds:List Value} {dv:List PV} {x:Str} {pp pos pos1 pos2 pos3 pc:Pos} {c n:Str} {i nn:Nat} {b₀:Stmt} {body:List Stmt} {newId:String} {up:Rho → Rho}
end
end L2.Pp
namespace L2
open PySem PySem.Spec PyProof.Rows Bn
section
variable {X:Cx} {k:Nat} {f:Addr} {fd:FuncData} {ps:List Str} {sp:Sp} {dvs:List V} {ds:List Value} {x:Str} {p pos pos1 pos2 pos3 pc:Pos} {e:Expr} {es:List Expr} {t:TA} {c n:Str} {C:Addr} {i:Nat} {b₀:Stmt} {body:List Stmt} {newId:String}
theorem anO {jv:Nat} {xv:Str} {posv:Pos} {ts:Addr → Obj → TS} (hxe:X.xe = fun _ _=>False) (stk:X.stack = X.env :: X.outer) (hN:X.N.Nodup) (hi:X.N[i]? = some n) (hk:X.env.scope.names.lookup n = some .local)
  (hgc:Gl X c) (hmc:X.mg c = some (.ref C)) (hxC:PySem.W.excIn X.K C acn newId = true)
  (F:FnOk X.prog X.w X.K X.mg X.base (CX1 X.prog X.w) k f fd ps sp) (hr:Room k X.A) (hg:Gl X x) (hm:X.mg x = some (.ref f)) (hkp:PySem.W.keepIn X.K (.ref f) = true)
  (hb:ac2 X.K fd ps ds) (hd:Vals dvs ds) (ha:PA X (e :: es) t)
  (hjv:X.N[jv]? = some xv) (hxv:Loc X.env.scope xv) (hs:∀ y oe,oe.cls = .ref C → PSs (X.mk1 y [(y,oe)]) (b₀ :: body) (ts y oe))
  (hsw:swapsWith (.Call (.Name x p) (e :: es) [] pos) (some (.Name xv posv)) pos1.line X.env = pure false:=by rfl)
  (hfv:X.fn xv = true ∨ X.env.scope.names.lookup xv = some .local:=by first | exact .inl rfl | exact .inr rfl | assumption)
  (hfr:X.env.frame = some X.env.locals:=by rfl)
  (hdc:(c == ("__debug__":Str)) = false:=by decide) (hdb:(x == ("__debug__":Str)) = false:=by decide) (he:starEach (e :: es) X.env = (false,eval e X.env) :: starEach es X.env:=by rfl) (hpl:(backTo pos (starEach es X.env)).any (·.1) = false:=by rfl) :
  PS X (.Try [.Assign [.Name xv posv] (.Call (.Name x p) (e :: es) [] pos) pos1] [.ExceptHandler (some (.Name c pc)) (some n) (b₀ :: body) pos2] [] [] pos3)
   (fun D σ H=>t σ H fun vs H1=>sp (vs ++ dvs) H1 (fun v H2=>D.nx (σ.set jv (some v)) H2) (fun cls _ H2=>cls = .ref C ∧ ∀ y oe,oe.cls = .ref C → ts y oe { nx:=fun σ' H'=>D.nx (σ'.set i none) H',rt:=D.rt,bk:=fun σ' H'=>D.bk (σ'.set i none) H',ct:=fun σ' H'=>D.ct (σ'.set i none) H' } (σ.set i (some (.ref y))) H2)):=by
 intro pins s σ H D I h
 refine wpAny_Try_except (wpAny_execs_cons (wpAny_Assign_Name (wpAny_mono (ak8 hxe F hr hg hm hkp hb hd ha I h (fun s1 H1 e' s' I1 cx=>?_) hdb he hpl) (fun v s1 q=>?_) fun e' s1 z=>z) hsw))
 rotate_left
 ·obtain ⟨v,H1,I1,rv,q⟩:=q
  exact acF I1 hN hjv hxv rv (fun s2 I2=>wpAny_execs_nil (wpAny_execs_nil ⟨_,H1,I2,q⟩)) hfv
 obtain ⟨y,C',tt,B,H',rfl,os,bare,un,hok,fl,cov,hE⟩:=cx
 obtain ⟨hC',hts⟩:=hE
 cases hC'
 rw [stk] at fl
 have fr:∀ b ∈ frs X.stack,H' b = none:=fun b hb=>by
  obtain ⟨_,o,ho,hd⟩:=I1.stack.mem hb
  exact un.free b o ho (I1.stkFree b hb) (by intro z; cases z)
 have ff:X.A.frames = some (X.env :: X.outer):=by rw [I.ok.frames,stk]
 refine wpAny_looks_onW (base:=B) ff hfr fl fun h2 held up2=>?_
 refine wpAny_landsW (base:=B) held fun h3 fl3 up3=>?_
 have up:=akI up2 up3
 have I3:=I1.flown os bare un hok cov fr fl3.1 up
 refine wpAny_handleBy_cons ?_ (by intro z; cases z)
 refine codeAny_handlers_test (ae1 (X:=X.mk1 y []) (I3.mk1 y [] fun p hp=>nomatch hp) hgc hmc ?_ hdc)
 obtain ⟨bm,Nn,nm,qn,bs,hdct,sn,sub,ab,col,dd,k0,k1,k2,k3,k5,mN,hC,hNs,hni,T⟩:=akD I.ok.mod.kin hxC
 obtain ⟨oe,vs,TT,oT,tts,hoe,⟨hcls,_⟩,hdat,_⟩:=fl3.2.2.2
 refine wpAny_excMatches_sub_self (I3.bk _ _ hC) hoe hcls (T.hasType (by decide)) ?_
 refine codeAny_handlers_suite_as (lands_againW (base:=B) fl3 fun h4 fl4 up4=>?_)
 have I4:=I1.flown os bare un hok cov fr fl4.1 (akI up up4)
 obtain ⟨oe,vs,TT,oT,tts,hoe,⟨hcls,_⟩,hdat,_⟩:=fl4.2.2.2
 have I5:Inv (X.mk1 y [(y,oe)]) pins σ H' _:=I4.mk1 y [(y,oe)] fun p hp=>by
  rw [List.mem_singleton] at hp
  subst hp
  have nfr:y ∉ frs X.stack:=fun z=>by
   obtain ⟨_,o,ho,hd⟩:=I4.stack.mem z
   have hoe':h4.get? y = some oe:=hoe
   have ho':h4.get? y = some o:=ho
   rw [hoe'] at ho'
   cases ho'
   exact hd vs hdat
  refine ⟨hoe,?_,?_,?_,fun v z=>?_⟩
  ·cases hq:H' y with
   | none=>rfl
   | some u =>
    obtain ⟨o2,g⟩:=(hok y u hq).has
    have:=cov y o2 g (.inl ⟨u,hq⟩)
    rw [fl4.2.1] at this
    cases this
  ·intro z
   refine nfr ?_
   rw [stk]
   exact List.mem_filterMap.mpr ⟨X.env,List.mem_cons_self,by rw [hfr]; exact congrArg some z.symm⟩
  ·intro z
   refine nfr ?_
   rw [stk]
   obtain ⟨env,hm,hq⟩:=List.mem_filterMap.mp z
   exact List.mem_filterMap.mpr ⟨env,List.mem_cons_of_mem _ hm,hq⟩
  ·have:oe.data = .cell v:=z
   rw [hdat] at this
   cases this
 refine acF (X:=X.mk1 y [(y,oe)]) (v:=.ref y) I5 hN hi (.inl hk) rfl (fun s6 I6=>?_) (.inr hk)
 refine wpAny_mono (hs y oe hcls pins s6 _ H' _ I6 (hts y oe hcls)) (fun fl s7 q7=>?_) fun _ _ z=>False.elim z
 cases fl with
 | next=>obtain ⟨σ',H7,I7,q⟩:=q7; exact ada (I7.unmk1 I.ok) hN hi hk fun s8 I8=>⟨_,_,I8,q⟩
 | brk=>obtain ⟨σ',H7,I7,q⟩:=q7; exact ada (I7.unmk1 I.ok) hN hi hk fun s8 I8=>⟨_,_,I8,q⟩
 | cont=>obtain ⟨σ',H7,I7,q⟩:=q7; exact ada (I7.unmk1 I.ok) hN hi hk fun s8 I8=>⟨_,_,I8,q⟩
 | ret u=>obtain ⟨v,σ',H7,I7,r,q⟩:=q7; exact ada (I7.unmk1 I.ok) hN hi hk fun s8 I8=>⟨v,_,_,I8,r,q⟩
end
end L2
namespace L2.Pp
open PySem PySem.Spec PyProof.Rows Bn
section
variable {K:PySem.W.Frag} {cl:Str → Addr} {E:XK} {X:Cx} {e:Expr} {es:List Expr} {ms:MA} {p q:Ph} {H H':Hp} {S:Sto}
def aiS (f:FM) (ds:List PV) (ms:MA) (c:Str) (nn j:Nat) (up:Rho → Rho):MS:=fun ρ S=>if ρ.length = nn then (match ms ρ S with
 | .ok xs S1=>match f (xs ++ ds.map .pv) S1 with
  | .ok v S2=>.nx (ρ.set j (some v)) S2
  | .exc n S2=>if n = c then .nx (up ρ) S2 else .fail
  | .fail=>.fail
 | _=>.fail) else .fail
variable {k:Nat} {f:Addr} {fd:FuncData} {ps:List Str} {g:FM} {dvs:List V} {ds:List Value} {dv:List PV} {x:Str} {pp pos pos1 pos2 pos3 pc:Pos} {c n:Str} {i nn:Nat} {b₀:Stmt} {body:List Stmt} {newId:String} {up:Rho → Rho}
theorem alK {jv:Nat} {xv:Str} {posv:Pos} {ts:Addr → Obj → TS} (hxe:X.xe = fun _ _=>False) (stk:X.stack = X.env :: X.outer) (hN:X.N.Nodup) (hi:X.N[i]? = some n) (hk:X.env.scope.names.lookup n = some .local)
  (hgc:Gl X c) (hmc:X.mg c = some (.ref (cl c))) (hxC:PySem.W.excIn X.K (cl c) acn newId = true)
  (F:FnOk X.prog X.w X.K X.mg X.base (CX1 X.prog X.w) k f fd ps (spP K cl g)) (hr:Room k X.A) (hg:Gl X x) (hm:X.mg x = some (.ref f)) (hkp:PySem.W.keepIn X.K (.ref f) = true)
  (hb:ac2 X.K fd ps ds) (hd:Vals dvs ds) (hv:Dv dv dvs) (ha:PAp K cl E0 X (e :: es) ms)
  (hjv:X.N[jv]? = some xv) (hxv:Loc X.env.scope xv) (hs:∀ y oe,oe.cls = .ref (cl c) → PSs (X.mk1 y [(y,oe)]) (b₀ :: body) (ts y oe))
  (hts:∀ (y:Addr) (oe:Obj) (D:Ends) (σ:St) (H:Hp) (p:Ph) (ρ:Rho),σ.length = nn → RepE K p H ρ σ → (∀ σ',RepE K p H (up ρ) σ' → D.nx σ' H) →
   ts y oe { nx:=fun σ' H'=>D.nx (σ'.set i none) H',rt:=D.rt,bk:=fun σ' H'=>D.bk (σ'.set i none) H',ct:=fun σ' H'=>D.ct (σ'.set i none) H' } (σ.set i (some (.ref y))) H)
  (hsw:swapsWith (.Call (.Name x pp) (e :: es) [] pos) (some (.Name xv posv)) pos1.line X.env = pure false:=by rfl)
  (hfv:X.fn xv = true ∨ X.env.scope.names.lookup xv = some .local:=by first | exact .inl rfl | exact .inr rfl | assumption)
  (hfr:X.env.frame = some X.env.locals:=by rfl)
  (hdc:(c == ("__debug__":Str)) = false:=by decide) (hdb:(x == ("__debug__":Str)) = false:=by decide) (he:starEach (e :: es) X.env = (false,eval e X.env) :: starEach es X.env:=by rfl) (hpl:(backTo pos (starEach es X.env)).any (·.1) = false:=by rfl) :
  PSp K cl E0 X (.Try [.Assign [.Name xv posv] (.Call (.Name x pp) (e :: es) [] pos) pos1] [.ExceptHandler (some (.Name c pc)) (some n) (b₀ :: body) pos2] [] [] pos3) (aiS g dv ms c nn jv up):=by
 intro hK
 refine PS.imp (anO hxe stk hN hi hk hgc hmc hxC F hr hg hm hkp hb hd (ha hK) hjv hxv hs hsw hfv hfr hdc hdb he hpl) fun D σ H ⟨p,S,ρ,s,ev,h⟩=>?_
 unfold aiS at h
 split at h
 ·rename_i hl
  refine ⟨p,S,ρ,s,ev,?_⟩
  cases z:ms ρ S with
  | ok xs S1 =>
   simp only [z] at h
   intro q H1 vs st sm r
   refine ⟨q,S1,xs ++ dv.map .pv,sm,ace r (hv K q H1),?_⟩
   cases w:g (xs ++ dv.map .pv) S1 with
   | ok v S2 =>
    simp only [w] at h
    intro q2 H2 y st2 sm2 r2
    exact h q2 H2 _ (st.trans st2) sm2 (((st.trans st2).repE ev).set r2 jv)
   | exc m S2 =>
    simp only [w] at h
    split at h
    ·rename_i hm
     subst hm
     intro q2 H2 st2 sm2
     refine ⟨rfl,fun y oe hc=>hts y oe D σ H2 q2 ρ (by rw [← ev.len]; exact hl) ((st.trans st2).repE ev) fun σ' e'=>h q2 H2 σ' (st.trans st2) sm2 e'⟩
    ·exact h.elim
   | fail=>simp only [w] at h; exact h.elim
  | exc m S1=>simp only [z] at h; exact h.elim
  | fail=>simp only [z] at h; exact h.elim
 ·exact h.elim
end
end L2.Pp
namespace L2.Pp
open PySem
section
variable {prog:Program} {w:World} {A:Around} {E:Value → Shared → Prop} {s:Shared}
end
end L2.Pp
namespace L2
open PySem PyProof.Rows
end L2
namespace L2.Pp
open PySem
end L2.Pp
namespace L2
open PySem PySem.Spec PyProof.Rows Bn
section
variable {X:Cx}
theorem aeJ (is:List Int):∀ j,j ≤ is.length → preSum (fun i=>is.getD i 0) j = (is.take j).sum
 | 0,_=>by simp [preSum]
 | j + 1,h=>by
  have hj:j < is.length:=h
  rw [preSum,aeJ is j (by omega),List.take_add_one,List.getElem?_eq_getElem hj,Option.toList_some,List.sum_append,List.sum_singleton]
  simp only [List.getD,List.getElem?_eq_getElem hj,Option.getD_some]
theorem ag7 (hc:X.calm = true):ad4 X (.builtin "sum") (fun xs H Q=>∃ (a:Addr) (is:List Int),xs = [.ref a] ∧ SqL X.K H a (is.map V.int) ∧ Q (.int is.sum) H):=by
 intro pins s σ H xs us Q I r h
 obtain ⟨a,is,rfl,hq,q⟩:=h
 obtain ⟨u,rfl,ru⟩:=afr r
 cases ru
 obtain ⟨its,rv,pl,hz⟩:=I.list hq
 have hl:is.length = its.length:=by
  have:=rv.length
  rwa [List.length_map] at this
 refine call_sum_walkG (wpAny_pyIter_list pl.isList ?_)
 have ha:a < s.heap.objs.size:=by
  obtain ⟨o,ho,_⟩:=pl.isList
  exact Heap.lt_size ho
 refine ⟨_,_,_,_,_,_,fun i=>is.getD i 0,rfl,Walks.list (prog:=X.prog) (w:=X.w) (A:=X.A.in1) (show X.A.in1.handled = none from I.ok.hd hc) s.heap.objs.size a (Nat.ne_of_lt ha) its.toArray,⟨⟨_,Heap.get?_push_size _ rfl,rfl,rfl⟩,Heap.IsList.at pl.isList fun o e=>Heap.get?_push_of_some _ e⟩,fun b hb=>?_,fun i v hv=>?_,fun h' tk t' kp=>?_⟩
 ·have hb':b = s.heap.objs.size ∨ b = a:=by simpa using hb
  rw [Heap.size_push]
  rcases hb' with e | e <;> rw [e]
  ·exact Nat.lt_succ_self _
  ·exact Nat.lt_succ_of_lt ha
 ·have hv':its[i]? = some v:=by simpa using hv
  have hi:i < is.length:=by
   have:=(List.getElem?_eq_some_iff.mp hv').1
   omega
  obtain ⟨u,hu,ru⟩:=rv.get (i:=i) (x:=.int is[i]) (by rw [List.getElem?_map,List.getElem?_eq_getElem hi]; rfl)
  rw [hv'] at hu
  cases hu
  obtain ⟨t,ht⟩:=(show ∃ t,v = Value.int is[i] t from ru)
  exact ⟨t,by rw [ht]; simp [List.getD,hi]⟩
 ·have e:preSum (fun i=>is.getD i 0) its.toArray.size = is.sum:=by
   rw [List.size_toArray,← hl,aeJ is _ (Nat.le_refl _),List.take_length]
  show EP X pins σ Q (.int (preSum (fun i=>is.getD i 0) its.toArray.size) t') _
  rw [e]
  have I1:Inv X pins σ H { s with heap:=s.heap.push { cls:=.type "list_iterator",data:=.fields #[.ref a,.int 0 0] },toks:=s.toks }:=I.kept fun b o z=>Heap.get?_push_of_some _ z
  have fp:FpOk X pins H s.heap.objs.size:=I.fpOk (Nat.le_refl _) (I.hok.fresh (Nat.le_refl _))
  obtain ⟨f0,f1,f2,f3,f4,f5⟩:=fp
  exact ⟨.int is.sum,H,I1.turned (fun b o hb z=>kp b o (by simpa using hb) z) f0 f1 f3 f4 f5,⟨t',rfl⟩,q⟩
end
end L2
namespace L2.Pp
open PySem PySem.Spec PyProof.Rows Bn
section
variable {K:PySem.W.Frag} {cl:Str → Addr} {E:XK} {X:Cx}
def ad5:List PV → Option (List Int)
 | []=>some []
 | .int b :: r=>match ad5 r with
  | some bs=>some (b :: bs)
  | none=>none
 | _ :: _=>none
theorem ae2 {c:Addr → Prop} {H:Hp}:∀ {xs:List PV} {bs:List Int} {vs:List V},ad5 xs = some bs → Reps K c H xs vs → vs = bs.map V.int
 | [],bs,vs,e,r=>by
  cases e
  unfold Reps at r
  exact r
 | .int b :: xs,bs,vs,e,r=>by
  unfold ad5 at e
  split at e
  ·rename_i cs h
   cases e
   unfold Reps at r
   obtain ⟨v,w,rfl,r1,r2⟩:=r
   unfold Rep at r1
   rw [r1,ae2 h r2]
   rfl
  ·cases e
 | .non :: _,_,_,e,_=>by cases e
 | .bl _ :: _,_,_,e,_=>by cases e
 | .str _ :: _,_,_,e,_=>by cases e
 | .tup _ :: _,_,_,e,_=>by cases e
 | .lst _ :: _,_,_,e,_=>by cases e
def fSum:List PV → Option PV
 | [.lst xs]=>(ad5 xs).map fun bs=>.int bs.sum
 | _=>none
theorem aop:CaR K (fun xs H Q=>∃ (a:Addr) (is:List Int),xs = [.ref a] ∧ SqL K H a (is.map V.int) ∧ Q (.int is.sum) H) fSum:=fun {p S H as c xs Q} s ra e k=>by
 unfold fSum at e
 split at e
 ·rename_i zs
  cases y:ad5 zs with
  | none=>rw [y] at e; cases e
  | some bs =>
   rw [y] at e
   cases e
   cases ra with
   | cons h t =>
    cases t
    obtain ⟨a,vs,rfl,l,z,r⟩:=h.lst
    rw [ae2 y r] at l
    exact ⟨a,bs,rfl,l,k H _ (Same.refl H) (abL (v:=.int _) rfl)⟩
 ·cases e
end
end L2.Pp
namespace L2.Pp
open PySem PySem.Spec PyProof.Rows Bn
section
variable {K:PySem.W.Frag} {cl:Str → Addr} {E:XK} {X:Cx} {p q:Ph} {H H':Hp} {S:Sto}
variable {sc:Scope} {own:List Str} {cap:List (Nat × Str)} {elt target iter:Expr} {pos:Pos} {mi:MI} {g:GM} {me:ME}
noncomputable def ahI (own:List Str) (cap:List (Nat × Str)) (mi:MI) (g:GM) (me:ME):ME:=fun ρ S=>(mi ρ S).bind fun xs S1=>(aa9 xs.2 g me xs.1 (cmpR own cap ρ) S1).bind fun ys S2=>.ok (.ref S2.length) (S2 ++ [.lst ys])
theorem Sim.adopt {zs:List PV} {vs:List V} {D:Addr} (s:Sim K q S H) (sh:Sim K (q.hold D) S H) (w:q.w D) (n:D ∉ q.f) (h:H D = some (.lst vs)) (l:vs.length ≤ sizeLine) (r:Reps K q.c H zs vs):Sim K ⟨q.f ++ [D],q.w,q.c⟩ (S ++ [.lst zs]) H:=by
 refine ⟨List.nodup_append.mpr ⟨s.nd,by simp,fun a ha b hb=>?_⟩,by rw [List.length_append,List.length_append,s.len]; rfl,fun a ha=>?_,s.wc,s.mu,fun k a o e1 e2=>?_⟩
 ·have:b = D:=by simpa using hb
  intro z
  exact n (by rw [← this,← z]; exact ha)
 ·rcases List.mem_append.mp ha with z | z
  ·exact s.sub a z
  ·have:a = D:=by simpa using z
   rw [this]; exact w
 ·have e1:(q.f ++ [D])[k]? = some a:=e1
  by_cases hk:k < q.f.length
  ·rw [List.getElem?_append_left hk] at e1
   rw [List.getElem?_append_left (by rw [← s.len]; exact hk)] at e2
   refine (sh.obj k a o e1 e2).mono (fun _ e=>e) (fun b w f=>⟨⟨w.1,fun m=>?_⟩,fun _ e=>e⟩) fun _ _ r=>r
   rcases List.mem_append.mp m with z | z
   ·exact f z
   ·exact w.2 (by simpa using z)
  ·have hk2:k = q.f.length:=by
    have:=(List.getElem?_eq_some_iff.mp e1).1
    rw [List.length_append] at this
    have:k < q.f.length + 1:=this
    omega
   subst hk2
   rw [List.getElem?_append_right (Nat.le_refl _),Nat.sub_self] at e1
   rw [s.len,List.getElem?_append_right (Nat.le_refl _),Nat.sub_self] at e2
   cases e1
   cases e2
   exact ⟨vs,h,l,r⟩
theorem aiO {σ:St} {ρ:Rho} {xs:List PV × Gd} {J:It} {Q:VK} {D:Addr} (sm:Sim K p S H) (ev:RepE K p H ρ σ) (it:ItOk K p H xs J) (k:abd K cl (RepA K) p H ((aa9 xs.2 g me xs.1 (cmpR own cap ρ) S).bind fun ys S2=>.ok (.ref S2.length) (S2 ++ [.lst ys])) Q E) (hD:H D = none) :
  cmpW J (gP K g) (tP K cl E0 (RepA K) me) (aef own cap σ) H D Q:=by
 cases z:aa9 xs.2 g me xs.1 (cmpR own cap ρ) S with
 | fail=>rw [z] at k; exact k.elim
 | exc n S'=>exact absurd z (afk _ _ _ _ _)
 | ok zs S2 =>
  rw [z] at k
  have k:∀ q H' x,Step p H q H' → Sim K q (S2 ++ [.lst zs]) H' → RepA K q H' (.ref S2.length) x → Q x H':=k
  refine ag2 sm ev it z hD fun q H' vs st1 sm1 sh1 w1 f1 hH l1 r1=>?_
  have sm2:=sm1.adopt sh1 w1 f1 hH l1 r1
  refine k ⟨q.f ++ [D],q.w,q.c⟩ H' (.ref D) ⟨st1.wc,st1.mu,st1.pre.trans (List.prefix_append _ _),st1.mw,st1.mono,fun a ha n=>?_,st1.nw,st1.nc,st1.keep⟩ sm2 ⟨D,?_,rfl⟩
  ·rcases List.mem_append.mp ha with y | y
   ·exact st1.nf a y n
   ·have:a = D:=by simpa using y
    rw [this]; exact hD
  ·show (q.f ++ [D])[S2.length]? = some D
   rw [← sm1.len,List.getElem?_append_right (Nat.le_refl _),Nat.sub_self]
   rfl
theorem ajT {i:Nat} {x:Str} {py spos:Pos} (hN:X.N.Nodup) (hx:X.N[i]? = some x) (hl:Loc X.env.scope x) (k:aeE X sc own cap) (hi:PIp K cl E X target iter mi) (hc:X.calm = true) (hg:∀ C s₀ H₀ ex,PGp K (adf X sc (cmpN own cap) C s₀ H₀ ex) target g) (he:∀ C s₀ H₀ ex,PEp K cl E0 (adf X sc (cmpN own cap) C s₀ H₀ ex) elt me)
  (hs:∀ x,foldedSetIterable iter X.env x = pure x:=by intro _; rfl) (hsw:swapsWith (.ListComp elt [⟨target,iter,[],0⟩] sc pos) (some (.Name x py)) spos.line X.env = pure true:=by rfl)
  (hf:X.fn x = true ∨ X.env.scope.names.lookup x = some .local:=by first | exact .inl rfl | exact .inr rfl | assumption) :
  PSp K cl E X (.Assign [.Name x py] (.ListComp elt [⟨target,iter,[],0⟩] sc pos) spos) (sSet i (ahI own cap mi g me)):=by
 intro hK
 refine PS.imp (aj7 hN hx hl k (hi hK) hc (fun C s₀ H₀ ex=>hg C s₀ H₀ ex hK) (fun C s₀ H₀ ex=>he C s₀ H₀ ex hK) hs hsw hf) fun D σ H ⟨p,S,ρ,s,ev,h⟩=>?_
 have h2:tP K cl E (RepA K) (ahI own cap mi g me) σ H fun y H1=>D.nx (σ.set i (some y)) H1:=by
  refine ⟨p,S,ρ,s,ev,?_⟩
  unfold sSet at h
  cases z:ahI own cap mi g me ρ S with
  | ok v S1 =>
   rw [z] at h
   exact fun q H' y st sm r=>h q H' _ st sm ((st.repE ev).set r i)
  | exc n S1=>rw [z] at h; exact h
  | fail=>rw [z] at h; exact h
 obtain ⟨p,S,ρ,s,ev,h⟩:=h2
 exact aaO s ev h fun q H' xs J S' stp sm ev it kk B hB=>aiO sm ev it kk hB
end
section
variable {K:PySem.W.Frag} {cl:Str → Addr} {E:XK} {X:Cx} {e:Expr} {m:ME} {pos p2:Pos}
theorem Vals.at_ {xs:List V} {us:List Value} (r:Vals xs us):∀ {k:Nat} {x:V},xs[k]? = some x → ∃ u,us[k]? = some u ∧ RelV x u:=fun {k x} h=>by
 obtain ⟨u,e1,e2⟩:=r.get h
 exact ⟨u,e1,e2⟩
end
end L2.Pp
namespace L2.Pp
open PySem PySem.Spec PyProof.Rows Bn
section
variable {K:PySem.W.Frag} {cl:Str → Addr} {E:XK} {X:Cx}
end
end L2.Pp
namespace L2
open PySem PySem.Spec PyProof.Rows Bn
open PySem.W (KasT kas_sort kas_ask KatLex KatGo KatTups kat_run kat_kind kat_lt kat_one kas_item kat_snds)
def runP {α:Type} (lt:Nat → Nat → Bool):KasT α → α
 | .ret a=>a
 | .ask i j k=>runP lt (k (lt i j))
def act {α:Type} (n:Nat):KasT α → Bool
 | .ret _=>true
 | .ask i j k=>decide (i < n) && decide (j < n) && act n (k true) && act n (k false)
theorem aiC {α:Type} {cmp:Nat → Nat → (Bool → Shared → Prop) → Shared → Prop} {lt:Nat → Nat → Bool} {n:Nat} {s:Shared} (hc:∀ i j (C:Bool → Shared → Prop),i < n → j < n → C (lt i j) s → cmp i j C s):∀ (t:KasT α) (Q:α → Shared → Prop),act n t = true → Q (runP lt t) s → t.kasWp cmp Q s
 | .ret a,Q,_,h=>h
 | .ask i j k,Q,ok,h=>by
  unfold act at ok
  simp only [Bool.and_eq_true,decide_eq_true_eq] at ok
  obtain ⟨⟨⟨hi,hj⟩,h1⟩,h2⟩:=ok
  refine hc i j _ hi hj (aiC hc (k (lt i j)) Q ?_ h)
  cases lt i j
  ·exact h2
  ·exact h1
def ajj (h:Heap) (v:Value) (us:List Int):Prop:=∃ a o its n,v = .ref a ∧ h.get? a = some o ∧ o.cls = .type "tuple" ∧ o.data = .seq (List.toArray its) n ∧ Vals (us.map V.int) its
section
variable {prog:Program} {w:World} {A:Around} {E:Value → Shared → Prop} {s:Shared}
theorem ajv {Q:Bool → Shared → Prop}:∀ (us vs:List Int) (its jts:List Value) (i:Nat) (fin:Bool),Vals (us.map V.int) its → Vals (vs.map V.int) jts → fin = decide (us.length < vs.length) → Q (HT.lexLt us vs) s → KatLex prog w A true fin Q (its.zip jts) i s
 | [],vs,its,jts,i,fin,h1,h2,hf,hQ=>by
  cases h1
  cases vs with
  | nil =>
   subst hf
   exact PySem.W.kat_nil hQ
  | cons v vs =>
   have e:fin = true:=by rw [hf]; simp
   subst e
   exact PySem.W.kat_nil hQ
 | u :: us,[],its,jts,i,fin,h1,h2,hf,hQ=>by
  cases h2
  have e:fin = false:=by rw [hf]; simp
  subst e
  rw [List.zip_nil_right]
  exact PySem.W.kat_nil hQ
 | u :: us,v :: vs,its,jts,i,fin,h1,h2,hf,hQ=>by
  cases h1 with
  | cons r1 t1 =>
   cases h2 with
   | cons r2 t2 =>
    obtain ⟨k1,rfl⟩:=r1
    obtain ⟨k2,rfl⟩:=r2
    rw [List.zip_cons_cons]
    refine PySem.W.kat_cons (wpAny_eqBool_int ?_)
    rw [HT.lexLt_cons] at hQ
    by_cases e:u = v
    ·rw [if_pos e] at hQ
     have b:(u == v) = true:=by simpa using e
     rw [b]
     exact PySem.W.kat_yes (ajv us vs _ _ (i + 1) fin t1 t2 (by rw [hf]; simp) hQ)
    ·rw [if_neg e] at hQ
     have b:(u == v) = false:=by simpa using e
     rw [b]
     refine PySem.W.kat_no ?_
     by_cases hi:i = 0
     ·subst hi
      exact oneLt_int hQ
     ·have b2:(true && i == 0) = false:=by simpa using hi
      rw [b2]
      exact kat_one _ _ (PySem.P.lt_int hQ)
theorem aoR {x y:Value} {us vs:List Int} {Q:Bool → Shared → Prop} (hx:ajj s.heap x us) (hy:ajj s.heap y vs) (h:Q (HT.lexLt us vs) s):wpAny (model prog w) A (keyLt' (tuples' true) x y) Q E s:=by
 obtain ⟨a,o,its,n,rfl,ho,hc,hd,r⟩:=hx
 obtain ⟨b,o2,jts,k,rfl,ho2,hc2,hd2,r2⟩:=hy
 refine kat_lt ho hd ho2 hd2 ?_
 have l1:=r.length
 have l2:=r2.length
 rw [List.length_map] at l1 l2
 refine ajv us vs its jts 0 _ r r2 ?_ h
 rw [List.size_toArray,List.size_toArray,l1,l2]
theorem afK:∀ (vs:List Value) (uss:List (List Int)),vs.length = uss.length → (∀ i,i < vs.length → ajj s.heap (vs.getD i Value.none) (uss.getD i []) ∧ uss.getD i [] ≠ []) → ∃ fs,KatTups s.heap vs fs ∧ fs.length = vs.length ∧ ∀ v ∈ fs,∃ i t,v = .int i t
 | [],uss,_,_=>⟨[],trivial,rfl,fun _ h=>absurd h List.not_mem_nil⟩
 | v :: vs,[],hl,_=>by cases hl
 | v :: vs,us :: uss,hl,h=>by
  obtain ⟨fs,k,l,q⟩:=afK vs uss (by simpa using hl) fun i hi=>by
   have:=h (i + 1) (by simp; omega)
   simpa using this
  obtain ⟨⟨a,o,its,n,e,ho,hc,hd,r⟩,ne⟩:=h 0 (by simp)
  have e:v = .ref a:=e
  subst e
  cases us with
  | nil=>exact absurd rfl ne
  | cons u us =>
   have r:Vals (V.int u :: us.map V.int) its:=r
   cases r with
   | cons r1 t1 =>
    obtain ⟨t,rfl⟩:=r1
    refine ⟨.int u t :: fs,KatTups.cons ho hc hd (by simp) k,by simp [l],fun x hx=>?_⟩
    rcases List.mem_cons.mp hx with rfl | hx
    ·exact ⟨u,t,rfl⟩
    ·exact q x hx
def aaV (uss:List (List Int)):List Nat:=(runP (fun i j=>HT.lexLt (uss.getD i []) (uss.getD j [])) (kas_sort uss.length)).toList
theorem agj {a:Addr} {vs:List Value} {uss:List (List Int)} {n:Nat} {P:PySem.Fin → Shared → Prop} (ho:s.heap.get? a = some (seqObj "list" vs.toArray n)) (hl:vs.length = uss.length) (h2:2 ≤ vs.length) (h64:vs.length < 64) (ok:act uss.length (kas_sort uss.length) = true)
  (tu:∀ i,i < vs.length → ajj s.heap (vs.getD i Value.none) (uss.getD i []) ∧ uss.getD i [] ≠ [])
  (h:P (.done (.ret .none)) { s with heap:=sortedHeap s.heap a vs (List.toArray ((aaV uss).map fun i=>vs.getD i Value.none)) }) :
  wpAny (model prog w) A (Builtin.«list.sort» ⟨[.ref a],[]⟩) P E s:=by
 have ha:a < s.heap.objs.size:=Heap.lt_size ho
 obtain ⟨e1,ho1⟩:∃ e1,(s.heap.update a (Obj.mapSeq fun _=>(#[]:Array Value))).get? a = some (seqObj "list" #[] e1):=⟨_,get?_update_seq ho fun _=>#[]⟩
 have kp:∀ b o,b ≠ a → s.heap.get? b = some o → (((s.heap.update a (Obj.mapSeq fun _=>(#[]:Array Value))).push (seqObj "tuple" vs.toArray 0)).push (seqObj "list" #[] 0)).get? b = some o:=fun b o hb e =>
  Heap.get?_push_of_some _ (Heap.get?_push_of_some _ ((Heap.get?_update_ne _ _ _ _ hb).trans e))
 have tu2:∀ i,i < vs.length → ajj (((s.heap.update a (Obj.mapSeq fun _=>(#[]:Array Value))).push (seqObj "tuple" vs.toArray 0)).push (seqObj "list" #[] 0)) (vs.getD i Value.none) (uss.getD i []) ∧ uss.getD i [] ≠ []:=fun i hi=>by
  obtain ⟨⟨b,o,its,m,e,hb,hc,hd,r⟩,ne⟩:=tu i hi
  refine ⟨⟨b,o,its,m,e,kp b o (fun z=>?_) hb,hc,hd,r⟩,ne⟩
  subst z
  rw [ho] at hb
  cases hb
  have hc:Value.type "list" = Value.type "tuple":=hc
  injection hc with hc
  exact absurd hc (by decide)
 have na:(((s.heap.update a (Obj.mapSeq fun _=>(#[]:Array Value))).push (seqObj "tuple" vs.toArray 0)).push (seqObj "list" #[] 0)).get? a = some (seqObj "list" #[] e1):=Heap.get?_push_of_some _ (Heap.get?_push_of_some _ ho1)
 rw [list_sort_plain]
 refine wpAny_bind (listItems_at ho rfl ?_)
 refine wpAny_bind (listUpdate_at ho rfl ?_ (by rw [List.size_toArray,sizeLine_eq]; omega) (Nat.zero_le _))
 refine wpAny_bind (seqEpoch_at ho1 rfl ?_)
 refine wpAny_bind (wpAny_newTuple ?_ (by show vs.length ≤ _; rw [sizeLine_eq]; omega))
 refine wpAny_bind (wpAny_newList ?_ (Nat.zero_le _))
 refine wpAny_holding ?_
 show wpAny (model prog w) A _ P E { s with heap:=((s.heap.update a (Obj.mapSeq fun _=>(#[]:Array Value))).push (seqObj "tuple" vs.toArray 0)).push (seqObj "list" #[] 0) }
 dsimp only
 have hn2:¬ vs.toArray.size < 2:=by rw [List.size_toArray]; omega
 rw [if_neg hn2,if_neg hn2]
 obtain ⟨fs,kt,lf,qf⟩:=afK (s:={ s with heap:=((s.heap.update a (Obj.mapSeq fun _=>(#[]:Array Value))).push (seqObj "tuple" vs.toArray 0)).push (seqObj "list" #[] 0) }) vs uss hl tu2
 refine wpAny_bind (kat_kind (T:=.type "int") kt (by omega) (fun v hv=>?_) rfl ?_)
 ·obtain ⟨i,t,rfl⟩:=qf v hv
  exact .now
 have bt:(Value.type "int" != Value.type "tuple") = true:=by decide
 rw [bt]
 refine wpAny_bind (wpAny_mono (kat_run (Q:=fun st' s'=>∃ p:Array Nat,p.size = vs.length ∧ arrOf st' = p.map (kas_item (vs.toArray.zip vs.toArray)) ∧ failedOf st' = none ∧ p.toList = aaV uss ∧ s' = { s with heap:=((s.heap.update a (Obj.mapSeq fun _=>(#[]:Array Value))).push (seqObj "tuple" vs.toArray 0)).push (seqObj "list" #[] 0) })
  (G:=fun p s'=>p.toList = aaV uss ∧ s' = { s with heap:=((s.heap.update a (Obj.mapSeq fun _=>(#[]:Array Value))).push (seqObj "tuple" vs.toArray 0)).push (seqObj "list" #[] 0) })
  rfl h2 h64 (fun p' st' s' a1 a2 a3 a4=>⟨p',a1,a2,a3,a4⟩) ?_) ?_ fun _ _ e=>e)
 ·rw [hl]
  refine aiC (lt:=fun i j=>HT.lexLt (uss.getD i []) (uss.getD j [])) (n:=uss.length) (fun i j C hi hj hC=>?_) _ _ ok ⟨rfl,rfl⟩
  exact aoR (tu2 i (by omega)).1 (tu2 j (by omega)).1 hC
 rintro ⟨⟨⟩,st'⟩ s' ⟨p,hp,har,hf,hpl,rfl⟩
 dsimp only
 have hout:=kat_snds rfl har
 have hsz:(List.toArray (p.toList.map fun i=>vs.getD i Value.none)).size = vs.length:=by rw [List.size_toArray,List.length_map,Array.length_toList,hp]
 rw [hout]
 refine wpAny_bind (seqEpoch_at na rfl ?_)
 refine wpAny_bind (listUpdate_at na rfl ?_ (Nat.zero_le _) (Nat.le_trans (Nat.le_of_eq hsz) (by rw [sizeLine_eq]; omega)))
 rw [hf]
 simp only [bne_self_eq_false,Bool.false_eq_true,if_false]
 refine wpAny_pure ?_
 rw [hpl]
 exact h
theorem aji {l:Addr} {o:Obj} {T:String} {vs:List Value} {uss:List (List Int)} {n:Nat} {Q:Value → Shared → Prop} (hT:T = "list" ∨ T = "tuple") (ho:s.heap.get? l = some o) (hc:o.cls = .type T) (hd:o.data = .seq vs.toArray n) (hl:vs.length = uss.length) (h2:2 ≤ vs.length) (h64:vs.length < 64) (ok:act uss.length (kas_sort uss.length) = true)
  (tu:∀ i,i < vs.length → ajj s.heap (vs.getD i Value.none) (uss.getD i []) ∧ uss.getD i [] ≠ [])
  (h:∀ (h1 h':Heap) (c:Nat),(∀ b o',s.heap.get? b = some o' → h1.get? b = some o') → (∀ b o',h1.get? b = some o' → h'.get? b = some o') → h'.get? h1.objs.size = some (seqObj "list" (List.toArray ((aaV uss).map fun i=>vs.getD i Value.none)) c) → Q (.ref h1.objs.size) { s with heap:=h' }) :
  wpAny (model prog w) A (call (.builtin "sorted") [.ref l]) Q E s:=by
 refine PySem.Calls.call_function_entry kind_sorted plain_sorted entry_sorted (args_sorted1 _) ?_
 unfold Builtin.«sorted»
 refine wpAny_bind (m:=checkCount "sorted" 1 1 _) (wpAny_pure ?_)
 refine wpAny_bind (wpAny_collect_seq l hT ho hc hd (fun h1 k1=>?_) (by rw [List.size_toArray,sizeLine_eq]; omega))
 refine wpAny_bind (wpAny_newList ?_ (by rw [sizeLine_eq]; simp; omega))
 have hoL:(h1.push (seqObj "list" vs.toArray 0)).get? h1.objs.size = some (seqObj "list" vs.toArray 0):=Heap.get?_push_size _ rfl
 show wpAny _ _ _ _ _ { s with heap:=h1.push (seqObj "list" vs.toArray 0) }
 refine wpAny_bind (wpAny_holding (wpAny_call_entry slot_list_sort ⟨_,hoL,rfl⟩ entry_list_sort ?body (args_list_sort _)))
 case body =>
  refine agj (s:={ s with heap:=h1.push (seqObj "list" vs.toArray 0) }) hoL hl h2 h64 ok (fun i hi=>?_) ⟨_,rfl,wpAny_pure ⟨_,rfl,?_⟩⟩
  ·obtain ⟨⟨b,o,its,m,e,hb,hc,hd,r⟩,ne⟩:=tu i hi
   exact ⟨⟨b,o,its,m,e,Heap.get?_push_of_some _ (k1 b o hb),hc,hd,r⟩,ne⟩
  ·obtain ⟨e1,ho1⟩:∃ e1,((h1.push (seqObj "list" vs.toArray 0)).update h1.objs.size (Obj.mapSeq fun _=>(#[]:Array Value))).get? h1.objs.size = some (seqObj "list" #[] e1):=⟨_,get?_update_seq hoL fun _=>#[]⟩
   have ho2:=Heap.get?_push_of_some (seqObj "list" #[] 0) (Heap.get?_push_of_some (seqObj "tuple" vs.toArray 0) ho1)
   obtain ⟨e2,ho3⟩:∃ e2,(sortedHeap (h1.push (seqObj "list" vs.toArray 0)) h1.objs.size vs (List.toArray ((aaV uss).map fun i=>vs.getD i Value.none))).get? h1.objs.size = some (seqObj "list" (List.toArray ((aaV uss).map fun i=>vs.getD i Value.none)) e2):=⟨_,get?_update_seq ho2 fun _=>List.toArray ((aaV uss).map fun i=>vs.getD i Value.none)⟩
   refine h h1 _ e2 k1 (fun b o' hb1=>?_) ho3
   have hne:b ≠ h1.objs.size:=Nat.ne_of_lt (Heap.lt_size hb1)
   exact (Heap.get?_update_ne _ _ _ _ hne).trans (Heap.get?_push_of_some _ (Heap.get?_push_of_some _ ((Heap.get?_update_ne _ _ _ _ hne).trans (Heap.get?_push_of_some _ hb1))))
end
def anf (K:PySem.W.Frag) (H:Hp) (ts:List V) (uss:List (List Int)):Prop:=ts.length = uss.length ∧ ∀ i t,ts[i]? = some t → ∃ a,t = .ref a ∧ SqT K H a ((uss.getD i []).map V.int) ∧ uss.getD i [] ≠ []
theorem afM {X:Cx}:ad4 X (.builtin "sorted") (fun xs H Q=>∃ (a:Addr) (ts:List V) (uss:List (List Int)),xs = [.ref a] ∧ (SqL X.K H a ts ∨ SqT X.K H a ts) ∧ anf X.K H ts uss ∧ 2 ≤ ts.length ∧ ts.length < 64 ∧ act uss.length (kas_sort uss.length) = true ∧ (aaV uss).length ≤ 64 ∧
  ∀ l,H l = none → Q (.ref l) (upd H l (.lst ((aaV uss).map fun i=>ts.getD i .non)))):=by
 intro pins s σ H xs us Q I r h
 obtain ⟨a,ts,uss,rfl,hq,⟨hl,ht⟩,h2,h64,ok,hpl,q⟩:=h
 obtain ⟨u,rfl,ru⟩:=afr r
 cases ru
 have go:∀ (its:List Value) (T:String) (o:Obj) (n:Nat),Vals ts its → (T = "list" ∨ T = "tuple") → s.heap.get? a = some o → o.cls = .type T → o.data = .seq its.toArray n → ts.length ≤ sizeLine →
   wpAny (model X.prog X.w) X.A (call (.builtin "sorted") [.ref a]) (EP X pins σ Q) X.xe s:=fun its T o n rv hT ho hc hd hz=>by
  have hlen:=rv.length
  refine aji (uss:=uss) hT ho hc hd (by omega) (by omega) (by omega) ok (fun i hi=>?_) fun h1 h' c k1 k2 e=>?_
  ·have hi':i < ts.length:=by omega
   obtain ⟨b,e1,sq,ne⟩:=ht i ts[i] (List.getElem?_eq_getElem hi')
   obtain ⟨v,e2,rel⟩:=rv.get (List.getElem?_eq_getElem hi')
   rw [e1] at rel
   cases rel
   obtain ⟨jts,rj,⟨o2,ho2,hc2,m,hd2⟩,_⟩:=I.tuple sq
   refine ⟨⟨b,o2,jts,m,?_,ho2,hc2,hd2,rj⟩,ne⟩
   rw [List.getD,e2]
   rfl
  ·have I1:Inv X pins σ H { s with heap:=h1,toks:=s.toks }:=I.kept k1
   have hz2:((aaV uss).map fun i=>ts.getD i .non).length ≤ sizeLine:=by
    rw [List.length_map,sizeLine_eq]
    omega
   have rel:∀ ps:List Nat,Vals (ps.map fun i=>ts.getD i .non) (ps.map fun i=>its.getD i Value.none):=fun ps=>by
    induction ps with
    | nil=>exact .nil
    | cons i ps ih =>
     refine .cons ?_ ih
     by_cases hi:i < ts.length
     ·obtain ⟨v,e2,rr⟩:=rv.get (List.getElem?_eq_getElem hi)
      have q1:ts.getD i .non = ts[i]:=by simp [List.getD,hi]
      have q2:its.getD i Value.none = v:=by simp [List.getD,e2]
      show RelV (ts.getD i .non) (its.getD i Value.none)
      rw [q1,q2]
      exact rr
     ·have q1:ts.getD i .non = .non:=by simp [List.getD,hi]
      have q2:its.getD i Value.none = Value.none:=by simp [List.getD,show its.length ≤ i by omega]
      show RelV (ts.getD i .non) (its.getD i Value.none)
      rw [q1,q2]
      rfl
   refine ⟨.ref h1.objs.size,_,I1.laid (t':=s.toks) (o:=.lst ((aaV uss).map fun i=>ts.getD i .non)) k2 (Nat.le_refl _) ?_,rfl,q _ (I1.hok.fresh (Nat.le_refl _))⟩
   exact ⟨hz2,_,c,rel _,e⟩
 rcases hq with hq | hq
 ·obtain ⟨its,rv,pl,hz⟩:=I.list hq
  obtain ⟨o,ho,hc,n,hd⟩:=pl.isList
  exact go its "list" o n rv (.inl rfl) ho hc hd hz
 ·obtain ⟨its,rv,⟨o,ho,hc,n,hd⟩,hz⟩:=I.tuple hq
  exact go its "tuple" o n rv (.inr rfl) ho hc hd hz
end L2
namespace L2.Pp
open PySem PySem.Spec PyProof.Rows Bn
open PySem.W (kas_sort)
section
variable {K:PySem.W.Frag}
def aeB:List PV → Option (List (List Int))
 | []=>some []
 | .tup us :: r=>match ad5 us,aeB r with
  | some is,some uss=>some (is :: uss)
  | _,_=>none
 | _ :: _=>none
theorem ah1:∀ {xs:List PV} {uss:List (List Int)},aeB xs = some uss → xs.length = uss.length
 | [],uss,e=>by cases e; rfl
 | .tup us :: r,uss,e=>by
  unfold aeB at e
  split at e
  ·rename_i is uss' h1 h2
   cases e
   rw [List.length_cons,List.length_cons,ah1 h2]
  ·cases e
 | .non :: _,_,e=>by cases e
 | .bl _ :: _,_,e=>by cases e
 | .int _ :: _,_,e=>by cases e
 | .str _ :: _,_,e=>by cases e
 | .lst _ :: _,_,e=>by cases e
theorem aks {c:Addr → Prop} {H:Hp}:∀ {xs:List PV} {uss:List (List Int)} {vs:List V},aeB xs = some uss → Reps K c H xs vs → ∀ i t,vs[i]? = some t → ∃ a,t = .ref a ∧ SqT K H a ((uss.getD i []).map V.int)
 | [],uss,vs,e,r,i,t,h=>by
  unfold Reps at r
  subst r
  simp at h
 | .tup us :: r,uss,vs,e,rr,i,t,h=>by
  unfold aeB at e
  split at e
  ·rename_i is uss' h1 h2
   cases e
   unfold Reps at rr
   obtain ⟨v,w,rfl,r1,r2⟩:=rr
   cases i with
   | zero =>
    cases h
    unfold Rep at r1
    obtain ⟨a,ws,rfl,sq,_,r3⟩:=r1
    rw [ae2 h1 r3] at sq
    exact ⟨a,rfl,sq⟩
   | succ i =>
    have:=aks h2 r2 i t (by simpa using h)
    simpa using this
  ·cases e
 | .non :: _,_,_,e,_,_,_,_=>by cases e
 | .bl _ :: _,_,_,e,_,_,_,_=>by cases e
 | .int _ :: _,_,_,e,_,_,_,_=>by cases e
 | .str _ :: _,_,_,e,_,_,_,_=>by cases e
 | .lst _ :: _,_,_,e,_,_,_,_=>by cases e
def anG (uss:List (List Int)):Prop:=2 ≤ uss.length ∧ uss.length < 64 ∧ act uss.length (kas_sort uss.length) = true ∧ (aaV uss).length ≤ 64 ∧ ∀ us ∈ uss,us ≠ []
def amE (xs:List PV) (uss:List (List Int)):List PV:=(aaV uss).map fun i=>xs.getD i .non
open Classical in
noncomputable def ai9 (xs:List PV):Option PV:=match aeB xs with
 | some uss=>if anG uss then some (.lst (amE xs uss)) else none
 | none=>none
noncomputable def afc:List PV → Option PV
 | [.lst xs]=>ai9 xs
 | [.tup xs]=>ai9 xs
 | _=>none
theorem agV {c:Addr → Prop} {H:Hp} {xs:List PV} {vs:List V} (r:Reps K c H xs vs):∀ ps:List Nat,Reps K c H (ps.map fun i=>xs.getD i .non) (ps.map fun i=>vs.getD i .non)
 | []=>.nil
 | i :: ps=>by
  refine .cons ?_ (agV r ps)
  by_cases hi:i < xs.length
  ·obtain ⟨v,e1,e2⟩:=r.get (List.getElem?_eq_getElem hi)
   have q1:xs.getD i .non = xs[i]:=by simp [List.getD,hi]
   have q2:vs.getD i .non = v:=by simp [List.getD,e1]
   show Rep K c H (xs.getD i .non) (vs.getD i .non)
   rw [q1,q2]
   exact e2
  ·have hl:=r.length
   have q1:xs.getD i .non = .non:=by simp [List.getD,hi]
   have q2:vs.getD i .non = .non:=by simp [List.getD,show vs.length ≤ i by omega]
   show Rep K c H (xs.getD i .non) (vs.getD i .non)
   rw [q1,q2]
   unfold Rep
   rfl
theorem ams:CaR K (fun xs H Q=>∃ (a:Addr) (ts:List V) (uss:List (List Int)),xs = [.ref a] ∧ (SqL K H a ts ∨ SqT K H a ts) ∧ anf K H ts uss ∧ 2 ≤ ts.length ∧ ts.length < 64 ∧ act uss.length (kas_sort uss.length) = true ∧ (aaV uss).length ≤ 64 ∧
  ∀ l,H l = none → Q (.ref l) (upd H l (.lst ((aaV uss).map fun i=>ts.getD i .non)))) afc:=fun {p S H as c xs Q} s ra e k=>by
 have key:∀ (zs:List PV) (a:Addr) (vs:List V),ai9 zs = some c → (SqL K H a vs ∨ SqT K H a vs) → Reps K p.c H zs vs → ∃ (a':Addr) (ts:List V) (uss:List (List Int)),[V.ref a] = [.ref a'] ∧ (SqL K H a' ts ∨ SqT K H a' ts) ∧ anf K H ts uss ∧ 2 ≤ ts.length ∧ ts.length < 64 ∧ act uss.length (kas_sort uss.length) = true ∧ (aaV uss).length ≤ 64 ∧
   ∀ l,H l = none → Q (.ref l) (upd H l (.lst ((aaV uss).map fun i=>ts.getD i .non))):=fun zs a vs e sq r=>by
  unfold ai9 at e
  split at e
  ·rename_i uss hu
   split at e
   ·rename_i hc
    cases e
    obtain ⟨c1,c2,c3,c4,c5⟩:=hc
    have l1:=ah1 hu
    have l2:=r.length
    refine ⟨a,vs,uss,rfl,sq,⟨by omega,fun i t h=>?_⟩,by omega,by omega,c3,c4,fun l hl=>?_⟩
    ·obtain ⟨b,e1,e2⟩:=aks hu r i t h
     have hi:i < uss.length:=by
      have:=(List.getElem?_eq_some_iff.mp h).1
      omega
     refine ⟨b,e1,e2,?_⟩
     rw [List.getD,List.getElem?_eq_getElem hi]
     exact c5 _ (List.getElem_mem hi)
    ·refine k _ _ (abM hl) (aeq s (agV r _) ?_ hl)
     rw [List.length_map,abb]
     omega
   ·cases e
  ·cases e
 unfold afc at e
 split at e
 ·rename_i zs
  cases ra with
  | cons h t =>
   cases t
   obtain ⟨a,vs,rfl,l,z,r⟩:=h.lst
   exact key zs a vs e (.inl l) r
 ·rename_i zs
  cases ra with
  | cons h t =>
   cases t
   obtain ⟨a,vs,rfl,l,z,r⟩:=h.tup
   exact key zs a vs e (.inr l) r
 ·cases e
end
end L2.Pp
namespace L2
open PySem.W (KasT kas_sort)
theorem afG {α:Type} {lt lt':Nat → Nat → Bool} {n:Nat} (h:∀ i j,i < n → j < n → lt i j = lt' i j):∀ t:KasT α,act n t = true → runP lt t = runP lt' t
 | .ret a,_=>rfl
 | .ask i j k,ok=>by
  unfold act at ok
  simp only [Bool.and_eq_true,decide_eq_true_eq] at ok
  obtain ⟨⟨⟨hi,hj⟩,h1⟩,h2⟩:=ok
  show runP lt (k (lt i j)) = runP lt' (k (lt' i j))
  rw [← h i j hi hj]
  refine afG h (k (lt i j)) ?_
  cases lt i j
  ·exact h2
  ·exact h1
theorem acI:∀ u:List Int,HT.lexLt u u = false
 | []=>rfl
 | x :: u=>by rw [HT.lexLt_cons,if_pos rfl,acI u]
theorem ahu:∀ u v:List Int,u = v ∨ HT.lexLt u v = true ∨ HT.lexLt v u = true
 | [],[]=>.inl rfl
 | [],_ :: _=>.inr (.inl rfl)
 | _ :: _,[]=>.inr (.inr rfl)
 | x :: u,y :: v=>by
  rw [HT.lexLt_cons,HT.lexLt_cons]
  by_cases h:x = y
  ·subst h
   rw [if_pos rfl,if_pos rfl]
   rcases ahu u v with h | h | h
   ·exact .inl (by rw [h])
   ·exact .inr (.inl h)
   ·exact .inr (.inr h)
  ·rw [if_neg h,if_neg (fun z=>h z.symm)]
   by_cases q:x < y
   ·exact .inr (.inl (by simpa using q))
   ·exact .inr (.inr (by simp; omega))
theorem ad9:∀ u v w:List Int,HT.lexLt u v = true → HT.lexLt v w = true → HT.lexLt u w = true
 | [],[],_,h,_=>by cases h
 | [],_ :: _,[],_,h=>by cases h
 | [],_ :: _,_ :: _,_,_=>rfl
 | _ :: _,[],_,h,_=>by cases h
 | _ :: _,_ :: _,[],_,h=>by cases h
 | x :: u,y :: v,z :: w,h1,h2=>by
  rw [HT.lexLt_cons] at h1 h2 ⊢
  by_cases e1:x = y
  ·subst e1
   rw [if_pos rfl] at h1
   by_cases e2:x = z
   ·rw [if_pos e2] at h2 ⊢
    exact ad9 u v w h1 h2
   ·rw [if_neg e2] at h2 ⊢
    exact h2
  ·rw [if_neg e1] at h1
   have h1:x < y:=by simpa using h1
   by_cases e2:y = z
   ·subst e2
    rw [if_neg e1]
    simpa using h1
   ·rw [if_neg e2] at h2
    have h2:y < z:=by simpa using h2
    rw [if_neg (by omega)]
    simp
    omega
theorem alU {u v:List Int} (h:HT.lexLt u v = true):HT.lexLt v u = false:=by
 cases q:HT.lexLt v u with
 | false=>rfl
 | true =>
  have:=ad9 u v u h q
  rw [acI] at this
  cases this
theorem akV {u v:List Int} (h:HT.lexLt u v = false) (g:HT.lexLt v u = false):u = v:=by
 rcases ahu u v with e | e | e
 ·exact e
 ·rw [h] at e; cases e
 ·rw [g] at e; cases e
def r3 (a b c d e f:Bool):Bool:=(!(a && b) || c) && (!(d && e) || f)
def okT (b:Nat → Nat → Bool) (n:Nat):Bool:=(List.range n).all fun i=>!(b i i) && (List.range n).all fun j=>!(b i j && b j i) && (List.range n).all fun k=>(!(b i j && b j k) || b i k) && (b i j || b j k || !(b i k))
def ali (b:Nat → Nat → Bool) (n:Nat) (ps:List (List Nat)):Bool:=let p:=(runP b (kas_sort n)).toList
 ps.contains p && (List.range n).all fun i=>(List.range n).all fun j=>!(decide (i < j)) || !(b (p.getD j 0) (p.getD i 0))
def ahj:List (List Nat):=[[0,1,2],[0,2,1],[1,0,2],[1,2,0],[2,0,1],[2,1,0]]
def ag5:List (List Nat):=[[0,1,2,3],[0,1,3,2],[0,2,1,3],[0,2,3,1],[0,3,1,2],[0,3,2,1],[1,0,2,3],[1,0,3,2],[1,2,0,3],[1,2,3,0],[1,3,0,2],[1,3,2,0],
 [2,0,1,3],[2,0,3,1],[2,1,0,3],[2,1,3,0],[2,3,0,1],[2,3,1,0],[3,0,1,2],[3,0,2,1],[3,1,0,2],[3,1,2,0],[3,2,0,1],[3,2,1,0]]
def mt3 (b01 b02 b10 b12 b20 b21:Bool) (i j:Nat):Bool:=match i,j with
 | 0,1=>b01 | 0,2=>b02 | 1,0=>b10 | 1,2=>b12 | 2,0=>b20 | 2,1=>b21 | _,_=>false
def mt4 (b01 b02 b03 b10 b12 b13 b20 b21 b23 b30 b31 b32:Bool) (i j:Nat):Bool:=match i,j with
 | 0,1=>b01 | 0,2=>b02 | 0,3=>b03 | 1,0=>b10 | 1,2=>b12 | 1,3=>b13 | 2,0=>b20 | 2,1=>b21 | 2,3=>b23 | 3,0=>b30 | 3,1=>b31 | 3,2=>b32 | _,_=>false
theorem aou:act 3 (kas_sort 3) = true:=by decide +kernel
theorem apa:act 4 (kas_sort 4) = true:=by decide +kernel
theorem all3:∀ b01 b02 b10 b12 b20 b21:Bool,okT (mt3 b01 b02 b10 b12 b20 b21) 3 = true → ali (mt3 b01 b02 b10 b12 b20 b21) 3 ahj = true:=by decide +kernel
theorem all4:∀ b01 b02 b03 b10 b12 b13 b20 b21 b23 b30 b31 b32:Bool,okT (mt4 b01 b02 b03 b10 b12 b13 b20 b21 b23 b30 b31 b32) 4 = true → ali (mt4 b01 b02 b03 b10 b12 b13 b20 b21 b23 b30 b31 b32) 4 ag5 = true:=by decide +kernel
theorem amy {b:Nat → Nat → Bool} {n:Nat} {uss:List (List Int)} (h:∀ i j,i < n → j < n → b i j = HT.lexLt (uss.getD i []) (uss.getD j [])):okT b n = true:=by
 unfold okT
 simp only [List.all_eq_true,List.mem_range,Bool.and_eq_true,Bool.not_eq_true',Bool.or_eq_true,Bool.and_eq_false_imp]
 intro i hi
 refine ⟨by rw [h i i hi hi,acI],fun j hj=>⟨fun q=>?_,fun k hk=>⟨?_,?_⟩⟩⟩
 ·rw [h i j hi hj] at q
  rw [h j i hj hi,alU q]
 ·rw [h i j hi hj,h j k hj hk,h i k hi hk]
  cases q1:HT.lexLt (uss.getD i []) (uss.getD j []) with
  | false=>exact .inl fun z=>by cases z
  | true =>
   cases q2:HT.lexLt (uss.getD j []) (uss.getD k []) with
   | false=>exact .inl fun _=>rfl
   | true=>exact .inr (ad9 _ _ _ q1 q2)
 ·rw [h i j hi hj,h j k hj hk,h i k hi hk]
  cases q1:HT.lexLt (uss.getD i []) (uss.getD j []) with
  | true=>exact .inl (.inl rfl)
  | false =>
   cases q2:HT.lexLt (uss.getD j []) (uss.getD k []) with
   | true=>exact .inl (.inr rfl)
   | false =>
    refine .inr ?_
    cases q3:HT.lexLt (uss.getD i []) (uss.getD k []) with
    | false=>rfl
    | true =>
     rcases ahu (uss.getD i []) (uss.getD j []) with e | e | e
     ·rw [e] at q3; rw [q2] at q3; cases q3
     ·rw [q1] at e; cases e
     ·have:=ad9 _ _ _ e q3
      rw [q2] at this
      cases this
end L2
namespace L2
open PySem.W (KasT kas_sort)
def abJ (uss:List (List Int)):List (List Int):=(aaV uss).map fun i=>uss.getD i []
def leU (u v:List Int):Prop:=HT.lexLt v u = false
theorem agW {uss:List (List Int)} {n:Nat} {ps:List (List Nat)} (hl:uss.length = n) (ok:act n (kas_sort n) = true) {b:Nat → Nat → Bool} (hb:∀ i j,i < n → j < n → b i j = HT.lexLt (uss.getD i []) (uss.getD j [])) (good:ali b n ps = true) (hp:∀ p ∈ ps,p.Perm (List.range n)) :
  aaV uss ∈ ps ∧ (aaV uss).Perm (List.range n) ∧ (abJ uss).Pairwise leU:=by
 have e:aaV uss = (runP b (kas_sort n)).toList:=by
  unfold aaV
  rw [hl]
  exact congrArg Array.toList (afG (n:=n) (fun i j hi hj=>(hb i j hi hj).symm) _ ok)
 unfold ali at good
 simp only [Bool.and_eq_true,List.all_eq_true,List.mem_range] at good
 rw [← e] at good
 obtain ⟨g1,g2⟩:=good
 have m:aaV uss ∈ ps:=by simpa using g1
 have pm:=hp _ m
 refine ⟨m,pm,?_⟩
 have ln:(aaV uss).length = n:=by rw [pm.length_eq,List.length_range]
 unfold abJ
 rw [List.pairwise_iff_getElem]
 intro i j hi hj hij
 rw [List.length_map] at hi hj
 have q:=g2 i (by omega) j (by omega)
 have pi:(aaV uss).getD i 0 = (aaV uss)[i]:=by simp [List.getD,hi]
 have pj:(aaV uss).getD j 0 = (aaV uss)[j]:=by simp [List.getD,hj]
 rw [pi,pj] at q
 have li:(aaV uss)[i] < n:=by
  have:=pm.subset (List.getElem_mem hi)
  simpa using this
 have lj:(aaV uss)[j] < n:=by
  have:=pm.subset (List.getElem_mem hj)
  simpa using this
 rw [hb _ _ lj li] at q
 simp only [List.getElem_map]
 unfold leU
 have d:decide (i < j) = true:=by simpa using hij
 rw [d] at q
 simpa using q
theorem ala:∀ p ∈ ahj,p.Perm (List.range 3):=by decide
theorem ak1:∀ p ∈ ag5,p.Perm (List.range 4):=by decide
theorem aht {uss:List (List Int)} (h:uss.length = 3):aaV uss ∈ ahj ∧ (aaV uss).Perm (List.range 3) ∧ (abJ uss).Pairwise leU:=by
 match uss,h with
 | [u0,u1,u2],_ =>
  have hb:∀ i j,i < 3 → j < 3 → mt3 (HT.lexLt u0 u1) (HT.lexLt u0 u2) (HT.lexLt u1 u0) (HT.lexLt u1 u2) (HT.lexLt u2 u0) (HT.lexLt u2 u1) i j = HT.lexLt (([u0,u1,u2]:List (List Int)).getD i []) (([u0,u1,u2]:List (List Int)).getD j []):=fun i j hi hj=>by
   match i,j,hi,hj with
   | 0,0,_,_=>exact (acI u0).symm
   | 0,1,_,_=>rfl
   | 0,2,_,_=>rfl
   | 1,0,_,_=>rfl
   | 1,1,_,_=>exact (acI u1).symm
   | 1,2,_,_=>rfl
   | 2,0,_,_=>rfl
   | 2,1,_,_=>rfl
   | 2,2,_,_=>exact (acI u2).symm
  exact agW rfl aou hb (all3 _ _ _ _ _ _ (amy hb)) ala
theorem ahF {uss:List (List Int)} (h:uss.length = 4):aaV uss ∈ ag5 ∧ (aaV uss).Perm (List.range 4) ∧ (abJ uss).Pairwise leU:=by
 match uss,h with
 | [u0,u1,u2,u3],_ =>
  have hb:∀ i j,i < 4 → j < 4 → mt4 (HT.lexLt u0 u1) (HT.lexLt u0 u2) (HT.lexLt u0 u3) (HT.lexLt u1 u0) (HT.lexLt u1 u2) (HT.lexLt u1 u3) (HT.lexLt u2 u0) (HT.lexLt u2 u1) (HT.lexLt u2 u3) (HT.lexLt u3 u0) (HT.lexLt u3 u1) (HT.lexLt u3 u2) i j = HT.lexLt (([u0,u1,u2,u3]:List (List Int)).getD i []) (([u0,u1,u2,u3]:List (List Int)).getD j []):=fun i j hi hj=>by
   match i,j,hi,hj with
   | 0,0,_,_=>exact (acI u0).symm
   | 0,1,_,_=>rfl
   | 0,2,_,_=>rfl
   | 0,3,_,_=>rfl
   | 1,0,_,_=>rfl
   | 1,1,_,_=>exact (acI u1).symm
   | 1,2,_,_=>rfl
   | 1,3,_,_=>rfl
   | 2,0,_,_=>rfl
   | 2,1,_,_=>rfl
   | 2,2,_,_=>exact (acI u2).symm
   | 2,3,_,_=>rfl
   | 3,0,_,_=>rfl
   | 3,1,_,_=>rfl
   | 3,2,_,_=>rfl
   | 3,3,_,_=>exact (acI u3).symm
  exact agW rfl apa hb (all4 _ _ _ _ _ _ _ _ _ _ _ _ (amy hb)) ak1
theorem ab8 {uss:List (List Int)} (h:uss.length = 3 ∨ uss.length = 4):(abJ uss).Perm uss ∧ (abJ uss).Pairwise leU:=by
 have key:∀ n,uss.length = n → (aaV uss).Perm (List.range n) → (abJ uss).Perm uss:=fun n hn hp=>by
  have e:(List.range n).map (fun i=>uss.getD i []) = uss:=by
   refine List.ext_getElem (by simp [hn]) fun i h1 h2=>?_
   have hi:i < uss.length:=h2
   simp [List.getD,hi]
  have:=hp.map (fun i=>uss.getD i [])
  rw [e] at this
  exact this
 rcases h with h | h
 ·obtain ⟨_,hp,hs⟩:=aht h
  exact ⟨key 3 h hp,hs⟩
 ·obtain ⟨_,hp,hs⟩:=ahF h
  exact ⟨key 4 h hp,hs⟩
theorem af9 {A B:List (List Int)} (hp:A.Perm B) (ha:A.Pairwise leU) (hb:B.Pairwise leU):A = B :=
 hp.eq_of_pairwise (fun u v _ _ h g=>akV g h) ha hb
theorem af4 {A B:List (List Int)} (hp:A.Perm B) (h:B.length = 3 ∨ B.length = 4):abJ A = abJ B:=by
 obtain ⟨p1,s1⟩:=ab8 (uss:=A) (by rw [hp.length_eq]; exact h)
 obtain ⟨p2,s2⟩:=ab8 h
 exact af9 (p1.trans (hp.trans p2.symm)) s1 s2
end L2
namespace L2
open PySem PySem.Spec PyProof.Rows Bn
theorem anM {X:Cx} {sc1 sc:Scope} {own1 own:List Str} {cap1 cap:List (Nat × Str)} {C:Addr} {s₀:Shared} {H₀:Hp} {ex:List Addr} (so:Scope) (hso:X.env.scope = so) (hk:so.kind = .function) (kind:sc.kind = .function) (names:∀ y ∈ sc.names,y.2 = .local → sc.names.lookup y.1 = some .local)
  (nocell:∀ y ∈ sc.names,y.2 ≠ .cell) (free:∀ y ∈ sc.names,y.2 = .free → sc1.names.lookup y.1 = some .free ∧ so.names.lookup y.1 = some .cell) (at':∀ p ∈ cap,(cmpN own1 cap1)[p.1]? = some p.2) (hcap:∀ p ∈ cap,sc.names.lookup p.2 = some .free) :
  aeE (adf X sc1 (cmpN own1 cap1) C s₀ H₀ ex) sc own cap :=
 ⟨kind,names,nocell,fun y hy e=>by
  obtain ⟨f1,f2⟩:=free y hy e
  exact acz (env:=X.env) (by rw [hso]; exact hk) f1 (by show X.env.scope.names.lookup y.1 = _; rw [hso]; exact f2),at',hcap⟩
end L2
namespace L2
open PySem PySem.Spec PyProof.Rows Bn
section
variable {M:Model} {A:Around} {E:Value → Shared → Prop} {s:Shared}
theorem agO {scope:Scope} {globals:Addr} {closure:List (Str × Addr)} {qual:Str} {outer:Env} {Q:Env → Shared → Prop}
  (hQ:Q (newEnv scope s.heap.objs.size globals (cellsFrom (s.heap.objs.size + 1) scope.names closure) qual none .none (some outer) builtinsNs) { s with heap:=pushCells (s.heap.push { cls:=.type "dict",data:=.dict #[] }) scope.names }) :
  wpAny M A (newFunctionEnv scope globals closure [] qual none .none (some outer)) Q E s:=by
 simp only [newFunctionEnv,Option.isSome_some,if_true]
 refine wpAny_bind (wpAny_alloc ?_)
 refine wpAny_bind (wpAny_layCells _ (fun name kind cells=>by cases hkc:kind == NameKind.cell <;> simp [hkc]) _ _ _ _ ?_)
 rw [show ({ s with heap:=s.heap.push { cls:=.type "dict",data:=.dict #[] } }:Shared).heap.objs.size = s.heap.objs.size + 1 from Heap.size_push ..]
 refine wpAny_bind ?_
 rw [List.forIn_nil]
 exact wpAny_pure (wpAny_pure hQ)
end
end L2
namespace L2
open PySem PySem.Spec PyProof.Rows Bn
theorem akw:∀ (names:List (Str × NameKind)) (n:Nat) (acc:List (Str × Addr)),(∀ x y c,acc.lookup x = some c → acc.lookup y = some c → x = y) → (∀ x c,acc.lookup x = some c → c < n) →
  ∀ x y c,(cellsFrom n names acc).lookup x = some c → (cellsFrom n names acc).lookup y = some c → x = y
 | [],n,acc,hi,_,x,y,c,e1,e2=>hi x y c e1 e2
 | (name,kind) :: r,n,acc,hi,hb,x,y,c,e1,e2=>by
  unfold cellsFrom at e1 e2
  by_cases k:(kind == NameKind.cell) = true
  ·rw [if_pos k] at e1 e2
   refine akw r (n + 1) _ (fun x y c e1 e2=>?_) (fun x c e=>?_) x y c e1 e2
   ·rw [List.lookup_cons] at e1 e2
    cases wx:x == name with
    | true =>
     cases wy:y == name with
     | true=>rw [beq_iff_eq.mp wx,beq_iff_eq.mp wy]
     | false =>
      rw [wx] at e1
      rw [wy] at e2
      cases e1
      exact absurd (hb y _ e2) (Nat.lt_irrefl _)
    | false =>
     cases wy:y == name with
     | true =>
      rw [wx] at e1
      rw [wy] at e2
      cases e2
      exact absurd (hb x _ e1) (Nat.lt_irrefl _)
     | false =>
      rw [wx] at e1
      rw [wy] at e2
      exact hi x y c e1 e2
   ·rw [List.lookup_cons] at e
    cases wx:x == name with
    | true =>
     rw [wx] at e
     cases e
     exact Nat.lt_succ_self _
    | false =>
     rw [wx] at e
     exact Nat.lt_succ_of_lt (hb x c e)
  ·rw [if_neg k] at e1 e2
   exact akw r n acc hi hb x y c e1 e2
theorem agS {n0:Nat}:∀ (names:List (Str × NameKind)) (n:Nat) (acc:List (Str × Addr)) (x:Str),((∃ c,acc.lookup x = some c ∧ n0 ≤ c) ∨ (x,NameKind.cell) ∈ names) → n0 ≤ n → ∃ c,(cellsFrom n names acc).lookup x = some c ∧ n0 ≤ c
 | [],n,acc,x,h,hn=>by
  rcases h with h | h
  ·exact h
  ·cases h
 | (name,kind) :: r,n,acc,x,h,hn=>by
  unfold cellsFrom
  by_cases k:(kind == NameKind.cell) = true
  ·rw [if_pos k]
   refine agS r (n + 1) _ x ?_ (Nat.le_succ_of_le hn)
   cases w:x == name with
   | true=>exact .inl ⟨n,by rw [List.lookup_cons,w],hn⟩
   | false =>
    rcases h with ⟨c,h,z⟩ | h
    ·exact .inl ⟨c,by rw [List.lookup_cons,w]; exact h,z⟩
    ·rcases List.mem_cons.mp h with z | z
     ·cases z
      simp at w
     ·exact .inr z
  ·rw [if_neg k]
   refine agS r n acc x ?_ hn
   rcases h with h | h
   ·exact .inl h
   ·rcases List.mem_cons.mp h with z | z
    ·cases z
     simp at k
    ·exact .inr z
theorem ahq {n0:Nat}:∀ (names:List (Str × NameKind)) (n:Nat) (acc:List (Str × Addr)) (x:Str) (c:Addr),n0 ≤ n → (cellsFrom n names acc).lookup x = some c → n0 ≤ c ∨ acc.lookup x = some c
 | [],n,acc,x,c,hn,e=>.inr e
 | (name,kind) :: r,n,acc,x,c,hn,e=>by
  unfold cellsFrom at e
  by_cases k:(kind == NameKind.cell) = true
  ·rw [if_pos k] at e
   rcases ahq r (n + 1) _ x c (Nat.le_succ_of_le hn) e with z | z
   ·exact .inl z
   ·rw [List.lookup_cons] at z
    cases w:x == name with
    | true =>
     rw [w] at z
     cases z
     exact .inl hn
    | false =>
     rw [w] at z
     exact .inr z
  ·rw [if_neg k] at e
   exact ahq r n acc x c hn e
theorem aiz:∀ (names:List (Str × NameKind)) (n:Nat) (acc:List (Str × Addr)) (x:Str),(x,NameKind.cell) ∉ names → (cellsFrom n names acc).lookup x = acc.lookup x
 | [],n,acc,x,h=>rfl
 | (name,kind) :: r,n,acc,x,h=>by
  unfold cellsFrom
  have hr:(x,NameKind.cell) ∉ r:=fun z=>h (List.mem_cons_of_mem _ z)
  by_cases k:(kind == NameKind.cell) = true
  ·rw [if_pos k,aiz r _ _ x hr,List.lookup_cons]
   cases w:x == name with
   | true =>
    refine absurd ?_ h
    have e1:x = name:=by simpa using w
    have e2:kind = .cell:=by simpa using k
    rw [e1,e2]
    exact List.mem_cons_self
   | false=>rfl
  ·rw [if_neg k,aiz r _ _ x hr]
theorem ahM:∀ (names:List (Str × NameKind)) (h:Heap) (acc:List (Str × Addr)),(∀ x c,acc.lookup x = some c → ∃ v,h.IsCell c v) → ∀ x c,(cellsFrom h.objs.size names acc).lookup x = some c → ∃ v,(pushCells h names).IsCell c v
 | [],h,acc,hc,x,c,e=>hc x c e
 | (name,kind) :: r,h,acc,hc,x,c,e=>by
  unfold cellsFrom at e
  unfold pushCells
  by_cases k:(kind == NameKind.cell) = true
  ·rw [if_pos k] at e ⊢
   rw [← Heap.size_push h { cls:=.type "cell",data:=.cell none }] at e
   refine ahM r _ _ (fun y c e=>?_) x c e
   rw [List.lookup_cons] at e
   cases w:y == name with
   | true =>
    rw [w] at e
    cases e
    exact ⟨none,_,Heap.get?_push_size _ rfl,rfl⟩
   | false =>
    rw [w] at e
    obtain ⟨v,z⟩:=hc y c e
    exact ⟨v,z.keeps fun b o e=>Heap.get?_push_of_some _ e⟩
  ·rw [if_neg k] at e ⊢
   exact ahM r h acc hc x c e
theorem afD {env:Env}:∀ {names:List (Str × NameKind)} {x:Str},
  (let l:=(names.map fun (n,k)=>if (k == NameKind.free && env.scope.kind == .function && env.kindOf n == some .cell) then (n,NameKind.cell) else (n,k)).lookup x; l = some .cell ∨ l = some .free) → (x,NameKind.free) ∈ names ∨ (x,NameKind.cell) ∈ names
 | [],x,h=>by
  rcases h with h | h <;> cases h
 | (n,k) :: r,x,h=>by
  dsimp only at h
  rw [List.map_cons] at h
  have ih:=@afD env r x
  by_cases c:(k == NameKind.free && env.scope.kind == .function && env.kindOf n == some .cell) = true
  ·have kf:k = .free:=by
    simp only [Bool.and_eq_true,beq_iff_eq] at c
    exact c.1.1
   dsimp only at h
   rw [if_pos c,List.lookup_cons] at h
   cases w:x == n with
   | true =>
    have hx:x = n:=by simpa using w
    rw [hx,← kf]
    exact .inl List.mem_cons_self
   | false =>
    rw [w] at h
    exact (ih h).imp (List.mem_cons_of_mem _) (List.mem_cons_of_mem _)
  ·dsimp only at h
   rw [if_neg c,List.lookup_cons] at h
   cases w:x == n with
   | true =>
    rw [w] at h
    have hx:x = n:=by simpa using w
    rcases h with h | h
    ·have kf:k = .cell:=Option.some.inj h
     rw [hx,← kf]
     exact .inr List.mem_cons_self
    ·have kf:k = .free:=Option.some.inj h
     rw [hx,← kf]
     exact .inl List.mem_cons_self
   | false =>
    rw [w] at h
    exact (ih h).imp (List.mem_cons_of_mem _) (List.mem_cons_of_mem _)
theorem afU {env:Env}:∀ {names:List (Str × NameKind)} {x:Str},names.lookup x = some .cell →
  (names.map fun (n,k)=>if (k == NameKind.free && env.scope.kind == .function && env.kindOf n == some .cell) then (n,NameKind.cell) else (n,k)).lookup x = some .cell
 | [],x,h=>by cases h
 | (n,k) :: r,x,h=>by
  rw [List.map_cons]
  dsimp only
  rw [List.lookup_cons] at h
  cases w:x == n with
  | true =>
   rw [w] at h
   have kf:k = .cell:=Option.some.inj h
   subst kf
   rw [if_neg (by rw [show (NameKind.cell == NameKind.free) = false from rfl]; simp),List.lookup_cons,w]
  | false =>
   rw [w] at h
   have ih:=@afU env r x h
   by_cases c:(k == NameKind.free && env.scope.kind == .function && env.kindOf n == some .cell) = true
   ·rw [if_pos c,List.lookup_cons,w]
    exact ih
   ·rw [if_neg c,List.lookup_cons,w]
    exact ih
def acH (X:Cx) (sc:Scope) (N:List Str) (C:Addr) (s₀:Shared) (H₀:Hp) (ex:List Addr):Cx where
 prog:=X.prog
 w:=X.w
 K:=X.K
 mg:=X.mg
 base:=X.base
 A:=X.A
 N:=N
 s₀:=s₀
 H₀:=H₀
 env:=compEnvC sc (cellsFrom (C + 1) sc.names (acW X.env sc.names [])) C X.env
 outer:=X.stack
 stack:=X.stack
 ex:=ex
 fn:=fun x=>sc.names.lookup x == some .cell
 calm:=X.calm
 pn:=[]
 xe:=fun _ _=>False
structure afp (X:Cx) (sc:Scope) (own:List Str) (cap:List (Nat × Str)):Prop where
 kind:sc.kind = .function
 names:∀ y ∈ sc.names,y.2 = .local → sc.names.lookup y.1 = some .local
 cells:∀ y ∈ sc.names,y.2 = .cell → sc.names.lookup y.1 = some .cell
 free:∀ y ∈ sc.names,y.2 = .free → X.env.kindOf y.1 = some .cell
 at':∀ p ∈ cap,X.N[p.1]? = some p.2
 cap:∀ p ∈ cap,sc.names.lookup p.2 = some .free
section
variable {X:Cx} {sc:Scope} {own:List Str} {cap:List (Nat × Str)} {pins:List (Addr × Obj)} {σ:St} {H:Hp} {s:Shared} {elt target iter:Expr} {pos pos':Pos} {wi:TI} {g:TG} {te:TE} {Q:VK}
theorem afp.has (k:afp X sc own cap) (ok:X.Ok):∀ p ∈ sc.names,p.2 = .free → ∃ c,X.env.cells.lookup p.1 = some c:=fun p hp e=>ok.has p.1 (.inl (k.free p hp e))
theorem Inv.cmpC (k:afp X sc own cap) {h4:Heap} {fp:List Addr} {t':Nat} (I:Inv X pins σ H s) (hf:∀ b ∈ fp,FpOk X pins H b) (hlt:∀ b ∈ fp,b < s.heap.objs.size)
  (e4:h4 = pushCells (s.heap.push { cls:=.type "dict",data:=.dict #[] }) sc.names):Inv (acH X sc (cmpN own cap) s.heap.objs.size s H fp) [] (aef own cap σ) H { s with heap:=h4,toks:=t' }:=by
 have kp:∀ b o,s.heap.get? b = some o → h4.get? b = some o:=fun b o e=>by
  rw [e4]
  exact pushCells_keeps _ _ b o (Heap.get?_push_of_some _ e)
 have hns:h4.Ns s.heap.objs.size (fun _=>none):=by
  rw [e4]
  exact (Heap.Ns.new ..).keeps fun b o e=>pushCells_keeps _ _ b o e
 have hcl:∀ y c,(acW X.env sc.names []).lookup y = some c → X.env.cells.lookup y = some c:=fun y c e=>by
  rcases adw sc.names [] (k.has I.ok) y c e with z | z
  ·cases z
  ·exact z
 have clt:∀ y c,X.env.cells.lookup y = some c → c < s.heap.objs.size:=fun y c e=>by
  obtain ⟨v,o,ho,_⟩:=I.cell y c e
  exact Heap.lt_size ho
 have hfr:∀ y c,(cellsFrom (s.heap.objs.size + 1) sc.names (acW X.env sc.names [])).lookup y = some c → s.heap.objs.size < c ∨ X.env.cells.lookup y = some c:=fun y c e =>
  (ahq (n0:=s.heap.objs.size + 1) sc.names _ _ y c (Nat.le_refl _) e).imp (fun z=>z) (hcl y c)
 have nst:∀ b ∈ fp,b ∉ frs X.stack:=fun b hb z=>by
  rcases List.mem_cons.mp (I.stkSub b z) with e | e
  ·exact (hf b hb).2.1 e
  ·exact (hf b hb).2.2.1 e
 refine ⟨⟨I.ok.mod,k.kind,I.ok.glob,I.ok.blt,Nat.le_refl _,fun x y c h1 h2=>?_,fun x hx=>?_,fun x c hfn e=>?_,I.ok.hd,I.ok.frames,.inl rfl,fun b hb=>⟨Nat.ne_of_lt (hlt b hb),fun x c e=>?_⟩,
  I.bs,Nat.le_trans I.ok.bsz I.sz,fun b o e hb=>?_,nst,I.stack,I.stkFree⟩,rfl,I.bare,Un.kept kp,⟨_,hns,fun i x v h1 h2 h3=>?_⟩,fun x c e=>?_,I.hok.fresh (Nat.le_refl _),fun x c e=>?_,fun p hp=>absurd (show p ∈ ([]:List (Addr × Obj)) from hp) (by simp),I.hok.kept kp,?_⟩
 ·exact akw sc.names _ _ (fun x y c h1 h2=>I.ok.inj x y c (hcl x c h1) (hcl y c h2)) (fun x c e=>Nat.lt_succ_of_lt (clt x c (hcl x c e))) x y c h1 h2
 ·rcases afD hx with z | z
  ·by_cases m:(x,NameKind.cell) ∈ sc.names
   ·obtain ⟨c,e,_⟩:=agS (n0:=0) sc.names (s.heap.objs.size + 1) (acW X.env sc.names []) x (.inr m) (Nat.zero_le _)
    exact ⟨c,e⟩
   ·obtain ⟨c,e⟩:=acT (env:=X.env) sc.names [] x (.inr z)
    exact ⟨c,(aiz sc.names _ _ x m).trans e⟩
  ·obtain ⟨c,e,_⟩:=agS (n0:=0) sc.names (s.heap.objs.size + 1) (acW X.env sc.names []) x (.inr z) (Nat.zero_le _)
   exact ⟨c,e⟩
 ·have hm:(x,NameKind.cell) ∈ sc.names:=PySem.mem_of_lookup (by simpa [acH] using hfn)
  obtain ⟨c',e',hc'⟩:=agS (n0:=s.heap.objs.size) sc.names (s.heap.objs.size + 1) (acW X.env sc.names []) x (.inr hm) (Nat.le_succ _)
  have:=e'.symm.trans e
  cases this
  exact hc'
 ·rcases hfr x c e with z | z
  ·exact Nat.ne_of_gt (Nat.lt_trans (hlt b hb) z)
  ·exact (hf b hb).2.2.2.2.1 x c z
 ·rcases (hf b hb).2.2.2.1 with z | z
  ·exact I.ok.noex b o e z
  ·exact absurd (Nat.lt_of_lt_of_le (Heap.lt_size (I.ok.bs b o e).1) z) (Nat.lt_irrefl _)
 ·have hN:(cmpN own cap)[i]? = some x:=h1
  unfold cmpN at hN
  unfold aef at h2
  by_cases hi:i < own.length
  ·rw [List.getElem?_append_left (by simpa using hi),List.getElem?_map] at h2
   cases e:own[i]? with
   | none=>rw [e] at h2; cases h2
   | some z=>rw [e] at h2; cases h2
  ·rw [List.getElem?_append_right (by simpa using hi),List.getElem?_map,List.length_map] at h2
   rw [List.getElem?_append_right (by omega),List.getElem?_map] at hN
   cases e:cap[i - own.length]? with
   | none=>rw [e] at h2; cases h2
   | some p =>
    rw [e] at h2 hN
    have hp:p ∈ cap:=List.mem_of_getElem? e
    have hx:p.2 = x:=Option.some.inj hN
    have hv:(σ[p.1]?).join = some v:=Option.some.inj h2
    have hv':σ[p.1]? = some (some v):=by
     cases e2:σ[p.1]? with
     | none=>rw [e2] at hv; cases hv
     | some z=>rw [e2] at hv; exact congrArg some hv
    have fr:=k.cap p hp
    have nc:(p.2,NameKind.cell) ∉ sc.names:=fun z=>by
     have:=k.cells _ z rfl
     rw [fr] at this
     cases this
    have kc:X.env.kindOf p.2 = some .cell:=k.free (p.2,.free) (PySem.mem_of_lookup fr) rfl
    obtain ⟨m0,_,hl⟩:=I.loc
    obtain ⟨u,ru,lk⟩:=hl p.1 p.2 v (k.at' p hp) hv' (.inr (.inl kc))
    refine ⟨u,ru,?_⟩
    rcases lk with ⟨k1,_⟩ | ⟨_,c,ec,cell⟩
    ·rw [kc] at k1
     cases k1
    ·rw [← hx]
     obtain ⟨c',ec'⟩:=acT (env:=X.env) sc.names [] p.2 (.inr (PySem.mem_of_lookup fr))
     have:=(hcl _ _ ec').symm.trans ec
     cases this
     obtain ⟨o,ho,hd⟩:=cell
     exact .inr ⟨.inl (acz I.ok.kind fr kc),c,(aiz sc.names _ _ p.2 nc).trans ec',o,kp c o ho,hd⟩
 ·show ∃ v,h4.IsCell c v
  rw [e4]
  refine ahM sc.names _ (acW X.env sc.names []) (fun y c e=>?_) x c (by rw [Heap.size_push]; exact e)
  obtain ⟨v,z⟩:=I.cell y c (hcl y c e)
  exact ⟨v,z.keeps fun b o e=>Heap.get?_push_of_some _ e⟩
 ·rcases hfr x c e with z | z
  ·exact I.hok.fresh (Nat.le_of_lt z)
  ·exact I.freeC x c z
 ·unfold aef
  show _ = (cmpN own cap).length
  unfold cmpN
  rw [List.length_append,List.length_append,List.length_map,List.length_map,List.length_map]
theorem Inv.uncmpC {s3 s':Shared} {H3 H':Hp} {N:List Str} {σ':St} {C:Addr} {fp:List Addr} {pl:List (Addr × Obj)} (I:Inv X pins σ H s) (hf:∀ b ∈ fp,FpOk X pins H b) (u:Un (frs X.stack) fp H H3 s.heap s3.heap) (os:s3.os = s.os)
  (J:Inv (acH X sc N C s3 H3 fp) pl σ' H' s'):Inv X pins σ H' s':=by
 have os':s'.os = s.os:=(show s'.os = s3.os from J.os).trans os
 refine I.call' (ch:=fp) os' (u.trans J.base) J.hok J.bare fun b hb=>?_
 obtain ⟨_,f1,_,f3,f4,f5⟩:=hf b hb
 exact ⟨f3,f1,f4,f5⟩
theorem ajc {use:Option (Value → Sem Unit)} {Qf:Value → Shared → Prop} (k:afp X sc own cap) (hi:PI X target iter wi) (hc:X.calm = true)
  (hg:∀ C s₀ H₀ ex,PG (acH X sc (cmpN own cap) C s₀ H₀ ex) target g) (he:∀ C s₀ H₀ ex,PE (acH X sc (cmpN own cap) C s₀ H₀ ex) elt te) (I:Inv X pins σ H s) (h:ajH own cap wi g te σ H Q)
  (fin:∀ D C s' H' m,Inv X pins σ H' s' → FpOk X pins H' C → s'.heap.Ns C m → Q (.ref D) H' → compPost (model X.prog X.w) X.A X.xe use Qf (.ref D) C (.ok .next) s')
  (hs:∀ x,foldedSetIterable iter X.env x = pure x) :
  wpAny (model X.prog X.w) X.A (comprehension (.ListComp elt [⟨target,iter,[],0⟩] sc pos) sc X.env pos' (newList []) false (eval iter X.env) use) Qf X.xe s:=by
 refine wpAny_comprehension_free (use:=use) rfl hs (aj0 (k.has I.ok)) k.kind k.names ?_
 refine thn (hi pins s σ H _ I h) fun v s1 h1=>thn h1 fun itv s2 h2=>?_
 obtain ⟨it,fp,tn,J,H2,e,I2,T,st2,f2,hW⟩:=h2
 subst e
 refine wpAny_newObj_type (agO ?_)
 have hsz:(s2.heap.push { cls:=.type "list",data:=.seq ([]:List Value).toArray }).objs.size = s2.heap.objs.size + 1:=Heap.size_push ..
 have I3:Inv X pins σ (upd H2 s2.heap.objs.size (.lst [])) { s2 with heap:=s2.heap.push { cls:=.type "list",data:=.seq ([]:List Value).toArray },toks:=s2.toks }:=I2.lnew (ys:=[]) (its:=[]) .nil (Nat.zero_le _)
 have hD:H2 s2.heap.objs.size = none:=I2.fresh
 have ltf:∀ b ∈ fp,b < s2.heap.objs.size:=fun b hb=>by
  obtain ⟨o,ho,_⟩:=T.obj _ _ st2 b hb
  exact Heap.lt_size ho
 have f3:∀ b ∈ fp,FpOk X pins (upd H2 s2.heap.objs.size (.lst [])) b:=fun b hb=>⟨by rw [aaQ (Nat.ne_of_lt (ltf b hb))]; exact (f2 b hb).1,(f2 b hb).2⟩
 have un:Un (frs X.stack) fp H2 (upd H2 s2.heap.objs.size (.lst [])) s2.heap (s2.heap.push { cls:=.type "list",data:=.seq ([]:List Value).toArray }):=Un.laid (fun b u q=>Heap.get?_push_of_some _ q) (Nat.le_refl _) hD
 have kp:∀ b o,(s2.heap.push { cls:=.type "list",data:=.seq ([]:List Value).toArray }).get? b = some o → (pushCells ((s2.heap.push { cls:=.type "list",data:=.seq ([]:List Value).toArray }).push { cls:=.type "dict",data:=.dict #[] }) sc.names).get? b = some o:=fun b o q=>pushCells_keeps _ _ b o (Heap.get?_push_of_some _ q)
 have J0:=I3.cmpC (t':=s2.toks) k f3 (fun b hb=>Nat.lt_of_lt_of_le (ltf b hb) (by rw [Heap.size_push]; exact Nat.le_succ _)) rfl
 have stat:∀ {H':Hp},(∀ b ∈ fp,H' b = none) → ∀ b ∈ fp,FpOk (acH X sc (cmpN own cap) (s2.heap.push { cls:=.type "list",data:=.seq ([]:List Value).toArray }).objs.size { s2 with heap:=s2.heap.push { cls:=.type "list",data:=.seq ([]:List Value).toArray },toks:=s2.toks } (upd H2 s2.heap.objs.size (.lst [])) fp) [] H' b:=fun hn b hb =>
  ⟨hn b hb,(J0.ok.exf b hb).1,J0.ok.exfs b hb,.inl hb,(J0.ok.exf b hb).2,fun p hp=>absurd (show p ∈ ([]:List (Addr × Obj)) from hp) (by simp)⟩
 have st4:tn 0 (pushCells ((s2.heap.push { cls:=.type "list",data:=.seq ([]:List Value).toArray }).push { cls:=.type "dict",data:=.dict #[] }) sc.names):=T.keep _ _ _ st2 fun b hb o q=>kp b o (Heap.get?_push_of_some _ q)
 have fr0:∀ b ∈ fp,(upd H2 s2.heap.objs.size (.lst [])) b = none:=fun b hb=>(f3 b hb).1
 have loop:codeAny (model X.prog X.w) X.A (.compLoop (.ListComp elt [⟨target,iter,[],0⟩] sc pos) 0 (.ref it) (.ref s2.heap.objs.size) (compEnvC sc (cellsFrom ((s2.heap.push { cls:=.type "list",data:=.seq ([]:List Value).toArray }).objs.size + 1) sc.names (acW X.env sc.names [])) (s2.heap.push { cls:=.type "list",data:=.seq ([]:List Value).toArray }).objs.size X.env))
   (compPost (model X.prog X.w) X.A X.xe use Qf (.ref s2.heap.objs.size) (s2.heap.push { cls:=.type "list",data:=.seq ([]:List Value).toArray }).objs.size) { s2 with heap:=(pushCells ((s2.heap.push { cls:=.type "list",data:=.seq ([]:List Value).toArray }).push { cls:=.type "dict",data:=.dict #[] }) sc.names),toks:=s2.toks }:=by
  obtain ⟨W,⟨m0,w0⟩,turn⟩:=hW s2.heap.objs.size hD
  refine ahm (fun n s'=>∃ i σ' H' ys,Inv (acH X sc (cmpN own cap) (s2.heap.push { cls:=.type "list",data:=.seq ([]:List Value).toArray }).objs.size { s2 with heap:=s2.heap.push { cls:=.type "list",data:=.seq ([]:List Value).toArray },toks:=s2.toks } (upd H2 s2.heap.objs.size (.lst [])) fp) [] σ' H' s' ∧ tn i s'.heap ∧ (∀ b ∈ fp,H' b = none) ∧ W i n σ' H' ys) ?_ m0
   ⟨0,_,_,[],J0,st4,fr0,w0⟩
  rintro n s5 ⟨i,σ5,H5,ys,I5,st5,fr5,w5⟩
  obtain ⟨hD5,w5⟩:=turn i n σ5 H5 ys w5
  rcases w5 with ⟨stop,qn⟩ | ⟨go,hlt,step⟩
  ·refine thn (T.done (acH X sc (cmpN own cap) (s2.heap.push { cls:=.type "list",data:=.seq ([]:List Value).toArray }).objs.size { s2 with heap:=s2.heap.push { cls:=.type "list",data:=.seq ([]:List Value).toArray },toks:=s2.toks } (upd H2 s2.heap.objs.size (.lst [])) fp) rfl rfl rfl hc i [] s5 σ5 H5 _ I5 (stat fr5) st5 stop) fun r s6 ⟨hr,I6⟩=>?_
   subst hr
   obtain ⟨m,hn,_⟩:=id I6.loc
   exact fin _ _ s6 H5 m (I2.uncmpC (s3:={ s2 with heap:=s2.heap.push { cls:=.type "list",data:=.seq ([]:List Value).toArray },toks:=s2.toks }) f2 un rfl I6) (I3.fpOk (Nat.le_refl _) I6.free) hn qn
  ·refine thn (T.item (acH X sc (cmpN own cap) (s2.heap.push { cls:=.type "list",data:=.seq ([]:List Value).toArray }).objs.size { s2 with heap:=s2.heap.push { cls:=.type "list",data:=.seq ([]:List Value).toArray },toks:=s2.toks } (upd H2 s2.heap.objs.size (.lst [])) fp) rfl rfl rfl hc i [] s5 σ5 H5 _ I5 (stat fr5) st5 go) fun r s6 ⟨u,hr,h6⟩=>?_
   subst hr
   refine thn h6 fun _ s7 ⟨x,H7,I7,r7,y7,st7,fr7⟩=>?_
   have I7':=I7.pinned (stat fr7) (T.obj _ _ st7)
   refine thn (hg _ _ _ _ _ s7 σ5 H7 x u _ I7' r7 (step x H7 y7)) fun _ s8 ⟨σ8,H8,I8,q8⟩=>?_
   refine thn (he _ _ _ _ _ s8 σ8 H8 _ I8 q8) fun v9 s9 ⟨y,H9,I9,r9,hD9,m',hm,w9⟩=>?_
   refine thn (adV _ s9 σ8 H9 (.ref s2.heap.objs.size) [y] (.ref s2.heap.objs.size) [v9] (fun _ H'=>H' = upd H9 s2.heap.objs.size (.lst (ys ++ [y]))) I9 rfl (.cons r9 .nil) ⟨_,ys,y,rfl,rfl,hD9,hlt,rfl⟩) fun _ s10 ⟨_,H10,I10,_,q10⟩=>?_
   subst q10
   refine ⟨m',hm,i + 1,σ8,_,_,I10.unpinned,T.keep _ _ _ st7 fun b hb o q=>(I10.pin (b,o) (List.mem_append_right _ (List.mem_append_right _ (aci hb q)))).1,fun b hb=>?_,w9⟩
   obtain ⟨o,q,d⟩:=T.obj _ _ st7 b hb
   exact (I10.pin (b,o) (List.mem_append_right _ (List.mem_append_right _ (aci hb q)))).2.1
 exact codeAny_compStart_list loop (T.self _ 0 _ _ _ st4 loop)
theorem alJ (k:afp X sc own cap) (hi:PI X target iter wi) (hc:X.calm = true)
  (hg:∀ C s₀ H₀ ex,PG (acH X sc (cmpN own cap) C s₀ H₀ ex) target g) (he:∀ C s₀ H₀ ex,PE (acH X sc (cmpN own cap) C s₀ H₀ ex) elt te)
  (hs:∀ x,foldedSetIterable iter X.env x = pure x:=by intro _; rfl):PE X (.ListComp elt [⟨target,iter,[],0⟩] sc pos) (ajH own cap wi g te):=by
 intro pins s σ H Q I h
 rw [eval_ListComp]
 refine ajc (use:=none) k hi hc hg he I h (fun D C s' H' m I' fC hn q=>?_) hs
 refine ⟨m,hn,fun h' sb=>⟨.ref D,H',?_,rfl,q⟩⟩
 obtain ⟨f0,f1,f2,f3,f4,f5⟩:=fC
 exact I'.turned (t':=s'.toks) (fun b o hb e=>(sb.2 b hb).trans e) f0 f1 f3 f4 f5
theorem ani {X:Cx} {sc:Scope} {own:List Str} {cap:List (Nat × Str)} (so:Scope) (N:List Str) (hso:X.env.scope = so) (hN:X.N = N) (kind:sc.kind = .function) (names:∀ y ∈ sc.names,y.2 = .local → sc.names.lookup y.1 = some .local)
  (cells:∀ y ∈ sc.names,y.2 = .cell → sc.names.lookup y.1 = some .cell) (free:∀ y ∈ sc.names,y.2 = .free → so.names.lookup y.1 = some .cell) (at':∀ p ∈ cap,N[p.1]? = some p.2) (hcap:∀ p ∈ cap,sc.names.lookup p.2 = some .free):afp X sc own cap :=
 ⟨kind,names,cells,fun y hy e=>by show X.env.scope.names.lookup y.1 = _; rw [hso]; exact free y hy e,fun p hp=>by rw [hN]; exact at' p hp,hcap⟩
theorem ank {X:Cx} {sc1 sc:Scope} {own1 own:List Str} {cap1 cap:List (Nat × Str)} {C:Addr} {s₀:Shared} {H₀:Hp} {ex:List Addr} (so:Scope) (hso:X.env.scope = so) (hk:so.kind = .function) (kind:sc.kind = .function) (names:∀ y ∈ sc.names,y.2 = .local → sc.names.lookup y.1 = some .local)
  (nocell:∀ y ∈ sc.names,y.2 ≠ .cell) (free:∀ y ∈ sc.names,y.2 = .free → sc1.names.lookup y.1 = some .cell ∨ (sc1.names.lookup y.1 = some .free ∧ so.names.lookup y.1 = some .cell)) (at':∀ p ∈ cap,(cmpN own1 cap1)[p.1]? = some p.2) (hcap:∀ p ∈ cap,sc.names.lookup p.2 = some .free) :
  aeE (acH X sc1 (cmpN own1 cap1) C s₀ H₀ ex) sc own cap :=
 ⟨kind,names,nocell,fun y hy e=>by
  rcases free y hy e with f | ⟨f1,f2⟩
  ·exact afU (env:=X.env) f
  ·exact acz (env:=X.env) (by rw [hso]; exact hk) f1 (by show X.env.scope.names.lookup y.1 = _; rw [hso]; exact f2),at',hcap⟩
end
end L2
namespace L2.Pp
open PySem PySem.Spec PyProof.Rows Bn
section
variable {K:PySem.W.Frag} {cl:Str → Addr} {E:XK} {X:Cx} {p q:Ph} {H H':Hp} {S:Sto}
variable {sc:Scope} {own:List Str} {cap:List (Nat × Str)} {elt target iter:Expr} {pos:Pos} {mi:MI} {g:GM} {me:ME}
theorem alY (k:afp X sc own cap) (hi:PIp K cl E X target iter mi) (hc:X.calm = true) (hg:∀ C s₀ H₀ ex,PGp K (acH X sc (cmpN own cap) C s₀ H₀ ex) target g) (he:∀ C s₀ H₀ ex,PEp K cl E0 (acH X sc (cmpN own cap) C s₀ H₀ ex) elt me)
  (hs:∀ x,foldedSetIterable iter X.env x = pure x:=by intro _; rfl):PEp K cl E X (.ListComp elt [⟨target,iter,[],0⟩] sc pos) (aaW own cap mi g me):=by
 intro hK
 refine PE.imp (alJ k (hi hK) hc (fun C s₀ H₀ ex=>hg C s₀ H₀ ex hK) (fun C s₀ H₀ ex=>he C s₀ H₀ ex hK) hs) fun σ H Q ⟨p,S,ρ,s,ev,h⟩=>?_
 exact aaO s ev h fun q H' xs J S' stp sm ev it kk D hD=>afm sm ev it kk hD
end
end L2.Pp
namespace L2.Pp
open PySem PySem.Spec PyProof.Rows Bn
def Pl1 (k:Nat) (S:Sto):Prop:=∀ (j:Nat) (o:SO),S[j]? = some o → j ≠ k → ∃ xs,o = .lst xs
def Pl (S:Sto):Prop:=∀ (j:Nat) (o:SO),S[j]? = some o → ∃ xs,o = .lst xs
section
variable {K:PySem.W.Frag} {cl:Str → Addr} {E:XK} {X:Cx} {a e:Expr} {m:ME} {ms:MA} {pos:Pos} {p q:Ph} {H H':Hp} {S:Sto}
theorem Sim.pushO (s:Sim K p S H) {D:Addr} {o:SO} {ho:HO} (h:H D = none) (mo:Mb ho) (ob:SObj K ⟨p.f ++ [D],fun a=>p.w a ∨ a = D,fun a=>p.c a ∨ a = D⟩ (upd H D ho) D o) :
  let q:Ph:=⟨p.f ++ [D],fun a=>p.w a ∨ a = D,fun a=>p.c a ∨ a = D⟩
  Step p H q (upd H D ho) ∧ Sim K q (S ++ [o]) (upd H D ho):=by
 intro q
 obtain ⟨st0,sm0⟩:=s.res (D:=D) (o:=ho) h mo
 have nf0:D ∉ p.f:=fun z=>s.notin h (s.wc D (s.sub D z))
 refine ⟨⟨st0.wc,st0.mu,⟨[D],rfl⟩,st0.mw,st0.mono,fun a x n=>?_,st0.nw,st0.nc,st0.keep⟩,?_,by simp [q,s.len],fun a x=>?_,sm0.wc,sm0.mu,fun k a u e1 e2=>?_⟩
 ·rcases List.mem_append.mp x with z | z
  ·exact absurd z n
  ·have:a = D:=by simpa using z
   rw [this]
   exact h
 ·show (p.f ++ [D]).Nodup
  rw [List.nodup_append]
  refine ⟨s.nd,by simp,fun a ha b hb z=>?_⟩
  have:b = D:=by simpa using hb
  exact nf0 (this ▸ z ▸ ha)
 ·rcases List.mem_append.mp x with z | z
  ·exact .inl (s.sub a z)
  ·exact .inr (by simpa using z)
 ·by_cases hk:k < S.length
  ·have e1':p.f[k]? = some a:=by
    have e1:(p.f ++ [D])[k]? = some a:=e1
    rwa [List.getElem?_append_left (by rw [s.len]; exact hk)] at e1
   rw [List.getElem?_append_left hk] at e2
   refine (s.obj k a u e1' e2).mono (fun vs e=>by rw [aaQ (aaX e h)]; exact e) (fun b w f=>⟨⟨.inl w,fun m=>?_⟩,fun vs e=>by rw [aaQ (aaX e h)]; exact e⟩) fun _ _ r=>st0.reps r
   rcases List.mem_append.mp m with z | z
   ·exact f z
   ·have:b = D:=by simpa using z
    exact s.notin h (this ▸ s.wc b w)
  ·have hk':k = S.length:=by
    have:=(List.getElem?_eq_some_iff.mp e2).1
    simp at this
    omega
   subst hk'
   rw [List.getElem?_append_right (Nat.le_refl _),Nat.sub_self] at e2
   have e1:(p.f ++ [D])[S.length]? = some a:=e1
   rw [← s.len,List.getElem?_append_right (Nat.le_refl _),Nat.sub_self] at e1
   cases e1
   cases e2
   exact ob
def anz (xs:List AV) (S:Sto):Res AV:=match (aax S xs).bind aal with
 | some (.lst vs)=>.ok (.ref S.length) (S ++ [.lol [vs]])
 | _=>.fail
def mLol (ms:MA):ME:=fun ρ S=>(ms ρ S).bind anz
theorem ajQ {as:List AV} {xs:List V} {vs:List PV} (s:Sim K p S H) (r:adb K p H as xs) (h:(aax S as).bind aal = some (.lst vs)) :
  ∃ b ws,xs = [.ref b] ∧ (SqL K H b ws ∨ SqT K H b ws) ∧ ws.length ≤ sizeLine ∧ Reps K p.c H vs ws:=by
 cases z:aax S as with
 | none=>rw [z] at h; cases h
 | some us =>
  rw [z] at h
  have rr:=aeT s r z
  cases rr with
  | nil=>cases h
  | cons g t =>
   rename_i u x ut xt
   cases t with
   | cons _ _=>cases u <;> cases h
   | nil =>
    cases u with
    | lst ws =>
     cases h
     obtain ⟨a,ws,rfl,l,z,r⟩:=g.lst
     exact ⟨a,ws,rfl,.inl l,z,r⟩
    | tup ws =>
     cases h
     obtain ⟨a,ws,rfl,l,z,r⟩:=g.tup
     exact ⟨a,ws,rfl,.inr l,z,r⟩
    | _=>cases h
theorem aor {x:Str} {p lp:Pos} (hx:x = "list") (hg:Gl X "list") (hm:X.mg "list" = none) (ha:PAp K cl E X [e] ms) (he:starEach [e] X.env = [(false,eval e X.env)]:=by rfl)
  (hs:starEach [.Call (.Name x p) [e] [] pos] X.env = [(false,eval (.Call (.Name x p) [e] [] pos) X.env)]:=by rfl):PEp K cl E X (.List [.Call (.Name x p) [e] [] pos] lp) (mLol ms):=by
 intro hK
 subst hK hx
 refine PE.imp (akf (adn (ae7 abX hg hm (by decide +kernel) (ha rfl) (by decide) (by decide) he rfl) afF hs)) fun σ H Q ⟨p,S,ρ,s,ev,h⟩=>?_
 refine aaO s ev h fun q H1 as xs S1 st s1 e1 r1 h1=>?_
 unfold anz at h1
 split at h1
 ·rename_i vs hv
  obtain ⟨b,ws,rfl,sq,hl,r⟩:=ajQ s1 r1 hv
  refine ⟨b,ws,rfl,sq,fun l hn=>⟨by show 1 ≤ sizeLine; decide,fun t ht=>?_⟩⟩
  obtain ⟨st2,sm2⟩:=s1.res (D:=l) (o:=.lst ws) hn trivial
  have ne:l ≠ t:=fun z=>by rw [← z,aa6] at ht; cases ht
  have nf:l ∉ q.f:=fun z=>s1.notin hn (s1.wc l (s1.sub l z))
  have st3:=(sm2.res (D:=t) (o:=.lst [.ref l]) ht trivial).1
  have ob:SObj X.K ⟨(q.res l).f ++ [t],fun a=>(q.res l).w a ∨ a = t,fun a=>(q.res l).c a ∨ a = t⟩ (upd (upd H1 l (.lst ws)) t (.lst [.ref l])) t (.lol [vs]):=by
   refine ⟨[l],aa6,by show 1 ≤ sizeLine; decide,by simp,fun c hc=>?_,rfl,fun i ys c e1 e2=>?_⟩
   ·have:c = l:=by simpa using hc
    subst this
    refine ⟨.inl (.inr rfl),fun m=>?_⟩
    rcases List.mem_append.mp m with z | z
    ·exact nf z
    ·exact ne (by simpa using z)
   ·cases i with
    | zero =>
     cases e1
     cases e2
     exact ⟨ws,by rw [aaQ ne,aa6],hl,st3.reps (st2.reps r)⟩
    | succ i=>simp at e1
  obtain ⟨st4,sm4⟩:=sm2.pushO (D:=t) (ho:=.lst [.ref l]) ht trivial ob
  exact h1 _ _ (.ref t) (st2.trans st4) sm4 ⟨t,by show (q.f ++ [t])[S1.length]? = some t; rw [← s1.len,List.getElem?_append_right (Nat.le_refl _),Nat.sub_self]; rfl,rfl⟩
 ·exact h1.elim
def appL (k:Nat) (ys:List AV) (S:Sto):Res AV:=match (aax S ys).bind aal,S[k]? with
 | some (.lst vs),some (.lol xss)=>if xss.length < 16777216 then .ok (.pv .non) (S.set k (.lol (xss ++ [vs]))) else .fail
 | _,_=>.fail
def akZ (m:ME) (ms:MA):ME:=fun ρ S=>(m ρ S).bind fun k S1=>acM k fun k=>(ms ρ S1).bind fun ys S2=>appL k ys S2
theorem Sim.growL (s:Sim K p S H) {k:Nat} {D l:Addr} {xss:List (List PV)} {bs:List Addr} {ys:List PV} {ws:List V} (h:p.f[k]? = some D) (hS:S[k]? = some (.lol xss)) (hn:H l = none) (hl:ws.length ≤ sizeLine) (r:Reps K p.c H ys ws) (hH:H D = some (.lst (bs.map V.ref))) (hz:bs.length < sizeLine) :
  Step p H (p.res l) (upd (upd H l (.lst ws)) D (.lst ((bs ++ [l]).map V.ref))) ∧ Sim K (p.res l) (S.set k (.lol (xss ++ [ys]))) (upd (upd H l (.lst ws)) D (.lst ((bs ++ [l]).map V.ref))):=by
 obtain ⟨st2,sm2⟩:=s.res (D:=l) (o:=.lst ws) hn trivial
 have hk:k < S.length:=(List.getElem?_eq_some_iff.mp hS).1
 have mD:D ∈ p.f:=List.mem_of_getElem? h
 have w:(p.res l).w D:=.inl (s.sub D mD)
 have neD:D ≠ l:=fun z=>by rw [z,hn] at hH; cases hH
 have nl:l ∉ p.f:=fun z=>s.notin hn (s.wc l (s.sub l z))
 have st3:Step (p.res l) (upd H l (.lst ws)) (p.res l) (upd (upd H l (.lst ws)) D (.lst ((bs ++ [l]).map V.ref))):=⟨sm2.wc,sm2.mu,List.prefix_rfl,fun _ h=>h,fun _ h=>h,fun _ h g=>absurd h g,fun _ h g=>absurd h g,fun _ h g=>absurd h g,fun a u e nw=>by
  rw [aaQ (fun z:a = D=>nw (by rw [z]; exact w))]
  exact e⟩
 refine ⟨st2.trans st3,sm2.nd,by rw [List.length_set]; exact sm2.len,sm2.sub,sm2.wc,fun a x=>?_,fun j a o e1 e2=>?_⟩
 ·by_cases z:a = D
  ·rw [z,aa6]
   exact ⟨_,rfl,trivial⟩
  ·rw [aaQ z]
   exact sm2.mu a x
 ·by_cases hj:k = j
  ·subst hj
   have e1:p.f[k]? = some a:=e1
   rw [h] at e1
   cases e1
   rw [List.getElem?_set_self hk] at e2
   cases e2
   obtain ⟨cs,g1,g2,g3,g4,g5,g6⟩:=s.obj k D _ h hS
   rw [hH] at g1
   have ec:bs = cs:=by
    have:=congrArg (fun o=>match o with | some (HO.lst v)=>v | _=>[]) g1
    have:bs.map V.ref = cs.map V.ref:=this
    exact List.map_inj_right (fun x y h=>by cases h; rfl) |>.mp this
   subst ec
   have nb:∀ b ∈ bs,b ≠ l:=fun b hb z=>s.notin hn (z ▸ s.wc b (g4 b hb).1)
   refine ⟨bs ++ [l],aa6,by rw [List.length_append]; exact hz,?_,fun b hb=>?_,by rw [List.length_append,List.length_append,g5]; rfl,fun i xs b e1 e2=>?_⟩
   ·rw [List.nodup_append]
    exact ⟨g3,by simp,fun x hx y hy z=>nb x hx (by rw [z]; simpa using hy)⟩
   ·rcases List.mem_append.mp hb with z | z
    ·exact ⟨.inl (g4 b z).1,(g4 b z).2⟩
    ·have:b = l:=by simpa using z
     subst this
     exact ⟨.inr rfl,nl⟩
   ·by_cases hi:i < bs.length
    ·rw [List.getElem?_append_left hi] at e2
     rw [List.getElem?_append_left (by rw [g5]; exact hi)] at e1
     obtain ⟨vs,h1,h2,h3⟩:=g6 i xs b e1 e2
     have hb:=g4 b (List.mem_of_getElem? e2)
     exact ⟨vs,by rw [aaQ (fun z:b = D=>hb.2 (z ▸ mD)),aaQ (nb b (List.mem_of_getElem? e2))]; exact h1,h2,st3.reps (st2.reps h3)⟩
    ·have hi':i = bs.length:=by
      have:=(List.getElem?_eq_some_iff.mp e2).1
      rw [List.length_append] at this
      have:i < bs.length + 1:=this
      omega
     subst hi'
     rw [List.getElem?_append_right (Nat.le_refl _),Nat.sub_self] at e2
     rw [← g5,List.getElem?_append_right (Nat.le_refl _),Nat.sub_self] at e1
     cases e1
     cases e2
     exact ⟨ws,by rw [aaQ (Ne.symm neD),aa6],hl,st3.reps (st2.reps r)⟩
  ·rw [List.getElem?_set_ne hj] at e2
   have ne:a ≠ D:=fun q=>hj (adr s.nd h (q ▸ e1))
   exact (sm2.obj j a o e1 e2).mono (fun vs e=>by rw [aaQ ne]; exact e) (fun b w f=>⟨⟨w,f⟩,fun vs e=>by rw [aaQ (fun z:b = D=>f (z ▸ mD))]; exact e⟩) fun _ _ r=>st3.reps r
theorem amL {x:Str} {p apos cpos:Pos} (hx:x = "list") (hg:Gl X "list") (hm:X.mg "list" = none) (ho:PEp K cl E X a m) (ha:PAp K cl E X [e] ms) (hbase:attributeBase a "append" X.env (eval a X.env) = eval a X.env:=by rfl)
  (hfew:((backTo cpos (starEach [.Call (.Name x p) [e] [] pos] X.env)).all (fun x=>!x.1) && (backToKw cpos (keywordEach [] X.env)).all (fun x=>x.1.isSome) && decide (([.Call (.Name x p) [e] [] pos]:List Expr).length + ([]:List Keyword).length + (if ([]:List Keyword).isEmpty then 0 else 1) < 30)) = true:=by rfl)
  (hline:(apos.endLine == cpos.line) = true:=by rfl) (he:starEach [e] X.env = [(false,eval e X.env)]:=by rfl) (hs:starEach [.Call (.Name x p) [e] [] pos] X.env = [(false,eval (.Call (.Name x p) [e] [] pos) X.env)]:=by rfl) :
  PEp K cl E X (.Call (.Attribute a "append" apos) [.Call (.Name x p) [e] [] pos] [] cpos) (akZ m ms):=by
 intro hK
 subst hK hx
 refine PE.imp (am8 PySem.F.plainAttrs_list PySem.F.slot_list_append PySem.F.type_list_append adV (ho rfl) (adn (ae7 abX hg hm (by decide +kernel) (ha rfl) (by decide) (by decide) he rfl) afF hs) hbase hfew hline hs rfl) fun σ H Q ⟨p,S,ρ,s,ev,h⟩=>?_
 refine aaO s ev h fun q H1 k x S1 st s1 e1 r1 h1=>?_
 cases k with
 | pv v=>exact h1.elim
 | ref k =>
  refine ⟨ahx s1 r1,aaO s1 e1 h1 fun q2 H2 ys xs S2 st2 s2 e2 r2 h2=>?_⟩
  obtain ⟨a,ea,rfl⟩:=st2.repA r1
  unfold appL at h2
  split at h2
  ·rename_i vs xss hv hS
   obtain ⟨b,ws,rfl,sq,hl,r⟩:=ajQ s2 r2 hv
   split at h2
   ·rename_i hz
    refine ⟨b,ws,rfl,sq,fun l hn=>?_⟩
    obtain ⟨bs,g1,g2,g3,g4,g5,g6⟩:=s2.obj k a _ ea hS
    have hzz:=abb
    have neA:a ≠ l:=fun z=>by rw [z,hn] at g1; cases g1
    obtain ⟨st3,sm3⟩:=s2.growL ea hS hn hl r g1 (by rw [← g5]; omega)
    refine ⟨a,bs.map V.ref,.ref l,rfl,rfl,by rw [aaQ neA]; exact g1,by rw [List.length_map,← g5]; omega,?_⟩
    have:=h2 _ _ .non st3 sm3 (by show Rep X.K (q2.res l).c (upd (upd H2 l (.lst ws)) a (.lst ((bs ++ [l]).map V.ref))) .non .non; exact abL (v:=.non) rfl)
    rw [List.map_append] at this
    exact this
   ·exact h2.elim
  ·exact h2.elim
def alI (m:Int) (xs:List PV):Option (List PV):=match ixN xs.length m with
 | some j=>match xs[j]? with
  | some (.int v)=>some (xs.set j (.int (1 - v)))
  | _=>none
 | none=>none
def ajl (m:Int):List (List PV) → Option (List (List PV))
 | []=>some []
 | xs :: r=>match alI m xs,ajl m r with
  | some y,some ys=>some (y :: ys)
  | _,_=>none
theorem ahf {m:Int}:∀ {xss yss:List (List PV)},ajl m xss = some yss → xss.length = yss.length ∧ ∀ (i:Nat) (xs:List PV),xss[i]? = some xs → ∃ ys:List PV,yss[i]? = some ys ∧ alI m xs = some ys
 | [],yss,e=>by
  cases e
  exact ⟨rfl,fun i xs h=>by simp at h⟩
 | xs :: r,yss,e=>by
  unfold ajl at e
  split at e
  ·rename_i y ys h1 h2
   cases e
   obtain ⟨l,g⟩:=ahf h2
   refine ⟨by rw [List.length_cons,List.length_cons,l],fun i zs h=>?_⟩
   cases i with
   | zero =>
    cases h
    exact ⟨y,rfl,h1⟩
   | succ i=>simpa using g i zs (by simpa using h)
  ·cases e
open Classical in
noncomputable def aiR (ics ic im:Nat):MS:=fun ρ S=>match ρ[ics]?,ρ[im]? with
 | some (some (.ref k)),some (some (.pv (.int m)))=>match S[k]? with
  | some (.lol xss)=>if Pl1 k S ∧ ic < ρ.length then (match ajl m xss with
   | some yss=>.nx (ρ.set ic none) (S.set k (.lol yss))
   | none=>.fail) else .fail
  | _=>.fail
 | _,_=>.fail
theorem Sim.inner (s:Sim K p S H) {k i:Nat} {D b:Addr} {xss:List (List PV)} {bs:List Addr} {ys:List PV} {ws:List V} (h:p.f[k]? = some D) (hS:S[k]? = some (.lol xss)) (pl:Pl1 k S) (hH:H D = some (.lst (bs.map V.ref))) (hb:bs[i]? = some b) (hl:ws.length ≤ sizeLine) (r:Reps K p.c H ys ws) :
  Step p H p (upd H b (.lst ws)) ∧ Sim K p (S.set k (.lol (xss.set i ys))) (upd H b (.lst ws)):=by
 have hk:k < S.length:=(List.getElem?_eq_some_iff.mp hS).1
 have mD:D ∈ p.f:=List.mem_of_getElem? h
 obtain ⟨cs,g1,g2,g3,g4,g5,g6⟩:=s.obj k D _ h hS
 rw [hH] at g1
 have ec:bs = cs:=by
  have:=congrArg (fun o=>match o with | some (HO.lst v)=>v | _=>[]) g1
  have:bs.map V.ref = cs.map V.ref:=this
  exact List.map_inj_right (fun x y h=>by cases h; rfl) |>.mp this
 subst ec
 have wb:=g4 b (List.mem_of_getElem? hb)
 have st:Step p H p (upd H b (.lst ws)):=⟨s.wc,s.mu,List.prefix_rfl,fun _ h=>h,fun _ h=>h,fun _ h g=>absurd h g,fun _ h g=>absurd h g,fun _ h g=>absurd h g,fun a u e nw=>by
  rw [aaQ (fun z:a = b=>nw (by rw [z]; exact wb.1))]
  exact e⟩
 refine ⟨st,s.nd,by rw [List.length_set]; exact s.len,s.sub,s.wc,fun a x=>?_,fun j a o e1 e2=>?_⟩
 ·by_cases z:a = b
  ·rw [z,aa6]
   exact ⟨_,rfl,trivial⟩
  ·rw [aaQ z]
   exact s.mu a x
 ·have ne:a ≠ b:=fun z=>wb.2 (z ▸ List.mem_of_getElem? e1)
  by_cases hj:k = j
  ·subst hj
   rw [h] at e1
   cases e1
   rw [List.getElem?_set_self hk] at e2
   cases e2
   refine ⟨bs,by rw [aaQ ne]; exact hH,g2,g3,g4,by rw [List.length_set]; exact g5,fun i' xs c e1 e2=>?_⟩
   by_cases hi:i = i'
   ·subst hi
    rw [hb] at e2
    cases e2
    have hx:i < xss.length:=by
     rw [g5]
     exact (List.getElem?_eq_some_iff.mp hb).1
    rw [List.getElem?_set_self hx] at e1
    cases e1
    exact ⟨ws,aa6,hl,st.reps r⟩
   ·rw [List.getElem?_set_ne hi] at e1
    obtain ⟨vs,h1,h2,h3⟩:=g6 i' xs c e1 e2
    exact ⟨vs,by rw [aaQ (fun z:c = b=>hi (adr g3 hb (z ▸ e2)))]; exact h1,h2,st.reps h3⟩
  ·rw [List.getElem?_set_ne hj] at e2
   obtain ⟨xs,rfl⟩:=pl j o e2 (Ne.symm hj)
   obtain ⟨vs,e,l,g⟩:=s.obj j a _ e1 e2
   exact ⟨vs,by rw [aaQ ne]; exact e,l,st.reps g⟩
theorem al9 {α:Type} {ys xs:List α} {i:Nat} {y:α} (l:xs.length = ys.length) (h:ys[i]? = some y):(ys.take i ++ xs.drop i).set i y = ys.take (i + 1) ++ xs.drop (i + 1):=by
 have hi:i < ys.length:=(List.getElem?_eq_some_iff.mp h).1
 have hx:i < xs.length:=by omega
 have e:ys[i] = y:=(List.getElem?_eq_some_iff.mp h).2
 rw [List.drop_eq_getElem_cons hx,List.set_append,if_neg (by rw [List.length_take]; omega),List.length_take,Nat.min_eq_left (Nat.le_of_lt hi),Nat.sub_self,List.set_cons_zero,List.take_succ_eq_append_getElem hi,e,List.append_assoc]
 rfl
theorem ah2 {α:Type} {l:List α} {i:Nat} {a b:α}:(l.set i a).set i b = l.set i b:=by simp
theorem amG {ics ic im:Nat} {c cs mm:Str} {p1 p2 p3 p4 p5 p6 p7 p8 p9 apos:Pos} {j:Nat} (hp:PassesOwn (model X.prog X.w) X.A X.env X.xe) (hc:X.calm = true) (hN:X.N.Nodup) (h1:X.N[ics]? = some cs) (h2:X.N[ic]? = some c) (h3:X.N[im]? = some mm)
  (v1:Vis X.env.scope cs) (v2:Loc X.env.scope c) (v3:Vis X.env.scope mm) (ne1:ics ≠ ic) (ne2:im ≠ ic)
  (ha:∀ v,assign (.Subscript (.Name c p3) (.Name mm p4) p5) X.env v = (do
   let ov ← holding [v] (eval (.Name c p3) X.env)
   let iv ← holding [v,ov] (eval (.Name mm p4) X.env)
   standAt p5
   holding [v,ov,iv] (setItem ov iv v)
   release [v,ov,iv] []):=by intro _; rfl)
  (hs:swapsWithSole [.Subscript (.Name c p3) (.Name mm p4) p5] (.BinOp (.Constant (.int 1) j p6) .Sub (.Subscript (.Name c p7) (.Name mm p8) p9) p2) apos.line X.env = pure false:=by rfl) (hw:swappedStores [.Subscript (.Name c p3) (.Name mm p4) p5] (.BinOp (.Constant (.int 1) j p6) .Sub (.Subscript (.Name c p7) (.Name mm p8) p9) p2) X.env = pure none:=by rfl)
  (ht:(assignEach [.Subscript (.Name c p3) (.Name mm p4) p5] X.env).map (·.2) = [assign (.Subscript (.Name c p3) (.Name mm p4) p5) X.env]:=by rfl)
  (hpl:ahv (.Name mm p8):=by intro _ _; rfl)
  (d1:(cs == ("__debug__":Str)) = false:=by decide) (d2:(c == ("__debug__":Str)) = false:=by decide) (d3:(mm == ("__debug__":Str)) = false:=by decide)
  (k1:(cs == ("__classdict__":Str)) = false:=by decide) (k2:(c == ("__classdict__":Str)) = false:=by decide) (k3:(mm == ("__classdict__":Str)) = false:=by decide)
  (hf:X.fn c = true ∨ X.env.scope.names.lookup c = some .local:=by first | exact .inl rfl | exact .inr rfl | assumption)
  (hfs:∀ x,foldedSetIterable (.Name cs p1) X.env x = pure x:=by intro _; rfl) {cp:Pos} :
  PSp K cl E X (.For (.Name c cp) (.Name cs p1) [.Assign [.Subscript (.Name c p3) (.Name mm p4) p5] (.BinOp (.Constant (.int 1) j p6) .Sub (.Subscript (.Name c p7) (.Name mm p8) p9) p2) apos] [] pos) (aiR ics ic im):=by
 intro hK
 subst hK
 have vc:Vis X.env.scope c:=v2.elim .inl fun z=>.inr (.inl z)
 refine PS.imp (amh hp hc (amt (aeR h1 v1 d1 k1)) (ajG hN h2 v2 hf) (ahS (ami (aoQ ab7 amc (ao2 amv (aeR h2 vc d2 k2) (aeR h3 v3 d3 k3) hpl)) (amu (aeR h2 vc d2 k2) (aeR h3 v3 d3 k3) ah8 ha) hs hw ht)) hfs) fun D σ H ⟨p,S,ρ,s,ev,h⟩=>?_
 unfold aiR at h
 split at h
 ·rename_i k m q1 q2
  split at h
  ·rename_i xss hS
   split at h
   ·rename_i plc
    obtain ⟨pl,hic⟩:=plc
    split at h
    ·rename_i yss hy
     obtain ⟨x,ex,rx⟩:=ev.at_ ics _ q1
     obtain ⟨a,ea,rfl⟩:=rx
     obtain ⟨ll,fl⟩:=ahf hy
     have hk:k < S.length:=(List.getElem?_eq_some_iff.mp hS).1
     obtain ⟨bs0,b1,b2,b3,b4,b5,b6⟩:=s.obj k a _ ea hS
     have plx:∀ zss,Pl1 k (S.set k (.lol zss)):=fun zss j o e n=>by
      rw [List.getElem?_set_ne (Ne.symm n)] at e
      exact pl j o e n
     refine ⟨.ref a,ex,a,rfl,.inl ⟨⟨_,SqL.of b1⟩,fun i n σ1 H1=>n = xss.length - i ∧ i ≤ xss.length ∧ ∃ p1,Step p H p1 H1 ∧ Sim X.K p1 (S.set k (.lol (yss.take i ++ xss.drop i))) H1 ∧ RepE X.K p1 H1 (ρ.set ic none) σ1,⟨_,rfl,Nat.zero_le _,p,s.step,?_,?_⟩,?_⟩⟩
     ·have e0:S.set k (.lol xss) = S:=by
       obtain ⟨g1,g2⟩:=List.getElem?_eq_some_iff.mp hS
       rw [← g2]
       exact List.set_getElem_self g1
      simpa [e0] using s
     ·have:=ev.forget ic ((σ[ic]?).join)
      have e0:σ.set ic (σ[ic]?).join = σ:=by
       by_cases hi:ic < σ.length
       ·rw [List.getElem?_eq_getElem hi]
        exact List.set_getElem_self hi
       ·exact List.set_eq_of_length_le (by omega)
      rwa [e0] at this
     ·rintro i n σ1 H1 ⟨rfl,hi,p1,st1,sm1,ev1⟩
      have e1:=st1.at_ ea
      have hS1:(S.set k (.lol (yss.take i ++ xss.drop i)))[k]? = some (.lol (yss.take i ++ xss.drop i)):=List.getElem?_set_self hk
      obtain ⟨bs,c1,c2,c3,c4,c5,c6⟩:=sm1.obj k a _ e1 hS1
      have lz:(yss.take i ++ xss.drop i).length = xss.length:=by
       rw [List.length_append,List.length_take,List.length_drop]
       omega
      by_cases hlt:i < xss.length
      ·have hib:i < bs.length:=by omega
       obtain ⟨ys,ey,fy⟩:=fl i _ (List.getElem?_eq_getElem hlt)
       have ez:(yss.take i ++ xss.drop i)[i]? = some xss[i]:=by
        rw [List.getElem?_append_right (by rw [List.length_take]; omega),List.length_take,Nat.min_eq_left (by omega),Nat.sub_self,List.getElem?_drop,Nat.add_zero]
        exact List.getElem?_eq_getElem hlt
       obtain ⟨vs,g1,g2,g3⟩:=c6 i _ _ ez (List.getElem?_eq_getElem hib)
       unfold alI at fy
       split at fy
       ·rename_i jj hj
        split at fy
        ·rename_i v hv
         cases fy
         obtain ⟨u,eu,ru⟩:=g3.get hv
         have:u = .int v:=by unfold Rep at ru; exact ru
         subst this
         obtain ⟨xm,exm,rxm⟩:=ev1.at_ im (.pv (.int m)) (by rw [List.getElem?_set_ne (Ne.symm ne2)]; exact q2)
         have:xm = .int m:=by
          have rxm:Rep X.K p1.c H1 (.int m) xm:=rxm
          unfold Rep at rxm
          exact rxm
         subst this
         refine .inr ⟨⟨_,.ref bs[i],SqL.of c1,by rw [List.getElem?_map,List.getElem?_eq_getElem hib]; rfl⟩,fun σ' H'=>∃ p2,Step p H p2 H' ∧ Sim X.K p2 (S.set k (.lol (yss.take (i + 1) ++ xss.drop (i + 1)))) H' ∧ RepE X.K p2 H' (ρ.set ic none) σ',fun σ' H' hn=>⟨xss.length - (i + 1),by omega,rfl,hlt,hn⟩,fun x H2 hy=>?_⟩
         obtain ⟨rfl,hy⟩:=hy
         have ey2:=hy _ (SqL.of c1)
         rw [List.getElem?_map,List.getElem?_eq_getElem hib] at ey2
         cases ey2
         have hic1:ic < σ1.length:=by
          rw [← ev1.len,List.length_set]
          exact hic
         have sc:(σ1.set ic (some (V.ref bs[i])))[ic]? = some (some (.ref bs[i])):=List.getElem?_set_self hic1
         have sm':(σ1.set ic (some (V.ref bs[i])))[im]? = some (some (.int m)):=by rw [List.getElem?_set_ne (Ne.symm ne2)]; exact exm
         have hj':ixN vs.length m = some jj:=by rw [← g3.length]; exact hj
         have ha1:atI vs m = some (.int v):=by unfold atI; rw [hj']; exact eu
         obtain ⟨st2,sm2⟩:=sm1.inner (ys:=xss[i].set jj (.int (1 - v))) (ws:=vs.set jj (.int (1 - v))) e1 hS1 (plx _) c1 (List.getElem?_eq_getElem hib) (by rw [List.length_set]; exact g2) (Reps.set (abL (v:=.int (1 - v)) rfl) jj g3)
         rw [ah2,al9 ll ey] at sm2
         have ev2:=(st2.repE ev1).forget ic (some (V.ref bs[i]))
         rw [ah2] at ev2
         exact ⟨_,sc,_,sm',.inl ⟨_,_,_,_,rfl,rfl,SqL.of g1,ha1,1,v,rfl,rfl,_,sc,_,sm',_,_,_,_,rfl,rfl,g1,hj',p1,st1.trans st2,sm2,ev2⟩⟩
        ·cases fy
       ·cases fy
      ·have e:i = xss.length:=by omega
       subst e
       refine .inl ⟨⟨_,SqL.of c1,by rw [List.length_map]; omega⟩,?_⟩
       rw [List.drop_length,List.append_nil,ll,List.take_length] at sm1
       exact h p1 H1 σ1 st1 sm1 ev1
    ·exact h.elim
   ·exact h.elim
  ·exact h.elim
 ·exact h.elim
open Classical in
noncomputable def aiD (n:Nat):SRes → Res AV
 | .rt (.ref k) S=>match S[k]? with
  | some (.lol xss)=>if ¬ k < n ∧ Pl (S.take n) then .ok (.pv (.lst (xss.map .lst))) (S.take n) else .fail
  | _=>.fail
 | _=>.fail
open Classical in
noncomputable def fnL (np n:Nat) (b:MS) (xs:List AV) (S:Sto):Res AV:=if xs.length = np ∧ Pl S then aiD S.length (b (aak n xs) S) else .fail
def Ph.only (p:Ph):Ph:=⟨p.f,fun a=>a ∈ p.f,p.c⟩
theorem Sim.only (s:Sim K p S H) (pl:Pl S):Sim K p.only S H :=
 ⟨s.nd,s.len,fun _ h=>h,fun a h=>s.wc a (s.sub a h),s.mu,fun k a o e1 e2=>by
  obtain ⟨xs,rfl⟩:=pl k o e2
  exact s.obj k a _ e1 e2⟩
theorem ajb {as:List AV} {vs:List V} (h:adb K p H as vs):adb K p.only H as vs:=by
 induction h with
 | nil=>exact .nil
 | cons h _ ih =>
  refine .cons ?_ ih
  rename_i v x _ _ _
  cases v with
  | pv v=>exact h
  | ref k=>exact h
theorem ahT {r:SRes} {Q:VK} {E:XK} (s:Sim K p S H) (pl:Pl S) (h:abd K cl (RepA K) p H (aiD S.length r) Q E):ab0 K cl p.only H r { nx:=fun _ H'=>Q .non H',rt:=Q } E:=by
 cases r with
 | rt v S1 =>
  cases v with
  | pv v=>exact h.elim
  | ref k =>
   unfold aiD at h
   dsimp only at h
   split at h
   ·rename_i xss hS
    split at h
    ·rename_i hc
     obtain ⟨hk,plt⟩:=hc
     rintro q H' x st sm ⟨a,e,rfl⟩
     have s1:=s.only pl
     obtain ⟨na,hn,nc⟩:=aeL s1 st sm e hk
     obtain ⟨bs,g1,g2,g3,g4,g5,g6⟩:=sm.obj k a _ e hS
     have fresh:∀ b ∈ bs,H b = none:=fun b hb=>st.nw b (g4 b hb).1 fun m=>(g4 b hb).2 (st.pre.subset m)
     obtain ⟨st1,sm1⟩:=s1.cutX (fun b=>b = a ∨ b ∈ bs) st sm (fun b d=>d.elim (fun z=>z ▸ hn) (fresh b)) (.inr fun j yss e hj=>by
      obtain ⟨xs,z⟩:=plt j (.lol yss) (by rw [List.getElem?_take,if_pos hj]; exact e)
      cases z)
     refine h ⟨p.f,fun b=>(q.w b ∧ ¬ (b = a ∨ b ∈ bs)) ∨ p.w b,fun b=>q.c b ∧ ¬ (b = a ∨ b ∈ bs)⟩ H' (.ref a) ⟨s.wc,s.mu,List.prefix_rfl,fun b h=>.inr h,st1.mono,fun _ h g=>absurd h g,fun b h n=>?_,st1.nc,fun b o e n=>st1.keep b o e fun z=>n (s.sub b z)⟩
      ⟨s.nd,sm1.len,fun b h=>.inr (s.sub b h),fun b h=>h.elim (sm1.wc b) fun z=>st1.mono b (s.wc b z),sm1.mu,fun j b o e1 e2=>(sm1.obj j b o e1 e2).mono (fun _ e=>e) (fun c w f=>⟨⟨.inl w,f⟩,fun _ e=>e⟩) fun _ _ r=>r⟩ ?_
     ·rcases h with h | h
      ·exact st1.nw b h fun z=>n (s.sub b z)
      ·exact absurd h n
     ·show Rep K (fun b=>q.c b ∧ ¬ (b = a ∨ b ∈ bs)) H' (.lst (xss.map .lst)) (.ref a)
      unfold Rep
      refine ⟨a,bs.map V.ref,rfl,.inl ⟨g1,fun d=>d.2 (.inl rfl)⟩,by rw [List.length_map]; exact g2,?_⟩
      have go:∀ (yss:List (List PV)) (cs:List Addr),yss.length = cs.length → (∀ c ∈ cs,c ∈ bs) → (∀ (i:Nat) (xs:List PV) (b:Addr),yss[i]? = some xs → cs[i]? = some b → ∃ vs,H' b = some (.lst vs) ∧ vs.length ≤ sizeLine ∧ Reps K q.c H' xs vs) → Reps K (fun b=>q.c b ∧ ¬ (b = a ∨ b ∈ bs)) H' (yss.map .lst) (cs.map V.ref):=by
       intro yss
       induction yss with
       | nil =>
        intro cs l _ _
        have:cs = []:=List.length_eq_zero_iff.mp l.symm
        subst this
        exact .nil
       | cons ys r ih =>
        intro cs l hm hh
        cases cs with
        | nil=>cases l
        | cons c t =>
         obtain ⟨vs,k1,k2,k3⟩:=hh 0 ys c rfl rfl
         refine .cons ?_ (ih t (by simpa using l) (fun c h=>hm c (List.mem_cons_of_mem _ h)) fun i xs b e1 e2=>hh (i + 1) xs b (by simpa using e1) (by simpa using e2))
         unfold Rep
         exact ⟨c,vs,rfl,.inl ⟨k1,fun d=>d.2 (.inr (hm c List.mem_cons_self))⟩,k2,acy (fun b h=>h.1) k3⟩
      exact go xss bs g5 (fun _ h=>h) g6
    ·exact h.elim
   ·exact h.elim
 | nx ρ S1=>exact h.elim
 | exc n S1=>exact h.elim
 | bk ρ S1=>exact h.elim
 | ct ρ S1=>exact h.elim
 | fail=>exact h.elim
end
section
variable {P:Program} {w:World} {K:PySem.W.Frag} {mg:Str → Option Value} {base:Heap} {cl:Str → Addr}
theorem amF {np n:Nat} {b:MS} {vs:List V} {H:Hp} {Q:VK} {E:XK} (h:spP K cl (fnL np n b) vs H Q E):vs.length = np:=by
 obtain ⟨p,S,xs,sm,ra,h⟩:=h
 unfold fnL at h
 split at h
 ·rename_i e
  rw [← ag3 ra,e.1]
 ·exact h.elim
theorem okL {x qual:Str} {st:Stmt} {f:Addr} {fd:FuncData} {N ps:List Str} {k np n:Nat} {b:MS} (F:Fun K x qual st f fd) (S:aaI N ps (aad st)) (hnp:ps.length = np) (hn:N.length = n)
  (hb:∀ (cdv:Value) (A:Around) (outer:List Env) (s:Shared) (H:Hp) (E:XK),Room k (A.deeper (envOfC qual (aad st) s.heap.objs.size f cdv)) → PSsp K cl E0 (cxOf CX0 P w K mg base N qual (aad st) f cdv A outer s H E).nox (aaw st) b) :
  FnOk P w K mg base CX0 (k + 1) f fd ps (spP0 K cl (fnL np n b)):=by
 subst hnp hn
 refine F.ok S (fun vs H Q E h=>amF h) fun cdv A outer s H vs Q E hr h=>⟨_,hb cdv A outer s H E hr rfl,?_⟩
 obtain ⟨p,S,xs,sm,ra,h⟩:=h
 unfold fnL at h
 split at h
 ·rename_i e
  exact ⟨p.only,S,_,sm.only e.2,adv (ajb ra),ahT sm e.2 h⟩
 ·exact h.elim
end
end L2.Pp
namespace L2.Pp
open PySem PySem.Spec PyProof.Rows Bn
end L2.Pp
namespace L2.Pp
open PySem PySem.Spec PyProof.Rows Bn
def Cal (P:Program) (w:World) (K:PySem.W.Frag) (mg:Str → Option Value) (base:Heap) (cl:Str → Addr) (x:Str) (k:Nat) (ps:List Str) (g:FM):Prop:=∃ (a:Addr) (d:FuncData),FnOk P w K mg base CX0 k a d ps (spP0 K cl g) ∧ ac2 K d ps [] ∧ PySem.W.keepIn K (.ref a) = true ∧ mg x = some (.ref a)
section
variable {cl:Str → Addr} {E:XK} {X:Cx} {e:Expr} {es:List Expr} {ms:MA} {pos p:Pos} {k k0:Nat} {ps:List Str} {g:FM} {x:Str}
theorem aaZ (C:Cal X.prog X.w X.K X.mg X.base cl x k ps g) (hr:Room k0 X.A) (hk:k ≤ k0) (hg:Gl X x) (ha:PAp X.K cl E X (e :: es) ms) (hdb:(x == ("__debug__":Str)) = false:=by decide) (he:starEach (e :: es) X.env = (false,eval e X.env) :: starEach es X.env:=by rfl) (hpl:(backTo pos (starEach es X.env)).any (·.1) = false:=by rfl) :
  PEp X.K cl E X (.Call (.Name x p) (e :: es) [] pos) (aae g [] ms):=by
 obtain ⟨a,d,G,b,kk,n⟩:=C
 exact alH G (hr.mono hk) hg n kk b .nil Dv.nil ha hdb he hpl
theorem apS (C:Cal X.prog X.w X.K X.mg X.base cl x k ps g) (hr:Room k0 X.A) (hk:k ≤ k0) (hg:Gl X x) (ha:PAp X.K cl E X (e :: es) ms) (hdb:(x == ("__debug__":Str)) = false:=by decide) (he:starEach (e :: es) X.env = (false,eval e X.env) :: starEach es X.env:=by rfl) (hpl:(backTo pos (starEach es X.env)).any (·.1) = false:=by rfl) :
  PEp X.K cl E X (.Call (.Name x p) (e :: es) [] pos) (aao g [] ms):=by
 obtain ⟨a,d,G,b,kk,n⟩:=C
 exact al8 G (hr.mono hk) hg n kk b .nil Dv.nil ha hdb he hpl
end
end L2.Pp
namespace L2.Pp
open PySem PySem.Spec PyProof.Rows Bn
theorem ai5 (l:Addr) (its:Array Value) (n:Nat) (b:Addr) (jts:Array Value) (k:Nat) (dd:Option Addr) (sl:Array (Option Value)) (h0:¬(!its.isEmpty && Builtin.List.listTooLong (its.size + jts.size)) = true) (h1:its.size ≤ sizeLine) (h2:its.size + jts.size ≤ sizeLine + 1) :
  Meets (Builtin.«list.__iadd__» ⟨[.ref l,.ref b],[]⟩) (fun _ R s=>s.heap.get? l = some ⟨.type "list",none,.seq its n,#[]⟩ ∧ s.heap.get? b = some ⟨.type "list",dd,.seq jts k,sl⟩ ∧ R (.ok (.ret (Value.ref l))) { s with heap:=s.heap.update l (Obj.mapSeq fun x=>x ++ jts),toks:=s.toks }) :=
 .of_wp fun prog w A R s h=>by
  obtain ⟨hp,g,d,tk,os⟩:=s
  obtain ⟨hl,hb,h⟩:=h
  have f1:=PySem.AutoSeq1.idx_int
  have f2:=PySem.AutoSeq1.sub_tuple_tuple
  have f3:=PySem.AutoSeq1.sub_list_list
  have f4:=PySem.AutoSeq1.sub_tuple_list
  have f5:=PySem.AutoSeq1.sub_list_tuple
  have hz':(its ++ jts).size ≤ sizeLine + 1:=by
   rw [Array.size_append]
   exact h2
  wp_walk using (wpAny_updateSeq hl rfl (hz:=h1) (_hz':=hz')),wpAny_loadPart' hl,wpAny_loadPart' hb
  exact ⟨_,rfl,h⟩
section
variable {X:Cx}
def apW (K:PySem.W.Frag):TIp:=fun x y H Q=>∃ l b xs zs,x = .ref l ∧ y = .ref b ∧ H l = some (.lst xs) ∧ SqL K H b zs ∧ xs.length + zs.length ≤ sizeLine ∧ Q (.ref l) (upd H l (.lst (xs ++ zs)))
theorem ape:L2.PIp X .Add (apW X.K):=by
 intro pins s σ H x y v u Q I rx ry h
 obtain ⟨l,b,xs,zs,rfl,rfl,hx,hy,hz,q⟩:=h
 cases rx
 cases ry
 obtain ⟨z,its,n,r1,hl,e⟩:=I.lstM hx
 obtain ⟨jts,r2,p2,_⟩:=I.list hy
 obtain ⟨⟨cls2,dd2,data2,sl2⟩,n2,ho2,hc2,_,hd2⟩:=p2
 simp only at hc2 hd2
 subst hc2 hd2
 have l1:=r1.length
 have l2:=r2.length
 have hsz:its.toArray.size + jts.toArray.size ≤ sizeLine:=by rw [List.size_toArray,List.size_toArray]; omega
 have hlong:¬ (!its.toArray.isEmpty && Builtin.List.listTooLong (its.toArray.size + jts.toArray.size)) = true:=by
  rw [al0 hsz,Bool.and_false]
  exact Bool.false_ne_true
 have ta:s.TypeIs (.ref l) "list":=⟨_,e,rfl⟩
 have tb:s.TypeIs (.ref b) "list":=⟨_,ho2,rfl⟩
 have hf:=PySem.F.slot_list_iadd.lookup
 have hq:isSeqSlot (some (.builtin "list.__iadd__")) = true:=by decide +kernel
 have hfi:fillsInplaceSlot (.type "list") "add" (Operator.Add == .Add) = pure false:=by
  unfold fillsInplaceSlot
  show (typeLookup (.type "list") (dunderI "add") >>= fun fi=>pure (fi.isSome && !isSeqSlot fi)) = pure false
  rw [hf,pure_bind,hq]
  rfl
 have hsi:seqSlot? (.type "list") (dunderI "add") = pure (some (.builtin "list.__iadd__")):=PySem.seqSlot_of hf hq
 unfold inplaceOp
 refine wpAny_holding ?_
 refine wpAny_bind (wpAny_typeOf ta (wpAny_bind (wpAny_of_eq hfi ?_)))
 show wpAny _ _ (if false = true then _ else _) _ _ s
 rw [if_neg Bool.false_ne_true]
 refine wpAny_bind (wpAny_binaryOp1_none (nm:="add") ta tb noFill_list_add ?_)
 refine wpAny_bind (wpAny_of_eq hsi ?_)
 refine wpAny_bind (wpAny_rule ?_)
 refine call_meets PySem.F.slot_list_iadd ⟨_,e,rfl⟩ PySem.F.entry_list_iadd (PySem.F.args_list_iadd_2 _ _) (ai5 l its.toArray n b jts.toArray n2 dd2 sl2 hlong (by rw [List.size_toArray]; omega) (by omega)) ⟨e,ho2,?_⟩
 refine ⟨.ref l,_,I.lset (its':=its ++ jts) hx e (by simp) (r1.append r2) ?_,rfl,q⟩
 rw [List.length_append]
 omega
end
section
variable {K:PySem.W.Frag} {cl:Str → Addr} {E:XK} {X:Cx} {e:Expr} {m:ME} {pos:Pos}
def augL (k:Nat) (ρ:Rho) (v:AV) (S:Sto):SRes:=match v with
 | .pv (.lst ys)=>match S[k]? with
  | some (.lst xs)=>if xs.length + ys.length ≤ 16777216 then .nx ρ (S.set k (.lst (xs ++ ys))) else .fail
  | _=>.fail
 | _=>.fail
def akP (i:Nat) (m:ME):MS:=fun ρ S=>match ρ[i]? with
 | some (some (.ref k))=>SRes.of (m ρ S) (augL k ρ)
 | _=>.fail
theorem alb {i:Nat} {x:Str} {pos':Pos} (hN:X.N.Nodup) (hi:X.N[i]? = some x) (hx:Loc X.env.scope x) (he:PEp K cl E X e m)
  (hf:X.fn x = true ∨ X.env.scope.names.lookup x = some .local:=by first | exact .inl rfl | exact .inr rfl | assumption):PSp K cl E X (.AugAssign (.Name x pos') .Add e pos) (akP i m):=by
 intro hK
 subst hK
 refine PS.imp (an1 hN hi hx (he rfl) ape hf) fun D σ H ⟨p,S,ρ,s,ev,h⟩=>?_
 unfold akP at h
 split at h
 ·rename_i k hx0
  obtain ⟨v,e1,r1⟩:=ev.at_ i _ hx0
  refine ⟨v,e1,acr s ev h fun q H' a b S' stp sm ev' r z=>?_⟩
  obtain ⟨D0,ea,rfl⟩:=stp.repA r1
  unfold augL at z
  split at z
  ·rename_i ys
   obtain ⟨b0,ws,rfl,sq,lw,rw0⟩:=(show RepR X.K q H' (.lst ys) b from .inl r).lst
   split at z
   ·rename_i xs hS
    split at z
    ·rename_i hl
     obtain ⟨vs,h3,l3,r4⟩:=sm.obj k D0 _ ea hS
     have hz:=abb
     have n1:=r4.length
     have n2:=rw0.length
     obtain ⟨st3,sm3⟩:=sm.write ea (List.getElem?_eq_some_iff.mp hS).1 (ps:=xs ++ ys) (vs:=vs ++ ws) (by rw [List.length_append]; omega) (r4.append rw0)
     refine ⟨D0,b0,vs,ws,rfl,rfl,h3,sq,by omega,?_⟩
     have es:σ.set i (some (.ref D0)) = σ:=by
      refine List.ext_getElem? fun j=>?_
      by_cases hj:i = j
      ·subst hj
       rw [List.getElem?_set_self (List.getElem?_eq_some_iff.mp e1).1,e1]
      ·rw [List.getElem?_set_ne hj]
     show D.nx (σ.set i (some (.ref D0))) _
     rw [es]
     exact ab0.nxD (z.mono st3) sm3 (st3.repE ev')
    ·exact z.elim
   ·exact z.elim
  ·exact z.elim
 ·exact h.elim
end
end L2.Pp
namespace L2.Pp
open PySem PySem.Spec PyProof.Rows Bn
section
variable {K:PySem.W.Frag} {cl:Str → Addr} {E:XK} {X:Cx}
variable {a e:Expr} {m:ME} {ms:MA} {pos:Pos}
end
end L2.Pp
namespace L2.Pp
open PySem PySem.Spec PyProof.Rows Bn
section
variable {K:PySem.W.Frag} {cl:Str → Addr} {E:XK} {X:Cx}
end
end L2.Pp
namespace L2.Pp
open PySem
theorem ado:bootBuiltins "len" = some (.builtin "len"):=by decide +kernel
theorem ajX:bootBuiltins "abs" = some (.builtin "abs"):=by decide +kernel
theorem akM:bootBuiltins "all" = some (.builtin "all"):=by decide +kernel
theorem aml:bootBuiltins "sum" = some (.builtin "sum"):=by decide +kernel
theorem ahe:bootBuiltins "sorted" = some (.builtin "sorted"):=by decide +kernel
theorem ajz:bootBuiltins "int" = some (.type "int"):=by decide +kernel
theorem amV:bootBuiltins "bool" = some (.type "bool"):=by decide +kernel
theorem agy:bootBuiltins "list" = some (.type "list"):=by decide +kernel
theorem acb:bootBuiltins "tuple" = some (.type "tuple"):=by decide +kernel
end L2.Pp
set_option Elab.async false
set_option maxRecDepth 100000
set_option maxHeartbeats 4000000
namespace Sc
open PySem L2 Bn L2.Pp
abbrev afL:Stmt:=top 5
abbrev acN:Stmt:=top 6
abbrev acp:Stmt:=top 7
abbrev adN:Stmt:=top 9
abbrev adR:Stmt:=top 10
abbrev abE:Stmt:=top 11
abbrev ahs:Stmt:=top 12
abbrev ads:Stmt:=top 13
abbrev abF:Stmt:=top 14
abbrev afA:Stmt:=top 15
abbrev acU:Stmt:=top 17
abbrev acj:Stmt:=top 19
abbrev abS:Stmt:=top 20
abbrev ac9:Stmt:=top 21
abbrev af0:Stmt:=top 23
abbrev aeg:Stmt:=top 24
abbrev afz:Stmt:=top 25
abbrev acq:Stmt:=top 26
abbrev ady:Stmt:=top 27
abbrev acu:Stmt:=top 28
abbrev aeh:Stmt:=top 29
abbrev acw:Stmt:=top 30
abbrev afb:Stmt:=top 31
abbrev adx:Stmt:=top 32
abbrev ae0:Stmt:=top 33
abbrev aet:Stmt:=top 34
abbrev afe:Stmt:=top 35
abbrev acl:Stmt:=top 36
abbrev abR:Stmt:=top 37
abbrev abk:Stmt:=top 38
abbrev abP:Stmt:=top 39
abbrev abO:Stmt:=top 41
abbrev adY:Stmt:=top 40
abbrev aep:Stmt:=top 42
abbrev aca:Stmt:=top 43
abbrev aeO:Stmt:=top 44
abbrev ack:Stmt:=top 45
abbrev adO:Stmt:=top 46
abbrev adL:Stmt:=top 47
abbrev acS:Stmt:=top 48
abbrev acR:Stmt:=top 49
abbrev acE:Stmt:=top 50
abbrev acY:Stmt:=top 51
abbrev agz:Stmt:=top 52
noncomputable def akd:MS:=(sSeq (sIf (mTst (mBin fGt (mVar 0) (mC (.int 0)))) (sRet (mC (.int 1))) sNil)
 (sSeq (sIf (mTst (mBin fLt (mVar 0) (mC (.int 0)))) (sRet (mUn fNeg (mC (.int 1)))) sNil)
 (sRet (mC (.int 0)))))
noncomputable def ad0:FM:=fnM 1 1 akd
noncomputable def afn:MS:=(sSeq (aeU (mTst (mBin fNe (mVar 1) (mC (.int 0)))) (sSeq (sSet 2 (mBin fMod (mVar 0) (mVar 1)))
 (sSeq (sSet 0 (mVar 1))
 (sSet 1 (mVar 2)))))
 (sRet (mR fAbs (aab (mVar 0) mNil))))
noncomputable def acs:FM:=fnM 2 3 afn
noncomputable def aeP:MS:=(sSeq (sSet 1 (mC (.int 0)))
 (sSeq (sFor (mIt (mVar 0)) (gN 2) (sSet 1 (aae acs [] (aab (mVar 1) (aab (mVar 2) mNil)))))
 (sRet (aaW ["number"] [(1,"common")] (mIt (mVar 0)) (gN 0) (mBin adA (mVar 0) (mVar 1))))))
noncomputable def acP:FM:=fnM 1 3 aeP
noncomputable def aeV:MS:=(sSeq (sIf (mTst (mBin fEq (mVar 1) (mC (.int 0)))) (ahg "NoPoint") sNil)
 (sRet (mR aam (aab (aaW ["number"] [(1,"bottom")] (mIt (aae acP [] (aab (mBin fAdd (mR aal (aab (mVar 0) mNil)) (mN fLst (aab (mVar 1) mNil))) mNil))) (gN 0) (mBin fMul (aae ad0 [] (aab (mVar 1) mNil)) (mVar 0))) mNil))))
noncomputable def aeW:FM:=fnM 2 2 aeV
noncomputable def ahN:MS:=(sSeq (sSet 2 (aaW ["one","other"] [(1,"q"),(0,"p")] (mZip (aab (mSl (mVar 0) mO0 (mO1 (mUn fNeg (mC (.int 1))))) (aab (mSl (mVar 1) mO0 (mO1 (mUn fNeg (mC (.int 1))))) mNil))) (gT 2 (abc (gN 0) (abc (gN 1) acK))) (mBin fAdd (mBin fMul (mVar 0) (mBin fIx (mVar 2) (mUn fNeg (mC (.int 1))))) (mBin fMul (mVar 1) (mBin fIx (mVar 3) (mUn fNeg (mC (.int 1))))))))
 (sRet (aaC aeW [] (aab (mVar 2) (aab (mBin fMul (mBin fIx (mVar 0) (mUn fNeg (mC (.int 1)))) (mBin fIx (mVar 1) (mUn fNeg (mC (.int 1))))) mNil)))))
noncomputable def acv:FM:=fnM 2 3 ahN
noncomputable def ac1:MS:=(sRet (aaW ["near","far"] [(0,"start"),(1,"end")] (mZip (aab (mSl (mVar 0) mO0 (mO1 (mUn fNeg (mC (.int 1))))) (aab (mSl (mVar 1) mO0 (mO1 (mUn fNeg (mC (.int 1))))) mNil))) (gT 2 (abc (gN 0) (abc (gN 1) acK))) (mBin fSub (mBin fMul (mVar 1) (mBin fIx (mVar 2) (mUn fNeg (mC (.int 1))))) (mBin fMul (mVar 0) (mBin fIx (mVar 3) (mUn fNeg (mC (.int 1))))))))
noncomputable def abp:FM:=fnM 2 2 ac1
noncomputable def anb:MS:=(sRet (mR fSum (aab (aaW ["one","other"] [] (mZip (aab (mVar 0) (aab (mVar 1) mNil))) (gT 2 (abc (gN 0) (abc (gN 1) acK))) (mBin fMul (mVar 0) (mVar 1))) mNil)))
noncomputable def ajk:FM:=fnM 2 2 anb
noncomputable def aeF:MS:=(sSeq (sSet 1 (mBin fIx (mVar 0) (mC (.int 0))))
 (sSeq (sIf (mTst (mBin fEq (mR fLen (aab (mVar 0) mNil)) (mC (.int 1)))) (sRet (mN fLst (aab (mUn fNeg (mBin fIx (mVar 1) (mC (.int 1)))) (aab (mBin fIx (mVar 1) (mC (.int 0))) mNil)))) sNil)
 (sSeq (sSet 2 (mBin fIx (mVar 0) (mC (.int 1))))
 (sRet (mN fLst (aab (mBin fSub (mBin fMul (mBin fIx (mVar 1) (mC (.int 1))) (mBin fIx (mVar 2) (mC (.int 2)))) (mBin fMul (mBin fIx (mVar 1) (mC (.int 2))) (mBin fIx (mVar 2) (mC (.int 1))))) (aab (mBin fSub (mBin fMul (mBin fIx (mVar 1) (mC (.int 2))) (mBin fIx (mVar 2) (mC (.int 0)))) (mBin fMul (mBin fIx (mVar 1) (mC (.int 0))) (mBin fIx (mVar 2) (mC (.int 2))))) (aab (mBin fSub (mBin fMul (mBin fIx (mVar 1) (mC (.int 0))) (mBin fIx (mVar 2) (mC (.int 1)))) (mBin fMul (mBin fIx (mVar 1) (mC (.int 1))) (mBin fIx (mVar 2) (mC (.int 0))))) mNil))))))))
noncomputable def acG:FM:=fnM 1 3 aeF
noncomputable def acg:MS:=(sSeq (sSet 1 (aaW ["p"] [(0,"points")] (mIt (mSl (mVar 0) (mO1 (mC (.int 1))) mO0)) (gN 0) (aae abp [] (aab (mBin fIx (mVar 1) (mC (.int 0))) (aab (mVar 0) mNil)))))
 (sRet (aae ajk [] (aab (aae acG [] (aab (mSl (mVar 1) mO0 (mO1 (mUn fNeg (mC (.int 1))))) mNil)) (aab (mBin fIx (mVar 1) (mUn fNeg (mC (.int 1)))) mNil)))))
noncomputable def abn:FM:=fnM 1 2 acg
noncomputable def ah7:MS:=(sRet (aae ad0 [] (aab (aae abn [] (aab (mVar 0) mNil)) mNil)))
noncomputable def ad1:FM:=fnM 1 1 ah7
noncomputable def acQ:MS:=(sSeq (sSet 1 (mR afc (aab (mVar 0) mNil)))
 (sSeq (sSet 2 (aae ad1 [] (aab (mVar 1) mNil)))
 (sSeq (sIf (mTst (mBin fEq (mVar 2) (mC (.int 0)))) (ahg "Flat") sNil)
 (sSeq (sIf (mTst (mBin fLt (mVar 2) (mC (.int 0)))) (sSet 1 (mBin fAdd (mSl (mVar 1) mO0 (mO1 (mUn fNeg (mC (.int 2))))) (mN fLst (aab (mBin fIx (mVar 1) (mUn fNeg (mC (.int 1)))) (aab (mBin fIx (mVar 1) (mUn fNeg (mC (.int 2)))) mNil))))) sNil)
 (sRet (mR aam (aab (mVar 1) mNil)))))))
noncomputable def ab6:FM:=fnM 1 3 acQ
noncomputable def ael:MS:=(sRet (mBin fAdd (mBin fAdd (mSl (mVar 0) mO0 (mO1 (mC (.int 2)))) (mN fTup (aab (mC (.int 0)) mNil))) (mSl (mVar 0) (mO1 (mC (.int 2))) mO0)))
noncomputable def abZ:FM:=fnM 1 1 ael
noncomputable def ab2:MS:=(sIf (mTst (mBin fEq (mBin fIx (mVar 0) (mC (.int 2))) (mC (.int 0)))) (ahg "Flat") sNil)
noncomputable def abB:FM:=fnM 1 1 ab2
noncomputable def aer:MS:=(sSeq (aat (aaC abB [] (aab (mVar 1) mNil)))
 (sSeq (sSet 2 (mNew mNil))
 (sSeq (sFor (mIt (mVar 0)) (gN 3) (sSeq (sSet 4 (aaW ["p"] [] (mIt (mVar 3)) (gN 0) (aae abZ [] (aab (mVar 0) mNil))))
 (sSeq (sSet 5 (mBin fAdd (mVar 4) (aaW ["p"] [(1,"arrow")] (mIt (mVar 4)) (gN 0) (aae acv [] (aab (mVar 0) (aab (mVar 1) mNil))))))
 (akP 2 (aaW ["k"] [(5,"corners")] (aaS (aab (mC (.int 3)) mNil)) (gN 0) (aaC ab6 [] (aab (mSl (mVar 1) (mO1 (mVar 0)) (mO1 (mBin fAdd (mVar 0) (mC (.int 4))))) mNil)))))))
 (sRet (mR aam (aab (mVar 2) mNil))))))
noncomputable def adc:FM:=fnM 2 6 aer
noncomputable def akT:MS:=(sSeq (sSet 1 (mNew mNil))
 (sSeq (sFor (anR (aab (mSl (mVar 0) mO0 (mO1 (mC (.int 63)))) mNil)) (gT 2 (abc (gN 2) (abc (gN 3) acK))) (sIf (mTst (mBin fGe (mVar 3) (mBin fPow (mC (.int 10)) (mC (.int 18))))) (aat (mApp (mVar 1) (aab (mBin fSub (mVar 3) (mBin fPow (mC (.int 10)) (mC (.int 18)))) mNil))) (sSeq (sSet 4 (mBin fMod (mBin fMul (mBin fAdd (mBin fAdd (mBin fAdd (mVar 3) (mBin fMul (mBin fMul (mC (.int 7)) (mVar 2)) (mVar 2))) (mBin fMul (mC (.int 13)) (mVar 2))) (mC (.int 5))) (mC (.int 48271))) (mC (.int 2147483647))))
 (sSeq (sSet 5 (mBin fMod (mBin fMul (mBin fAdd (mBin fAdd (mBin fAdd (mVar 3) (mBin fMul (mBin fMul (mC (.int 11)) (mVar 2)) (mVar 2))) (mBin fMul (mC (.int 17)) (mVar 2))) (mC (.int 3))) (mC (.int 40692))) (mC (.int 2147483399))))
 (sSeq (sSet 6 (mBin fMod (mBin fMul (mBin fAdd (mBin fAdd (mBin fAdd (mVar 3) (mBin fMul (mBin fMul (mC (.int 5)) (mVar 2)) (mVar 2))) (mBin fMul (mC (.int 29)) (mVar 2))) (mC (.int 8))) (mC (.int 39373))) (mC (.int 2147483587))))
 (sSeq (sSet 4 (mBin fMod (mBin fMul (mVar 4) (mC (.int 52021))) (mC (.int 1000000007))))
 (sSeq (sSet 5 (mBin fMod (mBin fMul (mVar 5) (mC (.int 30011))) (mC (.int 998244353))))
 (sSeq (sSet 6 (mBin fMod (mBin fMul (mVar 6) (mC (.int 45989))) (mC (.int 1000000009))))
 (aat (mApp (mVar 1) (aab (mBin fAdd (mBin fMul (mBin fAdd (mBin fMul (mVar 4) (mC (.int 998244353))) (mVar 5)) (mC (.int 1000000009))) (mVar 6)) mNil)))))))))))
 (sRet (mVar 1))))
noncomputable def aew:FM:=fnM 1 7 akT
noncomputable def agu:MS:=(sSeq (aeU (mAnd (mTst (mBin fGt (mR fLen (aab (mVar 0) mNil)) (mC (.int 0)))) (mTst (mBin fEq (mBin fIx (mVar 0) (mC (.int 0))) (mC (.int 0))))) (aat (mPop (mVar 0) (aab (mC (.int 0)) mNil))))
 (sSeq (sIf (mTst (mBin fEq (mR fLen (aab (mVar 0) mNil)) (mC (.int 0)))) (sRet (mC (.int 0))) sNil)
 (sSeq (sSet 2 (mBin fMod (mBin fIx (mVar 0) (mC (.int 0))) (mVar 1)))
 (sSeq (adg (mVar 0) (mC (.int 0)) (mBin adA (mBin fIx (mVar 0) (mC (.int 0))) (mVar 1)))
 (sRet (mVar 2))))))
noncomputable def aav:FM:=fnM 2 3 agu
noncomputable def akE:MS:=(sSeq (sSet 0 (mR fAbs (aab (mVar 0) mNil)))
 (sSeq (sSet 1 (mR fAbs (aab (mVar 1) mNil)))
 (sSeq (aeU (mTst (mBin fGt (mVar 1) (mC (.int 0)))) (sPar 0 1 (aab (mVar 1) (aab (mBin fMod (mVar 0) (mVar 1)) mNil))))
 (sRet (mVar 0)))))
noncomputable def afh:FM:=fnM 2 2 akE
noncomputable def ad6:MS:=(sSeq (sSet 1 (mC (.int 0)))
 (sSeq (sFor (mIt (mVar 0)) (gN 2) (sSet 1 (aae afh [] (aab (mVar 1) (aab (mVar 2) mNil)))))
 (sSeq (sIf (mTst (mBin fEq (mVar 1) (mC (.int 0)))) (sRet (mR aam (aab (mVar 0) mNil))) sNil)
 (sRet (mR aam (aab (aaW ["_law_number"] [(1,"_law_by")] (mIt (mVar 0)) (gN 0) (mBin adA (mVar 0) (mVar 1))) mNil))))))
noncomputable def aa1:FM:=fnM 1 3 ad6
noncomputable def agv:MS:=(sRet (aaE (mUn (fIsi "int") (mVar 0)) (mUn fNot (mUn (fIsi "bool") (mVar 0)))))
noncomputable def ac0:FM:=fnM 1 1 agv
noncomputable def afd:MS:=(sSeq (sIf (mOr (mNot (mTst (mUn (fIsi "tuple") (mVar 0)))) (mTst (mBin fNe (mR fLen (aab (mVar 0) mNil)) (mVar 1)))) (sRet (mC (.bl false))) sNil)
 (sRet (mR fAll (aab (aaW ["_law_number"] [] (mIt (mVar 0)) (gN 0) (aae ac0 [] (aab (mVar 0) mNil))) mNil))))
noncomputable def acO:FM:=fnM 2 2 afd
noncomputable def ahA:MS:=(sSeq (sIf (mTst (mBin fLt (mVar 1) (mC (.int 0)))) (sRet (aae aa1 [] (aab (mN fLst (aab (mBin fSub (mC (.int 0)) (mVar 0)) (aab (mBin fSub (mC (.int 0)) (mVar 1)) mNil))) mNil))) sNil)
 (sRet (aae aa1 [] (aab (mN fLst (aab (mVar 0) (aab (mVar 1) mNil))) mNil))))
noncomputable def adP:FM:=fnM 2 2 ahA
noncomputable def aeN:MS:=(sSeq (sSet 3 (aaW ["_law_k"] [(2,"_law_way"),(1,"_law_q"),(0,"_law_p")] (aaS (aab (mBin fSub (mR fLen (aab (mVar 0) mNil)) (mC (.int 1))) mNil)) (gN 0) (mBin fAdd (mBin fMul (mBin fMul (mVar 1) (mBin fIx (mVar 3) (mVar 0))) (mBin fIx (mVar 2) (mUn fNeg (mC (.int 1))))) (mBin fMul (mBin fIx (mVar 2) (mVar 0)) (mBin fIx (mVar 3) (mUn fNeg (mC (.int 1))))))))
 (sRet (aae aa1 [] (aab (mBin fAdd (mVar 3) (mN fLst (aab (mBin fMul (mBin fIx (mVar 0) (mUn fNeg (mC (.int 1)))) (mBin fIx (mVar 1) (mUn fNeg (mC (.int 1))))) mNil))) mNil))))
noncomputable def abe:FM:=fnM 3 4 aeN
noncomputable def aju:MS:=(sRet (aaW ["_law_k"] [(1,"_law_q"),(0,"_law_p")] (aaS (aab (mBin fSub (mR fLen (aab (mVar 0) mNil)) (mC (.int 1))) mNil)) (gN 0) (mBin fSub (mBin fMul (mBin fIx (mVar 1) (mVar 0)) (mBin fIx (mVar 2) (mUn fNeg (mC (.int 1))))) (mBin fMul (mBin fIx (mVar 2) (mVar 0)) (mBin fIx (mVar 1) (mUn fNeg (mC (.int 1))))))))
noncomputable def aez:FM:=fnM 2 2 aju
noncomputable def af2:MS:=(sSeq (sSet 2 (mBin fSub (mBin fMul (mBin fIx (mVar 0) (mC (.int 1))) (mBin fIx (mVar 1) (mC (.int 2)))) (mBin fMul (mBin fIx (mVar 0) (mC (.int 2))) (mBin fIx (mVar 1) (mC (.int 1))))))
 (sSeq (sSet 3 (mBin fSub (mBin fMul (mBin fIx (mVar 0) (mC (.int 2))) (mBin fIx (mVar 1) (mC (.int 0)))) (mBin fMul (mBin fIx (mVar 0) (mC (.int 0))) (mBin fIx (mVar 1) (mC (.int 2))))))
 (sSeq (sSet 4 (mBin fSub (mBin fMul (mBin fIx (mVar 0) (mC (.int 0))) (mBin fIx (mVar 1) (mC (.int 1)))) (mBin fMul (mBin fIx (mVar 0) (mC (.int 1))) (mBin fIx (mVar 1) (mC (.int 0))))))
 (sRet (mN fLst (aab (mVar 2) (aab (mVar 3) (aab (mVar 4) mNil))))))))
noncomputable def adt:FM:=fnM 2 5 af2
noncomputable def aj2:MS:=(sRet (mR fSum (aab (aaW ["_law_one","_law_other"] [] (mZip (aab (mVar 0) (aab (mVar 1) mNil))) (gT 2 (abc (gN 0) (abc (gN 1) acK))) (mBin fMul (mVar 0) (mVar 1))) mNil)))
noncomputable def afN:FM:=fnM 2 2 aj2
noncomputable def aeu:MS:=(sSeq (sIf (mTst (mBin fEq (mR fLen (aab (mVar 0) mNil)) (mC (.int 2)))) (sRet (mBin fSub (mBin fMul (mBin fIx (mBin fIx (mVar 0) (mC (.int 0))) (mC (.int 0))) (mBin fIx (mBin fIx (mVar 0) (mC (.int 1))) (mC (.int 1)))) (mBin fMul (mBin fIx (mBin fIx (mVar 0) (mC (.int 0))) (mC (.int 1))) (mBin fIx (mBin fIx (mVar 0) (mC (.int 1))) (mC (.int 0)))))) sNil)
 (sRet (aae afN [] (aab (aae adt [] (aab (mBin fIx (mVar 0) (mC (.int 0))) (aab (mBin fIx (mVar 0) (mC (.int 1))) mNil))) (aab (mBin fIx (mVar 0) (mC (.int 2))) mNil)))))
noncomputable def ab4:FM:=fnM 1 1 aeu
noncomputable def ais:MS:=(sRet (aae ab4 [] (aab (aaW ["_law_p"] [(0,"_law_points")] (mIt (mSl (mVar 0) (mO1 (mC (.int 1))) mO0)) (gN 0) (aae aez [] (aab (mBin fIx (mVar 1) (mC (.int 0))) (aab (mVar 0) mNil)))) mNil)))
noncomputable def adm:FM:=fnM 1 1 ais
noncomputable def adu:MS:=(sSeq (sSet 1 (mR afc (aab (mVar 0) mNil)))
 (sSeq (sIf (mTst (mBin fLt (aae adm [] (aab (mVar 1) mNil)) (mC (.int 0)))) (sSet 1 (mBin fAdd (mSl (mVar 1) mO0 (mO1 (mUn fNeg (mC (.int 2))))) (mN fLst (aab (mBin fIx (mVar 1) (mUn fNeg (mC (.int 1)))) (aab (mBin fIx (mVar 1) (mUn fNeg (mC (.int 2)))) mNil))))) sNil)
 (sRet (mR aam (aab (mVar 1) mNil)))))
noncomputable def aba:FM:=fnM 1 2 adu
noncomputable def acX:MS:=(sSeq (sIf (mOr (mNot (mTst (aae acO [] (aab (mVar 0) (aab (mBin fAdd (mVar 1) (mC (.int 1))) mNil))))) (mTst (mBin fLt (mBin fIx (mVar 0) (mUn fNeg (mC (.int 1)))) (mC (.int 1))))) (sRet (mC (.bl false))) sNil)
 (sRet (mBin fEq (aae aa1 [] (aab (mVar 0) mNil)) (mVar 0))))
noncomputable def aby:FM:=fnM 2 2 acX
noncomputable def aco:MS:=(sSeq (sIf (mOr (mNot (mTst (mUn (fIsi "tuple") (mVar 0)))) (mTst (mBin fNe (mR fLen (aab (mVar 0) mNil)) (mBin fAdd (mVar 1) (mC (.int 1)))))) (sRet (mC (.bl false))) sNil)
 (sSeq (sIf (mNot (mTst (mR fAll (aab (aaW ["_law_p"] [(1,"_law_many")] (mIt (mVar 0)) (gN 0) (aae aby [] (aab (mVar 0) (aab (mVar 1) mNil)))) mNil)))) (sRet (mC (.bl false))) sNil)
 (sRet (aaE (mBin fNe (aae adm [] (aab (mVar 0) mNil)) (mC (.int 0))) (mBin fEq (aae aba [] (aab (mVar 0) mNil)) (mVar 0))))))
noncomputable def abi:FM:=fnM 2 2 aco
noncomputable def adp:MS:=(sSeq (sIf (mNot (mTst (mUn (fIsi "tuple") (mVar 0)))) (sRet (mC (.bl false))) sNil)
 (sRet (mR fAll (aab (aaW ["_law_points"] [(1,"_law_many")] (mIt (mVar 0)) (gN 0) (aae abi [] (aab (mVar 0) (aab (mVar 1) mNil)))) mNil))))
noncomputable def abN:FM:=fnM 2 2 adp
noncomputable def ac7:MS:=(sRet (aae ab4 [] (aab (aaW ["_law_corner"] [(0,"_law_corners")] (mIt (mSl (mVar 0) (mO1 (mC (.int 1))) mO0)) (gN 0) (aaW ["_law_b","_law_c"] [] (mZip (aab (mBin fIx (mVar 1) (mC (.int 0))) (aab (mVar 0) mNil))) (gT 2 (abc (gN 0) (abc (gN 1) acK))) (mBin fSub (mVar 1) (mVar 0)))) mNil)))
noncomputable def abr:FM:=fnM 1 1 ac7
noncomputable def akB:MS:=(sSeq (sSet 3 (mNew mNil))
 (sSeq (sFor (aaS (aab (mBin fAdd (mVar 1) (mC (.int 1))) mNil)) (gN 4) (aat (mApp (mVar 3) (aab (aaW ["_law_m"] [(0,"_law_row_here"),(2,"_law_wide")] (aaS (aab (mVar 1) mNil)) (gN 0) (aae aav [] (aab (mVar 1) (aab (mBin fAdd (mVar 2) (mC (.int 1))) mNil)))) mNil))))
 (sSeq (sIf (mTst (mBin fNe (aae abr [] (aab (mVar 3) mNil)) (mC (.int 0)))) (sRet (mVar 3)) sNil)
 (sRet (aaW ["_law_k"] [(1,"_law_dims")] (adS (aab (mUn fNeg (mC (.int 1))) (aab (mVar 1) mNil))) (gN 0) (aaW ["_law_m"] [(0,"_law_k")] (aaS (aab (mVar 1) mNil)) (gN 0) (mR fInt (aab (mBin fEq (mVar 0) (mVar 1)) mNil))))))))
noncomputable def adh:FM:=fnM 3 5 akB
noncomputable def agd:MS:=(sSeq (sSet 1 (mNew (aab (mC (.int 0)) (aab (mC (.int 1)) (aab (mC (.int 2)) mNil)))))
 (sSeq (sSet 2 (mNew (aab (mC (.int 0)) (aab (mC (.int 0)) (aab (mC (.int 0)) mNil)))))
 (sSeq (sSet 3 (mLol (aab (mVar 2) mNil)))
 (sSeq (sFor (aaS (aab (mC (.int 3)) mNil)) (gN 4) (sSeq (adg (mVar 2) (mPop (mVar 1) (aab (aae aav [] (aab (mVar 0) (aab (mR fLen (aab (mVar 1) mNil)) mNil))) mNil)) (mC (.int 1)))
 (aat (akZ (mVar 3) (aab (mVar 2) mNil)))))
 (sSeq (sFor (aaS (aab (mC (.int 3)) mNil)) (gN 5) (sIf (mTst (mBin fEq (aae aav [] (aab (mVar 0) (aab (mC (.int 4)) mNil))) (mC (.int 3)))) (aiR 3 2 5) sNil))
 (sRet (mVar 3)))))))
noncomputable def adq:FM:=fnL 1 6 agd
noncomputable def adK:MS:=(sSeq (sSet 3 (mNew mNil))
 (sSeq (sFor (aaS (aab (aae aav [] (aab (mVar 0) (aab (mBin fAdd (mVar 2) (mC (.int 1))) mNil))) mNil)) (gN 4) (sSeq (sSet 5 (aae aav [] (aab (mVar 0) (aab (mC (.int 6)) mNil))))
 (sIf (mAnd (mTst (mBin fEq (mVar 5) (mC (.int 5)))) (mTst (mBin fGt (mR fLen (aab (mVar 3) mNil)) (mC (.int 0))))) (aat (mApp (mVar 3) (aab (mBin fIx (mVar 3) (mUn fNeg (mC (.int 1)))) mNil))) (sIf (mTst (mBin fEq (mVar 1) (mC (.int 2)))) (aat (mApp (mVar 3) (aab (aae adh [] (aab (mVar 0) (aab (mC (.int 2)) (aab (mBin fAdd (mC (.int 1)) (mR fInt (aab (mBin fEq (mVar 5) (mC (.int 4))) mNil))) mNil)))) mNil))) (sIf (mTst (mBin fGt (mVar 5) (mC (.int 3)))) (aat (mApp (mVar 3) (aab (aae adh [] (aab (mVar 0) (aab (mC (.int 3)) (aab (mC (.int 1)) mNil)))) mNil))) (aat (mApp (mVar 3) (aab (aae adq [] (aab (mVar 0) mNil)) mNil))))))))
 (sRet (mVar 3))))
noncomputable def abq:FM:=fnM 3 6 adK
noncomputable def ajW:MS:=(sSeq (sSet 2 (aae aav [] (aab (mVar 0) (aab (mC (.int 4)) mNil))))
 (sSeq (sSet 3 (mBin fIx (mN fLst (aab (mC (.int 0)) (aab (mC (.int 3)) (aab (mC (.int 9)) (aab (mBin fPow (mC (.int 10)) (mC (.int 12))) mNil))))) (mVar 2)))
 (sSeq (sSet 4 (mBin fAdd (mC (.int 1)) (mBin fMul (aae aav [] (aab (mVar 0) (aab (mC (.int 9)) mNil))) (mBin adA (mVar 2) (mC (.int 2))))))
 (sSeq (sSet 5 (aaW ["_law_k"] [(3,"_law_wide"),(0,"_law_row_here")] (aaS (aab (mVar 1) mNil)) (gN 0) (mBin fSub (aae aav [] (aab (mVar 2) (aab (mBin fAdd (mBin fMul (mC (.int 2)) (mVar 1)) (mC (.int 1))) mNil))) (mVar 1))))
 (sRet (aae aa1 [] (aab (mBin fAdd (mVar 5) (mN fLst (aab (mVar 4) mNil))) mNil)))))))
noncomputable def adH:FM:=fnM 2 6 ajW
noncomputable def aeo:MS:=(sSeq (sSet 2 (mNew mNil))
 (sSeq (sFor (aaS (aab (mVar 1) mNil)) (gN 3) (sSeq (sSet 4 (aae aav [] (aab (mVar 0) (aab (mC (.int 3)) mNil))))
 (aat (mApp (mVar 2) (aab (aae adP [] (aab (mBin fAdd (mC (.int 1)) (aae aav [] (aab (mVar 0) (aab (mBin fIx (mN fLst (aab (mC (.int 1)) (aab (mC (.int 7)) (aab (mBin fPow (mC (.int 10)) (mC (.int 9))) mNil)))) (mVar 4)) mNil)))) (aab (mBin fAdd (mC (.int 1)) (aae aav [] (aab (mVar 0) (aab (mBin fIx (mN fLst (aab (mC (.int 1)) (aab (mC (.int 7)) (aab (mBin fPow (mC (.int 10)) (mC (.int 6))) mNil)))) (mVar 4)) mNil)))) mNil))) mNil)))))
 (sRet (mVar 2))))
noncomputable def abH:FM:=fnM 2 5 aeo
noncomputable def age:MS:=(sSeq (sSet 2 (mC (.int 1)))
 (sSeq (sFor (mIt (mVar 1)) (gN 3) (sSet 2 (mBin fMul (mVar 2) (mBin fIx (mVar 3) (mC (.int 1))))))
 (sSeq (sSet 4 (aaW ["_law_number","_law_part"] [(2,"_law_under")] (mZip (aab (mVar 0) (aab (mVar 1) mNil))) (gT 2 (abc (gN 0) (abc (gN 1) acK))) (mBin fMul (mBin fMul (mVar 0) (mBin fIx (mVar 1) (mC (.int 0)))) (mBin adA (mVar 2) (mBin fIx (mVar 1) (mC (.int 1)))))))
 (sRet (aae aa1 [] (aab (mBin fAdd (mVar 4) (mN fLst (aab (mVar 2) mNil))) mNil))))))
noncomputable def acZ:FM:=fnM 2 5 age
noncomputable def aho:MS:=(sSeq (sSet 3 (mNew mNil))
 (sSeq (sFor (mIt (mVar 1)) (gN 4) (sSeq (sSet 5 (aae adH [] (aab (mVar 0) (aab (mR fLen (aab (mVar 2) mNil)) mNil))))
 (aat (mApp (mVar 3) (aab (aae aba [] (aab (aaW ["_law_corner"] [(5,"_law_far_here"),(2,"_law_stretch_here")] (mIt (mVar 4)) (gN 0) (aae abe [] (aab (aae acZ [] (aab (mVar 0) (aab (mVar 2) mNil))) (aab (mVar 1) (aab (mC (.int 1)) mNil))))) mNil)) mNil)))))
 (sRet (mVar 3))))
noncomputable def acJ:FM:=fnM 3 6 aho
noncomputable def ad2:MS:=(sSeq (sIf (mTst (mBin fEq (aae aav [] (aab (mVar 0) (aab (mC (.int 2)) mNil))) (mC (.int 1)))) (sRet (mR aam (aab (mVar 1) mNil))) sNil)
 (sRet (mR aal (aab (mVar 1) mNil))))
noncomputable def ab5:FM:=fnM 2 2 ad2
noncomputable def ae6:MS:=(sRet (mN fTup (aab (mBin fIx (mVar 0) (mC (.int 0))) (aab (mBin fIx (mVar 0) (mC (.int 1))) (aab (mC (.int 0)) (aab (mBin fIx (mVar 0) (mC (.int 2))) mNil))))))
noncomputable def acf:FM:=fnM 1 1 ae6
noncomputable def agi:MS:=(sSeq (sSet 2 (mNew mNil))
 (sSeq (sFor (mIt (mVar 0)) (gN 3) (sSeq (sSet 4 (aaW ["_law_p"] [] (mIt (mVar 3)) (gN 0) (aae acf [] (aab (mVar 0) mNil))))
 (sSeq (sSet 5 (aaW ["_law_p"] [(1,"_law_far_here")] (mIt (mVar 4)) (gN 0) (aae abe [] (aab (mVar 0) (aab (mVar 1) (aab (mC (.int 1)) mNil))))))
 (sFor (aaS (aab (mC (.int 3)) mNil)) (gN 6) (aat (mApp (mVar 2) (aab (aae aba [] (aab (mBin fAdd (mSl (mVar 4) (mO1 (mVar 6)) mO0) (mSl (mVar 5) mO0 (mO1 (mBin fAdd (mVar 6) (mC (.int 1)))))) mNil)) mNil)))))))
 (sRet (mVar 2))))
noncomputable def ac3:FM:=fnM 2 7 agi
noncomputable def agp:MS:=(sSeq (sSet 2 (mBin fIx (mN fLst (aab (mC (.int 1)) (aab (mC (.int 3)) (aab (mBin fPow (mC (.int 10)) (mC (.int 9))) mNil)))) (aae aav [] (aab (mVar 0) (aab (mC (.int 3)) mNil)))))
 (sSeq (sSet 3 (mBin fIx (mN fLst (aab (mC (.int 1)) (aab (mC (.int 4)) (aab (mBin fPow (mC (.int 10)) (mC (.int 6))) mNil)))) (aae aav [] (aab (mVar 0) (aab (mC (.int 3)) mNil)))))
 (sSeq (sSet 3 (mBin fAdd (mC (.int 1)) (aae aav [] (aab (mVar 0) (aab (mVar 3) mNil)))))
 (sSeq (sSet 4 (ahI ["_law_k"] [(2,"_law_wide"),(0,"_law_row_here")] (aaS (aab (mVar 1) mNil)) (gN 0) (mBin fSub (aae aav [] (aab (mVar 2) (aab (mBin fAdd (mBin fMul (mC (.int 2)) (mVar 1)) (mC (.int 1))) mNil))) (mVar 1))))
 (sSeq (adg (mVar 4) (mUn fNeg (mC (.int 1))) (mBin fMul (mBin fAdd (mC (.int 1)) (aae aav [] (aab (mVar 0) (aab (mVar 2) mNil)))) (mBin fSub (mC (.int 1)) (mBin fMul (mC (.int 2)) (aae aav [] (aab (mVar 0) (aab (mC (.int 2)) mNil)))))))
 (sSeq (sIf (mTst (mBin fEq (aae aav [] (aab (mVar 0) (aab (mC (.int 8)) mNil))) (mC (.int 7)))) (adg (mVar 4) (mUn fNeg (mC (.int 1))) (mC (.int 0))) sNil)
 (sRet (aae aa1 [] (aab (mBin fAdd (mVar 4) (mN fLst (aab (mVar 3) mNil))) mNil)))))))))
noncomputable def acD:FM:=fnM 2 5 agp
noncomputable def am5:MS:=(sSeq (sSet 1 (aao aew [] (aab (mVar 0) mNil)))
 (sSeq (sSet 2 (aae acJ [] (aab (mVar 1) (aab (aae abq [] (aab (mVar 1) (aab (mC (.int 2)) (aab (mC (.int 4)) mNil)))) (aab (aae abH [] (aab (mVar 1) (aab (mC (.int 2)) mNil))) mNil)))))
 (sSeq (sSet 3 (aae acD [] (aab (mVar 1) (aab (mC (.int 3)) mNil))))
 (sSeq (sSet 4 (aae ab5 [] (aab (mVar 1) (aab (mVar 2) mNil))))
 (sSeq (sSet 5 (mC .non))
 (sSeq (sSet 6 (mC (.bl false)))
 (sSeq (aiS adc [] (aab (mVar 4) (aab (mVar 3) mNil)) "Flat" 8 5 (fun ρ=>(((ρ.set 7 none).set 6 (some (.pv (.bl true)))).set 7 none)))
 (sSeq (sIf (mTst (mBin fNe (mR aal (aab (mVar 4) mNil)) (mVar 2))) (sRet (mC (.bl false))) sNil)
 (sSeq (sIf (mTst (mBin fEq (mBin fIx (mVar 3) (mC (.int 2))) (mC (.int 0)))) (sRet (aaE (mVar 6) (mUn fIsN (mVar 5)))) sNil)
 (sRet (aaE (aae abN [] (aab (mVar 5) (aab (mC (.int 3)) mNil))) (mBin fEq (mR aal (aab (mVar 5) mNil)) (aae ac3 [] (aab (mVar 2) (aab (mVar 3) mNil)))))))))))))))
noncomputable def alk:FM:=fnM 1 8 am5
section
variable {P:Program} {w:World} {K:PySem.W.Frag} {mg:Str → Option Value} {base:Heap} {cl:Str → Addr}
theorem ajt:aaI ["number"] ["number"] (aad afL):=⟨rfl,rfl,rfl,by decide +kernel,rfl,by decide +kernel,by decide +kernel⟩
theorem ana {f:Addr} {fd:FuncData} (F:Fun K "sign" "sign" afL f fd)
  : FnOk P w K mg base CX0 1 f fd ["number"] (spP0 K cl ad0):=by
 have nd:=ajt.nd
 refine okP (np:=1) (n:=1) F ajt (by decide) (by decide) (b:=akd) (k:=0) fun cdv A outer s H E hr=>?_
 exact (aah (abu (aa2 ajZ s_gt (aac 0) aaf (aa4 _)) (aai (aaz aaf)) aa3)
   (aah (abu (aa2 akn s_lt (aac 0) aaf (aa4 _)) (aai (aaz (abW abj abV aaf))) aa3)
   (aai (aaz aaf))))
theorem afH:aaI ["one","other","rest"] ["one","other"] (aad acN):=⟨rfl,rfl,rfl,by decide +kernel,rfl,by decide +kernel,by decide +kernel⟩
theorem ai0 {f:Addr} {fd:FuncData} (F:Fun K "divisor" "divisor" acN f fd)
  (m_abs:mg "abs" = none)
  : FnOk P w K mg base CX0 1 f fd ["one","other"] (spP0 K cl acs):=by
 have nd:=afH.nd
 refine okP (np:=2) (n:=3) F afH (by decide) (by decide) (b:=afn) (k:=0) fun cdv A outer s H E hr=>?_
 exact (aah (aeX PassesOwn.never (aa2 (af1 (hu8 hr)) s_ne (aac 1) aaf (aa4 _)) (aah (aaK (i:=2) nd rfl (Or.inl rfl) (aau ac6 agn (aac 0) (aac 1)))
   (aah (aaK (i:=0) nd rfl (Or.inl rfl) (aac 1))
   (aai (aaK (i:=1) nd rfl (Or.inl rfl) (aac 2))))))
   (aai (aaz (aa5 af3 anr rfl m_abs ajX (aaa (aac 0) aag)))))
theorem afB:aaI ["numbers","common","number"] ["numbers"] (aad acp):=⟨rfl,rfl,rfl,by decide +kernel,rfl,by decide +kernel,by decide +kernel⟩
theorem aiX {f:Addr} {fd:FuncData} (F:Fun K "reduced" "reduced" acp f fd)
  (C_divisor:Cal P w K mg base cl "divisor" 1 ["one","other"] acs)
  : FnOk P w K mg base CX0 2 f fd ["numbers"] (spP0 K cl acP):=by
 have nd:=afB.nd
 refine okP (np:=1) (n:=3) F afB (by decide) (by decide) (b:=aeP) (k:=1) fun cdv A outer s H E hr=>?_
 exact (aah (aaK (i:=1) nd rfl (Or.inr rfl) aaf)
   (aah (ab9 PassesOwn.never rfl (abv (aac 0)) (aay (i:=2) nd rfl (Or.inl rfl)) (aai (aaK (i:=1) nd rfl (Or.inr rfl) (aaZ C_divisor hr (by decide) rfl (aaa (aac 1) (aaa (aac 2) aag))))))
   (aai (aaz (abK (own:=["number"]) (cap:=[(1,"common")]) (abG (aad acp) ["numbers","common","number"] rfl rfl rfl (by decide +kernel) (by decide +kernel) (by decide +kernel) (by decide +kernel) (by decide +kernel)) (abv (aac 0)) rfl (fun _ _ _ _=>(aay (i:=0) (show (cmpN ["number"] [(1,"common")]).Nodup by decide +kernel) rfl (Or.inl rfl) (Or.inr rfl))) (fun _ _ _ _=>(aau ad8 agG (aac 0) (aac 1))))))))
theorem aiH:aaI ["numbers","bottom"] ["numbers","bottom"] (aad adN):=⟨rfl,rfl,rfl,by decide +kernel,rfl,by decide +kernel,by decide +kernel⟩
theorem alu {f:Addr} {fd:FuncData} {dsv:Array Value} (F:FunD K "point" "point" adN f fd dsv)
  (C_reduced:Cal P w K mg base cl "reduced" 2 ["numbers"] acP)
  (C_sign:Cal P w K mg base cl "sign" 1 ["number"] ad0)
  (m_list:mg "list" = none)
  (m_tuple:mg "tuple" = none)
  (q_NoPoint:mg "NoPoint" = some (.ref (cl "NoPoint"))) (x_NoPoint:PySem.W.excIn K (cl "NoPoint") acn "ValueError.__new__" = true)
  : FnOk P w K mg base (CX1 P w) 3 f fd ["numbers","bottom"] (spP K cl aeW):=by
 have nd:=aiH.nd
 refine okXD (np:=2) (n:=2) F aiH (by decide) (by decide) (b:=aeV) (k:=2) fun cdv A outer s H E hr=>?_
 exact (aah (abu (aa2 (ab1 (hu8 hr)) s_eq (aac 1) aaf (aa4 _)) (aai (aeS rfl q_NoPoint x_NoPoint)) aa3)
   (aai (aaz (abw abC adI rfl m_tuple acb (aaa (abK (own:=["number"]) (cap:=[(1,"bottom")]) (abG (aad adN) ["numbers","bottom"] rfl rfl rfl (by decide +kernel) (by decide +kernel) (by decide +kernel) (by decide +kernel) (by decide +kernel)) (abv (aaZ C_reduced hr (by decide) rfl (aaa (aau aaU abz (abw abX agc rfl m_list agy (aaa (aac 0) aag)) (acd (aaa (aac 1) aag))) aag))) rfl (fun _ _ _ _=>(aay (i:=0) (show (cmpN ["number"] [(1,"bottom")]).Nodup by decide +kernel) rfl (Or.inl rfl) (Or.inr rfl))) (fun _ _ _ _=>(aau aaN aa7 (aaZ C_sign hr (by decide) rfl (aaa (aac 1) aag)) (aac 0)))) aag)))))
theorem ait:aaI ["p","q","numbers"] ["p","q"] (aad adR):=⟨rfl,rfl,rfl,by decide +kernel,rfl,by decide +kernel,by decide +kernel⟩
theorem alZ {f:Addr} {fd:FuncData} (F:Fun K "added" "added" adR f fd)
  {a_point:Addr} {d_point:FuncData}
  (G_point:FnOk P w K mg base CX0 3 a_point d_point ["numbers","bottom"] (spP0 K cl aeW)) (aeV:ac2 K d_point ["numbers","bottom"] []) (k_point:PySem.W.keepIn K (.ref a_point) = true) (n_point:mg "point" = some (.ref a_point))
  (m_zip:mg "zip" = none)
  : FnOk P w K mg base CX0 4 f fd ["p","q"] (spP0 K cl acv):=by
 have nd:=ait.nd
 refine okP (np:=2) (n:=3) F ait (by decide) (by decide) (b:=ahN) (k:=3) fun cdv A outer s H E hr=>?_
 exact (aah (acC (i:=2) (own:=["one","other"]) (cap:=[(1,"q"),(0,"p")]) nd rfl (Or.inl rfl) (abG (aad adR) ["p","q","numbers"] rfl rfl rfl (by decide +kernel) (by decide +kernel) (by decide +kernel) (by decide +kernel) (by decide +kernel)) (aee rfl m_zip (aaa (adB (aac 0) abD (abm (abW abj abV aaf))) (aaa (adB (aac 1) abD (abm (abW abj abV aaf))) aag))) rfl (fun _ _ _ _=>(adJ rfl (abl (aay (i:=0) (show (cmpN ["one","other"] [(1,"q"),(0,"p")]).Nodup by decide +kernel) rfl (Or.inl rfl) (Or.inr rfl)) (abl (aay (i:=1) (show (cmpN ["one","other"] [(1,"q"),(0,"p")]).Nodup by decide +kernel) rfl (Or.inl rfl) (Or.inr rfl)) ac8)))) (fun _ _ _ _=>(aau aaU abz (aau aaN aa7 (aac 0) (aaT (aac 2) (abW abj abV aaf))) (aau aaN aa7 (aac 1) (aaT (aac 3) (abW abj abV aaf))))))
   (aai (aaz (akG G_point (hr.mono (by decide)) rfl n_point k_point aeV .nil Dv.nil (aaa (aac 2) (aaa (aau aaN aa7 (aaT (aac 0) (abW abj abV aaf)) (aaT (aac 1) (abW abj abV aaf))) aag))))))
theorem adC:aaI ["start","end"] ["start","end"] (aad abE):=⟨rfl,rfl,rfl,by decide +kernel,rfl,by decide +kernel,by decide +kernel⟩
theorem aft {f:Addr} {fd:FuncData} (F:Fun K "whole_arrow" "whole_arrow" abE f fd)
  (m_zip:mg "zip" = none)
  : FnOk P w K mg base CX0 1 f fd ["start","end"] (spP0 K cl abp):=by
 have nd:=adC.nd
 refine okP (np:=2) (n:=2) F adC (by decide) (by decide) (b:=ac1) (k:=0) fun cdv A outer s H E hr=>?_
 exact (aai (aaz (abK (own:=["near","far"]) (cap:=[(0,"start"),(1,"end")]) (abG (aad abE) ["start","end"] rfl rfl rfl (by decide +kernel) (by decide +kernel) (by decide +kernel) (by decide +kernel) (by decide +kernel)) (aee rfl m_zip (aaa (adB (aac 0) abD (abm (abW abj abV aaf))) (aaa (adB (aac 1) abD (abm (abW abj abV aaf))) aag))) rfl (fun _ _ _ _=>(adJ rfl (abl (aay (i:=0) (show (cmpN ["near","far"] [(0,"start"),(1,"end")]).Nodup by decide +kernel) rfl (Or.inl rfl) (Or.inr rfl)) (abl (aay (i:=1) (show (cmpN ["near","far"] [(0,"start"),(1,"end")]).Nodup by decide +kernel) rfl (Or.inl rfl) (Or.inr rfl)) ac8)))) (fun _ _ _ _=>(aau ab7 adk (aau aaN aa7 (aac 1) (aaT (aac 2) (abW abj abV aaf))) (aau aaN aa7 (aac 0) (aaT (aac 3) (abW abj abV aaf))))))))
theorem amq:aaI ["u","v"] ["u","v"] (aad ahs):=⟨rfl,rfl,rfl,by decide +kernel,rfl,by decide +kernel,by decide +kernel⟩
theorem apd {f:Addr} {fd:FuncData} (F:Fun K "dot" "dot" ahs f fd)
  (m_sum:mg "sum" = none)
  (m_zip:mg "zip" = none)
  : FnOk P w K mg base CX0 1 f fd ["u","v"] (spP0 K cl ajk):=by
 have nd:=amq.nd
 refine okP (np:=2) (n:=2) F amq (by decide) (by decide) (b:=anb) (k:=0) fun cdv A outer s H E hr=>?_
 exact (aai (aaz (aa5 (ag7 rfl) aop rfl m_sum aml (aaa (abK (own:=["one","other"]) (cap:=[]) (abG (aad ahs) ["u","v"] rfl rfl rfl (by decide +kernel) (by decide +kernel) (by decide +kernel) (by decide +kernel) (by decide +kernel)) (aee rfl m_zip (aaa (aac 0) (aaa (aac 1) aag))) rfl (fun _ _ _ _=>(adJ rfl (abl (aay (i:=0) (show (cmpN ["one","other"] []).Nodup by decide +kernel) rfl (Or.inl rfl) (Or.inr rfl)) (abl (aay (i:=1) (show (cmpN ["one","other"] []).Nodup by decide +kernel) rfl (Or.inl rfl) (Or.inr rfl)) ac8)))) (fun _ _ _ _=>(aau aaN aa7 (aac 0) (aac 1)))) aag))))
theorem ahk:aaI ["arrows","u","v"] ["arrows"] (aad ads):=⟨rfl,rfl,rfl,by decide +kernel,rfl,by decide +kernel,by decide +kernel⟩
theorem akO {f:Addr} {fd:FuncData} (F:Fun K "normal" "normal" ads f fd)
  (m_len:mg "len" = none)
  : FnOk P w K mg base CX0 1 f fd ["arrows"] (spP0 K cl acG):=by
 have nd:=ahk.nd
 refine okP (np:=1) (n:=3) F ahk (by decide) (by decide) (b:=aeF) (k:=0) fun cdv A outer s H E hr=>?_
 exact (aah (aaK (i:=1) nd rfl (Or.inl rfl) (aaT (aac 0) aaf))
   (aah (abu (aa2 (ab1 (hu8 hr)) s_eq (aa5 aa8 ae3 rfl m_len ado (aaa (aac 0) aag)) aaf (aa4 _)) (aai (aaz (acd (aaa (abW abj abV (aaT (aac 1) aaf)) (aaa (aaT (aac 1) aaf) aag))))) aa3)
   (aah (aaK (i:=2) nd rfl (Or.inl rfl) (aaT (aac 0) aaf))
   (aai (aaz (acd (aaa (aau ab7 adk (aau aaN aa7 (aaT (aac 1) aaf) (aaT (aac 2) aaf)) (aau aaN aa7 (aaT (aac 1) aaf) (aaT (aac 2) aaf))) (aaa (aau ab7 adk (aau aaN aa7 (aaT (aac 1) aaf) (aaT (aac 2) aaf)) (aau aaN aa7 (aaT (aac 1) aaf) (aaT (aac 2) aaf))) (aaa (aau ab7 adk (aau aaN aa7 (aaT (aac 1) aaf) (aaT (aac 2) aaf)) (aau aaN aa7 (aaT (aac 1) aaf) (aaT (aac 2) aaf))) aag)))))))))
theorem adF:aaI ["points","rows"] ["points"] (aad abF):=⟨rfl,rfl,rfl,by decide +kernel,rfl,by decide +kernel,by decide +kernel⟩
theorem afv {f:Addr} {fd:FuncData} (F:Fun K "determinant" "determinant" abF f fd)
  (C_whole_arrow:Cal P w K mg base cl "whole_arrow" 1 ["start","end"] abp)
  (C_dot:Cal P w K mg base cl "dot" 1 ["u","v"] ajk)
  (C_normal:Cal P w K mg base cl "normal" 1 ["arrows"] acG)
  : FnOk P w K mg base CX0 2 f fd ["points"] (spP0 K cl abn):=by
 have nd:=adF.nd
 refine okP (np:=1) (n:=2) F adF (by decide) (by decide) (b:=acg) (k:=1) fun cdv A outer s H E hr=>?_
 exact (aah (acC (i:=1) (own:=["p"]) (cap:=[(0,"points")]) nd rfl (Or.inl rfl) (abG (aad abF) ["points","rows"] rfl rfl rfl (by decide +kernel) (by decide +kernel) (by decide +kernel) (by decide +kernel) (by decide +kernel)) (abv (adB (aac 0) (abm aaf) abD)) rfl (fun _ _ _ _=>(aay (i:=0) (show (cmpN ["p"] [(0,"points")]).Nodup by decide +kernel) rfl (Or.inl rfl) (Or.inr rfl))) (fun _ _ _ _=>(aaZ C_whole_arrow hr (by decide) rfl (aaa (aaT (aac 1) aaf) (aaa (aac 0) aag)))))
   (aai (aaz (aaZ C_dot hr (by decide) rfl (aaa (aaZ C_normal hr (by decide) rfl (aaa (adB (aac 1) abD (abm (abW abj abV aaf))) aag)) (aaa (aaT (aac 1) (abW abj abV aaf)) aag))))))
theorem akc:aaI ["points"] ["points"] (aad afA):=⟨rfl,rfl,rfl,by decide +kernel,rfl,by decide +kernel,by decide +kernel⟩
theorem anx {f:Addr} {fd:FuncData} (F:Fun K "side" "side" afA f fd)
  (C_sign:Cal P w K mg base cl "sign" 1 ["number"] ad0)
  (C_determinant:Cal P w K mg base cl "determinant" 2 ["points"] abn)
  : FnOk P w K mg base CX0 3 f fd ["points"] (spP0 K cl ad1):=by
 have nd:=akc.nd
 refine okP (np:=1) (n:=1) F akc (by decide) (by decide) (b:=ah7) (k:=2) fun cdv A outer s H E hr=>?_
 exact (aai (aaz (aaZ C_sign hr (by decide) rfl (aaa (aaZ C_determinant hr (by decide) rfl (aaa (aac 0) aag)) aag))))
theorem afO:aaI ["points","corners","turn"] ["points"] (aad acU):=⟨rfl,rfl,rfl,by decide +kernel,rfl,by decide +kernel,by decide +kernel⟩
theorem ajn {f:Addr} {fd:FuncData} (F:Fun K "simplex" "simplex" acU f fd)
  (C_side:Cal P w K mg base cl "side" 3 ["points"] ad1)
  (m_sorted:mg "sorted" = none)
  (m_tuple:mg "tuple" = none)
  (q_Flat:mg "Flat" = some (.ref (cl "Flat"))) (x_Flat:PySem.W.excIn K (cl "Flat") acn "ValueError.__new__" = true)
  : FnOk P w K mg base (CX1 P w) 4 f fd ["points"] (spP K cl ab6):=by
 have nd:=afO.nd
 refine okX (np:=1) (n:=3) F afO (by decide) (by decide) (b:=acQ) (k:=3) fun cdv A outer s H E hr=>?_
 exact (aah (aaK (i:=1) nd rfl (Or.inl rfl) (aa5 afM ams rfl m_sorted ahe (aaa (aac 0) aag)))
   (aah (aaK (i:=2) nd rfl (Or.inl rfl) (aaZ C_side hr (by decide) rfl (aaa (aac 1) aag)))
   (aah (abu (aa2 (ab1 (hu8 hr)) s_eq (aac 2) aaf (aa4 _)) (aai (aeS rfl q_Flat x_Flat)) aa3)
   (aah (abu (aa2 akn s_lt (aac 2) aaf (aa4 _)) (aai (aaK (i:=1) nd rfl (Or.inl rfl) (aau aaU abz (adB (aac 1) abD (abm (abW abj abV aaf))) (acd (aaa (aaT (aac 1) (abW abj abV aaf)) (aaa (aaT (aac 1) (abW abj abV aaf)) aag)))))) aa3)
   (aai (aaz (abw abC adI rfl m_tuple acb (aaa (aac 1) aag))))))))
theorem ae8:aaI ["p"] ["p"] (aad acj):=⟨rfl,rfl,rfl,by decide +kernel,rfl,by decide +kernel,by decide +kernel⟩
theorem ahR {f:Addr} {fd:FuncData} (F:Fun K "in_space" "in_space" acj f fd)
  : FnOk P w K mg base CX0 1 f fd ["p"] (spP0 K cl abZ):=by
 have nd:=ae8.nd
 refine okP (np:=1) (n:=1) F ae8 (by decide) (by decide) (b:=ael) (k:=0) fun cdv A outer s H E hr=>?_
 exact (aai (aaz (aau aaU abz (aau aaU abz (adB (aac 0) abD (abm aaf)) (amb (aaa aaf aag))) (adB (aac 0) (abm aaf) abD))))
theorem adE:aaI ["arrow"] ["arrow"] (aad abS):=⟨rfl,rfl,rfl,by decide +kernel,rfl,by decide +kernel,by decide +kernel⟩
theorem afx {f:Addr} {fd:FuncData} (F:Fun K "refuse_flat" "refuse_flat" abS f fd)
  (q_Flat:mg "Flat" = some (.ref (cl "Flat"))) (x_Flat:PySem.W.excIn K (cl "Flat") acn "ValueError.__new__" = true)
  : FnOk P w K mg base (CX1 P w) 1 f fd ["arrow"] (spP K cl abB):=by
 have nd:=adE.nd
 refine okX (np:=1) (n:=1) F adE (by decide) (by decide) (b:=ab2) (k:=0) fun cdv A outer s H E hr=>?_
 exact (aai (abu (aa2 (ab1 (hu8 hr)) s_eq (aaT (aac 0) aaf) aaf (aa4 _)) (aai (aeS rfl q_Flat x_Flat)) aa3))
theorem aiM:aaI ["heap","arrow","found","piece","low","corners"] ["heap","arrow"] (aad ac9):=⟨rfl,rfl,rfl,by decide +kernel,rfl,by decide +kernel,by decide +kernel⟩
theorem alf {f:Addr} {fd:FuncData} (F:Fun K "prism" "prism" ac9 f fd)
  {a_refuse_flat:Addr} {d_refuse_flat:FuncData}
  (GX_refuse_flat:FnOk P w K mg base (CX1 P w) 1 a_refuse_flat d_refuse_flat ["arrow"] (spP K cl abB))
  (G_refuse_flat:FnOk P w K mg base CX0 1 a_refuse_flat d_refuse_flat ["arrow"] (spP0 K cl abB)) (ab2:ac2 K d_refuse_flat ["arrow"] []) (k_refuse_flat:PySem.W.keepIn K (.ref a_refuse_flat) = true) (n_refuse_flat:mg "refuse_flat" = some (.ref a_refuse_flat))
  (C_in_space:Cal P w K mg base cl "in_space" 1 ["p"] abZ)
  (C_added:Cal P w K mg base cl "added" 4 ["p","q"] acv)
  {a_simplex:Addr} {d_simplex:FuncData}
  (GX_simplex:FnOk P w K mg base (CX1 P w) 4 a_simplex d_simplex ["points"] (spP K cl ab6))
  (G_simplex:FnOk P w K mg base CX0 4 a_simplex d_simplex ["points"] (spP0 K cl ab6)) (acQ:ac2 K d_simplex ["points"] []) (k_simplex:PySem.W.keepIn K (.ref a_simplex) = true) (n_simplex:mg "simplex" = some (.ref a_simplex))
  (m_range:mg "range" = none)
  (m_tuple:mg "tuple" = none)
  : FnOk P w K mg base (CX1 P w) 5 f fd ["heap","arrow"] (spP K cl adc):=by
 have nd:=aiM.nd
 refine okX (np:=2) (n:=6) F aiM (by decide) (by decide) (b:=aer) (k:=4) fun cdv A outer s H E hr=>?_
 exact (aah (abQ (alg GX_refuse_flat (hr.mono (by decide)) rfl n_refuse_flat k_refuse_flat ab2 .nil Dv.nil (aaa (aac 1) aag)))
   (aah (aaK (i:=2) nd rfl (Or.inl rfl) (ac5 aag))
   (aah (ab9 PassesOwn.leaving rfl (abv (aac 0)) (aay (i:=3) nd rfl (Or.inl rfl)) (aah (acC (i:=4) (own:=["p"]) (cap:=[]) nd rfl (Or.inl rfl) (abG (aad ac9) ["heap","arrow","found","piece","low","corners"] rfl rfl rfl (by decide +kernel) (by decide +kernel) (by decide +kernel) (by decide +kernel) (by decide +kernel)) (abv (aac 3)) rfl (fun _ _ _ _=>(aay (i:=0) (show (cmpN ["p"] []).Nodup by decide +kernel) rfl (Or.inl rfl) (Or.inr rfl))) (fun _ _ _ _=>(aaZ C_in_space hr (by decide) rfl (aaa (aac 0) aag))))
   (aah (aaK (i:=5) nd rfl (Or.inr rfl) (aau aaU abz (aac 4) (abK (own:=["p"]) (cap:=[(1,"arrow")]) (abG (aad ac9) ["heap","arrow","found","piece","low","corners"] rfl rfl rfl (by decide +kernel) (by decide +kernel) (by decide +kernel) (by decide +kernel) (by decide +kernel)) (abv (aac 4)) rfl (fun _ _ _ _=>(aay (i:=0) (show (cmpN ["p"] [(1,"arrow")]).Nodup by decide +kernel) rfl (Or.inl rfl) (Or.inr rfl))) (fun _ _ _ _=>(aaZ C_added hr (by decide) rfl (aaa (aac 0) (aaa (aac 1) aag)))))))
   (aai (alb (i:=2) nd rfl (Or.inl rfl) (abK (own:=["k"]) (cap:=[(5,"corners")]) (abG (aad ac9) ["heap","arrow","found","piece","low","corners"] rfl rfl rfl (by decide +kernel) (by decide +kernel) (by decide +kernel) (by decide +kernel) (by decide +kernel)) (abh rfl m_range (aaa aaf aag)) rfl (fun _ _ _ _=>(aay (i:=0) (show (cmpN ["k"] [(5,"corners")]).Nodup by decide +kernel) rfl (Or.inl rfl) (Or.inr rfl))) (fun _ _ _ _=>(akG G_simplex (hr.mono (by decide)) rfl n_simplex k_simplex acQ .nil Dv.nil (aaa (adB (aac 1) (abm (aac 0)) (abm (aau aaU abz (aac 0) aaf))) aag)))))))))
   (aai (aaz (abw abC adI rfl m_tuple acb (aaa (aac 2) aag)))))))
theorem akL:aaI ["_law_script","_law_row_here","_law_k","_law_cell","_law_one","_law_two","_law_three"] ["_law_script"] (aad af0):=⟨rfl,rfl,rfl,by decide +kernel,rfl,by decide +kernel,by decide +kernel⟩
theorem am4 {f:Addr} {fd:FuncData} (F:Fun K "_law_row" "_law_row" af0 f fd)
  (m_enumerate:mg "enumerate" = none)
  : FnOk P w K mg base CX0 1 f fd ["_law_script"] (spP0 K cl aew):=by
 have nd:=akL.nd
 refine okP (np:=1) (n:=7) F akL (by decide) (by decide) (b:=akT) (k:=0) fun cdv A outer s H E hr=>?_
 exact (aah (aaK (i:=1) nd rfl (Or.inl rfl) (ac5 aag))
   (aah (ab9 PassesOwn.never rfl (alV rfl m_enumerate (aaa (adB (aac 0) abD (abm aaf)) aag)) (adJ rfl (abl (aay (i:=2) nd rfl (Or.inl rfl)) (abl (aay (i:=3) nd rfl (Or.inl rfl)) ac8))) (aai (abu (aa2 ap2 s_ge (aac 3) (aau afi ahQ aaf aaf) (aa4 _)) (aai (abQ (abU (aac 1) (aaa (aau ab7 adk (aac 3) (aau afi ahQ aaf aaf)) aag)))) (aah (aaK (i:=4) nd rfl (Or.inl rfl) (aau ac6 agn (aau aaN aa7 (aau aaU abz (aau aaU abz (aau aaU abz (aac 3) (aau aaN aa7 (aau aaN aa7 aaf (aac 2)) (aac 2))) (aau aaN aa7 aaf (aac 2))) aaf) aaf) aaf))
   (aah (aaK (i:=5) nd rfl (Or.inl rfl) (aau ac6 agn (aau aaN aa7 (aau aaU abz (aau aaU abz (aau aaU abz (aac 3) (aau aaN aa7 (aau aaN aa7 aaf (aac 2)) (aac 2))) (aau aaN aa7 aaf (aac 2))) aaf) aaf) aaf))
   (aah (aaK (i:=6) nd rfl (Or.inl rfl) (aau ac6 agn (aau aaN aa7 (aau aaU abz (aau aaU abz (aau aaU abz (aac 3) (aau aaN aa7 (aau aaN aa7 aaf (aac 2)) (aac 2))) (aau aaN aa7 aaf (aac 2))) aaf) aaf) aaf))
   (aah (aaK (i:=4) nd rfl (Or.inl rfl) (aau ac6 agn (aau aaN aa7 (aac 4) aaf) aaf))
   (aah (aaK (i:=5) nd rfl (Or.inl rfl) (aau ac6 agn (aau aaN aa7 (aac 5) aaf) aaf))
   (aah (aaK (i:=6) nd rfl (Or.inl rfl) (aau ac6 agn (aau aaN aa7 (aac 6) aaf) aaf))
   (aai (abQ (abU (aac 1) (aaa (aau aaU abz (aau aaN aa7 (aau aaU abz (aau aaN aa7 (aac 4) aaf) (aac 5)) aaf) (aac 6)) aag)))))))))))))
   (aai (aaz (aac 1)))))
theorem ah6:aaI ["_law_row_here","_law_many","_law_found"] ["_law_row_here","_law_many"] (aad aeg):=⟨rfl,rfl,rfl,by decide +kernel,rfl,by decide +kernel,by decide +kernel⟩
theorem alo {f:Addr} {fd:FuncData} (F:Fun K "_law_take" "_law_take" aeg f fd)
  (m_len:mg "len" = none)
  : FnOk P w K mg base CX0 1 f fd ["_law_row_here","_law_many"] (spP0 K cl aav):=by
 have nd:=ah6.nd
 refine okP (np:=2) (n:=3) F ah6 (by decide) (by decide) (b:=agu) (k:=0) fun cdv A outer s H E hr=>?_
 exact (aah (aeX PassesOwn.never (PWp.pt (ajR (aa2 ajZ s_gt (aa5 aa8 ae3 rfl m_len ado (aaa (aac 0) aag)) aaf (aa4 _)) (aip (aa2 (ab1 (hu8 hr)) s_eq (aaT (aac 0) aaf) aaf (aa4 _))))) (aai (abQ (amk (aac 0) (aaa aaf aag)))))
   (aah (abu (aa2 (ab1 (hu8 hr)) s_eq (aa5 aa8 ae3 rfl m_len ado (aaa (aac 0) aag)) aaf (aa4 _)) (aai (aaz aaf)) aa3)
   (aah (aaK (i:=2) nd rfl (Or.inl rfl) (aau ac6 agn (aaT (aac 0) aaf) (aac 1)))
   (aah (adX (aau ad8 agG (aaT (aac 0) aaf) (aac 1)) (aac 0) aaf)
   (aai (aaz (aac 2)))))))
theorem ajM:aaI ["_law_one","_law_other"] ["_law_one","_law_other"] (aad afz):=⟨rfl,rfl,rfl,by decide +kernel,rfl,by decide +kernel,by decide +kernel⟩
theorem anq {f:Addr} {fd:FuncData} (F:Fun K "_law_gcd" "_law_gcd" afz f fd)
  (m_abs:mg "abs" = none)
  : FnOk P w K mg base CX0 1 f fd ["_law_one","_law_other"] (spP0 K cl afh):=by
 have nd:=ajM.nd
 refine okP (np:=2) (n:=2) F ajM (by decide) (by decide) (b:=akE) (k:=0) fun cdv A outer s H E hr=>?_
 exact (aah (aaK (i:=0) nd rfl (Or.inl rfl) (aa5 af3 anr rfl m_abs ajX (aaa (aac 0) aag)))
   (aah (aaK (i:=1) nd rfl (Or.inl rfl) (aa5 af3 anr rfl m_abs ajX (aaa (aac 1) aag)))
   (aah (aeX PassesOwn.never (aa2 ajZ s_gt (aac 1) aaf (aa4 _)) (aai (ano (i:=0) (j:=1) rfl nd rfl rfl (by decide) rfl rfl (aaa (aac 1) (aaa (aau ac6 agn (aac 0) (aac 1)) aag)) rfl)))
   (aai (aaz (aac 0))))))
theorem afC:aaI ["_law_numbers","_law_by","_law_number"] ["_law_numbers"] (aad acq):=⟨rfl,rfl,rfl,by decide +kernel,rfl,by decide +kernel,by decide +kernel⟩
theorem ai7 {f:Addr} {fd:FuncData} (F:Fun K "_law_lowest" "_law_lowest" acq f fd)
  (C_wgcd:Cal P w K mg base cl "_law_gcd" 1 ["_law_one","_law_other"] afh)
  (m_tuple:mg "tuple" = none)
  : FnOk P w K mg base CX0 2 f fd ["_law_numbers"] (spP0 K cl aa1):=by
 have nd:=afC.nd
 refine okP (np:=1) (n:=3) F afC (by decide) (by decide) (b:=ad6) (k:=1) fun cdv A outer s H E hr=>?_
 exact (aah (aaK (i:=1) nd rfl (Or.inr rfl) aaf)
   (aah (ab9 PassesOwn.never rfl (abv (aac 0)) (aay (i:=2) nd rfl (Or.inl rfl)) (aai (aaK (i:=1) nd rfl (Or.inr rfl) (aaZ C_wgcd hr (by decide) rfl (aaa (aac 1) (aaa (aac 2) aag))))))
   (aah (abu (aa2 (ab1 (hu8 hr)) s_eq (aac 1) aaf (aa4 _)) (aai (aaz (abw abC adI rfl m_tuple acb (aaa (aac 0) aag)))) aa3)
   (aai (aaz (abw abC adI rfl m_tuple acb (aaa (abK (own:=["_law_number"]) (cap:=[(1,"_law_by")]) (abG (aad acq) ["_law_numbers","_law_by","_law_number"] rfl rfl rfl (by decide +kernel) (by decide +kernel) (by decide +kernel) (by decide +kernel) (by decide +kernel)) (abv (aac 0)) rfl (fun _ _ _ _=>(aay (i:=0) (show (cmpN ["_law_number"] [(1,"_law_by")]).Nodup by decide +kernel) rfl (Or.inl rfl) (Or.inr rfl))) (fun _ _ _ _=>(aau ad8 agG (aac 0) (aac 1)))) aag)))))))
theorem agC:aaI ["_law_number"] ["_law_number"] (aad ady):=⟨rfl,rfl,rfl,by decide +kernel,rfl,by decide +kernel,by decide +kernel⟩
theorem aki {f:Addr} {fd:FuncData} (F:Fun K "_law_whole" "_law_whole" ady f fd)
  (m_bool:mg "bool" = none)
  (m_int:mg "int" = none)
  (m_isinstance:mg "isinstance" = none)
  : FnOk P w K mg base CX0 1 f fd ["_law_number"] (spP0 K cl ac0):=by
 have nd:=agC.nd
 refine okP (np:=1) (n:=1) F agC (by decide) (by decide) (b:=agv) (k:=0) fun cdv A outer s H E hr=>?_
 exact (aai (aaz (ahZ (agM (n:="int") rfl m_isinstance rfl m_int ajz (aac 0)) (aiF (aoO (agM (n:="bool") rfl m_isinstance rfl m_bool amV (aac 0)))))))
theorem afT:aaI ["_law_told","_law_many"] ["_law_told","_law_many"] (aad acu):=⟨rfl,rfl,rfl,by decide +kernel,rfl,by decide +kernel,by decide +kernel⟩
theorem ajf {f:Addr} {fd:FuncData} (F:Fun K "_law_wholes" "_law_wholes" acu f fd)
  (C_wwhole:Cal P w K mg base cl "_law_whole" 1 ["_law_number"] ac0)
  (m_all:mg "all" = none)
  (m_isinstance:mg "isinstance" = none)
  (m_len:mg "len" = none)
  (m_tuple:mg "tuple" = none)
  : FnOk P w K mg base CX0 2 f fd ["_law_told","_law_many"] (spP0 K cl acO):=by
 have nd:=afT.nd
 refine okP (np:=2) (n:=2) F afT (by decide) (by decide) (b:=afd) (k:=1) fun cdv A outer s H E hr=>?_
 exact (aah (abu (PWp.pt (akg (aeQ (afo (agM (n:="tuple") rfl m_isinstance rfl m_tuple acb (aac 0)))) (ahC (aa2 (af1 (hu8 hr)) s_ne (aa5 aa8 ae3 rfl m_len ado (aaa (aac 0) aag)) (aac 1) (aa4 _))))) (aai (aaz ahJ)) aa3)
   (aai (aaz (aa5 (agt rfl) amY rfl m_all akM (aaa (abK (own:=["_law_number"]) (cap:=[]) (abG (aad acu) ["_law_told","_law_many"] rfl rfl rfl (by decide +kernel) (by decide +kernel) (by decide +kernel) (by decide +kernel) (by decide +kernel)) (abv (aac 0)) rfl (fun _ _ _ _=>(aay (i:=0) (show (cmpN ["_law_number"] []).Nodup by decide +kernel) rfl (Or.inl rfl) (Or.inr rfl))) (fun _ _ _ _=>(aaZ C_wwhole hr (by decide) rfl (aaa (aac 0) aag)))) aag)))))
theorem ah0:aaI ["_law_top","_law_bottom"] ["_law_top","_law_bottom"] (aad aeh):=⟨rfl,rfl,rfl,by decide +kernel,rfl,by decide +kernel,by decide +kernel⟩
theorem alN {f:Addr} {fd:FuncData} (F:Fun K "_law_frac" "_law_frac" aeh f fd)
  (C_wlowest:Cal P w K mg base cl "_law_lowest" 2 ["_law_numbers"] aa1)
  : FnOk P w K mg base CX0 3 f fd ["_law_top","_law_bottom"] (spP0 K cl adP):=by
 have nd:=ah0.nd
 refine okP (np:=2) (n:=2) F ah0 (by decide) (by decide) (b:=ahA) (k:=2) fun cdv A outer s H E hr=>?_
 exact (aah (abu (aa2 akn s_lt (aac 1) aaf (aa4 _)) (aai (aaz (aaZ C_wlowest hr (by decide) rfl (aaa (acd (aaa (aau ab7 adk aaf (aac 0)) (aaa (aau ab7 adk aaf (aac 1)) aag))) aag)))) aa3)
   (aai (aaz (aaZ C_wlowest hr (by decide) rfl (aaa (acd (aaa (aac 0) (aaa (aac 1) aag))) aag)))))
theorem afQ:aaI ["_law_p","_law_q","_law_way","_law_far_here"] ["_law_p","_law_q","_law_way"] (aad acw):=⟨rfl,rfl,rfl,by decide +kernel,rfl,by decide +kernel,by decide +kernel⟩
theorem ajm {f:Addr} {fd:FuncData} (F:Fun K "_law_joined" "_law_joined" acw f fd)
  (C_wlowest:Cal P w K mg base cl "_law_lowest" 2 ["_law_numbers"] aa1)
  (m_len:mg "len" = none)
  (m_range:mg "range" = none)
  : FnOk P w K mg base CX0 3 f fd ["_law_p","_law_q","_law_way"] (spP0 K cl abe):=by
 have nd:=afQ.nd
 refine okP (np:=3) (n:=4) F afQ (by decide) (by decide) (b:=aeN) (k:=2) fun cdv A outer s H E hr=>?_
 exact (aah (acC (i:=3) (own:=["_law_k"]) (cap:=[(2,"_law_way"),(1,"_law_q"),(0,"_law_p")]) nd rfl (Or.inl rfl) (abG (aad acw) ["_law_p","_law_q","_law_way","_law_far_here"] rfl rfl rfl (by decide +kernel) (by decide +kernel) (by decide +kernel) (by decide +kernel) (by decide +kernel)) (abh rfl m_range (aaa (aau ab7 adk (aa5 aa8 ae3 rfl m_len ado (aaa (aac 0) aag)) aaf) aag)) rfl (fun _ _ _ _=>(aay (i:=0) (show (cmpN ["_law_k"] [(2,"_law_way"),(1,"_law_q"),(0,"_law_p")]).Nodup by decide +kernel) rfl (Or.inl rfl) (Or.inr rfl))) (fun _ _ _ _=>(aau aaU abz (aau aaN aa7 (aau aaN aa7 (aac 1) (aaT (aac 3) (aac 0))) (aaT (aac 2) (abW abj abV aaf))) (aau aaN aa7 (aaT (aac 2) (aac 0)) (aaT (aac 3) (abW abj abV aaf))))))
   (aai (aaz (aaZ C_wlowest hr (by decide) rfl (aaa (aau aaU abz (aac 3) (acd (aaa (aau aaN aa7 (aaT (aac 0) (abW abj abV aaf)) (aaT (aac 1) (abW abj abV aaf))) aag))) aag)))))
theorem ajA:aaI ["_law_p","_law_q"] ["_law_p","_law_q"] (aad afb):=⟨rfl,rfl,rfl,by decide +kernel,rfl,by decide +kernel,by decide +kernel⟩
theorem am9 {f:Addr} {fd:FuncData} (F:Fun K "_law_gap" "_law_gap" afb f fd)
  (m_len:mg "len" = none)
  (m_range:mg "range" = none)
  : FnOk P w K mg base CX0 1 f fd ["_law_p","_law_q"] (spP0 K cl aez):=by
 have nd:=ajA.nd
 refine okP (np:=2) (n:=2) F ajA (by decide) (by decide) (b:=aju) (k:=0) fun cdv A outer s H E hr=>?_
 exact (aai (aaz (abK (own:=["_law_k"]) (cap:=[(1,"_law_q"),(0,"_law_p")]) (abG (aad afb) ["_law_p","_law_q"] rfl rfl rfl (by decide +kernel) (by decide +kernel) (by decide +kernel) (by decide +kernel) (by decide +kernel)) (abh rfl m_range (aaa (aau ab7 adk (aa5 aa8 ae3 rfl m_len ado (aaa (aac 0) aag)) aaf) aag)) rfl (fun _ _ _ _=>(aay (i:=0) (show (cmpN ["_law_k"] [(1,"_law_q"),(0,"_law_p")]).Nodup by decide +kernel) rfl (Or.inl rfl) (Or.inr rfl))) (fun _ _ _ _=>(aau ab7 adk (aau aaN aa7 (aaT (aac 1) (aac 0)) (aaT (aac 2) (abW abj abV aaf))) (aau aaN aa7 (aaT (aac 2) (aac 0)) (aaT (aac 1) (abW abj abV aaf))))))))
theorem agY:aaI ["_law_u","_law_v","_law_x","_law_y","_law_z"] ["_law_u","_law_v"] (aad adx):=⟨rfl,rfl,rfl,by decide +kernel,rfl,by decide +kernel,by decide +kernel⟩
theorem ake {f:Addr} {fd:FuncData} (F:Fun K "_law_cross" "_law_cross" adx f fd)
  : FnOk P w K mg base CX0 1 f fd ["_law_u","_law_v"] (spP0 K cl adt):=by
 have nd:=agY.nd
 refine okP (np:=2) (n:=5) F agY (by decide) (by decide) (b:=af2) (k:=0) fun cdv A outer s H E hr=>?_
 exact (aah (aaK (i:=2) nd rfl (Or.inl rfl) (aau ab7 adk (aau aaN aa7 (aaT (aac 0) aaf) (aaT (aac 1) aaf)) (aau aaN aa7 (aaT (aac 0) aaf) (aaT (aac 1) aaf))))
   (aah (aaK (i:=3) nd rfl (Or.inl rfl) (aau ab7 adk (aau aaN aa7 (aaT (aac 0) aaf) (aaT (aac 1) aaf)) (aau aaN aa7 (aaT (aac 0) aaf) (aaT (aac 1) aaf))))
   (aah (aaK (i:=4) nd rfl (Or.inl rfl) (aau ab7 adk (aau aaN aa7 (aaT (aac 0) aaf) (aaT (aac 1) aaf)) (aau aaN aa7 (aaT (aac 0) aaf) (aaT (aac 1) aaf))))
   (aai (aaz (acd (aaa (aac 2) (aaa (aac 3) (aaa (aac 4) aag)))))))))
theorem akN:aaI ["_law_u","_law_v"] ["_law_u","_law_v"] (aad ae0):=⟨rfl,rfl,rfl,by decide +kernel,rfl,by decide +kernel,by decide +kernel⟩
theorem anC {f:Addr} {fd:FuncData} (F:Fun K "_law_dot" "_law_dot" ae0 f fd)
  (m_sum:mg "sum" = none)
  (m_zip:mg "zip" = none)
  : FnOk P w K mg base CX0 1 f fd ["_law_u","_law_v"] (spP0 K cl afN):=by
 have nd:=akN.nd
 refine okP (np:=2) (n:=2) F akN (by decide) (by decide) (b:=aj2) (k:=0) fun cdv A outer s H E hr=>?_
 exact (aai (aaz (aa5 (ag7 rfl) aop rfl m_sum aml (aaa (abK (own:=["_law_one","_law_other"]) (cap:=[]) (abG (aad ae0) ["_law_u","_law_v"] rfl rfl rfl (by decide +kernel) (by decide +kernel) (by decide +kernel) (by decide +kernel) (by decide +kernel)) (aee rfl m_zip (aaa (aac 0) (aaa (aac 1) aag))) rfl (fun _ _ _ _=>(adJ rfl (abl (aay (i:=0) (show (cmpN ["_law_one","_law_other"] []).Nodup by decide +kernel) rfl (Or.inl rfl) (Or.inr rfl)) (abl (aay (i:=1) (show (cmpN ["_law_one","_law_other"] []).Nodup by decide +kernel) rfl (Or.inl rfl) (Or.inr rfl)) ac8)))) (fun _ _ _ _=>(aau aaN aa7 (aac 0) (aac 1)))) aag))))
theorem aik:aaI ["_law_ways"] ["_law_ways"] (aad aet):=⟨rfl,rfl,rfl,by decide +kernel,rfl,by decide +kernel,by decide +kernel⟩
theorem ak6 {f:Addr} {fd:FuncData} (F:Fun K "_law_turn" "_law_turn" aet f fd)
  (C_wdot:Cal P w K mg base cl "_law_dot" 1 ["_law_u","_law_v"] afN)
  (C_wcross:Cal P w K mg base cl "_law_cross" 1 ["_law_u","_law_v"] adt)
  (m_len:mg "len" = none)
  : FnOk P w K mg base CX0 2 f fd ["_law_ways"] (spP0 K cl ab4):=by
 have nd:=aik.nd
 refine okP (np:=1) (n:=1) F aik (by decide) (by decide) (b:=aeu) (k:=1) fun cdv A outer s H E hr=>?_
 exact (aah (abu (aa2 (ab1 (hu8 hr)) s_eq (aa5 aa8 ae3 rfl m_len ado (aaa (aac 0) aag)) aaf (aa4 _)) (aai (aaz (aau ab7 adk (aau aaN aa7 (aaT (aaT (aac 0) aaf) aaf) (aaT (aaT (aac 0) aaf) aaf)) (aau aaN aa7 (aaT (aaT (aac 0) aaf) aaf) (aaT (aaT (aac 0) aaf) aaf))))) aa3)
   (aai (aaz (aaZ C_wdot hr (by decide) rfl (aaa (aaZ C_wcross hr (by decide) rfl (aaa (aaT (aac 0) aaf) (aaa (aaT (aac 0) aaf) aag))) (aaa (aaT (aac 0) aaf) aag))))))
theorem ajK:aaI ["_law_points"] ["_law_points"] (aad afe):=⟨rfl,rfl,rfl,by decide +kernel,rfl,by decide +kernel,by decide +kernel⟩
theorem amO {f:Addr} {fd:FuncData} (F:Fun K "_law_det" "_law_det" afe f fd)
  (C_wturn:Cal P w K mg base cl "_law_turn" 2 ["_law_ways"] ab4)
  (C_wgap:Cal P w K mg base cl "_law_gap" 1 ["_law_p","_law_q"] aez)
  : FnOk P w K mg base CX0 3 f fd ["_law_points"] (spP0 K cl adm):=by
 have nd:=ajK.nd
 refine okP (np:=1) (n:=1) F ajK (by decide) (by decide) (b:=ais) (k:=2) fun cdv A outer s H E hr=>?_
 exact (aai (aaz (aaZ C_wturn hr (by decide) rfl (aaa (abK (own:=["_law_p"]) (cap:=[(0,"_law_points")]) (abG (aad afe) ["_law_points"] rfl rfl rfl (by decide +kernel) (by decide +kernel) (by decide +kernel) (by decide +kernel) (by decide +kernel)) (abv (adB (aac 0) (abm aaf) abD)) rfl (fun _ _ _ _=>(aay (i:=0) (show (cmpN ["_law_p"] [(0,"_law_points")]).Nodup by decide +kernel) rfl (Or.inl rfl) (Or.inr rfl))) (fun _ _ _ _=>(aaZ C_wgap hr (by decide) rfl (aaa (aaT (aac 1) aaf) (aaa (aac 0) aag))))) aag))))
theorem aff:aaI ["_law_points","_law_told"] ["_law_points"] (aad acl):=⟨rfl,rfl,rfl,by decide +kernel,rfl,by decide +kernel,by decide +kernel⟩
theorem ahL {f:Addr} {fd:FuncData} (F:Fun K "_law_simplex" "_law_simplex" acl f fd)
  (C_wdet:Cal P w K mg base cl "_law_det" 3 ["_law_points"] adm)
  (m_sorted:mg "sorted" = none)
  (m_tuple:mg "tuple" = none)
  : FnOk P w K mg base CX0 4 f fd ["_law_points"] (spP0 K cl aba):=by
 have nd:=aff.nd
 refine okP (np:=1) (n:=2) F aff (by decide) (by decide) (b:=adu) (k:=3) fun cdv A outer s H E hr=>?_
 exact (aah (aaK (i:=1) nd rfl (Or.inl rfl) (aa5 afM ams rfl m_sorted ahe (aaa (aac 0) aag)))
   (aah (abu (aa2 akn s_lt (aaZ C_wdet hr (by decide) rfl (aaa (aac 1) aag)) aaf (aa4 _)) (aai (aaK (i:=1) nd rfl (Or.inl rfl) (aau aaU abz (adB (aac 1) abD (abm (abW abj abV aaf))) (acd (aaa (aaT (aac 1) (abW abj abV aaf)) (aaa (aaT (aac 1) (abW abj abV aaf)) aag)))))) aa3)
   (aai (aaz (abw abC adI rfl m_tuple acb (aaa (aac 1) aag))))))
theorem adG:aaI ["_law_p","_law_many"] ["_law_p","_law_many"] (aad abR):=⟨rfl,rfl,rfl,by decide +kernel,rfl,by decide +kernel,by decide +kernel⟩
theorem afy {f:Addr} {fd:FuncData} (F:Fun K "_law_point_form" "_law_point_form" abR f fd)
  (C_wwholes:Cal P w K mg base cl "_law_wholes" 2 ["_law_told","_law_many"] acO)
  (C_wlowest:Cal P w K mg base cl "_law_lowest" 2 ["_law_numbers"] aa1)
  : FnOk P w K mg base CX0 3 f fd ["_law_p","_law_many"] (spP0 K cl aby):=by
 have nd:=adG.nd
 refine okP (np:=2) (n:=2) F adG (by decide) (by decide) (b:=acX) (k:=2) fun cdv A outer s H E hr=>?_
 exact (aah (abu (PWp.pt (akg (aeQ (afo (aaZ C_wwholes hr (by decide) rfl (aaa (aac 0) (aaa (aau aaU abz (aac 1) aaf) aag))))) (ahC (aa2 akn s_lt (aaT (aac 0) (abW abj abV aaf)) aaf (aa4 _))))) (aai (aaz ahJ)) aa3)
   (aai (aaz (afE (ab1 (hu8 hr)) s_eq (aaZ C_wlowest hr (by decide) rfl (aaa (aac 0) aag)) (aac 0) (aa4 _)))))
theorem adi:aaI ["_law_points","_law_many"] ["_law_points","_law_many"] (aad abk):=⟨rfl,rfl,rfl,by decide +kernel,rfl,by decide +kernel,by decide +kernel⟩
theorem aeC {f:Addr} {fd:FuncData} (F:Fun K "_law_simplex_form" "_law_simplex_form" abk f fd)
  (C_wpoint_form:Cal P w K mg base cl "_law_point_form" 3 ["_law_p","_law_many"] aby)
  (C_wdet:Cal P w K mg base cl "_law_det" 3 ["_law_points"] adm)
  (C_wsimplex:Cal P w K mg base cl "_law_simplex" 4 ["_law_points"] aba)
  (m_all:mg "all" = none)
  (m_isinstance:mg "isinstance" = none)
  (m_len:mg "len" = none)
  (m_tuple:mg "tuple" = none)
  : FnOk P w K mg base CX0 5 f fd ["_law_points","_law_many"] (spP0 K cl abi):=by
 have nd:=adi.nd
 refine okP (np:=2) (n:=2) F adi (by decide) (by decide) (b:=aco) (k:=4) fun cdv A outer s H E hr=>?_
 exact (aah (abu (PWp.pt (akg (aeQ (afo (agM (n:="tuple") rfl m_isinstance rfl m_tuple acb (aac 0)))) (ahC (aa2 (af1 (hu8 hr)) s_ne (aa5 aa8 ae3 rfl m_len ado (aaa (aac 0) aag)) (aau aaU abz (aac 1) aaf) (aa4 _))))) (aai (aaz ahJ)) aa3)
   (aah (abu (aeQ (afo (aa5 (agt rfl) amY rfl m_all akM (aaa (abK (own:=["_law_p"]) (cap:=[(1,"_law_many")]) (abG (aad abk) ["_law_points","_law_many"] rfl rfl rfl (by decide +kernel) (by decide +kernel) (by decide +kernel) (by decide +kernel) (by decide +kernel)) (abv (aac 0)) rfl (fun _ _ _ _=>(aay (i:=0) (show (cmpN ["_law_p"] [(1,"_law_many")]).Nodup by decide +kernel) rfl (Or.inl rfl) (Or.inr rfl))) (fun _ _ _ _=>(aaZ C_wpoint_form hr (by decide) rfl (aaa (aac 0) (aaa (aac 1) aag))))) aag)))) (aai (aaz ahJ)) aa3)
   (aai (aaz (ahZ (afE (af1 (hu8 hr)) s_ne (aaZ C_wdet hr (by decide) rfl (aaa (aac 0) aag)) aaf (aa4 _)) (aiF (afE (ab1 (hu8 hr)) s_eq (aaZ C_wsimplex hr (by decide) rfl (aaa (aac 0) aag)) (aac 0) (aa4 _))))))))
theorem ad3:aaI ["_law_heap","_law_many"] ["_law_heap","_law_many"] (aad abP):=⟨rfl,rfl,rfl,by decide +kernel,rfl,by decide +kernel,by decide +kernel⟩
theorem agr {f:Addr} {fd:FuncData} (F:Fun K "_law_heap_form" "_law_heap_form" abP f fd)
  (C_wsimplex_form:Cal P w K mg base cl "_law_simplex_form" 5 ["_law_points","_law_many"] abi)
  (m_all:mg "all" = none)
  (m_isinstance:mg "isinstance" = none)
  (m_tuple:mg "tuple" = none)
  : FnOk P w K mg base CX0 6 f fd ["_law_heap","_law_many"] (spP0 K cl abN):=by
 have nd:=ad3.nd
 refine okP (np:=2) (n:=2) F ad3 (by decide) (by decide) (b:=adp) (k:=5) fun cdv A outer s H E hr=>?_
 exact (aah (abu (aeQ (afo (agM (n:="tuple") rfl m_isinstance rfl m_tuple acb (aac 0)))) (aai (aaz ahJ)) aa3)
   (aai (aaz (aa5 (agt rfl) amY rfl m_all akM (aaa (abK (own:=["_law_points"]) (cap:=[(1,"_law_many")]) (abG (aad abP) ["_law_heap","_law_many"] rfl rfl rfl (by decide +kernel) (by decide +kernel) (by decide +kernel) (by decide +kernel) (by decide +kernel)) (abv (aac 0)) rfl (fun _ _ _ _=>(aay (i:=0) (show (cmpN ["_law_points"] [(1,"_law_many")]).Nodup by decide +kernel) rfl (Or.inl rfl) (Or.inr rfl))) (fun _ _ _ _=>(aaZ C_wsimplex_form hr (by decide) rfl (aaa (aac 0) (aaa (aac 1) aag))))) aag)))))
theorem aex:aaI ["_law_corners"] ["_law_corners"] (aad abO):=⟨rfl,rfl,rfl,by decide +kernel,rfl,by decide +kernel,by decide +kernel⟩
theorem agQ {f:Addr} {fd:FuncData} (F:Fun K "_law_raw_turn" "_law_raw_turn" abO f fd)
  (C_wturn:Cal P w K mg base cl "_law_turn" 2 ["_law_ways"] ab4)
  (m_zip:mg "zip" = none)
  : FnOk P w K mg base CX0 3 f fd ["_law_corners"] (spP0 K cl abr):=by
 have nd:=aex.nd
 refine okP (np:=1) (n:=1) F aex (by decide) (by decide) (b:=ac7) (k:=2) fun cdv A outer s H E hr=>?_
 exact (aai (aaz (aaZ C_wturn hr (by decide) rfl (aaa (abK (own:=["_law_corner"]) (cap:=[(0,"_law_corners")]) (abG (aad abO) ["_law_corners"] rfl rfl rfl (by decide +kernel) (by decide +kernel) (by decide +kernel) (by decide +kernel) (by decide +kernel)) (abv (adB (aac 0) (abm aaf) abD)) rfl (fun _ _ _ _=>(aay (i:=0) (show (cmpN ["_law_corner"] [(0,"_law_corners")]).Nodup by decide +kernel) rfl (Or.inl rfl) (Or.inr rfl))) (fun _ _ _ _=>(abK (own:=["_law_b","_law_c"]) (cap:=[]) (anM (aad abO) rfl rfl rfl (by decide +kernel) (by decide +kernel) (by decide +kernel) (by decide +kernel) (by decide +kernel)) (aee rfl m_zip (aaa (aaT (aac 1) aaf) (aaa (aac 0) aag))) rfl (fun _ _ _ _=>(adJ rfl (abl (aay (i:=0) (show (cmpN ["_law_b","_law_c"] []).Nodup by decide +kernel) rfl (Or.inl rfl) (Or.inr rfl)) (abl (aay (i:=1) (show (cmpN ["_law_b","_law_c"] []).Nodup by decide +kernel) rfl (Or.inl rfl) (Or.inr rfl)) ac8)))) (fun _ _ _ _=>(aau ab7 adk (aac 1) (aac 0)))))) aag))))
theorem ajs:aaI ["_law_row_here","_law_dims","_law_wide","_law_corners","_law_k"] ["_law_row_here","_law_dims","_law_wide"] (aad adY):=⟨rfl,rfl,rfl,by decide +kernel,rfl,by decide +kernel,by decide +kernel⟩
theorem anE {f:Addr} {fd:FuncData} (F:Fun K "_law_raw" "_law_raw" adY f fd)
  (C_wtake:Cal P w K mg base cl "_law_take" 1 ["_law_row_here","_law_many"] aav)
  (C_wraw_turn:Cal P w K mg base cl "_law_raw_turn" 3 ["_law_corners"] abr)
  (m_int:mg "int" = none)
  (m_range:mg "range" = none)
  : FnOk P w K mg base CX0 4 f fd ["_law_row_here","_law_dims","_law_wide"] (spP0 K cl adh):=by
 have nd:=ajs.nd
 refine okP (np:=3) (n:=5) F ajs (by decide) (by decide) (b:=akB) (k:=3) fun cdv A outer s H E hr=>?_
 exact (aah (aaK (i:=3) nd rfl (Or.inl rfl) (ac5 aag))
   (aah (ab9 PassesOwn.never rfl (abh rfl m_range (aaa (aau aaU abz (aac 1) aaf) aag)) (aay (i:=4) nd rfl (Or.inl rfl)) (aai (abQ (abU (aac 3) (aaa (abK (own:=["_law_m"]) (cap:=[(0,"_law_row_here"),(2,"_law_wide")]) (abG (aad adY) ["_law_row_here","_law_dims","_law_wide","_law_corners","_law_k"] rfl rfl rfl (by decide +kernel) (by decide +kernel) (by decide +kernel) (by decide +kernel) (by decide +kernel)) (abh rfl m_range (aaa (aac 1) aag)) rfl (fun _ _ _ _=>(aay (i:=0) (show (cmpN ["_law_m"] [(0,"_law_row_here"),(2,"_law_wide")]).Nodup by decide +kernel) rfl (Or.inl rfl) (Or.inr rfl))) (fun _ _ _ _=>(aaZ C_wtake hr (by decide) rfl (aaa (aac 1) (aaa (aau aaU abz (aac 2) aaf) aag))))) aag)))))
   (aah (abu (aa2 (af1 (hu8 hr)) s_ne (aaZ C_wraw_turn hr (by decide) rfl (aaa (aac 3) aag)) aaf (aa4 _)) (aai (aaz (aac 3))) aa3)
   (aai (aaz (alY (own:=["_law_k"]) (cap:=[(1,"_law_dims")]) (ani (aad adY) ["_law_row_here","_law_dims","_law_wide","_law_corners","_law_k"] rfl rfl rfl (by decide +kernel) (by decide +kernel) (by decide +kernel) (by decide +kernel) (by decide +kernel)) (aiQ rfl m_range (aaa (abW abj abV aaf) (aaa (aac 1) aag))) rfl (fun _ _ _ _=>(aay (i:=0) (show (cmpN ["_law_k"] [(1,"_law_dims")]).Nodup by decide +kernel) rfl (Or.inr rfl) (Or.inl rfl))) (fun _ _ _ _=>(abK (own:=["_law_m"]) (cap:=[(0,"_law_k")]) (ank (aad adY) rfl rfl rfl (by decide +kernel) (by decide +kernel) (by decide +kernel) (by decide +kernel) (by decide +kernel)) (abh rfl m_range (aaa (aac 1) aag)) rfl (fun _ _ _ _=>(aay (i:=0) (show (cmpN ["_law_m"] [(0,"_law_k")]).Nodup by decide +kernel) rfl (Or.inl rfl) (Or.inr rfl))) (fun _ _ _ _=>(abw ag6 ao7 rfl m_int ajz (aaa (afE (ab1 (hu8 hr)) s_eq (aac 0) (aac 1) (aa4 _)) aag)))))))))))
theorem aiw:aaI ["_law_row_here","_law_rest","_law_corner","_law_corners","_law_k","_law_m"] ["_law_row_here"] (aad aep):=⟨rfl,rfl,rfl,by decide +kernel,rfl,by decide +kernel,by decide +kernel⟩
theorem ak7 {f:Addr} {fd:FuncData} (F:Fun K "_law_kuhn" "_law_kuhn" aep f fd)
  (C_wtake:Cal P w K mg base cl "_law_take" 1 ["_law_row_here","_law_many"] aav)
  (m_len:mg "len" = none)
  (m_list:mg "list" = none)
  (m_range:mg "range" = none)
  : FnOk P w K mg base CX0 2 f fd ["_law_row_here"] (spP0 K cl adq):=by
 have nd:=aiw.nd
 refine okL (np:=1) (n:=6) F aiw (by decide) (by decide) (b:=agd) (k:=1) fun cdv A outer s H E hr=>?_
 exact (aah (aaK (i:=1) nd rfl (Or.inl rfl) (ac5 (aaa aaf (aaa aaf (aaa aaf aag)))))
   (aah (aaK (i:=2) nd rfl (Or.inl rfl) (ac5 (aaa aaf (aaa aaf (aaa aaf aag)))))
   (aah (aaK (i:=3) nd rfl (Or.inl rfl) (aor rfl rfl m_list (aaa (aac 2) aag)))
   (aah (ab9 PassesOwn.never rfl (abh rfl m_range (aaa aaf aag)) (aay (i:=4) nd rfl (Or.inl rfl)) (aah (adX aaf (aac 2) (amk (aac 1) (aaa (aaZ C_wtake hr (by decide) rfl (aaa (aac 0) (aaa (aa5 aa8 ae3 rfl m_len ado (aaa (aac 1) aag)) aag))) aag)))
   (aai (abQ (amL rfl rfl m_list (aac 3) (aaa (aac 2) aag))))))
   (aah (ab9 PassesOwn.never rfl (abh rfl m_range (aaa aaf aag)) (aay (i:=5) nd rfl (Or.inl rfl)) (aai (abu (aa2 (ab1 (hu8 hr)) s_eq (aaZ C_wtake hr (by decide) rfl (aaa (aac 0) (aaa aaf aag))) aaf (aa4 _)) (aai (amG (ics:=3) (ic:=2) (im:=5) PassesOwn.never rfl nd rfl rfl rfl (Or.inl rfl) (Or.inl rfl) (Or.inl rfl) (by decide) (by decide))) aa3)))
   (aai (aaz (aac 3))))))))
theorem aeA:aaI ["_law_row_here","_law_dims","_law_many","_law_heap","_law_k","_law_kind"] ["_law_row_here","_law_dims","_law_many"] (aad aca):=⟨rfl,rfl,rfl,by decide +kernel,rfl,by decide +kernel,by decide +kernel⟩
theorem ahl {f:Addr} {fd:FuncData} (F:Fun K "_law_raw_heap" "_law_raw_heap" aca f fd)
  (C_wtake:Cal P w K mg base cl "_law_take" 1 ["_law_row_here","_law_many"] aav)
  (C_wraw:Cal P w K mg base cl "_law_raw" 4 ["_law_row_here","_law_dims","_law_wide"] adh)
  (C_wkuhn:Cal P w K mg base cl "_law_kuhn" 2 ["_law_row_here"] adq)
  (m_int:mg "int" = none)
  (m_len:mg "len" = none)
  (m_range:mg "range" = none)
  : FnOk P w K mg base CX0 5 f fd ["_law_row_here","_law_dims","_law_many"] (spP0 K cl abq):=by
 have nd:=aeA.nd
 refine okP (np:=3) (n:=6) F aeA (by decide) (by decide) (b:=adK) (k:=4) fun cdv A outer s H E hr=>?_
 exact (aah (aaK (i:=3) nd rfl (Or.inl rfl) (ac5 aag))
   (aah (ab9 PassesOwn.never rfl (abh rfl m_range (aaa (aaZ C_wtake hr (by decide) rfl (aaa (aac 0) (aaa (aau aaU abz (aac 2) aaf) aag))) aag)) (aay (i:=4) nd rfl (Or.inl rfl)) (aah (aaK (i:=5) nd rfl (Or.inl rfl) (aaZ C_wtake hr (by decide) rfl (aaa (aac 0) (aaa aaf aag))))
   (aai (abu (PWp.pt (ajR (aa2 (ab1 (hu8 hr)) s_eq (aac 5) aaf (aa4 _)) (aip (aa2 ajZ s_gt (aa5 aa8 ae3 rfl m_len ado (aaa (aac 3) aag)) aaf (aa4 _))))) (aai (abQ (abU (aac 3) (aaa (aaT (aac 3) (abW abj abV aaf)) aag)))) (aai (abu (aa2 (ab1 (hu8 hr)) s_eq (aac 1) aaf (aa4 _)) (aai (abQ (abU (aac 3) (aaa (aaZ C_wraw hr (by decide) rfl (aaa (aac 0) (aaa aaf (aaa (aau aaU abz aaf (abw ag6 ao7 rfl m_int ajz (aaa (afE (ab1 (hu8 hr)) s_eq (aac 5) aaf (aa4 _)) aag))) aag)))) aag)))) (aai (abu (aa2 ajZ s_gt (aac 5) aaf (aa4 _)) (aai (abQ (abU (aac 3) (aaa (aaZ C_wraw hr (by decide) rfl (aaa (aac 0) (aaa aaf (aaa aaf aag)))) aag)))) (aai (abQ (abU (aac 3) (aaa (aaZ C_wkuhn hr (by decide) rfl (aaa (aac 0) aag)) aag))))))))))))
   (aai (aaz (aac 3)))))
theorem ajr:aaI ["_law_row_here","_law_dims","_law_kind","_law_wide","_law_under","_law_far_here"] ["_law_row_here","_law_dims"] (aad aeO):=⟨rfl,rfl,rfl,by decide +kernel,rfl,by decide +kernel,by decide +kernel⟩
theorem anB {f:Addr} {fd:FuncData} (F:Fun K "_law_far" "_law_far" aeO f fd)
  (C_wtake:Cal P w K mg base cl "_law_take" 1 ["_law_row_here","_law_many"] aav)
  (C_wlowest:Cal P w K mg base cl "_law_lowest" 2 ["_law_numbers"] aa1)
  (m_range:mg "range" = none)
  : FnOk P w K mg base CX0 3 f fd ["_law_row_here","_law_dims"] (spP0 K cl adH):=by
 have nd:=ajr.nd
 refine okP (np:=2) (n:=6) F ajr (by decide) (by decide) (b:=ajW) (k:=2) fun cdv A outer s H E hr=>?_
 exact (aah (aaK (i:=2) nd rfl (Or.inl rfl) (aaZ C_wtake hr (by decide) rfl (aaa (aac 0) (aaa aaf aag))))
   (aah (aaK (i:=3) nd rfl (Or.inr rfl) (aaT (acd (aaa aaf (aaa aaf (aaa aaf (aaa (aau afi ahQ aaf aaf) aag))))) (aac 2)))
   (aah (aaK (i:=4) nd rfl (Or.inl rfl) (aau aaU abz aaf (aau aaN aa7 (aaZ C_wtake hr (by decide) rfl (aaa (aac 0) (aaa aaf aag))) (aau ad8 agG (aac 2) aaf))))
   (aah (acC (i:=5) (own:=["_law_k"]) (cap:=[(3,"_law_wide"),(0,"_law_row_here")]) nd rfl (Or.inl rfl) (abG (aad aeO) ["_law_row_here","_law_dims","_law_kind","_law_wide","_law_under","_law_far_here"] rfl rfl rfl (by decide +kernel) (by decide +kernel) (by decide +kernel) (by decide +kernel) (by decide +kernel)) (abh rfl m_range (aaa (aac 1) aag)) rfl (fun _ _ _ _=>(aay (i:=0) (show (cmpN ["_law_k"] [(3,"_law_wide"),(0,"_law_row_here")]).Nodup by decide +kernel) rfl (Or.inl rfl) (Or.inr rfl))) (fun _ _ _ _=>(aau ab7 adk (aaZ C_wtake hr (by decide) rfl (aaa (aac 2) (aaa (aau aaU abz (aau aaN aa7 aaf (aac 1)) aaf) aag))) (aac 1))))
   (aai (aaz (aaZ C_wlowest hr (by decide) rfl (aaa (aau aaU abz (aac 5) (acd (aaa (aac 4) aag))) aag))))))))
theorem aeZ:aaI ["_law_row_here","_law_dims","_law_told","_law_k","_law_kind"] ["_law_row_here","_law_dims"] (aad ack):=⟨rfl,rfl,rfl,by decide +kernel,rfl,by decide +kernel,by decide +kernel⟩
theorem ahK {f:Addr} {fd:FuncData} (F:Fun K "_law_stretch" "_law_stretch" ack f fd)
  (C_wtake:Cal P w K mg base cl "_law_take" 1 ["_law_row_here","_law_many"] aav)
  (C_wfrac:Cal P w K mg base cl "_law_frac" 3 ["_law_top","_law_bottom"] adP)
  (m_range:mg "range" = none)
  : FnOk P w K mg base CX0 4 f fd ["_law_row_here","_law_dims"] (spP0 K cl abH):=by
 have nd:=aeZ.nd
 refine okP (np:=2) (n:=5) F aeZ (by decide) (by decide) (b:=aeo) (k:=3) fun cdv A outer s H E hr=>?_
 exact (aah (aaK (i:=2) nd rfl (Or.inl rfl) (ac5 aag))
   (aah (ab9 PassesOwn.never rfl (abh rfl m_range (aaa (aac 1) aag)) (aay (i:=3) nd rfl (Or.inl rfl)) (aah (aaK (i:=4) nd rfl (Or.inl rfl) (aaZ C_wtake hr (by decide) rfl (aaa (aac 0) (aaa aaf aag))))
   (aai (abQ (abU (aac 2) (aaa (aaZ C_wfrac hr (by decide) rfl (aaa (aau aaU abz aaf (aaZ C_wtake hr (by decide) rfl (aaa (aac 0) (aaa (aaT (acd (aaa aaf (aaa aaf (aaa (aau afi ahQ aaf aaf) aag)))) (aac 4)) aag)))) (aaa (aau aaU abz aaf (aaZ C_wtake hr (by decide) rfl (aaa (aac 0) (aaa (aaT (acd (aaa aaf (aaa aaf (aaa (aau afi ahQ aaf aaf) aag)))) (aac 4)) aag)))) aag))) aag))))))
   (aai (aaz (aac 2)))))
theorem aiv:aaI ["_law_corner","_law_stretch_here","_law_under","_law_part","_law_far_here"] ["_law_corner","_law_stretch_here"] (aad adO):=⟨rfl,rfl,rfl,by decide +kernel,rfl,by decide +kernel,by decide +kernel⟩
theorem alG {f:Addr} {fd:FuncData} (F:Fun K "_law_spot" "_law_spot" adO f fd)
  (C_wlowest:Cal P w K mg base cl "_law_lowest" 2 ["_law_numbers"] aa1)
  (m_zip:mg "zip" = none)
  : FnOk P w K mg base CX0 3 f fd ["_law_corner","_law_stretch_here"] (spP0 K cl acZ):=by
 have nd:=aiv.nd
 refine okP (np:=2) (n:=5) F aiv (by decide) (by decide) (b:=age) (k:=2) fun cdv A outer s H E hr=>?_
 exact (aah (aaK (i:=2) nd rfl (Or.inr rfl) aaf)
   (aah (ab9 PassesOwn.never rfl (abv (aac 1)) (aay (i:=3) nd rfl (Or.inl rfl)) (aai (aaK (i:=2) nd rfl (Or.inr rfl) (aau aaN aa7 (aac 2) (aaT (aac 3) aaf)))))
   (aah (acC (i:=4) (own:=["_law_number","_law_part"]) (cap:=[(2,"_law_under")]) nd rfl (Or.inl rfl) (abG (aad adO) ["_law_corner","_law_stretch_here","_law_under","_law_part","_law_far_here"] rfl rfl rfl (by decide +kernel) (by decide +kernel) (by decide +kernel) (by decide +kernel) (by decide +kernel)) (aee rfl m_zip (aaa (aac 0) (aaa (aac 1) aag))) rfl (fun _ _ _ _=>(adJ rfl (abl (aay (i:=0) (show (cmpN ["_law_number","_law_part"] [(2,"_law_under")]).Nodup by decide +kernel) rfl (Or.inl rfl) (Or.inr rfl)) (abl (aay (i:=1) (show (cmpN ["_law_number","_law_part"] [(2,"_law_under")]).Nodup by decide +kernel) rfl (Or.inl rfl) (Or.inr rfl)) ac8)))) (fun _ _ _ _=>(aau aaN aa7 (aau aaN aa7 (aac 0) (aaT (aac 1) aaf)) (aau ad8 agG (aac 2) (aaT (aac 1) aaf)))))
   (aai (aaz (aaZ C_wlowest hr (by decide) rfl (aaa (aau aaU abz (aac 4) (acd (aaa (aac 2) aag))) aag)))))))
theorem ah9:aaI ["_law_row_here","_law_heap","_law_stretch_here","_law_told","_law_corners","_law_far_here"] ["_law_row_here","_law_heap","_law_stretch_here"] (aad adL):=⟨rfl,rfl,rfl,by decide +kernel,rfl,by decide +kernel,by decide +kernel⟩
theorem akY {f:Addr} {fd:FuncData} (F:Fun K "_law_laid" "_law_laid" adL f fd)
  (C_wfar:Cal P w K mg base cl "_law_far" 3 ["_law_row_here","_law_dims"] adH)
  (C_wsimplex:Cal P w K mg base cl "_law_simplex" 4 ["_law_points"] aba)
  (C_wjoined:Cal P w K mg base cl "_law_joined" 3 ["_law_p","_law_q","_law_way"] abe)
  (C_wspot:Cal P w K mg base cl "_law_spot" 3 ["_law_corner","_law_stretch_here"] acZ)
  (m_len:mg "len" = none)
  : FnOk P w K mg base CX0 5 f fd ["_law_row_here","_law_heap","_law_stretch_here"] (spP0 K cl acJ):=by
 have nd:=ah9.nd
 refine okP (np:=3) (n:=6) F ah9 (by decide) (by decide) (b:=aho) (k:=4) fun cdv A outer s H E hr=>?_
 exact (aah (aaK (i:=3) nd rfl (Or.inl rfl) (ac5 aag))
   (aah (ab9 PassesOwn.never rfl (abv (aac 1)) (aay (i:=4) nd rfl (Or.inl rfl)) (aah (aaK (i:=5) nd rfl (Or.inr rfl) (aaZ C_wfar hr (by decide) rfl (aaa (aac 0) (aaa (aa5 aa8 ae3 rfl m_len ado (aaa (aac 2) aag)) aag))))
   (aai (abQ (abU (aac 3) (aaa (aaZ C_wsimplex hr (by decide) rfl (aaa (abK (own:=["_law_corner"]) (cap:=[(5,"_law_far_here"),(2,"_law_stretch_here")]) (abG (aad adL) ["_law_row_here","_law_heap","_law_stretch_here","_law_told","_law_corners","_law_far_here"] rfl rfl rfl (by decide +kernel) (by decide +kernel) (by decide +kernel) (by decide +kernel) (by decide +kernel)) (abv (aac 4)) rfl (fun _ _ _ _=>(aay (i:=0) (show (cmpN ["_law_corner"] [(5,"_law_far_here"),(2,"_law_stretch_here")]).Nodup by decide +kernel) rfl (Or.inl rfl) (Or.inr rfl))) (fun _ _ _ _=>(aaZ C_wjoined hr (by decide) rfl (aaa (aaZ C_wspot hr (by decide) rfl (aaa (aac 0) (aaa (aac 2) aag))) (aaa (aac 1) (aaa aaf aag)))))) aag)) aag))))))
   (aai (aaz (aac 3)))))
theorem afZ:aaI ["_law_row_here","_law_rows"] ["_law_row_here","_law_rows"] (aad acS):=⟨rfl,rfl,rfl,by decide +kernel,rfl,by decide +kernel,by decide +kernel⟩
theorem aiV {f:Addr} {fd:FuncData} (F:Fun K "_law_handed" "_law_handed" acS f fd)
  (C_wtake:Cal P w K mg base cl "_law_take" 1 ["_law_row_here","_law_many"] aav)
  (m_list:mg "list" = none)
  (m_tuple:mg "tuple" = none)
  : FnOk P w K mg base CX0 2 f fd ["_law_row_here","_law_rows"] (spP0 K cl ab5):=by
 have nd:=afZ.nd
 refine okP (np:=2) (n:=2) F afZ (by decide) (by decide) (b:=ad2) (k:=1) fun cdv A outer s H E hr=>?_
 exact (aah (abu (aa2 (ab1 (hu8 hr)) s_eq (aaZ C_wtake hr (by decide) rfl (aaa (aac 0) (aaa aaf aag))) aaf (aa4 _)) (aai (aaz (abw abC adI rfl m_tuple acb (aaa (aac 1) aag)))) aa3)
   (aai (aaz (abw abX agc rfl m_list agy (aaa (aac 1) aag)))))
theorem afP:aaI ["_law_p"] ["_law_p"] (aad acR):=⟨rfl,rfl,rfl,by decide +kernel,rfl,by decide +kernel,by decide +kernel⟩
theorem aiY {f:Addr} {fd:FuncData} (F:Fun K "_law_raised" "_law_raised" acR f fd)
  : FnOk P w K mg base CX0 1 f fd ["_law_p"] (spP0 K cl acf):=by
 have nd:=afP.nd
 refine okP (np:=1) (n:=1) F afP (by decide) (by decide) (b:=ae6) (k:=0) fun cdv A outer s H E hr=>?_
 exact (aai (aaz (amb (aaa (aaT (aac 0) aaf) (aaa (aaT (aac 0) aaf) (aaa aaf (aaa (aaT (aac 0) aaf) aag)))))))
theorem ahc:aaI ["_law_heap","_law_far_here","_law_told","_law_points","_law_low","_law_high","_law_k"] ["_law_heap","_law_far_here"] (aad acE):=⟨rfl,rfl,rfl,by decide +kernel,rfl,by decide +kernel,by decide +kernel⟩
theorem ajJ {f:Addr} {fd:FuncData} (F:Fun K "_law_prism" "_law_prism" acE f fd)
  (C_wraised:Cal P w K mg base cl "_law_raised" 1 ["_law_p"] acf)
  (C_wjoined:Cal P w K mg base cl "_law_joined" 3 ["_law_p","_law_q","_law_way"] abe)
  (C_wsimplex:Cal P w K mg base cl "_law_simplex" 4 ["_law_points"] aba)
  (m_range:mg "range" = none)
  : FnOk P w K mg base CX0 5 f fd ["_law_heap","_law_far_here"] (spP0 K cl ac3):=by
 have nd:=ahc.nd
 refine okP (np:=2) (n:=7) F ahc (by decide) (by decide) (b:=agi) (k:=4) fun cdv A outer s H E hr=>?_
 exact (aah (aaK (i:=2) nd rfl (Or.inl rfl) (ac5 aag))
   (aah (ab9 PassesOwn.never rfl (abv (aac 0)) (aay (i:=3) nd rfl (Or.inl rfl)) (aah (acC (i:=4) (own:=["_law_p"]) (cap:=[]) nd rfl (Or.inl rfl) (abG (aad acE) ["_law_heap","_law_far_here","_law_told","_law_points","_law_low","_law_high","_law_k"] rfl rfl rfl (by decide +kernel) (by decide +kernel) (by decide +kernel) (by decide +kernel) (by decide +kernel)) (abv (aac 3)) rfl (fun _ _ _ _=>(aay (i:=0) (show (cmpN ["_law_p"] []).Nodup by decide +kernel) rfl (Or.inl rfl) (Or.inr rfl))) (fun _ _ _ _=>(aaZ C_wraised hr (by decide) rfl (aaa (aac 0) aag))))
   (aah (acC (i:=5) (own:=["_law_p"]) (cap:=[(1,"_law_far_here")]) nd rfl (Or.inl rfl) (abG (aad acE) ["_law_heap","_law_far_here","_law_told","_law_points","_law_low","_law_high","_law_k"] rfl rfl rfl (by decide +kernel) (by decide +kernel) (by decide +kernel) (by decide +kernel) (by decide +kernel)) (abv (aac 4)) rfl (fun _ _ _ _=>(aay (i:=0) (show (cmpN ["_law_p"] [(1,"_law_far_here")]).Nodup by decide +kernel) rfl (Or.inl rfl) (Or.inr rfl))) (fun _ _ _ _=>(aaZ C_wjoined hr (by decide) rfl (aaa (aac 0) (aaa (aac 1) (aaa aaf aag))))))
   (aai (ab9 PassesOwn.never rfl (abh rfl m_range (aaa aaf aag)) (aay (i:=6) nd rfl (Or.inl rfl)) (aai (abQ (abU (aac 2) (aaa (aaZ C_wsimplex hr (by decide) rfl (aaa (aau aaU abz (adB (aac 4) (abm (aac 6)) abD) (adB (aac 5) abD (abm (aau aaU abz (aac 6) aaf)))) aag)) aag)))))))))
   (aai (aaz (aac 2)))))
theorem ahi:aaI ["_law_row_here","_law_dims","_law_wide","_law_under","_law_far_here"] ["_law_row_here","_law_dims"] (aad acY):=⟨rfl,rfl,rfl,by decide +kernel,rfl,by decide +kernel,by decide +kernel⟩
theorem ajV {f:Addr} {fd:FuncData} (F:Fun K "_law_shift" "_law_shift" acY f fd)
  (C_wtake:Cal P w K mg base cl "_law_take" 1 ["_law_row_here","_law_many"] aav)
  (C_wlowest:Cal P w K mg base cl "_law_lowest" 2 ["_law_numbers"] aa1)
  (m_range:mg "range" = none)
  : FnOk P w K mg base CX0 3 f fd ["_law_row_here","_law_dims"] (spP0 K cl acD):=by
 have nd:=ahi.nd
 refine okP (np:=2) (n:=5) F ahi (by decide) (by decide) (b:=agp) (k:=2) fun cdv A outer s H E hr=>?_
 exact (aah (aaK (i:=2) nd rfl (Or.inr rfl) (aaT (acd (aaa aaf (aaa aaf (aaa (aau afi ahQ aaf aaf) aag)))) (aaZ C_wtake hr (by decide) rfl (aaa (aac 0) (aaa aaf aag)))))
   (aah (aaK (i:=3) nd rfl (Or.inl rfl) (aaT (acd (aaa aaf (aaa aaf (aaa (aau afi ahQ aaf aaf) aag)))) (aaZ C_wtake hr (by decide) rfl (aaa (aac 0) (aaa aaf aag)))))
   (aah (aaK (i:=3) nd rfl (Or.inl rfl) (aau aaU abz aaf (aaZ C_wtake hr (by decide) rfl (aaa (aac 0) (aaa (aac 3) aag)))))
   (aah (ajT (i:=4) (own:=["_law_k"]) (cap:=[(2,"_law_wide"),(0,"_law_row_here")]) nd rfl (Or.inl rfl) (abG (aad acY) ["_law_row_here","_law_dims","_law_wide","_law_under","_law_far_here"] rfl rfl rfl (by decide +kernel) (by decide +kernel) (by decide +kernel) (by decide +kernel) (by decide +kernel)) (abh rfl m_range (aaa (aac 1) aag)) rfl (fun _ _ _ _=>(aay (i:=0) (show (cmpN ["_law_k"] [(2,"_law_wide"),(0,"_law_row_here")]).Nodup by decide +kernel) rfl (Or.inl rfl) (Or.inr rfl))) (fun _ _ _ _=>(aau ab7 adk (aaZ C_wtake hr (by decide) rfl (aaa (aac 2) (aaa (aau aaU abz (aau aaN aa7 aaf (aac 1)) aaf) aag))) (aac 1))))
   (aah (adX (aau aaN aa7 (aau aaU abz aaf (aaZ C_wtake hr (by decide) rfl (aaa (aac 0) (aaa (aac 2) aag)))) (aau ab7 adk aaf (aau aaN aa7 aaf (aaZ C_wtake hr (by decide) rfl (aaa (aac 0) (aaa aaf aag)))))) (aac 4) (abW abj abV aaf))
   (aah (abu (aa2 (ab1 (hu8 hr)) s_eq (aaZ C_wtake hr (by decide) rfl (aaa (aac 0) (aaa aaf aag))) aaf (aa4 _)) (aai (adX aaf (aac 4) (abW abj abV aaf))) aa3)
   (aai (aaz (aaZ C_wlowest hr (by decide) rfl (aaa (aau aaU abz (aac 4) (acd (aaa (aac 3) aag))) aag))))))))))
theorem amo:aaI ["_law_script","_law_row_here","_law_heap","_law_far_here","_law_handed_here","_law_found","_law_refused","e"] ["_law_script"] (aad agz):=⟨rfl,rfl,rfl,by decide +kernel,rfl,by decide +kernel,by decide +kernel⟩
theorem aox {f:Addr} {fd:FuncData} (F:Fun K "law" "law" agz f fd)
  (C_wrow:Cal P w K mg base cl "_law_row" 1 ["_law_script"] aew)
  (C_wlaid:Cal P w K mg base cl "_law_laid" 5 ["_law_row_here","_law_heap","_law_stretch_here"] acJ)
  (C_wstretch:Cal P w K mg base cl "_law_stretch" 4 ["_law_row_here","_law_dims"] abH)
  (C_wraw_heap:Cal P w K mg base cl "_law_raw_heap" 5 ["_law_row_here","_law_dims","_law_many"] abq)
  (C_wshift:Cal P w K mg base cl "_law_shift" 3 ["_law_row_here","_law_dims"] acD)
  (C_whanded:Cal P w K mg base cl "_law_handed" 2 ["_law_row_here","_law_rows"] ab5)
  {a_prism:Addr} {d_prism:FuncData}
  (GX_prism:FnOk P w K mg base (CX1 P w) 5 a_prism d_prism ["heap","arrow"] (spP K cl adc))
  (G_prism:FnOk P w K mg base CX0 5 a_prism d_prism ["heap","arrow"] (spP0 K cl adc)) (aer:ac2 K d_prism ["heap","arrow"] []) (k_prism:PySem.W.keepIn K (.ref a_prism) = true) (n_prism:mg "prism" = some (.ref a_prism))
  (C_wheap_form:Cal P w K mg base cl "_law_heap_form" 6 ["_law_heap","_law_many"] abN)
  (C_wprism:Cal P w K mg base cl "_law_prism" 5 ["_law_heap","_law_far_here"] ac3)
  (m_isinstance:mg "isinstance" = none)
  (m_list:mg "list" = none)
  (q_Flat:mg "Flat" = some (.ref (cl "Flat"))) (x_Flat:PySem.W.excIn K (cl "Flat") acn "ValueError.__new__" = true)
  (q_HallError:mg "HallError" = some (.ref (cl "HallError"))) (x_HallError:PySem.W.excIn K (cl "HallError") acn "ValueError.__new__" = true)
  (Z_Flat:XCls K (cl "Flat"))
  (kt_Flat_HallError:PySem.W.kitOne K (.ref (cl "Flat")) (.ref (cl "HallError")) = some true)
  : FnOk P w K mg base CX0 7 f fd ["_law_script"] (spP0 K cl alk):=by
 have nd:=amo.nd
 refine okP (np:=1) (n:=8) F amo (by decide) (by decide) (b:=am5) (k:=6) fun cdv A outer s H E hr=>?_
 exact (aah (aaK (i:=1) nd rfl (Or.inl rfl) (apS C_wrow hr (by decide) rfl (aaa (aac 0) aag)))
   (aah (aaK (i:=2) nd rfl (Or.inl rfl) (aaZ C_wlaid hr (by decide) rfl (aaa (aac 1) (aaa (aaZ C_wraw_heap hr (by decide) rfl (aaa (aac 1) (aaa aaf (aaa aaf aag)))) (aaa (aaZ C_wstretch hr (by decide) rfl (aaa (aac 1) (aaa aaf aag))) aag)))))
   (aah (aaK (i:=3) nd rfl (Or.inl rfl) (aaZ C_wshift hr (by decide) rfl (aaa (aac 1) (aaa aaf aag))))
   (aah (aaK (i:=4) nd rfl (Or.inl rfl) (aaZ C_whanded hr (by decide) rfl (aaa (aac 1) (aaa (aac 2) aag))))
   (aah (aaK (i:=5) nd rfl (Or.inl rfl) aob)
   (aah (aaK (i:=6) nd rfl (Or.inl rfl) ahJ)
   (aah (alK (i:=7) (jv:=5) (nn:=8) (c:="Flat") (up:=fun ρ=>(((ρ.set 7 none).set 6 (some (.pv (.bl true)))).set 7 none)) rfl rfl nd rfl rfl rfl q_Flat x_Flat GX_prism (hr.mono (by decide)) rfl n_prism k_prism aer .nil Dv.nil (aaa (aac 4) (aaa (aac 3) aag)) rfl (Or.inl rfl) (fun y oe hc=>(ahS (amf (i:=6) nd rfl (Or.inl rfl) (agq (alq Z_Flat List.mem_cons_self hc) rfl m_isinstance PyProof.Rows.boot_isinstance (adn (pv 7) (adn (anK (v:=.ref (cl "HallError")) rfl q_HallError rfl) afF)))))) (fun y oe D σ H p ρ hl ev k=>by
    match σ,hl,ev with
    | [s0,s1,s2,s3,s4,s5,s6,s7],_,ev=>exact ⟨_,rfl,_,true,.inr ⟨_,rfl,kt_Flat_HallError⟩,rfl,k _ (((ev.forget 7 (some (.ref y))).setB 6 true).forget 7 none)⟩))
   (aah (abu (aa2 (af1 (hu8 hr)) s_ne (abw abX agc rfl m_list agy (aaa (aac 4) aag)) (aac 2) (aa4 _)) (aai (aaz ahJ)) aa3)
   (aah (abu (aa2 (ab1 (hu8 hr)) s_eq (aaT (aac 3) aaf) aaf (aa4 _)) (aai (aaz (ahZ (aac 6) (aiF (apf (aac 5)))))) aa3)
   (aai (aaz (ahZ (aaZ C_wheap_form hr (by decide) rfl (aaa (aac 5) (aaa aaf aag))) (aiF (afE (ab1 (hu8 hr)) s_eq (abw abX agc rfl m_list agy (aaa (aac 5) aag)) (aaZ C_wprism hr (by decide) rfl (aaa (aac 2) (aaa (aac 3) aag))) (aa4 _)))))))))))))))
end
theorem aio (S:Sto) (k:Nat) (o:SO):(S.set k o).take S.length = S.set k o:=List.take_of_length_le (by simp)
def Row (S:Sto) (k:Nat) (ns:List Int):Prop:=S[k]? = some (.lst (ns.map .int))
theorem Row.lt {S:Sto} {k:Nat} {ns:List Int} (h:Row S k ns):k < S.length:=(List.getElem?_eq_some_iff.mp h).1
theorem Row.set {S:Sto} {k:Nat} {ns:List Int} (h:Row S k ns) (ms:List Int):Row (S.set k (.lst (ms.map .int))) k ms:=List.getElem?_set_self h.lt
theorem afR {r:Rho} {k:Nat} {m:AV}:∀ (ns:List Int) (S:Sto),Row S k ns → ∃ n ns',abg (mAnd (mTst (mBin fGt (mR fLen (aab (mVar 0) mNil)) (mC (.int 0)))) (mTst (mBin fEq (mBin fIx (mVar 0) (mC (.int 0))) (mC (.int 0))))) (aat (mPop (mVar 0) (aab (mC (.int 0)) mNil))) n (some (.ref k) :: some m :: r) S = .nx (some (.ref k) :: some m :: r) (S.set k (.lst (ns'.map .int))) ∧ ns'.length ≤ ns.length ∧ (ns' = [] ∨ ∃ i t,ns' = i :: t ∧ i ≠ 0)
 | [],S,h=>by
  refine ⟨1,[],?_,Nat.le_refl _,.inl rfl⟩
  have h':S[k]? = some (.lst []):=h
  have e:S.set k (.lst (([]:List Int).map .int)) = S:=List.ext_getElem? fun i=>by
   by_cases q:k = i
   ·subst q; rw [List.getElem?_set_self h.lt,h']; rfl
   ·rw [List.getElem?_set_ne q]
  rw [e]
  simp [abg,mAnd,mTst,mBin,mR,aab,mVar,mC,mNil,Res.bind,aaD,aax,rd,h',okO,fLen,aaA,fGt,i2,tst,SRes.of]
 | i :: t,S,h=>by
  have h':S[k]? = some (.lst (.int i :: t.map .int)):=h
  by_cases hi:i = 0
  ·subst hi
   have hr:Row (S.set k (.lst (t.map .int))) k t:=h.set t
   obtain ⟨n,ns',e,l,q⟩:=afR (r:=r) (m:=m) t _ hr
   refine ⟨n + 1,ns',?_,by simp; omega,q⟩
   rw [List.set_set] at e
   rw [← e]
   have hl:(0:Int) < (t.length:Int) + 1:=by omega
   simp [abg,mAnd,mTst,mBin,mR,aab,mVar,mC,mNil,Res.bind,aaD,aax,rd,h',okO,fLen,aaA,fGt,i2,tst,SRes.of,fIx,atI,ixN,fEq,eqN,aat,mPop,acM,akK,seqIndex?,hl]
  ·refine ⟨1,i :: t,?_,Nat.le_refl _,.inr ⟨i,t,rfl,hi⟩⟩
   have e:S.set k (.lst ((i :: t).map .int)) = S:=List.ext_getElem? fun j=>by
    by_cases q:k = j
    ·subst q; rw [List.getElem?_set_self h.lt,h']; rfl
    ·rw [List.getElem?_set_ne q]
   rw [e]
   have hl:(0:Int) < (t.length:Int) + 1:=by omega
   simp [abg,mAnd,mTst,mBin,mR,aab,mVar,mC,mNil,Res.bind,aaD,aax,rd,h',okO,fLen,aaA,fGt,i2,tst,SRes.of,fIx,atI,ixN,fEq,eqN,hl,hi]
theorem abI {S:Sto} {k:Nat} {ns:List Int} {m:Int} (h:Row S k ns) (hm:0 < m) (b:Bd 8000 m):∃ (v:Int) (ns':List Int),aav [.ref k,.pv (.int m)] S = .ok (.pv (.int v)) (S.set k (.lst (ns'.map .int))) ∧ 0 ≤ v ∧ v < m ∧ ns'.length ≤ ns.length:=by
 obtain ⟨n,ns',e,l,q⟩:=afR (r:=[none]) (m:=.pv (.int m)) ns S h
 have hr:=h.set ns'
 have hl1:(S.set k (.lst (ns'.map .int))).length = S.length:=by simp
 have hss:∀ x,(S.set k (.lst (ns'.map .int))).set k x = S.set k x:=fun x=>List.set_set ..
 generalize hS1:S.set k (.lst (ns'.map .int)) = S1 at e hr hl1 hss
 have w:=afa e (by simp)
 rcases q with rfl | ⟨i,t,rfl,hi⟩
 ·refine ⟨0,[],?_,Int.le_refl 0,hm,Nat.zero_le _⟩
  rw [hS1]
  have hr':S1[k]? = some (.lst []):=hr
  have tk:List.take S.length S1 = S1:=List.take_of_length_le (by omega)
  unfold aav fnM agu
  simp [aak,sSeq,w,sIf,mTst,mBin,mR,aab,mVar,mC,mNil,Res.bind,aaD,aax,rd,hr',okO,fLen,aaA,fEq,eqN,tst,SRes.of,sRet,aan,aaF,tk]
 ·have hr':S1[k]? = some (.lst (.int i :: t.map .int)):=hr
  refine ⟨i.fmod m,i.fdiv m :: t,?_,Int.fmod_nonneg_of_pos i hm,Int.fmod_lt_of_pos i hm,l⟩
  rw [← hss]
  have tk:∀ x,List.take S.length (S1.set k x) = S1.set k x:=fun x=>List.take_of_length_le (by simp; omega)
  have hl:¬ ((t.length:Int) + 1 = 0):=by omega
  have hq:ai8 i m:=⟨by omega,b⟩
  have hm0:m ≠ 0:=by omega
  unfold aav fnM agu
  simp [aak,sSeq,w,sIf,mTst,mBin,mR,aab,mVar,mC,mNil,Res.bind,aaD,aax,rd,hr',okO,fLen,aaA,fEq,eqN,tst,SRes.of,sRet,aan,aaF,tk,sNil,hl,sSet,fMod,adA,i2,cI,fIx,atI,ixN,hm0,hq,adg,acM,ahG]
theorem aap (i j:Int):fGt (.int i) (.int j) = some (.bl (decide (j < i))):=rfl
theorem aaq (i j:Int):fLt (.int i) (.int j) = some (.bl (decide (i < j))):=rfl
theorem aas (i j:Int):fGe (.int i) (.int j) = some (.bl (decide (j ≤ i))):=rfl
theorem aar (i j:Int):fLe (.int i) (.int j) = some (.bl (decide (i ≤ j))):=rfl
theorem aaj (i j:Int):fSub (.int i) (.int j) = some (.int (i - j)):=rfl
theorem acL {i j:Int} (h:aiT i j):fMul (.int i) (.int j) = some (.int (i * j)):=by
 simp [fMul,i2,cI,h]
theorem ade {i j:Int} (h:ai8 i j):adA (.int i) (.int j) = some (.int (i.fdiv j)):=by
 simp [adA,i2,cI,h]
theorem adl {i j:Int} (h:j ≠ 0):fMod (.int i) (.int j) = some (.int (i.fmod j)):=by
 simp [fMod,i2,cI,h]
theorem af7 {i j:Int} (h:CPow i j):fPow (.int i) (.int j) = some (.int (i ^ j.toNat)):=by
 simp [fPow,i2,cI,h]
theorem ahE (n:Int) (S:Sto):ad0 [.pv (.int n)] S = .ok (.pv (.int (sg n))) S:=by
 unfold ad0 fnM akd sg
 by_cases h1:0 < n
 ·simp [aak,sSeq,sIf,mTst,mBin,mVar,mC,Res.bind,aaA,rd,okO,fGt,i2,tst,SRes.of,sRet,aan,aaF,h1]
 ·by_cases h2:n < 0
  ·simp [aak,sSeq,sIf,mTst,mBin,mVar,mC,Res.bind,aaA,rd,okO,fGt,fLt,i2,tst,SRes.of,sRet,aan,aaF,h1,h2,sNil,mUn,aaG,fNeg]
  ·simp [aak,sSeq,sIf,mTst,mBin,mVar,mC,Res.bind,aaA,rd,okO,fGt,fLt,i2,tst,SRes.of,sRet,aan,aaF,h1,h2,sNil,mUn,aaG,fNeg]
theorem adW (S:Sto):∀ (m:Nat) (a b:Int) (x:Option AV),b.natAbs ≤ m → ∃ (n:Nat) (g:Int) (x':Option AV),abg (mTst (mBin fNe (mVar 1) (mC (.int 0)))) (sSeq (sSet 2 (mBin fMod (mVar 0) (mVar 1))) (sSeq (sSet 0 (mVar 1)) (sSet 1 (mVar 2)))) n [some (.pv (.int a)),some (.pv (.int b)),x] S = .nx [some (.pv (.int g)),some (.pv (.int 0)),x'] S ∧ g.natAbs = Int.gcd a b
 | 0,a,b,x,h=>by
  have hb:b = 0:=by omega
  subst hb
  refine ⟨1,a,x,?_,by simp⟩
  simp [abg,aak,sSeq,sIf,mTst,mNot,mAnd,mOr,aaE,mOrV,mIf,mBin,mUn,mR,mN,aab,mVar,mC,mNil,Res.bind,aaG,aaA,aaD,aaH,aax,rd,aaB,okO,fLen,fAbs,aam,aal,fTup,fLst,fIx,atI,ixN,fEq,fNe,eqN,aap,aaq,aas,aar,fAdd,aaj,fNeg,fNot,tst,SRes.of,sRet,aaM,sNil,aat,sSet,aan,aaF,aae,aaC,aao,frz,aaJ]
 | m + 1,a,b,x,h=>by
  by_cases hb:b = 0
  ·subst hb
   refine ⟨1,a,x,?_,by simp⟩
   simp [abg,aak,sSeq,sIf,mTst,mNot,mAnd,mOr,aaE,mOrV,mIf,mBin,mUn,mR,mN,aab,mVar,mC,mNil,Res.bind,aaG,aaA,aaD,aaH,aax,rd,aaB,okO,fLen,fAbs,aam,aal,fTup,fLst,fIx,atI,ixN,fEq,fNe,eqN,aap,aaq,aas,aar,fAdd,aaj,fNeg,fNot,tst,SRes.of,sRet,aaM,sNil,aat,sSet,aan,aaF,aae,aaC,aao,frz,aaJ]
  ·have hl:=ahd a hb
   obtain ⟨n,g,x',e,q⟩:=adW S m b (a.fmod b) (some (.pv (.int (a.fmod b)))) (by omega)
   refine ⟨n + 1,g,x',?_,by rw [q,aiG]⟩
   rw [← e]
   simp [abg,aak,sSeq,sIf,mTst,mNot,mAnd,mOr,aaE,mOrV,mIf,mBin,mUn,mR,mN,aab,mVar,mC,mNil,Res.bind,aaG,aaA,aaD,aaH,aax,rd,aaB,okO,fLen,fAbs,aam,aal,fTup,fLst,fIx,atI,ixN,fEq,fNe,eqN,aap,aaq,aas,aar,fAdd,aaj,fNeg,fNot,tst,SRes.of,sRet,aaM,sNil,aat,sSet,aan,aaF,aae,aaC,aao,frz,aaJ,adl hb,hb]
theorem ajd (a b:Int) (S:Sto):acs [.pv (.int a),.pv (.int b)] S = .ok (.pv (.int (Int.gcd a b:Nat))) S:=by
 obtain ⟨n,g,x',e,q⟩:=adW S b.natAbs a b none (Nat.le_refl _)
 have w:=afa e (by simp)
 unfold acs fnM afn
 have hg:(if g < 0 then -g else g) = ((Int.gcd a b:Nat):Int):=by rw [← q]; exact aky g
 simp [aak,sSeq,sIf,mTst,mNot,mAnd,mOr,aaE,mOrV,mIf,mBin,mUn,mR,mN,aab,mVar,mC,mNil,Res.bind,aaG,aaA,aaD,aaH,aax,rd,aaB,okO,fLen,fAbs,aam,aal,fTup,fLst,fIx,atI,ixN,fEq,fNe,eqN,aap,aaq,aas,aar,fAdd,aaj,fNeg,fNot,tst,SRes.of,sRet,aaM,sNil,aat,sSet,aan,aaF,aae,aaC,aao,frz,aaJ,w,hg]
theorem ahb (S:Sto):∀ (m:Nat) (a b:Int),0 ≤ a → 0 ≤ b → b.natAbs ≤ m → ∃ (n:Nat),abg (mTst (mBin fGt (mVar 1) (mC (.int 0)))) (sPar 0 1 (aab (mVar 1) (aab (mBin fMod (mVar 0) (mVar 1)) mNil))) n [some (.pv (.int a)),some (.pv (.int b))] S = .nx [some (.pv (.int (Int.gcd a b:Nat))),some (.pv (.int 0))] S
 | 0,a,b,ha,hb,h=>by
  have hb:b = 0:=by omega
  subst hb
  have ea:((Int.gcd a 0:Nat):Int) = a:=by simp; omega
  refine ⟨1,?_⟩
  rw [ea]
  simp [abg,aak,sSeq,sIf,mTst,mNot,mAnd,mOr,aaE,mOrV,mIf,mBin,mUn,mR,mN,aab,mVar,mC,mNil,Res.bind,aaG,aaA,aaD,aaH,aax,rd,aaB,okO,fLen,fAbs,aam,aal,fTup,fLst,fIx,atI,ixN,fEq,fNe,eqN,aap,aaq,aas,aar,fAdd,aaj,fNeg,fNot,tst,SRes.of,sRet,aaM,sNil,aat,sSet,aan,aaF,aae,aaC,aao,frz,aaJ]
 | m + 1,a,b,ha,hb,h=>by
  by_cases h0:b = 0
  ·subst h0
   have ea:((Int.gcd a 0:Nat):Int) = a:=by simp; omega
   refine ⟨1,?_⟩
   rw [ea]
   simp [abg,aak,sSeq,sIf,mTst,mNot,mAnd,mOr,aaE,mOrV,mIf,mBin,mUn,mR,mN,aab,mVar,mC,mNil,Res.bind,aaG,aaA,aaD,aaH,aax,rd,aaB,okO,fLen,fAbs,aam,aal,fTup,fLst,fIx,atI,ixN,fEq,fNe,eqN,aap,aaq,aas,aar,fAdd,aaj,fNeg,fNot,tst,SRes.of,sRet,aaM,sNil,aat,sSet,aan,aaF,aae,aaC,aao,frz,aaJ]
  ·have hl:=ahd a h0
   have hp:0 < b:=by omega
   obtain ⟨n,e⟩:=ahb S m b (a.fmod b) hb (Int.fmod_nonneg_of_pos a hp) (by omega)
   refine ⟨n + 1,?_⟩
   rw [← aiG,← e]
   simp [abg,aak,sSeq,sIf,mTst,mNot,mAnd,mOr,aaE,mOrV,mIf,mBin,mUn,mR,mN,aab,mVar,mC,mNil,Res.bind,aaG,aaA,aaD,aaH,aax,rd,aaB,okO,fLen,fAbs,aam,aal,fTup,fLst,fIx,atI,ixN,fEq,fNe,eqN,aap,aaq,aas,aar,fAdd,aaj,fNeg,fNot,tst,SRes.of,sRet,aaM,sNil,aat,sSet,aan,aaF,aae,aaC,aao,frz,aaJ,adl h0,hp,sPar]
theorem apr (a b:Int) (S:Sto):afh [.pv (.int a),.pv (.int b)] S = .ok (.pv (.int (Int.gcd a b:Nat))) S:=by
 have ha:0 ≤ (if a < 0 then -a else a):=by split <;> omega
 have hb:0 ≤ (if b < 0 then -b else b):=by split <;> omega
 obtain ⟨n,e⟩:=ahb S _ _ _ ha hb (Nat.le_refl _)
 have w:=afa e (by simp)
 have eg:Int.gcd (if a < 0 then -a else a) (if b < 0 then -b else b) = Int.gcd a b:=by
  rw [aky,aky]
  simp [Int.gcd]
 rw [eg] at w
 unfold afh fnM akE
 simp [aak,sSeq,sIf,mTst,mNot,mAnd,mOr,aaE,mOrV,mIf,mBin,mUn,mR,mN,aab,mVar,mC,mNil,Res.bind,aaG,aaA,aaD,aaH,aax,rd,aaB,okO,fLen,fAbs,aam,aal,fTup,fLst,fIx,atI,ixN,fEq,fNe,eqN,aap,aaq,aas,aar,fAdd,aaj,fNeg,fNot,tst,SRes.of,sRet,aaM,sNil,aat,sSet,aan,aaF,aae,aaC,aao,frz,aaJ,w]
theorem agm (S:Sto) (v2:Option AV):∀ (ns:List Int) (g:Int) (a:AV),∃ v',abT [] (gN 2) (sSet 1 (aae afh [] (aab (mVar 1) (aab (mVar 2) mNil)))) (ns.map .int) [some a,some (.pv (.int g)),v2] S = .nx [some a,some (.pv (.int (gl ns g))),v'] S
 | [],g,a=>⟨v2,abo⟩
 | n :: ns,g,a=>by
  obtain ⟨v',e⟩:=agm S (some (.pv (.int n))) ns (Int.gcd g n:Nat) a
  refine ⟨v',?_⟩
  show abT [] _ _ (.int n :: ns.map .int) _ S = _
  rw [aaY]
  simp [gN,aak,sSeq,sIf,mTst,mNot,mAnd,mOr,aaE,mOrV,mIf,mBin,mUn,mR,mN,aab,mVar,mC,mNil,Res.bind,aaG,aaA,aaD,aaH,aax,rd,aaB,okO,fLen,fAbs,aam,aal,fTup,fLst,fIx,atI,ixN,fEq,fNe,eqN,aap,aaq,aas,aar,fAdd,aaj,fNeg,fNot,tst,SRes.of,sRet,aaM,sNil,aat,sSet,aan,aaF,aae,aaC,aao,frz,aaJ,apr]
  exact e
theorem aeI (S:Sto) (g:Int) (hg:g ≠ 0) (b:Bd 8000 g):∀ (ns:List Int) (x:Option AV),aa9 [] (gN 0) (mBin adA (mVar 0) (mVar 1)) (ns.map .int) [x,some (.pv (.int g))] S = .ok ((ns.map fun n=>n.fdiv g).map .int) S
 | [],x=>aaR
 | n :: ns,x=>by
  have ih:=aeI S g hg b ns (some (.pv (.int n)))
  show aa9 [] _ _ (.int n :: ns.map .int) _ S = _
  rw [aaP]
  simp [gN,aak,sSeq,sIf,mTst,mNot,mAnd,mOr,aaE,mOrV,mIf,mBin,mUn,mR,mN,aab,mVar,mC,mNil,Res.bind,aaG,aaA,aaD,aaH,aax,rd,aaB,okO,fLen,fAbs,aam,aal,fTup,fLst,fIx,atI,ixN,fEq,fNe,eqN,aap,aaq,aas,aar,fAdd,aaj,fNeg,fNot,tst,SRes.of,sRet,aaM,sNil,aat,sSet,aan,aaF,aae,aaC,aao,frz,aaJ,ade (show ai8 n g from ⟨hg,b⟩),ih]
theorem acA (ns:List Int) (S:Sto) (hb:∀ n ∈ ns,Bd 8000 n):aa1 [.pv (.lst (ns.map .int))] S = .ok (.pv (.tup ((low ns).map .int))) S:=by
 obtain ⟨v',e⟩:=agm S none ns 0 (.pv (.lst (ns.map .int)))
 unfold aa1 fnM ad6
 by_cases h:gl ns 0 = 0
 ·have el:low ns = ns:=by unfold low; rw [if_pos h]
  simp [aak,sSeq,sIf,mTst,mNot,mAnd,mOr,aaE,mOrV,mIf,mBin,mUn,mR,mN,aab,mVar,mC,mNil,Res.bind,aaG,aaA,aaD,aaH,aax,rd,aaB,okO,fLen,fAbs,aam,aal,fTup,fLst,fIx,atI,ixN,fEq,fNe,eqN,aap,aaq,aas,aar,fAdd,aaj,fNeg,fNot,tst,SRes.of,sRet,aaM,sNil,aat,sSet,aan,aaF,aae,aaC,aao,frz,aaJ,sFor,mIt,abx,e,h,el]
 ·have el:low ns = ns.map fun n=>n.fdiv (gl ns 0):=by
   unfold low
   rw [if_neg h]
   exact List.map_congr_left fun n hn=>(Int.fdiv_eq_ediv_of_dvd ((adD ns 0).2 n hn)).symm
  have bg:Bd 8000 (gl ns 0):=alS (Bd.of (n:=0) (by simp) (Nat.two_pow_pos 8000)) hb
  have ec:=aeI S (gl ns 0) h bg ns none
  simp [aak,sSeq,sIf,mTst,mNot,mAnd,mOr,aaE,mOrV,mIf,mBin,mUn,mR,mN,aab,mVar,mC,mNil,Res.bind,aaG,aaA,aaD,aaH,aax,rd,aaB,okO,fLen,fAbs,aam,aal,fTup,fLst,fIx,atI,ixN,fEq,fNe,eqN,aap,aaq,aas,aar,fAdd,aaj,fNeg,fNot,tst,SRes.of,sRet,aaM,sNil,aat,sSet,aan,aaF,aae,aaC,aao,frz,aaJ,sFor,mIt,abx,e,h,el,aaW,cmpR,ec]
theorem alm (n:Int) (S:Sto):ac0 [.pv (.int n)] S = .ok (.pv (.bl true)) S:=by
 unfold ac0 fnM agv
 simp [aak,sSeq,sIf,mTst,mNot,mAnd,mOr,aaE,mOrV,mIf,mBin,mUn,mR,mN,aab,mVar,mC,mNil,Res.bind,aaG,aaA,aaD,aaH,aax,rd,aaB,okO,fLen,fAbs,aam,aal,fTup,fLst,fIx,atI,ixN,fEq,fNe,eqN,aap,aaq,aas,aar,fAdd,aaj,fNeg,fNot,tst,SRes.of,sRet,aaM,sNil,aat,sSet,aan,aaF,aae,aaC,aao,frz,aaJ,fIsi]
theorem aeK (S:Sto):∀ (ns:List Int) (x:Option AV),aa9 [] (gN 0) (aae ac0 [] (aab (mVar 0) mNil)) (ns.map .int) [x] S = .ok (ns.map fun _=>.bl true) S
 | [],x=>aaR
 | n :: ns,x=>by
  have ih:=aeK S ns (some (.pv (.int n)))
  show aa9 [] _ _ (.int n :: ns.map .int) _ S = _
  rw [aaP]
  simp [gN,aak,sSeq,sIf,mTst,mNot,mAnd,mOr,aaE,mOrV,mIf,mBin,mUn,mR,mN,aab,mVar,mC,mNil,Res.bind,aaG,aaA,aaD,aaH,aax,rd,aaB,okO,fLen,fAbs,aam,aal,fTup,fLst,fIx,atI,ixN,fEq,fNe,eqN,aap,aaq,aas,aar,fAdd,aaj,fNeg,fNot,tst,SRes.of,sRet,aaM,sNil,aat,sSet,aan,aaF,aae,aaC,aao,frz,aaJ,alm,ih]
theorem ahY:∀ (ns:List Int),afu (ns.map fun _=>PV.bl true) = some (ns.map fun _=>true)
 | []=>rfl
 | n :: ns=>by
  show afu (.bl true :: ns.map fun _=>PV.bl true) = _
  unfold afu
  rw [ahY ns]
  rfl
theorem akR (ns:List Int) (S:Sto):acO [.pv (.tup (ns.map .int)),.pv (.int ns.length)] S = .ok (.pv (.bl true)) S:=by
 unfold acO fnM afd
 have e:=aeK S ns none
 have ea:((ns.map fun _=>true).all id) = true:=by simp
 simp [aak,sSeq,sIf,mTst,mNot,mAnd,mOr,aaE,mOrV,mIf,mBin,mUn,mR,mN,aab,mVar,mC,mNil,Res.bind,aaG,aaA,aaD,aaH,aax,rd,aaB,okO,fLen,fAbs,aam,aal,fTup,fLst,fIx,atI,ixN,fEq,fNe,eqN,aap,aaq,aas,aar,fAdd,aaj,fNeg,fNot,tst,SRes.of,sRet,aaM,sNil,aat,sSet,aan,aaF,aae,aaC,aao,frz,aaJ,fIsi,aaW,mIt,abx,cmpR,e,fAll,ahY]
theorem ajL:∀ (n:Nat) (ns:List Int),acB (List.zipWith (eqN n) (ns.map .int) (ns.map .int)) = some (ns.map fun _=>true)
 | n,[]=>rfl
 | n,m :: ns=>by
  have ih:=ajL n ns
  simp only [List.map_cons,List.zipWith_cons_cons]
  have e:eqN n (.int m) (.int m) = some true:=by cases n <;> simp [eqN]
  rw [e]
  unfold acB
  rw [ih]
theorem ajI (n:Nat) (ns:List Int):eqN (n + 1) (.tup (ns.map .int)) (.tup (ns.map .int)) = some true:=by
 rw [eqN,ajL]
 simp
theorem ai1 (ns:List Int) (S:Sto) (hb:∀ n ∈ ns,Bd 8000 n):aa1 [.pv (.tup (ns.map .int))] S = .ok (.pv (.tup ((low ns).map .int))) S:=by
 obtain ⟨v',e⟩:=agm S none ns 0 (.pv (.tup (ns.map .int)))
 unfold aa1 fnM ad6
 by_cases h:gl ns 0 = 0
 ·have el:low ns = ns:=by unfold low; rw [if_pos h]
  simp [aak,sSeq,sIf,mTst,mNot,mAnd,mOr,aaE,mOrV,mIf,mBin,mUn,mR,mN,aab,mVar,mC,mNil,Res.bind,aaG,aaA,aaD,aaH,aax,rd,aaB,okO,fLen,fAbs,aam,aal,fTup,fLst,fIx,atI,ixN,fEq,fNe,eqN,aap,aaq,aas,aar,fAdd,aaj,fNeg,fNot,tst,SRes.of,sRet,aaM,sNil,aat,sSet,aan,aaF,aae,aaC,aao,frz,aaJ,sFor,mIt,abx,e,h,el]
 ·have el:low ns = ns.map fun n=>n.fdiv (gl ns 0):=by
   unfold low
   rw [if_neg h]
   exact List.map_congr_left fun n hn=>(Int.fdiv_eq_ediv_of_dvd ((adD ns 0).2 n hn)).symm
  have bg:Bd 8000 (gl ns 0):=alS (Bd.of (n:=0) (by simp) (Nat.two_pow_pos 8000)) hb
  have ec:=aeI S (gl ns 0) h bg ns none
  simp [aak,sSeq,sIf,mTst,mNot,mAnd,mOr,aaE,mOrV,mIf,mBin,mUn,mR,mN,aab,mVar,mC,mNil,Res.bind,aaG,aaA,aaD,aaH,aax,rd,aaB,okO,fLen,fAbs,aam,aal,fTup,fLst,fIx,atI,ixN,fEq,fNe,eqN,aap,aaq,aas,aar,fAdd,aaj,fNeg,fNot,tst,SRes.of,sRet,aaM,sNil,aat,sSet,aan,aaF,aae,aaC,aao,frz,aaJ,sFor,mIt,abx,e,h,el,aaW,cmpR,ec]
theorem agg (i:Int) {j:Int} (h1:-(2 ^ 64) < j) (h2:j < 2 ^ 64):fMul (.int i) (.int j) = some (.int (i * j)):=acL (.inl (.inr ⟨h1,h2⟩))
theorem p18:fPow (.int 10) (.int 18) = some (.int 1000000000000000000):=af7 (i:=10) (j:=18) ⟨by decide,by decide,by decide⟩
theorem agl {k:Nat} {a:AV}:∀ (cs:List Int) (n:Nat) (acc:List Int) (S:Sto) (v2 v3 v4 v5 v6:Option AV),Row S k acc → acc.length + cs.length ≤ 63 → n + cs.length ≤ 63 → ∃ (acc':List Int) (w2 w3 w4 w5 w6:Option AV),abT [] (gT 2 (abc (gN 2) (abc (gN 3) acK))) ((sIf (mTst (mBin fGe (mVar 3) (mBin fPow (mC (.int 10)) (mC (.int 18))))) (aat (mApp (mVar 1) (aab (mBin fSub (mVar 3) (mBin fPow (mC (.int 10)) (mC (.int 18)))) mNil))) (sSeq (sSet 4 (mBin fMod (mBin fMul (mBin fAdd (mBin fAdd (mBin fAdd (mVar 3) (mBin fMul (mBin fMul (mC (.int 7)) (mVar 2)) (mVar 2))) (mBin fMul (mC (.int 13)) (mVar 2))) (mC (.int 5))) (mC (.int 48271))) (mC (.int 2147483647))))
 (sSeq (sSet 5 (mBin fMod (mBin fMul (mBin fAdd (mBin fAdd (mBin fAdd (mVar 3) (mBin fMul (mBin fMul (mC (.int 11)) (mVar 2)) (mVar 2))) (mBin fMul (mC (.int 17)) (mVar 2))) (mC (.int 3))) (mC (.int 40692))) (mC (.int 2147483399))))
 (sSeq (sSet 6 (mBin fMod (mBin fMul (mBin fAdd (mBin fAdd (mBin fAdd (mVar 3) (mBin fMul (mBin fMul (mC (.int 5)) (mVar 2)) (mVar 2))) (mBin fMul (mC (.int 29)) (mVar 2))) (mC (.int 8))) (mC (.int 39373))) (mC (.int 2147483587))))
 (sSeq (sSet 4 (mBin fMod (mBin fMul (mVar 4) (mC (.int 52021))) (mC (.int 1000000007))))
 (sSeq (sSet 5 (mBin fMod (mBin fMul (mVar 5) (mC (.int 30011))) (mC (.int 998244353))))
 (sSeq (sSet 6 (mBin fMod (mBin fMul (mVar 6) (mC (.int 45989))) (mC (.int 1000000009))))
 (aat (mApp (mVar 1) (aab (mBin fAdd (mBin fMul (mBin fAdd (mBin fMul (mVar 4) (mC (.int 998244353))) (mVar 5)) (mC (.int 1000000009))) (mVar 6)) mNil))))))))))) (ad7 n (cs.map .int)) [some a,some (.ref k),v2,v3,v4,v5,v6] S = .nx [some a,some (.ref k),w2,w3,w4,w5,w6] (S.set k (.lst (acc'.map .int))) ∧ acc'.length ≤ 63
 | [],n,acc,S,v2,v3,v4,v5,v6,h,hl,_=>by
  refine ⟨acc,v2,v3,v4,v5,v6,?_,by simpa using hl⟩
  have e:S.set k (.lst (acc.map .int)) = S:=List.ext_getElem? fun j=>by
   by_cases q:k = j
   ·subst q; rw [List.getElem?_set_self h.lt]; exact h.symm
   ·rw [List.getElem?_set_ne q]
  rw [e]
  exact abo
 | x :: cs,n,acc,S,v2,v3,v4,v5,v6,h,hl,hn=>by
  simp only [List.length_cons] at hl hn
  have h':S[k]? = some (.lst (acc.map .int)):=h
  have hlen:acc.length < 16777216:=by omega
  have hk1:-(2 ^ 64) < (n:Int):=by omega
  have hk2:(n:Int) < 2 ^ 64:=by omega
  by_cases c:(1000000000000000000:Int) ≤ x
  ·obtain ⟨acc',w2,w3,w4,w5,w6,e,q⟩:=agl (k:=k) (a:=a) cs (n + 1) (acc ++ [x - 1000000000000000000]) (S.set k (.lst ((acc ++ [x - 1000000000000000000]).map .int))) (some (.pv (.int n))) (some (.pv (.int x))) v4 v5 v6 (h.set _) (by simp; omega) (by omega)
   refine ⟨acc',w2,w3,w4,w5,w6,?_,q⟩
   rw [List.set_set] at e
   rw [← e]
   show abT [] _ _ (.tup [.int n,.int x] :: ad7 (n + 1) (cs.map .int)) _ S = _
   rw [aaY]
   simp [gT,abc,acK,gN,aak,sSeq,sIf,mTst,mNot,mAnd,mOr,aaE,mOrV,mIf,mBin,mUn,mR,mN,aab,mVar,mC,mNil,Res.bind,aaG,aaA,aaD,aaH,aax,rd,aaB,okO,fLen,fAbs,aam,aal,fTup,fLst,fIx,atI,ixN,fEq,fNe,eqN,aap,aaq,aas,aar,fAdd,aaj,fNeg,fNot,tst,SRes.of,sRet,aaM,sNil,aat,sSet,aan,aaF,aae,aaC,aao,frz,aaJ,p18,c,mApp,acM,aed,h',hlen]
  ·obtain ⟨acc',w2,w3,w4,w5,w6,e,q⟩:=agl (k:=k) (a:=a) cs (n + 1) (acc ++ [((((x + 7 * n * n + 13 * n + 5) * 48271).fmod 2147483647 * 52021).fmod 1000000007 * 998244353 + (((x + 11 * n * n + 17 * n + 3) * 40692).fmod 2147483399 * 30011).fmod 998244353) * 1000000009 + (((x + 5 * n * n + 29 * n + 8) * 39373).fmod 2147483587 * 45989).fmod 1000000009]) (S.set k (.lst ((acc ++ [((((x + 7 * n * n + 13 * n + 5) * 48271).fmod 2147483647 * 52021).fmod 1000000007 * 998244353 + (((x + 11 * n * n + 17 * n + 3) * 40692).fmod 2147483399 * 30011).fmod 998244353) * 1000000009 + (((x + 5 * n * n + 29 * n + 8) * 39373).fmod 2147483587 * 45989).fmod 1000000009]).map .int))) (some (.pv (.int n))) (some (.pv (.int x))) (some (.pv (.int ((((x + 7 * n * n + 13 * n + 5) * 48271).fmod 2147483647 * 52021).fmod 1000000007)))) (some (.pv (.int ((((x + 11 * n * n + 17 * n + 3) * 40692).fmod 2147483399 * 30011).fmod 998244353)))) (some (.pv (.int ((((x + 5 * n * n + 29 * n + 8) * 39373).fmod 2147483587 * 45989).fmod 1000000009)))) (h.set _) (by simp; omega) (by omega)
   refine ⟨acc',w2,w3,w4,w5,w6,?_,q⟩
   rw [List.set_set] at e
   rw [← e]
   show abT [] _ _ (.tup [.int n,.int x] :: ad7 (n + 1) (cs.map .int)) _ S = _
   rw [aaY]
   simp [gT,abc,acK,gN,aak,sSeq,sIf,mTst,mNot,mAnd,mOr,aaE,mOrV,mIf,mBin,mUn,mR,mN,aab,mVar,mC,mNil,Res.bind,aaG,aaA,aaD,aaH,aax,rd,aaB,okO,fLen,fAbs,aam,aal,fTup,fLst,fIx,atI,ixN,fEq,fNe,eqN,aap,aaq,aas,aar,fAdd,aaj,fNeg,fNot,tst,SRes.of,sRet,aaM,sNil,aat,sSet,aan,aaF,aae,aaC,aao,frz,aaJ,p18,c,mApp,acM,aed,h',hlen,agg _ hk1 hk2,agg _ (show -(2 ^ 64) < (48271:Int) by decide) (by decide),agg _ (show -(2 ^ 64) < (40692:Int) by decide) (by decide),agg _ (show -(2 ^ 64) < (39373:Int) by decide) (by decide),agg _ (show -(2 ^ 64) < (52021:Int) by decide) (by decide),agg _ (show -(2 ^ 64) < (30011:Int) by decide) (by decide),agg _ (show -(2 ^ 64) < (45989:Int) by decide) (by decide),agg _ (show -(2 ^ 64) < (998244353:Int) by decide) (by decide),agg _ (show -(2 ^ 64) < (1000000009:Int) by decide) (by decide),
    adl (show (2147483647:Int) ≠ 0 by decide),adl (show (2147483399:Int) ≠ 0 by decide),adl (show (2147483587:Int) ≠ 0 by decide),adl (show (1000000007:Int) ≠ 0 by decide),adl (show (998244353:Int) ≠ 0 by decide),adl (show (1000000009:Int) ≠ 0 by decide)]
theorem aoT (ns:List Int) (S:Sto) (h:ns.length ≤ 63):∃ ms:List Int,aew [.pv (.lst (ns.map .int))] S = .ok (.ref S.length) (S ++ [.lst (ms.map .int)]) ∧ ms.length ≤ 63:=by
 have hr:Row (S ++ [.lst []]) S.length []:=by unfold Row; simp
 obtain ⟨ms,w2,w3,w4,w5,w6,e,q⟩:=agl (a:=.pv (.lst (ns.map .int))) ns 0 [] (S ++ [.lst []]) none none none none none hr (by simpa using h) (by simpa using h)
 have ec:cutP (ns.map .int) none (some 63) = ns.map .int:=by
  unfold cutP
  have e1:HT.sIx (ns.map PV.int).length 0 none = 0:=rfl
  have e2:HT.sIx (ns.map PV.int).length (ns.map PV.int).length (some 63) = (ns.map PV.int).length:=by
   have:=HT.sIx_nat (ns.map PV.int).length (ns.map PV.int).length 63
   rw [show ((63:Nat):Int) = 63 from rfl] at this
   rw [this,List.length_map]
   omega
  rw [e1,e2,List.drop_zero,Nat.sub_zero,List.take_length]
 refine ⟨ms,?_,q⟩
 have es:(S ++ [SO.lst []]).set S.length (.lst (ms.map .int)) = S ++ [.lst (ms.map .int)]:=by simp
 rw [es] at e
 unfold aew fnM akT
 simp [aak,sSeq,sIf,mTst,mNot,mAnd,mOr,aaE,mOrV,mIf,mBin,mUn,mR,mN,aab,mVar,mC,mNil,Res.bind,aaG,aaA,aaD,aaH,aax,rd,aaB,okO,fLen,fAbs,aam,aal,fTup,fLst,fIx,atI,ixN,fEq,fNe,eqN,aap,aaq,aas,aar,fAdd,aaj,fNeg,fNot,tst,SRes.of,sRet,aaM,sNil,aat,sSet,aan,aaF,aae,aaC,aao,frz,aaJ,sFor,mNew,ae5,anR,mSl,mO0,mO1,abY,fSl,ajP,ec,e]
def PT (L:List Int) (b:Int):List Int:=(low (L ++ [b])).map (sg b * ·)
theorem gl_b {L:List Int} {b:Int} (hb:b ≠ 0):gl (L ++ [b]) 0 ≠ 0:=alR (ab3 L b) hb
theorem aoB {L:List Int} {b:Int} (hb:0 < b):PT L b = low (L ++ [b]):=by
 unfold PT sg
 rw [if_pos hb]
 conv=>rhs; rw [← List.map_id (low (L ++ [b]))]
 exact List.map_congr_left fun n _=>Int.one_mul n
theorem aiA (S:Sto) (v2:Option AV):∀ (ns:List Int) (g:Int) (a:AV),∃ v',abT [] (gN 2) (sSet 1 (aae acs [] (aab (mVar 1) (aab (mVar 2) mNil)))) (ns.map .int) [some a,some (.pv (.int g)),v2] S = .nx [some a,some (.pv (.int (gl ns g))),v'] S
 | [],g,a=>⟨v2,abo⟩
 | n :: ns,g,a=>by
  obtain ⟨v',e⟩:=aiA S (some (.pv (.int n))) ns (Int.gcd g n:Nat) a
  refine ⟨v',?_⟩
  show abT [] _ _ (.int n :: ns.map .int) _ S = _
  rw [aaY]
  simp [gN,aak,sSeq,sIf,mTst,mNot,mAnd,mOr,aaE,mOrV,mIf,mBin,mUn,mR,mN,aab,mVar,mC,mNil,Res.bind,aaG,aaA,aaD,aaH,aax,rd,aaB,okO,fLen,fAbs,aam,aal,fTup,fLst,fIx,atI,ixN,fEq,fNe,eqN,aap,aaq,aas,aar,fAdd,aaj,fNeg,fNot,tst,SRes.of,sRet,aaM,sNil,aat,sSet,aan,aaF,aae,aaC,aao,frz,aaJ,ajd]
  exact e
theorem ajg (ns:List Int) (S:Sto) (hb:∀ n ∈ ns,Bd 8000 n) (h:gl ns 0 ≠ 0):acP [.pv (.lst (ns.map .int))] S = .ok (.pv (.lst ((low ns).map .int))) S:=by
 obtain ⟨v',e⟩:=aiA S none ns 0 (.pv (.lst (ns.map .int)))
 have el:low ns = ns.map fun n=>n.fdiv (gl ns 0):=by
  unfold low
  rw [if_neg h]
  exact List.map_congr_left fun n hn=>(Int.fdiv_eq_ediv_of_dvd ((adD ns 0).2 n hn)).symm
 have bg:Bd 8000 (gl ns 0):=alS (Bd.of (n:=0) (by simp) (Nat.two_pow_pos 8000)) hb
 have ec:=aeI S (gl ns 0) h bg ns none
 unfold acP fnM aeP
 simp [aak,sSeq,sIf,mTst,mNot,mAnd,mOr,aaE,mOrV,mIf,mBin,mUn,mR,mN,aab,mVar,mC,mNil,Res.bind,aaG,aaA,aaD,aaH,aax,rd,aaB,okO,fLen,fAbs,aam,aal,fTup,fLst,fIx,atI,ixN,fEq,fNe,eqN,aap,aaq,aas,aar,fAdd,aaj,fNeg,fNot,tst,SRes.of,sRet,aaM,sNil,aat,sSet,aan,aaF,aae,aaC,aao,frz,aaJ,sFor,mIt,abx,e,h,el,aaW,cmpR,ec]
theorem aif (S:Sto) (b:Int):∀ (ns:List Int) (x:Option AV),aa9 [] (gN 0) (mBin fMul (aae ad0 [] (aab (mVar 1) mNil)) (mVar 0)) (ns.map .int) [x,some (.pv (.int b))] S = .ok ((ns.map (sg b * ·)).map .int) S
 | [],x=>aaR
 | n :: ns,x=>by
  have ih:=aif S b ns (some (.pv (.int n)))
  have hm:fMul (.int (sg b)) (.int n) = some (.int (sg b * n)):=acL (.inl (.inl (alD b)))
  show aa9 [] _ _ (.int n :: ns.map .int) _ S = _
  rw [aaP]
  simp [gN,aak,sSeq,sIf,mTst,mNot,mAnd,mOr,aaE,mOrV,mIf,mBin,mUn,mR,mN,aab,mVar,mC,mNil,Res.bind,aaG,aaA,aaD,aaH,aax,rd,aaB,okO,fLen,fAbs,aam,aal,fTup,fLst,fIx,atI,ixN,fEq,fNe,eqN,aap,aaq,aas,aar,fAdd,aaj,fNeg,fNot,tst,SRes.of,sRet,aaM,sNil,aat,sSet,aan,aaF,aae,aaC,aao,frz,aaJ,ahE,hm,ih]
theorem al5 {w:PV} (L:List Int) (b:Int) (S:Sto) (hw:w = .lst (L.map .int) ∨ w = .tup (L.map .int)) (hL:∀ n ∈ L,Bd 8000 n) (bb:Bd 8000 b) (hb:b ≠ 0) (hl:L.length ≤ 100):aeW [.pv w,.pv (.int b)] S = .ok (.pv (.tup ((PT L b).map .int))) S:=by
 have e1:=ajg (L ++ [b]) S (fun n hn=>by
  rcases List.mem_append.mp hn with z | z
  ·exact hL n z
  ·have:n = b:=by simpa using z
   rw [this]; exact bb) (gl_b hb)
 have e2:=aif S b (low (L ++ [b])) none
 have hz:L.length + 1 ≤ 16777216:=by omega
 simp only [List.map_append,List.map_cons,List.map_nil] at e1
 unfold PT aeW fnM aeV
 rcases hw with rfl | rfl <;> simp [aak,sSeq,sIf,mTst,mNot,mAnd,mOr,aaE,mOrV,mIf,mBin,mUn,mR,mN,aab,mVar,mC,mNil,Res.bind,aaG,aaA,aaD,aaH,aax,rd,aaB,okO,fLen,fAbs,aam,aal,fTup,fLst,fIx,atI,ixN,fEq,fNe,eqN,aap,aaq,aas,aar,fAdd,aaj,fNeg,fNot,tst,SRes.of,sRet,aaM,sNil,aat,sSet,aan,aaF,aae,aaC,aao,frz,aaJ,hb,hz,e1,mIt,abx,aaW,cmpR,e2]
theorem ale (zs:List Int) (z:Int):cutP ((zs ++ [z]).map .int) none (some (-1)) = zs.map .int:=by
 unfold cutP
 have e1:HT.sIx ((zs ++ [z]).map PV.int).length 0 none = 0:=rfl
 have e2:HT.sIx ((zs ++ [z]).map PV.int).length ((zs ++ [z]).map PV.int).length (some (-1)) = zs.length:=by
  rw [List.length_map,List.length_append]
  exact agb zs.length _
 rw [e1,e2]
 simp
theorem ajF (zs:List Int) (z:Int):¬ (HT.sIx ((zs ++ [z]).map PV.int).length 0 none = 0 ∧ HT.sIx ((zs ++ [z]).map PV.int).length ((zs ++ [z]).map PV.int).length (some (-1)) = ((zs ++ [z]).map PV.int).length):=by
 rintro ⟨_,e⟩
 have e2:HT.sIx ((zs ++ [z]).map PV.int).length ((zs ++ [z]).map PV.int).length (some (-1)) = zs.length:=by
  rw [List.length_map,List.length_append]
  exact agb zs.length _
 rw [e2,List.length_map,List.length_append] at e
 simp at e
theorem aeH (zs:List Int) (z:Int):fSl (.tup ((zs ++ [z]).map .int)) none (some (-1)) = some (.tup (zs.map .int)):=by
 unfold fSl
 dsimp only
 rw [if_neg (ajF zs z),ale]
theorem ach (zs:List Int) (z:Int):fIx (.tup ((zs ++ [z]).map .int)) (.int (-1)) = some (.int z):=by
 show atI ((zs ++ [z]).map PV.int) (-1) = _
 rw [List.map_append]
 exact alO _ _
theorem sm8 {m:Int} (h0:0 ≤ m) (h:m < 1024):Bd 8000 m:=Bd.of (n:=1023) (by omega) (Nat.lt_of_lt_of_le (show 1023 < 2 ^ 10 by decide) (Nat.pow_le_pow_right (by decide) (by decide)))
theorem abf (n:Nat) (a b:Int):eqN n (.int a) (.int b) = some (a == b):=by cases n <;> rfl
theorem mB {a b:Int} (h:Bd 2000 a) (g:Bd 2000 b):fMul (.int a) (.int b) = some (.int (a * b)):=acL (.inr ⟨h.mono (by decide),g.mono (by decide)⟩)
structure Pt (n:Nat) (xs:List Int) (w:Int):Prop where
 len:xs.length = n
 pos:0 < w
 low:low (xs ++ [w]) = xs ++ [w]
 bx:∀ x ∈ xs,Bd 300 x
 bw:Bd 300 w
theorem aij (S:Sto) (PL QL:List PV) (w v:Int) (hp:fIx (.tup PL) (.int (-1)) = some (.int w)) (hq:fIx (.tup QL) (.int (-1)) = some (.int v)) (bw:Bd 2000 w) (bv:Bd 2000 v):∀ (xs ys:List Int) (x y:Option AV),xs.length = ys.length → (∀ x ∈ xs,Bd 2000 x) → (∀ y ∈ ys,Bd 2000 y) →
  aa9 [] (gT 2 (abc (gN 0) (abc (gN 1) acK))) (mBin fAdd (mBin fMul (mVar 0) (mBin fIx (mVar 2) (mUn fNeg (mC (.int 1))))) (mBin fMul (mVar 1) (mBin fIx (mVar 3) (mUn fNeg (mC (.int 1)))))) (zipP (xs.map .int) (ys.map .int)) [x,y,some (.pv (.tup QL)),some (.pv (.tup PL))] S = .ok ((sm xs w ys v).map .int) S
 | [],ys,x,y,hl,_,_=>by
  have:ys = []:=List.length_eq_zero_iff.mp hl.symm
  subst this
  exact aaR
 | a :: xs,[],x,y,hl,_,_=>by cases hl
 | a :: xs,b :: ys,x,y,hl,hx,hy=>by
  have ih:=aij S PL QL w v hp hq bw bv xs ys (some (.pv (.int a))) (some (.pv (.int b))) (by simpa using hl) (fun m hm=>hx m (List.mem_cons_of_mem _ hm)) (fun m hm=>hy m (List.mem_cons_of_mem _ hm))
  have m1:=mB (hx a List.mem_cons_self) bv
  have m2:=mB (hy b List.mem_cons_self) bw
  show aa9 [] _ _ (.tup [.int a,.int b] :: zipP (xs.map .int) (ys.map .int)) _ S = _
  rw [aaP]
  simp [gT,abc,acK,gN,aak,sSeq,sIf,mTst,mNot,mAnd,mOr,aaE,mOrV,mIf,mBin,mUn,mR,mN,aab,mVar,mC,mNil,Res.bind,aaG,aaA,aaD,aaH,aax,rd,aaB,okO,fLen,fAbs,aam,aal,fTup,fLst,fEq,fNe,abf,aap,aaq,aas,aar,fAdd,aaj,fNeg,fNot,tst,SRes.of,sRet,aaM,sNil,aat,sSet,aan,aaF,aae,aaC,aao,frz,aaJ,hp,hq,m1,m2,ih,sm]
theorem apF {xs ys:List Int} {w v:Int} {k:Nat} (hx:∀ x ∈ xs,Bd k x) (hy:∀ y ∈ ys,Bd k y) (hw:Bd k w) (hv:Bd k v):∀ n ∈ sm xs w ys v,Bd (k + k + 1) n:=fun n hn=>by
 unfold sm at hn
 obtain ⟨i,hi,e⟩:=List.getElem_of_mem hn
 rw [List.getElem_zipWith] at e
 rw [← e]
 exact ((hx _ (List.getElem_mem _)).mul hv).add ((hy _ (List.getElem_mem _)).mul hw)
theorem al7 {xs ys:List Int} {w v:Int} (S:Sto) (hl:xs.length = ys.length) (h9:xs.length ≤ 9) (hw:0 < w) (hv:0 < v) (hx:∀ x ∈ xs,Bd 2000 x) (hy:∀ y ∈ ys,Bd 2000 y) (bw:Bd 2000 w) (bv:Bd 2000 v) :
  acv [.pv (.tup ((xs ++ [w]).map .int)),.pv (.tup ((ys ++ [v]).map .int))] S = .ok (.pv (.tup ((low (sm xs w ys v ++ [w * v])).map .int))) S:=by
 have ip:=ach xs w
 have iq:=ach ys v
 have sp:=aeH xs w
 have sq:=aeH ys v
 have ec:=aij S _ _ w v ip iq bw bv xs ys none none hl hx hy
 have mm:=mB bw bv
 have hp:=Int.mul_pos hw hv
 have ep:=al5 (w:=.lst ((sm xs w ys v).map .int)) (sm xs w ys v) (w * v) S (.inl rfl) (fun n hn=>(apF hx hy bw bv n hn).mono (by decide)) ((bw.mul bv).mono (by decide)) (by omega) (by rw [apo hl]; omega)
 rw [aoB hp] at ep
 generalize (xs ++ [w]).map PV.int = PL at ip sp ec
 generalize (ys ++ [v]).map PV.int = QL at iq sq ec
 unfold acv fnM ahN
 simp [aak,sSeq,sIf,mTst,mNot,mAnd,mOr,aaE,mOrV,mIf,mBin,mUn,mR,mN,aab,mVar,mC,mNil,Res.bind,aaG,aaA,aaD,aaH,aax,rd,aaB,okO,fLen,fAbs,aam,aal,fTup,fLst,fEq,fNe,abf,aap,aaq,aas,aar,fAdd,aaj,fNeg,fNot,tst,SRes.of,sRet,aaM,sNil,aat,sSet,aan,aaF,aae,aaC,aao,frz,aaJ,aaW,mZip,afw,abx,mSl,mO0,mO1,abY,sp,sq,cmpR,ec,ip,iq,mm,ep]
def mv (way:Int) (xs:List Int) (w:Int) (ys:List Int) (v:Int):List Int:=if way = 1 then low (sm xs w ys v ++ [w * v]) else low (sm ys v (xs.map (- ·)) w ++ [v * w])
theorem aiI (zs:List Int) (z:Int) (j:Nat) (h:j < zs.length):fIx (.tup ((zs ++ [z]).map .int)) (.int (j:Nat)) = some (.int (zs.getD j 0)):=by
 show atI ((zs ++ [z]).map PV.int) (j:Int) = _
 refine ant ?_
 rw [List.getElem?_map,List.getElem?_append_left h,List.getElem?_eq_getElem h]
 simp [List.getD,h]
theorem aj1 (S:Sto) (PL QL:List PV) (xs ys:List Int) (w v way:Int) (hp:fIx (.tup PL) (.int (-1)) = some (.int w)) (hq:fIx (.tup QL) (.int (-1)) = some (.int v)) (hpj:∀ j:Nat,j < xs.length → fIx (.tup PL) (.int (j:Nat)) = some (.int (xs.getD j 0))) (hqj:∀ j:Nat,j < xs.length → fIx (.tup QL) (.int (j:Nat)) = some (.int (ys.getD j 0)))
  (hway:way = 1 ∨ way = -1) (bw:Bd 1000 w) (bv:Bd 1000 v) (hx:∀ j,Bd 1000 (xs.getD j 0)) (hy:∀ j,Bd 1000 (ys.getD j 0)):∀ (js:List Nat) (x:Option AV),(∀ j ∈ js,j < xs.length) →
  aa9 [] (gN 0) (mBin fAdd (mBin fMul (mBin fMul (mVar 1) (mBin fIx (mVar 3) (mVar 0))) (mBin fIx (mVar 2) (mUn fNeg (mC (.int 1))))) (mBin fMul (mBin fIx (mVar 2) (mVar 0)) (mBin fIx (mVar 3) (mUn fNeg (mC (.int 1)))))) (js.map fun j=>.int (0 + (j:Nat))) [x,some (.pv (.int way)),some (.pv (.tup QL)),some (.pv (.tup PL))] S = .ok ((js.map fun j=>way * xs.getD j 0 * v + ys.getD j 0 * w).map .int) S
 | [],x,_=>aaR
 | j :: js,x,h=>by
  have ih:=aj1 S PL QL xs ys w v way hp hq hpj hqj hway bw bv hx hy js (some (.pv (.int (0 + (j:Nat))))) fun i hi=>h i (List.mem_cons_of_mem _ hi)
  have e1:=hpj j (h j List.mem_cons_self)
  have e2:=hqj j (h j List.mem_cons_self)
  have b1:Bd 2 way:=by rcases hway with rfl | rfl <;> exact Bd.of (n:=1) (by decide) (by decide)
  have m0:=mB (b1.mono (show 2 ≤ 2000 by decide)) ((hx j).mono (show 1000 ≤ 2000 by decide))
  have m1:=mB ((b1.mul (hx j)).mono (show 2 + 1000 ≤ 2000 by decide)) (bv.mono (show 1000 ≤ 2000 by decide))
  have m2:=mB ((hy j).mono (show 1000 ≤ 2000 by decide)) (bw.mono (show 1000 ≤ 2000 by decide))
  show aa9 [] _ _ (.int (0 + (j:Nat)) :: js.map fun j=>.int (0 + (j:Nat))) _ S = _
  rw [aaP]
  simp only [Int.zero_add] at ih ⊢
  generalize hX:xs.getD j 0 = X at e1 m0 m1
  generalize hY:ys.getD j 0 = Y at e2 m2
  simp [gN,aak,sSeq,sIf,mTst,mNot,mAnd,mOr,aaE,mOrV,mIf,mBin,mUn,mR,mN,aab,mVar,mC,mNil,Res.bind,aaG,aaA,aaD,aaH,aax,rd,aaB,okO,fLen,fAbs,aam,aal,fTup,fLst,fEq,fNe,abf,aap,aaq,aas,aar,fAdd,aaj,fNeg,fNot,tst,SRes.of,sRet,aaM,sNil,aat,sSet,aan,aaF,aae,aaC,aao,frz,aaJ,e1,e2,hp,hq,m0,m1,m2,ih]
  simp only [List.getD_eq_getElem?_getD] at hX hY
  rw [hX,hY]
theorem af6 {xs:List Int} {k:Nat} (h:∀ x ∈ xs,Bd k x) (j:Nat):Bd k (xs.getD j 0):=by
 by_cases hj:j < xs.length
 ·have e:xs.getD j 0 = xs[j]:=by simp [List.getD,hj]
  rw [e]
  exact h _ (List.getElem_mem hj)
 ·have e:xs.getD j 0 = 0:=by simp [List.getD,hj]
  rw [e]
  exact Bd.of (n:=0) (by decide) (Nat.two_pow_pos k)
theorem agX {xs ys:List Int} (hl:xs.length = ys.length) (f:Int → Int → Int):(List.range xs.length).map (fun j=>f (xs.getD j 0) (ys.getD j 0)) = List.zipWith f xs ys:=by
 refine List.ext_getElem (by simp [hl]) fun i h1 h2=>?_
 have hi:i < xs.length:=by simpa using h1
 have hj:i < ys.length:=by omega
 simp [List.getD,hi,hj]
theorem ajS {xs ys:List Int} {w v way:Int} (S:Sto) (hl:xs.length = ys.length) (h9:xs.length ≤ 9) (hway:way = 1 ∨ way = -1) (hx:∀ x ∈ xs,Bd 1000 x) (hy:∀ y ∈ ys,Bd 1000 y) (bw:Bd 1000 w) (bv:Bd 1000 v) :
  abe [.pv (.tup ((xs ++ [w]).map .int)),.pv (.tup ((ys ++ [v]).map .int)),.pv (.int way)] S = .ok (.pv (.tup ((low (List.zipWith (fun x y=>way * x * v + y * w) xs ys ++ [w * v])).map .int))) S:=by
 have ip:=ach xs w
 have iq:=ach ys v
 have ec:=aj1 S _ _ xs ys w v way ip iq (fun j h=>aiI xs w j h) (fun j h=>aiI ys v j (by omega)) hway bw bv (af6 hx) (af6 hy) (List.range xs.length) none fun j hj=>by simpa using hj
 have er:(List.range xs.length).map (fun j=>way * xs.getD j 0 * v + ys.getD j 0 * w) = List.zipWith (fun x y=>way * x * v + y * w) xs ys:=agX hl fun x y=>way * x * v + y * w
 rw [er] at ec
 have mm:=mB (bw.mono (show 1000 ≤ 2000 by decide)) (bv.mono (show 1000 ≤ 2000 by decide))
 have b1:Bd 2 way:=by rcases hway with rfl | rfl <;> exact Bd.of (n:=1) (by decide) (by decide)
 have el:=acA (List.zipWith (fun x y=>way * x * v + y * w) xs ys ++ [w * v]) S (fun n hn=>by
  rcases List.mem_append.mp hn with z | z
  ·obtain ⟨i,hi,e⟩:=List.getElem_of_mem z
   rw [List.getElem_zipWith] at e
   rw [← e]
   exact ((((b1.mul (hx _ (List.getElem_mem _))).mul bv).mono (show 2 + 1000 + 1000 ≤ 3000 by decide)).add (((hy _ (List.getElem_mem _)).mul bw).mono (show 1000 + 1000 ≤ 3000 by decide))).mono (by decide)
  ·have:n = w * v:=by simpa using z
   rw [this]
   exact (bw.mul bv).mono (by decide))
 have hlen:((xs ++ [w]).map PV.int).length = xs.length + 1:=by simp
 have hz:xs.length + 1 ≤ 16777216:=by omega
 have hr:rng1 [.pv (.int (((xs.length + 1:Nat):Int) - 1))] S = .ok ((List.range xs.length).map fun j=>.int (0 + (j:Nat)),[]) S:=by
  unfold rng1
  dsimp only
  rw [if_pos ⟨by omega,by omega⟩]
  have:(((xs.length + 1:Nat):Int) - 1).toNat = xs.length:=by omega
  rw [this]
  rfl
 have hzl:(List.zipWith (fun x y=>way * x * v + y * w) xs ys).length + 1 ≤ 16777216:=by rw [List.length_zipWith]; omega
 simp only [List.map_append,List.map_cons,List.map_nil] at el
 generalize hZ:(List.zipWith (fun x y=>way * x * v + y * w) xs ys).map PV.int = ZL at ec el
 have hzl2:ZL.length + 1 ≤ 16777216:=by rw [← hZ,List.length_map]; exact hzl
 generalize (List.range xs.length).map (fun j=>PV.int (0 + (j:Nat))) = RL at ec hr
 generalize hP:(xs ++ [w]).map PV.int = PL at ip ec hlen
 generalize (ys ++ [v]).map PV.int = QL at iq ec
 unfold abe fnM aeN
 have hr2:=hr
 rw [← hlen] at hr2
 simp [aak,sSeq,sIf,mTst,mNot,mAnd,mOr,aaE,mOrV,mIf,mBin,mUn,mR,mN,aab,mVar,mC,mNil,Res.bind,aaG,aaA,aaD,aaH,aax,rd,aaB,okO,fLen,fAbs,aam,aal,fTup,fLst,fEq,fNe,abf,aap,aaq,aas,aar,fAdd,aaj,fNeg,fNot,tst,SRes.of,sRet,aaM,sNil,aat,sSet,aan,aaF,aae,aaC,aao,frz,aaJ,aaW,aaS,hr2,cmpR,ec,ip,iq,mm,hzl2,el]
theorem agw {k:Nat} {W:Int} (W0:0 ≤ W) (W1:W ≤ 1000000000000):∀ (is:List PV) (S:Sto) (ns:List Int) (x:Option AV),Row S k ns → ∃ (xs ns':List Int),aa9 [] (gN 0) (mBin fSub (aae aav [] (aab (mVar 2) (aab (mBin fAdd (mBin fMul (mC (.int 2)) (mVar 1)) (mC (.int 1))) mNil))) (mVar 1)) is [x,some (.pv (.int W)),some (.ref k)] S = .ok (xs.map .int) (S.set k (.lst (ns'.map .int))) ∧ xs.length = is.length ∧ ∀ n ∈ xs,Bd 50 n
 | [],S,ns,x,h=>by
  refine ⟨[],ns,?_,rfl,fun _ h=>absurd h List.not_mem_nil⟩
  have e:S.set k (.lst (ns.map .int)) = S:=List.ext_getElem? fun j=>by
   by_cases q:k = j
   ·subst q; rw [List.getElem?_set_self h.lt]; exact h.symm
   ·rw [List.getElem?_set_ne q]
  rw [e]
  exact aaR
 | i :: is,S,ns,x,h=>by
  obtain ⟨t,n1,e1,t0,t1,_⟩:=abI (m:=2 * W + 1) h (by omega) ((Bd.of (k:=50) (n:=2000000000001) (by omega) (by decide)).mono (by decide))
  obtain ⟨xs,n2,e2,l2,b2⟩:=agw W0 W1 is _ n1 (some (.pv i)) (h.set n1)
  rw [List.set_set] at e2
  have m2:fMul (.int 2) (.int W) = some (.int (2 * W)):=acL (.inl (.inl ⟨by decide,by decide⟩))
  refine ⟨(t - W) :: xs,n2,?_,by simp [l2],fun n hn=>?_⟩
  ·rw [aaP]
   generalize S.set k (.lst (n1.map .int)) = S1 at e1 e2
   simp [gN,aak,sSeq,sIf,mTst,mNot,mAnd,mOr,aaE,mOrV,mIf,mBin,mUn,mR,mN,aab,mVar,mC,mNil,Res.bind,aaG,aaA,aaD,aaH,aax,rd,aaB,okO,fLen,fAbs,aam,aal,fTup,fLst,fIx,atI,ixN,fEq,fNe,eqN,aap,aaq,aas,aar,fAdd,aaj,fNeg,fNot,tst,SRes.of,sRet,aaM,sNil,aat,sSet,aan,aaF,aae,aaC,aao,frz,aaJ,m2,e1,e2]
  ·rcases List.mem_cons.mp hn with rfl | hn
   ·exact Bd.of (n:=1000000000000) (by omega) (by decide)
   ·exact b2 n hn
theorem ap4 {v:Int} (h0:0 ≤ v) (h1:v < 4):∃ M:Int,fIx (.lst [.int 0,.int 3,.int 9,.int 1000000000000]) (.int v) = some (.int M) ∧ 0 ≤ M ∧ M ≤ 1000000000000:=by
 have c:v = 0 ∨ v = 1 ∨ v = 2 ∨ v = 3:=by omega
 rcases c with rfl | rfl | rfl | rfl
 ·exact ⟨0,rfl,by decide,by decide⟩
 ·exact ⟨3,rfl,by decide,by decide⟩
 ·exact ⟨9,rfl,by decide,by decide⟩
 ·exact ⟨1000000000000,rfl,by decide,by decide⟩
theorem p12:fPow (.int 10) (.int 12) = some (.int 1000000000000):=af7 (i:=10) (j:=12) ⟨by decide,by decide,by decide⟩
theorem apO {v:Int} (h0:0 ≤ v) (h1:v < 4):0 ≤ v.fdiv 2 ∧ v.fdiv 2 ≤ 1:=by
 have c:v = 0 ∨ v = 1 ∨ v = 2 ∨ v = 3:=by omega
 rcases c with rfl | rfl | rfl | rfl <;> decide
theorem aoU {n k:Nat} {L:List Int} {b:Int} (hb:0 < b) (hl:L.length = n) (hk:k ≤ 300) (hL:∀ x ∈ L,Bd k x) (bb:Bd k b):∃ (zs:List Int) (z:Int),low (L ++ [b]) = zs ++ [z] ∧ Pt n zs z ∧ (∀ x ∈ zs,Bd k x) ∧ Bd k z:=by
 obtain ⟨zs,z,g,e,hg,hz,_,_,hzl⟩:=ahW L hb
 have hbd:=ah4 (k:=k) (ns:=L ++ [b]) fun m hm=>by
  rcases List.mem_append.mp hm with y | y
  ·exact hL m y
  ·have:m = b:=by simpa using y
   rw [this]; exact bb
 have hlow:=ahO L hb
 rw [e] at hbd hlow
 have b1:∀ x ∈ zs,Bd k x:=fun x hx=>hbd x (List.mem_append_left _ hx)
 have b2:Bd k z:=hbd z (ab3 zs z)
 exact ⟨zs,z,e,⟨hzl.trans hl,hz,hlow,fun x hx=>(b1 x hx).mono hk,b2.mono hk⟩,b1,b2⟩
theorem aog {S:Sto} {k:Nat} {ns:List Int} (n:Nat) (hn:n = 2 ∨ n = 3) (h:Row S k ns):∃ (xs:List Int) (w:Int) (ns':List Int),adH [.ref k,.pv (.int n)] S = .ok (.pv (.tup ((xs ++ [w]).map .int))) (S.set k (.lst (ns'.map .int))) ∧ Pt n xs w ∧ (∀ x ∈ xs,Bd 100 x) ∧ Bd 100 w:=by
 obtain ⟨c,n1,e1,c0,c1,_⟩:=abI (m:=4) h (by decide) (sm8 (by decide) (by decide))
 obtain ⟨M,em,M0,M1⟩:=ap4 c0 c1
 obtain ⟨t,n2,e2,t0,t1,_⟩:=abI (m:=9) (h.set n1) (by decide) (sm8 (by decide) (by decide))
 rw [List.set_set] at e2
 obtain ⟨xs,n3,e3,l3,b3⟩:=agw M0 M1 (abt 0 n) _ n2 none (h.set n2)
 rw [List.set_set] at e3
 have hc:=apO c0 c1
 have mt:fMul (.int t) (.int (c.fdiv 2)) = some (.int (t * c.fdiv 2)):=acL (.inl (.inl ⟨by omega,by omega⟩))
 have qt:adA (.int c) (.int 2) = some (.int (c.fdiv 2)):=ade ⟨by decide,sm8 (by decide) (by decide)⟩
 have hm:0 ≤ t * c.fdiv 2 ∧ t * c.fdiv 2 ≤ 8:=by
  have c2:c.fdiv 2 = 0 ∨ c.fdiv 2 = 1:=by omega
  rcases c2 with z | z <;> rw [z] <;> omega
 have lx:xs.length = n:=by rw [l3]; unfold abt; simp
 generalize t * c.fdiv 2 = tc at mt hm
 obtain ⟨zs,z,ez,P,b1,b2⟩:=aoU (n:=n) (k:=100) (L:=xs) (b:=1 + tc) (by omega) lx (by decide) (fun x hx=>(b3 x hx).mono (by decide)) (Bd.of (n:=9) (by omega) (by decide))
 have el:=acA (xs ++ [1 + tc]) (S.set k (.lst (n3.map .int))) (fun m hm=>by
  rcases List.mem_append.mp hm with y | y
  ·exact (b3 m y).mono (by decide)
  ·have:m = 1 + tc:=by simpa using y
   rw [this]
   exact (Bd.of (k:=4) (n:=9) (by omega) (by decide)).mono (by decide))
 rw [ez] at el
 refine ⟨zs,z,n3,?_,P,b1,b2⟩
 have tk3:=aio S k (.lst (n3.map .int))
 have hz:xs.length + 1 ≤ 16777216:=by omega
 generalize S.set k (.lst (n1.map .int)) = S1 at e1 e2
 generalize S.set k (.lst (n2.map .int)) = S2 at e2 e3
 generalize S.set k (.lst (n3.map .int)) = S3 at e3 el tk3
 have hr:rng1 [.pv (.int (n:Int))] S2 = .ok (abt 0 n,[]) S2:=by
  unfold rng1
  dsimp only
  rw [if_pos ⟨by omega,by omega⟩]
  rfl
 conv at el=>lhs; rw [List.map_append]
 simp only [List.map_cons,List.map_nil] at el
 generalize (zs ++ [z]).map PV.int = ZL at el
 unfold adH fnM ajW
 simp [aak,sSeq,sIf,mTst,mNot,mAnd,mOr,aaE,mOrV,mIf,mBin,mUn,mR,mN,aab,mVar,mC,mNil,Res.bind,aaG,aaA,aaD,aaH,aax,rd,aaB,okO,fLen,fAbs,aam,aal,fTup,fLst,fEq,fNe,abf,aap,aaq,aas,aar,fAdd,aaj,fNeg,fNot,tst,SRes.of,sRet,aaM,sNil,aat,sSet,aan,aaF,aae,aaC,aao,frz,aaJ,p12,e1,em,e2,mt,qt,aaW,aaS,hr,cmpR,e3,hz,el,tk3]
theorem agU {way:Int} (h:way = 1 ∨ way = -1) (xs:List Int) (w:Int) (ys:List Int) (v:Int):low (List.zipWith (fun x y=>way * x * v + y * w) xs ys ++ [w * v]) = mv way xs w ys v:=by
 unfold mv
 rcases h with rfl | rfl
 ·rw [if_pos rfl,ajh]
 ·rw [if_neg (by decide),ahD,Int.mul_comm w v]
structure Pq (n k:Nat) (xs:List Int) (w:Int):Prop where
 len:xs.length = n
 pos:0 < w
 low:low (xs ++ [w]) = xs ++ [w]
 bx:∀ x ∈ xs,Bd k x
 bw:Bd k w
def Vl (n:Nat) (xs:List Int) (w:Int) (N:Nat → Int) (D:Int):Prop:=∀ j,j < n → xs.getD j 0 * D = N j * w
theorem Vl.self (n:Nat) (xs:List Int) (w:Int):Vl n xs w (fun j=>xs.getD j 0) w:=fun _ _=>rfl
theorem ahX {a b c:Int} (h:0 < c) (e:a * c = b * c):a = b:=Int.eq_of_mul_eq_mul_right (by omega) e
theorem anp {xs ys:List Int} {f:Int → Int → Int} {j:Nat} (h1:j < xs.length) (h2:j < ys.length):(List.zipWith f xs ys).getD j 0 = f (xs.getD j 0) (ys.getD j 0):=by
 have:j < (List.zipWith f xs ys).length:=by rw [List.length_zipWith]; omega
 simp only [List.getD,List.getElem?_eq_getElem this,List.getElem?_eq_getElem h1,List.getElem?_eq_getElem h2,Option.getD_some,List.getElem_zipWith]
theorem apD {n k l:Nat} {way:Int} {xs ys:List Int} {w v:Int} (hway:way = 1 ∨ way = -1) (P:Pq n k xs w) (Q:Pq n l ys v):∃ (zs:List Int) (z:Int),mv way xs w ys v = zs ++ [z] ∧ Pq n (k + l + 1) zs z ∧
  ∀ (N M:Nat → Int) (D E:Int),Vl n xs w N D → Vl n ys v M E → 0 < D → 0 < E → Vl n zs z (fun j=>way * N j * E + M j * D) (D * E):=by
 rw [← agU hway]
 have hb:=Int.mul_pos P.pos Q.pos
 have hl:(List.zipWith (fun x y=>way * x * v + y * w) xs ys).length = n:=by rw [List.length_zipWith,P.len,Q.len]; omega
 obtain ⟨zs,z,g,e,hg,hz,g1,g2,hzl⟩:=ahW (List.zipWith (fun x y=>way * x * v + y * w) xs ys) hb
 have hlow:=ahO (List.zipWith (fun x y=>way * x * v + y * w) xs ys) hb
 have hbd:=ah4 (k:=k + l + 1) (ns:=List.zipWith (fun x y=>way * x * v + y * w) xs ys ++ [w * v]) fun m hm=>by
  rcases List.mem_append.mp hm with y | y
  ·obtain ⟨i,hi,e⟩:=List.getElem_of_mem y
   rw [List.getElem_zipWith] at e
   rw [← e]
   have b1:=(P.bx _ (List.getElem_mem (l:=xs) (n:=i) (by rw [List.length_zipWith] at hi; omega))).mul Q.bw
   have b2:=(Q.bx _ (List.getElem_mem (l:=ys) (n:=i) (by rw [List.length_zipWith] at hi; omega))).mul P.bw
   have b3:Bd (k + l) (way * xs[i]'(by rw [List.length_zipWith] at hi; omega) * v):=by
    rcases hway with rfl | rfl
    ·rw [Int.one_mul]; exact b1
    ·have:(-1:Int) * xs[i]'(by rw [List.length_zipWith] at hi; omega) * v = -(xs[i]'(by rw [List.length_zipWith] at hi; omega) * v):=by rw [Int.neg_mul,Int.one_mul,Int.neg_mul]
     rw [this]; exact b1.neg
   exact b3.add (b2.mono (by omega))
  ·have:m = w * v:=by simpa using y
   rw [this]
   exact (P.bw.mul Q.bw).mono (by omega)
 rw [e] at hbd hlow
 refine ⟨zs,z,e,⟨hzl.trans hl,hz,hlow,fun x hx=>hbd x (List.mem_append_left _ hx),hbd z (ab3 zs z)⟩,fun N M D E a b hD hE j hj=>?_⟩
 have h1:(List.zipWith (fun x y=>way * x * v + y * w) xs ys).getD j 0 = g * zs.getD j 0:=by
  rw [g1]
  have:j < zs.length:=by rw [hzl,hl]; exact hj
  simp [List.getD,this]
 rw [anp (by rw [P.len]; exact hj) (by rw [Q.len]; exact hj)] at h1
 have a1:=a j hj
 have b1:=b j hj
 generalize xs.getD j 0 = X at a1 h1
 generalize ys.getD j 0 = Y at b1 h1
 generalize zs.getD j 0 = Z at h1 ⊢
 show Z * (D * E) = (way * N j * E + M j * D) * z
 generalize N j = A at *
 generalize M j = B at *
 refine ahX (c:=g * (w * v)) (Int.mul_pos hg hb) ?_
 have p1:=P.pos
 have p2:=Q.pos
 have k1:(way * X * v + Y * w) * (D * E) = (way * A * E + B * D) * (w * v):=by grind
 have k2:Z * (D * E) * (g * (w * v)) = (way * X * v + Y * w) * (D * E) * (w * v):=by rw [h1]; grind
 rw [k2,k1,g2]
 grind
theorem Pt.pq {n k:Nat} {xs:List Int} {w:Int} (P:Pt n xs w) (b:∀ x ∈ xs,Bd k x) (bw:Bd k w):Pq n k xs w:=⟨P.len,P.pos,P.low,b,bw⟩
theorem Pq.mono {n k l:Nat} {xs:List Int} {w:Int} (P:Pq n k xs w) (h:k ≤ l):Pq n l xs w:=⟨P.len,P.pos,P.low,fun x hx=>(P.bx x hx).mono h,P.bw.mono h⟩
theorem alW {xs:List Int} {w:Int} {n k:Nat} (S:Sto) (hk:k ≤ 2000) (h:Pq n k xs w):aby [.pv (.tup ((xs ++ [w]).map .int)),.pv (.int n)] S = .ok (.pv (.bl true)) S:=by
 have e1:=akR (xs ++ [w]) S
 have hl:((xs ++ [w]).length:Int) = (n:Int) + 1:=by simp [h.len]
 rw [hl] at e1
 have ip:=ach xs w
 have el:=ai1 (xs ++ [w]) S (fun m hm=>by
  rcases List.mem_append.mp hm with z | z
  ·exact (h.bx m z).mono (by omega)
  ·have:m = w:=by simpa using z
   rw [this]; exact h.bw.mono (by omega))
 rw [h.low] at el
 have q:eqN 8 (.tup ((xs ++ [w]).map .int)) (.tup ((xs ++ [w]).map .int)) = some true:=ajI 7 _
 have hw:¬ w < 1:=by have:=h.pos; omega
 generalize (xs ++ [w]).map PV.int = PL at e1 ip el q
 unfold aby fnM acX
 simp [aak,sSeq,sIf,mTst,mNot,mAnd,mOr,aaE,mOrV,mIf,mBin,mUn,mR,mN,aab,mVar,mC,mNil,Res.bind,aaG,aaA,aaD,aaH,aax,rd,aaB,okO,fLen,fAbs,aam,aal,fTup,fLst,fEq,fNe,abf,aap,aaq,aas,aar,fAdd,aaj,fNeg,fNot,tst,SRes.of,sRet,aaM,sNil,aat,sSet,aan,aaF,aae,aaC,aao,frz,aaJ,e1,ip,hw,el,q]
theorem amB {n k l:Nat} {way:Int} {xs ys:List Int} {w v:Int} (S:Sto) (hn:n = 2 ∨ n = 3) (hway:way = 1 ∨ way = -1) (P:Pq n k xs w) (Q:Pq n l ys v) (hk:k ≤ 1000) (hl:l ≤ 1000):abe [.pv (.tup ((xs ++ [w]).map .int)),.pv (.tup ((ys ++ [v]).map .int)),.pv (.int way)] S = .ok (.pv (.tup ((mv way xs w ys v).map .int))) S:=by
 have e:=ajS (way:=way) S (P.len.trans Q.len.symm) (by rw [P.len]; omega) hway (fun x hx=>(P.bx x hx).mono hk) (fun x hx=>(Q.bx x hx).mono hl) (P.bw.mono hk) (Q.bw.mono hl)
 rw [agU hway] at e
 exact e
theorem hrg (S:Sto):rng1 [.pv (.int 3)] S = .ok ([.int 0,.int 1,.int 2],[]) S:=by
 have h:abt 0 (3:Int).toNat = [.int 0,.int 1,.int 2]:=rfl
 rw [← h]
 unfold rng1
 dsimp only
 rw [if_pos ⟨by omega,by omega⟩]
theorem amM (t b:Int) (S:Sto) (ht:Bd 8000 t) (hb:Bd 8000 b):adP [.pv (.int t),.pv (.int b)] S = .ok (.pv (.tup ((fr t b).map .int))) S:=by
 unfold adP fnM ahA fr
 have e1:=acA [0 - t,0 - b] S (by
  intro n hn
  rcases List.mem_cons.mp hn with rfl | hn
  ·rw [Int.zero_sub]; exact ht.neg
  ·have:n = 0 - b:=by simpa using hn
   rw [this,Int.zero_sub]; exact hb.neg)
 have e2:=acA [t,b] S (by
  intro n hn
  rcases List.mem_cons.mp hn with rfl | hn
  ·exact ht
  ·have:n = b:=by simpa using hn
   rw [this]; exact hb)
 by_cases h:b < 0
 ·simp only [List.map_cons,List.map_nil,Int.zero_sub] at e1
  simp [aak,sSeq,sIf,mTst,mNot,mAnd,mOr,aaE,mOrV,mIf,mBin,mUn,mR,mN,aab,mVar,mC,mNil,Res.bind,aaG,aaA,aaD,aaH,aax,rd,aaB,okO,fLen,fAbs,aam,aal,fTup,fLst,fIx,atI,ixN,fEq,fNe,eqN,aap,aaq,aas,aar,fAdd,aaj,fNeg,fNot,tst,SRes.of,sRet,aaM,sNil,aat,sSet,aan,aaF,aae,aaC,aao,frz,aaJ,h,e1]
 ·simp only [List.map_cons,List.map_nil] at e2
  simp [aak,sSeq,sIf,mTst,mNot,mAnd,mOr,aaE,mOrV,mIf,mBin,mUn,mR,mN,aab,mVar,mC,mNil,Res.bind,aaG,aaA,aaD,aaH,aax,rd,aaB,okO,fLen,fAbs,aam,aal,fTup,fLst,fIx,atI,ixN,fEq,fNe,eqN,aap,aaq,aas,aar,fAdd,aaj,fNeg,fNot,tst,SRes.of,sRet,aaM,sNil,aat,sSet,aan,aaF,aae,aaC,aao,frz,aaJ,h,e2]
theorem aev:∀ is:List Int,ad5 (is.map .int) = some is
 | []=>rfl
 | i :: is=>by
  have ih:=aev is
  show (match ad5 (is.map .int) with | some bs=>some (i :: bs) | none=>none) = _
  rw [ih]
theorem ag9 (is:List Int):fSum [.lst (is.map .int)] = some (.int is.sum):=by
 simp only [fSum,aev,Option.map_some]
def wa (xs:List Int) (w:Int) (ys:List Int) (v:Int):List Int:=List.zipWith (fun x y=>y * w - x * v) xs ys
theorem ajx (S:Sto) (PL QL:List PV) (w v:Int) (hp:fIx (.tup PL) (.int (-1)) = some (.int w)) (hq:fIx (.tup QL) (.int (-1)) = some (.int v)) (bw:Bd 2000 w) (bv:Bd 2000 v):∀ (xs ys:List Int) (x y:Option AV),xs.length = ys.length → (∀ x ∈ xs,Bd 2000 x) → (∀ y ∈ ys,Bd 2000 y) →
  aa9 [] (gT 2 (abc (gN 0) (abc (gN 1) acK))) (mBin fSub (mBin fMul (mVar 1) (mBin fIx (mVar 2) (mUn fNeg (mC (.int 1))))) (mBin fMul (mVar 0) (mBin fIx (mVar 3) (mUn fNeg (mC (.int 1)))))) (zipP (xs.map .int) (ys.map .int)) [x,y,some (.pv (.tup PL)),some (.pv (.tup QL))] S = .ok ((wa xs w ys v).map .int) S
 | [],ys,x,y,hl,_,_=>by
  have:ys = []:=List.length_eq_zero_iff.mp hl.symm
  subst this
  exact aaR
 | a :: xs,[],x,y,hl,_,_=>by cases hl
 | a :: xs,b :: ys,x,y,hl,hx,hy=>by
  have ih:=ajx S PL QL w v hp hq bw bv xs ys (some (.pv (.int a))) (some (.pv (.int b))) (by simpa using hl) (fun m hm=>hx m (List.mem_cons_of_mem _ hm)) (fun m hm=>hy m (List.mem_cons_of_mem _ hm))
  have m1:=mB (hx a List.mem_cons_self) bv
  have m2:=mB (hy b List.mem_cons_self) bw
  show aa9 [] _ _ (.tup [.int a,.int b] :: zipP (xs.map .int) (ys.map .int)) _ S = _
  rw [aaP]
  simp [gT,abc,acK,gN,aak,sSeq,sIf,mTst,mNot,mAnd,mOr,aaE,mOrV,mIf,mBin,mUn,mR,mN,aab,mVar,mC,mNil,Res.bind,aaG,aaA,aaD,aaH,aax,rd,aaB,okO,fLen,fAbs,aam,aal,fTup,fLst,fEq,fNe,abf,aap,aaq,aas,aar,fAdd,aaj,fNeg,fNot,tst,SRes.of,sRet,aaM,sNil,aat,sSet,aan,aaF,aae,aaC,aao,frz,aaJ,hp,hq,m1,m2,ih,wa]
theorem ain {xs ys:List Int} {w v:Int} (S:Sto) (hl:xs.length = ys.length) (hx:∀ x ∈ xs,Bd 2000 x) (hy:∀ y ∈ ys,Bd 2000 y) (bw:Bd 2000 w) (bv:Bd 2000 v) :
  abp [.pv (.tup ((xs ++ [w]).map .int)),.pv (.tup ((ys ++ [v]).map .int))] S = .ok (.pv (.lst ((wa xs w ys v).map .int))) S:=by
 have ip:=ach xs w
 have iq:=ach ys v
 have sp:=aeH xs w
 have sq:=aeH ys v
 have ec:=ajx S _ _ w v ip iq bw bv xs ys none none hl hx hy
 generalize (xs ++ [w]).map PV.int = PL at ip sp ec
 generalize (ys ++ [v]).map PV.int = QL at iq sq ec
 unfold abp fnM ac1
 simp [aak,sSeq,sIf,mTst,mNot,mAnd,mOr,aaE,mOrV,mIf,mBin,mUn,mR,mN,aab,mVar,mC,mNil,Res.bind,aaG,aaA,aaD,aaH,aax,rd,aaB,okO,fLen,fAbs,aam,aal,fTup,fLst,fEq,fNe,abf,aap,aaq,aas,aar,fAdd,aaj,fNeg,fNot,tst,SRes.of,sRet,aaM,sNil,aat,sSet,aan,aaF,aae,aaC,aao,frz,aaJ,aaW,mZip,afw,abx,mSl,mO0,mO1,abY,sp,sq,cmpR,ec]
theorem af8 (S:Sto):∀ (us vs:List Int) (x y:Option AV),(∀ x ∈ us,Bd 100000 x) → (∀ y ∈ vs,Bd 100000 y) →
  aa9 [] (gT 2 (abc (gN 0) (abc (gN 1) acK))) (mBin fMul (mVar 0) (mVar 1)) (zipP (us.map .int) (vs.map .int)) [x,y] S = .ok ((List.zipWith (· * ·) us vs).map .int) S
 | [],vs,x,y,_,_=>by
  show aa9 [] _ _ [] _ S = _
  exact aaR
 | a :: us,[],x,y,_,_=>by
  show aa9 [] _ _ [] _ S = _
  exact aaR
 | a :: us,b :: vs,x,y,hx,hy=>by
  have ih:=af8 S us vs (some (.pv (.int a))) (some (.pv (.int b))) (fun m hm=>hx m (List.mem_cons_of_mem _ hm)) (fun m hm=>hy m (List.mem_cons_of_mem _ hm))
  have m1:fMul (.int a) (.int b) = some (.int (a * b)):=acL (.inr ⟨(hx a List.mem_cons_self).mono (by decide),(hy b List.mem_cons_self).mono (by decide)⟩)
  show aa9 [] _ _ (.tup [.int a,.int b] :: zipP (us.map .int) (vs.map .int)) _ S = _
  rw [aaP]
  simp [gT,abc,acK,gN,aak,sSeq,sIf,mTst,mNot,mAnd,mOr,aaE,mOrV,mIf,mBin,mUn,mR,mN,aab,mVar,mC,mNil,Res.bind,aaG,aaA,aaD,aaH,aax,rd,aaB,okO,fLen,fAbs,aam,aal,fTup,fLst,fEq,fNe,abf,aap,aaq,aas,aar,fAdd,aaj,fNeg,fNot,tst,SRes.of,sRet,aaM,sNil,aat,sSet,aan,aaF,aae,aaC,aao,frz,aaJ,m1,ih]
def dt (us vs:List Int):Int:=(List.zipWith (· * ·) us vs).sum
def Sq (A:PV) (us:List Int):Prop:=A = .lst (us.map .int) ∨ A = .tup (us.map .int)
theorem amm {A B:PV} {us vs:List Int} (S:Sto) (hA:Sq A us) (hB:Sq B vs) (hx:∀ x ∈ us,Bd 100000 x) (hy:∀ y ∈ vs,Bd 100000 y):ajk [.pv A,.pv B] S = .ok (.pv (.int (dt us vs))) S:=by
 have ec:=af8 S us vs none none hx hy
 have es:=ag9 (List.zipWith (· * ·) us vs)
 unfold dt
 generalize (List.zipWith (· * ·) us vs).map PV.int = ZL at ec es
 generalize (List.zipWith (· * ·) us vs).sum = Z at es
 unfold ajk fnM anb
 rcases hA with rfl | rfl <;> rcases hB with rfl | rfl <;>
  (generalize us.map PV.int = UL at ec ⊢; generalize vs.map PV.int = VL at ec ⊢; simp [aak,sSeq,sIf,mTst,mNot,mAnd,mOr,aaE,mOrV,mIf,mBin,mUn,mR,mN,aab,mVar,mC,mNil,Res.bind,aaG,aaA,aaD,aaH,aax,rd,aaB,okO,fLen,fAbs,aam,aal,fTup,fLst,fEq,fNe,abf,aap,aaq,aas,aar,fAdd,aaj,fNeg,fNot,tst,SRes.of,sRet,aaM,sNil,aat,sSet,aan,aaF,aae,aaC,aao,frz,aaJ,aaW,mZip,afw,abx,cmpR,ec,es])
theorem akC {A B:PV} {us vs:List Int} (S:Sto) (hA:Sq A us) (hB:Sq B vs) (hx:∀ x ∈ us,Bd 100000 x) (hy:∀ y ∈ vs,Bd 100000 y):afN [.pv A,.pv B] S = .ok (.pv (.int (dt us vs))) S:=by
 have ec:=af8 S us vs none none hx hy
 have es:=ag9 (List.zipWith (· * ·) us vs)
 unfold dt
 generalize (List.zipWith (· * ·) us vs).map PV.int = ZL at ec es
 generalize (List.zipWith (· * ·) us vs).sum = Z at es
 unfold afN fnM aj2
 rcases hA with rfl | rfl <;> rcases hB with rfl | rfl <;>
  (generalize us.map PV.int = UL at ec ⊢; generalize vs.map PV.int = VL at ec ⊢; simp [aak,sSeq,sIf,mTst,mNot,mAnd,mOr,aaE,mOrV,mIf,mBin,mUn,mR,mN,aab,mVar,mC,mNil,Res.bind,aaG,aaA,aaD,aaH,aax,rd,aaB,okO,fLen,fAbs,aam,aal,fTup,fLst,fEq,fNe,abf,aap,aaq,aas,aar,fAdd,aaj,fNeg,fNot,tst,SRes.of,sRet,aaM,sNil,aat,sSet,aan,aaF,aae,aaC,aao,frz,aaJ,aaW,mZip,afw,abx,cmpR,ec,es])
theorem mBB {k l:Nat} {a b:Int} (h:Bd k a) (g:Bd l b) (hk:k ≤ 1000000:=by decide) (hl:l ≤ 1000000:=by decide):fMul (.int a) (.int b) = some (.int (a * b)):=acL (.inr ⟨h.mono hk,g.mono hl⟩)
theorem amR (a b:Int) (S:Sto):acG [.pv (.lst [.lst [.int a,.int b]])] S = .ok (.pv (.lst [.int (-b),.int a])) S:=by
 unfold acG fnM aeF
 simp [aak,sSeq,sIf,mTst,mNot,mAnd,mOr,aaE,mOrV,mIf,mBin,mUn,mR,mN,aab,mVar,mC,mNil,Res.bind,aaG,aaA,aaD,aaH,aax,rd,aaB,okO,fLen,fAbs,aam,aal,fTup,fLst,fIx,atI,ixN,fEq,fNe,eqN,aap,aaq,aas,aar,fAdd,aaj,fNeg,fNot,tst,SRes.of,sRet,aaM,sNil,aat,sSet,aan,aaF,aae,aaC,aao,frz,aaJ]
theorem anu {a b c d e f:Int} (S:Sto) (ha:Bd 10000 a) (hb:Bd 10000 b) (hc:Bd 10000 c) (hd:Bd 10000 d) (he:Bd 10000 e) (hf:Bd 10000 f):acG [.pv (.lst [.lst [.int a,.int b,.int c],.lst [.int d,.int e,.int f]])] S = .ok (.pv (.lst [.int (b * f - c * e),.int (c * d - a * f),.int (a * e - b * d)])) S:=by
 have m1:=mBB hb hf
 have m2:=mBB hc he
 have m3:=mBB hc hd
 have m4:=mBB ha hf
 have m5:=mBB ha he
 have m6:=mBB hb hd
 unfold acG fnM aeF
 simp [aak,sSeq,sIf,mTst,mNot,mAnd,mOr,aaE,mOrV,mIf,mBin,mUn,mR,mN,aab,mVar,mC,mNil,Res.bind,aaG,aaA,aaD,aaH,aax,rd,aaB,okO,fLen,fAbs,aam,aal,fTup,fLst,fIx,atI,ixN,fEq,fNe,eqN,aap,aaq,aas,aar,fAdd,aaj,fNeg,fNot,tst,SRes.of,sRet,aaM,sNil,aat,sSet,aan,aaF,aae,aaC,aao,frz,aaJ,m1,m2,m3,m4,m5,m6]
theorem aih {A B:PV} {a b c d e f:Int} (S:Sto) (hA:Sq A [a,b,c]) (hB:Sq B [d,e,f]) (ha:Bd 10000 a) (hb:Bd 10000 b) (hc:Bd 10000 c) (hd:Bd 10000 d) (he:Bd 10000 e) (hf:Bd 10000 f):adt [.pv A,.pv B] S = .ok (.pv (.lst [.int (b * f - c * e),.int (c * d - a * f),.int (a * e - b * d)])) S:=by
 have m1:=mBB hb hf
 have m2:=mBB hc he
 have m3:=mBB hc hd
 have m4:=mBB ha hf
 have m5:=mBB ha he
 have m6:=mBB hb hd
 unfold adt fnM af2
 rcases hA with rfl | rfl <;> rcases hB with rfl | rfl <;> simp [aak,sSeq,sIf,mTst,mNot,mAnd,mOr,aaE,mOrV,mIf,mBin,mUn,mR,mN,aab,mVar,mC,mNil,Res.bind,aaG,aaA,aaD,aaH,aax,rd,aaB,okO,fLen,fAbs,aam,aal,fTup,fLst,fIx,atI,ixN,fEq,fNe,eqN,aap,aaq,aas,aar,fAdd,aaj,fNeg,fNot,tst,SRes.of,sRet,aaM,sNil,aat,sSet,aan,aaF,aae,aaC,aao,frz,aaJ,m1,m2,m3,m4,m5,m6]
structure P2 (x y w:Int):Prop where
 bx:Bd 1000 x
 by_:Bd 1000 y
 bw:Bd 1000 w
 pos:0 < w
structure P3 (x y z w:Int):Prop where
 bx:Bd 1000 x
 by_:Bd 1000 y
 bz:Bd 1000 z
 bw:Bd 1000 w
 pos:0 < w
abbrev v2 (x y w:Int):PV:=.tup [.int x,.int y,.int w]
abbrev v3 (x y z w:Int):PV:=.tup [.int x,.int y,.int z,.int w]
def Sv (A:PV) (L:List PV):Prop:=A = .lst L ∨ A = .tup L
theorem cut1 (p:PV) (L:List PV):cutP (p :: L) (some 1) none = L:=by
 unfold cutP
 have e1:HT.sIx (p :: L).length 0 (some 1) = 1:=by
  rw [show (some (1:Int)) = some ((1:Nat):Int) from rfl,HT.sIx_nat,List.length_cons]
  omega
 rw [e1]
 show ((p :: L).drop 1).take ((p :: L).length - 1) = L
 simp
theorem aiP (p:PV) (L:List PV):fSl (.lst (p :: L)) (some 1) none = some (.lst L):=by
 unfold fSl
 dsimp only
 rw [cut1]
theorem alQ (p:PV) (L:List PV):fSl (.tup (p :: L)) (some 1) none = some (.tup L):=by
 unfold fSl
 dsimp only
 have e1:HT.sIx (p :: L).length 0 (some 1) = 1:=by
  rw [show (some (1:Int)) = some ((1:Nat):Int) from rfl,HT.sIx_nat,List.length_cons]
  omega
 rw [if_neg (by rw [e1]; simp),cut1]
theorem amx (L:List PV) (p:PV):fSl (.lst (L ++ [p])) none (some (-1)) = some (.lst L):=by
 unfold fSl
 dsimp only
 unfold cutP
 have e1:HT.sIx (L ++ [p]).length (L ++ [p]).length (some (-1)) = L.length:=by
  rw [List.length_append]
  exact agb L.length _
 rw [e1]
 show some (PV.lst (((L ++ [p]).drop 0).take (L.length - 0))) = _
 simp
theorem amw {x0 y0 w0 x1 y1 w1:Int} (S:Sto) (p:P2 x0 y0 w0) (q:P2 x1 y1 w1):abp [.pv (v2 x0 y0 w0),.pv (v2 x1 y1 w1)] S = .ok (.pv (.lst [.int (x1 * w0 - x0 * w1),.int (y1 * w0 - y0 * w1)])) S:=by
 have e:=ain (xs:=[x0,y0]) (ys:=[x1,y1]) (w:=w0) (v:=w1) S rfl (by simp; exact ⟨p.bx.mono (by decide),p.by_.mono (by decide)⟩) (by simp; exact ⟨q.bx.mono (by decide),q.by_.mono (by decide)⟩) (p.bw.mono (by decide)) (q.bw.mono (by decide))
 exact e
theorem akH {x0 y0 z0 w0 x1 y1 z1 w1:Int} (S:Sto) (p:P3 x0 y0 z0 w0) (q:P3 x1 y1 z1 w1):abp [.pv (v3 x0 y0 z0 w0),.pv (v3 x1 y1 z1 w1)] S = .ok (.pv (.lst [.int (x1 * w0 - x0 * w1),.int (y1 * w0 - y0 * w1),.int (z1 * w0 - z0 * w1)])) S:=by
 have e:=ain (xs:=[x0,y0,z0]) (ys:=[x1,y1,z1]) (w:=w0) (v:=w1) S rfl (by simp; exact ⟨p.bx.mono (by decide),p.by_.mono (by decide),p.bz.mono (by decide)⟩) (by simp; exact ⟨q.bx.mono (by decide),q.by_.mono (by decide),q.bz.mono (by decide)⟩) (p.bw.mono (by decide)) (q.bw.mono (by decide))
 exact e
theorem sb {x0 w0 x1 w1:Int} (a:Bd 1000 x0) (b:Bd 1000 w0) (c:Bd 1000 x1) (d:Bd 1000 w1):Bd 2001 (x1 * w0 - x0 * w1):=((c.mul b).mono (show 1000 + 1000 ≤ 2000 by decide)).sub ((a.mul d).mono (show 1000 + 1000 ≤ 2000 by decide))
theorem cb {a b c d:Int} (h1:Bd 2001 a) (h2:Bd 2001 b) (h3:Bd 2001 c) (h4:Bd 2001 d):Bd 4003 (a * b - c * d):=((h1.mul h2).mono (show 2001 + 2001 ≤ 4002 by decide)).sub ((h3.mul h4).mono (show 2001 + 2001 ≤ 4002 by decide))
def D2 (x0 y0 w0 x1 y1 w1 x2 y2 w2:Int):Int:=w0 * (x1 * y2 - y1 * x2) - w1 * (x0 * y2 - y0 * x2) + w2 * (x0 * y1 - y0 * x1)
def D3 (x0 y0 z0 w0 x1 y1 z1 w1 x2 y2 z2 w2 x3 y3 z3 w3:Int):Int :=
 w0 * ((y1 * z2 - z1 * y2) * x3 + (z1 * x2 - x1 * z2) * y3 + (x1 * y2 - y1 * x2) * z3) - w1 * ((y0 * z2 - z0 * y2) * x3 + (z0 * x2 - x0 * z2) * y3 + (x0 * y2 - y0 * x2) * z3)
 + w2 * ((y0 * z1 - z0 * y1) * x3 + (z0 * x1 - x0 * z1) * y3 + (x0 * y1 - y0 * x1) * z3) - w3 * ((y0 * z1 - z0 * y1) * x2 + (z0 * x1 - x0 * z1) * y2 + (x0 * y1 - y0 * x1) * z2)
theorem ap7 (x0 y0 w0 x1 y1 w1 x2 y2 w2:Int):dt [-(y1 * w0 - y0 * w1),x1 * w0 - x0 * w1] [x2 * w0 - x0 * w2,y2 * w0 - y0 * w2] = w0 * D2 x0 y0 w0 x1 y1 w1 x2 y2 w2:=by
 simp only [dt,D2,List.zipWith_cons_cons,List.zipWith_nil_left,List.sum_cons,List.sum_nil]
 grind
theorem ao0 (x0 y0 z0 w0 x1 y1 z1 w1 x2 y2 z2 w2 x3 y3 z3 w3:Int):dt [(y1 * w0 - y0 * w1) * (z2 * w0 - z0 * w2) - (z1 * w0 - z0 * w1) * (y2 * w0 - y0 * w2),(z1 * w0 - z0 * w1) * (x2 * w0 - x0 * w2) - (x1 * w0 - x0 * w1) * (z2 * w0 - z0 * w2),(x1 * w0 - x0 * w1) * (y2 * w0 - y0 * w2) - (y1 * w0 - y0 * w1) * (x2 * w0 - x0 * w2)] [x3 * w0 - x0 * w3,y3 * w0 - y0 * w3,z3 * w0 - z0 * w3] = w0 * w0 * D3 x0 y0 z0 w0 x1 y1 z1 w1 x2 y2 z2 w2 x3 y3 z3 w3:=by
 simp only [dt,D3,List.zipWith_cons_cons,List.zipWith_nil_left,List.sum_cons,List.sum_nil]
 grind
theorem ah3 {w d:Int} (h:0 < w):sg (w * d) = sg d:=by
 unfold sg
 by_cases h1:0 < d
 ·rw [if_pos (Int.mul_pos h h1),if_pos h1]
 ·by_cases h2:d < 0
  ·have:w * d < 0:=Int.mul_neg_of_pos_of_neg h h2
   rw [if_neg (by omega),if_pos this,if_neg h1,if_pos h2]
  ·have:d = 0:=by omega
   subst this
   rw [Int.mul_zero]
theorem am1 {A:PV} {x0 y0 w0 x1 y1 w1 x2 y2 w2:Int} (S:Sto) (hA:Sv A [v2 x0 y0 w0,v2 x1 y1 w1,v2 x2 y2 w2]) (p:P2 x0 y0 w0) (q:P2 x1 y1 w1) (r:P2 x2 y2 w2):abn [.pv A] S = .ok (.pv (.int (w0 * D2 x0 y0 w0 x1 y1 w1 x2 y2 w2))) S:=by
 have a1:=amw S p q
 have a2:=amw S p r
 have bu:=sb p.bx p.bw q.bx q.bw
 have bv:=sb p.by_ p.bw q.by_ q.bw
 have bu2:=sb p.bx p.bw r.bx r.bw
 have bv2:=sb p.by_ p.bw r.by_ r.bw
 have id:=ap7 x0 y0 w0 x1 y1 w1 x2 y2 w2
 generalize w0 * D2 x0 y0 w0 x1 y1 w1 x2 y2 w2 = D at *
 generalize x1 * w0 - x0 * w1 = U0 at *
 generalize y1 * w0 - y0 * w1 = U1 at *
 generalize x2 * w0 - x0 * w2 = V0 at *
 generalize y2 * w0 - y0 * w2 = V1 at *
 have en:=amR U0 U1 S
 have ed:=amm (A:=.lst [.int (-U1),.int U0]) (B:=.lst [.int V0,.int V1]) (us:=[-U1,U0]) (vs:=[V0,V1]) S (.inl rfl) (.inl rfl) (by simp; exact ⟨bv.neg.mono (by decide),bu.mono (by decide)⟩) (by simp; exact ⟨bu2.mono (by decide),bv2.mono (by decide)⟩)
 rw [id] at ed
 have pre:=amx [.lst [.int U0,.int U1]] (.lst [.int V0,.int V1])
 simp only [List.cons_append,List.nil_append] at pre
 generalize v2 x0 y0 w0 = P at *
 generalize v2 x1 y1 w1 = Q at *
 generalize v2 x2 y2 w2 = R at *
 unfold abn fnM acg
 rcases hA with rfl | rfl
 ·have s1:=aiP P [Q,R]
  simp [aak,sSeq,sIf,mTst,mNot,mAnd,mOr,aaE,mOrV,mIf,mBin,mUn,mR,mN,aab,mVar,mC,mNil,Res.bind,aaG,aaA,aaD,aaH,aax,rd,aaB,okO,fLen,fAbs,aam,aal,fTup,fLst,fIx,atI,ixN,fEq,fNe,eqN,aap,aaq,aas,aar,fAdd,aaj,fNeg,fNot,tst,SRes.of,sRet,aaM,sNil,aat,sSet,aan,aaF,aae,aaC,aao,frz,aaJ,aaW,mIt,abx,mSl,mO0,mO1,abY,s1,cmpR,aaP,aaR,gN,a1,a2,pre,en,ed]
 ·have s1:=alQ P [Q,R]
  simp [aak,sSeq,sIf,mTst,mNot,mAnd,mOr,aaE,mOrV,mIf,mBin,mUn,mR,mN,aab,mVar,mC,mNil,Res.bind,aaG,aaA,aaD,aaH,aax,rd,aaB,okO,fLen,fAbs,aam,aal,fTup,fLst,fIx,atI,ixN,fEq,fNe,eqN,aap,aaq,aas,aar,fAdd,aaj,fNeg,fNot,tst,SRes.of,sRet,aaM,sNil,aat,sSet,aan,aaF,aae,aaC,aao,frz,aaJ,aaW,mIt,abx,mSl,mO0,mO1,abY,s1,cmpR,aaP,aaR,gN,a1,a2,pre,en,ed]
theorem amI {A:PV} {x0 y0 z0 w0 x1 y1 z1 w1 x2 y2 z2 w2 x3 y3 z3 w3:Int} (S:Sto) (hA:Sv A [v3 x0 y0 z0 w0,v3 x1 y1 z1 w1,v3 x2 y2 z2 w2,v3 x3 y3 z3 w3]) (p:P3 x0 y0 z0 w0) (q:P3 x1 y1 z1 w1) (r:P3 x2 y2 z2 w2) (s:P3 x3 y3 z3 w3):abn [.pv A] S = .ok (.pv (.int (w0 * w0 * D3 x0 y0 z0 w0 x1 y1 z1 w1 x2 y2 z2 w2 x3 y3 z3 w3))) S:=by
 have a1:=akH S p q
 have a2:=akH S p r
 have a3:=akH S p s
 have b1:=sb p.bx p.bw q.bx q.bw
 have b2:=sb p.by_ p.bw q.by_ q.bw
 have b3:=sb p.bz p.bw q.bz q.bw
 have b4:=sb p.bx p.bw r.bx r.bw
 have b5:=sb p.by_ p.bw r.by_ r.bw
 have b6:=sb p.bz p.bw r.bz r.bw
 have b7:=sb p.bx p.bw s.bx s.bw
 have b8:=sb p.by_ p.bw s.by_ s.bw
 have b9:=sb p.bz p.bw s.bz s.bw
 have id:=ao0 x0 y0 z0 w0 x1 y1 z1 w1 x2 y2 z2 w2 x3 y3 z3 w3
 generalize w0 * w0 * D3 x0 y0 z0 w0 x1 y1 z1 w1 x2 y2 z2 w2 x3 y3 z3 w3 = D at *
 generalize x1 * w0 - x0 * w1 = U0 at *
 generalize y1 * w0 - y0 * w1 = U1 at *
 generalize z1 * w0 - z0 * w1 = U2 at *
 generalize x2 * w0 - x0 * w2 = V0 at *
 generalize y2 * w0 - y0 * w2 = V1 at *
 generalize z2 * w0 - z0 * w2 = V2 at *
 generalize x3 * w0 - x0 * w3 = T0 at *
 generalize y3 * w0 - y0 * w3 = T1 at *
 generalize z3 * w0 - z0 * w3 = T2 at *
 have h:∀ {a:Int},Bd 2001 a → Bd 10000 a:=fun h=>h.mono (by decide)
 have h4:∀ {a:Int},Bd 4003 a → Bd 100000 a:=fun h=>h.mono (by decide)
 have h2:∀ {a:Int},Bd 2001 a → Bd 100000 a:=fun h=>h.mono (by decide)
 have en:=anu S (h b1) (h b2) (h b3) (h b4) (h b5) (h b6)
 have c1:=cb b2 b6 b3 b5
 have c2:=cb b3 b4 b1 b6
 have c3:=cb b1 b5 b2 b4
 have ed:=amm (A:=.lst [.int (U1 * V2 - U2 * V1),.int (U2 * V0 - U0 * V2),.int (U0 * V1 - U1 * V0)]) (B:=.lst [.int T0,.int T1,.int T2]) (us:=[U1 * V2 - U2 * V1,U2 * V0 - U0 * V2,U0 * V1 - U1 * V0]) (vs:=[T0,T1,T2]) S (.inl rfl) (.inl rfl) (by simp; exact ⟨h4 c1,h4 c2,h4 c3⟩) (by simp; exact ⟨h2 b7,h2 b8,h2 b9⟩)
 rw [id] at ed
 generalize U1 * V2 - U2 * V1 = N0 at *
 generalize U2 * V0 - U0 * V2 = N1 at *
 generalize U0 * V1 - U1 * V0 = N2 at *
 have pre:=amx [.lst [.int U0,.int U1,.int U2],.lst [.int V0,.int V1,.int V2]] (.lst [.int T0,.int T1,.int T2])
 simp only [List.cons_append,List.nil_append] at pre
 generalize v3 x0 y0 z0 w0 = P at *
 generalize v3 x1 y1 z1 w1 = Q at *
 generalize v3 x2 y2 z2 w2 = R at *
 generalize v3 x3 y3 z3 w3 = T at *
 unfold abn fnM acg
 rcases hA with rfl | rfl
 ·have s1:=aiP P [Q,R,T]
  simp [aak,sSeq,sIf,mTst,mNot,mAnd,mOr,aaE,mOrV,mIf,mBin,mUn,mR,mN,aab,mVar,mC,mNil,Res.bind,aaG,aaA,aaD,aaH,aax,rd,aaB,okO,fLen,fAbs,aam,aal,fTup,fLst,fIx,atI,ixN,fEq,fNe,eqN,aap,aaq,aas,aar,fAdd,aaj,fNeg,fNot,tst,SRes.of,sRet,aaM,sNil,aat,sSet,aan,aaF,aae,aaC,aao,frz,aaJ,aaW,mIt,abx,mSl,mO0,mO1,abY,s1,cmpR,aaP,aaR,gN,a1,a2,a3,pre,en,ed]
 ·have s1:=alQ P [Q,R,T]
  simp [aak,sSeq,sIf,mTst,mNot,mAnd,mOr,aaE,mOrV,mIf,mBin,mUn,mR,mN,aab,mVar,mC,mNil,Res.bind,aaG,aaA,aaD,aaH,aax,rd,aaB,okO,fLen,fAbs,aam,aal,fTup,fLst,fIx,atI,ixN,fEq,fNe,eqN,aap,aaq,aas,aar,fAdd,aaj,fNeg,fNot,tst,SRes.of,sRet,aaM,sNil,aat,sSet,aan,aaF,aae,aaC,aao,frz,aaJ,aaW,mIt,abx,mSl,mO0,mO1,abY,s1,cmpR,aaP,aaR,gN,a1,a2,a3,pre,en,ed]
theorem alC {A:PV} {x0 y0 w0 x1 y1 w1 x2 y2 w2:Int} (S:Sto) (hA:Sv A [v2 x0 y0 w0,v2 x1 y1 w1,v2 x2 y2 w2]) (p:P2 x0 y0 w0) (q:P2 x1 y1 w1) (r:P2 x2 y2 w2):ad1 [.pv A] S = .ok (.pv (.int (sg (D2 x0 y0 w0 x1 y1 w1 x2 y2 w2)))) S:=by
 have e1:=am1 S hA p q r
 have e2:=ahE (w0 * D2 x0 y0 w0 x1 y1 w1 x2 y2 w2) S
 rw [ah3 p.pos] at e2
 unfold ad1 fnM ah7
 simp [aak,sSeq,sIf,mTst,mNot,mAnd,mOr,aaE,mOrV,mIf,mBin,mUn,mR,mN,aab,mVar,mC,mNil,Res.bind,aaG,aaA,aaD,aaH,aax,rd,aaB,okO,fLen,fAbs,aam,aal,fTup,fLst,fIx,atI,ixN,fEq,fNe,eqN,aap,aaq,aas,aar,fAdd,aaj,fNeg,fNot,tst,SRes.of,sRet,aaM,sNil,aat,sSet,aan,aaF,aae,aaC,aao,frz,aaJ,e1,e2]
theorem akW {A:PV} {x0 y0 z0 w0 x1 y1 z1 w1 x2 y2 z2 w2 x3 y3 z3 w3:Int} (S:Sto) (hA:Sv A [v3 x0 y0 z0 w0,v3 x1 y1 z1 w1,v3 x2 y2 z2 w2,v3 x3 y3 z3 w3]) (p:P3 x0 y0 z0 w0) (q:P3 x1 y1 z1 w1) (r:P3 x2 y2 z2 w2) (s:P3 x3 y3 z3 w3):ad1 [.pv A] S = .ok (.pv (.int (sg (D3 x0 y0 z0 w0 x1 y1 z1 w1 x2 y2 z2 w2 x3 y3 z3 w3)))) S:=by
 have e1:=amI S hA p q r s
 have e2:=ahE (w0 * w0 * D3 x0 y0 z0 w0 x1 y1 z1 w1 x2 y2 z2 w2 x3 y3 z3 w3) S
 rw [ah3 (Int.mul_pos p.pos p.pos)] at e2
 unfold ad1 fnM ah7
 simp [aak,sSeq,sIf,mTst,mNot,mAnd,mOr,aaE,mOrV,mIf,mBin,mUn,mR,mN,aab,mVar,mC,mNil,Res.bind,aaG,aaA,aaD,aaH,aax,rd,aaB,okO,fLen,fAbs,aam,aal,fTup,fLst,fIx,atI,ixN,fEq,fNe,eqN,aap,aaq,aas,aar,fAdd,aaj,fNeg,fNot,tst,SRes.of,sRet,aaM,sNil,aat,sSet,aan,aaF,aae,aaC,aao,frz,aaJ,e1,e2]
def Gp (n k:Nat) (v:PV):Prop:=∃ xs w,v = .tup ((xs ++ [w]).map .int) ∧ Pq n k xs w
theorem Gp.mono {n k l:Nat} {v:PV} (h:Gp n k v) (hl:k ≤ l):Gp n l v:=by
 obtain ⟨xs,w,e,P⟩:=h
 exact ⟨xs,w,e,P.mono hl⟩
theorem Gp.two {v:PV} (h:Gp 2 1000 v):∃ x y w,v = v2 x y w ∧ P2 x y w:=by
 obtain ⟨xs,w,rfl,P⟩:=h
 match xs,P.len with
 | [x,y],_=>exact ⟨x,y,w,rfl,P.bx x (by simp),P.bx y (by simp),P.bw,P.pos⟩
theorem Gp.three {v:PV} (h:Gp 3 1000 v):∃ x y z w,v = v3 x y z w ∧ P3 x y z w:=by
 obtain ⟨xs,w,rfl,P⟩:=h
 match xs,P.len with
 | [x,y,z],_=>exact ⟨x,y,z,w,rfl,P.bx x (by simp),P.bx y (by simp),P.bx z (by simp),P.bw,P.pos⟩
theorem amn {n k m:Nat} {v:PV} (h:Gp n k v):eqN (m + 1) v v = some true:=by
 obtain ⟨xs,w,rfl,_⟩:=h
 exact ajI m _
theorem aem:∀ L:List PV,∀ m,(∀ v ∈ L,eqN m v v = some true) → acB (List.zipWith (eqN m) L L) = some (L.map fun _=>true)
 | [],m,_=>rfl
 | v :: L,m,h=>by
  rw [List.zipWith_cons_cons,h v List.mem_cons_self,acB,aem L m fun u hu=>h u (List.mem_cons_of_mem _ hu)]
  rfl
theorem amS {m:Nat} {L:List PV} (h:∀ v ∈ L,eqN m v v = some true):eqN (m + 1) (.lst L) (.lst L) = some true:=by
 rw [eqN,if_pos rfl,aem L m h]
 simp
theorem agf {m:Nat} {L:List PV} (h:∀ v ∈ L,eqN m v v = some true):eqN (m + 1) (.tup L) (.tup L) = some true:=by
 rw [eqN,aem L m h]
 simp
theorem aiB (S:Sto) (PL QL:List PV) (xs ys:List Int) (w v:Int) (hp:fIx (.tup PL) (.int (-1)) = some (.int w)) (hq:fIx (.tup QL) (.int (-1)) = some (.int v)) (hpj:∀ j:Nat,j < xs.length → fIx (.tup PL) (.int (j:Nat)) = some (.int (xs.getD j 0))) (hqj:∀ j:Nat,j < xs.length → fIx (.tup QL) (.int (j:Nat)) = some (.int (ys.getD j 0)))
  (bw:Bd 1000 w) (bv:Bd 1000 v) (hx:∀ j,Bd 1000 (xs.getD j 0)) (hy:∀ j,Bd 1000 (ys.getD j 0)):∀ (js:List Nat) (x:Option AV),(∀ j ∈ js,j < xs.length) →
  aa9 [] (gN 0) (mBin fSub (mBin fMul (mBin fIx (mVar 1) (mVar 0)) (mBin fIx (mVar 2) (mUn fNeg (mC (.int 1))))) (mBin fMul (mBin fIx (mVar 2) (mVar 0)) (mBin fIx (mVar 1) (mUn fNeg (mC (.int 1)))))) (js.map fun j=>.int (0 + (j:Nat))) [x,some (.pv (.tup QL)),some (.pv (.tup PL))] S = .ok ((js.map fun j=>ys.getD j 0 * w - xs.getD j 0 * v).map .int) S
 | [],x,_=>aaR
 | j :: js,x,h=>by
  have ih:=aiB S PL QL xs ys w v hp hq hpj hqj bw bv hx hy js (some (.pv (.int (0 + (j:Nat))))) fun i hi=>h i (List.mem_cons_of_mem _ hi)
  have e1:=hpj j (h j List.mem_cons_self)
  have e2:=hqj j (h j List.mem_cons_self)
  have m1:=mB ((hx j).mono (show 1000 ≤ 2000 by decide)) (bv.mono (show 1000 ≤ 2000 by decide))
  have m2:=mB ((hy j).mono (show 1000 ≤ 2000 by decide)) (bw.mono (show 1000 ≤ 2000 by decide))
  show aa9 [] _ _ (.int (0 + (j:Nat)) :: js.map fun j=>.int (0 + (j:Nat))) _ S = _
  rw [aaP]
  simp only [Int.zero_add] at ih ⊢
  generalize hX:xs.getD j 0 = X at e1 m1
  generalize hY:ys.getD j 0 = Y at e2 m2
  simp [gN,aak,sSeq,sIf,mTst,mNot,mAnd,mOr,aaE,mOrV,mIf,mBin,mUn,mR,mN,aab,mVar,mC,mNil,Res.bind,aaG,aaA,aaD,aaH,aax,rd,aaB,okO,fLen,fAbs,aam,aal,fTup,fLst,fEq,fNe,abf,aap,aaq,aas,aar,fAdd,aaj,fNeg,fNot,tst,SRes.of,sRet,aaM,sNil,aat,sSet,aan,aaF,aae,aaC,aao,frz,aaJ,e1,e2,hp,hq,m1,m2,ih]
  simp only [List.getD_eq_getElem?_getD] at hX hY
  rw [hX,hY]
theorem ame {xs ys:List Int} {w v:Int} (S:Sto) (hl:xs.length = ys.length) (h9:xs.length ≤ 9) (hx:∀ x ∈ xs,Bd 1000 x) (hy:∀ y ∈ ys,Bd 1000 y) (bw:Bd 1000 w) (bv:Bd 1000 v) :
  aez [.pv (.tup ((xs ++ [w]).map .int)),.pv (.tup ((ys ++ [v]).map .int))] S = .ok (.pv (.lst ((wa xs w ys v).map .int))) S:=by
 have ip:=ach xs w
 have iq:=ach ys v
 have ec:=aiB S _ _ xs ys w v ip iq (fun j h=>aiI xs w j h) (fun j h=>aiI ys v j (by omega)) bw bv (af6 hx) (af6 hy) (List.range xs.length) none fun j hj=>by simpa using hj
 have er:(List.range xs.length).map (fun j=>ys.getD j 0 * w - xs.getD j 0 * v) = wa xs w ys v:=agX hl fun x y=>y * w - x * v
 rw [er] at ec
 have hlen:((xs ++ [w]).map PV.int).length = xs.length + 1:=by simp
 have hr:rng1 [.pv (.int (((xs.length + 1:Nat):Int) - 1))] S = .ok ((List.range xs.length).map fun j=>.int (0 + (j:Nat)),[]) S:=by
  unfold rng1
  dsimp only
  rw [if_pos ⟨by omega,by omega⟩]
  have:(((xs.length + 1:Nat):Int) - 1).toNat = xs.length:=by omega
  rw [this]
  rfl
 generalize (wa xs w ys v).map PV.int = ZL at ec
 generalize (List.range xs.length).map (fun j=>PV.int (0 + (j:Nat))) = RL at ec hr
 generalize hP:(xs ++ [w]).map PV.int = PL at ip ec hlen
 generalize (ys ++ [v]).map PV.int = QL at iq ec
 unfold aez fnM aju
 have hr2:=hr
 rw [← hlen] at hr2
 simp [aak,sSeq,sIf,mTst,mNot,mAnd,mOr,aaE,mOrV,mIf,mBin,mUn,mR,mN,aab,mVar,mC,mNil,Res.bind,aaG,aaA,aaD,aaH,aax,rd,aaB,okO,fLen,fAbs,aam,aal,fTup,fLst,fEq,fNe,abf,aap,aaq,aas,aar,fAdd,aaj,fNeg,fNot,tst,SRes.of,sRet,aaM,sNil,aat,sSet,aan,aaF,aae,aaC,aao,frz,aaJ,aaW,aaS,hr2,cmpR,ec]
theorem gap2 {x0 y0 w0 x1 y1 w1:Int} (S:Sto) (p:P2 x0 y0 w0) (q:P2 x1 y1 w1):aez [.pv (v2 x0 y0 w0),.pv (v2 x1 y1 w1)] S = .ok (.pv (.lst [.int (x1 * w0 - x0 * w1),.int (y1 * w0 - y0 * w1)])) S:=by
 have e:=ame (xs:=[x0,y0]) (ys:=[x1,y1]) (w:=w0) (v:=w1) S rfl (by simp) (by simp; exact ⟨p.bx,p.by_⟩) (by simp; exact ⟨q.bx,q.by_⟩) p.bw q.bw
 exact e
theorem gap3 {x0 y0 z0 w0 x1 y1 z1 w1:Int} (S:Sto) (p:P3 x0 y0 z0 w0) (q:P3 x1 y1 z1 w1):aez [.pv (v3 x0 y0 z0 w0),.pv (v3 x1 y1 z1 w1)] S = .ok (.pv (.lst [.int (x1 * w0 - x0 * w1),.int (y1 * w0 - y0 * w1),.int (z1 * w0 - z0 * w1)])) S:=by
 have e:=ame (xs:=[x0,y0,z0]) (ys:=[x1,y1,z1]) (w:=w0) (v:=w1) S rfl (by simp) (by simp; exact ⟨p.bx,p.by_,p.bz⟩) (by simp; exact ⟨q.bx,q.by_,q.bz⟩) p.bw q.bw
 exact e
theorem al6 {A:PV} {x0 y0 w0 x1 y1 w1 x2 y2 w2:Int} (S:Sto) (hA:Sv A [v2 x0 y0 w0,v2 x1 y1 w1,v2 x2 y2 w2]) (p:P2 x0 y0 w0) (q:P2 x1 y1 w1) (r:P2 x2 y2 w2):adm [.pv A] S = .ok (.pv (.int (w0 * D2 x0 y0 w0 x1 y1 w1 x2 y2 w2))) S:=by
 have a1:=gap2 S p q
 have a2:=gap2 S p r
 have bu:=sb p.bx p.bw q.bx q.bw
 have bv:=sb p.by_ p.bw q.by_ q.bw
 have bu2:=sb p.bx p.bw r.bx r.bw
 have bv2:=sb p.by_ p.bw r.by_ r.bw
 have id:(x1 * w0 - x0 * w1) * (y2 * w0 - y0 * w2) - (y1 * w0 - y0 * w1) * (x2 * w0 - x0 * w2) = w0 * D2 x0 y0 w0 x1 y1 w1 x2 y2 w2:=by
  unfold D2
  grind
 generalize w0 * D2 x0 y0 w0 x1 y1 w1 x2 y2 w2 = D at *
 generalize x1 * w0 - x0 * w1 = U0 at *
 generalize y1 * w0 - y0 * w1 = U1 at *
 generalize x2 * w0 - x0 * w2 = V0 at *
 generalize y2 * w0 - y0 * w2 = V1 at *
 have m1:=mBB bu bv2
 have m2:=mBB bv bu2
 generalize v2 x0 y0 w0 = P at *
 generalize v2 x1 y1 w1 = Q at *
 generalize v2 x2 y2 w2 = R at *
 have et:ab4 [.pv (.lst [.lst [.int U0,.int U1],.lst [.int V0,.int V1]])] S = .ok (.pv (.int D)) S:=by
  unfold ab4 fnM aeu
  simp [aak,sSeq,sIf,mTst,mNot,mAnd,mOr,aaE,mOrV,mIf,mBin,mUn,mR,mN,aab,mVar,mC,mNil,Res.bind,aaG,aaA,aaD,aaH,aax,rd,aaB,okO,fLen,fAbs,aam,aal,fTup,fLst,fIx,atI,ixN,fEq,fNe,eqN,aap,aaq,aas,aar,fAdd,aaj,fNeg,fNot,tst,SRes.of,sRet,aaM,sNil,aat,sSet,aan,aaF,aae,aaC,aao,frz,aaJ,m1,m2,id]
 unfold adm fnM ais
 rcases hA with rfl | rfl
 ·have s1:=aiP P [Q,R]
  simp [aak,sSeq,sIf,mTst,mNot,mAnd,mOr,aaE,mOrV,mIf,mBin,mUn,mR,mN,aab,mVar,mC,mNil,Res.bind,aaG,aaA,aaD,aaH,aax,rd,aaB,okO,fLen,fAbs,aam,aal,fTup,fLst,fIx,atI,ixN,fEq,fNe,eqN,aap,aaq,aas,aar,fAdd,aaj,fNeg,fNot,tst,SRes.of,sRet,aaM,sNil,aat,sSet,aan,aaF,aae,aaC,aao,frz,aaJ,aaW,mIt,abx,mSl,mO0,mO1,abY,s1,cmpR,aaP,aaR,gN,a1,a2,et]
 ·have s1:=alQ P [Q,R]
  simp [aak,sSeq,sIf,mTst,mNot,mAnd,mOr,aaE,mOrV,mIf,mBin,mUn,mR,mN,aab,mVar,mC,mNil,Res.bind,aaG,aaA,aaD,aaH,aax,rd,aaB,okO,fLen,fAbs,aam,aal,fTup,fLst,fIx,atI,ixN,fEq,fNe,eqN,aap,aaq,aas,aar,fAdd,aaj,fNeg,fNot,tst,SRes.of,sRet,aaM,sNil,aat,sSet,aan,aaF,aae,aaC,aao,frz,aaJ,aaW,mIt,abx,mSl,mO0,mO1,abY,s1,cmpR,aaP,aaR,gN,a1,a2,et]
theorem alM {A:PV} {x0 y0 z0 w0 x1 y1 z1 w1 x2 y2 z2 w2 x3 y3 z3 w3:Int} (S:Sto) (hA:Sv A [v3 x0 y0 z0 w0,v3 x1 y1 z1 w1,v3 x2 y2 z2 w2,v3 x3 y3 z3 w3]) (p:P3 x0 y0 z0 w0) (q:P3 x1 y1 z1 w1) (r:P3 x2 y2 z2 w2) (s:P3 x3 y3 z3 w3):adm [.pv A] S = .ok (.pv (.int (w0 * w0 * D3 x0 y0 z0 w0 x1 y1 z1 w1 x2 y2 z2 w2 x3 y3 z3 w3))) S:=by
 have a1:=gap3 S p q
 have a2:=gap3 S p r
 have a3:=gap3 S p s
 have b1:=sb p.bx p.bw q.bx q.bw
 have b2:=sb p.by_ p.bw q.by_ q.bw
 have b3:=sb p.bz p.bw q.bz q.bw
 have b4:=sb p.bx p.bw r.bx r.bw
 have b5:=sb p.by_ p.bw r.by_ r.bw
 have b6:=sb p.bz p.bw r.bz r.bw
 have b7:=sb p.bx p.bw s.bx s.bw
 have b8:=sb p.by_ p.bw s.by_ s.bw
 have b9:=sb p.bz p.bw s.bz s.bw
 have id:=ao0 x0 y0 z0 w0 x1 y1 z1 w1 x2 y2 z2 w2 x3 y3 z3 w3
 generalize w0 * w0 * D3 x0 y0 z0 w0 x1 y1 z1 w1 x2 y2 z2 w2 x3 y3 z3 w3 = D at *
 generalize x1 * w0 - x0 * w1 = U0 at *
 generalize y1 * w0 - y0 * w1 = U1 at *
 generalize z1 * w0 - z0 * w1 = U2 at *
 generalize x2 * w0 - x0 * w2 = V0 at *
 generalize y2 * w0 - y0 * w2 = V1 at *
 generalize z2 * w0 - z0 * w2 = V2 at *
 generalize x3 * w0 - x0 * w3 = T0 at *
 generalize y3 * w0 - y0 * w3 = T1 at *
 generalize z3 * w0 - z0 * w3 = T2 at *
 have h:∀ {a:Int},Bd 2001 a → Bd 10000 a:=fun h=>h.mono (by decide)
 have h4:∀ {a:Int},Bd 4003 a → Bd 100000 a:=fun h=>h.mono (by decide)
 have h2:∀ {a:Int},Bd 2001 a → Bd 100000 a:=fun h=>h.mono (by decide)
 have en:=aih (A:=.lst [.int U0,.int U1,.int U2]) (B:=.lst [.int V0,.int V1,.int V2]) S (.inl rfl) (.inl rfl) (h b1) (h b2) (h b3) (h b4) (h b5) (h b6)
 have c1:=cb b2 b6 b3 b5
 have c2:=cb b3 b4 b1 b6
 have c3:=cb b1 b5 b2 b4
 have ed:=akC (A:=.lst [.int (U1 * V2 - U2 * V1),.int (U2 * V0 - U0 * V2),.int (U0 * V1 - U1 * V0)]) (B:=.lst [.int T0,.int T1,.int T2]) (us:=[U1 * V2 - U2 * V1,U2 * V0 - U0 * V2,U0 * V1 - U1 * V0]) (vs:=[T0,T1,T2]) S (.inl rfl) (.inl rfl) (by simp; exact ⟨h4 c1,h4 c2,h4 c3⟩) (by simp; exact ⟨h2 b7,h2 b8,h2 b9⟩)
 rw [id] at ed
 generalize U1 * V2 - U2 * V1 = N0 at *
 generalize U2 * V0 - U0 * V2 = N1 at *
 generalize U0 * V1 - U1 * V0 = N2 at *
 generalize v3 x0 y0 z0 w0 = P at *
 generalize v3 x1 y1 z1 w1 = Q at *
 generalize v3 x2 y2 z2 w2 = R at *
 generalize v3 x3 y3 z3 w3 = T at *
 have et:ab4 [.pv (.lst [.lst [.int U0,.int U1,.int U2],.lst [.int V0,.int V1,.int V2],.lst [.int T0,.int T1,.int T2]])] S = .ok (.pv (.int D)) S:=by
  unfold ab4 fnM aeu
  simp [aak,sSeq,sIf,mTst,mNot,mAnd,mOr,aaE,mOrV,mIf,mBin,mUn,mR,mN,aab,mVar,mC,mNil,Res.bind,aaG,aaA,aaD,aaH,aax,rd,aaB,okO,fLen,fAbs,aam,aal,fTup,fLst,fIx,atI,ixN,fEq,fNe,eqN,aap,aaq,aas,aar,fAdd,aaj,fNeg,fNot,tst,SRes.of,sRet,aaM,sNil,aat,sSet,aan,aaF,aae,aaC,aao,frz,aaJ,en,ed]
 unfold adm fnM ais
 rcases hA with rfl | rfl
 ·have s1:=aiP P [Q,R,T]
  simp [aak,sSeq,sIf,mTst,mNot,mAnd,mOr,aaE,mOrV,mIf,mBin,mUn,mR,mN,aab,mVar,mC,mNil,Res.bind,aaG,aaA,aaD,aaH,aax,rd,aaB,okO,fLen,fAbs,aam,aal,fTup,fLst,fIx,atI,ixN,fEq,fNe,eqN,aap,aaq,aas,aar,fAdd,aaj,fNeg,fNot,tst,SRes.of,sRet,aaM,sNil,aat,sSet,aan,aaF,aae,aaC,aao,frz,aaJ,aaW,mIt,abx,mSl,mO0,mO1,abY,s1,cmpR,aaP,aaR,gN,a1,a2,a3,et]
 ·have s1:=alQ P [Q,R,T]
  simp [aak,sSeq,sIf,mTst,mNot,mAnd,mOr,aaE,mOrV,mIf,mBin,mUn,mR,mN,aab,mVar,mC,mNil,Res.bind,aaG,aaA,aaD,aaH,aax,rd,aaB,okO,fLen,fAbs,aam,aal,fTup,fLst,fIx,atI,ixN,fEq,fNe,eqN,aap,aaq,aas,aar,fAdd,aaj,fNeg,fNot,tst,SRes.of,sRet,aaM,sNil,aat,sSet,aan,aaF,aae,aaC,aao,frz,aaJ,aaW,mIt,abx,mSl,mO0,mO1,abY,s1,cmpR,aaP,aaR,gN,a1,a2,a3,et]
theorem farg {S:Sto} {k:Nat} {ns:List Int} (n:Nat) (hn:n = 2 ∨ n = 3) (h:Row S k ns):∃ (v:PV) (ns':List Int),adH [.ref k,.pv (.int n)] S = .ok (.pv v) (S.set k (.lst (ns'.map .int))) ∧ Gp n 100 v:=by
 obtain ⟨xs,w,n1,e1,P,b1,b2⟩:=aog n hn h
 exact ⟨_,n1,e1,xs,w,rfl,P.pq b1 b2⟩
theorem al2 {S:Sto} {k:Nat} {ns:List Int} {L:List PV} (h:Row S k ns):∃ (A:PV) (ns':List Int),ab5 [.ref k,.pv (.lst L)] S = .ok (.pv A) (S.set k (.lst (ns'.map .int))) ∧ Sv A L:=by
 obtain ⟨t,n1,e1,t0,t1,_⟩:=abI (m:=2) h (by decide) (sm8 (by decide) (by decide))
 have tk:=aio S k (.lst (n1.map .int))
 generalize hS:S.set k (.lst (n1.map .int)) = S1 at e1 tk
 by_cases ht:t = 1
 ·subst ht
  refine ⟨.tup L,n1,?_,.inr rfl⟩
  rw [hS]
  unfold ab5 fnM ad2
  simp [aak,sSeq,sIf,mTst,mNot,mAnd,mOr,aaE,mOrV,mIf,mBin,mUn,mR,mN,aab,mVar,mC,mNil,Res.bind,aaG,aaA,aaD,aaH,aax,rd,aaB,okO,fLen,fAbs,aam,aal,fTup,fLst,fIx,atI,ixN,fEq,fNe,eqN,aap,aaq,aas,aar,fAdd,aaj,fNeg,fNot,tst,SRes.of,sRet,aaM,sNil,aat,sSet,aan,aaF,aae,aaC,aao,frz,aaJ,e1,tk]
 ·refine ⟨.lst L,n1,?_,.inl rfl⟩
  rw [hS]
  unfold ab5 fnM ad2
  simp [aak,sSeq,sIf,mTst,mNot,mAnd,mOr,aaE,mOrV,mIf,mBin,mUn,mR,mN,aab,mVar,mC,mNil,Res.bind,aaG,aaA,aaD,aaH,aax,rd,aaB,okO,fLen,fAbs,aam,aal,fTup,fLst,fIx,atI,ixN,fEq,fNe,eqN,aap,aaq,aas,aar,fAdd,aaj,fNeg,fNot,tst,SRes.of,sRet,aaM,sNil,aat,sSet,aan,aaF,aae,aaC,aao,frz,aaJ,e1,tk,ht]
def B2 (x0 y0 w0 x1 y1 w1:Int):List Int:=[-(y1 * w0 - y0 * w1),x1 * w0 - x0 * w1,x0 * y1 - y0 * x1]
theorem am0 {G:Gd} {g:GM} {me:ME} {x:PV} {r:List PV} {ρ:Rho} {S:Sto} (h:gOk G S):aa9 G g me (x :: r) ρ S = (match g x ρ with
  | none=>.fail
  | some ρ1=>match me ρ1 S with
   | .ok (.pv y) S1=>match aa9 G g me r ρ1 S1 with
    | .ok ys S2=>.ok (y :: ys) S2
    | _=>.fail
   | _=>.fail):=by
 rw [aa9,if_pos h]
 all_goals rfl
theorem ak2 {G:Gd} {g:GM} {me:ME} {ρ:Rho} {S:Sto} (h:gOk G S):aa9 G g me [] ρ S = .ok [] S:=by
 rw [aa9,if_pos h]
theorem aiq (a b c x0 y0 w0 x1 y1 w1 x2 y2 w2:Int):D2 (a * x0) (a * y0) (a * w0) (b * x1) (b * y1) (b * w1) (c * x2) (c * y2) (c * w2) = a * b * c * D2 x0 y0 w0 x1 y1 w1 x2 y2 w2:=by
 unfold D2
 grind
theorem air (a b c d x0 y0 z0 w0 x1 y1 z1 w1 x2 y2 z2 w2 x3 y3 z3 w3:Int):D3 (a * x0) (a * y0) (a * z0) (a * w0) (b * x1) (b * y1) (b * z1) (b * w1) (c * x2) (c * y2) (c * z2) (c * w2) (d * x3) (d * y3) (d * z3) (d * w3) = a * b * c * d * D3 x0 y0 z0 w0 x1 y1 z1 w1 x2 y2 z2 w2 x3 y3 z3 w3:=by
 unfold D3
 grind
structure R2 (x y w X Y D:Int):Prop where
 pos:0 < w
 dos:0 < D
 ex:x * D = X * w
 ey:y * D = Y * w
structure R3 (x y z w X Y Z D:Int):Prop where
 pos:0 < w
 dos:0 < D
 ex:x * D = X * w
 ey:y * D = Y * w
 ez:z * D = Z * w
theorem Pq.p2 {k:Nat} {x y w:Int} (P:Pq 2 k [x,y] w) (h:k ≤ 1000):P2 x y w:=⟨(P.bx x (by simp)).mono h,(P.bx y (by simp)).mono h,P.bw.mono h,P.pos⟩
theorem Pq.p3 {k:Nat} {x y z w:Int} (P:Pq 3 k [x,y,z] w) (h:k ≤ 1000):P3 x y z w:=⟨(P.bx x (by simp)).mono h,(P.bx y (by simp)).mono h,(P.bx z (by simp)).mono h,P.bw.mono h,P.pos⟩
def sgP:List PV → Int
 | [.tup [.int x0,.int y0,.int w0],.tup [.int x1,.int y1,.int w1],.tup [.int x2,.int y2,.int w2]]=>sg (D2 x0 y0 w0 x1 y1 w1 x2 y2 w2)
 | [.tup [.int x0,.int y0,.int z0,.int w0],.tup [.int x1,.int y1,.int z1,.int w1],.tup [.int x2,.int y2,.int z2,.int w2],.tup [.int x3,.int y3,.int z3,.int w3]]=>sg (D3 x0 y0 z0 w0 x1 y1 z1 w1 x2 y2 z2 w2 x3 y3 z3 w3)
 | _=>0
theorem amD {n:Nat} (hn:n = 2 ∨ n = 3) {A:PV} {L:List PV} (S:Sto) (hl:L.length = n + 1) (hg:∀ v ∈ L,Gp n 1000 v) (hA:Sv A L):ad1 [.pv A] S = .ok (.pv (.int (sgP L))) S:=by
 rcases hn with rfl | rfl
 ·match L,hl with
  | [P,Q,R],_ =>
   obtain ⟨x0,y0,w0,rfl,p⟩:=(hg P (by simp)).two
   obtain ⟨x1,y1,w1,rfl,q⟩:=(hg Q (by simp)).two
   obtain ⟨x2,y2,w2,rfl,r⟩:=(hg R (by simp)).two
   exact alC S hA p q r
 ·match L,hl with
  | [P,Q,R,T],_ =>
   obtain ⟨x0,y0,z0,w0,rfl,p⟩:=(hg P (by simp)).three
   obtain ⟨x1,y1,z1,w1,rfl,q⟩:=(hg Q (by simp)).three
   obtain ⟨x2,y2,z2,w2,rfl,r⟩:=(hg R (by simp)).three
   obtain ⟨x3,y3,z3,w3,rfl,s⟩:=(hg T (by simp)).three
   exact akW S hA p q r s
theorem aoj (D:Int):sg (-D) = - sg D:=by
 unfold sg
 split <;> split <;> (try split) <;> (try split) <;> omega
theorem R2.self {x y w:Int} (h:0 < w):R2 x y w x y w:=⟨h,h,rfl,rfl⟩
theorem R3.self {x y z w:Int} (h:0 < w):R3 x y z w x y z w:=⟨h,h,rfl,rfl,rfl⟩
abbrev tv (us:List Int):PV:=.tup (us.map .int)
def Gu (n k:Nat) (us:List Int):Prop:=∃ xs w,us = xs ++ [w] ∧ Pq n k xs w
theorem Gu.gp {n k:Nat} {us:List Int} (h:Gu n k us):Gp n k (tv us):=by
 obtain ⟨xs,w,rfl,P⟩:=h
 exact ⟨xs,w,rfl,P⟩
theorem Gu.ne {n k:Nat} {us:List Int} (h:Gu n k us):us ≠ []:=by
 obtain ⟨xs,w,rfl,P⟩:=h
 simp
theorem gps {n k:Nat} {uss:List (List Int)} (h:∀ us ∈ uss,Gu n k us):∀ v ∈ uss.map tv,Gp n k v:=fun v hv=>by
 obtain ⟨us,hu,rfl⟩:=List.mem_map.mp hv
 exact (h us hu).gp
theorem afX:∀ uss:List (List Int),aeB (uss.map tv) = some uss
 | []=>rfl
 | us :: uss=>by
  have ih:=afX uss
  show (match ad5 (us.map .int),aeB (uss.map tv) with | some is,some uss=>some (is :: uss) | _,_=>none) = _
  rw [ih,aev]
theorem agL {uss:List (List Int)} {n:Nat} (hl:uss.length = n) (hp:(aaV uss).Perm (List.range n)):amE (uss.map tv) uss = (abJ uss).map tv:=by
 unfold amE abJ
 rw [List.map_map]
 refine List.map_congr_left fun i hi=>?_
 have h:i < uss.length:=by
  have:=hp.subset hi
  rw [hl]
  simpa using this
 simp [List.getD,h]
theorem afY {A:PV} {uss:List (List Int)} (hl:uss.length = 3 ∨ uss.length = 4) (hA:Sv A (uss.map tv)) (hne:∀ us ∈ uss,us ≠ []):afc [A] = some (.lst ((abJ uss).map tv)):=by
 have e:ai9 (uss.map tv) = some (.lst ((abJ uss).map tv)):=by
  unfold ai9
  rw [afX]
  dsimp only
  rcases hl with h | h
  ·obtain ⟨_,hp,_⟩:=aht h
   rw [if_pos (show anG uss from ⟨by omega,by omega,by rw [h]; exact aou,by rw [hp.length_eq]; simp,hne⟩),agL h hp]
  ·obtain ⟨_,hp,_⟩:=ahF h
   rw [if_pos (show anG uss from ⟨by omega,by omega,by rw [h]; exact apa,by rw [hp.length_eq]; simp,hne⟩),agL h hp]
 rcases hA with rfl | rfl
 ·exact e
 ·exact e
def swl {α:Type}:List α → List α
 | [a,b,c]=>[a,c,b]
 | [a,b,c,d]=>[a,b,d,c]
 | l=>l
theorem ajU {α β:Type} (f:α → β) (l:List α):(swl l).map f = swl (l.map f):=by
 unfold swl
 split
 ·rfl
 ·rfl
 ·rename_i h1 h2
  split
  ·rename_i e
   match l,e with
   | [a,b,c],_=>exact absurd rfl (h1 a b c)
  ·rename_i e
   match l,e with
   | [a,b,c,d],_=>exact absurd rfl (h2 a b c d)
  ·rfl
theorem ald {α:Type} (l:List α):(swl l).Perm l:=by
 unfold swl
 split
 ·exact .cons _ (.swap _ _ _)
 ·exact .cons _ (.cons _ (.swap _ _ _))
 ·exact .refl _
def dU:List (List Int) → Int
 | [[x0,y0,w0],[x1,y1,w1],[x2,y2,w2]]=>D2 x0 y0 w0 x1 y1 w1 x2 y2 w2
 | [[x0,y0,z0,w0],[x1,y1,z1,w1],[x2,y2,z2,w2],[x3,y3,z3,w3]]=>D3 x0 y0 z0 w0 x1 y1 z1 w1 x2 y2 z2 w2 x3 y3 z3 w3
 | _=>0
theorem Gu.two {k:Nat} {us:List Int} (h:Gu 2 k us) (hk:k ≤ 1000):∃ x y w,us = [x,y,w] ∧ P2 x y w:=by
 obtain ⟨xs,w,rfl,P⟩:=h
 match xs,P.len,P with
 | [x,y],_,P=>exact ⟨x,y,w,rfl,P.p2 hk⟩
theorem Gu.three {k:Nat} {us:List Int} (h:Gu 3 k us) (hk:k ≤ 1000):∃ x y z w,us = [x,y,z,w] ∧ P3 x y z w:=by
 obtain ⟨xs,w,rfl,P⟩:=h
 match xs,P.len,P with
 | [x,y,z],_,P=>exact ⟨x,y,z,w,rfl,P.p3 hk⟩
theorem agH {n k:Nat} (hn:n = 2 ∨ n = 3) (hk:k ≤ 1000) {uss:List (List Int)} (hl:uss.length = n + 1) (hg:∀ us ∈ uss,Gu n k us):sgP (uss.map tv) = sg (dU uss):=by
 rcases hn with rfl | rfl
 ·match uss,hl with
  | [a,b,c],_ =>
   obtain ⟨x0,y0,w0,rfl,_⟩:=(hg a (by simp)).two hk
   obtain ⟨x1,y1,w1,rfl,_⟩:=(hg b (by simp)).two hk
   obtain ⟨x2,y2,w2,rfl,_⟩:=(hg c (by simp)).two hk
   rfl
 ·match uss,hl with
  | [a,b,c,d],_ =>
   obtain ⟨x0,y0,z0,w0,rfl,_⟩:=(hg a (by simp)).three hk
   obtain ⟨x1,y1,z1,w1,rfl,_⟩:=(hg b (by simp)).three hk
   obtain ⟨x2,y2,z2,w2,rfl,_⟩:=(hg c (by simp)).three hk
   obtain ⟨x3,y3,z3,w3,rfl,_⟩:=(hg d (by simp)).three hk
   rfl
theorem anW {x0 y0 w0 x1 y1 w1 x2 y2 w2:Int} {p:List Nat} (hp:p ∈ ahj):dU (p.map fun i=>([[x0,y0,w0],[x1,y1,w1],[x2,y2,w2]]:List (List Int)).getD i []) = dU [[x0,y0,w0],[x1,y1,w1],[x2,y2,w2]] ∨ dU (p.map fun i=>([[x0,y0,w0],[x1,y1,w1],[x2,y2,w2]]:List (List Int)).getD i []) = - dU [[x0,y0,w0],[x1,y1,w1],[x2,y2,w2]]:=by
 have hp:p = [0,1,2] ∨ p = [0,2,1] ∨ p = [1,0,2] ∨ p = [1,2,0] ∨ p = [2,0,1] ∨ p = [2,1,0]:=by simpa [ahj] using hp
 rcases hp with rfl | rfl | rfl | rfl | rfl | rfl
 ·left
  show D2 x0 y0 w0 x1 y1 w1 x2 y2 w2 = D2 x0 y0 w0 x1 y1 w1 x2 y2 w2
  unfold D2
  grind
 ·right
  show D2 x0 y0 w0 x2 y2 w2 x1 y1 w1 = -(D2 x0 y0 w0 x1 y1 w1 x2 y2 w2)
  unfold D2
  grind
 ·right
  show D2 x1 y1 w1 x0 y0 w0 x2 y2 w2 = -(D2 x0 y0 w0 x1 y1 w1 x2 y2 w2)
  unfold D2
  grind
 ·left
  show D2 x1 y1 w1 x2 y2 w2 x0 y0 w0 = D2 x0 y0 w0 x1 y1 w1 x2 y2 w2
  unfold D2
  grind
 ·left
  show D2 x2 y2 w2 x0 y0 w0 x1 y1 w1 = D2 x0 y0 w0 x1 y1 w1 x2 y2 w2
  unfold D2
  grind
 ·right
  show D2 x2 y2 w2 x1 y1 w1 x0 y0 w0 = -(D2 x0 y0 w0 x1 y1 w1 x2 y2 w2)
  unfold D2
  grind
theorem aoG {x0 y0 z0 w0 x1 y1 z1 w1 x2 y2 z2 w2 x3 y3 z3 w3:Int} {p:List Nat} (hp:p ∈ ag5):dU (p.map fun i=>([[x0,y0,z0,w0],[x1,y1,z1,w1],[x2,y2,z2,w2],[x3,y3,z3,w3]]:List (List Int)).getD i []) = dU [[x0,y0,z0,w0],[x1,y1,z1,w1],[x2,y2,z2,w2],[x3,y3,z3,w3]] ∨ dU (p.map fun i=>([[x0,y0,z0,w0],[x1,y1,z1,w1],[x2,y2,z2,w2],[x3,y3,z3,w3]]:List (List Int)).getD i []) = - dU [[x0,y0,z0,w0],[x1,y1,z1,w1],[x2,y2,z2,w2],[x3,y3,z3,w3]]:=by
 have hp:p = [0,1,2,3] ∨ p = [0,1,3,2] ∨ p = [0,2,1,3] ∨ p = [0,2,3,1] ∨ p = [0,3,1,2] ∨ p = [0,3,2,1] ∨ p = [1,0,2,3] ∨ p = [1,0,3,2] ∨ p = [1,2,0,3] ∨ p = [1,2,3,0] ∨ p = [1,3,0,2] ∨ p = [1,3,2,0] ∨ p = [2,0,1,3] ∨ p = [2,0,3,1] ∨ p = [2,1,0,3] ∨ p = [2,1,3,0] ∨ p = [2,3,0,1] ∨ p = [2,3,1,0] ∨ p = [3,0,1,2] ∨ p = [3,0,2,1] ∨ p = [3,1,0,2] ∨ p = [3,1,2,0] ∨ p = [3,2,0,1] ∨ p = [3,2,1,0]:=by simpa [ag5] using hp
 rcases hp with rfl | rfl | rfl | rfl | rfl | rfl | rfl | rfl | rfl | rfl | rfl | rfl | rfl | rfl | rfl | rfl | rfl | rfl | rfl | rfl | rfl | rfl | rfl | rfl
 ·left
  show D3 x0 y0 z0 w0 x1 y1 z1 w1 x2 y2 z2 w2 x3 y3 z3 w3 = D3 x0 y0 z0 w0 x1 y1 z1 w1 x2 y2 z2 w2 x3 y3 z3 w3
  unfold D3
  grind
 ·right
  show D3 x0 y0 z0 w0 x1 y1 z1 w1 x3 y3 z3 w3 x2 y2 z2 w2 = -(D3 x0 y0 z0 w0 x1 y1 z1 w1 x2 y2 z2 w2 x3 y3 z3 w3)
  unfold D3
  grind
 ·right
  show D3 x0 y0 z0 w0 x2 y2 z2 w2 x1 y1 z1 w1 x3 y3 z3 w3 = -(D3 x0 y0 z0 w0 x1 y1 z1 w1 x2 y2 z2 w2 x3 y3 z3 w3)
  unfold D3
  grind
 ·left
  show D3 x0 y0 z0 w0 x2 y2 z2 w2 x3 y3 z3 w3 x1 y1 z1 w1 = D3 x0 y0 z0 w0 x1 y1 z1 w1 x2 y2 z2 w2 x3 y3 z3 w3
  unfold D3
  grind
 ·left
  show D3 x0 y0 z0 w0 x3 y3 z3 w3 x1 y1 z1 w1 x2 y2 z2 w2 = D3 x0 y0 z0 w0 x1 y1 z1 w1 x2 y2 z2 w2 x3 y3 z3 w3
  unfold D3
  grind
 ·right
  show D3 x0 y0 z0 w0 x3 y3 z3 w3 x2 y2 z2 w2 x1 y1 z1 w1 = -(D3 x0 y0 z0 w0 x1 y1 z1 w1 x2 y2 z2 w2 x3 y3 z3 w3)
  unfold D3
  grind
 ·right
  show D3 x1 y1 z1 w1 x0 y0 z0 w0 x2 y2 z2 w2 x3 y3 z3 w3 = -(D3 x0 y0 z0 w0 x1 y1 z1 w1 x2 y2 z2 w2 x3 y3 z3 w3)
  unfold D3
  grind
 ·left
  show D3 x1 y1 z1 w1 x0 y0 z0 w0 x3 y3 z3 w3 x2 y2 z2 w2 = D3 x0 y0 z0 w0 x1 y1 z1 w1 x2 y2 z2 w2 x3 y3 z3 w3
  unfold D3
  grind
 ·left
  show D3 x1 y1 z1 w1 x2 y2 z2 w2 x0 y0 z0 w0 x3 y3 z3 w3 = D3 x0 y0 z0 w0 x1 y1 z1 w1 x2 y2 z2 w2 x3 y3 z3 w3
  unfold D3
  grind
 ·right
  show D3 x1 y1 z1 w1 x2 y2 z2 w2 x3 y3 z3 w3 x0 y0 z0 w0 = -(D3 x0 y0 z0 w0 x1 y1 z1 w1 x2 y2 z2 w2 x3 y3 z3 w3)
  unfold D3
  grind
 ·right
  show D3 x1 y1 z1 w1 x3 y3 z3 w3 x0 y0 z0 w0 x2 y2 z2 w2 = -(D3 x0 y0 z0 w0 x1 y1 z1 w1 x2 y2 z2 w2 x3 y3 z3 w3)
  unfold D3
  grind
 ·left
  show D3 x1 y1 z1 w1 x3 y3 z3 w3 x2 y2 z2 w2 x0 y0 z0 w0 = D3 x0 y0 z0 w0 x1 y1 z1 w1 x2 y2 z2 w2 x3 y3 z3 w3
  unfold D3
  grind
 ·left
  show D3 x2 y2 z2 w2 x0 y0 z0 w0 x1 y1 z1 w1 x3 y3 z3 w3 = D3 x0 y0 z0 w0 x1 y1 z1 w1 x2 y2 z2 w2 x3 y3 z3 w3
  unfold D3
  grind
 ·right
  show D3 x2 y2 z2 w2 x0 y0 z0 w0 x3 y3 z3 w3 x1 y1 z1 w1 = -(D3 x0 y0 z0 w0 x1 y1 z1 w1 x2 y2 z2 w2 x3 y3 z3 w3)
  unfold D3
  grind
 ·right
  show D3 x2 y2 z2 w2 x1 y1 z1 w1 x0 y0 z0 w0 x3 y3 z3 w3 = -(D3 x0 y0 z0 w0 x1 y1 z1 w1 x2 y2 z2 w2 x3 y3 z3 w3)
  unfold D3
  grind
 ·left
  show D3 x2 y2 z2 w2 x1 y1 z1 w1 x3 y3 z3 w3 x0 y0 z0 w0 = D3 x0 y0 z0 w0 x1 y1 z1 w1 x2 y2 z2 w2 x3 y3 z3 w3
  unfold D3
  grind
 ·left
  show D3 x2 y2 z2 w2 x3 y3 z3 w3 x0 y0 z0 w0 x1 y1 z1 w1 = D3 x0 y0 z0 w0 x1 y1 z1 w1 x2 y2 z2 w2 x3 y3 z3 w3
  unfold D3
  grind
 ·right
  show D3 x2 y2 z2 w2 x3 y3 z3 w3 x1 y1 z1 w1 x0 y0 z0 w0 = -(D3 x0 y0 z0 w0 x1 y1 z1 w1 x2 y2 z2 w2 x3 y3 z3 w3)
  unfold D3
  grind
 ·right
  show D3 x3 y3 z3 w3 x0 y0 z0 w0 x1 y1 z1 w1 x2 y2 z2 w2 = -(D3 x0 y0 z0 w0 x1 y1 z1 w1 x2 y2 z2 w2 x3 y3 z3 w3)
  unfold D3
  grind
 ·left
  show D3 x3 y3 z3 w3 x0 y0 z0 w0 x2 y2 z2 w2 x1 y1 z1 w1 = D3 x0 y0 z0 w0 x1 y1 z1 w1 x2 y2 z2 w2 x3 y3 z3 w3
  unfold D3
  grind
 ·left
  show D3 x3 y3 z3 w3 x1 y1 z1 w1 x0 y0 z0 w0 x2 y2 z2 w2 = D3 x0 y0 z0 w0 x1 y1 z1 w1 x2 y2 z2 w2 x3 y3 z3 w3
  unfold D3
  grind
 ·right
  show D3 x3 y3 z3 w3 x1 y1 z1 w1 x2 y2 z2 w2 x0 y0 z0 w0 = -(D3 x0 y0 z0 w0 x1 y1 z1 w1 x2 y2 z2 w2 x3 y3 z3 w3)
  unfold D3
  grind
 ·right
  show D3 x3 y3 z3 w3 x2 y2 z2 w2 x0 y0 z0 w0 x1 y1 z1 w1 = -(D3 x0 y0 z0 w0 x1 y1 z1 w1 x2 y2 z2 w2 x3 y3 z3 w3)
  unfold D3
  grind
 ·left
  show D3 x3 y3 z3 w3 x2 y2 z2 w2 x1 y1 z1 w1 x0 y0 z0 w0 = D3 x0 y0 z0 w0 x1 y1 z1 w1 x2 y2 z2 w2 x3 y3 z3 w3
  unfold D3
  grind
theorem ajC {n k:Nat} (hn:n = 2 ∨ n = 3) (hk:k ≤ 1000) {uss:List (List Int)} (hl:uss.length = n + 1) (hg:∀ us ∈ uss,Gu n k us):dU (abJ uss) = dU uss ∨ dU (abJ uss) = - dU uss:=by
 rcases hn with rfl | rfl
 ·obtain ⟨m,hp,_⟩:=aht hl
  unfold abJ
  generalize aaV uss = p at *
  match uss,hl with
  | [a,b,c],_ =>
   obtain ⟨x0,y0,w0,rfl,_⟩:=(hg a (by simp)).two hk
   obtain ⟨x1,y1,w1,rfl,_⟩:=(hg b (by simp)).two hk
   obtain ⟨x2,y2,w2,rfl,_⟩:=(hg c (by simp)).two hk
   exact anW m
 ·obtain ⟨m,hp,_⟩:=ahF hl
  unfold abJ
  generalize aaV uss = p at *
  match uss,hl with
  | [a,b,c,d],_ =>
   obtain ⟨x0,y0,z0,w0,rfl,_⟩:=(hg a (by simp)).three hk
   obtain ⟨x1,y1,z1,w1,rfl,_⟩:=(hg b (by simp)).three hk
   obtain ⟨x2,y2,z2,w2,rfl,_⟩:=(hg c (by simp)).three hk
   obtain ⟨x3,y3,z3,w3,rfl,_⟩:=(hg d (by simp)).three hk
   exact aoG m
theorem alx {n:Nat} (hn:n = 2 ∨ n = 3) {uss:List (List Int)} (hl:uss.length = n + 1):uss.length = 3 ∨ uss.length = 4:=by
 rcases hn with rfl | rfl
 ·exact .inl hl
 ·exact .inr hl
theorem al4 {n:Nat} (hn:n = 2 ∨ n = 3) {uss:List (List Int)} (hl:uss.length = n + 1) (hg:∀ us ∈ uss,Gu n 1000 us):sgP ((abJ uss).map tv) = sgP (uss.map tv) ∨ sgP ((abJ uss).map tv) = - sgP (uss.map tv):=by
 have hp:=(ab8 (alx hn hl)).1
 rw [agH hn (Nat.le_refl 1000) (by rw [hp.length_eq,hl]) (fun us hu=>hg us (hp.subset hu)),agH hn (Nat.le_refl 1000) hl hg]
 rcases ajC hn (Nat.le_refl 1000) hl hg with e | e
 ·exact .inl (by rw [e])
 ·exact .inr (by rw [e,aoj])
theorem aj9 {n:Nat} (hn:n = 2 ∨ n = 3) {A:PV} {L:List PV} (S:Sto) (hl:L.length = n + 1) (hg:∀ v ∈ L,Gp n 1000 v) (hA:Sv A L):∃ d:Int,adm [.pv A] S = .ok (.pv (.int d)) S ∧ sg d = sgP L:=by
 rcases hn with rfl | rfl
 ·match L,hl with
  | [P,Q,R],_ =>
   obtain ⟨x0,y0,w0,rfl,p⟩:=(hg P (by simp)).two
   obtain ⟨x1,y1,w1,rfl,q⟩:=(hg Q (by simp)).two
   obtain ⟨x2,y2,w2,rfl,r⟩:=(hg R (by simp)).two
   exact ⟨_,al6 S hA p q r,ah3 p.pos⟩
 ·match L,hl with
  | [P,Q,R,T],_ =>
   obtain ⟨x0,y0,z0,w0,rfl,p⟩:=(hg P (by simp)).three
   obtain ⟨x1,y1,z1,w1,rfl,q⟩:=(hg Q (by simp)).three
   obtain ⟨x2,y2,z2,w2,rfl,r⟩:=(hg R (by simp)).three
   obtain ⟨x3,y3,z3,w3,rfl,s⟩:=(hg T (by simp)).three
   exact ⟨_,alM S hA p q r s,ah3 (Int.mul_pos p.pos p.pos)⟩
def cnr (uss:List (List Int)):List (List Int):=if sgP ((abJ uss).map tv) < 0 then swl (abJ uss) else abJ uss
theorem aoH {n:Nat} (hn:n = 2 ∨ n = 3) {L:List PV} (hl:L.length = n + 1):∃ a b M,fSl (.lst L) none (some (-2)) = some (.lst M) ∧ fIx (.lst L) (.int (-1)) = some a ∧ fIx (.lst L) (.int (-2)) = some b ∧ fAdd (.lst M) (.lst [a,b]) = some (.lst (swl L)):=by
 rcases hn with rfl | rfl
 ·match L,hl with
  | [P,Q,R],_=>exact ⟨R,Q,[P],rfl,rfl,rfl,rfl⟩
 ·match L,hl with
  | [P,Q,R,T],_=>exact ⟨T,R,[P,Q],rfl,rfl,rfl,rfl⟩
theorem adQ {n:Nat} (hn:n = 2 ∨ n = 3) {A:PV} {uss:List (List Int)} (S:Sto) (hl:uss.length = n + 1) (hg:∀ us ∈ uss,Gu n 1000 us) (hA:Sv A (uss.map tv)):aba [.pv A] S = .ok (.pv (.tup ((cnr uss).map tv))) S:=by
 have h34:uss.length = 3 ∨ uss.length = 4:=by omega
 have e1:=afY h34 hA fun us hu=>(hg us hu).ne
 obtain ⟨pm,_⟩:=ab8 h34
 have hl2:((abJ uss).map tv).length = n + 1:=by rw [List.length_map,pm.length_eq]; exact hl
 have hg2:∀ v ∈ (abJ uss).map tv,Gp n 1000 v:=gps fun us hu=>hg us (pm.subset hu)
 obtain ⟨d,e2,hd⟩:=aj9 (A:=.lst ((abJ uss).map tv)) hn S hl2 hg2 (.inl rfl)
 obtain ⟨a,b,M,t1,t2,t3,t4⟩:=aoH hn hl2
 unfold cnr
 have hlt:d < 0 ↔ sgP ((abJ uss).map tv) < 0:=by
  rw [← hd]
  unfold sg
  split
  ·omega
  ·split <;> omega
 by_cases h:d < 0
 ·rw [if_pos (hlt.mp h),ajU]
  generalize (abJ uss).map tv = L at *
  unfold aba fnM adu
  simp [aak,sSeq,sIf,mTst,mNot,mAnd,mOr,aaE,mOrV,mIf,mBin,mUn,mR,mN,aab,mVar,mC,mNil,Res.bind,aaG,aaA,aaD,aaH,aax,rd,aaB,okO,fLen,fAbs,aam,aal,fTup,fLst,fEq,fNe,abf,aap,aaq,aas,aar,fNeg,fNot,tst,SRes.of,sRet,aaM,sNil,aat,sSet,aan,aaF,aae,aaC,aao,frz,aaJ,e1,e2,h,mSl,mO0,mO1,abY,t1,t2,t3,t4]
 ·rw [if_neg (fun z=>h (hlt.mpr z))]
  generalize (abJ uss).map tv = L at *
  unfold aba fnM adu
  simp [aak,sSeq,sIf,mTst,mNot,mAnd,mOr,aaE,mOrV,mIf,mBin,mUn,mR,mN,aab,mVar,mC,mNil,Res.bind,aaG,aaA,aaD,aaH,aax,rd,aaB,okO,fLen,fAbs,aam,aal,fTup,fLst,fEq,fNe,abf,aap,aaq,aas,aar,fNeg,fNot,tst,SRes.of,sRet,aaM,sNil,aat,sSet,aan,aaF,aae,aaC,aao,frz,aaJ,e1,e2,h]
theorem ajo {n:Nat} (hn:n = 2 ∨ n = 3) {A:PV} {uss:List (List Int)} (S:Sto) (hl:uss.length = n + 1) (hg:∀ us ∈ uss,Gu n 1000 us) (hA:Sv A (uss.map tv)) (h0:sgP (uss.map tv) ≠ 0):ab6 [.pv A] S = .ok (.pv (.tup ((cnr uss).map tv))) S:=by
 have h34:uss.length = 3 ∨ uss.length = 4:=by omega
 have e1:=afY h34 hA fun us hu=>(hg us hu).ne
 obtain ⟨pm,_⟩:=ab8 h34
 have hl2:((abJ uss).map tv).length = n + 1:=by rw [List.length_map,pm.length_eq]; exact hl
 have hg2:∀ v ∈ (abJ uss).map tv,Gp n 1000 v:=gps fun us hu=>hg us (pm.subset hu)
 have e2:=amD (A:=.lst ((abJ uss).map tv)) hn S hl2 hg2 (.inl rfl)
 have h1:sgP ((abJ uss).map tv) ≠ 0:=by rcases al4 hn hl hg with e | e <;> omega
 obtain ⟨a,b,M,t1,t2,t3,t4⟩:=aoH hn hl2
 unfold cnr
 by_cases h:sgP ((abJ uss).map tv) < 0
 ·rw [if_pos h,ajU]
  generalize (abJ uss).map tv = L at *
  generalize sgP L = D at *
  unfold ab6 fnM acQ
  simp [aak,sSeq,sIf,mTst,mNot,mAnd,mOr,aaE,mOrV,mIf,mBin,mUn,mR,mN,aab,mVar,mC,mNil,Res.bind,aaG,aaA,aaD,aaH,aax,rd,aaB,okO,fLen,fAbs,aam,aal,fTup,fLst,fEq,fNe,abf,aap,aaq,aas,aar,fNeg,fNot,tst,SRes.of,sRet,aaM,sNil,aat,sSet,aan,aaF,aae,aaC,aao,frz,aaJ,e1,e2,h,h1,mSl,mO0,mO1,abY,t1,t2,t3,t4]
 ·rw [if_neg h]
  generalize (abJ uss).map tv = L at *
  generalize sgP L = D at *
  unfold ab6 fnM acQ
  simp [aak,sSeq,sIf,mTst,mNot,mAnd,mOr,aaE,mOrV,mIf,mBin,mUn,mR,mN,aab,mVar,mC,mNil,Res.bind,aaG,aaA,aaD,aaH,aax,rd,aaB,okO,fLen,fAbs,aam,aal,fTup,fLst,fEq,fNe,abf,aap,aaq,aas,aar,fNeg,fNot,tst,SRes.of,sRet,aaM,sNil,aat,sSet,aan,aaF,aae,aaC,aao,frz,aaJ,e1,e2,h,h1]
theorem ah5 {uss:List (List Int)} (h:uss.length = 3 ∨ uss.length = 4):(cnr uss).Perm uss:=by
 obtain ⟨pm,_⟩:=ab8 h
 unfold cnr
 split
 ·exact (ald _).trans pm
 ·exact pm
theorem amX {uss:List (List Int)} (h:uss.length = 3 ∨ uss.length = 4):cnr (cnr uss) = cnr uss:=by
 have e:=af4 (ah5 h) h
 unfold cnr at e ⊢
 rw [e]
theorem ao3 {S:Sto} {k j:Nat} {xs:List PV} {v:PV} (hS:S[k]? = some (.lst xs)) (hv:xs[j]? = some v) (hj:j < 1000):akK k [.pv (.int (j:Int))] S = .ok (.pv v) (S.set k (.lst (xs.eraseIdx j))):=by
 have hl:=(List.getElem?_eq_some_iff.mp hv).1
 have e:seqIndex? (j:Int) xs.length = some j:=by
  unfold seqIndex?
  have h1:¬ ((j:Int) < 0):=by omega
  have h2:(decide (0 ≤ (j:Int)) && decide ((j:Int) < (xs.length:Int))) = true:=by
   simp only [Bool.and_eq_true,decide_eq_true_eq]
   omega
  simp only [h1,if_false]
  rw [if_pos h2,Int.toNat_natCast]
 unfold akK
 dsimp only
 rw [if_pos ⟨by omega,by omega⟩,hS]
 dsimp only
 rw [e]
 dsimp only
 rw [hv]
def wU:List (List Int) → Int
 | []=>1
 | us :: r=>us.getLastD 0 * wU r
theorem Gu.mono {n k l:Nat} {us:List Int} (h:Gu n k us) (hl:k ≤ l):Gu n l us:=by
 obtain ⟨xs,w,e,P⟩:=h
 exact ⟨xs,w,e,P.mono hl⟩
theorem akv {d:Int}:sg d = 0 ↔ d = 0:=by
 unfold sg
 split
 ·omega
 ·split <;> omega
theorem an0 {d:Int}:sg d < 0 ↔ d < 0:=by
 unfold sg
 split
 ·omega
 ·split <;> omega
theorem aoM {n k:Nat} (hn:n = 2 ∨ n = 3) (hk:k ≤ 1000) {uss:List (List Int)} (hl:uss.length = n + 1) (hg:∀ us ∈ uss,Gu n k us):dU (swl uss) = - dU uss:=by
 rcases hn with rfl | rfl
 ·match uss,hl with
  | [a,b,c],_ =>
   obtain ⟨x0,y0,w0,rfl,_⟩:=(hg a (by simp)).two hk
   obtain ⟨x1,y1,w1,rfl,_⟩:=(hg b (by simp)).two hk
   obtain ⟨x2,y2,w2,rfl,_⟩:=(hg c (by simp)).two hk
   show D2 x0 y0 w0 x2 y2 w2 x1 y1 w1 = -(D2 x0 y0 w0 x1 y1 w1 x2 y2 w2)
   unfold D2
   grind
 ·match uss,hl with
  | [a,b,c,d],_ =>
   obtain ⟨x0,y0,z0,w0,rfl,_⟩:=(hg a (by simp)).three hk
   obtain ⟨x1,y1,z1,w1,rfl,_⟩:=(hg b (by simp)).three hk
   obtain ⟨x2,y2,z2,w2,rfl,_⟩:=(hg c (by simp)).three hk
   obtain ⟨x3,y3,z3,w3,rfl,_⟩:=(hg d (by simp)).three hk
   show D3 x0 y0 z0 w0 x1 y1 z1 w1 x3 y3 z3 w3 x2 y2 z2 w2 = -(D3 x0 y0 z0 w0 x1 y1 z1 w1 x2 y2 z2 w2 x3 y3 z3 w3)
   unfold D3
   grind
theorem aoL {n k:Nat} (hn:n = 2 ∨ n = 3) (hk:k ≤ 1000) {uss:List (List Int)} (hl:uss.length = n + 1) (hg:∀ us ∈ uss,Gu n k us):dU (cnr uss) = ((dU uss).natAbs:Int):=by
 have hp:=(ab8 (alx hn hl)).1
 have gs:∀ us ∈ abJ uss,Gu n k us:=fun us hu=>hg us (hp.subset hu)
 have ls:(abJ uss).length = n + 1:=by rw [hp.length_eq,hl]
 have e:=ajC hn hk hl hg
 have s:=aoM hn hk ls gs
 have q:=agH hn hk ls gs
 unfold cnr
 split
 ·rename_i h
  rw [q,an0] at h
  rw [s]
  omega
 ·rename_i h
  rw [q,an0] at h
  omega
theorem ahn {n k:Nat}:∀ {uss:List (List Int)},(∀ us ∈ uss,Gu n k us) → 0 < wU uss
 | [],_=>by decide
 | us :: r,h=>by
  unfold wU
  obtain ⟨xs,w,rfl,P⟩:=h us List.mem_cons_self
  refine Int.mul_pos ?_ (ahn fun u hu=>h u (List.mem_cons_of_mem _ hu))
  rw [show (xs ++ [w]).getLastD 0 = w by simp]
  exact P.pos
structure Sx (n k:Nat) (uss:List (List Int)):Prop where
 len:uss.length = n + 1
 gu:∀ us ∈ uss,Gu n k us
 nz:dU uss ≠ 0
 cn:cnr uss = uss
abbrev px (uss:List (List Int)):PV:=.tup (uss.map tv)
theorem an3 {n k:Nat} (hn:n = 2 ∨ n = 3) (hk:k ≤ 1000) {uss:List (List Int)} (hl:uss.length = n + 1) (hg:∀ us ∈ uss,Gu n k us) (nz:dU uss ≠ 0):Sx n k (cnr uss):=by
 have hp:=ah5 (alx hn hl)
 refine ⟨by rw [hp.length_eq,hl],fun us hu=>hg us (hp.subset hu),?_,amX (alx hn hl)⟩
 rw [aoL hn hk hl hg]
 omega
def AffU (n:Nat) (A C:Nat → Int) (E:Int) (us us':List Int):Prop:=∃ xs w xs' w',us = xs ++ [w] ∧ us' = xs' ++ [w'] ∧ xs.length = n ∧ xs'.length = n ∧ 0 < w ∧ 0 < w' ∧ ∀ j,j < n → xs'.getD j 0 * (E * w) = (A j * xs.getD j 0 + C j * w) * w'
theorem AffU.two {A C:Nat → Int} {E:Int} {us us':List Int} (h:AffU 2 A C E us us'):∃ x y w x' y' w',us = [x,y,w] ∧ us' = [x',y',w'] ∧ x' * (E * w) = (A 0 * x + C 0 * w) * w' ∧ y' * (E * w) = (A 1 * y + C 1 * w) * w':=by
 obtain ⟨xs,w,xs',w',rfl,rfl,l,l',_,_,h⟩:=h
 match xs,l,xs',l',h with
 | [x,y],_,[x',y'],_,h=>exact ⟨x,y,w,x',y',w',rfl,rfl,h 0 (by decide),h 1 (by decide)⟩
theorem AffU.three {A C:Nat → Int} {E:Int} {us us':List Int} (h:AffU 3 A C E us us'):∃ x y z w x' y' z' w',us = [x,y,z,w] ∧ us' = [x',y',z',w'] ∧ x' * (E * w) = (A 0 * x + C 0 * w) * w' ∧ y' * (E * w) = (A 1 * y + C 1 * w) * w' ∧ z' * (E * w) = (A 2 * z + C 2 * w) * w':=by
 obtain ⟨xs,w,xs',w',rfl,rfl,l,l',_,_,h⟩:=h
 match xs,l,xs',l',h with
 | [x,y,z],_,[x',y',z'],_,h=>exact ⟨x,y,z,w,x',y',z',w',rfl,rfl,h 0 (by decide),h 1 (by decide),h 2 (by decide)⟩
theorem ap6 (a b c d E x0 y0 w0 x1 y1 w1 x2 y2 w2:Int):D2 (a * x0 + c * w0) (b * y0 + d * w0) (E * w0) (a * x1 + c * w1) (b * y1 + d * w1) (E * w1) (a * x2 + c * w2) (b * y2 + d * w2) (E * w2) = a * b * E * D2 x0 y0 w0 x1 y1 w1 x2 y2 w2:=by
 unfold D2
 grind
theorem apR (a b p c d e E x0 y0 z0 w0 x1 y1 z1 w1 x2 y2 z2 w2 x3 y3 z3 w3:Int):D3 (a * x0 + c * w0) (b * y0 + d * w0) (p * z0 + e * w0) (E * w0) (a * x1 + c * w1) (b * y1 + d * w1) (p * z1 + e * w1) (E * w1) (a * x2 + c * w2) (b * y2 + d * w2) (p * z2 + e * w2) (E * w2) (a * x3 + c * w3) (b * y3 + d * w3) (p * z3 + e * w3) (E * w3) = a * b * p * E * D3 x0 y0 z0 w0 x1 y1 z1 w1 x2 y2 z2 w2 x3 y3 z3 w3:=by
 unfold D3
 grind
theorem cm (a b:Int) {c:Int} (h:a * b = c):b * a = c:=by rw [Int.mul_comm]; exact h
theorem vol2 {A C:Nat → Int} {E:Int} {P Q R P' Q' R':List Int} (h0:AffU 2 A C E P P') (h1:AffU 2 A C E Q Q') (h2:AffU 2 A C E R R'):dU [P',Q',R'] * (E * E * E * wU [P,Q,R]) = A 0 * A 1 * E * dU [P,Q,R] * wU [P',Q',R']:=by
 obtain ⟨x0,y0,w0,X0,Y0,W0,rfl,rfl,p,q⟩:=h0.two
 obtain ⟨x1,y1,w1,X1,Y1,W1,rfl,rfl,p1,q1⟩:=h1.two
 obtain ⟨x2,y2,w2,X2,Y2,W2,rfl,rfl,p2,q2⟩:=h2.two
 have e:=aiq (E * w0) (E * w1) (E * w2) X0 Y0 W0 X1 Y1 W1 X2 Y2 W2
 have f:=aiq W0 W1 W2 (A 0 * x0 + C 0 * w0) (A 1 * y0 + C 1 * w0) (E * w0) (A 0 * x1 + C 0 * w1) (A 1 * y1 + C 1 * w1) (E * w1) (A 0 * x2 + C 0 * w2) (A 1 * y2 + C 1 * w2) (E * w2)
 rw [ap6] at f
 rw [cm _ _ p,cm _ _ q,cm _ _ p1,cm _ _ q1,cm _ _ p2,cm _ _ q2,Int.mul_comm _ W0,Int.mul_comm _ W0,Int.mul_comm _ W0,Int.mul_comm _ W1,Int.mul_comm _ W1,Int.mul_comm _ W1,Int.mul_comm _ W2,Int.mul_comm _ W2,Int.mul_comm _ W2] at e
 have g:=e.symm.trans f
 show D2 X0 Y0 W0 X1 Y1 W1 X2 Y2 W2 * (E * E * E * (w0 * (w1 * (w2 * 1)))) = A 0 * A 1 * E * D2 x0 y0 w0 x1 y1 w1 x2 y2 w2 * (W0 * (W1 * (W2 * 1)))
 generalize D2 X0 Y0 W0 X1 Y1 W1 X2 Y2 W2 = d at g ⊢
 generalize D2 x0 y0 w0 x1 y1 w1 x2 y2 w2 = d' at g ⊢
 clear e f p q p1 q1 p2 q2 h0 h1 h2
 grind
theorem vol3 {A C:Nat → Int} {E:Int} {P Q R T P' Q' R' T':List Int} (h0:AffU 3 A C E P P') (h1:AffU 3 A C E Q Q') (h2:AffU 3 A C E R R') (h3:AffU 3 A C E T T'):dU [P',Q',R',T'] * (E * E * E * E * wU [P,Q,R,T]) = A 0 * A 1 * A 2 * E * dU [P,Q,R,T] * wU [P',Q',R',T']:=by
 obtain ⟨x0,y0,z0,w0,X0,Y0,Z0,W0,rfl,rfl,p,q,r⟩:=h0.three
 obtain ⟨x1,y1,z1,w1,X1,Y1,Z1,W1,rfl,rfl,p1,q1,r1⟩:=h1.three
 obtain ⟨x2,y2,z2,w2,X2,Y2,Z2,W2,rfl,rfl,p2,q2,r2⟩:=h2.three
 obtain ⟨x3,y3,z3,w3,X3,Y3,Z3,W3,rfl,rfl,p3,q3,r3⟩:=h3.three
 have e:=air (E * w0) (E * w1) (E * w2) (E * w3) X0 Y0 Z0 W0 X1 Y1 Z1 W1 X2 Y2 Z2 W2 X3 Y3 Z3 W3
 have f:=air W0 W1 W2 W3 (A 0 * x0 + C 0 * w0) (A 1 * y0 + C 1 * w0) (A 2 * z0 + C 2 * w0) (E * w0) (A 0 * x1 + C 0 * w1) (A 1 * y1 + C 1 * w1) (A 2 * z1 + C 2 * w1) (E * w1) (A 0 * x2 + C 0 * w2) (A 1 * y2 + C 1 * w2) (A 2 * z2 + C 2 * w2) (E * w2) (A 0 * x3 + C 0 * w3) (A 1 * y3 + C 1 * w3) (A 2 * z3 + C 2 * w3) (E * w3)
 rw [apR] at f
 rw [cm _ _ p,cm _ _ q,cm _ _ r,cm _ _ p1,cm _ _ q1,cm _ _ r1,cm _ _ p2,cm _ _ q2,cm _ _ r2,cm _ _ p3,cm _ _ q3,cm _ _ r3] at e
 have cW:∀ a W:Int,a * W = W * a:=Int.mul_comm
 rw [cW _ W0,cW _ W0,cW _ W0,cW _ W0,cW _ W1,cW _ W1,cW _ W1,cW _ W1,cW _ W2,cW _ W2,cW _ W2,cW _ W2,cW _ W3,cW _ W3,cW _ W3,cW _ W3] at e
 have g:=e.symm.trans f
 show D3 X0 Y0 Z0 W0 X1 Y1 Z1 W1 X2 Y2 Z2 W2 X3 Y3 Z3 W3 * (E * E * E * E * (w0 * (w1 * (w2 * (w3 * 1))))) = A 0 * A 1 * A 2 * E * D3 x0 y0 z0 w0 x1 y1 z1 w1 x2 y2 z2 w2 x3 y3 z3 w3 * (W0 * (W1 * (W2 * (W3 * 1))))
 generalize D3 X0 Y0 Z0 W0 X1 Y1 Z1 W1 X2 Y2 Z2 W2 X3 Y3 Z3 W3 = d at g ⊢
 generalize D3 x0 y0 z0 w0 x1 y1 z1 w1 x2 y2 z2 w2 x3 y3 z3 w3 = d' at g ⊢
 clear e f p q r p1 q1 r1 p2 q2 r2 p3 q3 r3 h0 h1 h2 h3 cW
 grind
def mvU (way:Int) (f us:List Int):List Int:=mv way us.dropLast (us.getLastD 0) f.dropLast (f.getLastD 0)
theorem akb (way:Int) (xs:List Int) (w:Int) (ys:List Int) (v:Int):mvU way (ys ++ [v]) (xs ++ [w]) = mv way xs w ys v:=by
 unfold mvU
 simp
theorem adj {n k l:Nat} {way:Int} {us f:List Int} (hway:way = 1 ∨ way = -1) (h:Gu n k us) (g:Gu n l f):Gu n (k + l + 1) (mvU way f us) ∧ AffU n (fun _=>way * f.getLastD 0) (fun j=>f.getD j 0) (f.getLastD 0) us (mvU way f us):=by
 obtain ⟨xs,w,rfl,P⟩:=h
 obtain ⟨ys,v,rfl,Q⟩:=g
 rw [akb]
 obtain ⟨zs,z,e,Z,hv⟩:=apD hway P Q
 rw [e]
 refine ⟨⟨zs,z,rfl,Z⟩,xs,w,zs,z,rfl,rfl,P.len,Z.len,P.pos,Z.pos,fun j hj=>?_⟩
 have a:=hv _ _ _ _ (Vl.self n xs w) (Vl.self n ys v) P.pos Q.pos j hj
 rw [show (ys ++ [v]).getLastD 0 = v by simp]
 have eg:(ys ++ [v]).getD j 0 = ys.getD j 0:=by
  have:j < ys.length:=by rw [Q.len]; exact hj
  simp [List.getD,List.getElem?_append_left this]
 dsimp only at a ⊢
 rw [eg]
 generalize ys.getD j 0 = y at a ⊢
 generalize xs.getD j 0 = x at a ⊢
 generalize zs.getD j 0 = t at a ⊢
 rw [Int.mul_comm v w,a]
 grind
theorem agh {n k l:Nat} {way:Int} {us f:List Int} (S:Sto) (hn:n = 2 ∨ n = 3) (hway:way = 1 ∨ way = -1) (h:Gu n k us) (g:Gu n l f) (hk:k ≤ 1000) (hl:l ≤ 1000):abe [.pv (tv us),.pv (tv f),.pv (.int way)] S = .ok (.pv (tv (mvU way f us))) S:=by
 obtain ⟨xs,w,rfl,P⟩:=h
 obtain ⟨ys,v,rfl,Q⟩:=g
 rw [akb]
 exact amB S hn hway P Q hk hl
theorem akp {a b w v:Int} (hw:0 < w) (hv:0 < v) (h:a * w = b * v ∨ a * w = -(b * v)):(a.natAbs:Int) * w = (b.natAbs:Int) * v:=by
 have e:(a * w).natAbs = (b * v).natAbs:=by
  rcases h with h | h
  ·rw [h]
  ·rw [h,Int.natAbs_neg]
 rw [Int.natAbs_mul,Int.natAbs_mul] at e
 have e1:((w.natAbs:Nat):Int) = w:=by omega
 have e2:((v.natAbs:Nat):Int) = v:=by omega
 have e3:((a.natAbs * w.natAbs:Nat):Int) = ((b.natAbs * v.natAbs:Nat):Int):=by rw [e]
 rw [Int.natCast_mul,Int.natCast_mul,e1,e2] at e3
 exact e3
theorem can2 {v d d' w w':Int} {way:Int} (hv:0 < v) (hway:way = 1 ∨ way = -1) (h:d' * (v * v * v * w) = way * v * (way * v) * v * d * w'):d' * w = d * w':=by
 have e:(d' * w) * (v * v * v) = (d * w') * (v * v * v):=by rcases hway with rfl | rfl <;> grind
 exact ahX (Int.mul_pos (Int.mul_pos hv hv) hv) e
theorem can3 {v d d' w w':Int} {way:Int} (hv:0 < v) (hway:way = 1 ∨ way = -1) (h:d' * (v * v * v * v * w) = way * v * (way * v) * (way * v) * v * d * w'):d' * w = d * w' ∨ d' * w = -(d * w'):=by
 have p:=Int.mul_pos (Int.mul_pos (Int.mul_pos hv hv) hv) hv
 rcases hway with rfl | rfl
 ·left
  have e:(d' * w) * (v * v * v * v) = (d * w') * (v * v * v * v):=by grind
  exact ahX p e
 ·right
  have e:(d' * w) * (v * v * v * v) = (-(d * w')) * (v * v * v * v):=by grind
  exact ahX p e
theorem akk {n k l:Nat} {way:Int} {f:List Int} {uss:List (List Int)} (hway:way = 1 ∨ way = -1) (hg:∀ us ∈ uss,Gu n k us) (g:Gu n l f):∀ us ∈ uss.map (mvU way f),Gu n (k + l + 1) us:=fun us hu=>by
 obtain ⟨u,hm,rfl⟩:=List.mem_map.mp hu
 exact (adj hway (hg u hm) g).1
theorem Gu.lastpos {n k:Nat} {f:List Int} (h:Gu n k f):0 < f.getLastD 0:=by
 obtain ⟨xs,w,rfl,P⟩:=h
 rw [show (xs ++ [w]).getLastD 0 = w by simp]
 exact P.pos
theorem aoz {n k l:Nat} (hn:n = 2 ∨ n = 3) {way:Int} {f:List Int} {uss:List (List Int)} (hway:way = 1 ∨ way = -1) (hl:uss.length = n + 1) (hg:∀ us ∈ uss,Gu n k us) (g:Gu n l f):((dU (uss.map (mvU way f))).natAbs:Int) * wU uss = ((dU uss).natAbs:Int) * wU (uss.map (mvU way f)):=by
 have hv:=g.lastpos
 have p1:=ahn hg
 have p2:=ahn (akk hway hg g)
 refine akp p1 p2 ?_
 rcases hn with rfl | rfl
 ·match uss,hl,hg with
  | [a,b,c],_,hg =>
   have e:=vol2 (adj hway (hg a (by simp)) g).2 (adj hway (hg b (by simp)) g).2 (adj hway (hg c (by simp)) g).2
   exact .inl (can2 hv hway e)
 ·match uss,hl,hg with
  | [a,b,c,d],_,hg =>
   have e:=vol3 (adj hway (hg a (by simp)) g).2 (adj hway (hg b (by simp)) g).2 (adj hway (hg c (by simp)) g).2 (adj hway (hg d (by simp)) g).2
   exact can3 hv hway e
theorem apC {n k l:Nat} (hn:n = 2 ∨ n = 3) {way:Int} {f:List Int} {uss:List (List Int)} (hway:way = 1 ∨ way = -1) (hl:uss.length = n + 1) (hg:∀ us ∈ uss,Gu n k us) (g:Gu n l f) (h:dU uss ≠ 0):dU (uss.map (mvU way f)) ≠ 0:=fun z=>by
 have e:=aoz hn hway hl hg g
 rw [z] at e
 have p2:=ahn (akk hway hg g)
 have:((dU uss).natAbs:Int) * wU (uss.map (mvU way f)) ≠ 0:=Int.mul_ne_zero (by omega) (Int.ne_of_gt p2)
 exact this (by rw [← e]; simp)
theorem ae4 {G:Gd} {S:Sto} (hG:gOk G S) {me:ME} {tail:Rho} {α:Type} (A B:α → PV):∀ (L:List α) (x:Option AV),(∀ v ∈ L,me (some (.pv (A v)) :: tail) S = .ok (.pv (B v)) S) → aa9 G (gN 0) me (L.map A) (x :: tail) S = .ok (L.map B) S
 | [],x,_=>ak2 hG
 | v :: L,x,h=>by
  have e:=h v List.mem_cons_self
  have e':=ae4 hG A B L (some (.pv (A v))) fun u hu=>h u (List.mem_cons_of_mem _ hu)
  rw [List.map_cons,am0 hG]
  simp [gN,e,e']
theorem Gu.two' {k:Nat} {us:List Int} (h:Gu 2 k us):∃ x y w,us = [x,y,w] ∧ 0 < w ∧ Bd k x ∧ Bd k y ∧ Bd k w:=by
 obtain ⟨xs,w,rfl,P⟩:=h
 match xs,P.len,P with
 | [x,y],_,P=>exact ⟨x,y,w,rfl,P.pos,P.bx x (by simp),P.bx y (by simp),P.bw⟩
theorem Gu.three' {k:Nat} {us:List Int} (h:Gu 3 k us):∃ x y z w,us = [x,y,z,w] ∧ 0 < w ∧ Bd k x ∧ Bd k y ∧ Bd k z ∧ Bd k w:=by
 obtain ⟨xs,w,rfl,P⟩:=h
 match xs,P.len,P with
 | [x,y,z],_,P=>exact ⟨x,y,z,w,rfl,P.pos,P.bx x (by simp),P.bx y (by simp),P.bx z (by simp),P.bw⟩
theorem mk {k l:Nat} {a b:Int} (h:Bd k a) (g:Bd l b) (hk:k ≤ 100000) (hl:l ≤ 100000):fMul (.int a) (.int b) = some (.int (a * b)):=acL (.inr ⟨h.mono (by omega),g.mono (by omega)⟩)
abbrev fv (u:Int × Int):PV:=.tup [.int u.1,.int u.2]
structure Fq (k:Nat) (u:Int × Int):Prop where
 pos:0 < u.2
 b1:Bd k u.1
 b2:Bd k u.2
 lo:Int.gcd u.1 u.2 = 1
theorem Fq.mono {k l:Nat} {u:Int × Int} (h:Fq k u) (hl:k ≤ l):Fq l u:=⟨h.pos,h.b1.mono hl,h.b2.mono hl,h.lo⟩
theorem afS {n:Nat} (S:Sto):∀ (L:List PV) (x:Option AV),(∀ v ∈ L,Gp n 1000 v) → aa9 [] (gN 0) (aae aby [] (aab (mVar 0) (aab (mVar 1) mNil))) L [x,some (.pv (.int n))] S = .ok (L.map fun _=>.bl true) S
 | [],x,_=>aaR
 | v :: L,x,h=>by
  have ih:=afS (n:=n) S L (some (.pv v)) fun u hu=>h u (List.mem_cons_of_mem _ hu)
  obtain ⟨xs,w,rfl,P⟩:=h v List.mem_cons_self
  have e:=alW S (by decide) P
  rw [aaP]
  generalize (xs ++ [w]).map PV.int = XL at *
  generalize (n:Int) = N at *
  simp [gN,aak,sSeq,sIf,mTst,mNot,mAnd,mOr,aaE,mOrV,mIf,mBin,mUn,mR,mN,aab,mVar,mC,mNil,Res.bind,aaG,aaA,aaD,aaH,aax,rd,aaB,okO,fLen,fAbs,aam,aal,fTup,fLst,fIx,atI,ixN,fEq,fNe,eqN,aap,aaq,aas,aar,fAdd,aaj,fNeg,fNot,tst,SRes.of,sRet,aaM,sNil,aat,sSet,aan,aaF,aae,aaC,aao,frz,aaJ,e,ih]
theorem ag8:∀ L:List PV,fAll [.lst (L.map fun _=>.bl true)] = some (.bl true):=fun L=>by
 have e:afu (L.map fun _=>PV.bl true) = some (L.map fun _=>true):=by
  induction L with
  | nil=>rfl
  | cons v L ih =>
   show (match afu (L.map fun _=>PV.bl true) with | some bs=>some (true :: bs) | none=>none) = _
   rw [ih]
   rfl
 simp only [fAll,e,Option.map_some]
 simp
theorem alE {n:Nat} (hn:n = 2 ∨ n = 3) {uss:List (List Int)} (S:Sto) (hl:uss.length = n + 1) (hg:∀ us ∈ uss,Gu n 1000 us) (h0:sgP (uss.map tv) ≠ 0) (hc:cnr uss = uss):abi [.pv (.tup (uss.map tv)),.pv (.int n)] S = .ok (.pv (.bl true)) S:=by
 have gp:=gps hg
 have hl2:(uss.map tv).length = n + 1:=by rw [List.length_map]; exact hl
 have ec:=afS S (uss.map tv) none gp
 have ea:=ag8 (uss.map tv)
 obtain ⟨d,e2,hd⟩:=aj9 (A:=.tup (uss.map tv)) hn S hl2 gp (.inr rfl)
 have hd0:d ≠ 0:=fun z=>h0 (by rw [← hd,z]; rfl)
 have hdb:(d == 0) = false:=by simpa using hd0
 have e3:=adQ (A:=.tup (uss.map tv)) hn S hl hg (.inr rfl)
 rw [hc] at e3
 have q:eqN 8 (.tup (uss.map tv)) (.tup (uss.map tv)) = some true:=agf fun v hv=>amn (m:=6) (gp v hv)
 have a3:fAdd (.int (n:Int)) (.int 1) = some (.int ((uss.map tv).length:Nat)):=by rw [fAdd,hl2]; rfl
 generalize uss.map tv = L at *
 generalize L.map (fun _=>PV.bl true) = BL at *
 unfold abi fnM aco
 generalize (n:Int) = N at *
 simp [aak,sSeq,sIf,mTst,mNot,mAnd,mOr,aaE,mOrV,mIf,mBin,mUn,mR,mN,aab,mVar,mC,mNil,Res.bind,aaG,aaA,aaD,aaH,aax,rd,aaB,okO,fLen,fAbs,aam,aal,fTup,fLst,fEq,fNe,abf,aap,aaq,aas,aar,fNeg,fNot,tst,SRes.of,sRet,aaM,sNil,aat,sSet,aan,aaF,aae,aaC,aao,frz,aaJ,fIsi,a3,aaW,mIt,abx,cmpR,ec,ea,e2,hdb,e3,q]
theorem akh {n k:Nat} (hn:n = 2 ∨ n = 3) (S:Sto) {hs:List (List (List Int))} (h:∀ uss ∈ hs,Sx n k uss) (hk:k ≤ 1000):abN [.pv (.tup (hs.map px)),.pv (.int n)] S = .ok (.pv (.bl true)) S:=by
 have e:aa9 [] (gN 0) (aae abi [] (aab (mVar 0) (aab (mVar 1) mNil))) (hs.map px) [none,some (.pv (.int n))] S = .ok (hs.map fun _=>.bl true) S:=by
  refine ae4 (aeb S) px (fun _=>.bl true) hs none fun uss hu=>?_
  have s:=h uss hu
  have e1:=alE hn S s.len (fun us hu=>(s.gu us hu).mono hk) (by rw [agH hn hk s.len s.gu]; exact fun z=>s.nz (akv.mp z)) s.cn
  simp [aak,sSeq,sIf,mTst,mNot,mAnd,mOr,aaE,mOrV,mIf,mBin,mUn,mR,mN,aab,mVar,mC,mNil,Res.bind,aaG,aaA,aaD,aaH,aax,rd,aaB,okO,fLen,fAbs,aam,aal,fTup,fLst,fIx,atI,ixN,fEq,fNe,eqN,aap,aaq,aas,aar,fAdd,aaj,fNeg,fNot,tst,SRes.of,sRet,aaM,sNil,aat,sSet,aan,aaF,aae,aaC,aao,frz,aaJ,e1]
 have ea:fAll [.lst (hs.map fun _=>PV.bl true)] = some (.bl true):=by
  have:=ag8 (hs.map px)
  rw [List.map_map] at this
  exact this
 unfold abN fnM adp
 simp [aak,sSeq,sIf,mTst,mNot,mAnd,mOr,aaE,mOrV,mIf,mBin,mUn,mR,mN,aab,mVar,mC,mNil,Res.bind,aaG,aaA,aaD,aaH,aax,rd,aaB,okO,fLen,fAbs,aam,aal,fTup,fLst,fIx,atI,ixN,fEq,fNe,eqN,aap,aaq,aas,aar,fAdd,aaj,fNeg,fNot,tst,SRes.of,sRet,aaM,sNil,aat,sSet,aan,aaF,aae,aaC,aao,frz,aaJ,fIsi,aaW,cmpR,mIt,abx,e,ea]
theorem app {n k m:Nat} {uss:List (List Int)} (h:∀ us ∈ uss,Gu n k us):eqN (m + 2) (px uss) (px uss) = some true :=
 agf fun v hv=>by
  obtain ⟨us,hu,rfl⟩:=List.mem_map.mp hv
  exact amn (h us hu).gp
theorem aiu {n k m:Nat} {hs:List (List (List Int))} (h:∀ uss ∈ hs,Sx n k uss):eqN (m + 3) (.tup (hs.map px)) (.tup (hs.map px)) = some true ∧ eqN (m + 3) (.lst (hs.map px)) (.lst (hs.map px)) = some true:=by
 have a:∀ v ∈ hs.map px,eqN (m + 2) v v = some true:=fun v hv=>by
  obtain ⟨uss,hu,rfl⟩:=List.mem_map.mp hv
  exact app (h uss hu).gu
 exact ⟨agf a,amS a⟩
abbrev li (xs:List Int):List PV:=xs.map .int
abbrev lv (xs:List Int):PV:=.lst (li xs)
abbrev rawv (xss:List (List Int)):PV:=.lst (xss.map lv)
structure Rw (n:Nat) (xss:List (List Int)):Prop where
 len:xss.length = n + 1
 l:∀ xs ∈ xss,xs.length = n
 b:∀ xs ∈ xss,∀ x ∈ xs,-8 < x ∧ x < 8
 nz:dU (xss.map (· ++ [1])) ≠ 0
theorem agP {α β:Type} (f:α → β):∀ (R:List α) (j:Nat),(R.map f).eraseIdx j = (R.eraseIdx j).map f
 | [],j=>by simp
 | a :: R,0=>by simp
 | a :: R,j + 1=>by simp [agP f R j]
theorem ix3:∀ v < 3,ixN 3 ((v:Nat):Int) = some v:=by decide
noncomputable abbrev kB1:MS:=(sSeq (adg (mVar 2) (mPop (mVar 1) (aab (aae aav [] (aab (mVar 0) (aab (mR fLen (aab (mVar 1) mNil)) mNil))) mNil)) (mC (.int 1)))
 (aat (akZ (mVar 3) (aab (mVar 2) mNil))))
noncomputable abbrev kB2:MS:=(sIf (mTst (mBin fEq (aae aav [] (aab (mVar 0) (aab (mC (.int 4)) mNil))) (mC (.int 3)))) (aiR 3 2 5) sNil)
theorem amK (ns:List Int) (hl:List PV) (R C:List Int) (L:List (List Int)) (x4 x5:Option AV) (hR0:0 < R.length) (hR3:R.length ≤ 3) (hv:∀ v ∈ R,0 ≤ v ∧ v < 3) (hC:C.length = 3) (hL:L.length ≤ 9) :
  ∃ (j v:Nat) (ns':List Int),j < R.length ∧ R[j]? = some (v:Int) ∧ kB1 [some (.ref 0),some (.ref 2),some (.ref 3),some (.ref 4),x4,x5] [.lst (li ns),.lst hl,.lst (li R),.lst (li C),.lol (L.map li)]
   = .nx [some (.ref 0),some (.ref 2),some (.ref 3),some (.ref 4),x4,x5] [.lst (li ns'),.lst hl,.lst (li (R.eraseIdx j)),.lst (li (C.set v 1)),.lol ((L ++ [C.set v 1]).map li)]:=by
 have hr:Row [.lst (li ns),.lst hl,.lst (li R),.lst (li C),.lol (L.map li)] 0 ns:=rfl
 obtain ⟨t,n1,e1,t0,t1,_⟩:=abI (m:=(R.length:Int)) hr (by omega) (sm8 (by omega) (by omega))
 simp only [List.set_cons_zero] at e1
 obtain ⟨j,rfl⟩:∃ j:Nat,t = (j:Int):=⟨t.toNat,by omega⟩
 have hj:j < R.length:=by omega
 obtain ⟨v,ev⟩:∃ v:Nat,R[j] = (v:Int):=⟨R[j].toNat,by have:=hv _ (List.getElem_mem hj); omega⟩
 have hv3:v < 3:=by have:=hv _ (List.getElem_mem hj); omega
 have hq:R[j]? = some (v:Int):=by rw [List.getElem?_eq_getElem hj,ev]
 have ep:=ao3 (S:=[.lst (li n1),.lst hl,.lst (li R),.lst (li C),.lol (L.map li)]) (k:=2) (j:=j) (xs:=li R) (v:=.int v) rfl (by rw [List.getElem?_map,hq]; rfl) (by omega)
 simp only [List.set_cons_succ,List.set_cons_zero] at ep
 have er:(li R).eraseIdx j = li (R.eraseIdx j):=agP _ _ _
 rw [er] at ep
 have ei:ixN (li C).length (v:Int) = some v:=by
  rw [List.length_map,hC]
  exact ix3 v hv3
 have ec:(li C).set v (.int 1) = li (C.set v 1):=by simp [li,List.map_set]
 refine ⟨j,v,n1,hj,hq,?_⟩
 have e1':aav [.ref 0,.pv (.int ((li R).length:Int))] [.lst (li ns),.lst hl,.lst (li R),.lst (li C),.lol (L.map li)] = .ok (.pv (.int (j:Int))) [.lst (li n1),.lst hl,.lst (li R),.lst (li C),.lol (L.map li)]:=by
  rw [List.length_map]
  exact e1
 have el:(L ++ [C.set v 1]).map li = L.map li ++ [li (C.set v 1)]:=by simp
 rw [el]
 have lz:(L.map li).length < 16777216:=by rw [List.length_map]; omega
 generalize L.map li = LL at *
 generalize li (C.set v 1) = CS at *
 generalize li C = CL at *
 generalize li (R.eraseIdx j) = RE at *
 generalize li R = RL at *
 generalize (j:Int) = J at *
 generalize li ns = NL at *
 generalize li n1 = NL1 at *
 unfold kB1
 simp [aak,sSeq,sIf,mTst,mNot,mAnd,mOr,aaE,mOrV,mIf,mBin,mUn,mR,mN,aab,mVar,mC,mNil,Res.bind,aaG,aaA,aaD,aaH,aax,rd,aaB,okO,fLen,fAbs,aam,aal,fTup,fLst,fEq,fNe,abf,aap,aaq,aas,aar,fAdd,aaj,fNeg,fNot,tst,SRes.of,sRet,aaM,sNil,aat,sSet,aan,aaF,aae,aaC,aao,frz,aaJ,adg,ahG,mPop,akZ,appL,acM,e1',ep,ei,ec,lz]
def k6:List (List (List Int)):=[[[0,0,0],[1,0,0],[1,1,0],[1,1,1]],[[0,0,0],[1,0,0],[1,0,1],[1,1,1]],[[0,0,0],[0,1,0],[1,1,0],[1,1,1]],[[0,0,0],[0,1,0],[0,1,1],[1,1,1]],[[0,0,0],[0,0,1],[1,0,1],[1,1,1]],[[0,0,0],[0,0,1],[0,1,1],[1,1,1]]]
theorem idx3 {R:List Int} {j v:Nat} {a b c:Int} (h:R = [a,b,c]) (hj:j < R.length) (e:R[j]? = some (v:Int)):(j = 0 ∧ (v:Int) = a) ∨ (j = 1 ∧ (v:Int) = b) ∨ (j = 2 ∧ (v:Int) = c):=by
 subst h
 match j,hj,e with
 | 0,_,e=>simp at e; exact .inl ⟨rfl,e.symm⟩
 | 1,_,e=>simp at e; exact .inr (.inl ⟨rfl,e.symm⟩)
 | 2,_,e=>simp at e; exact .inr (.inr ⟨rfl,e.symm⟩)
theorem idx2 {R:List Int} {j v:Nat} {a b:Int} (h:R = [a,b]) (hj:j < R.length) (e:R[j]? = some (v:Int)):(j = 0 ∧ (v:Int) = a) ∨ (j = 1 ∧ (v:Int) = b):=by
 subst h
 match j,hj,e with
 | 0,_,e=>simp at e; exact .inl ⟨rfl,e.symm⟩
 | 1,_,e=>simp at e; exact .inr ⟨rfl,e.symm⟩
theorem idx1 {R:List Int} {j v:Nat} {a:Int} (h:R = [a]) (hj:j < R.length) (e:R[j]? = some (v:Int)):j = 0 ∧ (v:Int) = a:=by
 subst h
 match j,hj,e with
 | 0,_,e=>simp at e; exact ⟨rfl,e.symm⟩
theorem k3 (ns:List Int) (hl:List PV) (R C:List Int) (A:List (List Int)) (a b c:Nat) (x4 x5:Option AV) (hR:R = [(c:Int)]) (hc:c < 3) (hC:C.length = 3) (hA:A.length ≤ 9) (ks:List (List (List Int))) (hk:A ++ [C.set c 1] ∈ ks) :
  ∃ (xss:List (List Int)) (ns':List Int) (C':List Int),xss ∈ ks ∧ abT [] (gN 4) kB1 [.int 2] [some (.ref 0),some (.ref 2),some (.ref 3),some (.ref 4),x4,x5] [.lst (li ns),.lst hl,.lst (li R),.lst (li C),.lol (A.map li)]
   = .nx [some (.ref 0),some (.ref 2),some (.ref 3),some (.ref 4),some (.pv (.int 2)),x5] [.lst (li ns'),.lst hl,.lst [],.lst (li C'),.lol (xss.map li)]:=by
 obtain ⟨j,v,n1,hj,e,h⟩:=amK ns hl R C A (some (.pv (.int 2))) x5 (by rw [hR]; simp) (by rw [hR]; simp) (by rw [hR]; simp; omega) hC hA
 obtain ⟨rfl,ev⟩:=idx1 hR hj e
 have:v = c:=by omega
 subst this
 subst hR
 refine ⟨_,n1,C.set v 1,hk,?_⟩
 rw [aaY]
 simp only [gN,List.set_cons_succ,List.set_cons_zero]
 rw [h]
 exact abo
theorem k2 (ns:List Int) (hl:List PV) (R C:List Int) (A:List (List Int)) (b c:Nat) (x4 x5:Option AV) (hR:R = [(b:Int),(c:Int)]) (hb:b < 3) (hc:c < 3) (hC:C.length = 3) (hA:A.length ≤ 8) (ks:List (List (List Int))) (h1:A ++ [C.set b 1] ++ [(C.set b 1).set c 1] ∈ ks) (h2:A ++ [C.set c 1] ++ [(C.set c 1).set b 1] ∈ ks) :
  ∃ (xss:List (List Int)) (ns':List Int) (C':List Int),xss ∈ ks ∧ abT [] (gN 4) kB1 [.int 1,.int 2] [some (.ref 0),some (.ref 2),some (.ref 3),some (.ref 4),x4,x5] [.lst (li ns),.lst hl,.lst (li R),.lst (li C),.lol (A.map li)]
   = .nx [some (.ref 0),some (.ref 2),some (.ref 3),some (.ref 4),some (.pv (.int 2)),x5] [.lst (li ns'),.lst hl,.lst [],.lst (li C'),.lol (xss.map li)]:=by
 obtain ⟨j,v,n1,hj,e,h⟩:=amK ns hl R C A (some (.pv (.int 1))) x5 (by rw [hR]; simp) (by rw [hR]; simp) (by rw [hR]; simp; omega) hC (by omega)
 rw [aaY]
 simp only [gN,List.set_cons_succ,List.set_cons_zero]
 rw [h]
 rcases idx2 hR hj e with ⟨rfl,ev⟩ | ⟨rfl,ev⟩
 ·have:v = b:=by omega
  subst this
  subst hR
  exact k3 n1 hl _ (C.set v 1) _ 0 0 c _ x5 rfl hc (by rw [List.length_set]; exact hC) (by simp; omega) ks h1
 ·have:v = c:=by omega
  subst this
  subst hR
  exact k3 n1 hl _ (C.set v 1) _ 0 0 b _ x5 rfl hb (by rw [List.length_set]; exact hC) (by simp; omega) ks h2
theorem k1 (ns:List Int) (hl:List PV) (x4 x5:Option AV) :
  ∃ (xss:List (List Int)) (ns':List Int) (C':List Int),xss ∈ k6 ∧ abT [] (gN 4) kB1 [.int 0,.int 1,.int 2] [some (.ref 0),some (.ref 2),some (.ref 3),some (.ref 4),x4,x5] [.lst (li ns),.lst hl,.lst (li [0,1,2]),.lst (li [0,0,0]),.lol ([[0,0,0]].map li)]
   = .nx [some (.ref 0),some (.ref 2),some (.ref 3),some (.ref 4),some (.pv (.int 2)),x5] [.lst (li ns'),.lst hl,.lst [],.lst (li C'),.lol (xss.map li)]:=by
 obtain ⟨j,v,n1,hj,e,h⟩:=amK ns hl [0,1,2] [0,0,0] [[0,0,0]] (some (.pv (.int 0))) x5 (by decide) (by decide) (by decide) rfl (by decide)
 rw [aaY]
 simp only [gN,List.set_cons_succ,List.set_cons_zero]
 rw [h]
 rcases idx3 rfl hj e with ⟨rfl,ev⟩ | ⟨rfl,ev⟩ | ⟨rfl,ev⟩
 ·have:v = 0:=by omega
  subst this
  exact k2 n1 hl _ [1,0,0] _ 1 2 _ x5 rfl (by decide) (by decide) rfl (by decide) k6 (by decide) (by decide)
 ·have:v = 1:=by omega
  subst this
  exact k2 n1 hl _ [0,1,0] _ 0 2 _ x5 rfl (by decide) (by decide) rfl (by decide) k6 (by decide) (by decide)
 ·have:v = 2:=by omega
  subst this
  exact k2 n1 hl _ [0,0,1] _ 0 1 _ x5 rfl (by decide) (by decide) rfl (by decide) k6 (by decide) (by decide)
def flU (m:Nat) (xs:List Int):List Int:=xs.set m (1 - xs.getD m 0)
theorem alt {m:Nat} {xs:List Int} (h:xs.length = 3) (hm:m < 3):alI (m:Int) (li xs) = some (li (flU m xs)):=by
 match xs,h,m,hm with
 | [a,b,c],_,0,_=>rfl
 | [a,b,c],_,1,_=>rfl
 | [a,b,c],_,2,_=>rfl
theorem aid {m:Nat} (hm:m < 3):∀ {L:List (List Int)},(∀ xs ∈ L,xs.length = 3) → ajl (m:Int) (L.map li) = some ((L.map (flU m)).map li)
 | [],_=>rfl
 | xs :: L,h=>by
  have e1:=alt (h xs List.mem_cons_self) hm
  have e2:=aid hm fun ys hy=>h ys (List.mem_cons_of_mem _ hy)
  simp only [List.map_cons]
  unfold ajl
  rw [e1,e2]
theorem apX {a b c d:List PV} {L:List (List PV)}:Pl1 4 [.lst a,.lst b,.lst c,.lst d,.lol L]:=fun j o e n=>by
 match j,e with
 | 0,e=>cases e; exact ⟨_,rfl⟩
 | 1,e=>cases e; exact ⟨_,rfl⟩
 | 2,e=>cases e; exact ⟨_,rfl⟩
 | 3,e=>cases e; exact ⟨_,rfl⟩
 | 4,e=>exact absurd rfl n
 | j + 5,e=>simp at e
def flO (b:Bool) (m:Nat) (L:List (List Int)):List (List Int):=if b then L.map (flU m) else L
theorem anS (m:Nat) (hm:m < 3) (ns:List Int) (a b c:List PV) (L:List (List Int)) (hL:∀ xs ∈ L,xs.length = 3) (x2 x4:Option AV) :
  ∃ (f:Bool) (ns':List Int) (y2:Option AV),kB2 [some (.ref 0),some (.ref 2),x2,some (.ref 4),x4,some (.pv (.int (m:Int)))] [.lst (li ns),.lst a,.lst b,.lst c,.lol (L.map li)]
   = .nx [some (.ref 0),some (.ref 2),y2,some (.ref 4),x4,some (.pv (.int (m:Int)))] [.lst (li ns'),.lst a,.lst b,.lst c,.lol ((flO f m L).map li)]:=by
 have hr:Row [.lst (li ns),.lst a,.lst b,.lst c,.lol (L.map li)] 0 ns:=rfl
 obtain ⟨t,n1,e1,t0,t1,_⟩:=abI (m:=4) hr (by decide) (sm8 (by decide) (by decide))
 simp only [List.set_cons_zero] at e1
 have e1:aav [.ref 0,.pv (.int 4)] [.lst (li ns),.lst a,.lst b,.lst c,.lol (L.map li)] = .ok (.pv (.int t)) [.lst (li n1),.lst a,.lst b,.lst c,.lol (L.map li)]:=e1
 have ef:=aid hm hL
 by_cases h:t = 3
 ·refine ⟨true,n1,none,?_⟩
  have hf:aiR 3 2 5 [some (.ref 0),some (.ref 2),x2,some (.ref 4),x4,some (.pv (.int (m:Int)))] [.lst (li n1),.lst a,.lst b,.lst c,.lol (L.map li)] = .nx [some (.ref 0),some (.ref 2),none,some (.ref 4),x4,some (.pv (.int (m:Int)))] [.lst (li n1),.lst a,.lst b,.lst c,.lol ((L.map (flU m)).map li)]:=by
   unfold aiR
   dsimp only [List.getElem?_cons_succ,List.getElem?_cons_zero]
   rw [if_pos ⟨apX,by simp⟩,ef]
   rfl
  unfold kB2
  have:flO true m L = L.map (flU m):=rfl
  rw [this]
  simp [aak,sSeq,sIf,mTst,mNot,mAnd,mOr,aaE,mOrV,mIf,mBin,mUn,mR,mN,aab,mVar,mC,mNil,Res.bind,aaG,aaA,aaD,aaH,aax,rd,aaB,okO,fLen,fAbs,aam,aal,fTup,fLst,fIx,atI,ixN,fEq,fNe,eqN,aap,aaq,aas,aar,fAdd,aaj,fNeg,fNot,tst,SRes.of,sRet,aaM,sNil,aat,sSet,aan,aaF,aae,aaC,aao,frz,aaJ,e1,h,hf]
 ·refine ⟨false,n1,x2,?_⟩
  unfold kB2
  have:flO false m L = L:=rfl
  rw [this]
  simp [aak,sSeq,sIf,mTst,mNot,mAnd,mOr,aaE,mOrV,mIf,mBin,mUn,mR,mN,aab,mVar,mC,mNil,Res.bind,aaG,aaA,aaD,aaH,aax,rd,aaB,okO,fLen,fAbs,aam,aal,fTup,fLst,fIx,atI,ixN,fEq,fNe,eqN,aap,aaq,aas,aar,fAdd,aaj,fNeg,fNot,tst,SRes.of,sRet,aaM,sNil,aat,sSet,aan,aaF,aae,aaC,aao,frz,aaJ,e1,h]
theorem ahz {b:Bool} {m:Nat} {L:List (List Int)} (h:∀ xs ∈ L,xs.length = 3):∀ xs ∈ flO b m L,xs.length = 3:=by
 unfold flO
 split
 ·intro xs hx
  obtain ⟨ys,hy,rfl⟩:=List.mem_map.mp hx
  unfold flU
  rw [List.length_set]
  exact h ys hy
 ·exact h
def rwB (xss:List (List Int)):Bool:=decide (xss.length = 4) && xss.all (fun xs=>decide (xs.length = 3) && xs.all fun x=>decide (-8 < x) && decide (x < 8)) && decide (dU (xss.map (· ++ [1])) ≠ 0)
theorem aoK {xss:List (List Int)} (h:rwB xss = true):Rw 3 xss:=by
 unfold rwB at h
 simp only [Bool.and_eq_true,decide_eq_true_eq,List.all_eq_true] at h
 exact ⟨h.1.1,fun xs hx=>(h.1.2 xs hx).1,fun xs hx x hh=>(h.1.2 xs hx).2 x hh,h.2⟩
theorem k48:∀ xss ∈ k6,∀ a b c:Bool,rwB (flO c 2 (flO b 1 (flO a 0 xss))) = true:=by decide +kernel
theorem aot:∀ xss ∈ k6,∀ xs ∈ xss,xs.length = 3:=by decide
theorem pl2 {a b:List PV}:Pl [.lst a,.lst b]:=fun j o e=>by
 match j,e with
 | 0,e=>cases e; exact ⟨_,rfl⟩
 | 1,e=>cases e; exact ⟨_,rfl⟩
 | j + 2,e=>simp at e
theorem anA (ns:List Int) (hl:List PV):∃ (xss:List (List Int)) (ns':List Int),adq [.ref 0] [.lst (li ns),.lst hl] = .ok (.pv (rawv xss)) [.lst (li ns'),.lst hl] ∧ Rw 3 xss:=by
 obtain ⟨L,n1,C,hm,e1⟩:=k1 ns hl none none
 have l0:=aot L hm
 obtain ⟨fa,n2,y2,e2⟩:=anS 0 (by decide) n1 hl [] (li C) L l0 (some (.ref 3)) (some (.pv (.int 2)))
 obtain ⟨fb,n3,y3,e3⟩:=anS 1 (by decide) n2 hl [] (li C) _ (ahz l0) y2 (some (.pv (.int 2)))
 obtain ⟨fc,n4,y4,e4⟩:=anS 2 (by decide) n3 hl [] (li C) _ (ahz (ahz l0)) y3 (some (.pv (.int 2)))
 have c0:((0:Nat):Int) = 0:=rfl
 have c1:((1:Nat):Int) = 1:=rfl
 have c2:((2:Nat):Int) = 2:=rfl
 rw [c0] at e2
 rw [c1] at e3
 rw [c2] at e4
 have hw:=k48 L hm fa fb fc
 generalize flO fc 2 (flO fb 1 (flO fa 0 L)) = X at hw e4
 refine ⟨X,n4,?_,aoK hw⟩
 have ex:(X.map li).map PV.lst = X.map lv:=by rw [List.map_map]; rfl
 have e5:abT [] (gN 5) kB2 [.int 0,.int 1,.int 2] [some (.ref 0),some (.ref 2),some (.ref 3),some (.ref 4),some (.pv (.int 2)),none] [.lst (li n1),.lst hl,.lst [],.lst (li C),.lol (L.map li)]
   = .nx [some (.ref 0),some (.ref 2),y4,some (.ref 4),some (.pv (.int 2)),some (.pv (.int 2))] [.lst (li n4),.lst hl,.lst [],.lst (li C),.lol (X.map li)]:=by
  rw [aaY]
  simp only [gN,List.set_cons_succ,List.set_cons_zero]
  rw [e2]
  dsimp only
  rw [aaY]
  simp only [gN,List.set_cons_succ,List.set_cons_zero]
  rw [e3]
  dsimp only
  rw [aaY]
  simp only [gN,List.set_cons_succ,List.set_cons_zero]
  rw [e4]
  exact abo
 unfold adq fnL
 rw [if_pos ⟨rfl,pl2⟩]
 have eb:agd (aak 6 [.ref 0]) [.lst (li ns),.lst hl] = .rt (.ref 4) [.lst (li n4),.lst hl,.lst [],.lst (li C),.lol (X.map li)]:=by
  simp only [li,List.map_cons,List.map_nil] at e1
  have hb:agd = (sSeq (sSet 1 (mNew (aab (mC (.int 0)) (aab (mC (.int 1)) (aab (mC (.int 2)) mNil)))))
   (sSeq (sSet 2 (mNew (aab (mC (.int 0)) (aab (mC (.int 0)) (aab (mC (.int 0)) mNil)))))
   (sSeq (sSet 3 (mLol (aab (mVar 2) mNil)))
   (sSeq (sFor (aaS (aab (mC (.int 3)) mNil)) (gN 4) kB1)
   (sSeq (sFor (aaS (aab (mC (.int 3)) mNil)) (gN 5) kB2)
   (sRet (mVar 3))))))):=rfl
  rw [hb]
  generalize kB2 = B2 at *
  generalize kB1 = B1 at *
  simp [aak,sSeq,sIf,mTst,mNot,mAnd,mOr,aaE,mOrV,mIf,mBin,mUn,mR,mN,aab,mVar,mC,mNil,Res.bind,aaG,aaA,aaD,aaH,aax,rd,aaB,okO,fLen,fAbs,aam,aal,fTup,fLst,fIx,atI,ixN,fEq,fNe,eqN,aap,aaq,aas,aar,fAdd,aaj,fNeg,fNot,tst,SRes.of,sRet,aaM,sNil,aat,sSet,aan,aaF,aae,aaC,aao,frz,aaJ,mNew,ae5,mLol,anz,sFor,aaS,hrg,e1,e5]
 rw [eb]
 unfold aiD
 simp [pl2,ex]
theorem ajE (L:List PV) (p:PV) (h:L ≠ []):∃ v ∈ L,fIx (.lst L) (.int (-1)) = some v:=by
 have hl:0 < L.length:=List.length_pos_iff.mpr h
 refine ⟨L[L.length - 1]'(by omega),List.getElem_mem _,?_⟩
 show atI L (-1) = _
 unfold atI
 have e:ixN L.length (-1) = some (L.length - 1):=by
  unfold ixN
  rw [if_neg (by decide),if_pos (by omega)]
  congr 1
  omega
 rw [e]
 exact List.getElem?_eq_getElem _
theorem bd10 {x:Int} (h:-1000 < x) (g:x < 1000):Bd 10 x:=by
 unfold Bd
 have:x.natAbs < 1000:=by omega
 omega
theorem rgn (S:Sto) {n:Nat} (h:n ≤ 9):rng1 [.pv (.int (n:Int))] S = .ok (abt 0 n,[]) S:=by
 have e:rng1 [.pv (.int (n:Int))] S = @ite _ ((n:Int) ≤ 16777216 ∧ -16777216 ≤ (n:Int)) (Classical.propDecidable _) (.ok (abt 0 (n:Int).toNat,[]) S) .fail:=rfl
 rw [e,if_pos ⟨by omega,by omega⟩,Int.toNat_natCast]
theorem alz {S:Sto} {k:Nat} {ns:List Int} (h:Row S k ns):S.set k (.lst (ns.map .int)) = S:=List.ext_getElem? fun j=>by
 by_cases q:k = j
 ·subst q
  rw [List.getElem?_set_self h.lt]
  exact h.symm
 ·rw [List.getElem?_set_ne q]
theorem aim {k:Nat} {W:Int} (W0:0 ≤ W) (W1:W ≤ 2):∀ (is:List PV) (S:Sto) (ns:List Int) (x:Option AV),Row S k ns → ∃ (xs ns':List Int),aa9 [] (gN 0) (aae aav [] (aab (mVar 1) (aab (mBin fAdd (mVar 2) (mC (.int 1))) mNil))) is [x,some (.ref k),some (.pv (.int W))] S = .ok (li xs) (S.set k (.lst (li ns'))) ∧ xs.length = is.length ∧ ∀ n ∈ xs,0 ≤ n ∧ n ≤ 2
 | [],S,ns,x,h=>by
  refine ⟨[],ns,?_,rfl,fun _ h=>absurd h List.not_mem_nil⟩
  rw [show S.set k (.lst (li ns)) = S from alz h]
  exact aaR
 | i :: is,S,ns,x,h=>by
  obtain ⟨t,n1,e1,t0,t1,_⟩:=abI (m:=W + 1) h (by omega) (sm8 (by omega) (by omega))
  obtain ⟨xs,n2,e2,l2,b2⟩:=aim W0 W1 is _ n1 (some (.pv i)) (h.set n1)
  rw [List.set_set] at e2
  refine ⟨t :: xs,n2,?_,by simp [l2],fun n hn=>?_⟩
  ·rw [aaP]
   generalize S.set k (.lst (n1.map .int)) = S1 at e1 e2
   simp [gN,aak,sSeq,sIf,mTst,mNot,mAnd,mOr,aaE,mOrV,mIf,mBin,mUn,mR,mN,aab,mVar,mC,mNil,Res.bind,aaG,aaA,aaD,aaH,aax,rd,aaB,okO,fLen,fAbs,aam,aal,fTup,fLst,fIx,atI,ixN,fEq,fNe,eqN,aap,aaq,aas,aar,fAdd,aaj,fNeg,fNot,tst,SRes.of,sRet,aaM,sNil,aat,sSet,aan,aaF,aae,aaC,aao,frz,aaJ,e1,e2]
  ·rcases List.mem_cons.mp hn with rfl | hn
   ·omega
   ·exact b2 n hn
noncomputable abbrev rB:MS:=(aat (mApp (mVar 3) (aab (aaW ["_law_m"] [(0,"_law_row_here"),(2,"_law_wide")] (aaS (aab (mVar 1) mNil)) (gN 0) (aae aav [] (aab (mVar 1) (aab (mBin fAdd (mVar 2) (mC (.int 1))) mNil)))) mNil)))
theorem aiE {n:Nat} (hn:n ≤ 9) {W:Int} (W0:0 ≤ W) (W1:W ≤ 2) (hl:List PV):∀ (is:List PV) (L:List (List Int)) (ns:List Int) (x4:Option AV),L.length + is.length ≤ 99 → ∃ (L':List (List Int)) (ns':List Int) (y4:Option AV),
  abT [] (gN 4) rB is [some (.ref 0),some (.pv (.int (n:Int))),some (.pv (.int W)),some (.ref 2),x4] [.lst (li ns),.lst hl,.lst (L.map lv)] = .nx [some (.ref 0),some (.pv (.int (n:Int))),some (.pv (.int W)),some (.ref 2),y4] [.lst (li ns'),.lst hl,.lst ((L ++ L').map lv)]
   ∧ L'.length = is.length ∧ ∀ xs ∈ L',xs.length = n ∧ ∀ x ∈ xs,0 ≤ x ∧ x ≤ 2
 | [],L,ns,x4,h9=>⟨[],ns,x4,by rw [List.append_nil]; exact abo,rfl,fun _ h=>absurd h List.not_mem_nil⟩
 | i :: is,L,ns,x4,h9=>by
  have hr:Row [.lst (li ns),.lst hl,.lst (L.map lv)] 0 ns:=rfl
  obtain ⟨xs,n1,e1,l1,b1⟩:=aim W0 W1 (abt 0 n) _ ns none hr
  simp only [List.set_cons_zero] at e1
  have h9:L.length + (is.length + 1) ≤ 99:=h9
  obtain ⟨L',n2,y4,e2,l2,b2⟩:=aiE hn W0 W1 hl is (L ++ [xs]) n1 (some (.pv i)) (by rw [List.length_append,List.length_singleton]; omega)
  refine ⟨xs :: L',n2,y4,?_,by simp [l2],fun ys hy=>?_⟩
  ·rw [aaY]
   have es:rB [some (.ref 0),some (.pv (.int (n:Int))),some (.pv (.int W)),some (.ref 2),some (.pv i)] [.lst (li ns),.lst hl,.lst (L.map lv)] = .nx [some (.ref 0),some (.pv (.int (n:Int))),some (.pv (.int W)),some (.ref 2),some (.pv i)] [.lst (li n1),.lst hl,.lst ((L ++ [xs]).map lv)]:=by
    have el:(L ++ [xs]).map lv = L.map lv ++ [lv xs]:=by simp
    rw [el]
    have lz:(L.map lv).length < 16777216:=by rw [List.length_map]; omega
    have rg:=rgn [.lst (li ns),.lst hl,.lst (L.map lv)] hn
    unfold rB
    generalize L.map lv = LL at *
    generalize li ns = NL at *
    generalize abt 0 n = IP at *
    generalize (n:Int) = N at *
    simp [aak,sSeq,sIf,mTst,mNot,mAnd,mOr,aaE,mOrV,mIf,mBin,mUn,mR,mN,aab,mVar,mC,mNil,Res.bind,aaG,aaA,aaD,aaH,aax,rd,aaB,okO,fLen,fAbs,aam,aal,fTup,fLst,fIx,atI,ixN,fEq,fNe,eqN,aap,aaq,aas,aar,fAdd,aaj,fNeg,fNot,tst,SRes.of,sRet,aaM,sNil,aat,sSet,aan,aaF,aae,aaC,aao,frz,aaJ,mApp,acM,aed,aaW,cmpR,aaS,rg,e1,lz]
   simp only [gN,List.set_cons_succ,List.set_cons_zero]
   rw [es]
   dsimp only
   rw [e2,List.append_assoc]
   rfl
  ·rcases List.mem_cons.mp hy with rfl | hy
   ·exact ⟨by rw [l1]; unfold abt; simp,b1⟩
   ·exact b2 ys hy
theorem aoi {S:Sto} {a b c d e f:Int} (h:S[2]? = some (.lst [lv [a,b],lv [c,d],lv [e,f]])) (ha:0 ≤ a ∧ a ≤ 2) (hb:0 ≤ b ∧ b ≤ 2) (hc:0 ≤ c ∧ c ≤ 2) (hd:0 ≤ d ∧ d ≤ 2) (he:0 ≤ e ∧ e ≤ 2) (hf:0 ≤ f ∧ f ≤ 2):abr [.ref 2] S = .ok (.pv (.int (D2 a b 1 c d 1 e f 1))) S:=by
 have id:(c - a) * (f - b) - (d - b) * (e - a) = D2 a b 1 c d 1 e f 1:=by
  unfold D2
  grind
 have b1:Bd 10 (c - a):=bd10 (by omega) (by omega)
 have b2:Bd 10 (d - b):=bd10 (by omega) (by omega)
 have b3:Bd 10 (e - a):=bd10 (by omega) (by omega)
 have b4:Bd 10 (f - b):=bd10 (by omega) (by omega)
 have m1:=mBB b1 b4
 have m2:=mBB b2 b3
 generalize D2 a b 1 c d 1 e f 1 = D at *
 have s1:=aiP (lv [a,b]) [lv [c,d],lv [e,f]]
 have et:ab4 [.pv (.lst [.lst [.int (c - a),.int (d - b)],.lst [.int (e - a),.int (f - b)]])] S = .ok (.pv (.int D)) S:=by
  unfold ab4 fnM aeu
  simp [aak,sSeq,sIf,mTst,mNot,mAnd,mOr,aaE,mOrV,mIf,mBin,mUn,mR,mN,aab,mVar,mC,mNil,Res.bind,aaG,aaA,aaD,aaH,aax,rd,aaB,okO,fLen,fAbs,aam,aal,fTup,fLst,fIx,atI,ixN,fEq,fNe,eqN,aap,aaq,aas,aar,fAdd,aaj,fNeg,fNot,tst,SRes.of,sRet,aaM,sNil,aat,sSet,aan,aaF,aae,aaC,aao,frz,aaJ,m1,m2,id]
 unfold abr fnM ac7
 simp only [lv,li,List.map_cons,List.map_nil] at h s1
 simp [aak,sSeq,sIf,mTst,mNot,mAnd,mOr,aaE,mOrV,mIf,mBin,mUn,mR,mN,aab,mVar,mC,mNil,Res.bind,aaG,aaA,aaD,aaH,aax,rd,aaB,okO,fLen,fAbs,aam,aal,fTup,fLst,fIx,atI,ixN,fEq,fNe,eqN,aap,aaq,aas,aar,fAdd,aaj,fNeg,fNot,tst,SRes.of,sRet,aaM,sNil,aat,sSet,aan,aaF,aae,aaC,aao,frz,aaJ,aaW,mIt,abx,mSl,mO0,mO1,abY,h,s1,cmpR,aaP,aaR,gN,gT,abc,acK,mZip,afw,zipP,et]
theorem api {S:Sto} {x0 y0 z0 x1 y1 z1 x2 y2 z2 x3 y3 z3:Int} (h:S[2]? = some (.lst [lv [x0,y0,z0],lv [x1,y1,z1],lv [x2,y2,z2],lv [x3,y3,z3]])) (hb:∀ x ∈ [x0,y0,z0,x1,y1,z1,x2,y2,z2,x3,y3,z3],0 ≤ x ∧ x ≤ 2):abr [.ref 2] S = .ok (.pv (.int (D3 x0 y0 z0 1 x1 y1 z1 1 x2 y2 z2 1 x3 y3 z3 1))) S:=by
 have id:dt [(y1 - y0) * (z2 - z0) - (z1 - z0) * (y2 - y0),(z1 - z0) * (x2 - x0) - (x1 - x0) * (z2 - z0),(x1 - x0) * (y2 - y0) - (y1 - y0) * (x2 - x0)] [x3 - x0,y3 - y0,z3 - z0] = D3 x0 y0 z0 1 x1 y1 z1 1 x2 y2 z2 1 x3 y3 z3 1:=by
  simp only [dt,D3,List.zipWith_cons_cons,List.zipWith_nil_left,List.sum_cons,List.sum_nil]
  grind
 simp only [List.mem_cons,List.not_mem_nil,or_false,forall_eq_or_imp,forall_eq] at hb
 have q:∀ {a b:Int},(0 ≤ a ∧ a ≤ 2) → (0 ≤ b ∧ b ≤ 2) → Bd 10 (a - b):=fun h g=>bd10 (by omega) (by omega)
 obtain ⟨hx0,hy0,hz0,hx1,hy1,hz1,hx2,hy2,hz2,hx3,hy3,hz3⟩:=hb
 have b1:=q hx1 hx0
 have b2:=q hy1 hy0
 have b3:=q hz1 hz0
 have b4:=q hx2 hx0
 have b5:=q hy2 hy0
 have b6:=q hz2 hz0
 have b7:=q hx3 hx0
 have b8:=q hy3 hy0
 have b9:=q hz3 hz0
 clear hx0 hy0 hz0 hx1 hy1 hz1 hx2 hy2 hz2 hx3 hy3 hz3 q
 generalize D3 x0 y0 z0 1 x1 y1 z1 1 x2 y2 z2 1 x3 y3 z3 1 = D at *
 have s1:=aiP (lv [x0,y0,z0]) [lv [x1,y1,z1],lv [x2,y2,z2],lv [x3,y3,z3]]
 have et:ab4 [.pv (.lst [.lst [.int (x1 - x0),.int (y1 - y0),.int (z1 - z0)],.lst [.int (x2 - x0),.int (y2 - y0),.int (z2 - z0)],.lst [.int (x3 - x0),.int (y3 - y0),.int (z3 - z0)]])] S = .ok (.pv (.int D)) S:=by
  generalize x1 - x0 = U0 at *
  generalize y1 - y0 = U1 at *
  generalize z1 - z0 = U2 at *
  generalize x2 - x0 = V0 at *
  generalize y2 - y0 = V1 at *
  generalize z2 - z0 = V2 at *
  generalize x3 - x0 = T0 at *
  generalize y3 - y0 = T1 at *
  generalize z3 - z0 = T2 at *
  have u:∀ {a:Int},Bd 10 a → Bd 10000 a:=fun h=>h.mono (by decide)
  have u2:∀ {a:Int},Bd 10 a → Bd 100000 a:=fun h=>h.mono (by decide)
  have cc:∀ {a b c d:Int},Bd 10 a → Bd 10 b → Bd 10 c → Bd 10 d → Bd 100000 (a * b - c * d):=fun h1 h2 h3 h4=>(((h1.mul h2).mono (show 10 + 10 ≤ 20 by decide)).sub ((h3.mul h4).mono (show 10 + 10 ≤ 20 by decide))).mono (by decide)
  have en:=aih (A:=.lst [.int U0,.int U1,.int U2]) (B:=.lst [.int V0,.int V1,.int V2]) S (.inl rfl) (.inl rfl) (u b1) (u b2) (u b3) (u b4) (u b5) (u b6)
  have ed:=akC (A:=.lst [.int (U1 * V2 - U2 * V1),.int (U2 * V0 - U0 * V2),.int (U0 * V1 - U1 * V0)]) (B:=.lst [.int T0,.int T1,.int T2]) (us:=[U1 * V2 - U2 * V1,U2 * V0 - U0 * V2,U0 * V1 - U1 * V0]) (vs:=[T0,T1,T2]) S (.inl rfl) (.inl rfl) (by simp; exact ⟨cc b2 b6 b3 b5,cc b3 b4 b1 b6,cc b1 b5 b2 b4⟩) (by simp; exact ⟨u2 b7,u2 b8,u2 b9⟩)
  rw [id] at ed
  generalize U1 * V2 - U2 * V1 = N0 at *
  generalize U2 * V0 - U0 * V2 = N1 at *
  generalize U0 * V1 - U1 * V0 = N2 at *
  unfold ab4 fnM aeu
  simp [aak,sSeq,sIf,mTst,mNot,mAnd,mOr,aaE,mOrV,mIf,mBin,mUn,mR,mN,aab,mVar,mC,mNil,Res.bind,aaG,aaA,aaD,aaH,aax,rd,aaB,okO,fLen,fAbs,aam,aal,fTup,fLst,fIx,atI,ixN,fEq,fNe,eqN,aap,aaq,aas,aar,fAdd,aaj,fNeg,fNot,tst,SRes.of,sRet,aaM,sNil,aat,sSet,aan,aaF,aae,aaC,aao,frz,aaJ,en,ed]
 unfold abr fnM ac7
 simp only [lv,li,List.map_cons,List.map_nil] at h s1
 simp [aak,sSeq,sIf,mTst,mNot,mAnd,mOr,aaE,mOrV,mIf,mBin,mUn,mR,mN,aab,mVar,mC,mNil,Res.bind,aaG,aaA,aaD,aaH,aax,rd,aaB,okO,fLen,fAbs,aam,aal,fTup,fLst,fIx,atI,ixN,fEq,fNe,eqN,aap,aaq,aas,aar,fAdd,aaj,fNeg,fNot,tst,SRes.of,sRet,aaM,sNil,aat,sSet,aan,aaF,aae,aaC,aao,frz,aaJ,aaW,mIt,abx,mSl,mO0,mO1,abY,h,s1,cmpR,aaP,aaR,gN,gT,abc,acK,mZip,afw,zipP,et]
theorem apv {n:Nat} (hn:n = 2 ∨ n = 3) {S:Sto} {L:List (List Int)} (h:S[2]? = some (.lst (L.map lv))) (hl:L.length = n + 1) (hb:∀ xs ∈ L,xs.length = n ∧ ∀ x ∈ xs,0 ≤ x ∧ x ≤ 2):abr [.ref 2] S = .ok (.pv (.int (dU (L.map (· ++ [1]))))) S:=by
 rcases hn with rfl | rfl
 ·match L,hl,hb,h with
  | [A,B,C],_,hb,h =>
   have ga:=hb A (by simp)
   have gb:=hb B (by simp)
   have gc:=hb C (by simp)
   clear hb
   match A,ga.1,B,gb.1,C,gc.1 with
   | [a,b],_,[c,d],_,[e,f],_=>exact aoi h (ga.2 a (by simp)) (ga.2 b (by simp)) (gb.2 c (by simp)) (gb.2 d (by simp)) (gc.2 e (by simp)) (gc.2 f (by simp))
 ·match L,hl,hb,h with
  | [A,B,C,D],_,hb,h =>
   have ga:=hb A (by simp)
   have gb:=hb B (by simp)
   have gc:=hb C (by simp)
   have gd:=hb D (by simp)
   clear hb
   match A,ga.1,B,gb.1,C,gc.1,D,gd.1 with
   | [x0,y0,z0],_,[x1,y1,z1],_,[x2,y2,z2],_,[x3,y3,z3],_ =>
    refine api h fun x hx=>?_
    rw [show [x0,y0,z0,x1,y1,z1,x2,y2,z2,x3,y3,z3] = [x0,y0,z0] ++ ([x1,y1,z1] ++ ([x2,y2,z2] ++ [x3,y3,z3])) from rfl] at hx
    rcases List.mem_append.mp hx with z | z
    ·exact ga.2 x z
    ·rcases List.mem_append.mp z with z | z
     ·exact gb.2 x z
     ·rcases List.mem_append.mp z with z | z
      ·exact gc.2 x z
      ·exact gd.2 x z
def dfl (n:Nat):List (List Int):=if n = 2 then [[0,0],[1,0],[0,1]] else [[0,0,0],[1,0,0],[0,1,0],[0,0,1]]
theorem aok {n:Nat} (hn:n = 2 ∨ n = 3):Rw n (dfl n):=by
 rcases hn with rfl | rfl
 ·exact ⟨rfl,by decide,by decide,by decide⟩
 ·exact ⟨rfl,by decide,by decide,by decide⟩
theorem rgm (S:Sto) {n:Nat} (h:n ≤ 9):rng2 [.pv (.int (-1)),.pv (.int (n:Int))] S = .ok (abt (-1) (n + 1),[]) S:=by
 have e:rng2 [.pv (.int (-1)),.pv (.int (n:Int))] S = @ite _ ((-4611686018427387904 ≤ (-1:Int) ∧ (-1:Int) < 4611686018427387904 ∧ -4611686018427387904 ≤ (n:Int) ∧ (n:Int) < 4611686018427387904) ∧ (n:Int) - -1 ≤ 16777216) (Classical.propDecidable _) (.ok (abt (-1) ((n:Int) - -1).toNat,[]) S) .fail:=rfl
 rw [e,if_pos ⟨⟨by decide,by decide,by omega,by omega⟩,by omega⟩]
 rw [show ((n:Int) - -1).toNat = n + 1 by omega]
theorem fz1 {α:Type} {a:α} {S:Sto}:aaJ (.ok a S) = .ok a S:=rfl
theorem fz2 {n:Nat} {v:PV} {S:Sto}:frz n (.ok (.pv v) S) = .ok (.pv v) S:=rfl
theorem amH {n:Nat} (hn:n = 2 ∨ n = 3) (S:Sto) (x0 x2 x3 x4:Option AV):aaW ["_law_k"] [(1,"_law_dims")] (adS (aab (mUn fNeg (mC (.int 1))) (aab (mVar 1) mNil))) (gN 0) (aaW ["_law_m"] [(0,"_law_k")] (aaS (aab (mVar 1) mNil)) (gN 0) (mR fInt (aab (mBin fEq (mVar 0) (mVar 1)) mNil))) [x0,some (.pv (.int (n:Int))),x2,x3,x4] S = .ok (.pv (rawv (dfl n))) S:=by
 have r1:=fun S=>rgn S (n:=n) (by omega)
 have r2:=fun S=>rgm S (n:=n) (by omega)
 rcases hn with rfl | rfl
 ·have c2:((2:Nat):Int) = 2:=rfl
  rw [c2] at r1 r2 ⊢
  have i1:abt 0 2 = [.int 0,.int 1]:=rfl
  have i2:abt (-1) (2 + 1) = [.int (-1),.int 0,.int 1]:=rfl
  rw [i1] at r1
  rw [i2] at r2
  simp [aaW,cmpR,aaS,adS,aak,sSeq,sIf,mTst,mNot,mAnd,mOr,aaE,mOrV,mIf,mBin,mUn,mR,mN,aab,mVar,mC,mNil,Res.bind,aaG,aaA,aaD,aaH,aax,rd,aaB,okO,fLen,fAbs,aam,aal,fTup,fLst,fIx,atI,ixN,fEq,fNe,eqN,aap,aaq,aas,aar,fAdd,aaj,fNeg,fNot,tst,SRes.of,sRet,aaM,sNil,aat,sSet,aan,aaF,aae,aaC,aao,frz,aaJ,r1,r2,aaP,aaR,gN,fInt,dfl]
 ·have c2:((3:Nat):Int) = 3:=rfl
  rw [c2] at r1 r2 ⊢
  have i1:abt 0 3 = [.int 0,.int 1,.int 2]:=rfl
  have i2:abt (-1) (3 + 1) = [.int (-1),.int 0,.int 1,.int 2]:=rfl
  rw [i1] at r1
  rw [i2] at r2
  simp [aaW,cmpR,aaS,adS,aak,sSeq,sIf,mTst,mNot,mAnd,mOr,aaE,mOrV,mIf,mBin,mUn,mR,mN,aab,mVar,mC,mNil,Res.bind,aaG,aaA,aaD,aaH,aax,rd,aaB,okO,fLen,fAbs,aam,aal,fTup,fLst,fIx,atI,ixN,fEq,fNe,eqN,aap,aaq,aas,aar,fAdd,aaj,fNeg,fNot,tst,SRes.of,sRet,aaM,sNil,aat,sSet,aan,aaF,aae,aaC,aao,frz,aaJ,r1,r2,aaP,aaR,gN,fInt,dfl]
theorem ama {n:Nat} (hn:n = 2 ∨ n = 3) {W:Int} (W0:0 ≤ W) (W1:W ≤ 2) (ns:List Int) (hl:List PV):∃ (xss:List (List Int)) (ns':List Int),frz 2 (aaJ (adh [.ref 0,.pv (.int (n:Int)),.pv (.int W)] [.lst (li ns),.lst hl])) = .ok (.pv (rawv xss)) [.lst (li ns'),.lst hl] ∧ Rw n xss:=by
 obtain ⟨L,n1,y4,e1,l1,b1⟩:=aiE (n:=n) (by omega) W0 W1 hl (abt 0 (n + 1)) [] ns none (by unfold abt; simp; omega)
 have hi:(abt 0 (n + 1)).length = n + 1:=by unfold abt; simp
 rw [hi] at l1
 simp only [List.nil_append,List.map_nil] at e1
 have et:=apv (S:=[.lst (li n1),.lst hl,.lst (L.map lv)]) hn rfl l1 b1
 have rg:=rgn [.lst (li ns),.lst hl,.lst []] (n:=n + 1) (by omega)
 have cn:((n + 1:Nat):Int) = (n:Int) + 1:=by omega
 rw [cn] at rg
 have ed:=amH hn [.lst (li n1),.lst hl,.lst (L.map lv)] (some (.ref 0)) (some (.pv (.int W))) (some (.ref 2)) y4
 have hb:akB = (sSeq (sSet 3 (mNew mNil))
  (sSeq (sFor (aaS (aab (mBin fAdd (mVar 1) (mC (.int 1))) mNil)) (gN 4) rB)
  (sSeq (sIf (mTst (mBin fNe (aae abr [] (aab (mVar 3) mNil)) (mC (.int 0)))) (sRet (mVar 3)) sNil)
  (sRet (aaW ["_law_k"] [(1,"_law_dims")] (adS (aab (mUn fNeg (mC (.int 1))) (aab (mVar 1) mNil))) (gN 0) (aaW ["_law_m"] [(0,"_law_k")] (aaS (aab (mVar 1) mNil)) (gN 0) (mR fInt (aab (mBin fEq (mVar 0) (mVar 1)) mNil)))))))):=rfl
 generalize (aaW ["_law_k"] [(1,"_law_dims")] (adS (aab (mUn fNeg (mC (.int 1))) (aab (mVar 1) mNil))) (gN 0) (aaW ["_law_m"] [(0,"_law_k")] (aaS (aab (mVar 1) mNil)) (gN 0) (mR fInt (aab (mBin fEq (mVar 0) (mVar 1)) mNil)))) = CD at ed hb
 generalize rB = RB at e1 hb
 by_cases hd:dU (L.map (· ++ [1])) = 0
 ·refine ⟨dfl n,n1,?_,aok hn⟩
  rw [hd] at et
  unfold adh fnM
  rw [hb]
  generalize rawv (dfl n) = RV at *
  generalize L.map lv = LL at *
  generalize li ns = NL at *
  generalize li n1 = NL1 at *
  generalize abt 0 (n + 1) = IP at *
  generalize (n:Int) = N at *
  simp [aak,sSeq,sIf,mTst,mNot,mAnd,mOr,aaE,mOrV,mIf,mBin,mUn,mR,mN,aab,mVar,mC,mNil,Res.bind,aaG,aaA,aaD,aaH,aax,rd,aaB,okO,fLen,fAbs,aam,aal,fTup,fLst,fIx,atI,ixN,fEq,fNe,eqN,aap,aaq,aas,aar,fAdd,aaj,fNeg,fNot,tst,SRes.of,sRet,aaM,sNil,aat,sSet,aan,aaF,aae,aaC,aao,frz,aaJ,mNew,ae5,sFor,aaS,rg,e1,et,ed]
 ·refine ⟨L,n1,?_,⟨l1,fun xs hx=>(b1 xs hx).1,fun xs hx x hh=>by have:=(b1 xs hx).2 x hh; omega,hd⟩⟩
  unfold adh fnM
  rw [hb]
  have hv:rawv L = .lst (L.map lv):=rfl
  rw [hv]
  generalize dU (L.map (· ++ [1])) = d at *
  generalize L.map lv = LL at *
  generalize li ns = NL at *
  generalize li n1 = NL1 at *
  generalize abt 0 (n + 1) = IP at *
  generalize (n:Int) = N at *
  simp [aak,sSeq,sIf,mTst,mNot,mAnd,mOr,aaE,mOrV,mIf,mBin,mUn,mR,mN,aab,mVar,mC,mNil,Res.bind,aaG,aaA,aaD,aaH,aax,rd,aaB,okO,fLen,fAbs,aam,aal,fTup,fLst,fIx,atI,ixN,fEq,fNe,eqN,aap,aaq,aas,aar,fAdd,aaj,fNeg,fNot,tst,SRes.of,sRet,aaM,sNil,aat,sSet,aan,aaF,aae,aaC,aao,frz,aaJ,mNew,ae5,sFor,aaS,rg,e1,et,hd]
noncomputable abbrev hB:MS:=(sSeq (sSet 5 (aae aav [] (aab (mVar 0) (aab (mC (.int 6)) mNil))))
 (sIf (mAnd (mTst (mBin fEq (mVar 5) (mC (.int 5)))) (mTst (mBin fGt (mR fLen (aab (mVar 3) mNil)) (mC (.int 0))))) (aat (mApp (mVar 3) (aab (mBin fIx (mVar 3) (mUn fNeg (mC (.int 1)))) mNil))) (sIf (mTst (mBin fEq (mVar 1) (mC (.int 2)))) (aat (mApp (mVar 3) (aab (aae adh [] (aab (mVar 0) (aab (mC (.int 2)) (aab (mBin fAdd (mC (.int 1)) (mR fInt (aab (mBin fEq (mVar 5) (mC (.int 4))) mNil))) mNil)))) mNil))) (sIf (mTst (mBin fGt (mVar 5) (mC (.int 3)))) (aat (mApp (mVar 3) (aab (aae adh [] (aab (mVar 0) (aab (mC (.int 3)) (aab (mC (.int 1)) mNil)))) mNil))) (aat (mApp (mVar 3) (aab (aae adq [] (aab (mVar 0) mNil)) mNil)))))))
theorem ap3 {n:Nat} (hn:n = 2 ∨ n = 3) (ns:List Int) (hs:List (List (List Int))) (hw:∀ xss ∈ hs,Rw n xss) (hl:hs.length ≤ 99) (x2 x4 x5:Option AV):∃ (xss:List (List Int)) (ns':List Int) (y5:Option AV),hB [some (.ref 0),some (.pv (.int (n:Int))),x2,some (.ref 1),x4,x5] [.lst (li ns),.lst (hs.map rawv)] = .nx [some (.ref 0),some (.pv (.int (n:Int))),x2,some (.ref 1),x4,y5] [.lst (li ns'),.lst ((hs ++ [xss]).map rawv)] ∧ Rw n xss:=by
 have hr:Row [.lst (li ns),.lst (hs.map rawv)] 0 ns:=rfl
 obtain ⟨t,n1,e1,t0,t1,_⟩:=abI (m:=6) hr (by decide) (sm8 (by decide) (by decide))
 simp only [List.set_cons_zero] at e1
 have e1:aav [.ref 0,.pv (.int 6)] [.lst (li ns),.lst (hs.map rawv)] = .ok (.pv (.int t)) [.lst (li n1),.lst (hs.map rawv)]:=e1
 have lz:(hs.map rawv).length < 16777216:=by rw [List.length_map]; omega
 have lz':hs.length < 16777216:=by omega
 have el:∀ xss,(hs ++ [xss]).map rawv = hs.map rawv ++ [rawv xss]:=fun xss=>by simp
 by_cases c1:t = 5 ∧ 0 < hs.length
 ·obtain ⟨v,hv,e2⟩:=ajE (hs.map rawv) .non (by
   intro z
   have:=congrArg List.length z
   simp at this
   rw [this] at c1
   simp at c1)
  obtain ⟨xss,hx,rfl⟩:=List.mem_map.mp hv
  refine ⟨xss,n1,some (.pv (.int t)),?_,hw xss hx⟩
  rw [el]
  obtain ⟨c1,c2⟩:=c1
  subst c1
  have c3:hs.map rawv ≠ []:=fun z=>by
   have:=congrArg List.length z
   simp at this
   rw [this] at c2
   simp at c2
  generalize rawv xss = RV at *
  generalize hs.map rawv = HL at *
  unfold hB
  simp [aak,sSeq,sIf,mTst,mNot,mAnd,mOr,aaE,mOrV,mIf,mBin,mUn,mR,mN,aab,mVar,mC,mNil,Res.bind,aaG,aaA,aaD,aaH,aax,rd,aaB,okO,fLen,fAbs,aam,aal,fTup,fLst,fEq,fNe,abf,aap,aaq,aas,aar,fAdd,aaj,fNeg,fNot,tst,SRes.of,sRet,aaM,sNil,aat,sSet,aan,aaF,aae,aaC,aao,frz,aaJ,e1,mApp,acM,aed,e2,lz,c3]
 ·have c1':t = 5 → hs.map rawv = []:=fun z=>by
   have:hs.length = 0:=by
    by_cases y:0 < hs.length
    ·exact absurd ⟨z,y⟩ c1
    ·omega
   rw [List.length_eq_zero_iff.mp this]
   rfl
  have cA:∀ (S:Sto) (ρ:Rho),ρ[5]? = some (some (.pv (.int t))) → ρ[3]? = some (some (.ref 1)) → S[1]? = some (.lst (hs.map rawv)) → mAnd (mTst (mBin fEq (mVar 5) (mC (.int 5)))) (mTst (mBin fGt (mR fLen (aab (mVar 3) mNil)) (mC (.int 0)))) ρ S = .ok false S:=fun S ρ h5 h3 hS=>by
   cases z:t == 5 with
   | false=>simp [aak,sSeq,sIf,mTst,mNot,mAnd,mOr,aaE,mOrV,mIf,mBin,mUn,mR,mN,aab,mVar,mC,mNil,Res.bind,aaG,aaA,aaD,aaH,aax,rd,aaB,okO,fLen,fAbs,aam,aal,fTup,fLst,fEq,fNe,abf,aap,aaq,aas,aar,fAdd,aaj,fNeg,fNot,tst,SRes.of,sRet,aaM,sNil,aat,sSet,aan,aaF,aae,aaC,aao,frz,aaJ,h5,z]
   | true =>
    rw [c1' (by simpa using z)] at hS
    simp [aak,sSeq,sIf,mTst,mNot,mAnd,mOr,aaE,mOrV,mIf,mBin,mUn,mR,mN,aab,mVar,mC,mNil,Res.bind,aaG,aaA,aaD,aaH,aax,rd,aaB,okO,fLen,fAbs,aam,aal,fTup,fLst,fEq,fNe,abf,aap,aaq,aas,aar,fAdd,aaj,fNeg,fNot,tst,SRes.of,sRet,aaM,sNil,aat,sSet,aan,aaF,aae,aaC,aao,frz,aaJ,h5,h3,hS,z]
  generalize hA:mAnd (mTst (mBin fEq (mVar 5) (mC (.int 5)))) (mTst (mBin fGt (mR fLen (aab (mVar 3) mNil)) (mC (.int 0)))) = MA at cA
  have hBe:hB = (sSeq (sSet 5 (aae aav [] (aab (mVar 0) (aab (mC (.int 6)) mNil))))
   (sIf MA (aat (mApp (mVar 3) (aab (mBin fIx (mVar 3) (mUn fNeg (mC (.int 1)))) mNil))) (sIf (mTst (mBin fEq (mVar 1) (mC (.int 2)))) (aat (mApp (mVar 3) (aab (aae adh [] (aab (mVar 0) (aab (mC (.int 2)) (aab (mBin fAdd (mC (.int 1)) (mR fInt (aab (mBin fEq (mVar 5) (mC (.int 4))) mNil))) mNil)))) mNil))) (sIf (mTst (mBin fGt (mVar 5) (mC (.int 3)))) (aat (mApp (mVar 3) (aab (aae adh [] (aab (mVar 0) (aab (mC (.int 3)) (aab (mC (.int 1)) mNil)))) mNil))) (aat (mApp (mVar 3) (aab (aae adq [] (aab (mVar 0) mNil)) mNil))))))):=by rw [← hA]
  rw [hBe]
  rcases hn with rfl | rfl
  ·obtain ⟨xss,n2,e2,hw2⟩:=ama (n:=2) (.inl rfl) (W:=1 + (if t = 4 then 1 else 0)) (by split <;> decide) (by split <;> decide) n1 (hs.map rawv)
   refine ⟨xss,n2,some (.pv (.int t)),?_,hw2⟩
   rw [el]
   have c2:((2:Nat):Int) = 2:=rfl
   rw [c2] at e2 ⊢
   have cA':=cA [.lst (li n1),.lst (hs.map rawv)] [some (.ref 0),some (.pv (.int 2)),x2,some (.ref 1),x4,some (.pv (.int t))] rfl rfl rfl
   generalize rawv xss = RV at *
   generalize hs.map rawv = HL at *
   by_cases z:t = 4
   ·subst z
    simp [aak,sSeq,sIf,mTst,mNot,mAnd,mOr,aaE,mOrV,mIf,mBin,mUn,mR,mN,aab,mVar,mC,mNil,Res.bind,aaG,aaA,aaD,aaH,aax,rd,aaB,okO,fLen,fAbs,aam,aal,fTup,fLst,fEq,fNe,abf,aap,aaq,aas,aar,fAdd,aaj,fNeg,fNot,tst,SRes.of,sRet,aaM,sNil,aat,sSet,aan,aaF,aae,aaC,aao,e1,cA',mApp,acM,aed,fInt,fz1,fz2,lz] at e2 ⊢
    simp [e2,lz]
   ·rw [if_neg z] at e2
    have z':(t == 4) = false:=by simpa using z
    simp [aak,sSeq,sIf,mTst,mNot,mAnd,mOr,aaE,mOrV,mIf,mBin,mUn,mR,mN,aab,mVar,mC,mNil,Res.bind,aaG,aaA,aaD,aaH,aax,rd,aaB,okO,fLen,fAbs,aam,aal,fTup,fLst,fEq,fNe,abf,aap,aaq,aas,aar,fAdd,aaj,fNeg,fNot,tst,SRes.of,sRet,aaM,sNil,aat,sSet,aan,aaF,aae,aaC,aao,e1,cA',mApp,acM,aed,fInt,fz1,fz2,lz,z'] at e2 ⊢
    simp [e2,lz]
  ·have c3:((3:Nat):Int) = 3:=rfl
   rw [c3]
   have cA':=cA [.lst (li n1),.lst (hs.map rawv)] [some (.ref 0),some (.pv (.int 3)),x2,some (.ref 1),x4,some (.pv (.int t))] rfl rfl rfl
   by_cases z:3 < t
   ·obtain ⟨xss,n2,e2,hw2⟩:=ama (n:=3) (.inr rfl) (W:=1) (by decide) (by decide) n1 (hs.map rawv)
    refine ⟨xss,n2,some (.pv (.int t)),?_,hw2⟩
    rw [el]
    rw [c3] at e2
    generalize rawv xss = RV at *
    generalize hs.map rawv = HL at *
    simp [aak,sSeq,sIf,mTst,mNot,mAnd,mOr,aaE,mOrV,mIf,mBin,mUn,mR,mN,aab,mVar,mC,mNil,Res.bind,aaG,aaA,aaD,aaH,aax,rd,aaB,okO,fLen,fAbs,aam,aal,fTup,fLst,fEq,fNe,abf,aap,aaq,aas,aar,fAdd,aaj,fNeg,fNot,tst,SRes.of,sRet,aaM,sNil,aat,sSet,aan,aaF,aae,aaC,aao,e1,cA',mApp,acM,aed,fz1,fz2,z]
    simp [e2,lz]
   ·obtain ⟨xss,n2,e2,hw2⟩:=anA n1 (hs.map rawv)
    refine ⟨xss,n2,some (.pv (.int t)),?_,hw2⟩
    rw [el]
    generalize rawv xss = RV at *
    generalize hs.map rawv = HL at *
    simp [aak,sSeq,sIf,mTst,mNot,mAnd,mOr,aaE,mOrV,mIf,mBin,mUn,mR,mN,aab,mVar,mC,mNil,Res.bind,aaG,aaA,aaD,aaH,aax,rd,aaB,okO,fLen,fAbs,aam,aal,fTup,fLst,fEq,fNe,abf,aap,aaq,aas,aar,fAdd,aaj,fNeg,fNot,tst,SRes.of,sRet,aaM,sNil,aat,sSet,aan,aaF,aae,aaC,aao,e1,cA',mApp,acM,aed,fz1,fz2,z,e2,lz]
theorem apq {n:Nat} (hn:n = 2 ∨ n = 3) (x2:Option AV):∀ (is:List PV) (hs:List (List (List Int))) (ns:List Int) (x4 x5:Option AV),(∀ xss ∈ hs,Rw n xss) → hs.length + is.length ≤ 99 → ∃ (hs':List (List (List Int))) (ns':List Int) (y4 y5:Option AV),
  abT [] (gN 4) hB is [some (.ref 0),some (.pv (.int (n:Int))),x2,some (.ref 1),x4,x5] [.lst (li ns),.lst (hs.map rawv)] = .nx [some (.ref 0),some (.pv (.int (n:Int))),x2,some (.ref 1),y4,y5] [.lst (li ns'),.lst (hs'.map rawv)] ∧ hs'.length = hs.length + is.length ∧ ∀ xss ∈ hs',Rw n xss
 | [],hs,ns,x4,x5,hw,_=>⟨hs,ns,x4,x5,abo,rfl,hw⟩
 | i :: is,hs,ns,x4,x5,hw,h9=>by
  have h9:hs.length + (is.length + 1) ≤ 99:=h9
  obtain ⟨xss,n1,y5,e1,r1⟩:=ap3 hn ns hs hw (by omega) x2 (some (.pv i)) x5
  obtain ⟨hs',n2,z4,z5,e2,l2,r2⟩:=apq hn x2 is (hs ++ [xss]) n1 (some (.pv i)) y5 (fun y hy=>by
   rcases List.mem_append.mp hy with z | z
   ·exact hw y z
   ·have:y = xss:=by simpa using z
    rw [this]; exact r1) (by rw [List.length_append,List.length_singleton]; omega)
  refine ⟨hs',n2,z4,z5,?_,by rw [l2,List.length_append,List.length_singleton]; show _ = hs.length + (is.length + 1); omega,r2⟩
  rw [aaY]
  simp only [gN,List.set_cons_succ,List.set_cons_zero]
  rw [e1]
  exact e2
theorem ahr {n M:Nat} (hn:n = 2 ∨ n = 3) (hM:M ≤ 8) (ns:List Int):∃ (hs:List (List (List Int))) (ns':List Int),abq [.ref 0,.pv (.int (n:Int)),.pv (.int (M:Int))] [.lst (li ns)] = .ok (.ref 1) [.lst (li ns'),.lst (hs.map rawv)] ∧ hs.length ≤ M ∧ ∀ xss ∈ hs,Rw n xss:=by
 have hr:Row [.lst (li ns),.lst []] 0 ns:=rfl
 obtain ⟨t,n1,e1,t0,t1,_⟩:=abI (m:=(M:Int) + 1) hr (by omega) (sm8 (by omega) (by omega))
 simp only [List.set_cons_zero] at e1
 have e1:aav [.ref 0,.pv (.int ((M:Int) + 1))] [.lst (li ns),.lst []] = .ok (.pv (.int t)) [.lst (li n1),.lst []]:=e1
 obtain ⟨m,rfl⟩:∃ m:Nat,t = (m:Int):=⟨t.toNat,by omega⟩
 have rg:=rgn [.lst (li n1),.lst []] (n:=m) (by omega)
 have hi:(abt 0 m).length = m:=by unfold abt; simp
 obtain ⟨hs,n2,y4,y5,e2,l2,r2⟩:=apq hn (some (.pv (.int (M:Int)))) (abt 0 m) [] n1 none none (fun _ h=>absurd h List.not_mem_nil) (by rw [hi]; show 0 + m ≤ 99; omega)
 rw [hi] at l2
 refine ⟨hs,n2,?_,by rw [l2]; show 0 + m ≤ M; omega,r2⟩
 simp only [List.map_nil] at e2
 have hb:adK = (sSeq (sSet 3 (mNew mNil))
  (sSeq (sFor (aaS (aab (aae aav [] (aab (mVar 0) (aab (mBin fAdd (mVar 2) (mC (.int 1))) mNil))) mNil)) (gN 4) hB)
  (sRet (mVar 3)))):=rfl
 unfold abq fnM
 rw [hb]
 generalize hB = HB at *
 generalize hs.map rawv = HL at *
 generalize abt 0 m = IP at *
 generalize (m:Int) = mm at *
 generalize (n:Int) = N at *
 generalize (M:Int) = MM at *
 simp [aak,sSeq,sIf,mTst,mNot,mAnd,mOr,aaE,mOrV,mIf,mBin,mUn,mR,mN,aab,mVar,mC,mNil,Res.bind,aaG,aaA,aaD,aaH,aax,rd,aaB,okO,fLen,fAbs,aam,aal,fTup,fLst,fIx,atI,ixN,fEq,fNe,eqN,aap,aaq,aas,aar,fAdd,aaj,fNeg,fNot,tst,SRes.of,sRet,aaM,sNil,aat,sSet,aan,aaF,aae,aaC,aao,frz,aaJ,mNew,ae5,sFor,aaS,e1,rg,e2]
theorem ajY {n k:Nat} {L:List Int} {b:Int} (hb:0 < b) (hl:L.length = n) (hL:∀ x ∈ L,Bd k x) (bb:Bd k b):∃ (zs:List Int) (z:Int),low (L ++ [b]) = zs ++ [z] ∧ Pq n k zs z ∧ ∀ j,j < n → zs.getD j 0 * b = L.getD j 0 * z:=by
 obtain ⟨zs,z,g,e,hg,hz,g1,g2,hzl⟩:=ahW L hb
 have hlow:=ahO L hb
 have hbd:=ah4 (k:=k) (ns:=L ++ [b]) fun m hm=>by
  rcases List.mem_append.mp hm with y | y
  ·exact hL m y
  ·have:m = b:=by simpa using y
   rw [this]; exact bb
 rw [e] at hlow hbd
 refine ⟨zs,z,e,⟨hzl.trans hl,hz,hlow,fun x hx=>hbd x (List.mem_append_left _ hx),hbd z (ab3 zs z)⟩,fun j hj=>?_⟩
 have hj':j < zs.length:=by omega
 have e1:L.getD j 0 = g * zs.getD j 0:=by
  rw [g1]
  simp [List.getD,hj']
 rw [e1,g2]
 grind
structure Sp (u:Int × Int):Prop where
 p:0 < u.1
 q:0 < u.2
 bp:Bd 30 u.1
 bq:Bd 30 u.2
theorem p9:fPow (.int 10) (.int 9) = some (.int 1000000000):=af7 (i:=10) (j:=9) ⟨by decide,by decide,by decide⟩
theorem p6:fPow (.int 10) (.int 6) = some (.int 1000000):=af7 (i:=10) (j:=6) ⟨by decide,by decide,by decide⟩
theorem st3 {v:Int} (h0:0 ≤ v) (h1:v < 3):∃ M N:Int,fIx (.lst [.int 1,.int 7,.int 1000000000]) (.int v) = some (.int M) ∧ fIx (.lst [.int 1,.int 7,.int 1000000]) (.int v) = some (.int N) ∧ 0 < M ∧ M ≤ 1000000000 ∧ 0 < N ∧ N ≤ 1000000:=by
 have:v = 0 ∨ v = 1 ∨ v = 2:=by omega
 rcases this with rfl | rfl | rfl
 ·exact ⟨1,1,rfl,rfl,by decide,by decide,by decide,by decide⟩
 ·exact ⟨7,7,rfl,rfl,by decide,by decide,by decide,by decide⟩
 ·exact ⟨1000000000,1000000,rfl,rfl,by decide,by decide,by decide,by decide⟩
noncomputable abbrev sB:MS:=(sSeq (sSet 4 (aae aav [] (aab (mVar 0) (aab (mC (.int 3)) mNil))))
 (aat (mApp (mVar 2) (aab (aae adP [] (aab (mBin fAdd (mC (.int 1)) (aae aav [] (aab (mVar 0) (aab (mBin fIx (mN fLst (aab (mC (.int 1)) (aab (mC (.int 7)) (aab (mBin fPow (mC (.int 10)) (mC (.int 9))) mNil)))) (mVar 4)) mNil)))) (aab (mBin fAdd (mC (.int 1)) (aae aav [] (aab (mVar 0) (aab (mBin fIx (mN fLst (aab (mC (.int 1)) (aab (mC (.int 7)) (aab (mBin fPow (mC (.int 10)) (mC (.int 6))) mNil)))) (mVar 4)) mNil)))) mNil))) mNil))))
theorem apV (ns:List Int) (fs:List (Int × Int)) (hl:fs.length ≤ 9) (x1 x3 x4:Option AV):∃ (u:Int × Int) (ns':List Int) (y4:Option AV),sB [some (.ref 0),x1,some (.ref 1),x3,x4] [.lst (li ns),.lst (fs.map fv)] = .nx [some (.ref 0),x1,some (.ref 1),x3,y4] [.lst (li ns'),.lst ((fs ++ [u]).map fv)] ∧ Sp u:=by
 have hr:∀ ms,Row [.lst (li ms),.lst (fs.map fv)] 0 ms:=fun _=>rfl
 obtain ⟨c,n1,e1,c0,c1,_⟩:=abI (m:=3) (hr ns) (by decide) (sm8 (by decide) (by decide))
 obtain ⟨M,N,em,en,M0,M1,N0,N1⟩:=st3 c0 c1
 have bM:Bd 8000 M:=(Bd.of (k:=30) (n:=1000000000) (by omega) (by decide)).mono (by decide)
 have bN:Bd 8000 N:=(Bd.of (k:=30) (n:=1000000000) (by omega) (by decide)).mono (by decide)
 obtain ⟨t,n2,e2,t0,t1,_⟩:=abI (m:=M) (hr n1) M0 bM
 obtain ⟨v,n3,e3,v0,v1,_⟩:=abI (m:=N) (hr n2) N0 bN
 simp only [List.set_cons_zero] at e1 e2 e3
 have bt:Bd 30 (1 + t):=Bd.of (n:=1000000000) (by omega) (by decide)
 have bv:Bd 30 (1 + v):=Bd.of (n:=1000000000) (by omega) (by decide)
 have nz:1 + v ≠ 0:=by omega
 have e4:=amM (1 + t) (1 + v) [.lst (li n3),.lst (fs.map fv)] (bt.mono (by decide)) (bv.mono (by decide))
 obtain ⟨p,q,ef,hq,hpq⟩:=ap8 (t:=1 + t) nz
 obtain ⟨b1,b2⟩:=apE bt bv ef
 have hp:0 < p:=by
  have h1:0 < (1 + t) * q:=Int.mul_pos (by omega) hq
  rw [← hpq] at h1
  exact Int.pos_of_mul_pos_left h1 (by omega)
 rw [ef] at e4
 simp only [List.map_cons,List.map_nil] at e4
 refine ⟨(p,q),n3,some (.pv (.int c)),?_,⟨hp,hq,b1,b2⟩⟩
 have el:(fs ++ [(p,q)]).map fv = fs.map fv ++ [.tup [.int p,.int q]]:=by simp
 rw [el]
 have lz:(fs.map fv).length < 16777216:=by rw [List.length_map]; omega
 have e1:aav [.ref 0,.pv (.int 3)] [.lst (li ns),.lst (fs.map fv)] = .ok (.pv (.int c)) [.lst (li n1),.lst (fs.map fv)]:=e1
 have e2:aav [.ref 0,.pv (.int M)] [.lst (li n1),.lst (fs.map fv)] = .ok (.pv (.int t)) [.lst (li n2),.lst (fs.map fv)]:=e2
 have e3:aav [.ref 0,.pv (.int N)] [.lst (li n2),.lst (fs.map fv)] = .ok (.pv (.int v)) [.lst (li n3),.lst (fs.map fv)]:=e3
 generalize fs.map fv = FL at *
 unfold sB
 simp [aak,sSeq,sIf,mTst,mNot,mAnd,mOr,aaE,mOrV,mIf,mBin,mUn,mR,mN,aab,mVar,mC,mNil,Res.bind,aaG,aaA,aaD,aaH,aax,rd,aaB,okO,fLen,fAbs,aam,aal,fTup,fLst,fEq,fNe,abf,aap,aaq,aas,aar,fAdd,aaj,fNeg,fNot,tst,SRes.of,sRet,aaM,sNil,aat,sSet,aan,aaF,aae,aaC,aao,frz,aaJ,e1,p9,p6,em,en,e2,e3,e4,mApp,acM,aed,lz]
theorem anZ (x1:Option AV):∀ (is:List PV) (fs:List (Int × Int)) (ns:List Int) (x3 x4:Option AV),(∀ u ∈ fs,Sp u) → fs.length + is.length ≤ 9 → ∃ (fs':List (Int × Int)) (ns':List Int) (y3 y4:Option AV),
  abT [] (gN 3) sB is [some (.ref 0),x1,some (.ref 1),x3,x4] [.lst (li ns),.lst (fs.map fv)] = .nx [some (.ref 0),x1,some (.ref 1),y3,y4] [.lst (li ns'),.lst (fs'.map fv)] ∧ fs'.length = fs.length + is.length ∧ ∀ u ∈ fs',Sp u
 | [],fs,ns,x3,x4,hw,_=>⟨fs,ns,x3,x4,abo,rfl,hw⟩
 | i :: is,fs,ns,x3,x4,hw,h9=>by
  have h9:fs.length + (is.length + 1) ≤ 9:=h9
  obtain ⟨u,n1,y4,e1,r1⟩:=apV ns fs (by omega) x1 (some (.pv i)) x4
  obtain ⟨fs',n2,z3,z4,e2,l2,r2⟩:=anZ x1 is (fs ++ [u]) n1 (some (.pv i)) y4 (fun y hy=>by
   rcases List.mem_append.mp hy with z | z
   ·exact hw y z
   ·have:y = u:=by simpa using z
    rw [this]; exact r1) (by rw [List.length_append,List.length_singleton]; omega)
  refine ⟨fs',n2,z3,z4,?_,by rw [l2,List.length_append,List.length_singleton]; show _ = fs.length + (is.length + 1); omega,r2⟩
  rw [aaY]
  simp only [gN,List.set_cons_succ,List.set_cons_zero]
  rw [e1]
  exact e2
theorem ai2 {n:Nat} (hn:n = 2 ∨ n = 3) (ns:List Int):∃ (fs:List (Int × Int)) (ns':List Int),abH [.ref 0,.pv (.int (n:Int))] [.lst (li ns)] = .ok (.ref 1) [.lst (li ns'),.lst (fs.map fv)] ∧ fs.length = n ∧ ∀ u ∈ fs,Sp u:=by
 have hi:(abt 0 n).length = n:=by unfold abt; simp
 have rg:=rgn [.lst (li ns),.lst []] (n:=n) (by omega)
 obtain ⟨fs,n2,y3,y4,e2,l2,r2⟩:=anZ (some (.pv (.int (n:Int)))) (abt 0 n) [] ns none none (fun _ h=>absurd h List.not_mem_nil) (by rw [hi]; show 0 + n ≤ 9; omega)
 rw [hi] at l2
 refine ⟨fs,n2,?_,by rw [l2]; show 0 + n = n; omega,r2⟩
 simp only [List.map_nil] at e2
 have hb:aeo = (sSeq (sSet 2 (mNew mNil)) (sSeq (sFor (aaS (aab (mVar 1) mNil)) (gN 3) sB) (sRet (mVar 2)))):=rfl
 unfold abH fnM
 rw [hb]
 generalize sB = SB at *
 generalize fs.map fv = FL at *
 generalize abt 0 n = IP at *
 generalize (n:Int) = N at *
 simp [aak,sSeq,sIf,mTst,mNot,mAnd,mOr,aaE,mOrV,mIf,mBin,mUn,mR,mN,aab,mVar,mC,mNil,Res.bind,aaG,aaA,aaD,aaH,aax,rd,aaB,okO,fLen,fAbs,aam,aal,fTup,fLst,fIx,atI,ixN,fEq,fNe,eqN,aap,aaq,aas,aar,fAdd,aaj,fNeg,fNot,tst,SRes.of,sRet,aaM,sNil,aat,sSet,aan,aaF,aae,aaC,aao,frz,aaJ,mNew,ae5,sFor,aaS,rg,e2]
def spU:List (Int × Int) → List Int → List Int
 | [u,v],[a,b]=>low ([a * u.1 * v.2,b * v.1 * u.2] ++ [1 * u.2 * v.2])
 | [u,v,t],[a,b,c]=>low ([a * u.1 * (v.2 * t.2),b * v.1 * (u.2 * t.2),c * t.1 * (u.2 * v.2)] ++ [1 * u.2 * v.2 * t.2])
 | _,_=>[]
def spA:List (Int × Int) → Nat → Int
 | [u,v],0=>u.1 * v.2
 | [u,v],1=>v.1 * u.2
 | [u,v,t],0=>u.1 * (v.2 * t.2)
 | [u,v,t],1=>v.1 * (u.2 * t.2)
 | [u,v,t],2=>t.1 * (u.2 * v.2)
 | _,_=>1
def spE:List (Int × Int) → Int
 | [u,v]=>1 * u.2 * v.2
 | [u,v,t]=>1 * u.2 * v.2 * t.2
 | _=>1
theorem ahy {n:Nat} (hn:n = 2 ∨ n = 3) (S:Sto) {fs:List (Int × Int)} {xs:List Int} (hf:fs.length = n) (h:∀ u ∈ fs,Sp u) (hx:xs.length = n) (hb:∀ x ∈ xs,-8 < x ∧ x < 8):acZ [.pv (lv xs),.pv (.lst (fs.map fv))] S = .ok (.pv (tv (spU fs xs))) S ∧ Gu n 100 (spU fs xs) ∧ AffU n (spA fs) (fun _=>0) (spE fs) (xs ++ [1]) (spU fs xs):=by
 have b3:∀ {x:Int},-8 < x ∧ x < 8 → Bd 3 x:=fun h=>by
  unfold Bd
  have:(2:Nat) ^ 3 = 8:=rfl
  omega
 have o1:Bd 1 (1:Int):=by unfold Bd; decide
 rcases hn with rfl | rfl
 ·match fs,hf,h,xs,hx,hb with
  | [u,v],_,h,[a,b],_,hb =>
   have hu:=h u (by simp)
   have hv:=h v (by simp)
   have ba:=b3 (hb a (by simp))
   have bb:=b3 (hb b (by simp))
   have m1:=mk o1 hu.bq (by decide) (by decide)
   have m2:=mk (o1.mul hu.bq) hv.bq (by decide) (by decide)
   have d1:(1 * u.2 * v.2).fdiv u.2 = v.2:=by rw [Int.one_mul]; exact acm (by have:=hu.q; omega)
   have d2:(1 * u.2 * v.2).fdiv v.2 = u.2:=by rw [Int.one_mul,Int.mul_comm]; exact acm (by have:=hv.q; omega)
   have q1:adA (.int (1 * u.2 * v.2)) (.int u.2) = some (.int v.2):=by
    have e:=ade (i:=1 * u.2 * v.2) (j:=u.2) ⟨by have:=hu.q; omega,hu.bq.mono (by decide)⟩
    rw [d1] at e
    exact e
   have q2:adA (.int (1 * u.2 * v.2)) (.int v.2) = some (.int u.2):=by
    have e:=ade (i:=1 * u.2 * v.2) (j:=v.2) ⟨by have:=hv.q; omega,hv.bq.mono (by decide)⟩
    rw [d2] at e
    exact e
   have m3:=mk ba hu.bp (by decide) (by decide)
   have m4:=mk (ba.mul hu.bp) hv.bq (by decide) (by decide)
   have m5:=mk bb hv.bp (by decide) (by decide)
   have m6:=mk (bb.mul hv.bp) hu.bq (by decide) (by decide)
   have pE:0 < 1 * u.2 * v.2:=Int.mul_pos (Int.mul_pos (by decide) hu.q) hv.q
   have bL:∀ x ∈ [a * u.1 * v.2,b * v.1 * u.2],Bd 100 x:=by
    simp
    exact ⟨((ba.mul hu.bp).mul hv.bq).mono (by decide),((bb.mul hv.bp).mul hu.bq).mono (by decide)⟩
   have bE:Bd 100 (1 * u.2 * v.2):=((o1.mul hu.bq).mul hv.bq).mono (by decide)
   obtain ⟨zs,z,el,Z,rel⟩:=ajY (n:=2) pE rfl bL bE
   have ew:=acA ([a * u.1 * v.2,b * v.1 * u.2] ++ [1 * u.2 * v.2]) S (by
    intro x hx
    rcases List.mem_append.mp hx with y | y
    ·exact (bL x y).mono (by decide)
    ·have:x = 1 * u.2 * v.2:=by simpa using y
     rw [this]; exact bE.mono (by decide))
   have es:spU [u,v] [a,b] = zs ++ [z]:=el
   refine ⟨?_,by rw [es]; exact ⟨zs,z,rfl,Z⟩,[a,b],1,zs,z,rfl,es,rfl,Z.len,by decide,Z.pos,fun j hj=>?_⟩
   ·rw [el] at ew
    rw [es]
    simp only [List.map_cons,List.map_nil,List.cons_append,List.nil_append] at ew
    generalize hQ:1 * u.2 * v.2 = Q at *
    generalize hA:a * u.1 * v.2 = A at *
    generalize hB:b * v.1 * u.2 = B at *
    unfold acZ fnM age
    simp only [lv,li,List.map_cons,List.map_nil]
    simp only [tv]
    generalize (zs ++ [z]).map PV.int = ZL at *
    simp only [Int.one_mul] at m1 m2 hQ
    simp [aak,sSeq,sIf,mTst,mNot,mAnd,mOr,aaE,mOrV,mIf,mBin,mUn,mR,mN,aab,mVar,mC,mNil,Res.bind,aaG,aaA,aaD,aaH,aax,rd,aaB,okO,fLen,fAbs,aam,aal,fTup,fLst,fIx,atI,ixN,fEq,fNe,eqN,aap,aaq,aas,aar,fAdd,aaj,fNeg,fNot,tst,SRes.of,sRet,aaM,sNil,aat,sSet,aan,aaF,aae,aaC,aao,frz,aaJ,sFor,mIt,abx,aaY,abo,gN,m1,m2,aaW,cmpR,mZip,afw,zipP,aaP,aaR,gT,abc,acK,m3,m4,m5,m6,q1,q2,ew]
   ·have r:=rel j hj
    match j,hj with
    | 0,_ =>
     have r:zs.getD 0 0 * (1 * u.2 * v.2) = a * u.1 * v.2 * z:=r
     show zs.getD 0 0 * (1 * u.2 * v.2 * 1) = (u.1 * v.2 * a + 0 * 1) * z
     rw [Int.mul_one,r]
     grind
    | 1,_ =>
     have r:zs.getD 1 0 * (1 * u.2 * v.2) = b * v.1 * u.2 * z:=r
     show zs.getD 1 0 * (1 * u.2 * v.2 * 1) = (v.1 * u.2 * b + 0 * 1) * z
     rw [Int.mul_one,r]
     grind
 ·match fs,hf,h,xs,hx,hb with
  | [u,v,t],_,h,[a,b,c],_,hb =>
   have hu:=h u (by simp)
   have hv:=h v (by simp)
   have ht:=h t (by simp)
   have ba:=b3 (hb a (by simp))
   have bb:=b3 (hb b (by simp))
   have bc:=b3 (hb c (by simp))
   have m1:=mk o1 hu.bq (by decide) (by decide)
   have m2:=mk (o1.mul hu.bq) hv.bq (by decide) (by decide)
   have m2':=mk ((o1.mul hu.bq).mul hv.bq) ht.bq (by decide) (by decide)
   have d1:(1 * u.2 * v.2 * t.2).fdiv u.2 = v.2 * t.2:=by rw [Int.one_mul,Int.mul_assoc]; exact acm (by have:=hu.q; omega)
   have d2:(1 * u.2 * v.2 * t.2).fdiv v.2 = u.2 * t.2:=by rw [show 1 * u.2 * v.2 * t.2 = v.2 * (u.2 * t.2) by grind]; exact acm (by have:=hv.q; omega)
   have d3:(1 * u.2 * v.2 * t.2).fdiv t.2 = u.2 * v.2:=by rw [show 1 * u.2 * v.2 * t.2 = t.2 * (u.2 * v.2) by grind]; exact acm (by have:=ht.q; omega)
   have q1:adA (.int (1 * u.2 * v.2 * t.2)) (.int u.2) = some (.int (v.2 * t.2)):=by
    have e:=ade (i:=1 * u.2 * v.2 * t.2) (j:=u.2) ⟨by have:=hu.q; omega,hu.bq.mono (by decide)⟩
    rw [d1] at e
    exact e
   have q2:adA (.int (1 * u.2 * v.2 * t.2)) (.int v.2) = some (.int (u.2 * t.2)):=by
    have e:=ade (i:=1 * u.2 * v.2 * t.2) (j:=v.2) ⟨by have:=hv.q; omega,hv.bq.mono (by decide)⟩
    rw [d2] at e
    exact e
   have q3:adA (.int (1 * u.2 * v.2 * t.2)) (.int t.2) = some (.int (u.2 * v.2)):=by
    have e:=ade (i:=1 * u.2 * v.2 * t.2) (j:=t.2) ⟨by have:=ht.q; omega,ht.bq.mono (by decide)⟩
    rw [d3] at e
    exact e
   have m3:=mk ba hu.bp (by decide) (by decide)
   have m4:=mk (ba.mul hu.bp) (hv.bq.mul ht.bq) (by decide) (by decide)
   have m5:=mk bb hv.bp (by decide) (by decide)
   have m6:=mk (bb.mul hv.bp) (hu.bq.mul ht.bq) (by decide) (by decide)
   have m7:=mk bc ht.bp (by decide) (by decide)
   have m8:=mk (bc.mul ht.bp) (hu.bq.mul hv.bq) (by decide) (by decide)
   have pE:0 < 1 * u.2 * v.2 * t.2:=Int.mul_pos (Int.mul_pos (Int.mul_pos (by decide) hu.q) hv.q) ht.q
   have bL:∀ x ∈ [a * u.1 * (v.2 * t.2),b * v.1 * (u.2 * t.2),c * t.1 * (u.2 * v.2)],Bd 100 x:=by
    simp
    exact ⟨((ba.mul hu.bp).mul (hv.bq.mul ht.bq)).mono (by decide),((bb.mul hv.bp).mul (hu.bq.mul ht.bq)).mono (by decide),((bc.mul ht.bp).mul (hu.bq.mul hv.bq)).mono (by decide)⟩
   have bE:Bd 100 (1 * u.2 * v.2 * t.2):=(((o1.mul hu.bq).mul hv.bq).mul ht.bq).mono (by decide)
   obtain ⟨zs,z,el,Z,rel⟩:=ajY (n:=3) pE rfl bL bE
   have ew:=acA ([a * u.1 * (v.2 * t.2),b * v.1 * (u.2 * t.2),c * t.1 * (u.2 * v.2)] ++ [1 * u.2 * v.2 * t.2]) S (by
    intro x hx
    rcases List.mem_append.mp hx with y | y
    ·exact (bL x y).mono (by decide)
    ·have:x = 1 * u.2 * v.2 * t.2:=by simpa using y
     rw [this]; exact bE.mono (by decide))
   have es:spU [u,v,t] [a,b,c] = zs ++ [z]:=el
   refine ⟨?_,by rw [es]; exact ⟨zs,z,rfl,Z⟩,[a,b,c],1,zs,z,rfl,es,rfl,Z.len,by decide,Z.pos,fun j hj=>?_⟩
   ·rw [el] at ew
    rw [es]
    simp only [List.map_cons,List.map_nil,List.cons_append,List.nil_append] at ew
    generalize hQ:1 * u.2 * v.2 * t.2 = Q at *
    generalize hA:a * u.1 * (v.2 * t.2) = A at *
    generalize hB:b * v.1 * (u.2 * t.2) = B at *
    generalize hC:c * t.1 * (u.2 * v.2) = C at *
    unfold acZ fnM age
    simp only [lv,li,List.map_cons,List.map_nil]
    simp only [tv]
    generalize (zs ++ [z]).map PV.int = ZL at *
    simp only [Int.one_mul] at m1 m2 m2' hQ
    simp [aak,sSeq,sIf,mTst,mNot,mAnd,mOr,aaE,mOrV,mIf,mBin,mUn,mR,mN,aab,mVar,mC,mNil,Res.bind,aaG,aaA,aaD,aaH,aax,rd,aaB,okO,fLen,fAbs,aam,aal,fTup,fLst,fIx,atI,ixN,fEq,fNe,eqN,aap,aaq,aas,aar,fAdd,aaj,fNeg,fNot,tst,SRes.of,sRet,aaM,sNil,aat,sSet,aan,aaF,aae,aaC,aao,frz,aaJ,sFor,mIt,abx,aaY,abo,gN,m1,m2,m2',aaW,cmpR,mZip,afw,zipP,aaP,aaR,gT,abc,acK,m3,m4,m5,m6,m7,m8,q1,q2,q3,ew]
   ·have r:=rel j hj
    match j,hj with
    | 0,_ =>
     have r:zs.getD 0 0 * (1 * u.2 * v.2 * t.2) = a * u.1 * (v.2 * t.2) * z:=r
     show zs.getD 0 0 * (1 * u.2 * v.2 * t.2 * 1) = (u.1 * (v.2 * t.2) * a + 0 * 1) * z
     rw [Int.mul_one,r]
     grind
    | 1,_ =>
     have r:zs.getD 1 0 * (1 * u.2 * v.2 * t.2) = b * v.1 * (u.2 * t.2) * z:=r
     show zs.getD 1 0 * (1 * u.2 * v.2 * t.2 * 1) = (v.1 * (u.2 * t.2) * b + 0 * 1) * z
     rw [Int.mul_one,r]
     grind
    | 2,_ =>
     have r:zs.getD 2 0 * (1 * u.2 * v.2 * t.2) = c * t.1 * (u.2 * v.2) * z:=r
     show zs.getD 2 0 * (1 * u.2 * v.2 * t.2 * 1) = (t.1 * (u.2 * v.2) * c + 0 * 1) * z
     rw [Int.mul_one,r]
     grind
theorem ann {n:Nat} (hn:n = 2 ∨ n = 3) {fs:List (Int × Int)} (hf:fs.length = n) (h:∀ u ∈ fs,Sp u):0 < spE fs ∧ ∀ j,j < n → 0 < spA fs j:=by
 rcases hn with rfl | rfl
 ·match fs,hf,h with
  | [u,v],_,h =>
   have hu:=h u (by simp)
   have hv:=h v (by simp)
   refine ⟨Int.mul_pos (Int.mul_pos (by decide) hu.q) hv.q,fun j hj=>?_⟩
   match j,hj with
   | 0,_=>exact Int.mul_pos hu.p hv.q
   | 1,_=>exact Int.mul_pos hv.p hu.q
 ·match fs,hf,h with
  | [u,v,t],_,h =>
   have hu:=h u (by simp)
   have hv:=h v (by simp)
   have ht:=h t (by simp)
   refine ⟨Int.mul_pos (Int.mul_pos (Int.mul_pos (by decide) hu.q) hv.q) ht.q,fun j hj=>?_⟩
   match j,hj with
   | 0,_=>exact Int.mul_pos hu.p (Int.mul_pos hv.q ht.q)
   | 1,_=>exact Int.mul_pos hv.p (Int.mul_pos hu.q ht.q)
   | 2,_=>exact Int.mul_pos ht.p (Int.mul_pos hu.q hv.q)
theorem alw {n:Nat} (hn:n = 2 ∨ n = 3) {fs:List (Int × Int)} (hf:fs.length = n) (h:∀ u ∈ fs,Sp u) {xss:List (List Int)} (w:Rw n xss):dU (xss.map (spU fs)) ≠ 0:=fun z=>by
 have af:∀ xs ∈ xss,AffU n (spA fs) (fun _=>0) (spE fs) (xs ++ [1]) (spU fs xs):=fun xs hx=>(ahy hn [] hf h (w.l xs hx) (w.b xs hx)).2.2
 have gu:∀ us ∈ xss.map (spU fs),Gu n 100 us:=fun us hu=>by
  obtain ⟨xs,hx,rfl⟩:=List.mem_map.mp hu
  exact (ahy hn [] hf h (w.l xs hx) (w.b xs hx)).2.1
 have p2:=ahn gu
 obtain ⟨pe,pa⟩:=ann hn hf h
 have nz:=w.nz
 have wl:=w.len
 clear w
 rcases hn with rfl | rfl
 ·match xss,wl,af,nz,p2,z with
  | [a,b,c],_,af,nz,p2,z =>
   have e:=vol2 (af a (by simp)) (af b (by simp)) (af c (by simp))
   have z:dU [spU fs a,spU fs b,spU fs c] = 0:=z
   rw [z,Int.zero_mul] at e
   exact Int.mul_ne_zero (Int.mul_ne_zero (Int.ne_of_gt (Int.mul_pos (Int.mul_pos (pa 0 (by decide)) (pa 1 (by decide))) pe)) nz) (Int.ne_of_gt p2) e.symm
 ·match xss,wl,af,nz,p2,z with
  | [a,b,c,d],_,af,nz,p2,z =>
   have e:=vol3 (af a (by simp)) (af b (by simp)) (af c (by simp)) (af d (by simp))
   have z:dU [spU fs a,spU fs b,spU fs c,spU fs d] = 0:=z
   rw [z,Int.zero_mul] at e
   exact Int.mul_ne_zero (Int.mul_ne_zero (Int.ne_of_gt (Int.mul_pos (Int.mul_pos (Int.mul_pos (pa 0 (by decide)) (pa 1 (by decide))) (pa 2 (by decide))) pe)) nz) (Int.ne_of_gt p2) e.symm
noncomputable abbrev lB:MS:=(sSeq (sSet 5 (aae adH [] (aab (mVar 0) (aab (mR fLen (aab (mVar 2) mNil)) mNil))))
 (aat (mApp (mVar 3) (aab (aae aba [] (aab (aaW ["_law_corner"] [(5,"_law_far_here"),(2,"_law_stretch_here")] (mIt (mVar 4)) (gN 0) (aae abe [] (aab (aae acZ [] (aab (mVar 0) (aab (mVar 2) mNil))) (aab (mVar 1) (aab (mC (.int 1)) mNil))))) mNil)) mNil))))
theorem aqa {n:Nat} (hn:n = 2 ∨ n = 3) (ns:List Int) {fs:List (Int × Int)} (hf:fs.length = n) (h:∀ u ∈ fs,Sp u) (gs:List (List (List Int))) (hg:gs.length ≤ 99) {xss:List (List Int)} (w:Rw n xss) (x1 x5:Option AV):∃ (uss:List (List Int)) (ns':List Int) (y5:Option AV),lB [some (.ref 0),x1,some (.pv (.lst (fs.map fv))),some (.ref 1),some (.pv (rawv xss)),x5] [.lst (li ns),.lst (gs.map px)] = .nx [some (.ref 0),x1,some (.pv (.lst (fs.map fv))),some (.ref 1),some (.pv (rawv xss)),y5] [.lst (li ns'),.lst ((gs ++ [uss]).map px)] ∧ Sx n 201 uss:=by
 have hr:Row [.lst (li ns),.lst (gs.map px)] 0 ns:=rfl
 obtain ⟨v,n1,e1,G⟩:=farg n hn hr
 simp only [List.set_cons_zero] at e1
 have e1:adH [.ref 0,.pv (.int (n:Int))] [.lst (li ns),.lst (gs.map px)] = .ok (.pv v) [.lst (li n1),.lst (gs.map px)]:=e1
 obtain ⟨ys,y,rfl,P⟩:=G
 have Gf:Gu n 100 (ys ++ [y]):=⟨ys,y,rfl,P⟩
 generalize ys ++ [y] = f at *
 have sp:=fun S xs (hx:xs ∈ xss)=>ahy hn S hf h (w.l xs hx) (w.b xs hx)
 have gu:∀ us ∈ xss.map (spU fs),Gu n 100 us:=fun us hu=>by
  obtain ⟨xs,hx,rfl⟩:=List.mem_map.mp hu
  exact (sp [] xs hx).2.1
 have hl:(xss.map (spU fs)).length = n + 1:=by rw [List.length_map]; exact w.len
 have nz:=alw hn hf h w
 have nz2:=apC hn (way:=1) (.inl rfl) hl gu Gf nz
 have gu2:=akk (way:=1) (.inl rfl) gu Gf
 have l2:((xss.map (spU fs)).map (mvU 1 f)).length = n + 1:=by rw [List.length_map]; exact hl
 have S1:=an3 hn (k:=100 + 100 + 1) (by decide) l2 gu2 nz2
 refine ⟨_,n1,some (.pv (tv f)),?_,S1⟩
 have el:(gs ++ [cnr ((xss.map (spU fs)).map (mvU 1 f))]).map px = gs.map px ++ [px (cnr ((xss.map (spU fs)).map (mvU 1 f)))]:=by simp
 rw [el]
 have lz:(gs.map px).length < 16777216:=by rw [List.length_map]; omega
 have ln:((fs.map fv).length:Int) = (n:Int):=by rw [List.length_map,hf]
 have ec:aa9 [] (gN 0) (aae abe [] (aab (aae acZ [] (aab (mVar 0) (aab (mVar 2) mNil))) (aab (mVar 1) (aab (mC (.int 1)) mNil)))) (xss.map lv) [none,some (.pv (tv f)),some (.pv (.lst (fs.map fv)))] [.lst (li n1),.lst (gs.map px)] = .ok (xss.map fun xs=>tv (mvU 1 f (spU fs xs))) [.lst (li n1),.lst (gs.map px)]:=by
  refine ae4 (aeb _) lv (fun xs=>tv (mvU 1 f (spU fs xs))) xss none fun xs hx=>?_
  have a1:=(sp [.lst (li n1),.lst (gs.map px)] xs hx).1
  have a2:=agh (way:=1) [.lst (li n1),.lst (gs.map px)] hn (.inl rfl) (sp [] xs hx).2.1 Gf (by decide) (by decide)
  generalize tv (mvU 1 f (spU fs xs)) = T1 at *
  generalize tv (spU fs xs) = T2 at *
  generalize lv xs = T3 at *
  generalize tv f = T4 at *
  generalize fs.map fv = FL at *
  generalize gs.map px = GL at *
  simp [aak,sSeq,sIf,mTst,mNot,mAnd,mOr,aaE,mOrV,mIf,mBin,mUn,mR,mN,aab,mVar,mC,mNil,Res.bind,aaG,aaA,aaD,aaH,aax,rd,aaB,okO,fLen,fAbs,aam,aal,fTup,fLst,fIx,atI,ixN,fEq,fNe,eqN,aap,aaq,aas,aar,fAdd,aaj,fNeg,fNot,tst,SRes.of,sRet,aaM,sNil,aat,sSet,aan,aaF,aae,aaC,aao,frz,aaJ,a1,a2]
 have es:=adQ (uss:=(xss.map (spU fs)).map (mvU 1 f)) (A:=.lst (((xss.map (spU fs)).map (mvU 1 f)).map tv)) hn [.lst (li n1),.lst (gs.map px)] l2 (fun us hu=>(gu2 us hu).mono (by decide)) (.inl rfl)
 have em:((xss.map (spU fs)).map (mvU 1 f)).map tv = xss.map fun xs=>tv (mvU 1 f (spU fs xs)):=by rw [List.map_map,List.map_map]; rfl
 rw [em] at es
 have hv:rawv xss = .lst (xss.map lv):=rfl
 have hp:∀ L:List (List Int),px L = .tup (L.map tv):=fun _=>rfl
 rw [hv,hp]
 clear S1 nz2 gu2 l2 nz hl gu sp
 generalize (cnr ((xss.map (spU fs)).map (mvU 1 f))).map tv = PX at *
 generalize (xss.map fun xs=>tv (mvU 1 f (spU fs xs))) = TL at *
 generalize xss.map lv = XL at *
 generalize fs.map fv = FL at *
 generalize gs.map px = GL at *
 generalize (n:Int) = N at *
 have e1:adH [.ref 0,.pv (.int N)] [.lst (li ns),.lst GL] = .ok (.pv (tv f)) [.lst (li n1),.lst GL]:=e1
 generalize tv f = TF at *
 unfold lB
 simp [aak,sSeq,sIf,mTst,mNot,mAnd,mOr,aaE,mOrV,mIf,mBin,mUn,mR,mN,aab,mVar,mC,mNil,Res.bind,aaG,aaA,aaD,aaH,aax,rd,aaB,okO,fLen,fAbs,aam,aal,fTup,fLst,fIx,atI,ixN,fEq,fNe,eqN,aap,aaq,aas,aar,fAdd,aaj,fNeg,fNot,tst,SRes.of,sRet,aaM,sNil,aat,sSet,aan,aaF,aae,aaC,aao,frz,aaJ,ln,e1,mApp,acM,aed,aaW,cmpR,mIt,abx,ec,es,lz]
theorem aoX {n:Nat} (hn:n = 2 ∨ n = 3) {fs:List (Int × Int)} (hf:fs.length = n) (h:∀ u ∈ fs,Sp u) (x1:Option AV):∀ (hs:List (List (List Int))) (gs:List (List (List Int))) (ns:List Int) (x4 x5:Option AV),(∀ xss ∈ hs,Rw n xss) → (∀ uss ∈ gs,Sx n 201 uss) → gs.length + hs.length ≤ 99 → ∃ (gs':List (List (List Int))) (ns':List Int) (y4 y5:Option AV),
  abT [] (gN 4) lB (hs.map rawv) [some (.ref 0),x1,some (.pv (.lst (fs.map fv))),some (.ref 1),x4,x5] [.lst (li ns),.lst (gs.map px)] = .nx [some (.ref 0),x1,some (.pv (.lst (fs.map fv))),some (.ref 1),y4,y5] [.lst (li ns'),.lst (gs'.map px)] ∧ gs'.length = gs.length + hs.length ∧ ∀ uss ∈ gs',Sx n 201 uss
 | [],gs,ns,x4,x5,_,hg,_=>⟨gs,ns,x4,x5,abo,rfl,hg⟩
 | xss :: hs,gs,ns,x4,x5,hw,hg,h9=>by
  have h9:gs.length + (hs.length + 1) ≤ 99:=h9
  obtain ⟨uss,n1,y5,e1,r1⟩:=aqa hn ns hf h gs (by omega) (hw xss List.mem_cons_self) x1 x5
  obtain ⟨gs',n2,z4,z5,e2,l2,r2⟩:=aoX hn hf h x1 hs (gs ++ [uss]) n1 (some (.pv (rawv xss))) y5 (fun y hy=>hw y (List.mem_cons_of_mem _ hy)) (fun y hy=>by
   rcases List.mem_append.mp hy with z | z
   ·exact hg y z
   ·have:y = uss:=by simpa using z
    rw [this]; exact r1) (by rw [List.length_append,List.length_singleton]; omega)
  refine ⟨gs',n2,z4,z5,?_,by rw [l2,List.length_append,List.length_singleton]; show _ = gs.length + (hs.length + 1); omega,r2⟩
  rw [List.map_cons,aaY]
  simp only [gN,List.set_cons_succ,List.set_cons_zero]
  rw [e1]
  exact e2
theorem anP {n:Nat} (hn:n = 2 ∨ n = 3) (ns:List Int) {fs:List (Int × Int)} (hf:fs.length = n) (h:∀ u ∈ fs,Sp u) {hs:List (List (List Int))} (hw:∀ xss ∈ hs,Rw n xss) (h9:hs.length ≤ 90):∃ (gs:List (List (List Int))) (ns':List Int),acJ [.ref 0,.pv (.lst (hs.map rawv)),.pv (.lst (fs.map fv))] [.lst (li ns)] = .ok (.ref 1) [.lst (li ns'),.lst (gs.map px)] ∧ gs.length = hs.length ∧ ∀ uss ∈ gs,Sx n 201 uss:=by
 obtain ⟨gs,n2,y4,y5,e2,l2,r2⟩:=aoX hn hf h (some (.pv (.lst (hs.map rawv)))) hs [] ns none none hw (fun _ h=>absurd h List.not_mem_nil) (by show 0 + hs.length ≤ 99; omega)
 refine ⟨gs,n2,?_,by rw [l2]; show 0 + hs.length = _; omega,r2⟩
 simp only [List.map_nil] at e2
 have hb:aho = (sSeq (sSet 3 (mNew mNil)) (sSeq (sFor (mIt (mVar 1)) (gN 4) lB) (sRet (mVar 3)))):=rfl
 unfold acJ fnM
 rw [hb]
 generalize lB = LB at *
 generalize gs.map px = GL at *
 generalize hs.map rawv = HL at *
 generalize fs.map fv = FL at *
 simp [aak,sSeq,sIf,mTst,mNot,mAnd,mOr,aaE,mOrV,mIf,mBin,mUn,mR,mN,aab,mVar,mC,mNil,Res.bind,aaG,aaA,aaD,aaH,aax,rd,aaB,okO,fLen,fAbs,aam,aal,fTup,fLst,fIx,atI,ixN,fEq,fNe,eqN,aap,aaq,aas,aar,fAdd,aaj,fNeg,fNot,tst,SRes.of,sRet,aaM,sNil,aat,sSet,aan,aaF,aae,aaC,aao,frz,aaJ,mNew,ae5,sFor,mIt,abx,e2]
theorem low1 {L:List Int} (h:gl L 0 = 1):low L = L:=by
 unfold low
 rw [h,if_neg (by decide)]
 simp
theorem anv {L:List Int} {w:Int} (hw:0 < w) (e:low (L ++ [w]) = L ++ [w]):gl (L ++ [w]) 0 = 1:=by
 have hg:=ako (ab3 L w) (by omega)
 rw [ajD (ab3 L w) (by omega),List.map_append] at e
 have e2:=(List.append_inj' e (by simp)).2
 have e3:w / gl (L ++ [w]) 0 = w:=by simpa using e2
 generalize gl (L ++ [w]) 0 = g at *
 have e4:=Int.mul_ediv_self_le (x:=w) (k:=g) (by omega)
 rw [e3] at e4
 by_cases h2:2 ≤ g
 ·have:=Int.mul_le_mul_of_nonneg_right h2 (show 0 ≤ w by omega)
  omega
 ·omega
def ra:List Int → List Int
 | [x,y,w]=>[x,y,0,w]
 | l=>l
theorem aes {k:Nat} {us:List Int} (h:Gu 2 k us):Gu 3 k (ra us):=by
 obtain ⟨xs,w,rfl,P⟩:=h
 match xs,P.len,P with
 | [x,y],_,P =>
  refine ⟨[x,y,0],w,rfl,⟨rfl,P.pos,?_,fun z hz=>?_,P.bw⟩⟩
  ·have e:=anv P.pos P.low
   refine low1 ?_
   rw [← e]
   simp [gl]
  ·have hz:z = x ∨ z = y ∨ z = 0:=by simpa using hz
   rcases hz with rfl | rfl | rfl
   ·exact P.bx _ (by simp)
   ·exact P.bx _ (by simp)
   ·unfold Bd
    exact Nat.two_pow_pos k
theorem adz {k:Nat} {us:List Int} (S:Sto) (h:Gu 2 k us):abZ [.pv (tv us)] S = .ok (.pv (tv (ra us))) S ∧ acf [.pv (tv us)] S = .ok (.pv (tv (ra us))) S:=by
 obtain ⟨xs,w,rfl,P⟩:=h
 match xs,P.len with
 | [x,y],_ =>
  have s1:fSl (.tup [.int x,.int y,.int w]) none (some 2) = some (.tup [.int x,.int y]):=rfl
  have s2:fSl (.tup [.int x,.int y,.int w]) (some 2) none = some (.tup [.int w]):=rfl
  refine ⟨?_,?_⟩
  ·show abZ [.pv (.tup [.int x,.int y,.int w])] S = .ok (.pv (.tup [.int x,.int y,.int 0,.int w])) S
   unfold abZ fnM ael
   simp [aak,sSeq,sIf,mTst,mNot,mAnd,mOr,aaE,mOrV,mIf,mBin,mUn,mR,mN,aab,mVar,mC,mNil,Res.bind,aaG,aaA,aaD,aaH,aax,rd,aaB,okO,fLen,fAbs,aam,aal,fTup,fLst,fIx,atI,ixN,fEq,fNe,eqN,aap,aaq,aas,aar,fAdd,aaj,fNeg,fNot,tst,SRes.of,sRet,aaM,sNil,aat,sSet,aan,aaF,aae,aaC,aao,frz,aaJ,mSl,mO0,mO1,abY,s1,s2,ra]
  ·show acf [.pv (.tup [.int x,.int y,.int w])] S = .ok (.pv (.tup [.int x,.int y,.int 0,.int w])) S
   unfold acf fnM ae6
   simp [aak,sSeq,sIf,mTst,mNot,mAnd,mOr,aaE,mOrV,mIf,mBin,mUn,mR,mN,aab,mVar,mC,mNil,Res.bind,aaG,aaA,aaD,aaH,aax,rd,aaB,okO,fLen,fAbs,aam,aal,fTup,fLst,fIx,atI,ixN,fEq,fNe,eqN,aap,aaq,aas,aar,fAdd,aaj,fNeg,fNot,tst,SRes.of,sRet,aaM,sNil,aat,sSet,aan,aaF,aae,aaC,aao,frz,aaJ]
theorem an8 (x0 y0 w0 x1 y1 w1 x2 y2 w2 a b c t:Int):D3 x0 y0 0 w0 x1 y1 0 w1 x2 y2 0 w2 a b c t = c * D2 x0 y0 w0 x1 y1 w1 x2 y2 w2:=by
 unfold D3 D2
 grind
theorem aoE {l:Nat} {top:List Int} (g:Gu 3 l top):fIx (tv top) (.int 2) = some (.int (top.getD 2 0)):=by
 obtain ⟨xs,w,rfl,P⟩:=g
 match xs,P.len with
 | [x,y,z],_=>rfl
theorem akF {l:Nat} (S:Sto) {top:List Int} (g:Gu 3 l top):abB [.pv (tv top)] S = if top.getD 2 0 = 0 then .exc "Flat" S else .ok (.pv .non) S:=by
 have e:=aoE g
 generalize tv top = T at *
 generalize top.getD 2 0 = c at *
 unfold abB fnM ab2
 by_cases h:c = 0
 ·subst h
  simp [aak,sSeq,sIf,mTst,mNot,mAnd,mOr,aaE,mOrV,mIf,mBin,mUn,mR,mN,aab,mVar,mC,mNil,Res.bind,aaG,aaA,aaD,aaH,aax,rd,aaB,okO,fLen,fAbs,aam,aal,fTup,fLst,fEq,fNe,abf,aap,aaq,aas,aar,fAdd,aaj,fNeg,fNot,tst,SRes.of,sRet,aaM,sNil,aat,sSet,aan,aaF,aae,aaC,aao,frz,aaJ,e,ahg]
 ·simp [aak,sSeq,sIf,mTst,mNot,mAnd,mOr,aaE,mOrV,mIf,mBin,mUn,mR,mN,aab,mVar,mC,mNil,Res.bind,aaG,aaA,aaD,aaH,aax,rd,aaB,okO,fLen,fAbs,aam,aal,fTup,fLst,fEq,fNe,abf,aap,aaq,aas,aar,fAdd,aaj,fNeg,fNot,tst,SRes.of,sRet,aaM,sNil,aat,sSet,aan,aaF,aae,aaC,aao,frz,aaJ,e,h]
theorem sh3 {v:Int} (h0:0 ≤ v) (h1:v < 3):∃ M N:Int,fIx (.lst [.int 1,.int 3,.int 1000000000]) (.int v) = some (.int M) ∧ fIx (.lst [.int 1,.int 4,.int 1000000]) (.int v) = some (.int N) ∧ 0 < M ∧ M ≤ 1000000000 ∧ 0 < N ∧ N ≤ 1000000:=by
 have:v = 0 ∨ v = 1 ∨ v = 2:=by omega
 rcases this with rfl | rfl | rfl
 ·exact ⟨1,1,rfl,rfl,by decide,by decide,by decide,by decide⟩
 ·exact ⟨3,4,rfl,rfl,by decide,by decide,by decide,by decide⟩
 ·exact ⟨1000000000,1000000,rfl,rfl,by decide,by decide,by decide,by decide⟩
theorem alj (ns:List Int):∃ (top ns':List Int),acD [.ref 0,.pv (.int 3)] [.lst (li ns)] = .ok (.pv (tv top)) [.lst (li ns')] ∧ Gu 3 100 top:=by
 have hr:∀ ms,Row [.lst (li ms)] 0 ms:=fun _=>rfl
 have hr2:∀ ms L,Row [.lst (li ms),.lst L] 0 ms:=fun _ _=>rfl
 obtain ⟨c,n1,e1,c0,c1,_⟩:=abI (m:=3) (hr ns) (by decide) (sm8 (by decide) (by decide))
 obtain ⟨M,_,em,_,M0,M1,_,_⟩:=sh3 c0 c1
 obtain ⟨d,n2,e2,d0,d1,_⟩:=abI (m:=3) (hr n1) (by decide) (sm8 (by decide) (by decide))
 obtain ⟨_,N,_,en,_,_,N0,N1⟩:=sh3 d0 d1
 have bM:Bd 8000 M:=(Bd.of (k:=30) (n:=1000000000) (by omega) (by decide)).mono (by decide)
 have bN:Bd 8000 N:=(Bd.of (k:=30) (n:=1000000000) (by omega) (by decide)).mono (by decide)
 obtain ⟨t,n3,e3,t0,t1,_⟩:=abI (m:=N) (hr n2) N0 bN
 obtain ⟨xs,n4,e4,l4,b4⟩:=agw (W:=M) (by omega) (by omega) (abt 0 3) _ n3 none (hr n3)
 have l3:xs.length = 3:=by rw [l4]; rfl
 match xs,l3,b4,e4 with
 | [x,y,z],_,b4,e4 =>
  obtain ⟨p,n5,e5,p0,p1,_⟩:=abI (m:=M) (hr2 n4 [.int x,.int y,.int z]) M0 bM
  obtain ⟨q,n6,e6,q0,q1,_⟩:=abI (m:=2) (hr2 n5 [.int x,.int y,.int z]) (by decide) (sm8 (by decide) (by decide))
  obtain ⟨s,n7,e7,s0,s1,_⟩:=abI (m:=8) (hr2 n6 [.int x,.int y,.int ((1 + p) * (1 - 2 * q))]) (by decide) (sm8 (by decide) (by decide))
  simp only [List.set_cons_zero] at e1 e2 e3 e4 e5 e6 e7
  have mq:fMul (.int 2) (.int q) = some (.int (2 * q)):=acL (.inl (.inl ⟨by decide,by decide⟩))
  have mp:fMul (.int (1 + p)) (.int (1 - 2 * q)) = some (.int ((1 + p) * (1 - 2 * q))):=acL (.inl (.inl ⟨by omega,by omega⟩))
  have rg:=rgn [.lst (li n3)] (n:=3) (by decide)
  rw [show ((3:Nat):Int) = 3 from rfl] at rg
  have bx:Bd 100 x:=(b4 x (by simp)).mono (by decide)
  have by':Bd 100 y:=(b4 y (by simp)).mono (by decide)
  have bv:Bd 100 ((1 + p) * (1 - 2 * q)):=by
   have hq:1 - 2 * q = 1 ∨ 1 - 2 * q = -1:=by omega
   have b0:Bd 100 (1 + p):=(Bd.of (k:=31) (n:=1000000001) (by omega) (by decide)).mono (by decide)
   rcases hq with e | e <;> rw [e]
   ·rw [Int.mul_one]; exact b0
   ·rw [Int.mul_neg,Int.mul_one]; exact b0.neg
  have bt:Bd 100 (1 + t):=(Bd.of (k:=30) (n:=1000000000) (by omega) (by decide)).mono (by decide)
  have b00:Bd 100 (0:Int):=by unfold Bd; exact Nat.two_pow_pos 100
  have fin:∀ (v:Int),Bd 100 v → ∃ top,Gu 3 100 top ∧ ∀ S,aa1 [.pv (.lst [.int x,.int y,.int v,.int (1 + t)])] S = .ok (.pv (tv top)) S:=fun v hv=>by
   have bL:∀ u ∈ [x,y,v],Bd 100 u:=by
    simp
    exact ⟨bx,by',hv⟩
   obtain ⟨zs,w,el,Z,_⟩:=ajY (n:=3) (L:=[x,y,v]) (b:=1 + t) (by omega) rfl bL bt
   refine ⟨zs ++ [w],⟨zs,w,rfl,Z⟩,fun S=>?_⟩
   have ew:=acA ([x,y,v] ++ [1 + t]) S (by
    intro u hu
    rcases List.mem_append.mp hu with a | a
    ·exact (bL u a).mono (by decide)
    ·have:u = 1 + t:=by simpa using a
     rw [this]; exact bt.mono (by decide))
   rw [el] at ew
   exact ew
  have e1:aav [.ref 0,.pv (.int 3)] [.lst (li ns)] = .ok (.pv (.int c)) [.lst (li n1)]:=e1
  have e2:aav [.ref 0,.pv (.int 3)] [.lst (li n1)] = .ok (.pv (.int d)) [.lst (li n2)]:=e2
  have e3:aav [.ref 0,.pv (.int N)] [.lst (li n2)] = .ok (.pv (.int t)) [.lst (li n3)]:=e3
  have e5:aav [.ref 0,.pv (.int M)] [.lst (li n4),.lst [.int x,.int y,.int z]] = .ok (.pv (.int p)) [.lst (li n5),.lst [.int x,.int y,.int z]]:=e5
  have e6:aav [.ref 0,.pv (.int 2)] [.lst (li n5),.lst [.int x,.int y,.int z]] = .ok (.pv (.int q)) [.lst (li n6),.lst [.int x,.int y,.int z]]:=e6
  have i3:ixN 3 (-1) = some 2:=rfl
  generalize (1 + p) * (1 - 2 * q) = V at *
  have e7:aav [.ref 0,.pv (.int 8)] [.lst (li n6),.lst [.int x,.int y,.int V]] = .ok (.pv (.int s)) [.lst (li n7),.lst [.int x,.int y,.int V]]:=e7
  have e4:aa9 [] (gN 0) (mBin fSub (aae aav [] (aab (mVar 2) (aab (mBin fAdd (mBin fMul (mC (.int 2)) (mVar 1)) (mC (.int 1))) mNil))) (mVar 1)) (abt 0 3) [none,some (.pv (.int M)),some (.ref 0)] [.lst (li n3)] = .ok [.int x,.int y,.int z] [.lst (li n4)]:=e4
  generalize hme:(mBin fSub (aae aav [] (aab (mVar 2) (aab (mBin fAdd (mBin fMul (mC (.int 2)) (mVar 1)) (mC (.int 1))) mNil))) (mVar 1)) = ME1 at e4
  have hb:agp = (sSeq (sSet 2 (mBin fIx (mN fLst (aab (mC (.int 1)) (aab (mC (.int 3)) (aab (mBin fPow (mC (.int 10)) (mC (.int 9))) mNil)))) (aae aav [] (aab (mVar 0) (aab (mC (.int 3)) mNil)))))
 (sSeq (sSet 3 (mBin fIx (mN fLst (aab (mC (.int 1)) (aab (mC (.int 4)) (aab (mBin fPow (mC (.int 10)) (mC (.int 6))) mNil)))) (aae aav [] (aab (mVar 0) (aab (mC (.int 3)) mNil)))))
 (sSeq (sSet 3 (mBin fAdd (mC (.int 1)) (aae aav [] (aab (mVar 0) (aab (mVar 3) mNil)))))
 (sSeq (sSet 4 (ahI ["_law_k"] [(2,"_law_wide"),(0,"_law_row_here")] (aaS (aab (mVar 1) mNil)) (gN 0) ME1))
 (sSeq (adg (mVar 4) (mUn fNeg (mC (.int 1))) (mBin fMul (mBin fAdd (mC (.int 1)) (aae aav [] (aab (mVar 0) (aab (mVar 2) mNil)))) (mBin fSub (mC (.int 1)) (mBin fMul (mC (.int 2)) (aae aav [] (aab (mVar 0) (aab (mC (.int 2)) mNil)))))))
 (sSeq (sIf (mTst (mBin fEq (aae aav [] (aab (mVar 0) (aab (mC (.int 8)) mNil))) (mC (.int 7)))) (adg (mVar 4) (mUn fNeg (mC (.int 1))) (mC (.int 0))) sNil)
 (sRet (aae aa1 [] (aab (mBin fAdd (mVar 4) (mN fLst (aab (mVar 3) mNil))) mNil))))))))):=by rw [← hme]; rfl
  generalize abt 0 3 = IP at *
  by_cases h7:s = 7
  ·obtain ⟨top,G,el⟩:=fin 0 b00
   refine ⟨top,n7,?_,G⟩
   subst h7
   have el:=el [.lst (li n7),.lst [.int x,.int y,.int 0]]
   generalize tv top = T at *
   unfold acD fnM
   rw [hb]
   simp [aak,sSeq,sIf,mTst,mNot,mAnd,mOr,aaE,mOrV,mIf,mBin,mUn,mR,mN,aab,mVar,mC,mNil,Res.bind,aaG,aaA,aaD,aaH,aax,rd,aaB,okO,fLen,fAbs,aam,aal,fTup,fLst,fEq,fNe,abf,aap,aaq,aas,aar,fAdd,aaj,fNeg,fNot,tst,SRes.of,sRet,aaM,sNil,aat,sSet,aan,aaF,aae,aaC,aao,frz,aaJ,p9,p6,e1,em,e2,en,e3,ahI,cmpR,aaS,rg,e4,adg,ahG,acM,e5,e6,e7,mq,mp,i3,el]
  ·obtain ⟨top,G,el⟩:=fin V bv
   refine ⟨top,n7,?_,G⟩
   have el:=el [.lst (li n7),.lst [.int x,.int y,.int V]]
   generalize tv top = T at *
   unfold acD fnM
   rw [hb]
   simp [aak,sSeq,sIf,mTst,mNot,mAnd,mOr,aaE,mOrV,mIf,mBin,mUn,mR,mN,aab,mVar,mC,mNil,Res.bind,aaG,aaA,aaD,aaH,aax,rd,aaB,okO,fLen,fAbs,aam,aal,fTup,fLst,fEq,fNe,abf,aap,aaq,aas,aar,fAdd,aaj,fNeg,fNot,tst,SRes.of,sRet,aaM,sNil,aat,sSet,aan,aaF,aae,aaC,aao,frz,aaJ,p9,p6,e1,em,e2,en,e3,ahI,cmpR,aaS,rg,e4,adg,ahG,acM,e5,e6,e7,mq,mp,i3,h7,el]
theorem alX {u:PV} (h:eqN 8 u u = some true):fNe u u = some (.bl false):=by
 unfold fNe
 rw [h]
 rfl
theorem als {u:PV} (h:eqN 8 u u = some true):fEq u u = some (.bl true):=by
 unfold fEq
 rw [h]
 rfl
theorem akl {n k l:Nat} {us f:List Int} (S:Sto) (hn:n = 2 ∨ n = 3) (h:Gu n k us) (g:Gu n l f) (hk:k ≤ 1000) (hl:l ≤ 1000):acv [.pv (tv us),.pv (tv f)] S = .ok (.pv (tv (mvU 1 f us))) S:=by
 obtain ⟨xs,w,rfl,P⟩:=h
 obtain ⟨ys,v,rfl,Q⟩:=g
 rw [akb]
 have e2:mv 1 xs w ys v = low (sm xs w ys v ++ [w * v]):=if_pos rfl
 rw [e2]
 have l1:=P.len
 have l2:=Q.len
 exact al7 S (by omega) (by omega) P.pos Q.pos (fun x hx=>(P.bx x hx).mono (by omega)) (fun x hx=>(Q.bx x hx).mono (by omega)) (P.bw.mono (by omega)) (Q.bw.mono (by omega))
theorem aps (x0 y0 z0 w0 x1 y1 z1 w1 x2 y2 z2 w2 x3 y3 z3 w3 s:Int):D3 x0 y0 z0 w0 (s * x1) (s * y1) (s * z1) (s * w1) x2 y2 z2 w2 x3 y3 z3 w3 = s * D3 x0 y0 z0 w0 x1 y1 z1 w1 x2 y2 z2 w2 x3 y3 z3 w3:=by
 unfold D3
 grind
theorem alp (x0 y0 z0 w0 x1 y1 z1 w1 x2 y2 z2 w2 x3 y3 z3 w3 s:Int):D3 x0 y0 z0 w0 x1 y1 z1 w1 (s * x2) (s * y2) (s * z2) (s * w2) x3 y3 z3 w3 = s * D3 x0 y0 z0 w0 x1 y1 z1 w1 x2 y2 z2 w2 x3 y3 z3 w3:=by
 unfold D3
 grind
theorem ai6 (x0 y0 z0 w0 x1 y1 z1 w1 x2 y2 z2 w2 x3 y3 z3 w3 s:Int):D3 x0 y0 z0 w0 x1 y1 z1 w1 x2 y2 z2 w2 (s * x3) (s * y3) (s * z3) (s * w3) = s * D3 x0 y0 z0 w0 x1 y1 z1 w1 x2 y2 z2 w2 x3 y3 z3 w3:=by
 unfold D3
 grind
theorem ap0 (x0 y0 w0 x1 y1 w1 x2 y2 w2 a b c e:Int):D3 x1 y1 0 w1 x2 y2 0 w2 (e * x0 + a * w0) (e * y0 + b * w0) (e * 0 + c * w0) (e * w0) (e * x1 + a * w1) (e * y1 + b * w1) (e * 0 + c * w1) (e * w1) = e * w1 * c * D2 x0 y0 w0 x1 y1 w1 x2 y2 w2:=by
 unfold D3 D2
 grind
theorem apU (x0 y0 w0 x1 y1 w1 x2 y2 w2 a b c e:Int):D3 x2 y2 0 w2 (e * x0 + a * w0) (e * y0 + b * w0) (e * 0 + c * w0) (e * w0) (e * x1 + a * w1) (e * y1 + b * w1) (e * 0 + c * w1) (e * w1) (e * x2 + a * w2) (e * y2 + b * w2) (e * 0 + c * w2) (e * w2) = e * e * w2 * c * D2 x0 y0 w0 x1 y1 w1 x2 y2 w2:=by
 unfold D3 D2
 grind
def hU (f us:List Int):List Int:=mvU 1 f (ra us)
theorem anc {k:Nat} {x y w a b c e:Int} (hk:Gu 2 k [x,y,w]) {l:Nat} (g:Gu 3 l [a,b,c,e]):∃ p q r t,hU [a,b,c,e] [x,y,w] = [p,q,r,t] ∧ 0 < t ∧ p * (e * w) = (e * x + a * w) * t ∧ q * (e * w) = (e * y + b * w) * t ∧ r * (e * w) = (e * 0 + c * w) * t:=by
 have h:=(adj (way:=1) (.inl rfl) (aes hk) g).2
 obtain ⟨xs,v,xs',t,e1,e2,l1,l2,_,p2,h⟩:=h
 match xs',l2 with
 | [p,q,r],_ =>
  refine ⟨p,q,r,t,e2,p2,?_⟩
  match xs,l1,e1 with
  | [x1,y1,z1],_,e1 =>
   have e1:[x,y,0,w] = [x1,y1,z1,v]:=e1
   cases e1
   have h0:=h 0 (by decide)
   have h1:=h 1 (by decide)
   have h2:=h 2 (by decide)
   simp only [List.getD_cons_zero,List.getD_cons_succ,Int.one_mul] at h0 h1 h2
   have ge:[a,b,c,e].getLastD 0 = e:=rfl
   rw [ge] at h0 h1 h2
   exact ⟨h0,h1,h2⟩
theorem acV {a b d:Int} (h:a * b = d) (hd:d ≠ 0):b ≠ 0:=fun z=>hd (by rw [← h,z,Int.mul_zero])
theorem alB {k l:Nat} {x0 y0 w0 x1 y1 w1 x2 y2 w2 a b c e:Int} (h0:Gu 2 k [x0,y0,w0]) (h1:Gu 2 k [x1,y1,w1]) (h2:Gu 2 k [x2,y2,w2]) (q0:0 < w0) (q1:0 < w1) (q2:0 < w2) (he:0 < e) (hc:c ≠ 0) (g:Gu 3 l [a,b,c,e]) (nz:D2 x0 y0 w0 x1 y1 w1 x2 y2 w2 ≠ 0) :
  dU [ra [x0,y0,w0],ra [x1,y1,w1],ra [x2,y2,w2],hU [a,b,c,e] [x0,y0,w0]] ≠ 0 ∧ dU [ra [x1,y1,w1],ra [x2,y2,w2],hU [a,b,c,e] [x0,y0,w0],hU [a,b,c,e] [x1,y1,w1]] ≠ 0 ∧ dU [ra [x2,y2,w2],hU [a,b,c,e] [x0,y0,w0],hU [a,b,c,e] [x1,y1,w1],hU [a,b,c,e] [x2,y2,w2]] ≠ 0:=by
 obtain ⟨p0,r0,s0,t0,e0,u0,a0,b0,c0⟩:=anc h0 g
 obtain ⟨p1,r1,s1,t1,e1,u1,a1,b1,c1⟩:=anc h1 g
 obtain ⟨p2,r2,s2,t2,e2,u2,a2,b2,c2⟩:=anc h2 g
 rw [e0,e1,e2]
 have d0:e * w0 * t0 = t0 * (e * w0):=Int.mul_comm _ _
 have d1:e * w1 * t1 = t1 * (e * w1):=Int.mul_comm _ _
 have d2:e * w2 * t2 = t2 * (e * w2):=Int.mul_comm _ _
 rw [Int.mul_comm] at a0 b0 c0 a1 b1 c1 a2 b2 c2
 rw [Int.mul_comm (e * x0 + a * w0)] at a0
 rw [Int.mul_comm (e * y0 + b * w0)] at b0
 rw [Int.mul_comm (e * 0 + c * w0)] at c0
 rw [Int.mul_comm (e * x1 + a * w1)] at a1
 rw [Int.mul_comm (e * y1 + b * w1)] at b1
 rw [Int.mul_comm (e * 0 + c * w1)] at c1
 rw [Int.mul_comm (e * x2 + a * w2)] at a2
 rw [Int.mul_comm (e * y2 + b * w2)] at b2
 rw [Int.mul_comm (e * 0 + c * w2)] at c2
 have n0:e * w0 ≠ 0:=Int.ne_of_gt (Int.mul_pos he q0)
 have n1:e * w1 ≠ 0:=Int.ne_of_gt (Int.mul_pos he q1)
 have n2:e * w2 ≠ 0:=Int.ne_of_gt (Int.mul_pos he q2)
 have m0:=Int.ne_of_gt u0
 have m1:=Int.ne_of_gt u1
 have m2:=Int.ne_of_gt u2
 refine ⟨?_,?_,?_⟩
 ·show D3 x0 y0 0 w0 x1 y1 0 w1 x2 y2 0 w2 p0 r0 s0 t0 ≠ 0
  have z:=ai6 x0 y0 0 w0 x1 y1 0 w1 x2 y2 0 w2 p0 r0 s0 t0 (e * w0)
  rw [a0,b0,c0,d0,ai6,an8] at z
  refine acV z.symm (Int.mul_ne_zero m0 (Int.mul_ne_zero ?_ nz))
  have:e * 0 + c * w0 = c * w0:=by omega
  rw [this]
  exact Int.mul_ne_zero hc (Int.ne_of_gt q0)
 ·show D3 x1 y1 0 w1 x2 y2 0 w2 p0 r0 s0 t0 p1 r1 s1 t1 ≠ 0
  have z:=ai6 x1 y1 0 w1 x2 y2 0 w2 p0 r0 s0 t0 p1 r1 s1 t1 (e * w1)
  rw [a1,b1,c1,d1,ai6] at z
  have z2:=alp x1 y1 0 w1 x2 y2 0 w2 p0 r0 s0 t0 (e * x1 + a * w1) (e * y1 + b * w1) (e * 0 + c * w1) (e * w1) (e * w0)
  rw [a0,b0,c0,d0,alp,ap0] at z2
  have y1:=acV z2.symm (Int.mul_ne_zero m0 (Int.mul_ne_zero (Int.mul_ne_zero n1 hc) nz))
  exact acV z.symm (Int.mul_ne_zero m1 y1)
 ·show D3 x2 y2 0 w2 p0 r0 s0 t0 p1 r1 s1 t1 p2 r2 s2 t2 ≠ 0
  have z:=ai6 x2 y2 0 w2 p0 r0 s0 t0 p1 r1 s1 t1 p2 r2 s2 t2 (e * w2)
  rw [a2,b2,c2,d2,ai6] at z
  have z2:=alp x2 y2 0 w2 p0 r0 s0 t0 p1 r1 s1 t1 (e * x2 + a * w2) (e * y2 + b * w2) (e * 0 + c * w2) (e * w2) (e * w1)
  rw [a1,b1,c1,d1,alp] at z2
  have z3:=aps x2 y2 0 w2 p0 r0 s0 t0 (e * x1 + a * w1) (e * y1 + b * w1) (e * 0 + c * w1) (e * w1) (e * x2 + a * w2) (e * y2 + b * w2) (e * 0 + c * w2) (e * w2) (e * w0)
  rw [a0,b0,c0,d0,aps,apU] at z3
  have y1:=acV z3.symm (Int.mul_ne_zero m0 (Int.mul_ne_zero (Int.mul_ne_zero (Int.mul_ne_zero (Int.mul_ne_zero (Int.ne_of_gt he) (Int.ne_of_gt he)) (Int.ne_of_gt q2)) hc) nz))
  have y2:=acV z2.symm (Int.mul_ne_zero m1 y1)
  exact acV z.symm (Int.mul_ne_zero m2 y2)
def prT (f:List Int):List (List Int) → List (List (List Int))
 | [p,q,r]=>[[ra p,ra q,ra r,hU f p],[ra q,ra r,hU f p,hU f q],[ra r,hU f p,hU f q,hU f r]]
 | _=>[]
def prX (f:List Int) (uss:List (List Int)):List (List (List Int)):=(prT f uss).map cnr
theorem aku {k l:Nat} (hk:k + l + 1 ≤ 1000) {uss:List (List Int)} (h:Sx 2 k uss) {f:List Int} (g:Gu 3 l f) (hc:f.getD 2 0 ≠ 0):∀ t ∈ prT f uss,t.length = 3 + 1 ∧ (∀ us ∈ t,Gu 3 1000 us) ∧ dU t ≠ 0:=by
 have hl:=h.len
 have hg:=h.gu
 have nz:=h.nz
 clear h
 match uss,hl,hg,nz with
 | [p,q,r],_,hg,nz =>
  have g0:=hg p (by simp)
  have g1:=hg q (by simp)
  have g2:=hg r (by simp)
  have r0:=(aes g0).mono (show k ≤ 1000 by omega)
  have r1:=(aes g1).mono (show k ≤ 1000 by omega)
  have r2:=(aes g2).mono (show k ≤ 1000 by omega)
  have u0:=(adj (way:=1) (.inl rfl) (aes g0) g).1.mono hk
  have u1:=(adj (way:=1) (.inl rfl) (aes g1) g).1.mono hk
  have u2:=(adj (way:=1) (.inl rfl) (aes g2) g).1.mono hk
  have key:dU [ra p,ra q,ra r,hU f p] ≠ 0 ∧ dU [ra q,ra r,hU f p,hU f q] ≠ 0 ∧ dU [ra r,hU f p,hU f q,hU f r] ≠ 0:=by
   obtain ⟨x0,y0,w0,rfl,q0,_⟩:=g0.two'
   obtain ⟨x1,y1,w1,rfl,q1,_⟩:=g1.two'
   obtain ⟨x2,y2,w2,rfl,q2,_⟩:=g2.two'
   obtain ⟨a,b,c,e,rfl,he,_⟩:=g.three'
   exact alB g0 g1 g2 q0 q1 q2 he hc g nz
  intro t ht
  have ht:t = [ra p,ra q,ra r,hU f p] ∨ t = [ra q,ra r,hU f p,hU f q] ∨ t = [ra r,hU f p,hU f q,hU f r]:=by simpa [prT] using ht
  rcases ht with rfl | rfl | rfl
  ·refine ⟨rfl,fun us hu=>?_,key.1⟩
   have hu:us = ra p ∨ us = ra q ∨ us = ra r ∨ us = hU f p:=by simpa using hu
   rcases hu with rfl | rfl | rfl | rfl
   ·exact r0
   ·exact r1
   ·exact r2
   ·exact u0
  ·refine ⟨rfl,fun us hu=>?_,key.2.1⟩
   have hu:us = ra q ∨ us = ra r ∨ us = hU f p ∨ us = hU f q:=by simpa using hu
   rcases hu with rfl | rfl | rfl | rfl
   ·exact r1
   ·exact r2
   ·exact u0
   ·exact u1
  ·refine ⟨rfl,fun us hu=>?_,key.2.2⟩
   have hu:us = ra r ∨ us = hU f p ∨ us = hU f q ∨ us = hU f r:=by simpa using hu
   rcases hu with rfl | rfl | rfl | rfl
   ·exact r2
   ·exact u0
   ·exact u1
   ·exact u2
theorem anX {k l:Nat} (hk:k + l + 1 ≤ 1000) {uss:List (List Int)} (h:Sx 2 k uss) {f:List Int} (g:Gu 3 l f) (hc:f.getD 2 0 ≠ 0):∀ t ∈ prX f uss,Sx 3 1000 t:=fun t ht=>by
 obtain ⟨x,hx,rfl⟩:=List.mem_map.mp ht
 obtain ⟨a,b,c⟩:=aku hk h g hc x hx
 exact an3 (.inr rfl) (Nat.le_refl 1000) a b c
theorem aod {k l:Nat} (hk:k + l + 1 ≤ 1000) {uss:List (List Int)} (h:Sx 2 k uss) {f:List Int} (g:Gu 3 l f) (hc:f.getD 2 0 ≠ 0) (S:Sto):∀ t ∈ prT f uss,ab6 [.pv (.lst (t.map tv))] S = .ok (.pv (px (cnr t))) S ∧ aba [.pv (.lst (t.map tv))] S = .ok (.pv (px (cnr t))) S:=fun t ht=>by
 obtain ⟨a,b,c⟩:=aku hk h g hc t ht
 exact ⟨ajo (A:=.lst (t.map tv)) (.inr rfl) S a b (.inl rfl) (by
   rw [agH (.inr rfl) (Nat.le_refl 1000) a b]
   exact fun z=>c (akv.mp z)),adQ (A:=.lst (t.map tv)) (.inr rfl) S a b (.inl rfl)⟩
theorem r03 (S:Sto):rng1 [.pv (.int 3)] S = .ok ([.int 0,.int 1,.int 2],[]) S:=by
 have rg:=rgn S (n:=3) (by decide)
 rw [show ((3:Nat):Int) = 3 from rfl] at rg
 exact rg
noncomputable abbrev pB:MS:=(sSeq (sSet 4 (aaW ["p"] [] (mIt (mVar 3)) (gN 0) (aae abZ [] (aab (mVar 0) mNil))))
 (sSeq (sSet 5 (mBin fAdd (mVar 4) (aaW ["p"] [(1,"arrow")] (mIt (mVar 4)) (gN 0) (aae acv [] (aab (mVar 0) (aab (mVar 1) mNil))))))
 (akP 2 (aaW ["k"] [(5,"corners")] (aaS (aab (mC (.int 3)) mNil)) (gN 0) (aaC ab6 [] (aab (mSl (mVar 1) (mO1 (mVar 0)) (mO1 (mBin fAdd (mVar 0) (mC (.int 4))))) mNil))))))
theorem apK {k l:Nat} (hk:k + l + 1 ≤ 1000) (ms:List Int) {f:List Int} (g:Gu 3 l f) (hc:f.getD 2 0 ≠ 0) (gs:List (List (List Int))) (hgs:gs.length ≤ 90) {uss:List (List Int)} (h:Sx 2 k uss) (x0 x4 x5:Option AV):∃ y4 y5:Option AV,pB [x0,some (.pv (tv f)),some (.ref 1),some (.pv (px uss)),x4,x5] [.lst (li ms),.lst (gs.map px)] = .nx [x0,some (.pv (tv f)),some (.ref 1),some (.pv (px uss)),y4,y5] [.lst (li ms),.lst ((gs ++ prX f uss).map px)]:=by
 have sm4:=aod hk h g hc [.lst (li ms),.lst (gs.map px)]
 have lz:(gs.map px).length ≤ 90:=by rw [List.length_map]; exact hgs
 have hl:=h.len
 have hg:=h.gu
 clear h
 match uss,hl,hg,sm4 with
 | [p,q,r],_,hg,sm4 =>
  have g0:=hg p (by simp)
  have g1:=hg q (by simp)
  have g2:=hg r (by simp)
  have i0:=(adz [.lst (li ms),.lst (gs.map px)] g0).1
  have i1:=(adz [.lst (li ms),.lst (gs.map px)] g1).1
  have i2:=(adz [.lst (li ms),.lst (gs.map px)] g2).1
  have j0:acv [.pv (tv (ra p)),.pv (tv f)] [.lst (li ms),.lst (gs.map px)] = .ok (.pv (tv (hU f p))) [.lst (li ms),.lst (gs.map px)]:=akl _ (.inr rfl) (aes g0) g (by omega) (by omega)
  have j1:acv [.pv (tv (ra q)),.pv (tv f)] [.lst (li ms),.lst (gs.map px)] = .ok (.pv (tv (hU f q))) [.lst (li ms),.lst (gs.map px)]:=akl _ (.inr rfl) (aes g1) g (by omega) (by omega)
  have j2:acv [.pv (tv (ra r)),.pv (tv f)] [.lst (li ms),.lst (gs.map px)] = .ok (.pv (tv (hU f r))) [.lst (li ms),.lst (gs.map px)]:=akl _ (.inr rfl) (aes g2) g (by omega) (by omega)
  have k0:=(sm4 [ra p,ra q,ra r,hU f p] (by simp [prT])).1
  have k1:=(sm4 [ra q,ra r,hU f p,hU f q] (by simp [prT])).1
  have k2:=(sm4 [ra r,hU f p,hU f q,hU f r] (by simp [prT])).1
  simp only [List.map_cons,List.map_nil] at k0 k1 k2
  have ep:(gs ++ prX f [p,q,r]).map px = gs.map px ++ [px (cnr [ra p,ra q,ra r,hU f p]),px (cnr [ra q,ra r,hU f p,hU f q]),px (cnr [ra r,hU f p,hU f q,hU f r])]:=by simp [prX,prT]
  have hp:px [p,q,r] = .tup [tv p,tv q,tv r]:=rfl
  rw [ep,hp]
  clear sm4 hg g0 g1 g2 hc g ep hp
  generalize px (cnr [ra p,ra q,ra r,hU f p]) = P0 at *
  generalize px (cnr [ra q,ra r,hU f p,hU f q]) = P1 at *
  generalize px (cnr [ra r,hU f p,hU f q,hU f r]) = P2 at *
  generalize tv (hU f p) = H0 at *
  generalize tv (hU f q) = H1 at *
  generalize tv (hU f r) = H2 at *
  generalize tv (ra p) = L0 at *
  generalize tv (ra q) = L1 at *
  generalize tv (ra r) = L2 at *
  generalize tv p = T0 at *
  generalize tv q = T1 at *
  generalize tv r = T2 at *
  generalize tv f = TF at *
  generalize gs.map px = GL at *
  have s0:fSl (.lst [L0,L1,L2,H0,H1,H2]) (some 0) (some 4) = some (.lst [L0,L1,L2,H0]):=rfl
  have s1:fSl (.lst [L0,L1,L2,H0,H1,H2]) (some 1) (some 5) = some (.lst [L1,L2,H0,H1]):=rfl
  have s2:fSl (.lst [L0,L1,L2,H0,H1,H2]) (some 2) (some 6) = some (.lst [L2,H0,H1,H2]):=rfl
  have hz:GL.length + 3 ≤ 16777216:=by omega
  refine ⟨some (.pv (.lst [L0,L1,L2])),some (.pv (.lst [L0,L1,L2,H0,H1,H2])),?_⟩
  have rg:=r03 [.lst (li ms),.lst GL]
  unfold pB
  simp [aak,sSeq,sIf,mTst,mNot,mAnd,mOr,aaE,mOrV,mIf,mBin,mUn,mR,mN,aab,mVar,mC,mNil,Res.bind,aaG,aaA,aaD,aaH,aax,rd,aaB,okO,fLen,fAbs,aam,aal,fTup,fLst,fIx,atI,ixN,fEq,fNe,eqN,aap,aaq,aas,aar,fAdd,aaj,fNeg,fNot,tst,SRes.of,sRet,aaM,sNil,aat,sSet,aan,aaF,aae,aaC,aao,frz,aaJ,aaW,cmpR,mIt,abx,aaP,aaR,gN,i0,i1,i2,j0,j1,j2,aaS,rg,mSl,mO1,abY,s0,s1,s2,k0,k1,k2,akP,augL,hz]
theorem apj {k l:Nat} (hk:k + l + 1 ≤ 1000) (ms:List Int) {f:List Int} (g:Gu 3 l f) (hc:f.getD 2 0 ≠ 0) (x0:Option AV):∀ (hs gs:List (List (List Int))) (x3 x4 x5:Option AV),(∀ uss ∈ hs,Sx 2 k uss) → gs.length + 3 * hs.length ≤ 90 → ∃ y3 y4 y5:Option AV,abT [] (gN 3) pB (hs.map px) [x0,some (.pv (tv f)),some (.ref 1),x3,x4,x5] [.lst (li ms),.lst (gs.map px)] = .nx [x0,some (.pv (tv f)),some (.ref 1),y3,y4,y5] [.lst (li ms),.lst ((gs ++ hs.flatMap (prX f)).map px)]
 | [],gs,x3,x4,x5,_,_=>⟨x3,x4,x5,by simp [abo]⟩
 | uss :: hs,gs,x3,x4,x5,h,hl=>by
  have hl:gs.length + 3 * (hs.length + 1) ≤ 90:=hl
  obtain ⟨y4,y5,e1⟩:=apK hk ms g hc gs (by omega) (h uss (by simp)) x0 x4 x5
  have l3:(prX f uss).length = 3:=by
   have:=(h uss (by simp)).len
   match uss,this with
   | [_,_,_],_=>rfl
  obtain ⟨z3,z4,z5,e2⟩:=apj hk ms g hc x0 hs (gs ++ prX f uss) (some (.pv (px uss))) y4 y5 (fun y hy=>h y (List.mem_cons_of_mem _ hy)) (by rw [List.length_append,l3]; omega)
  refine ⟨z3,z4,z5,?_⟩
  rw [List.append_assoc] at e2
  rw [List.map_cons,aaY,List.flatMap_cons]
  simp only [gN,List.set_cons_succ,List.set_cons_zero]
  rw [e1]
  exact e2
theorem ak9 {k l:Nat} (ms:List Int) (hk:k + l + 1 ≤ 1000) {hs:List (List (List Int))} (h9:hs.length ≤ 9) {A:PV} (hA:Sv A (hs.map px)) (h:∀ uss ∈ hs,Sx 2 k uss) {f:List Int} (g:Gu 3 l f) (hc:f.getD 2 0 ≠ 0):adc [.pv A,.pv (tv f)] [.lst (li ms)] = .ok (.pv (.tup ((hs.flatMap (prX f)).map px))) [.lst (li ms)]:=by
 have e0:=akF [.lst (li ms)] g
 rw [if_neg hc] at e0
 obtain ⟨y3,y4,y5,e⟩:=apj hk ms g hc (some (.pv A)) hs [] none none none h (by simp only [List.length_nil]; omega)
 rw [List.nil_append,List.map_nil] at e
 have hb:aer = (sSeq (aat (aaC abB [] (aab (mVar 1) mNil)))
 (sSeq (sSet 2 (mNew mNil))
 (sSeq (sFor (mIt (mVar 0)) (gN 3) pB)
 (sRet (mR aam (aab (mVar 2) mNil)))))):=rfl
 unfold adc fnM
 rw [hb]
 generalize pB = PB1 at *
 generalize (hs.flatMap (prX f)).map px = ML at *
 generalize tv f = T at *
 rcases hA with rfl | rfl <;> (generalize hs.map px = HL at *; simp [aak,sSeq,sIf,mTst,mNot,mAnd,mOr,aaE,mOrV,mIf,mBin,mUn,mR,mN,aab,mVar,mC,mNil,Res.bind,aaG,aaA,aaD,aaH,aax,rd,aaB,okO,fLen,fAbs,aam,aal,fTup,fLst,fIx,atI,ixN,fEq,fNe,eqN,aap,aaq,aas,aar,fAdd,aaj,fNeg,fNot,tst,SRes.of,sRet,aaM,sNil,aat,sSet,aan,aaF,aae,aaC,aao,frz,aaJ,e0,mNew,ae5,sFor,mIt,abx,e])
theorem alF {l:Nat} (S:Sto) {A:PV} {f:List Int} (g:Gu 3 l f) (hc:f.getD 2 0 = 0):adc [.pv A,.pv (tv f)] S = .exc "Flat" S:=by
 have e0:=akF S g
 rw [if_pos hc] at e0
 unfold adc fnM aer
 generalize tv f = T at *
 simp [aak,sSeq,sIf,mTst,mNot,mAnd,mOr,aaE,mOrV,mIf,mBin,mUn,mR,mN,aab,mVar,mC,mNil,Res.bind,aaG,aaA,aaD,aaH,aax,rd,aaB,okO,fLen,fAbs,aam,aal,fTup,fLst,fIx,atI,ixN,fEq,fNe,eqN,aap,aaq,aas,aar,fAdd,aaj,fNeg,fNot,tst,SRes.of,sRet,aaM,sNil,aat,sSet,aan,aaF,aae,aaC,aao,frz,aaJ,e0]
noncomputable abbrev lpB:MS:=(sSeq (sSet 4 (aaW ["_law_p"] [] (mIt (mVar 3)) (gN 0) (aae acf [] (aab (mVar 0) mNil))))
 (sSeq (sSet 5 (aaW ["_law_p"] [(1,"_law_far_here")] (mIt (mVar 4)) (gN 0) (aae abe [] (aab (mVar 0) (aab (mVar 1) (aab (mC (.int 1)) mNil))))))
 (sFor (aaS (aab (mC (.int 3)) mNil)) (gN 6) (aat (mApp (mVar 2) (aab (aae aba [] (aab (mBin fAdd (mSl (mVar 4) (mO1 (mVar 6)) mO0) (mSl (mVar 5) mO0 (mO1 (mBin fAdd (mVar 6) (mC (.int 1)))))) mNil)) mNil))))))
theorem aoI {k l:Nat} (hk:k + l + 1 ≤ 1000) (ms:List Int) {f:List Int} (g:Gu 3 l f) (hc:f.getD 2 0 ≠ 0) (gs:List (List (List Int))) (hgs:gs.length ≤ 90) {uss:List (List Int)} (h:Sx 2 k uss) (x0 x4 x5 x6:Option AV):∃ y4 y5 y6:Option AV,lpB [x0,some (.pv (tv f)),some (.ref 1),some (.pv (px uss)),x4,x5,x6] [.lst (li ms),.lst (gs.map px)] = .nx [x0,some (.pv (tv f)),some (.ref 1),some (.pv (px uss)),y4,y5,y6] [.lst (li ms),.lst ((gs ++ prX f uss).map px)]:=by
 have sm4:=fun S=>aod hk h g hc S
 have lz:(gs.map px).length ≤ 90:=by rw [List.length_map]; exact hgs
 have hl:=h.len
 have hg:=h.gu
 clear h
 match uss,hl,hg,sm4 with
 | [p,q,r],_,hg,sm4 =>
  have g0:=hg p (by simp)
  have g1:=hg q (by simp)
  have g2:=hg r (by simp)
  have i0:=(adz [.lst (li ms),.lst (gs.map px)] g0).2
  have i1:=(adz [.lst (li ms),.lst (gs.map px)] g1).2
  have i2:=(adz [.lst (li ms),.lst (gs.map px)] g2).2
  have j0:abe [.pv (tv (ra p)),.pv (tv f),.pv (.int 1)] [.lst (li ms),.lst (gs.map px)] = .ok (.pv (tv (hU f p))) [.lst (li ms),.lst (gs.map px)]:=agh _ (.inr rfl) (.inl rfl) (aes g0) g (by omega) (by omega)
  have j1:abe [.pv (tv (ra q)),.pv (tv f),.pv (.int 1)] [.lst (li ms),.lst (gs.map px)] = .ok (.pv (tv (hU f q))) [.lst (li ms),.lst (gs.map px)]:=agh _ (.inr rfl) (.inl rfl) (aes g1) g (by omega) (by omega)
  have j2:abe [.pv (tv (ra r)),.pv (tv f),.pv (.int 1)] [.lst (li ms),.lst (gs.map px)] = .ok (.pv (tv (hU f r))) [.lst (li ms),.lst (gs.map px)]:=agh _ (.inr rfl) (.inl rfl) (aes g2) g (by omega) (by omega)
  have k0:=fun S=>(sm4 S [ra p,ra q,ra r,hU f p] (by simp [prT])).2
  have k1:=fun S=>(sm4 S [ra q,ra r,hU f p,hU f q] (by simp [prT])).2
  have k2:=fun S=>(sm4 S [ra r,hU f p,hU f q,hU f r] (by simp [prT])).2
  simp only [List.map_cons,List.map_nil] at k0 k1 k2
  have ep:(gs ++ prX f [p,q,r]).map px = gs.map px ++ [px (cnr [ra p,ra q,ra r,hU f p])] ++ [px (cnr [ra q,ra r,hU f p,hU f q])] ++ [px (cnr [ra r,hU f p,hU f q,hU f r])]:=by simp [prX,prT]
  have hp:px [p,q,r] = .tup [tv p,tv q,tv r]:=rfl
  rw [ep,hp]
  clear sm4 hg g0 g1 g2 hc g ep hp
  generalize px (cnr [ra p,ra q,ra r,hU f p]) = P0 at *
  generalize px (cnr [ra q,ra r,hU f p,hU f q]) = P1 at *
  generalize px (cnr [ra r,hU f p,hU f q,hU f r]) = P2 at *
  generalize tv (hU f p) = H0 at *
  generalize tv (hU f q) = H1 at *
  generalize tv (hU f r) = H2 at *
  generalize tv (ra p) = L0 at *
  generalize tv (ra q) = L1 at *
  generalize tv (ra r) = L2 at *
  generalize tv p = T0 at *
  generalize tv q = T1 at *
  generalize tv r = T2 at *
  generalize tv f = TF at *
  generalize gs.map px = GL at *
  have s0:fSl (.lst [L0,L1,L2]) (some 0) none = some (.lst [L0,L1,L2]):=rfl
  have s1:fSl (.lst [L0,L1,L2]) (some 1) none = some (.lst [L1,L2]):=rfl
  have s2:fSl (.lst [L0,L1,L2]) (some 2) none = some (.lst [L2]):=rfl
  have t0:fSl (.lst [H0,H1,H2]) none (some 1) = some (.lst [H0]):=rfl
  have t1:fSl (.lst [H0,H1,H2]) none (some 2) = some (.lst [H0,H1]):=rfl
  have t2:fSl (.lst [H0,H1,H2]) none (some 3) = some (.lst [H0,H1,H2]):=rfl
  have z0:GL.length < 16777216:=by omega
  have z1:(GL ++ [P0]).length < 16777216:=by rw [List.length_append,List.length_singleton]; omega
  have z2:(GL ++ [P0] ++ [P1]).length < 16777216:=by rw [List.length_append,List.length_append,List.length_singleton,List.length_singleton]; omega
  refine ⟨some (.pv (.lst [L0,L1,L2])),some (.pv (.lst [H0,H1,H2])),some (.pv (.int 2)),?_⟩
  have rg:=r03 [.lst (li ms),.lst GL]
  have a0:=k0 [.lst (li ms),.lst GL]
  have a1:=k1 [.lst (li ms),.lst (GL ++ [P0])]
  have a2:=k2 [.lst (li ms),.lst (GL ++ [P0] ++ [P1])]
  clear k0 k1 k2
  generalize hG1:GL ++ [P0] = G1 at *
  generalize hG2:G1 ++ [P1] = G2 at *
  generalize hG3:G2 ++ [P2] = G3 at *
  unfold lpB
  simp [aak,sSeq,sIf,mTst,mNot,mAnd,mOr,aaE,mOrV,mIf,mBin,mUn,mR,mN,aab,mVar,mC,mNil,Res.bind,aaG,aaA,aaD,aaH,aax,rd,aaB,okO,fLen,fAbs,aam,aal,fTup,fLst,fIx,atI,ixN,fEq,fNe,eqN,aap,aaq,aas,aar,fAdd,aaj,fNeg,fNot,tst,SRes.of,sRet,aaM,sNil,aat,sSet,aan,aaF,aae,aaC,aao,frz,aaJ,aaW,cmpR,mIt,abx,aaP,aaR,gN,i0,i1,i2,j0,j1,j2,sFor,aaS,rg,aaY,abo,mSl,mO0,mO1,abY,s0,s1,s2,t0,t1,t2,a0,a1,a2,mApp,acM,aed,z0,z1,z2,hG1,hG2,hG3]
theorem amj {k l:Nat} (hk:k + l + 1 ≤ 1000) (ms:List Int) {f:List Int} (g:Gu 3 l f) (hc:f.getD 2 0 ≠ 0) (x0:Option AV):∀ (hs gs:List (List (List Int))) (x3 x4 x5 x6:Option AV),(∀ uss ∈ hs,Sx 2 k uss) → gs.length + 3 * hs.length ≤ 90 → ∃ y3 y4 y5 y6:Option AV,abT [] (gN 3) lpB (hs.map px) [x0,some (.pv (tv f)),some (.ref 1),x3,x4,x5,x6] [.lst (li ms),.lst (gs.map px)] = .nx [x0,some (.pv (tv f)),some (.ref 1),y3,y4,y5,y6] [.lst (li ms),.lst ((gs ++ hs.flatMap (prX f)).map px)]
 | [],gs,x3,x4,x5,x6,_,_=>⟨x3,x4,x5,x6,by simp [abo]⟩
 | uss :: hs,gs,x3,x4,x5,x6,h,hl=>by
  have hl:gs.length + 3 * (hs.length + 1) ≤ 90:=hl
  obtain ⟨y4,y5,y6,e1⟩:=aoI hk ms g hc gs (by omega) (h uss (by simp)) x0 x4 x5 x6
  have l3:(prX f uss).length = 3:=by
   have:=(h uss (by simp)).len
   match uss,this with
   | [_,_,_],_=>rfl
  obtain ⟨z3,z4,z5,z6,e2⟩:=amj hk ms g hc x0 hs (gs ++ prX f uss) (some (.pv (px uss))) y4 y5 y6 (fun y hy=>h y (List.mem_cons_of_mem _ hy)) (by rw [List.length_append,l3]; omega)
  refine ⟨z3,z4,z5,z6,?_⟩
  rw [List.append_assoc] at e2
  rw [List.map_cons,aaY,List.flatMap_cons]
  simp only [gN,List.set_cons_succ,List.set_cons_zero]
  rw [e1]
  exact e2
theorem ajw {k l:Nat} (ms:List Int) (hk:k + l + 1 ≤ 1000) {hs:List (List (List Int))} (h9:hs.length ≤ 9) (h:∀ uss ∈ hs,Sx 2 k uss) {f:List Int} (g:Gu 3 l f) (hc:f.getD 2 0 ≠ 0):ac3 [.pv (.lst (hs.map px)),.pv (tv f)] [.lst (li ms)] = .ok (.ref 1) [.lst (li ms),.lst ((hs.flatMap (prX f)).map px)]:=by
 obtain ⟨y3,y4,y5,y6,e⟩:=amj hk ms g hc (some (.pv (.lst (hs.map px)))) hs [] none none none none h (by simp only [List.length_nil]; omega)
 rw [List.nil_append,List.map_nil] at e
 have hb:agi = (sSeq (sSet 2 (mNew mNil))
 (sSeq (sFor (mIt (mVar 0)) (gN 3) lpB)
 (sRet (mVar 2)))):=rfl
 unfold ac3 fnM
 rw [hb]
 generalize lpB = PB1 at *
 generalize (hs.flatMap (prX f)).map px = ML at *
 generalize tv f = T at *
 generalize hs.map px = HL at *
 simp [aak,sSeq,sIf,mTst,mNot,mAnd,mOr,aaE,mOrV,mIf,mBin,mUn,mR,mN,aab,mVar,mC,mNil,Res.bind,aaG,aaA,aaD,aaH,aax,rd,aaB,okO,fLen,fAbs,aam,aal,fTup,fLst,fIx,atI,ixN,fEq,fNe,eqN,aap,aaq,aas,aar,fAdd,aaj,fNeg,fNot,tst,SRes.of,sRet,aaM,sNil,aat,sSet,aan,aaF,aae,aaC,aao,frz,aaJ,mNew,ae5,sFor,mIt,abx,e]
theorem apQ (ns:List Int) (ρ:Rho) (hi:ρ[1]? = some (some (.ref 0))):∃ (gs:List (List (List Int))) (ns':List Int),(aae acJ [] (aab (mVar 1) (aab (aae abq [] (aab (mVar 1) (aab (mC (.int 2)) (aab (mC (.int 4)) mNil)))) (aab (aae abH [] (aab (mVar 1) (aab (mC (.int 2)) mNil))) mNil)))) ρ [.lst (li ns)] = .ok (.pv (.lst (gs.map px))) [.lst (li ns')] ∧ gs.length ≤ 4 ∧ ∀ uss ∈ gs,Sx 2 201 uss:=by
 have hn:(2:Nat) = 2 ∨ (2:Nat) = 3:=.inl rfl
 obtain ⟨hs,n1,e1,l1,r1⟩:=ahr (M:=4) hn (by decide) ns
 obtain ⟨fs,n2,e2,l2,r2⟩:=ai2 hn n1
 obtain ⟨gs,n3,e3,l3,r3⟩:=anP hn n2 l2 r2 r1 (by omega)
 rw [show ((2:Nat):Int) = 2 from rfl] at e1 e2
 rw [show ((4:Nat):Int) = 4 from rfl] at e1
 refine ⟨gs,n3,?_,by omega,r3⟩
 generalize gs.map px = GL at *
 generalize hs.map rawv = HL at *
 generalize fs.map fv = FL at *
 simp [aak,sSeq,sIf,mTst,mNot,mAnd,mOr,aaE,mOrV,mIf,mBin,mUn,mR,mN,aab,mVar,mC,mNil,Res.bind,aaG,aaA,aaD,aaH,aax,rd,aaB,okO,fLen,fAbs,aam,aal,fTup,fLst,fIx,atI,ixN,fEq,fNe,eqN,aap,aaq,aas,aar,fAdd,aaj,fNeg,fNot,tst,SRes.of,sRet,aaM,sNil,aat,sSet,aan,aaF,aae,aaC,aao,frz,aaJ,hi,e1,e2,e3]
theorem ak4 (ns:List Int) (h:ns.length ≤ 63):∃ S,alk [.pv (.lst (ns.map .int))] [] = .ok (.pv (.bl true)) S:=by
 obtain ⟨ms,e0,_⟩:=aoT ns [] h
 have e0:aew [.pv (.lst (ns.map .int))] [] = .ok (.ref 0) [.lst (li ms)]:=e0
 obtain ⟨gs,n1,eh,l1,r1⟩:=apQ ms [some (.pv (.lst (ns.map .int))),some (.ref 0),none,none,none,none,none,none] rfl
 obtain ⟨top,n2,e2,G⟩:=alj n1
 obtain ⟨A,n3,e3,hA⟩:=al2 (S:=[.lst (li n2)]) (k:=0) (ns:=n2) (L:=gs.map px) rfl
 simp only [List.set_cons_zero] at e3
 have e3:ab5 [.ref 0,.pv (.lst (gs.map px))] [.lst (li n2)] = .ok (.pv A) [.lst (li n3)]:=e3
 have a1:aal [A] = some (.lst (gs.map px)):=by rcases hA with rfl | rfl <;> rfl
 have f1:=alX (aiu (m:=5) r1).2
 have i2:=aoE G
 have hb:am5 = (sSeq (sSet 1 (aao aew [] (aab (mVar 0) mNil)))
 (sSeq (sSet 2 (aae acJ [] (aab (mVar 1) (aab (aae abq [] (aab (mVar 1) (aab (mC (.int 2)) (aab (mC (.int 4)) mNil)))) (aab (aae abH [] (aab (mVar 1) (aab (mC (.int 2)) mNil))) mNil)))))
 (sSeq (sSet 3 (aae acD [] (aab (mVar 1) (aab (mC (.int 3)) mNil))))
 (sSeq (sSet 4 (aae ab5 [] (aab (mVar 1) (aab (mVar 2) mNil))))
 (sSeq (sSet 5 (mC .non))
 (sSeq (sSet 6 (mC (.bl false)))
 (sSeq (aiS adc [] (aab (mVar 4) (aab (mVar 3) mNil)) "Flat" 8 5 (fun ρ=>(((ρ.set 7 none).set 6 (some (.pv (.bl true)))).set 7 none)))
 (sSeq (sIf (mTst (mBin fNe (mR aal (aab (mVar 4) mNil)) (mVar 2))) (sRet (mC (.bl false))) sNil)
 (sSeq (sIf (mTst (mBin fEq (mBin fIx (mVar 3) (mC (.int 2))) (mC (.int 0)))) (sRet (aaE (mVar 6) (mUn fIsN (mVar 5)))) sNil)
 (sRet (aaE (aae abN [] (aab (mVar 5) (aab (mC (.int 3)) mNil))) (mBin fEq (mR aal (aab (mVar 5) mNil)) (aae ac3 [] (aab (mVar 2) (aab (mVar 3) mNil))))))))))))))):=rfl
 refine ⟨[],?_⟩
 by_cases hc:top.getD 2 0 = 0
 ·have e4:=alF [.lst (li n3)] (A:=A) G hc
  rw [hc] at i2
  have q0:fEq (.int 0) (.int 0) = some (.bl true):=rfl
  generalize (aae acJ [] (aab (mVar 1) (aab (aae abq [] (aab (mVar 1) (aab (mC (.int 2)) (aab (mC (.int 4)) mNil)))) (aab (aae abH [] (aab (mVar 1) (aab (mC (.int 2)) mNil))) mNil)))) = HE1 at eh hb
  generalize tv top = T at *
  generalize gs.map px = GL at *
  generalize ns.map PV.int = NL at *
  unfold alk fnM
  rw [hb]
  simp [aak,sSeq,sIf,mTst,mNot,mAnd,mOr,aaE,mOrV,mIf,mBin,mUn,mR,mN,aab,mVar,mC,mNil,Res.bind,aaG,aaA,aaD,aaH,aax,rd,aaB,okO,fLen,fAbs,fTup,fLst,eqN,aap,aaq,aas,aar,fAdd,aaj,fNeg,fNot,tst,SRes.of,sRet,aaM,sNil,aat,sSet,aan,aaF,aae,aaC,aao,frz,aaJ,e0,eh,e2,e3,aiS,e4,a1,f1,i2,q0,fIsN]
 ·have e4:=ak9 n3 (show 201 + 100 + 1 ≤ 1000 by omega) (show gs.length ≤ 9 by omega) hA r1 G hc
  have e5:=ajw n3 (show 201 + 100 + 1 ≤ 1000 by omega) (show gs.length ≤ 9 by omega) r1 G hc
  have Sm:∀ uss ∈ gs.flatMap (prX top),Sx 3 1000 uss:=fun uss hu=>by
   obtain ⟨x,hx,hy⟩:=List.mem_flatMap.mp hu
   exact anX (show 201 + 100 + 1 ≤ 1000 by omega) (r1 x hx) G hc uss hy
  have q0:fEq (.int (top.getD 2 0)) (.int 0) = some (.bl false):=by
   unfold fEq
   rw [abf]
   have:(top.getD 2 0 == 0) = false:=by simpa using hc
   rw [this]
   rfl
  have f2:=als (aiu (m:=5) Sm).2
  have q3:=akh (.inr rfl) [.lst (li n3)] Sm (Nat.le_refl 1000)
  rw [show ((3:Nat):Int) = 3 from rfl] at q3
  generalize (aae acJ [] (aab (mVar 1) (aab (aae abq [] (aab (mVar 1) (aab (mC (.int 2)) (aab (mC (.int 4)) mNil)))) (aab (aae abH [] (aab (mVar 1) (aab (mC (.int 2)) mNil))) mNil)))) = HE1 at eh hb
  have fM:aal [.tup ((gs.flatMap (prX top)).map px)] = some (.lst ((gs.flatMap (prX top)).map px)):=rfl
  generalize top.getD 2 0 = c2 at *
  generalize tv top = T at *
  generalize (gs.flatMap (prX top)).map px = ML at *
  generalize gs.map px = GL at *
  generalize ns.map PV.int = NL at *
  unfold alk fnM
  rw [hb]
  simp [aak,sSeq,sIf,mTst,mNot,mAnd,mOr,aaE,mOrV,mIf,mBin,mUn,mR,mN,aab,mVar,mC,mNil,Res.bind,aaG,aaA,aaD,aaH,aax,rd,aaB,okO,fLen,fAbs,fTup,fLst,eqN,aap,aaq,aas,aar,fAdd,aaj,fNeg,fNot,tst,SRes.of,sRet,aaM,sNil,aat,sSet,aan,aaF,aae,aaC,aao,frz,aaJ,e0,eh,e2,e3,aiS,e4,a1,f1,i2,q0,e5,q3,fM,f2]
theorem all_mk {l:PySem.W.OpenLaw} {w:World} {K:PySem.W.Frag} {h:Heap} {mg:Str → Option Value} {fa:Addr} (X:K.In h) (G:h.Ns mainGlobals mg) (hfa:mg "law" = some (.ref fa))
  {f23:Addr} {od23 an23:Option Addr} {sl23:Array (Option Value)} {oc23 kV23 dc23 pm23 cd23 ct23:Value}
  (a23:PySem.W.nsIn K mainGlobals "_law_row" = some (some (.ref f23))) (l23:K.lookup f23 = some ⟨oc23,od23,.func (PySem.W.fnOf "_law_row" "_law_row" (aaL af0) (aaw af0) (aad af0) .none kV23 dc23 pm23 an23 cd23 ct23),sl23⟩) (c23:PySem.W.codeIn K cd23 "_law_row" = true) (k23:PySem.W.keepIn K (.ref f23) = true)
  {f24:Addr} {od24 an24:Option Addr} {sl24:Array (Option Value)} {oc24 kV24 dc24 pm24 cd24 ct24:Value}
  (a24:PySem.W.nsIn K mainGlobals "_law_take" = some (some (.ref f24))) (l24:K.lookup f24 = some ⟨oc24,od24,.func (PySem.W.fnOf "_law_take" "_law_take" (aaL aeg) (aaw aeg) (aad aeg) .none kV24 dc24 pm24 an24 cd24 ct24),sl24⟩) (c24:PySem.W.codeIn K cd24 "_law_take" = true) (k24:PySem.W.keepIn K (.ref f24) = true)
  {f25:Addr} {od25 an25:Option Addr} {sl25:Array (Option Value)} {oc25 kV25 dc25 pm25 cd25 ct25:Value}
  (a25:PySem.W.nsIn K mainGlobals "_law_gcd" = some (some (.ref f25))) (l25:K.lookup f25 = some ⟨oc25,od25,.func (PySem.W.fnOf "_law_gcd" "_law_gcd" (aaL afz) (aaw afz) (aad afz) .none kV25 dc25 pm25 an25 cd25 ct25),sl25⟩) (c25:PySem.W.codeIn K cd25 "_law_gcd" = true) (k25:PySem.W.keepIn K (.ref f25) = true)
  {f26:Addr} {od26 an26:Option Addr} {sl26:Array (Option Value)} {oc26 kV26 dc26 pm26 cd26 ct26:Value}
  (a26:PySem.W.nsIn K mainGlobals "_law_lowest" = some (some (.ref f26))) (l26:K.lookup f26 = some ⟨oc26,od26,.func (PySem.W.fnOf "_law_lowest" "_law_lowest" (aaL acq) (aaw acq) (aad acq) .none kV26 dc26 pm26 an26 cd26 ct26),sl26⟩) (c26:PySem.W.codeIn K cd26 "_law_lowest" = true) (k26:PySem.W.keepIn K (.ref f26) = true)
  {f44:Addr} {od44 an44:Option Addr} {sl44:Array (Option Value)} {oc44 kV44 dc44 pm44 cd44 ct44:Value}
  (a44:PySem.W.nsIn K mainGlobals "_law_far" = some (some (.ref f44))) (l44:K.lookup f44 = some ⟨oc44,od44,.func (PySem.W.fnOf "_law_far" "_law_far" (aaL aeO) (aaw aeO) (aad aeO) .none kV44 dc44 pm44 an44 cd44 ct44),sl44⟩) (c44:PySem.W.codeIn K cd44 "_law_far" = true) (k44:PySem.W.keepIn K (.ref f44) = true)
  {f33:Addr} {od33 an33:Option Addr} {sl33:Array (Option Value)} {oc33 kV33 dc33 pm33 cd33 ct33:Value}
  (a33:PySem.W.nsIn K mainGlobals "_law_dot" = some (some (.ref f33))) (l33:K.lookup f33 = some ⟨oc33,od33,.func (PySem.W.fnOf "_law_dot" "_law_dot" (aaL ae0) (aaw ae0) (aad ae0) .none kV33 dc33 pm33 an33 cd33 ct33),sl33⟩) (c33:PySem.W.codeIn K cd33 "_law_dot" = true) (k33:PySem.W.keepIn K (.ref f33) = true)
  {f32:Addr} {od32 an32:Option Addr} {sl32:Array (Option Value)} {oc32 kV32 dc32 pm32 cd32 ct32:Value}
  (a32:PySem.W.nsIn K mainGlobals "_law_cross" = some (some (.ref f32))) (l32:K.lookup f32 = some ⟨oc32,od32,.func (PySem.W.fnOf "_law_cross" "_law_cross" (aaL adx) (aaw adx) (aad adx) .none kV32 dc32 pm32 an32 cd32 ct32),sl32⟩) (c32:PySem.W.codeIn K cd32 "_law_cross" = true) (k32:PySem.W.keepIn K (.ref f32) = true)
  {f34:Addr} {od34 an34:Option Addr} {sl34:Array (Option Value)} {oc34 kV34 dc34 pm34 cd34 ct34:Value}
  (a34:PySem.W.nsIn K mainGlobals "_law_turn" = some (some (.ref f34))) (l34:K.lookup f34 = some ⟨oc34,od34,.func (PySem.W.fnOf "_law_turn" "_law_turn" (aaL aet) (aaw aet) (aad aet) .none kV34 dc34 pm34 an34 cd34 ct34),sl34⟩) (c34:PySem.W.codeIn K cd34 "_law_turn" = true) (k34:PySem.W.keepIn K (.ref f34) = true)
  {f31:Addr} {od31 an31:Option Addr} {sl31:Array (Option Value)} {oc31 kV31 dc31 pm31 cd31 ct31:Value}
  (a31:PySem.W.nsIn K mainGlobals "_law_gap" = some (some (.ref f31))) (l31:K.lookup f31 = some ⟨oc31,od31,.func (PySem.W.fnOf "_law_gap" "_law_gap" (aaL afb) (aaw afb) (aad afb) .none kV31 dc31 pm31 an31 cd31 ct31),sl31⟩) (c31:PySem.W.codeIn K cd31 "_law_gap" = true) (k31:PySem.W.keepIn K (.ref f31) = true)
  {f35:Addr} {od35 an35:Option Addr} {sl35:Array (Option Value)} {oc35 kV35 dc35 pm35 cd35 ct35:Value}
  (a35:PySem.W.nsIn K mainGlobals "_law_det" = some (some (.ref f35))) (l35:K.lookup f35 = some ⟨oc35,od35,.func (PySem.W.fnOf "_law_det" "_law_det" (aaL afe) (aaw afe) (aad afe) .none kV35 dc35 pm35 an35 cd35 ct35),sl35⟩) (c35:PySem.W.codeIn K cd35 "_law_det" = true) (k35:PySem.W.keepIn K (.ref f35) = true)
  {f36:Addr} {od36 an36:Option Addr} {sl36:Array (Option Value)} {oc36 kV36 dc36 pm36 cd36 ct36:Value}
  (a36:PySem.W.nsIn K mainGlobals "_law_simplex" = some (some (.ref f36))) (l36:K.lookup f36 = some ⟨oc36,od36,.func (PySem.W.fnOf "_law_simplex" "_law_simplex" (aaL acl) (aaw acl) (aad acl) .none kV36 dc36 pm36 an36 cd36 ct36),sl36⟩) (c36:PySem.W.codeIn K cd36 "_law_simplex" = true) (k36:PySem.W.keepIn K (.ref f36) = true)
  {f30:Addr} {od30 an30:Option Addr} {sl30:Array (Option Value)} {oc30 kV30 dc30 pm30 cd30 ct30:Value}
  (a30:PySem.W.nsIn K mainGlobals "_law_joined" = some (some (.ref f30))) (l30:K.lookup f30 = some ⟨oc30,od30,.func (PySem.W.fnOf "_law_joined" "_law_joined" (aaL acw) (aaw acw) (aad acw) .none kV30 dc30 pm30 an30 cd30 ct30),sl30⟩) (c30:PySem.W.codeIn K cd30 "_law_joined" = true) (k30:PySem.W.keepIn K (.ref f30) = true)
  {f46:Addr} {od46 an46:Option Addr} {sl46:Array (Option Value)} {oc46 kV46 dc46 pm46 cd46 ct46:Value}
  (a46:PySem.W.nsIn K mainGlobals "_law_spot" = some (some (.ref f46))) (l46:K.lookup f46 = some ⟨oc46,od46,.func (PySem.W.fnOf "_law_spot" "_law_spot" (aaL adO) (aaw adO) (aad adO) .none kV46 dc46 pm46 an46 cd46 ct46),sl46⟩) (c46:PySem.W.codeIn K cd46 "_law_spot" = true) (k46:PySem.W.keepIn K (.ref f46) = true)
  {f47:Addr} {od47 an47:Option Addr} {sl47:Array (Option Value)} {oc47 kV47 dc47 pm47 cd47 ct47:Value}
  (a47:PySem.W.nsIn K mainGlobals "_law_laid" = some (some (.ref f47))) (l47:K.lookup f47 = some ⟨oc47,od47,.func (PySem.W.fnOf "_law_laid" "_law_laid" (aaL adL) (aaw adL) (aad adL) .none kV47 dc47 pm47 an47 cd47 ct47),sl47⟩) (c47:PySem.W.codeIn K cd47 "_law_laid" = true) (k47:PySem.W.keepIn K (.ref f47) = true)
  {f29:Addr} {od29 an29:Option Addr} {sl29:Array (Option Value)} {oc29 kV29 dc29 pm29 cd29 ct29:Value}
  (a29:PySem.W.nsIn K mainGlobals "_law_frac" = some (some (.ref f29))) (l29:K.lookup f29 = some ⟨oc29,od29,.func (PySem.W.fnOf "_law_frac" "_law_frac" (aaL aeh) (aaw aeh) (aad aeh) .none kV29 dc29 pm29 an29 cd29 ct29),sl29⟩) (c29:PySem.W.codeIn K cd29 "_law_frac" = true) (k29:PySem.W.keepIn K (.ref f29) = true)
  {f45:Addr} {od45 an45:Option Addr} {sl45:Array (Option Value)} {oc45 kV45 dc45 pm45 cd45 ct45:Value}
  (a45:PySem.W.nsIn K mainGlobals "_law_stretch" = some (some (.ref f45))) (l45:K.lookup f45 = some ⟨oc45,od45,.func (PySem.W.fnOf "_law_stretch" "_law_stretch" (aaL ack) (aaw ack) (aad ack) .none kV45 dc45 pm45 an45 cd45 ct45),sl45⟩) (c45:PySem.W.codeIn K cd45 "_law_stretch" = true) (k45:PySem.W.keepIn K (.ref f45) = true)
  {f41:Addr} {od41 an41:Option Addr} {sl41:Array (Option Value)} {oc41 kV41 dc41 pm41 cd41 ct41:Value}
  (a41:PySem.W.nsIn K mainGlobals "_law_raw_turn" = some (some (.ref f41))) (l41:K.lookup f41 = some ⟨oc41,od41,.func (PySem.W.fnOf "_law_raw_turn" "_law_raw_turn" (aaL abO) (aaw abO) (aad abO) .none kV41 dc41 pm41 an41 cd41 ct41),sl41⟩) (c41:PySem.W.codeIn K cd41 "_law_raw_turn" = true) (k41:PySem.W.keepIn K (.ref f41) = true)
  {f40:Addr} {od40 an40:Option Addr} {sl40:Array (Option Value)} {oc40 kV40 dc40 pm40 cd40 ct40:Value}
  (a40:PySem.W.nsIn K mainGlobals "_law_raw" = some (some (.ref f40))) (l40:K.lookup f40 = some ⟨oc40,od40,.func (PySem.W.fnOf "_law_raw" "_law_raw" (aaL adY) (aaw adY) (aad adY) .none kV40 dc40 pm40 an40 cd40 ct40),sl40⟩) (c40:PySem.W.codeIn K cd40 "_law_raw" = true) (k40:PySem.W.keepIn K (.ref f40) = true)
  {f42:Addr} {od42 an42:Option Addr} {sl42:Array (Option Value)} {oc42 kV42 dc42 pm42 cd42 ct42:Value}
  (a42:PySem.W.nsIn K mainGlobals "_law_kuhn" = some (some (.ref f42))) (l42:K.lookup f42 = some ⟨oc42,od42,.func (PySem.W.fnOf "_law_kuhn" "_law_kuhn" (aaL aep) (aaw aep) (aad aep) .none kV42 dc42 pm42 an42 cd42 ct42),sl42⟩) (c42:PySem.W.codeIn K cd42 "_law_kuhn" = true) (k42:PySem.W.keepIn K (.ref f42) = true)
  {f43:Addr} {od43 an43:Option Addr} {sl43:Array (Option Value)} {oc43 kV43 dc43 pm43 cd43 ct43:Value}
  (a43:PySem.W.nsIn K mainGlobals "_law_raw_heap" = some (some (.ref f43))) (l43:K.lookup f43 = some ⟨oc43,od43,.func (PySem.W.fnOf "_law_raw_heap" "_law_raw_heap" (aaL aca) (aaw aca) (aad aca) .none kV43 dc43 pm43 an43 cd43 ct43),sl43⟩) (c43:PySem.W.codeIn K cd43 "_law_raw_heap" = true) (k43:PySem.W.keepIn K (.ref f43) = true)
  {f51:Addr} {od51 an51:Option Addr} {sl51:Array (Option Value)} {oc51 kV51 dc51 pm51 cd51 ct51:Value}
  (a51:PySem.W.nsIn K mainGlobals "_law_shift" = some (some (.ref f51))) (l51:K.lookup f51 = some ⟨oc51,od51,.func (PySem.W.fnOf "_law_shift" "_law_shift" (aaL acY) (aaw acY) (aad acY) .none kV51 dc51 pm51 an51 cd51 ct51),sl51⟩) (c51:PySem.W.codeIn K cd51 "_law_shift" = true) (k51:PySem.W.keepIn K (.ref f51) = true)
  {f48:Addr} {od48 an48:Option Addr} {sl48:Array (Option Value)} {oc48 kV48 dc48 pm48 cd48 ct48:Value}
  (a48:PySem.W.nsIn K mainGlobals "_law_handed" = some (some (.ref f48))) (l48:K.lookup f48 = some ⟨oc48,od48,.func (PySem.W.fnOf "_law_handed" "_law_handed" (aaL acS) (aaw acS) (aad acS) .none kV48 dc48 pm48 an48 cd48 ct48),sl48⟩) (c48:PySem.W.codeIn K cd48 "_law_handed" = true) (k48:PySem.W.keepIn K (.ref f48) = true)
  {f20:Addr} {od20 an20:Option Addr} {sl20:Array (Option Value)} {oc20 kV20 dc20 pm20 cd20 ct20:Value}
  (a20:PySem.W.nsIn K mainGlobals "refuse_flat" = some (some (.ref f20))) (l20:K.lookup f20 = some ⟨oc20,od20,.func (PySem.W.fnOf "refuse_flat" "refuse_flat" (aaL abS) (aaw abS) (aad abS) .none kV20 dc20 pm20 an20 cd20 ct20),sl20⟩) (c20:PySem.W.codeIn K cd20 "refuse_flat" = true) (k20:PySem.W.keepIn K (.ref f20) = true)
  {f19:Addr} {od19 an19:Option Addr} {sl19:Array (Option Value)} {oc19 kV19 dc19 pm19 cd19 ct19:Value}
  (a19:PySem.W.nsIn K mainGlobals "in_space" = some (some (.ref f19))) (l19:K.lookup f19 = some ⟨oc19,od19,.func (PySem.W.fnOf "in_space" "in_space" (aaL acj) (aaw acj) (aad acj) .none kV19 dc19 pm19 an19 cd19 ct19),sl19⟩) (c19:PySem.W.codeIn K cd19 "in_space" = true) (k19:PySem.W.keepIn K (.ref f19) = true)
  {f6:Addr} {od6 an6:Option Addr} {sl6:Array (Option Value)} {oc6 kV6 dc6 pm6 cd6 ct6:Value}
  (a6:PySem.W.nsIn K mainGlobals "divisor" = some (some (.ref f6))) (l6:K.lookup f6 = some ⟨oc6,od6,.func (PySem.W.fnOf "divisor" "divisor" (aaL acN) (aaw acN) (aad acN) .none kV6 dc6 pm6 an6 cd6 ct6),sl6⟩) (c6:PySem.W.codeIn K cd6 "divisor" = true) (k6:PySem.W.keepIn K (.ref f6) = true)
  {f7:Addr} {od7 an7:Option Addr} {sl7:Array (Option Value)} {oc7 kV7 dc7 pm7 cd7 ct7:Value}
  (a7:PySem.W.nsIn K mainGlobals "reduced" = some (some (.ref f7))) (l7:K.lookup f7 = some ⟨oc7,od7,.func (PySem.W.fnOf "reduced" "reduced" (aaL acp) (aaw acp) (aad acp) .none kV7 dc7 pm7 an7 cd7 ct7),sl7⟩) (c7:PySem.W.codeIn K cd7 "reduced" = true) (k7:PySem.W.keepIn K (.ref f7) = true)
  {f5:Addr} {od5 an5:Option Addr} {sl5:Array (Option Value)} {oc5 kV5 dc5 pm5 cd5 ct5:Value}
  (a5:PySem.W.nsIn K mainGlobals "sign" = some (some (.ref f5))) (l5:K.lookup f5 = some ⟨oc5,od5,.func (PySem.W.fnOf "sign" "sign" (aaL afL) (aaw afL) (aad afL) .none kV5 dc5 pm5 an5 cd5 ct5),sl5⟩) (c5:PySem.W.codeIn K cd5 "sign" = true) (k5:PySem.W.keepIn K (.ref f5) = true)
  {f9:Addr} {od9 an9:Option Addr} {sl9:Array (Option Value)} {oc9 kV9 dc9 pm9 cd9 ct9:Value}
  {T9:Addr} {tc9:Value} {td9:Option Addr} {tl9:Array (Option Value)} {tt9:Tok} {tn9:Nat}
  (a9:PySem.W.nsIn K mainGlobals "point" = some (some (.ref f9))) (l9:K.lookup f9 = some ⟨oc9,od9,.func (PySem.W.fnOf "point" "point" (aaL adN) (aaw adN) (aad adN) (.ref T9) kV9 dc9 pm9 an9 cd9 ct9),sl9⟩) (c9:PySem.W.codeIn K cd9 "point" = true) (k9:PySem.W.keepIn K (.ref f9) = true)
  (t9:K.lookup T9 = some ⟨tc9,td9,.seq #[.int 1 tt9] tn9,tl9⟩)
  {f10:Addr} {od10 an10:Option Addr} {sl10:Array (Option Value)} {oc10 kV10 dc10 pm10 cd10 ct10:Value}
  (a10:PySem.W.nsIn K mainGlobals "added" = some (some (.ref f10))) (l10:K.lookup f10 = some ⟨oc10,od10,.func (PySem.W.fnOf "added" "added" (aaL adR) (aaw adR) (aad adR) .none kV10 dc10 pm10 an10 cd10 ct10),sl10⟩) (c10:PySem.W.codeIn K cd10 "added" = true) (k10:PySem.W.keepIn K (.ref f10) = true)
  {f11:Addr} {od11 an11:Option Addr} {sl11:Array (Option Value)} {oc11 kV11 dc11 pm11 cd11 ct11:Value}
  (a11:PySem.W.nsIn K mainGlobals "whole_arrow" = some (some (.ref f11))) (l11:K.lookup f11 = some ⟨oc11,od11,.func (PySem.W.fnOf "whole_arrow" "whole_arrow" (aaL abE) (aaw abE) (aad abE) .none kV11 dc11 pm11 an11 cd11 ct11),sl11⟩) (c11:PySem.W.codeIn K cd11 "whole_arrow" = true) (k11:PySem.W.keepIn K (.ref f11) = true)
  {f12:Addr} {od12 an12:Option Addr} {sl12:Array (Option Value)} {oc12 kV12 dc12 pm12 cd12 ct12:Value}
  (a12:PySem.W.nsIn K mainGlobals "dot" = some (some (.ref f12))) (l12:K.lookup f12 = some ⟨oc12,od12,.func (PySem.W.fnOf "dot" "dot" (aaL ahs) (aaw ahs) (aad ahs) .none kV12 dc12 pm12 an12 cd12 ct12),sl12⟩) (c12:PySem.W.codeIn K cd12 "dot" = true) (k12:PySem.W.keepIn K (.ref f12) = true)
  {f13:Addr} {od13 an13:Option Addr} {sl13:Array (Option Value)} {oc13 kV13 dc13 pm13 cd13 ct13:Value}
  (a13:PySem.W.nsIn K mainGlobals "normal" = some (some (.ref f13))) (l13:K.lookup f13 = some ⟨oc13,od13,.func (PySem.W.fnOf "normal" "normal" (aaL ads) (aaw ads) (aad ads) .none kV13 dc13 pm13 an13 cd13 ct13),sl13⟩) (c13:PySem.W.codeIn K cd13 "normal" = true) (k13:PySem.W.keepIn K (.ref f13) = true)
  {f14:Addr} {od14 an14:Option Addr} {sl14:Array (Option Value)} {oc14 kV14 dc14 pm14 cd14 ct14:Value}
  (a14:PySem.W.nsIn K mainGlobals "determinant" = some (some (.ref f14))) (l14:K.lookup f14 = some ⟨oc14,od14,.func (PySem.W.fnOf "determinant" "determinant" (aaL abF) (aaw abF) (aad abF) .none kV14 dc14 pm14 an14 cd14 ct14),sl14⟩) (c14:PySem.W.codeIn K cd14 "determinant" = true) (k14:PySem.W.keepIn K (.ref f14) = true)
  {f15:Addr} {od15 an15:Option Addr} {sl15:Array (Option Value)} {oc15 kV15 dc15 pm15 cd15 ct15:Value}
  (a15:PySem.W.nsIn K mainGlobals "side" = some (some (.ref f15))) (l15:K.lookup f15 = some ⟨oc15,od15,.func (PySem.W.fnOf "side" "side" (aaL afA) (aaw afA) (aad afA) .none kV15 dc15 pm15 an15 cd15 ct15),sl15⟩) (c15:PySem.W.codeIn K cd15 "side" = true) (k15:PySem.W.keepIn K (.ref f15) = true)
  {f17:Addr} {od17 an17:Option Addr} {sl17:Array (Option Value)} {oc17 kV17 dc17 pm17 cd17 ct17:Value}
  (a17:PySem.W.nsIn K mainGlobals "simplex" = some (some (.ref f17))) (l17:K.lookup f17 = some ⟨oc17,od17,.func (PySem.W.fnOf "simplex" "simplex" (aaL acU) (aaw acU) (aad acU) .none kV17 dc17 pm17 an17 cd17 ct17),sl17⟩) (c17:PySem.W.codeIn K cd17 "simplex" = true) (k17:PySem.W.keepIn K (.ref f17) = true)
  {f21:Addr} {od21 an21:Option Addr} {sl21:Array (Option Value)} {oc21 kV21 dc21 pm21 cd21 ct21:Value}
  (a21:PySem.W.nsIn K mainGlobals "prism" = some (some (.ref f21))) (l21:K.lookup f21 = some ⟨oc21,od21,.func (PySem.W.fnOf "prism" "prism" (aaL ac9) (aaw ac9) (aad ac9) .none kV21 dc21 pm21 an21 cd21 ct21),sl21⟩) (c21:PySem.W.codeIn K cd21 "prism" = true) (k21:PySem.W.keepIn K (.ref f21) = true)
  {f27:Addr} {od27 an27:Option Addr} {sl27:Array (Option Value)} {oc27 kV27 dc27 pm27 cd27 ct27:Value}
  (a27:PySem.W.nsIn K mainGlobals "_law_whole" = some (some (.ref f27))) (l27:K.lookup f27 = some ⟨oc27,od27,.func (PySem.W.fnOf "_law_whole" "_law_whole" (aaL ady) (aaw ady) (aad ady) .none kV27 dc27 pm27 an27 cd27 ct27),sl27⟩) (c27:PySem.W.codeIn K cd27 "_law_whole" = true) (k27:PySem.W.keepIn K (.ref f27) = true)
  {f28:Addr} {od28 an28:Option Addr} {sl28:Array (Option Value)} {oc28 kV28 dc28 pm28 cd28 ct28:Value}
  (a28:PySem.W.nsIn K mainGlobals "_law_wholes" = some (some (.ref f28))) (l28:K.lookup f28 = some ⟨oc28,od28,.func (PySem.W.fnOf "_law_wholes" "_law_wholes" (aaL acu) (aaw acu) (aad acu) .none kV28 dc28 pm28 an28 cd28 ct28),sl28⟩) (c28:PySem.W.codeIn K cd28 "_law_wholes" = true) (k28:PySem.W.keepIn K (.ref f28) = true)
  {f37:Addr} {od37 an37:Option Addr} {sl37:Array (Option Value)} {oc37 kV37 dc37 pm37 cd37 ct37:Value}
  (a37:PySem.W.nsIn K mainGlobals "_law_point_form" = some (some (.ref f37))) (l37:K.lookup f37 = some ⟨oc37,od37,.func (PySem.W.fnOf "_law_point_form" "_law_point_form" (aaL abR) (aaw abR) (aad abR) .none kV37 dc37 pm37 an37 cd37 ct37),sl37⟩) (c37:PySem.W.codeIn K cd37 "_law_point_form" = true) (k37:PySem.W.keepIn K (.ref f37) = true)
  {f38:Addr} {od38 an38:Option Addr} {sl38:Array (Option Value)} {oc38 kV38 dc38 pm38 cd38 ct38:Value}
  (a38:PySem.W.nsIn K mainGlobals "_law_simplex_form" = some (some (.ref f38))) (l38:K.lookup f38 = some ⟨oc38,od38,.func (PySem.W.fnOf "_law_simplex_form" "_law_simplex_form" (aaL abk) (aaw abk) (aad abk) .none kV38 dc38 pm38 an38 cd38 ct38),sl38⟩) (c38:PySem.W.codeIn K cd38 "_law_simplex_form" = true) (k38:PySem.W.keepIn K (.ref f38) = true)
  {f39:Addr} {od39 an39:Option Addr} {sl39:Array (Option Value)} {oc39 kV39 dc39 pm39 cd39 ct39:Value}
  (a39:PySem.W.nsIn K mainGlobals "_law_heap_form" = some (some (.ref f39))) (l39:K.lookup f39 = some ⟨oc39,od39,.func (PySem.W.fnOf "_law_heap_form" "_law_heap_form" (aaL abP) (aaw abP) (aad abP) .none kV39 dc39 pm39 an39 cd39 ct39),sl39⟩) (c39:PySem.W.codeIn K cd39 "_law_heap_form" = true) (k39:PySem.W.keepIn K (.ref f39) = true)
  {f49:Addr} {od49 an49:Option Addr} {sl49:Array (Option Value)} {oc49 kV49 dc49 pm49 cd49 ct49:Value}
  (a49:PySem.W.nsIn K mainGlobals "_law_raised" = some (some (.ref f49))) (l49:K.lookup f49 = some ⟨oc49,od49,.func (PySem.W.fnOf "_law_raised" "_law_raised" (aaL acR) (aaw acR) (aad acR) .none kV49 dc49 pm49 an49 cd49 ct49),sl49⟩) (c49:PySem.W.codeIn K cd49 "_law_raised" = true) (k49:PySem.W.keepIn K (.ref f49) = true)
  {f50:Addr} {od50 an50:Option Addr} {sl50:Array (Option Value)} {oc50 kV50 dc50 pm50 cd50 ct50:Value}
  (a50:PySem.W.nsIn K mainGlobals "_law_prism" = some (some (.ref f50))) (l50:K.lookup f50 = some ⟨oc50,od50,.func (PySem.W.fnOf "_law_prism" "_law_prism" (aaL acE) (aaw acE) (aad acE) .none kV50 dc50 pm50 an50 cd50 ct50),sl50⟩) (c50:PySem.W.codeIn K cd50 "_law_prism" = true) (k50:PySem.W.keepIn K (.ref f50) = true)
  {f52:Addr} {od52 an52:Option Addr} {sl52:Array (Option Value)} {oc52 kV52 dc52 pm52 cd52 ct52:Value}
  (a52:PySem.W.nsIn K mainGlobals "law" = some (some (.ref f52))) (l52:K.lookup f52 = some ⟨oc52,od52,.func (PySem.W.fnOf "law" "law" (aaL agz) (aaw agz) (aad agz) .none kV52 dc52 pm52 an52 cd52 ct52),sl52⟩) (c52:PySem.W.codeIn K cd52 "law" = true) (k52:PySem.W.keepIn K (.ref f52) = true)
  (z1:PySem.W.nsIn K mainGlobals "abs" = some none)
  (z2:PySem.W.nsIn K mainGlobals "all" = some none)
  (z3:PySem.W.nsIn K mainGlobals "bool" = some none)
  (z4:PySem.W.nsIn K mainGlobals "enumerate" = some none)
  (z5:PySem.W.nsIn K mainGlobals "int" = some none)
  (z6:PySem.W.nsIn K mainGlobals "isinstance" = some none)
  (z7:PySem.W.nsIn K mainGlobals "len" = some none)
  (z8:PySem.W.nsIn K mainGlobals "list" = some none)
  (z9:PySem.W.nsIn K mainGlobals "range" = some none)
  (z10:PySem.W.nsIn K mainGlobals "sorted" = some none)
  (z11:PySem.W.nsIn K mainGlobals "sum" = some none)
  (z12:PySem.W.nsIn K mainGlobals "tuple" = some none)
  (z13:PySem.W.nsIn K mainGlobals "zip" = some none)
  {C1 C2 C3:Addr}
  (y1:PySem.W.nsIn K mainGlobals "Flat" = some (some (.ref C1))) (x1:PySem.W.excIn K C1 acn "ValueError.__new__" = true)
  (y2:PySem.W.nsIn K mainGlobals "HallError" = some (some (.ref C2))) (x2:PySem.W.excIn K C2 acn "ValueError.__new__" = true)
  (y3:PySem.W.nsIn K mainGlobals "NoPoint" = some (some (.ref C3))) (x3:PySem.W.excIn K C3 acn "ValueError.__new__" = true)
  (u1C1:PySem.W.findIn K (.ref C1) "__getattribute__" = some (some (.builtin "BaseException.__getattribute__"))) (u2C1:PySem.W.findIn K (.ref C1) "__getattr__" = some none) (u3C1:PySem.W.mroIn K C1 (.type "BaseException") = some true) (u4C1:PySem.W.mroIn K C1 (.type "object") = some true)
  (u5C1:PySem.W.findIn K (.ref C1) "__class__" = some (some (.builtin "object.__class__"))) (u6C1:PySem.W.specialIn K (.builtin "object.__class__") "__get__" = some (some (.builtin "getset_descriptor.__get__"))) (u7C1:PySem.W.takesIn K (.builtin "object.__class__") = some true) (u8C1:PySem.W.hasDictIn K C1 = true)
  (wFlat_HallError:PySem.W.kitOne K (.ref C1) (.ref C2) = some true)
  : ∃ fd:FuncData,(∀ (s:Shared) (v:Value),BindsTo s fd ⟨[v],[]⟩ [("_law_script",v)]) ∧ ∀ base:Heap,K.In base → base.Ns mainGlobals mg → FnOk l.prog w K mg base CX0 7 fa fd ["_law_script"] (alT K):=by
 let cl:Str → Addr:=fun n=>if n = "Flat" then C1 else if n = "HallError" then C2 else if n = "NoPoint" then C3 else 0
 have e:=hfa.symm.trans (PySem.W.mg_of X G a52)
 cases e
 have F23:=aa0 (st:=af0) l23 c23 k23
 have F24:=aa0 (st:=aeg) l24 c24 k24
 have F25:=aa0 (st:=afz) l25 c25 k25
 have F26:=aa0 (st:=acq) l26 c26 k26
 have F44:=aa0 (st:=aeO) l44 c44 k44
 have F33:=aa0 (st:=ae0) l33 c33 k33
 have F32:=aa0 (st:=adx) l32 c32 k32
 have F34:=aa0 (st:=aet) l34 c34 k34
 have F31:=aa0 (st:=afb) l31 c31 k31
 have F35:=aa0 (st:=afe) l35 c35 k35
 have F36:=aa0 (st:=acl) l36 c36 k36
 have F30:=aa0 (st:=acw) l30 c30 k30
 have F46:=aa0 (st:=adO) l46 c46 k46
 have F47:=aa0 (st:=adL) l47 c47 k47
 have F29:=aa0 (st:=aeh) l29 c29 k29
 have F45:=aa0 (st:=ack) l45 c45 k45
 have F41:=aa0 (st:=abO) l41 c41 k41
 have F40:=aa0 (st:=adY) l40 c40 k40
 have F42:=aa0 (st:=aep) l42 c42 k42
 have F43:=aa0 (st:=aca) l43 c43 k43
 have F51:=aa0 (st:=acY) l51 c51 k51
 have F48:=aa0 (st:=acS) l48 c48 k48
 have F20:=aa0 (st:=abS) l20 c20 k20
 have F19:=aa0 (st:=acj) l19 c19 k19
 have F6:=aa0 (st:=acN) l6 c6 k6
 have F7:=aa0 (st:=acp) l7 c7 k7
 have F5:=aa0 (st:=afL) l5 c5 k5
 have F9:=am7 (st:=adN) l9 c9 k9 t9 rfl
 have F10:=aa0 (st:=adR) l10 c10 k10
 have F11:=aa0 (st:=abE) l11 c11 k11
 have F12:=aa0 (st:=ahs) l12 c12 k12
 have F13:=aa0 (st:=ads) l13 c13 k13
 have F14:=aa0 (st:=abF) l14 c14 k14
 have F15:=aa0 (st:=afA) l15 c15 k15
 have F17:=aa0 (st:=acU) l17 c17 k17
 have F21:=aa0 (st:=ac9) l21 c21 k21
 have F27:=aa0 (st:=ady) l27 c27 k27
 have F28:=aa0 (st:=acu) l28 c28 k28
 have F37:=aa0 (st:=abR) l37 c37 k37
 have F38:=aa0 (st:=abk) l38 c38 k38
 have F39:=aa0 (st:=abP) l39 c39 k39
 have F49:=aa0 (st:=acR) l49 c49 k49
 have F50:=aa0 (st:=acE) l50 c50 k50
 have F52:=aa0 (st:=agz) l52 c52 k52
 have b23:=F23.binds (ps:=["_law_script"]) fun _ _ _ _ _ _ us hl=>match us,hl with | [_],_=>rfl
 have b24:=F24.binds (ps:=["_law_row_here","_law_many"]) fun _ _ _ _ _ _ us hl=>match us,hl with | [_,_],_=>rfl
 have b25:=F25.binds (ps:=["_law_one","_law_other"]) fun _ _ _ _ _ _ us hl=>match us,hl with | [_,_],_=>rfl
 have b26:=F26.binds (ps:=["_law_numbers"]) fun _ _ _ _ _ _ us hl=>match us,hl with | [_],_=>rfl
 have b44:=F44.binds (ps:=["_law_row_here","_law_dims"]) fun _ _ _ _ _ _ us hl=>match us,hl with | [_,_],_=>rfl
 have b33:=F33.binds (ps:=["_law_u","_law_v"]) fun _ _ _ _ _ _ us hl=>match us,hl with | [_,_],_=>rfl
 have b32:=F32.binds (ps:=["_law_u","_law_v"]) fun _ _ _ _ _ _ us hl=>match us,hl with | [_,_],_=>rfl
 have b34:=F34.binds (ps:=["_law_ways"]) fun _ _ _ _ _ _ us hl=>match us,hl with | [_],_=>rfl
 have b31:=F31.binds (ps:=["_law_p","_law_q"]) fun _ _ _ _ _ _ us hl=>match us,hl with | [_,_],_=>rfl
 have b35:=F35.binds (ps:=["_law_points"]) fun _ _ _ _ _ _ us hl=>match us,hl with | [_],_=>rfl
 have b36:=F36.binds (ps:=["_law_points"]) fun _ _ _ _ _ _ us hl=>match us,hl with | [_],_=>rfl
 have b30:=F30.binds (ps:=["_law_p","_law_q","_law_way"]) fun _ _ _ _ _ _ us hl=>match us,hl with | [_,_,_],_=>rfl
 have b46:=F46.binds (ps:=["_law_corner","_law_stretch_here"]) fun _ _ _ _ _ _ us hl=>match us,hl with | [_,_],_=>rfl
 have b47:=F47.binds (ps:=["_law_row_here","_law_heap","_law_stretch_here"]) fun _ _ _ _ _ _ us hl=>match us,hl with | [_,_,_],_=>rfl
 have b29:=F29.binds (ps:=["_law_top","_law_bottom"]) fun _ _ _ _ _ _ us hl=>match us,hl with | [_,_],_=>rfl
 have b45:=F45.binds (ps:=["_law_row_here","_law_dims"]) fun _ _ _ _ _ _ us hl=>match us,hl with | [_,_],_=>rfl
 have b41:=F41.binds (ps:=["_law_corners"]) fun _ _ _ _ _ _ us hl=>match us,hl with | [_],_=>rfl
 have b40:=F40.binds (ps:=["_law_row_here","_law_dims","_law_wide"]) fun _ _ _ _ _ _ us hl=>match us,hl with | [_,_,_],_=>rfl
 have b42:=F42.binds (ps:=["_law_row_here"]) fun _ _ _ _ _ _ us hl=>match us,hl with | [_],_=>rfl
 have b43:=F43.binds (ps:=["_law_row_here","_law_dims","_law_many"]) fun _ _ _ _ _ _ us hl=>match us,hl with | [_,_,_],_=>rfl
 have b51:=F51.binds (ps:=["_law_row_here","_law_dims"]) fun _ _ _ _ _ _ us hl=>match us,hl with | [_,_],_=>rfl
 have b48:=F48.binds (ps:=["_law_row_here","_law_rows"]) fun _ _ _ _ _ _ us hl=>match us,hl with | [_,_],_=>rfl
 have b20:=F20.binds (ps:=["arrow"]) fun _ _ _ _ _ _ us hl=>match us,hl with | [_],_=>rfl
 have b19:=F19.binds (ps:=["p"]) fun _ _ _ _ _ _ us hl=>match us,hl with | [_],_=>rfl
 have b6:=F6.binds (ps:=["one","other"]) fun _ _ _ _ _ _ us hl=>match us,hl with | [_,_],_=>rfl
 have b7:=F7.binds (ps:=["numbers"]) fun _ _ _ _ _ _ us hl=>match us,hl with | [_],_=>rfl
 have b5:=F5.binds (ps:=["number"]) fun _ _ _ _ _ _ us hl=>match us,hl with | [_],_=>rfl
 have b9:=F9.binds (ps:=["numbers","bottom"]) (dd:=[]) fun _ _ _ _ _ _ _ us hl=>match us,hl with | [_,_],_=>⟨_,rfl,rfl⟩
 have bD9:=F9.binds (ps:=["numbers","bottom"]) (dd:=[.int 1 tt9]) fun _ _ _ _ _ _ _ us hl=>match us,(show us.length = 1 by simpa using hl) with | [_],_=>⟨_,rfl,rfl⟩
 have b10:=F10.binds (ps:=["p","q"]) fun _ _ _ _ _ _ us hl=>match us,hl with | [_,_],_=>rfl
 have b11:=F11.binds (ps:=["start","end"]) fun _ _ _ _ _ _ us hl=>match us,hl with | [_,_],_=>rfl
 have b12:=F12.binds (ps:=["u","v"]) fun _ _ _ _ _ _ us hl=>match us,hl with | [_,_],_=>rfl
 have b13:=F13.binds (ps:=["arrows"]) fun _ _ _ _ _ _ us hl=>match us,hl with | [_],_=>rfl
 have b14:=F14.binds (ps:=["points"]) fun _ _ _ _ _ _ us hl=>match us,hl with | [_],_=>rfl
 have b15:=F15.binds (ps:=["points"]) fun _ _ _ _ _ _ us hl=>match us,hl with | [_],_=>rfl
 have b17:=F17.binds (ps:=["points"]) fun _ _ _ _ _ _ us hl=>match us,hl with | [_],_=>rfl
 have b21:=F21.binds (ps:=["heap","arrow"]) fun _ _ _ _ _ _ us hl=>match us,hl with | [_,_],_=>rfl
 have b27:=F27.binds (ps:=["_law_number"]) fun _ _ _ _ _ _ us hl=>match us,hl with | [_],_=>rfl
 have b28:=F28.binds (ps:=["_law_told","_law_many"]) fun _ _ _ _ _ _ us hl=>match us,hl with | [_,_],_=>rfl
 have b37:=F37.binds (ps:=["_law_p","_law_many"]) fun _ _ _ _ _ _ us hl=>match us,hl with | [_,_],_=>rfl
 have b38:=F38.binds (ps:=["_law_points","_law_many"]) fun _ _ _ _ _ _ us hl=>match us,hl with | [_,_],_=>rfl
 have b39:=F39.binds (ps:=["_law_heap","_law_many"]) fun _ _ _ _ _ _ us hl=>match us,hl with | [_,_],_=>rfl
 have b49:=F49.binds (ps:=["_law_p"]) fun _ _ _ _ _ _ us hl=>match us,hl with | [_],_=>rfl
 have b50:=F50.binds (ps:=["_law_heap","_law_far_here"]) fun _ _ _ _ _ _ us hl=>match us,hl with | [_,_],_=>rfl
 have m_abs:=PySem.W.mg_none_of X G z1
 have m_all:=PySem.W.mg_none_of X G z2
 have m_bool:=PySem.W.mg_none_of X G z3
 have m_enumerate:=PySem.W.mg_none_of X G z4
 have m_int:=PySem.W.mg_none_of X G z5
 have m_isinstance:=PySem.W.mg_none_of X G z6
 have m_len:=PySem.W.mg_none_of X G z7
 have m_list:=PySem.W.mg_none_of X G z8
 have m_range:=PySem.W.mg_none_of X G z9
 have m_sorted:=PySem.W.mg_none_of X G z10
 have m_sum:=PySem.W.mg_none_of X G z11
 have m_tuple:=PySem.W.mg_none_of X G z12
 have m_zip:=PySem.W.mg_none_of X G z13
 have q_Flat:mg "Flat" = some (.ref (cl "Flat")):=PySem.W.mg_of X G y1
 have x_Flat:PySem.W.excIn K (cl "Flat") acn "ValueError.__new__" = true:=x1
 have q_HallError:mg "HallError" = some (.ref (cl "HallError")):=PySem.W.mg_of X G y2
 have x_HallError:PySem.W.excIn K (cl "HallError") acn "ValueError.__new__" = true:=x2
 have q_NoPoint:mg "NoPoint" = some (.ref (cl "NoPoint")):=PySem.W.mg_of X G y3
 have x_NoPoint:PySem.W.excIn K (cl "NoPoint") acn "ValueError.__new__" = true:=x3
 have Z_Flat:XCls K (cl "Flat"):=⟨u1C1,u2C1,u3C1,u4C1,u5C1,u6C1,u7C1,(by obtain ⟨cd,hc,_⟩:=PySem.W.any_some u8C1; show (PySem.W.clsIn K C1).isSome = true; rw [hc]; rfl)⟩
 have n23:=PySem.W.mg_of X G a23
 have n24:=PySem.W.mg_of X G a24
 have n25:=PySem.W.mg_of X G a25
 have n26:=PySem.W.mg_of X G a26
 have n44:=PySem.W.mg_of X G a44
 have n33:=PySem.W.mg_of X G a33
 have n32:=PySem.W.mg_of X G a32
 have n34:=PySem.W.mg_of X G a34
 have n31:=PySem.W.mg_of X G a31
 have n35:=PySem.W.mg_of X G a35
 have n36:=PySem.W.mg_of X G a36
 have n30:=PySem.W.mg_of X G a30
 have n46:=PySem.W.mg_of X G a46
 have n47:=PySem.W.mg_of X G a47
 have n29:=PySem.W.mg_of X G a29
 have n45:=PySem.W.mg_of X G a45
 have n41:=PySem.W.mg_of X G a41
 have n40:=PySem.W.mg_of X G a40
 have n42:=PySem.W.mg_of X G a42
 have n43:=PySem.W.mg_of X G a43
 have n51:=PySem.W.mg_of X G a51
 have n48:=PySem.W.mg_of X G a48
 have n20:=PySem.W.mg_of X G a20
 have n19:=PySem.W.mg_of X G a19
 have n6:=PySem.W.mg_of X G a6
 have n7:=PySem.W.mg_of X G a7
 have n5:=PySem.W.mg_of X G a5
 have n9:=PySem.W.mg_of X G a9
 have n10:=PySem.W.mg_of X G a10
 have n11:=PySem.W.mg_of X G a11
 have n12:=PySem.W.mg_of X G a12
 have n13:=PySem.W.mg_of X G a13
 have n14:=PySem.W.mg_of X G a14
 have n15:=PySem.W.mg_of X G a15
 have n17:=PySem.W.mg_of X G a17
 have n21:=PySem.W.mg_of X G a21
 have n27:=PySem.W.mg_of X G a27
 have n28:=PySem.W.mg_of X G a28
 have n37:=PySem.W.mg_of X G a37
 have n38:=PySem.W.mg_of X G a38
 have n39:=PySem.W.mg_of X G a39
 have n49:=PySem.W.mg_of X G a49
 have n50:=PySem.W.mg_of X G a50
 have n52:=PySem.W.mg_of X G a52
 refine ⟨PySem.W.fnOf "law" "law" (aaL agz) (aaw agz) (aad agz) .none kV52 dc52 pm52 an52 cd52 ct52,fun s v=>.of_eq rfl,fun base _ _=>?_⟩
 have G23:=am4 (P:=l.prog) (w:=w) (mg:=mg) (base:=base) (cl:=cl) F23 m_enumerate
 have C23:Cal l.prog w K mg base cl "_law_row" 1 ["_law_script"] aew:=⟨_,_,G23,b23,k23,n23⟩
 have G24:=alo (P:=l.prog) (w:=w) (mg:=mg) (base:=base) (cl:=cl) F24 m_len
 have C24:Cal l.prog w K mg base cl "_law_take" 1 ["_law_row_here","_law_many"] aav:=⟨_,_,G24,b24,k24,n24⟩
 have G25:=anq (P:=l.prog) (w:=w) (mg:=mg) (base:=base) (cl:=cl) F25 m_abs
 have C25:Cal l.prog w K mg base cl "_law_gcd" 1 ["_law_one","_law_other"] afh:=⟨_,_,G25,b25,k25,n25⟩
 have G26:=ai7 (P:=l.prog) (w:=w) (mg:=mg) (base:=base) (cl:=cl) F26 C25 m_tuple
 have C26:Cal l.prog w K mg base cl "_law_lowest" 2 ["_law_numbers"] aa1:=⟨_,_,G26,b26,k26,n26⟩
 have G44:=anB (P:=l.prog) (w:=w) (mg:=mg) (base:=base) (cl:=cl) F44 C24 C26 m_range
 have C44:Cal l.prog w K mg base cl "_law_far" 3 ["_law_row_here","_law_dims"] adH:=⟨_,_,G44,b44,k44,n44⟩
 have G33:=anC (P:=l.prog) (w:=w) (mg:=mg) (base:=base) (cl:=cl) F33 m_sum m_zip
 have C33:Cal l.prog w K mg base cl "_law_dot" 1 ["_law_u","_law_v"] afN:=⟨_,_,G33,b33,k33,n33⟩
 have G32:=ake (P:=l.prog) (w:=w) (mg:=mg) (base:=base) (cl:=cl) F32
 have C32:Cal l.prog w K mg base cl "_law_cross" 1 ["_law_u","_law_v"] adt:=⟨_,_,G32,b32,k32,n32⟩
 have G34:=ak6 (P:=l.prog) (w:=w) (mg:=mg) (base:=base) (cl:=cl) F34 C33 C32 m_len
 have C34:Cal l.prog w K mg base cl "_law_turn" 2 ["_law_ways"] ab4:=⟨_,_,G34,b34,k34,n34⟩
 have G31:=am9 (P:=l.prog) (w:=w) (mg:=mg) (base:=base) (cl:=cl) F31 m_len m_range
 have C31:Cal l.prog w K mg base cl "_law_gap" 1 ["_law_p","_law_q"] aez:=⟨_,_,G31,b31,k31,n31⟩
 have G35:=amO (P:=l.prog) (w:=w) (mg:=mg) (base:=base) (cl:=cl) F35 C34 C31
 have C35:Cal l.prog w K mg base cl "_law_det" 3 ["_law_points"] adm:=⟨_,_,G35,b35,k35,n35⟩
 have G36:=ahL (P:=l.prog) (w:=w) (mg:=mg) (base:=base) (cl:=cl) F36 C35 m_sorted m_tuple
 have C36:Cal l.prog w K mg base cl "_law_simplex" 4 ["_law_points"] aba:=⟨_,_,G36,b36,k36,n36⟩
 have G30:=ajm (P:=l.prog) (w:=w) (mg:=mg) (base:=base) (cl:=cl) F30 C26 m_len m_range
 have C30:Cal l.prog w K mg base cl "_law_joined" 3 ["_law_p","_law_q","_law_way"] abe:=⟨_,_,G30,b30,k30,n30⟩
 have G46:=alG (P:=l.prog) (w:=w) (mg:=mg) (base:=base) (cl:=cl) F46 C26 m_zip
 have C46:Cal l.prog w K mg base cl "_law_spot" 3 ["_law_corner","_law_stretch_here"] acZ:=⟨_,_,G46,b46,k46,n46⟩
 have G47:=akY (P:=l.prog) (w:=w) (mg:=mg) (base:=base) (cl:=cl) F47 C44 C36 C30 C46 m_len
 have C47:Cal l.prog w K mg base cl "_law_laid" 5 ["_law_row_here","_law_heap","_law_stretch_here"] acJ:=⟨_,_,G47,b47,k47,n47⟩
 have G29:=alN (P:=l.prog) (w:=w) (mg:=mg) (base:=base) (cl:=cl) F29 C26
 have C29:Cal l.prog w K mg base cl "_law_frac" 3 ["_law_top","_law_bottom"] adP:=⟨_,_,G29,b29,k29,n29⟩
 have G45:=ahK (P:=l.prog) (w:=w) (mg:=mg) (base:=base) (cl:=cl) F45 C24 C29 m_range
 have C45:Cal l.prog w K mg base cl "_law_stretch" 4 ["_law_row_here","_law_dims"] abH:=⟨_,_,G45,b45,k45,n45⟩
 have G41:=agQ (P:=l.prog) (w:=w) (mg:=mg) (base:=base) (cl:=cl) F41 C34 m_zip
 have C41:Cal l.prog w K mg base cl "_law_raw_turn" 3 ["_law_corners"] abr:=⟨_,_,G41,b41,k41,n41⟩
 have G40:=anE (P:=l.prog) (w:=w) (mg:=mg) (base:=base) (cl:=cl) F40 C24 C41 m_int m_range
 have C40:Cal l.prog w K mg base cl "_law_raw" 4 ["_law_row_here","_law_dims","_law_wide"] adh:=⟨_,_,G40,b40,k40,n40⟩
 have G42:=ak7 (P:=l.prog) (w:=w) (mg:=mg) (base:=base) (cl:=cl) F42 C24 m_len m_list m_range
 have C42:Cal l.prog w K mg base cl "_law_kuhn" 2 ["_law_row_here"] adq:=⟨_,_,G42,b42,k42,n42⟩
 have G43:=ahl (P:=l.prog) (w:=w) (mg:=mg) (base:=base) (cl:=cl) F43 C24 C40 C42 m_int m_len m_range
 have C43:Cal l.prog w K mg base cl "_law_raw_heap" 5 ["_law_row_here","_law_dims","_law_many"] abq:=⟨_,_,G43,b43,k43,n43⟩
 have G51:=ajV (P:=l.prog) (w:=w) (mg:=mg) (base:=base) (cl:=cl) F51 C24 C26 m_range
 have C51:Cal l.prog w K mg base cl "_law_shift" 3 ["_law_row_here","_law_dims"] acD:=⟨_,_,G51,b51,k51,n51⟩
 have G48:=aiV (P:=l.prog) (w:=w) (mg:=mg) (base:=base) (cl:=cl) F48 C24 m_list m_tuple
 have C48:Cal l.prog w K mg base cl "_law_handed" 2 ["_law_row_here","_law_rows"] ab5:=⟨_,_,G48,b48,k48,n48⟩
 have GX20:=afx (P:=l.prog) (w:=w) (mg:=mg) (base:=base) (cl:=cl) F20 q_Flat x_Flat
 have G20:=x0 GX20
 have G19:=ahR (P:=l.prog) (w:=w) (mg:=mg) (base:=base) (cl:=cl) F19
 have C19:Cal l.prog w K mg base cl "in_space" 1 ["p"] abZ:=⟨_,_,G19,b19,k19,n19⟩
 have G6:=ai0 (P:=l.prog) (w:=w) (mg:=mg) (base:=base) (cl:=cl) F6 m_abs
 have C6:Cal l.prog w K mg base cl "divisor" 1 ["one","other"] acs:=⟨_,_,G6,b6,k6,n6⟩
 have G7:=aiX (P:=l.prog) (w:=w) (mg:=mg) (base:=base) (cl:=cl) F7 C6
 have C7:Cal l.prog w K mg base cl "reduced" 2 ["numbers"] acP:=⟨_,_,G7,b7,k7,n7⟩
 have G5:=ana (P:=l.prog) (w:=w) (mg:=mg) (base:=base) (cl:=cl) F5
 have C5:Cal l.prog w K mg base cl "sign" 1 ["number"] ad0:=⟨_,_,G5,b5,k5,n5⟩
 have GX9:=alu (P:=l.prog) (w:=w) (mg:=mg) (base:=base) (cl:=cl) F9 C7 C5 m_list m_tuple q_NoPoint x_NoPoint
 have G9:=x0 GX9
 have G10:=alZ (P:=l.prog) (w:=w) (mg:=mg) (base:=base) (cl:=cl) F10 G9 b9 k9 n9 m_zip
 have C10:Cal l.prog w K mg base cl "added" 4 ["p","q"] acv:=⟨_,_,G10,b10,k10,n10⟩
 have G11:=aft (P:=l.prog) (w:=w) (mg:=mg) (base:=base) (cl:=cl) F11 m_zip
 have C11:Cal l.prog w K mg base cl "whole_arrow" 1 ["start","end"] abp:=⟨_,_,G11,b11,k11,n11⟩
 have G12:=apd (P:=l.prog) (w:=w) (mg:=mg) (base:=base) (cl:=cl) F12 m_sum m_zip
 have C12:Cal l.prog w K mg base cl "dot" 1 ["u","v"] ajk:=⟨_,_,G12,b12,k12,n12⟩
 have G13:=akO (P:=l.prog) (w:=w) (mg:=mg) (base:=base) (cl:=cl) F13 m_len
 have C13:Cal l.prog w K mg base cl "normal" 1 ["arrows"] acG:=⟨_,_,G13,b13,k13,n13⟩
 have G14:=afv (P:=l.prog) (w:=w) (mg:=mg) (base:=base) (cl:=cl) F14 C11 C12 C13
 have C14:Cal l.prog w K mg base cl "determinant" 2 ["points"] abn:=⟨_,_,G14,b14,k14,n14⟩
 have G15:=anx (P:=l.prog) (w:=w) (mg:=mg) (base:=base) (cl:=cl) F15 C5 C14
 have C15:Cal l.prog w K mg base cl "side" 3 ["points"] ad1:=⟨_,_,G15,b15,k15,n15⟩
 have GX17:=ajn (P:=l.prog) (w:=w) (mg:=mg) (base:=base) (cl:=cl) F17 C15 m_sorted m_tuple q_Flat x_Flat
 have G17:=x0 GX17
 have GX21:=alf (P:=l.prog) (w:=w) (mg:=mg) (base:=base) (cl:=cl) F21 GX20 G20 b20 k20 n20 C19 C10 GX17 G17 b17 k17 n17 m_range m_tuple
 have G21:=x0 GX21
 have G27:=aki (P:=l.prog) (w:=w) (mg:=mg) (base:=base) (cl:=cl) F27 m_bool m_int m_isinstance
 have C27:Cal l.prog w K mg base cl "_law_whole" 1 ["_law_number"] ac0:=⟨_,_,G27,b27,k27,n27⟩
 have G28:=ajf (P:=l.prog) (w:=w) (mg:=mg) (base:=base) (cl:=cl) F28 C27 m_all m_isinstance m_len m_tuple
 have C28:Cal l.prog w K mg base cl "_law_wholes" 2 ["_law_told","_law_many"] acO:=⟨_,_,G28,b28,k28,n28⟩
 have G37:=afy (P:=l.prog) (w:=w) (mg:=mg) (base:=base) (cl:=cl) F37 C28 C26
 have C37:Cal l.prog w K mg base cl "_law_point_form" 3 ["_law_p","_law_many"] aby:=⟨_,_,G37,b37,k37,n37⟩
 have G38:=aeC (P:=l.prog) (w:=w) (mg:=mg) (base:=base) (cl:=cl) F38 C37 C35 C36 m_all m_isinstance m_len m_tuple
 have C38:Cal l.prog w K mg base cl "_law_simplex_form" 5 ["_law_points","_law_many"] abi:=⟨_,_,G38,b38,k38,n38⟩
 have G39:=agr (P:=l.prog) (w:=w) (mg:=mg) (base:=base) (cl:=cl) F39 C38 m_all m_isinstance m_tuple
 have C39:Cal l.prog w K mg base cl "_law_heap_form" 6 ["_law_heap","_law_many"] abN:=⟨_,_,G39,b39,k39,n39⟩
 have G49:=aiY (P:=l.prog) (w:=w) (mg:=mg) (base:=base) (cl:=cl) F49
 have C49:Cal l.prog w K mg base cl "_law_raised" 1 ["_law_p"] acf:=⟨_,_,G49,b49,k49,n49⟩
 have G50:=ajJ (P:=l.prog) (w:=w) (mg:=mg) (base:=base) (cl:=cl) F50 C49 C30 C36 m_range
 have C50:Cal l.prog w K mg base cl "_law_prism" 5 ["_law_heap","_law_far_here"] ac3:=⟨_,_,G50,b50,k50,n50⟩
 exact (aox (P:=l.prog) (w:=w) (mg:=mg) (base:=base) (cl:=cl) F52 C23 C47 C45 C43 C51 C48 GX21 G21 b21 k21 n21 C39 C50 m_isinstance m_list q_Flat x_Flat q_HallError x_HallError Z_Flat wFlat_HallError).imp fun vs H Q E h=>amJ ak4 h
theorem walk {l:PySem.W.OpenLaw} {q:Program} {loose:List Str} {XP:(Str → Option Value) → Heap → Prop} {YP:World → Heap → Prop} {d:DefRec} {K:Params → PySem.W.Frag} (hn:l.most = some 63) (hdf:d.params.defaults = [])
  (hY:∀ (w:World) (h:Heap),YP w h → (K w.params).In h)
  (F:∀ (w:World) (mg:Str → Option Value) (fa:Addr) (h:Heap),(K w.params).In h → h.Ns mainGlobals mg → mg d.name = some (.ref fa) →
   ∃ fd:FuncData,(∀ (s:Shared) (u:Value),BindsTo s fd ⟨[u],[]⟩ [("_law_script",u)]) ∧ ∀ base:Heap,(K w.params).In base → base.Ns mainGlobals mg → FnOk l.prog w (K w.params) mg base CX0 7 fa fd ["_law_script"] (alT (K w.params))) :
  PySem.W.WalkO q loose XP YP l.row.toRowW d [] (fun f vs=>PySem.call f vs) :=
 L2.walk_of (n:=63) (k:=7) (x:="_law_script") (CX:=fun _=>CX0) (sp:=fun w=>alT (K w.params)) hn (by decide) hdf ⟨rfl,by decide,by decide⟩ hY F (fun _ _ a ns hl _ hS=>⟨a,ns,rfl,hS,hl,fun _=>rfl⟩) fun _ _ _ _ _ z=>z
end Sc
open PySem PySem.W PyProof.Rows
set_option maxRecDepth 100000 in
set_option maxHeartbeats 0 in
theorem PySem.Challenge.cw_scissorhall_k60_prisms_told_holds : PySem.Challenge.rw_scissorhall_k60_prisms_told.Holds := by
 w_on; o_law
 refine holds_open (q:=Sc.VW) (loose:=[PySem.Str.ofString "point"]) (Xt:=fun s=>xlAt Sc.VW [] s && recOk (RowW.records (OpenRow.toRowW (OpenLaw.row PySem.Challenge.rw_scissorhall_k60_prisms_told))) s) (XP:=XL Sc.VW []) (Yf:=Hook.obs (kHook Sc.KK Sc.KA Sc.KE)) (Ya:=Hook.val (kHook Sc.KK Sc.KA Sc.KE)) (YP:=Hook.says (kHook Sc.KK Sc.KA Sc.KE)) (N:=3970) Sc.left (Hook.of (kHook Sc.KK Sc.KA Sc.KE)) (Hook.keeps (kHook Sc.KK Sc.KA Sc.KE)) (fun s e=>xl_of s (Bool.and_eq_true_iff.mp e).1) XL.keeps (by rfl) (by rfl) (by rfl) (fun s e=>recFacts_of (Bool.and_eq_true_iff.mp e).2) (by rfl) (by first | assumption | decide +kernel) (by decide +kernel) ⟨rfl,rfl,rfl,rfl,rfl,by decide +kernel⟩ ?hw ?hc
 case hw=>w_witness2
 k_fill
 refine Sc.walk (l:=PySem.Challenge.rw_scissorhall_k60_prisms_told) rfl rfl (fun w h Y=>PySem.W.kIn_of Y) ?F
 case F =>
  intro w mg fa h KX G hmg
  refine' Sc.all_mk KX G hmg ?a23 ?l23 ?c23 ?k23 ?a24 ?l24 ?c24 ?k24 ?a25 ?l25 ?c25 ?k25 ?a26 ?l26 ?c26 ?k26 ?a44 ?l44 ?c44 ?k44 ?a33 ?l33 ?c33 ?k33 ?a32 ?l32 ?c32 ?k32 ?a34 ?l34 ?c34 ?k34 ?a31 ?l31 ?c31 ?k31 ?a35 ?l35 ?c35 ?k35 ?a36 ?l36 ?c36 ?k36 ?a30 ?l30 ?c30 ?k30 ?a46 ?l46 ?c46 ?k46 ?a47 ?l47 ?c47 ?k47 ?a29 ?l29 ?c29 ?k29 ?a45 ?l45 ?c45 ?k45 ?a41 ?l41 ?c41 ?k41 ?a40 ?l40 ?c40 ?k40 ?a42 ?l42 ?c42 ?k42 ?a43 ?l43 ?c43 ?k43 ?a51 ?l51 ?c51 ?k51 ?a48 ?l48 ?c48 ?k48 ?a20 ?l20 ?c20 ?k20 ?a19 ?l19 ?c19 ?k19 ?a6 ?l6 ?c6 ?k6 ?a7 ?l7 ?c7 ?k7 ?a5 ?l5 ?c5 ?k5 ?a9 ?l9 ?c9 ?k9 ?t9 ?a10 ?l10 ?c10 ?k10 ?a11 ?l11 ?c11 ?k11 ?a12 ?l12 ?c12 ?k12 ?a13 ?l13 ?c13 ?k13 ?a14 ?l14 ?c14 ?k14 ?a15 ?l15 ?c15 ?k15 ?a17 ?l17 ?c17 ?k17 ?a21 ?l21 ?c21 ?k21 ?a27 ?l27 ?c27 ?k27 ?a28 ?l28 ?c28 ?k28 ?a37 ?l37 ?c37 ?k37 ?a38 ?l38 ?c38 ?k38 ?a39 ?l39 ?c39 ?k39 ?a49 ?l49 ?c49 ?k49 ?a50 ?l50 ?c50 ?k50 ?a52 ?l52 ?c52 ?k52 ?z1 ?z2 ?z3 ?z4 ?z5 ?z6 ?z7 ?z8 ?z9 ?z10 ?z11 ?z12 ?z13 ?y1 ?x1 ?y2 ?x2 ?y3 ?x3 ?u1C1 ?u2C1 ?u3C1 ?u4C1 ?u5C1 ?u6C1 ?u7C1 ?u8C1 ?wFlat_HallError
  (case a23=>k_is)
  (case l23=>k_is)
  (case c23=>k_is)
  (case k23=>k_is)
  (case a24=>k_is)
  (case l24=>k_is)
  (case c24=>k_is)
  (case k24=>k_is)
  (case a25=>k_is)
  (case l25=>k_is)
  (case c25=>k_is)
  (case k25=>k_is)
  (case a26=>k_is)
  (case l26=>k_is)
  (case c26=>k_is)
  (case k26=>k_is)
  (case a44=>k_is)
  (case l44=>k_is)
  (case c44=>k_is)
  (case k44=>k_is)
  (case a33=>k_is)
  (case l33=>k_is)
  (case c33=>k_is)
  (case k33=>k_is)
  (case a32=>k_is)
  (case l32=>k_is)
  (case c32=>k_is)
  (case k32=>k_is)
  (case a34=>k_is)
  (case l34=>k_is)
  (case c34=>k_is)
  (case k34=>k_is)
  (case a31=>k_is)
  (case l31=>k_is)
  (case c31=>k_is)
  (case k31=>k_is)
  (case a35=>k_is)
  (case l35=>k_is)
  (case c35=>k_is)
  (case k35=>k_is)
  (case a36=>k_is)
  (case l36=>k_is)
  (case c36=>k_is)
  (case k36=>k_is)
  (case a30=>k_is)
  (case l30=>k_is)
  (case c30=>k_is)
  (case k30=>k_is)
  (case a46=>k_is)
  (case l46=>k_is)
  (case c46=>k_is)
  (case k46=>k_is)
  (case a47=>k_is)
  (case l47=>k_is)
  (case c47=>k_is)
  (case k47=>k_is)
  (case a29=>k_is)
  (case l29=>k_is)
  (case c29=>k_is)
  (case k29=>k_is)
  (case a45=>k_is)
  (case l45=>k_is)
  (case c45=>k_is)
  (case k45=>k_is)
  (case a41=>k_is)
  (case l41=>k_is)
  (case c41=>k_is)
  (case k41=>k_is)
  (case a40=>k_is)
  (case l40=>k_is)
  (case c40=>k_is)
  (case k40=>k_is)
  (case a42=>k_is)
  (case l42=>k_is)
  (case c42=>k_is)
  (case k42=>k_is)
  (case a43=>k_is)
  (case l43=>k_is)
  (case c43=>k_is)
  (case k43=>k_is)
  (case a51=>k_is)
  (case l51=>k_is)
  (case c51=>k_is)
  (case k51=>k_is)
  (case a48=>k_is)
  (case l48=>k_is)
  (case c48=>k_is)
  (case k48=>k_is)
  (case a20=>k_is)
  (case l20=>k_is)
  (case c20=>k_is)
  (case k20=>k_is)
  (case a19=>k_is)
  (case l19=>k_is)
  (case c19=>k_is)
  (case k19=>k_is)
  (case a6=>k_is)
  (case l6=>k_is)
  (case c6=>k_is)
  (case k6=>k_is)
  (case a7=>k_is)
  (case l7=>k_is)
  (case c7=>k_is)
  (case k7=>k_is)
  (case a5=>k_is)
  (case l5=>k_is)
  (case c5=>k_is)
  (case k5=>k_is)
  (case a9=>k_is)
  (case l9=>k_is)
  (case c9=>k_is)
  (case k9=>k_is)
  (case t9=>k_is)
  (case a10=>k_is)
  (case l10=>k_is)
  (case c10=>k_is)
  (case k10=>k_is)
  (case a11=>k_is)
  (case l11=>k_is)
  (case c11=>k_is)
  (case k11=>k_is)
  (case a12=>k_is)
  (case l12=>k_is)
  (case c12=>k_is)
  (case k12=>k_is)
  (case a13=>k_is)
  (case l13=>k_is)
  (case c13=>k_is)
  (case k13=>k_is)
  (case a14=>k_is)
  (case l14=>k_is)
  (case c14=>k_is)
  (case k14=>k_is)
  (case a15=>k_is)
  (case l15=>k_is)
  (case c15=>k_is)
  (case k15=>k_is)
  (case a17=>k_is)
  (case l17=>k_is)
  (case c17=>k_is)
  (case k17=>k_is)
  (case a21=>k_is)
  (case l21=>k_is)
  (case c21=>k_is)
  (case k21=>k_is)
  (case a27=>k_is)
  (case l27=>k_is)
  (case c27=>k_is)
  (case k27=>k_is)
  (case a28=>k_is)
  (case l28=>k_is)
  (case c28=>k_is)
  (case k28=>k_is)
  (case a37=>k_is)
  (case l37=>k_is)
  (case c37=>k_is)
  (case k37=>k_is)
  (case a38=>k_is)
  (case l38=>k_is)
  (case c38=>k_is)
  (case k38=>k_is)
  (case a39=>k_is)
  (case l39=>k_is)
  (case c39=>k_is)
  (case k39=>k_is)
  (case a49=>k_is)
  (case l49=>k_is)
  (case c49=>k_is)
  (case k49=>k_is)
  (case a50=>k_is)
  (case l50=>k_is)
  (case c50=>k_is)
  (case k50=>k_is)
  (case a52=>k_is)
  (case l52=>k_is)
  (case c52=>k_is)
  (case k52=>k_is)
  (case z1=>k_is)
  (case z2=>k_is)
  (case z3=>k_is)
  (case z4=>k_is)
  (case z5=>k_is)
  (case z6=>k_is)
  (case z7=>k_is)
  (case z8=>k_is)
  (case z9=>k_is)
  (case z10=>k_is)
  (case z11=>k_is)
  (case z12=>k_is)
  (case z13=>k_is)
  (case y1=>k_is)
  (case x1=>k_exc)
  (case y2=>k_is)
  (case x2=>k_exc)
  (case y3=>k_is)
  (case x3=>k_exc)
  (case u1C1=>k_is)
  (case u2C1=>k_is)
  (case u3C1=>k_is)
  (case u4C1=>k_is)
  (case u5C1=>k_is)
  (case u6C1=>k_is)
  (case u7C1=>k_is)
  (case u8C1=>k_is)
  (case wFlat_HallError=>kit_is)
#print axioms PySem.Challenge.cw_scissorhall_k60_prisms_told_holds
