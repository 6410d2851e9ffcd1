import PyProof.Rows.All
import Wide.All
import OpenK.AllK
import Wide.FinOn
import Lean
import PyProof.EqAt
import PyProof.EqKinds
import PyProof.TupleCall
import PyProof.ZipIter
import PyProof.Draws
import PyProof.CompFree
import PyProof.NeKinds
import PyProof.NsDelKeeps
import PyProof.ExcArgsOwn
import PyProof.ExcAttrAll.ValueError
import KE.KSortTup
import PySem.Challenge.RW_scissorhall_k63_prisms_by_points
set_option Elab.async false
set_option maxRecDepth 100000
set_option maxHeartbeats 0
namespace L2
open PySem
def aaz (s:Stmt):Arguments:=match s with
 | .FunctionDef _ a _ _ _ _ _ _ _ _=>a
 | _=>{ posonlyargs:=[],args:=[],vararg:=none,kwonlyargs:=[],kw_defaults:=[],kwarg:=none,defaults:=[] }
def aaw (s:Stmt):List Stmt:=match s with
 | .FunctionDef _ _ b _ _ _ _ _ _ _=>b
 | _=>[]
def aaf (s:Stmt):Scope:=match s with
 | .FunctionDef _ _ _ _ _ _ sc _ _ _=>sc
 | _=>{ kind:=.function,names:=[],isGenerator:=false,isCoroutine:=false }
end L2
namespace Sc
open PySem L2
def top (i:Nat):Stmt:=PySem.Challenge.pw_scissorhall_k63_prisms_by_points.main.body.getD i (.Pass ⟨0,0,0,0⟩)
abbrev vs (s:String) (t:Nat):Value:=.str (Str.ofString s) t
abbrev vi (i:Int):Value:=.int i 0
abbrev vr (a:Nat):Value:=.ref a
abbrev fo (n:String) (i:Nat) (dV dc pm cd ct:Value):Obj:=⟨.type "function",none,.func (PySem.W.fnOf (Str.ofString n) (Str.ofString n) (aaz (top i)) (aaw (top i)) (aaf (top i)) dV .none dc pm none cd ct),#[]⟩
abbrev fc (l:List Value):Obj:=⟨.type "code",none,.fields l.toArray,#[]⟩
abbrev fd (P:Params) (n:Nat) (l:List (String × Nat × Value)):Obj:=⟨.type "dict",none,.dict (l.map fun e=>⟨PyData.keyHash P (Str.ofString e.1),.str (Str.ofString e.1) e.2.1,e.2.2⟩).toArray n,#[]⟩
noncomputable def KK (P:Params):PySem.W.Frag :=
 (nat_lit 3,fd P 56 [("__name__",165,vs "law_scissorhall_k63_prisms_by_points" 389),("__doc__",166,.none),("__package__",167,.none),("__loader__",168,(.builtin "__main__.__loader__#opaque")),("__spec__",169,.none),("__annotations__",170,vr 6),("__builtins__",171,vr 4),("__file__",173,vs "/claim/cut.py" 172),("__cached__",174,.none),("HallError",206,vr 24),("NoPoint",222,vr 37),("Flat",238,vr 49),("OnSide",254,vr 61),("sign",263,vr 70),("divisor",272,vr 77),("reduced",278,vr 82),("point",287,vr 88),("added",293,vr 93),("whole_arrow",299,vr 98),("dot",305,vr 103),("normal",314,vr 110),("determinant",320,vr 115),("side",327,vr 122),("simplex",338,vr 129),("replaced",347,vr 136),("standing",353,vr 141),("in_space",362,vr 148),("refuse_flat",369,vr 155),("prism",375,vr 160),("count_at",388,vr 167),("_law_row",403,vr 174),("_law_take",412,vr 181),("_law_gcd",420,vr 188),("_law_lowest",426,vr 193),("_law_frac",434,vr 200),("_law_joined",440,vr 205),("_law_gap",446,vr 210),("_law_cross",457,vr 217),("_law_dot",463,vr 222),("_law_turn",470,vr 229),("_law_det",476,vr 234),("_law_simplex",484,vr 241),("_law_raw",490,vr 246),("_law_raw_turn",496,vr 251),("_law_kuhn",508,vr 258),("_law_raw_heap",520,vr 265),("_law_far",526,vr 270),("_law_stretch",537,vr 277),("_law_spot",543,vr 282),("_law_laid",549,vr 287),("_law_within",561,vr 294),("_law_count",572,vr 301),("_law_raised",579,vr 308),("_law_shift",585,vr 313),("_law_weighted",591,vr 318),("law",597,vr 323)]) ::
 (nat_lit 23,fd P 3 [("__module__",196,vs "scissorhall.errors" 187),("__firstlineno__",200,(.int 2 199)),("__static_attributes__",201,vr 22),("__weakref__",203,vr 25),("__doc__",204,.none)]) ::
 (nat_lit 24,⟨(.type "type"),none,.cls { name:="HallError",bases:=[(.type "ValueError")],mro:=[vr 24,(.type "ValueError"),(.type "Exception"),(.type "BaseException"),(.type "object")],ns:=23,qualname:="HallError",hasDict:=true,subclasses:=[vr 37,vr 49,vr 61] },#[some (vr 15),none,some (vs "HallError" 189),some (vs "HallError" 197),some (.builtin "ValueError.__new__"),some (.bool true)]⟩) ::
 (nat_lit 36,fd P 2 [("__module__",214,vs "scissorhall.errors" 187),("__firstlineno__",218,(.int 4 217)),("__static_attributes__",219,vr 35),("__doc__",220,.none)]) ::
 (nat_lit 37,⟨(.type "type"),none,.cls { name:="NoPoint",bases:=[vr 24],mro:=[vr 37,vr 24,(.type "ValueError"),(.type "Exception"),(.type "BaseException"),(.type "object")],ns:=36,qualname:="NoPoint",hasDict:=true,subclasses:=[] },#[some (vr 28),none,some (vs "NoPoint" 207),some (vs "NoPoint" 215),some (.builtin "ValueError.__new__"),some (.bool true)]⟩) ::
 (nat_lit 48,fd P 2 [("__module__",230,vs "scissorhall.errors" 187),("__firstlineno__",234,(.int 6 233)),("__static_attributes__",235,vr 47),("__doc__",236,.none)]) ::
 (nat_lit 49,⟨(.type "type"),none,.cls { name:="Flat",bases:=[vr 24],mro:=[vr 49,vr 24,(.type "ValueError"),(.type "Exception"),(.type "BaseException"),(.type "object")],ns:=48,qualname:="Flat",hasDict:=true,subclasses:=[] },#[some (vr 40),none,some (vs "Flat" 223),some (vs "Flat" 231),some (.builtin "ValueError.__new__"),some (.bool true)]⟩) ::
 (nat_lit 60,fd P 2 [("__module__",246,vs "scissorhall.errors" 187),("__firstlineno__",250,(.int 8 249)),("__static_attributes__",251,vr 59),("__doc__",252,.none)]) ::
 (nat_lit 61,⟨(.type "type"),none,.cls { name:="OnSide",bases:=[vr 24],mro:=[vr 61,vr 24,(.type "ValueError"),(.type "Exception"),(.type "BaseException"),(.type "object")],ns:=60,qualname:="OnSide",hasDict:=true,subclasses:=[] },#[some (vr 52),none,some (vs "OnSide" 239),some (vs "OnSide" 247),some (.builtin "ValueError.__new__"),some (.bool true)]⟩) ::
 (nat_lit 69,fc [vs "sign" 257,vs "sign" 258,vs "/claim/cut.py" 259,vi 11,vi 1,vi 0,vi 0,vi 3,vr 64,(.bool true),vi 181,vr 65,.none,vr 66,vr 67,vr 68,vi 261,vi 11,vs "/claim/cut.py" 262]) ::
 (nat_lit 70,fo "sign" 6 .none .none (vs "scissorhall.lowest" 255) (vr 69) .none) ::
 (nat_lit 76,fc [vs "divisor" 264,vs "divisor" 265,vs "/claim/cut.py" 266,vi 17,vi 2,vi 0,vi 0,vi 3,vr 71,(.bool true),vi 181,vr 72,.none,vr 73,vr 74,vr 75,vi 270,vi 17,vs "/claim/cut.py" 271]) ::
 (nat_lit 77,fo "divisor" 7 .none .none (vs "scissorhall.lowest" 255) (vr 76) .none) ::
 (nat_lit 81,fc [vs "reduced" 273,vs "reduced" 274,vs "/claim/cut.py" 275,vi 23,vi 1,vi 0,vi 0,vi 3,vr 78,(.bool true),vi 181,vr 79,.none,.none,.none,vr 80,vi 276,vi 23,vs "/claim/cut.py" 277]) ::
 (nat_lit 82,fo "reduced" 8 .none .none (vs "scissorhall.lowest" 255) (vr 81) .none) ::
 (nat_lit 83,⟨.type "tuple",none,.seq #[(.int 1 281)] 0,#[]⟩) ::
 (nat_lit 87,fc [vs "point" 282,vs "point" 283,vs "/claim/cut.py" 284,vi 29,vi 2,vi 0,vi 0,vi 3,vr 84,(.bool true),vi 181,vr 85,.none,.none,.none,vr 86,vi 285,vi 29,vs "/claim/cut.py" 286]) ::
 (nat_lit 88,fo "point" 10 (vr 83) .none (vs "scissorhall.points" 279) (vr 87) .none) ::
 (nat_lit 92,fc [vs "added" 288,vs "added" 289,vs "/claim/cut.py" 290,vi 33,vi 2,vi 0,vi 0,vi 3,vr 89,(.bool true),vi 181,vr 90,.none,.none,.none,vr 91,vi 291,vi 33,vs "/claim/cut.py" 292]) ::
 (nat_lit 93,fo "added" 11 .none .none (vs "scissorhall.points" 279) (vr 92) .none) ::
 (nat_lit 97,fc [vs "whole_arrow" 294,vs "whole_arrow" 295,vs "/claim/cut.py" 296,vi 36,vi 2,vi 0,vi 0,vi 3,vr 94,(.bool true),vi 181,vr 95,.none,.none,.none,vr 96,vi 297,vi 36,vs "/claim/cut.py" 298]) ::
 (nat_lit 98,fo "whole_arrow" 12 .none .none (vs "scissorhall.points" 279) (vr 97) .none) ::
 (nat_lit 102,fc [vs "dot" 300,vs "dot" 301,vs "/claim/cut.py" 302,vi 38,vi 2,vi 0,vi 0,vi 3,vr 99,(.bool true),vi 181,vr 100,.none,.none,.none,vr 101,vi 303,vi 38,vs "/claim/cut.py" 304]) ::
 (nat_lit 103,fo "dot" 13 .none .none (vs "scissorhall.points" 279) (vr 102) .none) ::
 (nat_lit 109,fc [vs "normal" 306,vs "normal" 307,vs "/claim/cut.py" 308,vi 40,vi 1,vi 0,vi 0,vi 3,vr 104,(.bool true),vi 181,vr 105,.none,vr 106,vr 107,vr 108,vi 312,vi 40,vs "/claim/cut.py" 313]) ::
 (nat_lit 110,fo "normal" 14 .none .none (vs "scissorhall.points" 279) (vr 109) .none) ::
 (nat_lit 114,fc [vs "determinant" 315,vs "determinant" 316,vs "/claim/cut.py" 317,vi 46,vi 1,vi 0,vi 0,vi 3,vr 111,(.bool true),vi 181,vr 112,.none,.none,.none,vr 113,vi 318,vi 46,vs "/claim/cut.py" 319]) ::
 (nat_lit 115,fo "determinant" 15 .none .none (vs "scissorhall.points" 279) (vr 114) .none) ::
 (nat_lit 121,fc [vs "side" 321,vs "side" 322,vs "/claim/cut.py" 323,vi 49,vi 1,vi 0,vi 0,vi 3,vr 116,(.bool true),vi 181,vr 117,.none,vr 118,vr 119,vr 120,vi 325,vi 49,vs "/claim/cut.py" 326]) ::
 (nat_lit 122,fo "side" 16 .none .none (vs "scissorhall.points" 279) (vr 121) .none) ::
 (nat_lit 128,fc [vs "simplex" 330,vs "simplex" 331,vs "/claim/cut.py" 332,vi 52,vi 1,vi 0,vi 0,vi 3,vr 123,(.bool true),vi 181,vr 124,.none,vr 125,vr 126,vr 127,vi 336,vi 52,vs "/claim/cut.py" 337]) ::
 (nat_lit 129,fo "simplex" 18 .none .none (vs "scissorhall.simplexes" 328) (vr 128) .none) ::
 (nat_lit 135,fc [vs "replaced" 339,vs "replaced" 340,vs "/claim/cut.py" 341,vi 60,vi 3,vi 0,vi 0,vi 3,vr 130,(.bool true),vi 181,vr 131,.none,vr 132,vr 133,vr 134,vi 345,vi 60,vs "/claim/cut.py" 346]) ::
 (nat_lit 136,fo "replaced" 19 .none .none (vs "scissorhall.simplexes" 328) (vr 135) .none) ::
 (nat_lit 140,fc [vs "standing" 348,vs "standing" 349,vs "/claim/cut.py" 350,vi 62,vi 2,vi 0,vi 0,vi 3,vr 137,(.bool true),vi 181,vr 138,.none,.none,.none,vr 139,vi 351,vi 62,vs "/claim/cut.py" 352]) ::
 (nat_lit 141,fo "standing" 20 .none .none (vs "scissorhall.simplexes" 328) (vr 140) .none) ::
 (nat_lit 147,fc [vs "in_space" 356,vs "in_space" 357,vs "/claim/cut.py" 358,vi 65,vi 1,vi 0,vi 0,vi 3,vr 142,(.bool true),vi 181,vr 143,.none,vr 144,vr 145,vr 146,vi 360,vi 65,vs "/claim/cut.py" 361]) ::
 (nat_lit 148,fo "in_space" 22 .none .none (vs "scissorhall.solids" 354) (vr 147) .none) ::
 (nat_lit 154,fc [vs "refuse_flat" 363,vs "refuse_flat" 364,vs "/claim/cut.py" 365,vi 67,vi 1,vi 0,vi 0,vi 3,vr 149,(.bool true),vi 181,vr 150,.none,vr 151,vr 152,vr 153,vi 367,vi 67,vs "/claim/cut.py" 368]) ::
 (nat_lit 155,fo "refuse_flat" 23 .none .none (vs "scissorhall.solids" 354) (vr 154) .none) ::
 (nat_lit 159,fc [vs "prism" 370,vs "prism" 371,vs "/claim/cut.py" 372,vi 70,vi 2,vi 0,vi 0,vi 3,vr 156,(.bool true),vi 181,vr 157,.none,.none,.none,vr 158,vi 373,vi 70,vs "/claim/cut.py" 374]) ::
 (nat_lit 160,fo "prism" 24 .none .none (vs "scissorhall.solids" 354) (vr 159) .none) ::
 (nat_lit 166,fc [vs "count_at" 378,vs "count_at" 379,vs "/claim/cut.py" 380,vi 79,vi 2,vi 0,vi 0,vi 3,vr 161,(.bool true),vi 181,vr 162,.none,vr 163,vr 164,vr 165,vi 386,vi 79,vs "/claim/cut.py" 387]) ::
 (nat_lit 167,fo "count_at" 26 .none .none (vs "scissorhall.heaps" 376) (vr 166) .none) ::
 (nat_lit 173,fc [vs "_law_row" 391,vs "_law_row" 392,vs "/claim/cut.py" 393,vi 89,vi 1,vi 0,vi 0,vi 3,vr 168,(.bool true),vi 181,vr 169,.none,vr 170,vr 171,vr 172,vi 401,vi 89,vs "/claim/cut.py" 402]) ::
 (nat_lit 174,fo "_law_row" 28 .none .none (vs "law_scissorhall_k63_prisms_by_points" 389) (vr 173) .none) ::
 (nat_lit 180,fc [vs "_law_take" 404,vs "_law_take" 405,vs "/claim/cut.py" 406,vi 103,vi 2,vi 0,vi 0,vi 3,vr 175,(.bool true),vi 181,vr 176,.none,vr 177,vr 178,vr 179,vi 410,vi 103,vs "/claim/cut.py" 411]) ::
 (nat_lit 181,fo "_law_take" 29 .none .none (vs "law_scissorhall_k63_prisms_by_points" 389) (vr 180) .none) ::
 (nat_lit 187,fc [vs "_law_gcd" 413,vs "_law_gcd" 414,vs "/claim/cut.py" 415,vi 111,vi 2,vi 0,vi 0,vi 3,vr 182,(.bool true),vi 181,vr 183,.none,vr 184,vr 185,vr 186,vi 418,vi 111,vs "/claim/cut.py" 419]) ::
 (nat_lit 188,fo "_law_gcd" 30 .none .none (vs "law_scissorhall_k63_prisms_by_points" 389) (vr 187) .none) ::
 (nat_lit 192,fc [vs "_law_lowest" 421,vs "_law_lowest" 422,vs "/claim/cut.py" 423,vi 117,vi 1,vi 0,vi 0,vi 3,vr 189,(.bool true),vi 181,vr 190,.none,.none,.none,vr 191,vi 424,vi 117,vs "/claim/cut.py" 425]) ::
 (nat_lit 193,fo "_law_lowest" 31 .none .none (vs "law_scissorhall_k63_prisms_by_points" 389) (vr 192) .none) ::
 (nat_lit 199,fc [vs "_law_frac" 427,vs "_law_frac" 428,vs "/claim/cut.py" 429,vi 124,vi 2,vi 0,vi 0,vi 3,vr 194,(.bool true),vi 181,vr 195,.none,vr 196,vr 197,vr 198,vi 432,vi 124,vs "/claim/cut.py" 433]) ::
 (nat_lit 200,fo "_law_frac" 32 .none .none (vs "law_scissorhall_k63_prisms_by_points" 389) (vr 199) .none) ::
 (nat_lit 204,fc [vs "_law_joined" 435,vs "_law_joined" 436,vs "/claim/cut.py" 437,vi 128,vi 3,vi 0,vi 0,vi 3,vr 201,(.bool true),vi 181,vr 202,.none,.none,.none,vr 203,vi 438,vi 128,vs "/claim/cut.py" 439]) ::
 (nat_lit 205,fo "_law_joined" 33 .none .none (vs "law_scissorhall_k63_prisms_by_points" 389) (vr 204) .none) ::
 (nat_lit 209,fc [vs "_law_gap" 441,vs "_law_gap" 442,vs "/claim/cut.py" 443,vi 131,vi 2,vi 0,vi 0,vi 3,vr 206,(.bool true),vi 181,vr 207,.none,.none,.none,vr 208,vi 444,vi 131,vs "/claim/cut.py" 445]) ::
 (nat_lit 210,fo "_law_gap" 34 .none .none (vs "law_scissorhall_k63_prisms_by_points" 389) (vr 209) .none) ::
 (nat_lit 216,fc [vs "_law_cross" 447,vs "_law_cross" 448,vs "/claim/cut.py" 449,vi 133,vi 2,vi 0,vi 0,vi 3,vr 211,(.bool true),vi 181,vr 212,.none,vr 213,vr 214,vr 215,vi 455,vi 133,vs "/claim/cut.py" 456]) ::
 (nat_lit 217,fo "_law_cross" 35 .none .none (vs "law_scissorhall_k63_prisms_by_points" 389) (vr 216) .none) ::
 (nat_lit 221,fc [vs "_law_dot" 458,vs "_law_dot" 459,vs "/claim/cut.py" 460,vi 138,vi 2,vi 0,vi 0,vi 3,vr 218,(.bool true),vi 181,vr 219,.none,.none,.none,vr 220,vi 461,vi 138,vs "/claim/cut.py" 462]) ::
 (nat_lit 222,fo "_law_dot" 36 .none .none (vs "law_scissorhall_k63_prisms_by_points" 389) (vr 221) .none) ::
 (nat_lit 228,fc [vs "_law_turn" 464,vs "_law_turn" 465,vs "/claim/cut.py" 466,vi 140,vi 1,vi 0,vi 0,vi 3,vr 223,(.bool true),vi 181,vr 224,.none,vr 225,vr 226,vr 227,vi 468,vi 140,vs "/claim/cut.py" 469]) ::
 (nat_lit 229,fo "_law_turn" 37 .none .none (vs "law_scissorhall_k63_prisms_by_points" 389) (vr 228) .none) ::
 (nat_lit 233,fc [vs "_law_det" 471,vs "_law_det" 472,vs "/claim/cut.py" 473,vi 144,vi 1,vi 0,vi 0,vi 3,vr 230,(.bool true),vi 181,vr 231,.none,.none,.none,vr 232,vi 474,vi 144,vs "/claim/cut.py" 475]) ::
 (nat_lit 234,fo "_law_det" 38 .none .none (vs "law_scissorhall_k63_prisms_by_points" 389) (vr 233) .none) ::
 (nat_lit 240,fc [vs "_law_simplex" 477,vs "_law_simplex" 478,vs "/claim/cut.py" 479,vi 146,vi 1,vi 0,vi 0,vi 3,vr 235,(.bool true),vi 181,vr 236,.none,vr 237,vr 238,vr 239,vi 482,vi 146,vs "/claim/cut.py" 483]) ::
 (nat_lit 241,fo "_law_simplex" 39 .none .none (vs "law_scissorhall_k63_prisms_by_points" 389) (vr 240) .none) ::
 (nat_lit 245,fc [vs "_law_raw" 485,vs "_law_raw" 486,vs "/claim/cut.py" 487,vi 151,vi 3,vi 0,vi 0,vi 3,vr 242,(.bool true),vi 181,vr 243,.none,.none,.none,vr 244,vi 488,vi 151,vs "/claim/cut.py" 489]) ::
 (nat_lit 246,fo "_law_raw" 40 .none .none (vs "law_scissorhall_k63_prisms_by_points" 389) (vr 245) .none) ::
 (nat_lit 250,fc [vs "_law_raw_turn" 491,vs "_law_raw_turn" 492,vs "/claim/cut.py" 493,vi 158,vi 1,vi 0,vi 0,vi 3,vr 247,(.bool true),vi 181,vr 248,.none,.none,.none,vr 249,vi 494,vi 158,vs "/claim/cut.py" 495]) ::
 (nat_lit 251,fo "_law_raw_turn" 41 .none .none (vs "law_scissorhall_k63_prisms_by_points" 389) (vr 250) .none) ::
 (nat_lit 257,fc [vs "_law_kuhn" 497,vs "_law_kuhn" 498,vs "/claim/cut.py" 499,vi 160,vi 1,vi 0,vi 0,vi 3,vr 252,(.bool true),vi 181,vr 253,.none,vr 254,vr 255,vr 256,vi 506,vi 160,vs "/claim/cut.py" 507]) ::
 (nat_lit 258,fo "_law_kuhn" 42 .none .none (vs "law_scissorhall_k63_prisms_by_points" 389) (vr 257) .none) ::
 (nat_lit 264,fc [vs "_law_raw_heap" 509,vs "_law_raw_heap" 510,vs "/claim/cut.py" 511,vi 172,vi 3,vi 0,vi 0,vi 3,vr 259,(.bool true),vi 181,vr 260,.none,vr 261,vr 262,vr 263,vi 518,vi 172,vs "/claim/cut.py" 519]) ::
 (nat_lit 265,fo "_law_raw_heap" 43 .none .none (vs "law_scissorhall_k63_prisms_by_points" 389) (vr 264) .none) ::
 (nat_lit 269,fc [vs "_law_far" 521,vs "_law_far" 522,vs "/claim/cut.py" 523,vi 185,vi 2,vi 0,vi 0,vi 3,vr 266,(.bool true),vi 181,vr 267,.none,.none,.none,vr 268,vi 524,vi 185,vs "/claim/cut.py" 525]) ::
 (nat_lit 270,fo "_law_far" 44 .none .none (vs "law_scissorhall_k63_prisms_by_points" 389) (vr 269) .none) ::
 (nat_lit 276,fc [vs "_law_stretch" 527,vs "_law_stretch" 528,vs "/claim/cut.py" 529,vi 191,vi 2,vi 0,vi 0,vi 3,vr 271,(.bool true),vi 181,vr 272,.none,vr 273,vr 274,vr 275,vi 535,vi 191,vs "/claim/cut.py" 536]) ::
 (nat_lit 277,fo "_law_stretch" 45 .none .none (vs "law_scissorhall_k63_prisms_by_points" 389) (vr 276) .none) ::
 (nat_lit 281,fc [vs "_law_spot" 538,vs "_law_spot" 539,vs "/claim/cut.py" 540,vi 197,vi 2,vi 0,vi 0,vi 3,vr 278,(.bool true),vi 181,vr 279,.none,.none,.none,vr 280,vi 541,vi 197,vs "/claim/cut.py" 542]) ::
 (nat_lit 282,fo "_law_spot" 46 .none .none (vs "law_scissorhall_k63_prisms_by_points" 389) (vr 281) .none) ::
 (nat_lit 286,fc [vs "_law_laid" 544,vs "_law_laid" 545,vs "/claim/cut.py" 546,vi 203,vi 3,vi 0,vi 0,vi 3,vr 283,(.bool true),vi 181,vr 284,.none,.none,.none,vr 285,vi 547,vi 203,vs "/claim/cut.py" 548]) ::
 (nat_lit 287,fo "_law_laid" 47 .none .none (vs "law_scissorhall_k63_prisms_by_points" 389) (vr 286) .none) ::
 (nat_lit 293,fc [vs "_law_within" 550,vs "_law_within" 551,vs "/claim/cut.py" 552,vi 209,vi 2,vi 0,vi 0,vi 3,vr 288,(.bool true),vi 181,vr 289,.none,vr 290,vr 291,vr 292,vi 559,vi 209,vs "/claim/cut.py" 560]) ::
 (nat_lit 294,fo "_law_within" 48 .none .none (vs "law_scissorhall_k63_prisms_by_points" 389) (vr 293) .none) ::
 (nat_lit 300,fc [vs "_law_count" 562,vs "_law_count" 563,vs "/claim/cut.py" 564,vi 220,vi 2,vi 0,vi 0,vi 3,vr 295,(.bool true),vi 181,vr 296,.none,vr 297,vr 298,vr 299,vi 570,vi 220,vs "/claim/cut.py" 571]) ::
 (nat_lit 301,fo "_law_count" 49 .none .none (vs "law_scissorhall_k63_prisms_by_points" 389) (vr 300) .none) ::
 (nat_lit 307,fc [vs "_law_raised" 573,vs "_law_raised" 574,vs "/claim/cut.py" 575,vi 229,vi 1,vi 0,vi 0,vi 3,vr 302,(.bool true),vi 181,vr 303,.none,vr 304,vr 305,vr 306,vi 577,vi 229,vs "/claim/cut.py" 578]) ::
 (nat_lit 308,fo "_law_raised" 50 .none .none (vs "law_scissorhall_k63_prisms_by_points" 389) (vr 307) .none) ::
 (nat_lit 312,fc [vs "_law_shift" 580,vs "_law_shift" 581,vs "/claim/cut.py" 582,vi 231,vi 2,vi 0,vi 0,vi 3,vr 309,(.bool true),vi 181,vr 310,.none,.none,.none,vr 311,vi 583,vi 231,vs "/claim/cut.py" 584]) ::
 (nat_lit 313,fo "_law_shift" 51 .none .none (vs "law_scissorhall_k63_prisms_by_points" 389) (vr 312) .none) ::
 (nat_lit 317,fc [vs "_law_weighted" 586,vs "_law_weighted" 587,vs "/claim/cut.py" 588,vi 240,vi 2,vi 0,vi 0,vi 3,vr 314,(.bool true),vi 181,vr 315,.none,.none,.none,vr 316,vi 589,vi 240,vs "/claim/cut.py" 590]) ::
 (nat_lit 318,fo "_law_weighted" 52 .none .none (vs "law_scissorhall_k63_prisms_by_points" 389) (vr 317) .none) ::
 (nat_lit 322,fc [vs "law" 592,vs "law" 593,vs "/claim/cut.py" 594,vi 248,vi 1,vi 0,vi 0,vi 3,vr 319,(.bool true),vi 181,vr 320,.none,.none,.none,vr 321,vi 595,vi 248,vs "/claim/cut.py" 596]) ::
 (nat_lit 323,fo "law" 53 .none .none (vs "law_scissorhall_k63_prisms_by_points" 389) (vr 322) .none) :: []
noncomputable def KA:List Nat:=[3,23,24,36,37,48,49,60,61,69,70,76,77,81,82,83,87,88,92,93,97,98,102,103,109,110,114,115,121,122,128,129,135,136,140,141,147,148,154,155,159,160,166,167,173,174,180,181,187,188,192,193,199,200,204,205,209,210,216,217,221,222,228,229,233,234,240,241,245,246,250,251,257,258,264,265,269,270,276,277,281,282,286,287,293,294,300,301,307,308,312,313,317,318,322,323]
noncomputable def VW:Program:={ PySem.Challenge.pw_scissorhall_k63_prisms_by_points with main:={ PySem.Challenge.pw_scissorhall_k63_prisms_by_points.main with body:=[top 1,top 2,top 3,top 4,top 6,top 7,top 8,top 11,top 12,top 13,top 14,top 15,top 16,top 18,top 19,top 20,top 22,top 23,top 24,top 26,top 28,top 29,top 30,top 31,top 32,top 33,top 34,top 35,top 36,top 37,top 38,top 39,top 40,top 41,top 42,top 43,top 44,top 45,top 46,top 47,top 48,top 49,top 50,top 51,top 52,top 53] } }
theorem KE:∀ P,KA=(KK P).map (·.1):=fun _=>by kernel_rfl
theorem left:PySem.W.LeftO PySem.Challenge.pw_scissorhall_k63_prisms_by_points VW [PySem.Str.ofString "point"] (fun s=>PySem.W.xlAt VW [] s && PySem.W.recOk (PySem.W.RowW.records (PySem.W.OpenRow.toRowW (PySem.W.OpenLaw.row PySem.Challenge.rw_scissorhall_k63_prisms_by_points))) s) (PySem.W.Hook.obs (PySem.W.kHook KK KA KE)) (PySem.W.Hook.val (PySem.W.kHook KK KA KE)) 4374:=by
 intro w
 kernel_rfl
end Sc
set_option maxHeartbeats 200000
set_option Elab.async false
set_option linter.all false
set_option maxRecDepth 100000
namespace L2
open PySem PySem.Spec PyProof.Rows
abbrev Key:=Sum Int Str
def aoD:Key→Value→Bool
 | .inl k,v=>Value.isInt k v
 | .inr x,v=>Value.isStrOf x v
def keyH (w:World):Key→Int
 | .inl k=>hashInt k
 | .inr x=>hashStr w x
theorem abt:∀ {k:Key} {v:Value},aoD k v=true→(∃ i t,k=Sum.inl i∧v=Value.int i t)∨(∃ x t,k=Sum.inr x∧v=Value.str x t)
 | .inl i,v,h=>by
  obtain ⟨t,e⟩:=Value.isInt_shape (k:=i) (v:=v) h
  exact .inl ⟨i,t,rfl,e⟩
 | .inr x,v,h=>by
  obtain ⟨t,e⟩:=Value.isStrOf_shape (x:=x) (v:=v) h
  exact .inr ⟨x,t,rfl,e⟩
theorem anH (a b:Int):decide ((Sum.inl a:Key)=Sum.inl b)=(a == b):=by
 by_cases e:a=b
 ·subst e; simp
 ·have h:¬ (Sum.inl a:Key)=Sum.inl b:=fun q=>e (Sum.inl.inj q)
  rw [decide_eq_false h]
  exact (beq_eq_false_iff_ne.mpr e).symm
theorem aoB (a b:Str):decide ((Sum.inr a:Key)=Sum.inr b)=decide (a=b):=by
 by_cases e:a=b
 ·subst e; simp
 ·have h:¬ (Sum.inr a:Key)=Sum.inr b:=fun q=>e (Sum.inr.inj q)
  rw [decide_eq_false h,decide_eq_false e]
theorem anP (a:Int) (b:Str):decide ((Sum.inl a:Key)=Sum.inr b)=false:=decide_eq_false (fun q=>nomatch q)
theorem an5 (a:Str) (b:Int):decide ((Sum.inr a:Key)=Sum.inl b)=false:=decide_eq_false (fun q=>nomatch q)
def aki (prog:Program) (w:World):PySem.KeyKind prog w Key where
 is:=aoD
 hash:=keyH w
 inj:=fun v a b ha hb=>by
  rcases abt ha with ⟨i,t,rfl,rfl⟩ | ⟨x,t,rfl,rfl⟩
  ·rcases abt hb with ⟨j,u,rfl,e⟩ | ⟨y,u,rfl,e⟩
   ·injection e with e1 _; rw [e1]
   ·exact nomatch e
  ·rcases abt hb with ⟨j,u,rfl,e⟩ | ⟨y,u,rfl,e⟩
   ·exact nomatch e
   ·injection e with e1 _; rw [e1]
 byValue:=fun k v h=>by
  rcases abt h with ⟨i,t,rfl,rfl⟩ | ⟨x,t,rfl,rfl⟩ <;> rfl
 pyHash:=fun hv h=>by
  rcases abt hv with ⟨i,t,rfl,rfl⟩ | ⟨x,t,rfl,rfl⟩
  ·exact wpAny_pyHash_int h
  ·exact wpAny_pyHash_str h
 eqBool:=fun hu hv h=>by
  rcases abt hu with ⟨i,t,rfl,rfl⟩ | ⟨x,t,rfl,rfl⟩
  ·rcases abt hv with ⟨j,u,rfl,rfl⟩ | ⟨y,u,rfl,rfl⟩
   ·rw [anH] at h; exact wpAny_eqBool_int h
   ·rw [anP] at h; exact SeqAt.EqAt.int_str i t y u _ _ _ _ h
  ·rcases abt hv with ⟨j,u,rfl,rfl⟩ | ⟨y,u,rfl,rfl⟩
   ·rw [an5] at h; exact SeqAt.EqAt.str_int x t j u _ _ _ _ h
   ·rw [aoB] at h; exact wpAny_eqBool_str h
 «strs»:=fun k x t v h=>by
  rcases abt h with ⟨i,u,rfl,e⟩ | ⟨y,u,rfl,e⟩
  ·exact nomatch e
  ·injection e with e1 _
   subst e1
   cases v <;> rfl
end L2
namespace L2
open PySem PySem.Spec PyProof.Rows
inductive V where
 | non | bl (b:Bool) | int (i:Int) | str (x:Str) | byt (b:Array UInt8) | flt (b:UInt64) | ref (a:Addr) | ty (n:String)
 deriving DecidableEq
def RelV:V→Value→Prop
 | .non,u=>u=Value.none
 | .bl b,u=>u=Value.bool b
 | .int i,u=>∃ t,u=Value.int i t
 | .str x,u=>∃ t,u=Value.str x t
 | .byt b,u=>∃ t,u=Value.bytes b t
 | .flt b,u=>∃ t,u=Value.float b t
 | .ref a,u=>u=Value.ref a
 | .ty n,u=>u=Value.type n
abbrev Vals:List V→List Value→Prop:=Paired RelV
theorem Vals.length {xs:List V} {us:List Value} (r:Vals xs us):xs.length=us.length:=Paired.length r
theorem Vals.get:∀ {xs:List V} {us:List Value} {i:Nat} {x:V},Vals xs us→xs[i]?=some x→∃ u,us[i]?=some u∧RelV x u
 | _,_,_,_,.nil,e=>by simp at e
 | _,_,0,_,.cons r _,e=>by simp at e; subst e; exact ⟨_,rfl,r⟩
 | _,_,i+1,x,.cons _ t,e=>by
  obtain ⟨u,h1,h2⟩:=Vals.get (i:=i) (x:=x) t (by simpa using e)
  exact ⟨u,by simpa using h1,h2⟩
theorem Vals.set {x:V} {u:Value} (r:RelV x u):∀ {xs:List V} {us:List Value} (i:Nat),Vals xs us→Vals (xs.set i x) (us.set i u)
 | _,_,_,.nil=>.nil
 | _,_,0,.cons _ t=>.cons r t
 | _,_,i+1,.cons q t=>.cons q (Vals.set r i t)
theorem Vals.append:∀ {xs ys:List V} {us ws:List Value},Vals xs us→Vals ys ws→Vals (xs++ys) (us++ws)
 | _,_,_,_,.nil,s=>s
 | _,_,_,_,.cons r t,s=>.cons r (Vals.append t s)
theorem Vals.take:∀ {xs:List V} {us:List Value} (n:Nat),Vals xs us→Vals (xs.take n) (us.take n)
 | _,_,0,_=>.nil
 | _,_,_+1,.nil=>.nil
 | _,_,n+1,.cons r t=>.cons r (Vals.take n t)
theorem Vals.drop:∀ {xs:List V} {us:List Value} (n:Nat),Vals xs us→Vals (xs.drop n) (us.drop n)
 | _,_,0,r=>r
 | _,_,_+1,.nil=>.nil
 | _,_,n+1,.cons _ t=>Vals.drop n t
def RelO:Option V→Option Value→Prop
 | some v,some u=>RelV v u
 | none,none=>True
 | _,_=>False
def KV {κ:Type}:List (κ × V)→List (κ × Value)→Prop:=Paired fun (p:κ × V) (q:κ × Value)=>p.1=q.1∧RelV p.2 q.2
def kV:Key→V
 | .inl i=>.int i
 | .inr x=>.str x
inductive HO where
 /-- a list -/
 | lst (xs:List V)
 /-- a tuple (never changes) -/
 | tup (xs:List V)
 /-- a dict whose keys are ints and texts; one whose keys are tuples of ints and texts (the empty one is both) -/
 | dK (kvs:List (Key × V)) | dT (kvs:List (List Key × V))
 /-- a set of ints: its members,its size -/
 | set (S:Int→Bool) (n:Nat)
 /-- an instance of the class at C,its dict at dx,its attributes -/
 | ins (C dx:Addr) (fs:List (Str × V))
 /-- the dict of the instance at x -/
 | own (x:Addr)
 /-- the dict of an exception -/
 | xd (fs:List (Str × V))
 /-- a bound method,f of x -/
 | met (f x:Addr)
 /-- a range object lo,lo+1,.. below hi -/
 | rng (lo hi:Int)
 /-- a thing that is known to the object (the script; a dict while a loop walks it): read,never written while it is so -/
 | frz (o:Obj) (u:HO)
 /-- a code object's table -/
 | tbl (ps:Array Value)
 /-- any other thing,by what is true of its one object (a def of one's own: SetO a S n:=HO.ext fun h=>..) -/
 | ext (φ:Heap→Prop)
abbrev Hp:=Addr→Option HO
def upd (H:Hp) (a:Addr) (o:HO):Hp:=fun b=>if b=a then some o else H b
theorem aa1 {H:Hp} {a:Addr} {o:HO}:upd H a o a=some o:=by unfold upd; rw [if_pos rfl]
theorem aaG {H:Hp} {a b:Addr} {o:HO} (h:b≠a):upd H a o b=H b:=by unfold upd; rw [if_neg h]
theorem aaN {H:Hp} {a b:Addr} {o:HO} (h:H a=some o) (h':H b=none):a≠b:=by
 intro e; subst e; rw [h] at h'; cases h'
section
variable (P:Program) (w:World)
def adj (H:Hp) (h:Heap) (a:Addr):HO→Prop
 | .lst xs=>xs.length≤sizeLine∧∃ (its:List Value) (n:Nat),Vals xs its∧h.get? a=some { cls:=.type "list",data:=.seq its.toArray n }
 | .tup xs=>xs.length≤sizeLine∧∃ its:List Value,Vals xs its∧IsTup h a its.toArray
 | .dK kvs=>kvs.length≤sizeLine∧(a == sysModules)=false∧∃ vs,KV kvs vs∧h.DictOf (aki P w) a vs
 | .dT kvs=>kvs.length≤sizeLine∧(a == sysModules)=false∧∃ xs:List (List Key × Addr × Value),
   Paired (fun (p:List Key × V) (q:List Key × Addr × Value)=>p.1=q.1∧H q.2.1=some (.tup (p.1.map kV))∧RelV p.2 q.2.2) kvs xs ∧
   ∃ o es ep,h.get? a=some o∧o.ExactDict∧o.data=.dict es ep∧es.toList=xs.map (entryOfKey (tupleKind (aki P w)))∧(xs.map (·.1)).Nodup
 | .set S n=>h.SetOf (intKind P w) a S n
 | .ins C dx fs=>H dx=some (.own a)∧fs.length≤1000∧dx≠a∧h.get? a=some (PySem.W.instObj C dx) ∧
   ∃ mA,h.Ns1 dx mA∧(∀ f,RelO (fs.lookup f) (mA f))∧PySem.Within mA (fs.map (·.1))
 | .own _=>∃ o,h.get? a=some o
 | .xd fs=>∃ mA,h.Ns1 a mA∧∀ f,RelO (fs.lookup f) (mA f)
 | .rng lo hi=>∃ t u v,h.get? a=some { cls:=.type "range",data:=.fields #[.int lo t,.int hi u,.int 1 v] }
 | .frz o u=>h.get? a=some o∧adj H h a u
 | .tbl ps=>h.get? a=some { cls:=.none,data:=.fields ps }
 | .met f x=>h.get? a=some (PySem.W.methodObj (.ref f) (.ref x))
 | .ext φ=>φ h∧(∃ o,h.get? a=some o)∧∀ h1 h2:Heap,φ h1→(∀ o,h1.get? a=some o→h2.get? a=some o)→φ h2
def HOk (H:Hp) (h:Heap):Prop:=∀ a o,H a=some o→adj P w H h a o
end
section
variable {P:Program} {w:World} {H H':Hp} {h h':Heap} {a:Addr} {o:HO}
theorem adj.lt (x:adj P w H h a o):a < h.objs.size:=by
 cases o with
 | lst xs=>obtain ⟨_,_,_,_,e⟩:=x; exact Heap.lt_size e
 | tup xs=>obtain ⟨_,_,_,p⟩:=x; exact p.lt
 | dK kvs=>obtain ⟨_,_,_,_,o,_,_,e,_⟩:=x; exact Heap.lt_size e
 | dT kvs=>obtain ⟨_,_,_,_,o,_,_,e,_⟩:=x; exact Heap.lt_size e
 | set S n=>obtain ⟨o,_,_,_,e,_⟩:=x; exact Heap.lt_size e
 | ins C dx fs=>obtain ⟨_,_,_,e,_⟩:=x; exact Heap.lt_size e
 | own y=>obtain ⟨_,e⟩:=x; exact Heap.lt_size e
 | xd fs=>obtain ⟨_,⟨_,_,_,e,_⟩,_⟩:=x; exact Heap.lt_size e
 | rng lo hi=>obtain ⟨_,_,_,e⟩:=x; exact Heap.lt_size e
 | frz ob u=>obtain ⟨e,_⟩:=x; exact Heap.lt_size e
 | tbl ps=>exact Heap.lt_size (show h.get? a=some _ from x)
 | met f y=>exact Heap.lt_size (show h.get? a=some _ from x)
 | ext φ=>obtain ⟨_,⟨_,e⟩,_⟩:=x; exact Heap.lt_size e
theorem Paired.mapP {α β:Type} {F G:α→β→Prop}:∀ {l₁:List α} {l₂:List β},Paired F l₁ l₂→(∀ a b,F a b→G a b)→Paired G l₁ l₂
 | _,_,.nil,_=>.nil
 | _,_,.cons r t,f=>.cons (f _ _ r) (Paired.mapP t f)
theorem adj.stay (x:adj P w H h a o) (k:∀ b u,(b=a∨H b=some (.own a))→h.get? b=some u→h'.get? b=some u)
  (ho:∀ b,H b=some (.own a)→H' b=some (.own a)) (ht:∀ b xs,H b=some (.tup xs)→H' b=some (.tup xs)):adj P w H' h' a o:=by
 induction o with
 | lst xs=>obtain ⟨z,its,n,r,e⟩:=x; exact ⟨z,its,n,r,k _ _ (.inl rfl) e⟩
 | tup xs=>obtain ⟨z,its,r,ob,e,c⟩:=x; exact ⟨z,its,r,ob,k _ _ (.inl rfl) e,c⟩
 | dK kvs=>obtain ⟨z,y,vs,r,ob,es,ep,e,c⟩:=x; exact ⟨z,y,vs,r,ob,es,ep,k _ _ (.inl rfl) e,c⟩
 | dT kvs =>
  obtain ⟨z,y,xs,r,ob,es,ep,e,c⟩:=x
  exact ⟨z,y,xs,Paired.mapP r fun p q z=>⟨z.1,ht _ _ z.2.1,z.2.2⟩,ob,es,ep,k _ _ (.inl rfl) e,c⟩
 | set S n=>obtain ⟨ob,es,ep,t,e,c⟩:=x; exact ⟨ob,es,ep,t,k _ _ (.inl rfl) e,c⟩
 | ins C dx fs =>
  obtain ⟨d,z,ne,e,mA,⟨od,es,ep,e2,c⟩,r⟩:=x
  exact ⟨ho _ d,z,ne,k _ _ (.inl rfl) e,mA,⟨od,es,ep,k _ _ (.inr d) e2,c⟩,r⟩
 | own y=>obtain ⟨ob,e⟩:=x; exact ⟨ob,k _ _ (.inl rfl) e⟩
 | xd fs=>obtain ⟨mA,⟨od,es,ep,e,c⟩,r⟩:=x; exact ⟨mA,⟨od,es,ep,k _ _ (.inl rfl) e,c⟩,r⟩
 | rng lo hi=>obtain ⟨t,u,v,e⟩:=x; exact ⟨t,u,v,k _ _ (.inl rfl) e⟩
 | frz ob u ih=>obtain ⟨e,q⟩:=x; exact ⟨k _ _ (.inl rfl) e,ih q⟩
 | tbl ps =>
  have e:h.get? a=some { cls:=.none,data:=.fields ps }:=x
  show h'.get? a=some { cls:=.none,data:=.fields ps }
  exact k a _ (.inl rfl) e
 | met f y =>
  have e:h.get? a=some (PySem.W.methodObj (.ref f) (.ref y)):=x
  show h'.get? a=some (PySem.W.methodObj (.ref f) (.ref y))
  exact k a _ (.inl rfl) e
 | ext φ=>obtain ⟨p,⟨o,e⟩,st⟩:=x; exact ⟨st _ _ p fun o q=>k _ _ (.inl rfl) q,⟨o,k _ _ (.inl rfl) e⟩,st⟩
theorem HOk.lt (x:HOk P w H h) (e:H a=some o):a < h.objs.size:=(x a o e).lt
theorem HOk.fresh (x:HOk P w H h) (e:h.objs.size≤a):H a=none:=by
 cases q:H a with
 | none=>rfl
 | some u=>exact absurd (Nat.lt_of_lt_of_le (x.lt q) e) (Nat.lt_irrefl _)
theorem HOk.kept (x:HOk P w H h) (k:∀ b u,h.get? b=some u→h'.get? b=some u):HOk P w H h':=fun a o e =>
 (x a o e).stay (fun b u _ q=>k b u q) (fun _ q=>q) fun _ _ q=>q
theorem HOk.laid (x:HOk P w H h) (k:∀ b u,h.get? b=some u→h'.get? b=some u) (hp:h.objs.size≤a) (new:adj P w (upd H a o) h' a o):HOk P w (upd H a o) h':=fun b u e=>by
 have hn:=x.fresh hp
 by_cases hb:b=a
 ·subst hb; rw [aa1] at e; cases e; exact new
 ·rw [aaG hb] at e
  exact (x b u e).stay (fun c v _ q=>k c v q) (fun c q=>by rw [aaG (aaN q hn)]; exact q) fun c xs q=>by rw [aaG (aaN q hn)]; exact q
end
def Rd (H:Hp) (a:Addr) (u:HO):Prop:=H a=some u∨∃ o,H a=some (.frz o u)
theorem Rd.of {H:Hp} {a:Addr} {u:HO} (h:H a=some u):Rd H a u:=.inl h
theorem Rd.ok {P:Program} {w:World} {H:Hp} {h:Heap} {a:Addr} {u:HO} (r:Rd H a u) (x:HOk P w H h):adj P w H h a u:=by
 rcases r with r | ⟨o,r⟩
 ·exact x a u r
 ·obtain ⟨_,q⟩:=x a _ r
  exact q
def Mut:Option HO→Prop
 | some (.lst _)=>True
 | some (.dK _)=>True
 | some (.dT _)=>True
 | some (.set _ _)=>True
 | some (.ins _ _ _)=>True
 | some (.ext _)=>True
 | _=>False
section
variable {P:Program} {w:World} {H:Hp} {h h':Heap} {x e:Addr} {o':HO}
theorem HOk.write (ok:HOk P w H h) (mu:Mut (H x)) (he:e=x∨H e=some (.own x)) (k:∀ b u,b≠e→h.get? b=some u→h'.get? b=some u) (heo:∃ u,h'.get? e=some u)
  (new:adj P w (upd H x o') h' x o'):HOk P w (upd H x o') h':=fun b u q=>by
 have nown:∀ c y,H c=some (.own y)→c≠x:=fun c y r z=>by subst z; rw [r] at mu; exact mu
 have ntup:∀ c xs,H c=some (.tup xs)→c≠x:=fun c xs r z=>by subst z; rw [r] at mu; exact mu
 by_cases hb:b=x
 ·subst hb; rw [aa1] at q; cases q; exact new
 ·rw [aaG hb] at q
  by_cases hbe:b=e
  ·have q':H b=some (.own x):=by
    rcases he with z | z
    ·exact absurd (hbe.trans z) hb
    ·rw [hbe]; exact z
   rw [q] at q'; cases q'
   obtain ⟨v,hv⟩:=heo
   exact ⟨v,by rw [hbe]; exact hv⟩
  ·refine (ok b u q).stay (fun c v hc r=>k c v ?_ r) (fun c r=>by rw [aaG (nown c b r)]; exact r) fun c xs r=>by rw [aaG (ntup c xs r)]; exact r
   rcases hc with rfl | hc
   ·exact hbe
   ·rintro rfl
    rcases he with z | z
    ·exact nown c b hc z
    ·rw [hc] at z; cases z; exact hb rfl
end
structure Un (fs ex:List Addr) (H H':Hp) (h h':Heap):Prop where
 keep:∀ b o,h.get? b=some o→H b=none→b ∉ fs→b ∉ ex→h'.get? b=some o
 slot:∀ b o,h.get? b=some o→H b=none→b∈fs→b ∉ ex→∃ sl,h'.get? b=some { o with slots:=sl }
 free:∀ b o,h.get? b=some o→H b=none→b ∉ ex→H' b=none
 there:∀ b o,h.get? b=some o→b ∉ ex→∃ o',h'.get? b=some o'
 tups:∀ b xs,H b=some (.tup xs)→H' b=some (.tup xs)
 frzs:∀ b o u,H b=some (.frz o u)→H' b=some (.frz o u)
 tbls:∀ b ps,H b=some (.tbl ps)→∃ more,H' b=some (.tbl (ps++more))
section
variable {fs fs' ex ex':List Addr} {H H1 H2:Hp} {h h1 h2 h':Heap} {a x e:Addr} {o:HO}
theorem Un.any (u:Un fs ex H H1 h h1) {b:Addr} {ob:Obj} (q:h.get? b=some ob) (n:H b=none) (hx:b ∉ ex):∃ sl,h1.get? b=some { ob with slots:=sl }:=by
 by_cases hb:b∈fs
 ·exact u.slot b ob q n hb hx
 ·exact ⟨ob.slots,u.keep b ob q n hb hx⟩
theorem Un.trans (a:Un fs ex H H1 h h1) (b:Un fs ex H1 H2 h1 h2):Un fs ex H H2 h h2 where
 keep:=fun c ob q n hc hx=>b.keep c ob (a.keep c ob q n hc hx) (a.free c ob q n hx) hc hx
 slot:=fun c ob q n hc hx=>by
  obtain ⟨sl,e1⟩:=a.slot c ob q n hc hx
  obtain ⟨sl',e2⟩:=b.slot c _ e1 (a.free c ob q n hx) hc hx
  exact ⟨sl',e2⟩
 free:=fun c ob q n hx=>by
  obtain ⟨o',e1⟩:=a.there c ob q hx
  exact b.free c o' e1 (a.free c ob q n hx) hx
 there:=fun c ob q hx=>by
  obtain ⟨o',e1⟩:=a.there c ob q hx
  exact b.there c o' e1 hx
 tups:=fun c xs q=>b.tups c xs (a.tups c xs q)
 frzs:=fun c ob xs q=>b.frzs c ob xs (a.frzs c ob xs q)
 tbls:=fun c ps q=>by
  obtain ⟨m1,e1⟩:=a.tbls c ps q
  obtain ⟨m2,e2⟩:=b.tbls c _ e1
  exact ⟨m1++m2,by rw [e2,Array.append_assoc]⟩
theorem Un.kept (k:∀ b u,h.get? b=some u→h'.get? b=some u):Un fs ex H H h h' :=
 ⟨fun b ob q _ _ _=>k b ob q,fun b ob q _ _ _=>⟨ob.slots,k b ob q⟩,fun _ _ _ n _=>n,fun b ob q _=>⟨ob,k b ob q⟩,fun _ _ q=>q,fun _ _ _ q=>q,fun _ ps q=>⟨#[],by rw [q]; simp⟩⟩
theorem Un.refl:Un fs ex H H h h:=Un.kept fun _ _ q=>q
theorem Un.laid (k:∀ b u,h.get? b=some u→h'.get? b=some u) (hp:h.objs.size≤a) (hn:H a=none):Un fs ex H (upd H a o) h h' where
 keep:=fun b u q _ _ _=>k b u q
 slot:=fun b u q _ _ _=>⟨u.slots,k b u q⟩
 free:=fun b u q n _=>by rw [aaG (Nat.ne_of_lt (Nat.lt_of_lt_of_le (Heap.lt_size q) hp))]; exact n
 there:=fun b u q _=>⟨u,k b u q⟩
 tups:=fun b xs q=>by rw [aaG (aaN q hn)]; exact q
 frzs:=fun b u xs q=>by rw [aaG (aaN q hn)]; exact q
 tbls:=fun b ps q=>⟨#[],by rw [aaG (aaN q hn),q]; simp⟩
theorem Un.write (mu:Mut (H x)) (he:e=x∨H e=some (.own x)) (k:∀ b u,b≠e→h.get? b=some u→h'.get? b=some u) (heo:∃ u,h'.get? e=some u):Un fs ex H (upd H x o) h h':=by
 have hx:∀ b,H b=none→b≠x:=fun b n z=>by subst z; rw [n] at mu; exact mu
 have hb:∀ b,H b=none→b≠e:=fun b n z=>by
  subst z
  rcases he with r | r
  ·exact hx b n r
  ·rw [n] at r; cases r
 have hm:∀ b u,H b=some u→¬ Mut (some u)→b≠x:=fun b u q nm z=>by subst z; rw [q] at mu; exact nm mu
 refine ⟨fun b u q n _ _=>k b u (hb b n) q,fun b u q n _ _=>⟨u.slots,k b u (hb b n) q⟩,fun b u q n _=>by rw [aaG (hx b n)]; exact n,fun b u q _=>?_,
  fun b xs q=>by rw [aaG (hm b _ q fun z=>z)]; exact q,fun b u xs q=>by rw [aaG (hm b _ q fun z=>z)]; exact q,fun b ps q=>⟨#[],by rw [aaG (hm b _ q fun z=>z),q]; simp⟩⟩
 by_cases hbe:b=e
 ·subst hbe; exact heo
 ·exact ⟨u,k b u hbe q⟩
theorem Un.mono (u:Un fs ex H H1 h h1) (hs:∀ b∈fs,b∈fs') (hx:∀ b∈ex,b∈ex'):Un fs' ex' H H1 h h1 :=
 ⟨fun b ob q n hb he=>u.keep b ob q n (fun z=>hb (hs b z)) fun z=>he (hx b z),fun _ _ q n _ he=>u.any q n fun z=>he (hx _ z),fun b ob q n he=>u.free b ob q n fun z=>he (hx b z),fun b ob q he=>u.there b ob q fun z=>he (hx b z),u.tups,u.frzs,u.tbls⟩
end
def trk (h:Heap) (H:Hp):List Addr:=(List.range h.objs.size).filter fun a=>(H a).isSome
def hidT (h:Heap) (H:Hp):Heap:=PySem.W.hideAll h (trk h H)
theorem akH (h:Heap) (H:Hp):(hidT h H).objs.size=h.objs.size:=PySem.W.hideAll_size _ _
theorem alE {h:Heap} {H:Hp} {b:Addr} {o:Obj} (e:h.get? b=some o) (n:H b=none):(hidT h H).get? b=some o :=
 PySem.W.hideAll_get _ e fun hm=>by
  have q:(H b).isSome=true:=(List.mem_filter.mp hm).2
  rw [n] at q; simp at q
theorem anl {h:Heap} {H:Hp} {b:Addr} {o:Obj} (e:(hidT h H).get? b=some o):h.get? b=some o∧H b=none:=by
 have e':h.get? b=some o:=PySem.W.of_hideAll (trk h H) e
 refine ⟨e',?_⟩
 cases q:H b with
 | none=>rfl
 | some x =>
  have hm:b∈trk h H:=List.mem_filter.mpr ⟨List.mem_range.mpr (Heap.lt_size e'),by simp [q]⟩
  have z:(hidT h H).get? b=none:=PySem.W.hideAll_none (trk h H) hm
  rw [z] at e; cases e
def amC (g h:Heap) (L:Addr):List (Addr × Obj):=(List.range h.objs.size).filterMap fun a=>if a=L∨(g.get? a).isSome=true then none else (h.get? a).map fun o=>(a,o)
def rest (g h:Heap) (L d:Addr):List (Addr × Obj):=(amC g h L).filter fun p=>decide (p.1≠d)
end L2
namespace L2
open PySem PySem.Spec PyProof.Rows
structure Mod (K:PySem.W.Frag) (mg:Str→Option Value) (base:Heap):Prop where
 kin:K.In base
 glob:base.Ns mainGlobals mg
 blt:∃ mb,base.Ns builtinsNs mb∧∀ x:Str,x≠"__name__"→mb x=bootBuiltins x
 nolimit:base.NoLimit
structure Cx where
 prog:Program
 w:World
 K:PySem.W.Frag
 mg:Str→Option Value
 base:Heap
 A:Around
 N:List Str
 s₀:Shared
 H₀:Hp
 env:Env
 outer:List Env
 stack:List Env
 ex:List Addr
 fn:Str→Bool
 calm:Bool
 pn:List (Addr × Obj)
 xe:Value→Shared→Prop
def frs (l:List Env):List Addr:=l.filterMap (·.frame)
abbrev Cx.fs (X:Cx):List Addr:=frs X.outer
def Vis (sc:Scope) (x:Str):Prop:=sc.names.lookup x=some .local∨sc.names.lookup x=some .cell∨sc.names.lookup x=some .free
def Loc (sc:Scope) (x:Str):Prop:=sc.names.lookup x=some .local∨sc.names.lookup x=some .cell
def Look (env:Env) (h:Heap) (m:Str→Option Value) (x:Str) (u:Value):Prop :=
 (env.kindOf x=some .local∧m x=some u)∨((env.kindOf x=some .cell∨env.kindOf x=some .free)∧∃ c,env.cells.lookup x=some c∧h.IsCell c (some u))
structure Cx.Ok (X:Cx):Prop where
 mod:Mod X.K X.mg X.base
 kind:X.env.scope.kind=.function
 glob:X.env.globals=mainGlobals
 blt:X.env.builtins=builtinsNs
 above:X.s₀.heap.objs.size≤X.env.locals
 inj:∀ x y c,X.env.cells.lookup x=some c→X.env.cells.lookup y=some c→x=y
 has:∀ x,(X.env.kindOf x=some .cell∨X.env.kindOf x=some .free)→∃ c,X.env.cells.lookup x=some c
 cab:∀ x c,X.fn x=true→X.env.cells.lookup x=some c→X.s₀.heap.objs.size≤c
 hd:X.calm=true→X.A.handled=none
 frames:X.A.frames=some X.stack
 stk:X.stack=X.outer∨(X.stack=X.env :: X.outer∧X.env.frame=some X.env.locals)
 exf:∀ b∈X.ex,b≠X.env.locals∧∀ x c,X.env.cells.lookup x=some c→c≠b
 bs:∀ b o,X.base.get? b=some o→X.s₀.heap.get? b=some o∧X.H₀ b=none
 bsz:X.base.objs.size≤X.s₀.heap.objs.size
 noex:∀ b o,X.base.get? b=some o→b ∉ X.ex
 exfs:∀ b∈X.ex,b ∉ X.fs
 funs:X.s₀.heap.FunFrames X.base X.outer
 frf:∀ b∈X.fs,X.H₀ b=none
structure Inv (X:Cx) (pins:List (Addr × Obj)) (σ:List (Option V)) (H:Hp) (s:Shared):Prop where
 ok:X.Ok
 os:s.os=X.s₀.os
 bare:AllBare s.gens
 base:Un X.fs X.ex X.H₀ H X.s₀.heap s.heap
 loc:∃ m,s.heap.Ns X.env.locals m∧∀ (i:Nat) (x:Str) (v:V),X.N[i]?=some x→σ[i]?=some (some v)→Vis X.env.scope x→∃ u,RelV v u∧Look X.env s.heap m x u
 cell:∀ x c,X.env.cells.lookup x=some c→∃ v,s.heap.IsCell c v
 free:H X.env.locals=none
 freeC:∀ x c,X.env.cells.lookup x=some c→H c=none
 pin:∀ p∈X.pn++pins,s.heap.get? p.1=some p.2∧H p.1=none∧p.1≠X.env.locals∧p.1 ∉ X.fs∧∀ v,p.2.data≠.cell v
 hok:HOk X.prog X.w H s.heap
 len:σ.length=X.N.length
section
variable {X:Cx} {pins:List (Addr × Obj)} {σ:List (Option V)} {H H':Hp} {s:Shared} {h':Heap}
theorem Cx.Ok.nofr (ok:X.Ok) {b:Addr} {o:Obj} (e:X.base.get? b=some o):b ∉ X.fs:=fun hb=>by
 have:=(ok.funs.mem hb).1
 rw [e] at this; cases this
theorem Inv.bs (I:Inv X pins σ H s):∀ b o,X.base.get? b=some o→s.heap.get? b=some o∧H b=none:=fun b o e =>
 ⟨I.base.keep b o (I.ok.bs b o e).1 (I.ok.bs b o e).2 (I.ok.nofr e) (I.ok.noex b o e),I.base.free b o (I.ok.bs b o e).1 (I.ok.bs b o e).2 (I.ok.noex b o e)⟩
theorem Inv.bk (I:Inv X pins σ H s):∀ b o,X.base.get? b=some o→s.heap.get? b=some o:=fun b o e=>(I.bs b o e).1
theorem Inv.mod (I:Inv X pins σ H s):Mod X.K X.mg X.base:=I.ok.mod
theorem Inv.kIn (I:Inv X pins σ H s):X.K.In s.heap:=I.ok.mod.kin.keeps I.bk
theorem Inv.nolimit (I:Inv X pins σ H s):s.heap.NoLimit:=I.ok.mod.nolimit.keeps I.bk
theorem Inv.fr (I:Inv X pins σ H s):∃ m,Fr X.base X.env.locals s.heap m :=
 let ⟨m,hn,_⟩:=I.loc
 ⟨m,hn,I.bk,Nat.le_trans I.ok.bsz I.ok.above⟩
theorem Inv.lt (I:Inv X pins σ H s):X.env.locals < s.heap.objs.size:=let ⟨_,hn,_⟩:=I.loc; hn.lt
theorem Inv.sz (I:Inv X pins σ H s):X.s₀.heap.objs.size≤s.heap.objs.size:=Nat.le_trans I.ok.above (Nat.le_of_lt I.lt)
theorem Inv.nofs (I:Inv X pins σ H s) {a:Addr} (h:s.heap.objs.size≤a):a ∉ X.fs:=fun hb=>by
 obtain ⟨_,o,ho,_⟩:=I.ok.funs.mem hb
 exact absurd (Nat.lt_of_lt_of_le (Heap.lt_size ho) (Nat.le_trans I.sz h)) (Nat.lt_irrefl _)
theorem Inv.cne (I:Inv X pins σ H s):∀ x c,X.env.cells.lookup x=some c→c≠X.env.locals:=fun x c e z=>by
 obtain ⟨v,o,ho,hd⟩:=I.cell x c e
 obtain ⟨m,⟨o',es,ep,ho',hd',_⟩,_⟩:=I.loc
 rw [z,ho'] at ho; cases ho; rw [hd'] at hd; cases hd
theorem Inv.funs (I:Inv X pins σ H s):s.heap.FunFrames X.base X.outer:=by
 have all:∀ (l:List Env),(∀ b∈frs l,b∈X.fs)→X.s₀.heap.FunFrames X.base l→s.heap.FunFrames X.base l:=by
  intro l
  induction l with
  | nil=>intro _ _; trivial
  | cons env r ih =>
   intro hs hl
   obtain ⟨hk,⟨L,o,hf,hn,ho,hd⟩,hr⟩:=hl
   have hL:L∈X.fs:=hs L (by unfold frs; rw [List.filterMap_cons,hf]; exact List.mem_cons_self)
   obtain ⟨sl,e⟩:=I.base.slot L o ho (I.ok.frf L hL) hL fun z=>I.ok.exfs L z hL
   exact ⟨hk,⟨L,_,hf,hn,e,hd⟩,ih (fun b hb=>hs b (by unfold frs; rw [List.filterMap_cons,hf]; exact List.mem_cons_of_mem _ hb)) hr⟩
 exact all X.outer (fun _ hb=>hb) I.ok.funs
theorem Inv.stack (I:Inv X pins σ H s):s.heap.FunFrames X.base X.stack:=by
 rcases I.ok.stk with e | ⟨e,hf⟩
 ·rw [e]; exact I.funs
 ·rw [e]
  obtain ⟨m,hn,_⟩:=I.loc
  refine .cons (by rw [I.ok.kind]; decide) hf hn ?_ I.funs
  exact Heap.get?_none_of_le (Nat.le_trans I.ok.bsz I.ok.above)
theorem Inv.stkSub (I:Inv X pins σ H s):∀ b∈frs X.stack,b∈X.env.locals :: X.fs:=fun b hb=>by
 rcases I.ok.stk with e | ⟨e,hf⟩
 ·rw [e] at hb; exact List.mem_cons_of_mem _ hb
 ·rw [e] at hb
  unfold frs at hb
  rw [List.filterMap_cons,hf] at hb
  exact hb
theorem Inv.stkFree (I:Inv X pins σ H s):∀ b∈frs X.stack,H b=none:=fun b hb=>by
 rcases List.mem_cons.mp (I.stkSub b hb) with e | hb
 ·rw [e]; exact I.free
 ·obtain ⟨_,o,ho,_⟩:=I.ok.funs.mem hb
  exact I.base.free b o ho (I.ok.frf b hb) fun z=>I.ok.exfs b z hb
theorem Inv.step {g':Array GenState} {t':Nat} {d':Drawn} {ch:List Addr} (I:Inv X pins σ H s)
  (hch:∀ b∈ch,(b∈X.ex∨X.s₀.heap.objs.size≤b)∧b≠X.env.locals∧(∀ x c,X.env.cells.lookup x=some c→c≠b)∧∀ p∈X.pn++pins,p.1≠b)
  (keep:∀ b o,b≠X.env.locals→b ∉ X.fs→b ∉ ch→s.heap.get? b=some o→H b=none→h'.get? b=some o)
  (slot:∀ b o,b≠X.env.locals→b∈X.fs→b ∉ ch→s.heap.get? b=some o→H b=none→∃ sl,h'.get? b=some { o with slots:=sl }) (free:∀ b o,b ∉ ch→s.heap.get? b=some o→H b=none→H' b=none)
  (there:∀ b o,b ∉ ch→s.heap.get? b=some o→∃ o',h'.get? b=some o')
  (tups:∀ b xs,H b=some (.tup xs)→H' b=some (.tup xs)) (frzs:∀ b o u,H b=some (.frz o u)→H' b=some (.frz o u)) (tbls:∀ b ps,H b=some (.tbl ps)→∃ more,H' b=some (.tbl (ps++more)))
  (ns:∀ m,s.heap.Ns X.env.locals m→h'.Ns X.env.locals m) (hok:HOk X.prog X.w H' h') (hg:AllBare g') :
  Inv X pins σ H' { s with heap:=h',gens:=g',drawn:=d',toks:=t' }:=by
 have neL:∀ b o,X.s₀.heap.get? b=some o→b≠X.env.locals:=fun b o e=>Nat.ne_of_lt (Nat.lt_of_lt_of_le (Heap.lt_size e) I.ok.above)
 have neC:∀ b o,X.s₀.heap.get? b=some o→b ∉ X.ex→b ∉ ch:=fun b o e hx hb=>by
  rcases (hch b hb).1 with z | z
  ·exact hx z
  ·exact absurd (Nat.lt_of_lt_of_le (Heap.lt_size e) z) (Nat.lt_irrefl _)
 have cellK:∀ x c,X.env.cells.lookup x=some c→∀ v,s.heap.IsCell c v→h'.IsCell c v:=fun x c e v ⟨o,ho,hd⟩=>by
  have nch:c ∉ ch:=fun z=>(hch c z).2.2.1 x c e rfl
  by_cases hc:c∈X.fs
  ·obtain ⟨sl,q⟩:=slot c o (I.cne x c e) hc nch ho (I.freeC x c e)
   exact ⟨_,q,hd⟩
  ·exact ⟨o,keep c o (I.cne x c e) hc nch ho (I.freeC x c e),hd⟩
 refine ⟨I.ok,I.os,hg,⟨fun b o e n hb hx=>?_,fun b o e n hb hx=>?_,fun b o e n hx=>?_,fun b o e hx=>?_,fun b xs e=>tups b xs (I.base.tups b xs e),fun b o xs e=>frzs b o xs (I.base.frzs b o xs e),fun b ps e=>?_⟩,?_,fun x c e=>?_,?_,fun x c e=>?_,fun p hp=>?_,hok,I.len⟩
 ·exact keep b o (neL b o e) hb (neC b o e hx) (I.base.keep b o e n hb hx) (I.base.free b o e n hx)
 ·obtain ⟨sl,e1⟩:=I.base.slot b o e n hb hx
  obtain ⟨sl',e2⟩:=slot b _ (neL b o e) hb (neC b o e hx) e1 (I.base.free b o e n hx)
  exact ⟨sl',e2⟩
 ·obtain ⟨o',e1⟩:=I.base.there b o e hx
  exact free b o' (neC b o e hx) e1 (I.base.free b o e n hx)
 ·obtain ⟨o',e1⟩:=I.base.there b o e hx
  exact there b o' (neC b o e hx) e1
 ·obtain ⟨m1,e1⟩:=I.base.tbls b ps e
  obtain ⟨m2,e2⟩:=tbls b _ e1
  exact ⟨m1++m2,by rw [e2,Array.append_assoc]⟩
 ·obtain ⟨m,hn,hl⟩:=I.loc
  refine ⟨m,ns m hn,fun i x v e1 e2 e3=>?_⟩
  obtain ⟨u,r,l⟩:=hl i x v e1 e2 e3
  refine ⟨u,r,?_⟩
  rcases l with l | ⟨k,c,e,z⟩
  ·exact .inl l
  ·exact .inr ⟨k,c,e,cellK x c e _ z⟩
 ·obtain ⟨v,z⟩:=I.cell x c e
  exact ⟨v,cellK x c e v z⟩
 ·obtain ⟨m,⟨o,_,_,ho,_⟩,_⟩:=I.loc
  exact free _ o (fun z=>(hch _ z).2.1 rfl) ho I.free
 ·obtain ⟨v,o,ho,hd⟩:=I.cell x c e
  exact free c o (fun z=>(hch c z).2.2.1 x c e rfl) ho (I.freeC x c e)
 ·obtain ⟨e,n,ne,nf,d⟩:=I.pin p hp
  have nch:p.1 ∉ ch:=fun z=>(hch p.1 z).2.2.2 p hp rfl
  exact ⟨keep p.1 p.2 ne nf nch e n,free p.1 p.2 nch e n,ne,nf,d⟩
theorem Inv.un {t':Nat} (I:Inv X pins σ H s) (u:Un X.fs [] H H' s.heap h') (hok:HOk X.prog X.w H' h'):Inv X pins σ H' { s with heap:=h',toks:=t' }:=by
 obtain ⟨m,⟨o,es,ep,ho,r⟩,_⟩:=id I.loc
 obtain ⟨sl,hL⟩:=u.any ho I.free (by simp)
 exact I.step (g':=s.gens) (d':=s.drawn) (ch:=[]) (fun _ z=>nomatch z) (fun b o _ hb _ e n=>u.keep b o e n hb (by simp)) (fun b o _ hb _ e n=>u.slot b o e n hb (by simp)) (fun b o _ e n=>u.free b o e n (by simp)) (fun b o _ e=>u.there b o e (by simp)) u.tups u.frzs u.tbls (fun m' hm=>by
  obtain ⟨o',es',ep',ho',r'⟩:=hm
  rw [ho] at ho'; cases ho'
  exact ⟨_,es',ep',hL,r'⟩) hok I.bare
theorem Inv.call {g':Array GenState} {t':Nat} {d':Drawn} {ch:List Addr} (I:Inv X pins σ H s) (u:Un (frs X.stack) ch H H' s.heap h') (hok:HOk X.prog X.w H' h') (hg:AllBare g')
  (hch:∀ b∈ch,(b∈X.ex∨X.s₀.heap.objs.size≤b)∧b≠X.env.locals∧(∀ x c,X.env.cells.lookup x=some c→c≠b)∧∀ p∈X.pn++pins,p.1≠b) :
  Inv X pins σ H' { s with heap:=h',gens:=g',drawn:=d',toks:=t' }:=by
 obtain ⟨m,⟨o,es,ep,ho,r⟩,_⟩:=id I.loc
 obtain ⟨sl,hL⟩:=u.any ho I.free fun z=>(hch _ z).2.1 rfl
 exact I.step (ch:=ch) hch (fun b o hL hb hc e n=>u.keep b o e n (fun z=>(List.mem_cons.mp (I.stkSub b z)).elim hL hb) hc) (fun b o _ _ hc e n=>u.any e n hc) (fun b o hc e n=>u.free b o e n hc) (fun b o hc e=>u.there b o e hc) u.tups u.frzs u.tbls (fun m' hm=>by
  obtain ⟨o',es',ep',ho',r'⟩:=hm
  rw [ho] at ho'; cases ho'
  exact ⟨_,es',ep',hL,r'⟩) hok hg
theorem Inv.turned {t':Nat} {it:Addr} (I:Inv X pins σ H s) (k:∀ b o,b≠it→s.heap.get? b=some o→h'.get? b=some o) (hn:H it=none) (hL:it≠X.env.locals)
  (h1:it∈X.ex∨X.s₀.heap.objs.size≤it) (h2:∀ x c,X.env.cells.lookup x=some c→c≠it) (h3:∀ p∈X.pn++pins,p.1≠it):Inv X pins σ H { s with heap:=h',toks:=t' }:=by
 have nit:∀ b u,H b=some u→b≠it:=fun b u e z=>by rw [z,hn] at e; cases e
 refine I.step (g':=s.gens) (d':=s.drawn) (ch:=[it]) (fun b hb=>?_) (fun b o _ _ hc e _=>k b o (fun z=>hc (by simp [z])) e) (fun b o _ _ hc e _=>⟨o.slots,k b o (fun z=>hc (by simp [z])) e⟩) (fun _ _ _ _ n=>n)
  (fun b o hc e=>⟨o,k b o (fun z=>hc (by simp [z])) e⟩) (fun _ _ e=>e) (fun _ _ _ e=>e) (fun b ps e=>⟨#[],by rw [e]; simp⟩) (fun m hm=>?_) (fun b u e=>?_) I.bare
 ·have e:b=it:=by simpa using hb
  subst e
  exact ⟨h1,hL,h2,h3⟩
 ·obtain ⟨o,es,ep,ho,r⟩:=hm
  exact ⟨o,es,ep,k _ o (Ne.symm hL) ho,r⟩
 ·refine (I.hok b u e).stay (fun c v hc q=>k c v ?_ q) (fun _ q=>q) fun _ _ q=>q
  rcases hc with z | z
  ·rw [z]; exact nit b u e
  ·exact nit c _ z
theorem Inv.tok (I:Inv X pins σ H s) (t:Nat):Inv X pins σ H { s with toks:=t }:=I.un (h':=s.heap) (t':=t) Un.refl I.hok
theorem Inv.kept {t':Nat} (I:Inv X pins σ H s) (k:∀ b u,s.heap.get? b=some u→h'.get? b=some u):Inv X pins σ H { s with heap:=h',toks:=t' }:=I.un (Un.kept k) (I.hok.kept k)
theorem Inv.laid {a:Addr} {o:HO} {t':Nat} (I:Inv X pins σ H s) (k:∀ b u,s.heap.get? b=some u→h'.get? b=some u) (hp:s.heap.objs.size≤a) (new:adj X.prog X.w (upd H a o) h' a o) :
  Inv X pins σ (upd H a o) { s with heap:=h',toks:=t' }:=I.un (Un.laid k hp (I.hok.fresh hp)) (I.hok.laid k hp new)
theorem Inv.write {x e:Addr} {o:HO} {t':Nat} (I:Inv X pins σ H s) (mu:Mut (H x)) (he:e=x∨H e=some (.own x)) (k:∀ b u,b≠e→s.heap.get? b=some u→h'.get? b=some u) (heo:∃ u,h'.get? e=some u)
  (new:adj X.prog X.w (upd H x o) h' x o):Inv X pins σ (upd H x o) { s with heap:=h',toks:=t' }:=I.un (Un.write mu he k heo) (I.hok.write mu he k heo new)
theorem Inv.pins_of {pins':List (Addr × Obj)} (I:Inv X pins σ H s) (h:∀ p∈pins',s.heap.get? p.1=some p.2∧H p.1=none∧p.1≠X.env.locals∧p.1 ∉ X.fs∧∀ v,p.2.data≠.cell v):Inv X pins' σ H s :=
 ⟨I.ok,I.os,I.bare,I.base,I.loc,I.cell,I.free,I.freeC,fun p hp=>(List.mem_append.mp hp).elim (fun z=>I.pin p (List.mem_append_left _ z)) (h p),I.hok,I.len⟩
theorem ahT {N:List Str} (hN:N.Nodup) {i j:Nat} {x:Str} (a:N[i]?=some x) (b:N[j]?=some x):i=j:=by
 obtain ⟨h1,e1⟩:=List.getElem?_eq_some_iff.mp a
 obtain ⟨h2,e2⟩:=List.getElem?_eq_some_iff.mp b
 exact (List.getElem_inj hN).mp (e1.trans e2.symm)
theorem ajI {M:Model} {A:Around} {E:Value→Shared→Prop} {i:Nat} {x:Str} {v:V} {u:Value} {Q:Unit→Shared→Prop} (I:Inv X pins σ H s) (hN:X.N.Nodup) (hi:X.N[i]?=some x) (hx:Loc X.env.scope x) (r:RelV v u)
  (h:∀ s',Inv X pins (σ.set i (some v)) H s'→(∃ a,Heap.SameBut a s.heap s'.heap∧(a=X.env.locals∨X.env.cells.lookup x=some a))→Q () s') (hf:X.fn x=true∨X.env.scope.names.lookup x=some .local:=by first | exact .inl rfl | exact .inr rfl | assumption):wpAny M A (storeName X.env x u) Q E s:=by
 obtain ⟨m,hn,hl⟩:=id I.loc
 have hcls:(X.env.scope.kind == .class || (X.env.scope.kind == .module && X.env.locals != X.env.globals))=false:=by rw [I.ok.kind]; rfl
 have hiσ:i < σ.length:=by rw [I.len]; exact (List.getElem?_eq_some_iff.mp hi).1
 have cne:=I.cne
 have tracked:∀ {a:Addr} {h':Heap},(∃ o,s.heap.get? a=some o∧H a=none)→Heap.SameBut a s.heap h'→HOk X.prog X.w H h':=fun {a h'} ha hs b ob e=>by
  obtain ⟨_,_,hfree⟩:=ha
  refine (I.hok b ob e).stay (fun c w' hc q=>(hs.2 c ?_).trans q) (fun _ q=>q) fun _ _ q=>q
  rintro rfl
  rcases hc with rfl | hc
  ·rw [hfree] at e; cases e
  ·rw [hfree] at hc; cases hc
 rcases hx with hk | hk
 ·refine wpAny_storeName_local hk hn (fun h' hn' hs=>?_) hcls
  obtain ⟨oL,_,_,hoL,_⟩:=id hn
  refine h _ ⟨I.ok,I.os,I.bare,⟨fun b o e n hb hx=>?_,fun b o e n hb hx=>?_,I.base.free,fun b o e hx=>?_,I.base.tups,I.base.frzs,I.base.tbls⟩,⟨_,hn',fun j y v' e1 e2 e3=>?_⟩,fun y c e=>?_,I.free,I.freeC,fun p hp=>?_,tracked ⟨oL,hoL,I.free⟩ hs,by simpa using I.len⟩ ⟨_,hs,.inl rfl⟩
  ·exact (hs.2 b (Nat.ne_of_lt (Nat.lt_of_lt_of_le (Heap.lt_size e) I.ok.above))).trans (I.base.keep b o e n hb hx)
  ·obtain ⟨sl,e1⟩:=I.base.slot b o e n hb hx
   exact ⟨sl,(hs.2 b (Nat.ne_of_lt (Nat.lt_of_lt_of_le (Heap.lt_size e) I.ok.above))).trans e1⟩
  ·obtain ⟨o',e1⟩:=I.base.there b o e hx
   exact ⟨o',(hs.2 b (Nat.ne_of_lt (Nat.lt_of_lt_of_le (Heap.lt_size e) I.ok.above))).trans e1⟩
  ·by_cases hj:j=i
   ·subst hj
    rw [hi] at e1; cases e1
    rw [List.getElem?_set_self hiσ] at e2
    cases e2
    exact ⟨u,r,.inl ⟨hk,by simp⟩⟩
   ·rw [List.getElem?_set_ne (Ne.symm hj)] at e2
    obtain ⟨u',r',q⟩:=hl j y v' e1 e2 e3
    refine ⟨u',r',?_⟩
    rcases q with ⟨k,e⟩ | ⟨k,c,e,z⟩
    ·refine .inl ⟨k,?_⟩
     have:y≠x:=fun e=>hj (ahT hN e1 (e ▸ hi))
     simp [this,e]
    ·exact .inr ⟨k,c,e,z.sameBut hs (cne y c e)⟩
  ·obtain ⟨w',z⟩:=I.cell y c e
   exact ⟨w',z.sameBut hs (cne y c e)⟩
  ·obtain ⟨e,n,ne,nf,d⟩:=I.pin p hp
   exact ⟨(hs.2 p.1 ne).trans e,n,ne,nf,d⟩
 ·have hfn:X.fn x=true:=by
   rcases hf with z | z
   ·exact z
   ·rw [z] at hk; cases hk
  obtain ⟨c,hc⟩:=I.ok.has x (.inl hk)
  obtain ⟨w',z⟩:=I.cell x c hc
  refine wpAny_storeName_cell I.ok.kind hk hc z (fun h' hc' hs=>?_)
  obtain ⟨oc,hoc,hocd⟩:=id z
  refine h { s with heap:=h' } ⟨I.ok,I.os,I.bare,⟨fun b o e n hb hx=>?_,fun b o e n hb hx=>?_,I.base.free,fun b o e hx=>?_,I.base.tups,I.base.frzs,I.base.tbls⟩,⟨m,hn.sameBut hs (Ne.symm (cne x c hc)),fun j y v' e1 e2 e3=>?_⟩,fun y c' e=>?_,I.free,I.freeC,fun p hp=>?_,tracked ⟨oc,hoc,I.freeC x c hc⟩ hs,by simpa using I.len⟩ ⟨c,hs,.inr hc⟩
  ·exact (hs.2 b (Nat.ne_of_lt (Nat.lt_of_lt_of_le (Heap.lt_size e) (I.ok.cab x c hfn hc)))).trans (I.base.keep b o e n hb hx)
  ·obtain ⟨sl,e1⟩:=I.base.slot b o e n hb hx
   exact ⟨sl,(hs.2 b (Nat.ne_of_lt (Nat.lt_of_lt_of_le (Heap.lt_size e) (I.ok.cab x c hfn hc)))).trans e1⟩
  ·obtain ⟨o',e1⟩:=I.base.there b o e hx
   exact ⟨o',(hs.2 b (Nat.ne_of_lt (Nat.lt_of_lt_of_le (Heap.lt_size e) (I.ok.cab x c hfn hc)))).trans e1⟩
  ·by_cases hj:j=i
   ·subst hj
    rw [hi] at e1; cases e1
    rw [List.getElem?_set_self hiσ] at e2
    cases e2
    exact ⟨u,r,.inr ⟨.inl hk,c,hc,hc'⟩⟩
   ·rw [List.getElem?_set_ne (Ne.symm hj)] at e2
    obtain ⟨u',r',q⟩:=hl j y v' e1 e2 e3
    refine ⟨u',r',?_⟩
    rcases q with q | ⟨k,c',e,z'⟩
    ·exact .inl q
    ·refine .inr ⟨k,c',e,z'.sameBut hs ?_⟩
     rintro rfl
     exact hj (ahT hN e1 (I.ok.inj _ _ _ e hc ▸ hi))
  ·by_cases hcc:c'=c
   ·subst hcc; exact ⟨_,hc'⟩
   ·obtain ⟨w2,z2⟩:=I.cell y c' e
    exact ⟨w2,z2.sameBut hs hcc⟩
  ·obtain ⟨e,n,ne,nf,d⟩:=I.pin p hp
   refine ⟨(hs.2 p.1 ?_).trans e,n,ne,nf,d⟩
   intro q
   rw [q,hoc] at e
   have q':oc=p.2:=Option.some.inj e
   exact d w' (by rw [← q']; exact hocd)
theorem adw {M:Model} {A:Around} {E:Value→Shared→Prop} {i:Nat} {x:Str} {v:V} {u:Value} {Q:Unit→Shared→Prop} (I:Inv X pins σ H s) (hN:X.N.Nodup) (hi:X.N[i]?=some x) (hx:Loc X.env.scope x) (r:RelV v u)
  (h:∀ s',Inv X pins (σ.set i (some v)) H s'→Q () s') (hf:X.fn x=true∨X.env.scope.names.lookup x=some .local:=by first | exact .inl rfl | exact .inr rfl | assumption):wpAny M A (storeName X.env x u) Q E s :=
 ajI I hN hi hx r (fun s' I' _=>h s' I') hf
theorem Inv.call' {s':Shared} {ch:List Addr} (I:Inv X pins σ H s) (ho:s'.os=s.os) (u:Un (frs X.stack) ch H H' s.heap s'.heap) (hok:HOk X.prog X.w H' s'.heap) (hg:AllBare s'.gens)
  (hch:∀ b∈ch,(b∈X.ex∨X.s₀.heap.objs.size≤b)∧b≠X.env.locals∧(∀ x c,X.env.cells.lookup x=some c→c≠b)∧∀ p∈X.pn++pins,p.1≠b):Inv X pins σ H' s':=by
 obtain ⟨h',g',d',t',o'⟩:=s'
 have e:o'=s.os:=ho
 subst e
 exact I.call (g':=g') (t':=t') (d':=d') u hok hg hch
end
abbrev XK:=Value→Option Addr→Hp→Prop
abbrev St:=List (Option V)
abbrev VK:=V→Hp→Prop
abbrev TE:=St→Hp→VK→Prop
abbrev TT:=St→Hp→(Bool→Hp→Prop)→Prop
abbrev TA:=St→Hp→(List V→Hp→Prop)→Prop
structure Ends where
 nx:St→Hp→Prop
 rt:VK
 bk:St→Hp→Prop:=fun _ _=>False
 ct:St→Hp→Prop:=fun _ _=>False
abbrev TS:=Ends→St→Hp→Prop
def EP (X:Cx) (pins:List (Addr × Obj)) (σ:St) (Q:VK) (u:Value) (s':Shared):Prop:=∃ v H',Inv X pins σ H' s'∧RelV v u∧Q v H'
def TP (X:Cx) (pins:List (Addr × Obj)) (σ:St) (Q:Bool→Hp→Prop) (b:Bool) (s':Shared):Prop:=∃ H',Inv X pins σ H' s'∧Q b H'
def AP (X:Cx) (pins:List (Addr × Obj)) (σ:St) (Q:List V→Hp→Prop) (us:List Value) (s':Shared):Prop:=∃ vs H',Inv X pins σ H' s'∧Vals vs us∧Q vs H'
def SP (X:Cx) (pins:List (Addr × Obj)) (D:Ends) (f:Flow) (s':Shared):Prop :=
 match f with
 | .next=>∃ σ' H',Inv X pins σ' H' s'∧D.nx σ' H'
 | .brk=>∃ σ' H',Inv X pins σ' H' s'∧D.bk σ' H'
 | .cont=>∃ σ' H',Inv X pins σ' H' s'∧D.ct σ' H'
 | .ret u=>∃ v σ' H',Inv X pins σ' H' s'∧RelV v u∧D.rt v H'
def PE (X:Cx) (e:Expr) (t:TE):Prop :=
 ∀ (pins:List (Addr × Obj)) (s:Shared) (σ:St) (H:Hp) (Q:VK),Inv X pins σ H s→t σ H Q→wpAny (model X.prog X.w) X.A (eval e X.env) (EP X pins σ Q) X.xe s
def PT (X:Cx) (e:Expr) (t:TT):Prop :=
 ∀ (pins:List (Addr × Obj)) (s:Shared) (σ:St) (H:Hp) (Q:Bool→Hp→Prop),Inv X pins σ H s→t σ H Q→wpAny (model X.prog X.w) X.A (isTrue e X.env (eval e X.env)) (TP X pins σ Q) X.xe s
def PW (X:Cx) (e:Expr) (t:TT):Prop :=
 ∀ (whole:Sem Value) (pins:List (Addr × Obj)) (s:Shared) (σ:St) (H:Hp) (Q:Bool→Hp→Prop),Inv X pins σ H s→t σ H Q→wpAny (model X.prog X.w) X.A (isTrue e X.env whole) (TP X pins σ Q) X.xe s
theorem PW.pt {X:Cx} {e:Expr} {t:TT} (h:PW X e t):PT X e t:=h _
def PA (X:Cx) (es:List Expr) (t:TA):Prop :=
 ∀ (pos:Pos) (pins:List (Addr × Obj)) (s:Shared) (σ:St) (H:Hp) (Q:List V→Hp→Prop),Inv X pins σ H s→t σ H Q→wpAny (model X.prog X.w) X.A (spliced (backTo pos (starEach es X.env))) (AP X pins σ Q) X.xe s
def PS (X:Cx) (st:Stmt) (t:TS):Prop :=
 ∀ (pins:List (Addr × Obj)) (s:Shared) (σ:St) (H:Hp) (D:Ends),Inv X pins σ H s→t D σ H→wpAny (model X.prog X.w) X.A (exec st X.env) (SP X pins D) X.xe s
def PSs (X:Cx) (st:List Stmt) (t:TS):Prop :=
 ∀ (pins:List (Addr × Obj)) (s:Shared) (σ:St) (H:Hp) (D:Ends),Inv X pins σ H s→t D σ H→wpAny (model X.prog X.w) X.A (execs st X.env) (SP X pins D) X.xe s
theorem thn {α:Type} {t:Sem α} {Q Q':α→Shared→Prop} {M:Model} {A:Around} {E:Value→Shared→Prop} {s:Shared} (h:wpAny M A t Q E s) (hQ:∀ a s,Q a s→Q' a s):wpAny M A t Q' E s:=wpAny_mono h hQ fun _ _ x=>x
end L2
namespace L2
open PySem PySem.Spec PyProof.Rows
section
variable {X:Cx}
theorem bin {a b:Expr} {ta tb:TE} (ha:PE X a ta) (hb:PE X b tb) {pins:List (Addr × Obj)} {s:Shared} {σ:St} {H:Hp} {R:V→V→Hp→Prop} (I:Inv X pins σ H s) (h:ta σ H fun x H1=>tb σ H1 fun y H2=>R x y H2)
  {α:Type} {Q:α→Shared→Prop} {f:Value→Value→Sem α}
  (hf:∀ v u s2 x y H2,Inv X pins σ H2 s2→RelV x v→RelV y u→R x y H2→wpAny (model X.prog X.w) X.A (f v u) Q X.xe s2) :
  wpAny (model X.prog X.w) X.A (eval a X.env) (fun v s₁=>wpAny (model X.prog X.w) X.A (eval b X.env) (fun u s₂=>wpAny (model X.prog X.w) X.A (f v u) Q X.xe s₂) X.xe s₁) X.xe s:=by
 refine thn (ha pins s σ H _ I h) fun v s1 ⟨x,H1,I1,r1,q1⟩=>?_
 refine thn (hb pins s1 σ H1 _ I1 q1) fun u s2 ⟨y,H2,I2,r2,q2⟩=>?_
 exact hf v u s2 x y H2 I2 r1 r2 q2
def tVar (i:Nat):TE:=fun σ H Q=>∃ v,σ[i]?=some (some v)∧Q v H
def tC (v:V):TE:=fun _ H Q=>Q v H
theorem ae2 {i:Nat} {x:Str} {pos:Pos} (hN:X.N[i]?=some x) (hv:Vis X.env.scope x) (hd:(x == ("__debug__":Str))=false:=by decide) (hcd:(x == ("__classdict__":Str))=false:=by decide):PE X (.Name x pos) (tVar i):=by
 intro pins s σ H Q I h
 obtain ⟨v,e,h⟩:=h
 obtain ⟨m,hn,hl⟩:=I.loc
 obtain ⟨u,r,l⟩:=hl i x v hN e hv
 have fin:EP X pins σ Q u s:=⟨v,H,I,r,h⟩
 rcases l with ⟨hk,hm⟩ | ⟨hk,c,hc,hcell⟩
 ·exact wpAny_Name (wpAny_loadName_local I.ok.kind hk hn hm fin) hd
 ·rcases hk with hk | hk
  ·exact wpAny_Name (wpAny_loadName_cell I.ok.kind hk hc hcell fin) hd
  ·exact wpAny_Name (wpAny_loadName_free I.ok.kind hk hc hcell fin hcd) hd
theorem amg {i j pos}:PE X (.Constant (.int i) j pos) (tC (.int i)):=fun _ _ _ H _ I h=>wpAny_Constant_int ⟨.int i,H,I.tok _,⟨_,rfl⟩,h⟩
theorem apj {b j pos}:PE X (.Constant (.bool b) j pos) (tC (.bl b)):=fun _ _ _ H _ I h=>Constant_bool ⟨.bl b,H,I,rfl,h⟩
theorem ao6 {x j pos}:PE X (.Constant (.str x) j pos) (tC (.str x)):=fun _ _ _ H _ I h=>Calls.Constant_str ⟨.str x,H,I.tok _,⟨_,rfl⟩,h⟩
def Gl (X:Cx) (x:Str):Prop:=X.env.kindOf x=some .globalImplicit
theorem akp {E:Value→Shared→Prop} {pins:List (Addr × Obj)} {s:Shared} {σ:St} {H:Hp} {x:Str} {u:Value} {pos:Pos} {Q:Value→Shared→Prop} (I:Inv X pins σ H s) (hg:Gl X x) (hm:X.mg x=some u) (h:Q u s)
  (hd:(x == ("__debug__":Str))=false:=by decide):wpAny (model X.prog X.w) X.A (eval (.Name x pos) X.env) Q E s :=
 Calls.Name_function_global I.ok.kind hg (Calls.loadGlobal_global (by rw [I.ok.glob]; exact I.mod.glob.keeps I.bk) hm h) hd
theorem afL {E:Value→Shared→Prop} {pins:List (Addr × Obj)} {s:Shared} {σ:St} {H:Hp} {x:Str} {u:Value} {pos:Pos} {Q:Value→Shared→Prop} (I:Inv X pins σ H s) (hg:Gl X x) (hm:X.mg x=none) (hv:bootBuiltins x=some u) (h:Q u s)
  (hn:x≠"__name__":=by decide) (hd:(x == ("__debug__":Str))=false:=by decide):wpAny (model X.prog X.w) X.A (eval (.Name x pos) X.env) Q E s:=by
 obtain ⟨mb,h1,h2⟩:=I.mod.blt
 exact Calls.Name_function_global I.ok.kind hg (Calls.loadGlobal_builtin (by rw [I.ok.glob]; exact I.mod.glob.keeps I.bk) hm (by rw [I.ok.blt]; exact h1.keeps I.bk) ((h2 x hn).trans hv) h) hd
variable {a b:Expr} {ta tb:TE} {pos:Pos}
variable {tA tB':TT} {rest:List Expr}
def tAnd (t u:TT):TT:=fun σ H Q=>t σ H fun c H1=>if c=true then u σ H1 Q else Q false H1
def tOr (t u:TT):TT:=fun σ H Q=>t σ H fun c H1=>if c=true then Q true H1 else u σ H1 Q
theorem amv (ha:PT X a tA):PW X (.BoolOp .And [a] pos) tA:=by
 intro wh pins s σ H Q I h
 refine isTrue_and (thn (ha pins s σ H Q I h) fun c s1 e=>?_)
 cases c with
 | true=>exact isTrue_and_nil e
 | false=>exact e
theorem aoQ (ha:PT X a tA):PW X (.BoolOp .Or [a] pos) tA:=by
 intro wh pins s σ H Q I h
 refine isTrue_or (thn (ha pins s σ H Q I h) fun c s1 e=>?_)
 cases c with
 | false=>exact isTrue_or_nil e
 | true=>exact e
theorem aoL (ha:PT X a tA) (hb:PW X (.BoolOp .And (b :: rest) pos) tB'):PW X (.BoolOp .And (a :: b :: rest) pos) (tAnd tA tB'):=by
 intro wh pins s σ H Q I h
 refine isTrue_and (thn (ha pins s σ H _ I h) fun c s1 ⟨H1,I1,q1⟩=>?_)
 cases c with
 | true=>exact hb wh pins s1 σ H1 Q I1 q1
 | false=>exact ⟨H1,I1,q1⟩
theorem app (ha:PT X a tA) (hb:PW X (.BoolOp .Or (b :: rest) pos) tB'):PW X (.BoolOp .Or (a :: b :: rest) pos) (tOr tA tB'):=by
 intro wh pins s σ H Q I h
 refine isTrue_or (thn (ha pins s σ H _ I h) fun c s1 ⟨H1,I1,q1⟩=>?_)
 cases c with
 | true=>exact ⟨H1,I1,q1⟩
 | false=>exact hb wh pins s1 σ H1 Q I1 q1
def apa (ta tb:TE):TE:=fun σ H Q=>ta σ H fun x H1=>∃ c,x=.bl c∧if c=true then tb σ H1 Q else Q (.bl false) H1
theorem ao3 {op} {t:TE} (h:PE X a t):PE X (.BoolOp op [a] pos) t:=fun pins s σ H Q I hw=>BoolOp_one (h pins s σ H Q I hw)
theorem aos (ha:PE X a ta) (hb:PE X (.BoolOp .And (b :: rest) pos) tb):PE X (.BoolOp .And (a :: b :: rest) pos) (apa ta tb):=by
 intro pins s σ H Q I h
 refine BoolOp_and (thn (ha pins s σ H _ I h) fun v s1 ⟨x,H1,I1,r1,q1⟩=>?_)
 obtain ⟨c,rfl,q1⟩:=q1
 cases r1
 refine wpAny_truthy_bool ?_
 cases c with
 | true=>exact hb pins s1 σ H1 Q I1 q1
 | false=>exact ⟨.bl false,H1,I1,rfl,q1⟩
end
end L2
namespace L2
open PySem PySem.Spec PyProof.Rows
def SqL (K:PySem.W.Frag) (H:Hp) (a:Addr) (xs:List V):Prop :=
 Rd H a (.lst xs) ∨
  ∃ (o:Obj) (its:Array Value) (n:Nat),K.lookup a=some o∧o.cls=.type "list"∧o.dict=none∧o.data=.seq its n∧its.size≤sizeLine∧Vals xs its.toList
def SqT (K:PySem.W.Frag) (H:Hp) (a:Addr) (xs:List V):Prop :=
 Rd H a (.tup xs) ∨
  ∃ (o:Obj) (its:Array Value) (n:Nat),K.lookup a=some o∧o.cls=.type "tuple"∧o.data=.seq its n∧its.size≤sizeLine∧Vals xs its.toList
def absV:Value→Option V
 | .none=>some .non
 | .bool b=>some (.bl b)
 | .int i _=>some (.int i)
 | .str x _=>some (.str x)
 | .bytes b _=>some (.byt b)
 | .float b _=>some (.flt b)
 | .ref a=>some (.ref a)
 | .type n=>some (.ty n)
 | _=>none
theorem RelV.abs {x:V} {u:Value} (r:RelV x u):absV u=some x:=by
 cases x with
 | non=>cases r; rfl
 | bl _=>cases r; rfl
 | int _=>obtain ⟨t,rfl⟩:=r; rfl
 | str _=>obtain ⟨t,rfl⟩:=r; rfl
 | byt _=>obtain ⟨t,rfl⟩:=r; rfl
 | flt _=>obtain ⟨t,rfl⟩:=r; rfl
 | ref _=>cases r; rfl
 | ty _=>cases r; rfl
theorem RelV.inj {x y:V} {u:Value} (r:RelV x u) (q:RelV y u):x=y:=Option.some.inj (r.abs.symm.trans q.abs)
theorem Vals.inj:∀ {xs ys:List V} {us:List Value},Vals xs us→Vals ys us→xs=ys
 | _,_,_,.nil,.nil=>rfl
 | _,_,_,.cons r t,.cons r' t'=>by rw [r.inj r',Vals.inj t t']
section
variable {X:Cx} {pins:List (Addr × Obj)} {σ:St} {H:Hp} {s:Shared} {a:Addr} {xs ys:List V}
theorem SqL.of {K:PySem.W.Frag} (h:H a=some (.lst xs)):SqL K H a xs:=.inl (.inl h)
theorem SqT.of {K:PySem.W.Frag} (h:H a=some (.tup xs)):SqT K H a xs:=.inl (.inl h)
theorem Inv.list (I:Inv X pins σ H s) (h:SqL X.K H a xs):∃ its:List Value,Vals xs its∧PlainL s.heap a its.toArray∧xs.length≤sizeLine:=by
 rcases h with h | ⟨o,its,n,hk,hc,hd,hs,hz,r⟩
 ·obtain ⟨z,its,n,r,e⟩:=h.ok I.hok
  exact ⟨its,r,⟨_,n,e,rfl,rfl,rfl⟩,z⟩
 ·refine ⟨its.toList,r,⟨o,n,I.kIn a o hk,hc,hd,by simpa using hs⟩,?_⟩
  have e:=r.length
  simp only [Array.length_toList] at e
  omega
theorem Inv.tuple (I:Inv X pins σ H s) (h:SqT X.K H a xs):∃ its:List Value,Vals xs its∧IsTup s.heap a its.toArray∧xs.length≤sizeLine:=by
 rcases h with h | ⟨o,its,n,hk,hc,hs,hz,r⟩
 ·obtain ⟨z,its,r,p⟩:=h.ok I.hok
  exact ⟨its,r,p,z⟩
 ·refine ⟨its.toList,r,⟨o,I.kIn a o hk,hc,n,by simpa using hs⟩,?_⟩
  have e:=r.length
  simp only [Array.length_toList] at e
  omega
theorem Inv.list_inj (I:Inv X pins σ H s) (h:SqL X.K H a xs) (h':SqL X.K H a ys):xs=ys:=by
 obtain ⟨its,r,⟨o,n,e,_,_,d⟩,_⟩:=I.list h
 obtain ⟨its',r',⟨o',n',e',_,_,d'⟩,_⟩:=I.list h'
 rw [e] at e'; cases e'
 rw [d] at d'
 injection d' with d1 _
 have:its=its':=by simpa using congrArg Array.toList d1
 subst this
 exact r.inj r'
theorem Inv.tuple_inj (I:Inv X pins σ H s) (h:SqT X.K H a xs) (h':SqT X.K H a ys):xs=ys:=by
 obtain ⟨its,r,⟨o,e,_,n,d⟩,_⟩:=I.tuple h
 obtain ⟨its',r',⟨o',e',_,n',d'⟩,_⟩:=I.tuple h'
 rw [e] at e'; cases e'
 rw [d] at d'
 injection d' with d1 _
 have:its=its':=by simpa using congrArg Array.toList d1
 subst this
 exact r.inj r'
end
abbrev Cx.wish (X:Cx) (E:Value→Shared→Prop):Cx:={ X with xe:=E }
abbrev Cx.nox (X:Cx):Cx:=X.wish fun _ _=>False
theorem Cx.Ok.wish {X:Cx} (ok:X.Ok) (E:Value→Shared→Prop):(X.wish E).Ok :=
 ⟨ok.mod,ok.kind,ok.glob,ok.blt,ok.above,ok.inj,ok.has,ok.cab,ok.hd,ok.frames,ok.stk,ok.exf,ok.bs,ok.bsz,ok.noex,ok.exfs,ok.funs,ok.frf⟩
theorem Cx.Ok.unwish {X:Cx} {E:Value→Shared→Prop} (ok:(X.wish E).Ok):X.Ok :=
 ⟨ok.mod,ok.kind,ok.glob,ok.blt,ok.above,ok.inj,ok.has,ok.cab,ok.hd,ok.frames,ok.stk,ok.exf,ok.bs,ok.bsz,ok.noex,ok.exfs,ok.funs,ok.frf⟩
section
variable {X:Cx} {pins:List (Addr × Obj)} {σ:St} {H:Hp} {s:Shared} {E:Value→Shared→Prop}
theorem Inv.wish (I:Inv X pins σ H s) (E:Value→Shared→Prop):Inv (X.wish E) pins σ H s:=⟨I.ok.wish E,I.os,I.bare,I.base,I.loc,I.cell,I.free,I.freeC,I.pin,I.hok,I.len⟩
theorem Inv.unwish (I:Inv (X.wish E) pins σ H s):Inv X pins σ H s:=⟨I.ok.unwish,I.os,I.bare,I.base,I.loc,I.cell,I.free,I.freeC,I.pin,I.hok,I.len⟩
theorem SP.unwish {D:Ends} {f:Flow} {s':Shared} (h:SP (X.wish E) pins D f s'):SP X pins D f s':=by
 cases f with
 | next=>obtain ⟨σ',H',I,q⟩:=h; exact ⟨σ',H',I.unwish,q⟩
 | brk=>obtain ⟨σ',H',I,q⟩:=h; exact ⟨σ',H',I.unwish,q⟩
 | cont=>obtain ⟨σ',H',I,q⟩:=h; exact ⟨σ',H',I.unwish,q⟩
 | ret u=>obtain ⟨v,σ',H',I,r,q⟩:=h; exact ⟨v,σ',H',I.unwish,r,q⟩
theorem PSs.nox {st:List Stmt} {t:TS} (h:PSs X.nox st t):PSs X st t:=fun pins s σ H D I hw =>
 wpAny_mono (h pins s σ H D (I.wish _) hw) (fun _ _ q=>q.unwish) fun _ _ z=>False.elim z
end
section
variable {X:Cx} {st:Stmt} {rest:List Stmt} {t u:TS} {e:Expr} {te:TE} {pos:Pos}
def apT:TS:=fun D σ H=>D.nx σ H
def tSeq (t u:TS):TS:=fun D σ H=>t { D with nx:=u D } σ H
theorem anc:PSs X [] apT:=fun _ _ σ H _ I h=>wpAny_execs_nil ⟨σ,H,I,h⟩
theorem alO (h1:PS X st t) (h2:PSs X rest u):PSs X (st :: rest) (tSeq t u):=by
 intro pins s σ H D I h
 refine wpAny_execs_cons (thn (h1 pins s σ H { D with nx:=u D } I h) fun f s1 q=>?_)
 cases f with
 | next =>
  obtain ⟨σ',H',I',q⟩:=q
  exact h2 pins s1 σ' H' D I' q
 | ret v=>exact q
 | brk=>exact q
 | cont=>exact q
theorem akB (h1:PS X st t):PSs X [st] t:=by
 intro pins s σ H D I h
 refine wpAny_execs_cons (thn (h1 pins s σ H D I h) fun f s1 q=>?_)
 cases f with
 | next=>exact wpAny_execs_nil q
 | ret v=>exact q
 | brk=>exact q
 | cont=>exact q
theorem Inv.quiet {pins:List (Addr × Obj)} {σ:St} {H:Hp} {s:Shared} (I:Inv X pins σ H s):interactive X.env=false:=by simp [interactive,I.ok.kind]
def apG (te:TE):TS:=fun D σ H=>te σ H fun _ H1=>D.nx σ H1
theorem ank (he:PE X e te) (hs:swapsWith e none pos.line X.env=pure false:=by rfl):PS X (.Expr e pos) (apG te):=by
 intro pins s σ H D I h
 exact wpAny_Expr_any (thn (he pins s σ H _ I h) fun v s1 ⟨x,H1,I1,r1,q1⟩=>⟨σ,H1,I1,q1⟩) I.quiet hs
def tRet (te:TE):TS:=fun D σ H=>te σ H D.rt
theorem ao0 (he:PE X e te):PS X (.Return (some e) pos) (tRet te):=by
 intro pins s σ H D I h
 exact wpAny_Return_some (thn (he pins s σ H _ I h) fun v s1 ⟨x,H1,I1,r1,q1⟩=>⟨x,σ,H1,I1,r1,q1⟩)
def tIfS (c:TT) (t u:TS):TS:=fun D σ H=>c σ H fun b H1=>if b=true then t D σ H1 else u D σ H1
theorem ao9 {c:Expr} {a b:List Stmt} {tc:TT} (hc:PT X c tc) (ha:PSs X a t) (hb:PSs X b u):PS X (.If c a b pos) (tIfS tc t u):=by
 intro pins s σ H D I h
 refine wpAny_If (thn (hc pins s σ H _ I h) fun d s1 ⟨H1,I1,q1⟩=>?_)
 cases d with
 | true=>exact ha pins s1 σ H1 D I1 q1
 | false=>exact hb pins s1 σ H1 D I1 q1
end
abbrev TG:=V→St→Hp→(St→Hp→Prop)→Prop
abbrev TGs:=List V→St→Hp→(St→Hp→Prop)→Prop
def PG (X:Cx) (target:Expr) (t:TG):Prop :=
 ∀ (pins:List (Addr × Obj)) (s:Shared) (σ:St) (H:Hp) (v:V) (u:Value) (Q:St→Hp→Prop),Inv X pins σ H s→RelV v u→t v σ H Q →
  wpAny (model X.prog X.w) X.A (assign target X.env u) (fun _ s'=>∃ σ' H',Inv X pins σ' H' s'∧Q σ' H') X.xe s
def PGs (X:Cx) (ts:List Expr) (t:TGs):Prop :=
 ∀ (pins:List (Addr × Obj)) (s:Shared) (σ:St) (H:Hp) (vs:List V) (us:List Value) (Q:St→Hp→Prop),Inv X pins σ H s→Vals vs us→t vs σ H Q →
  wpAny (model X.prog X.w) X.A (assignInOrder ((assignEach ts X.env).map (·.2)) us) (fun _ s'=>∃ σ' H',Inv X pins σ' H' s'∧Q σ' H') X.xe s
abbrev TSet:=V→V→V→Hp→(Hp→Prop)→Prop
def PSet (X:Cx) (t:TSet):Prop :=
 ∀ (pins:List (Addr × Obj)) (s:Shared) (σ:St) (H:Hp) (o i v:V) (ov iv u:Value) (Q:Hp→Prop),Inv X pins σ H s→RelV o ov→RelV i iv→RelV v u→t o i v H Q →
  wpAny (model X.prog X.w) X.A (setItem ov iv u) (fun _ s'=>∃ H',Inv X pins σ H' s'∧Q H') X.xe s
abbrev TIp:=V→V→Hp→VK→Prop
def PIp (X:Cx) (op:Operator) (t:TIp):Prop :=
 ∀ (pins:List (Addr × Obj)) (s:Shared) (σ:St) (H:Hp) (x y:V) (v u:Value) (Q:VK),Inv X pins σ H s→RelV x v→RelV y u→t x y H Q →
  wpAny (model X.prog X.w) X.A (inplaceOp op v u) (EP X pins σ Q) X.xe s
section
variable {X:Cx} {pos:Pos}
def anA (i:Nat):TG:=fun v σ H Q=>Q (σ.set i (some v)) H
theorem aj6 {i:Nat} {x:Str} (hN:X.N.Nodup) (hi:X.N[i]?=some x) (hx:Loc X.env.scope x) (hf:X.fn x=true∨X.env.scope.names.lookup x=some .local:=by first | exact .inl rfl | exact .inr rfl | assumption):PG X (.Name x pos) (anA i):=by
 intro pins s σ H v u Q I r h
 exact wpAny_assign_Name (adw I hN hi hx r (fun s' I'=>⟨_,H,I',h⟩) hf)
def gNil:TGs:=fun vs σ H Q=>vs=[]∧Q σ H
def apv (t:TG) (u:TGs):TGs:=fun vs σ H Q=>∃ v r,vs=v :: r∧t v σ H fun σ' H'=>u r σ' H' Q
theorem anE:PGs X [] gNil:=by
 intro pins s σ H vs us Q I r h
 obtain ⟨e,h⟩:=h
 subst e
 cases r
 exact assignInOrder_nil ⟨σ,H,I,h⟩
theorem akN {e:Expr} {es:List Expr} {t:TG} {u:TGs} (h1:PG X e t) (h2:PGs X es u)
  (hs:(assignEach (e :: es) X.env).map (·.2)=assign e X.env :: (assignEach es X.env).map (·.2):=by rfl):PGs X (e :: es) (apv t u):=by
 intro pins s σ H vs us Q I r h
 obtain ⟨v,vr,e1,h⟩:=h
 subst e1
 cases r with
 | cons r rr =>
  rw [hs]
  refine assignInOrder_cons (thn (h1 pins s σ H _ _ _ I r h) fun _ s1 ⟨σ1,H1,I1,q1⟩=>?_)
  exact h2 pins s1 σ1 H1 _ _ Q I1 rr q1
def gTup (K:PySem.W.Frag) (n:Nat) (t:TGs):TG:=fun v σ H Q=>∃ a xs,v=.ref a∧SqT K H a xs∧xs.length=n∧t xs σ H Q
theorem aoJ {es:List Expr} {k:Nat} {t:TGs} {n:Nat} (hc:X.calm=true) (h:PGs X es t)
  (hn:(assignEach es X.env).length=n:=by rfl) (hst:(assignEach es X.env).findIdx? (·.1)=none:=by rfl):PG X (.Tuple es k pos) (gTup X.K n t):=by
 intro pins s σ H v u Q I r hw
 obtain ⟨a,xs,e1,hq,hl,hw⟩:=hw
 subst e1
 cases r
 obtain ⟨its,rv,ht,hz⟩:=I.tuple hq
 refine assign_Tuple_tuple (I.ok.hd hc) ht (by simp [hn,← hl,rv.length]) hst fun h' hx=>?_
 have I1:Inv X pins σ H { s with heap:=h' }:=I.kept (t':=s.toks) fun b o e=>hx b o (Nat.ne_of_lt (Heap.lt_size e)) e
 exact h pins _ σ H xs _ Q I1 (by simpa using rv) hw
def gSub (to ti:TE) (t:TSet):TG:=fun v σ H Q=>to σ H fun o H1=>ti σ H1 fun i H2=>t o i v H2 fun H3=>Q σ H3
theorem amc {o i:Expr} {to ti:TE} {t:TSet} (ho:PE X o to) (hi:PE X i ti) (hs:PSet X t)
  (ha:∀ v,assign (.Subscript o i pos) X.env v=(do
   let ov ← holding [v] (eval o X.env)
   let iv ← holding [v,ov] (eval i X.env)
   standAt pos
   holding [v,ov,iv] (setItem ov iv v)
   release [v,ov,iv] []):=by intro _; rfl):PG X (.Subscript o i pos) (gSub to ti t):=by
 intro pins s σ H v u Q I r h
 rw [ha]
 refine wpAny_bind (wpAny_holding (thn (ho pins s σ H _ I h) fun ov s1 ⟨x,H1,I1,r1,q1⟩=>?_))
 refine wpAny_bind (wpAny_holding (thn (hi pins s1 σ H1 _ I1 q1) fun iv s2 ⟨y,H2,I2,r2,q2⟩=>?_))
 refine wpAny_bind (wpAny_standAt (wpAny_bind (wpAny_holding (thn (hs pins s2 σ H2 x y v ov iv u _ I2 r1 r2 r q2) fun _ s3 ⟨H3,I3,q3⟩=>?_))))
 exact wpAny_release ⟨σ,H3,I3,q3⟩
def tAsg (te:TE) (g:TG):TS:=fun D σ H=>te σ H fun x H1=>g x σ H1 D.nx
theorem al9 {tg e:Expr} {te:TE} {g:TG} (he:PE X e te) (hg:PG X tg g) (hs:swapsWithSole [tg] e pos.line X.env=pure false:=by rfl) (hw:swappedStores [tg] e X.env=pure none:=by rfl)
  (h1:(assignEach [tg] X.env).map (·.2)=[assign tg X.env]:=by rfl):PS X (.Assign [tg] e pos) (tAsg te g):=by
 intro pins s σ H D I h
 refine wpAny_Assign_stores (thn (he pins s σ H _ I h) fun v s1 ⟨x,H1,I1,r1,q1⟩=>?_) hs hw
 rw [h1]
 exact thn (hg pins s1 σ H1 x v _ I1 r1 q1) fun _ s2 q=>q
theorem aob {i:Nat} {x:Str} {e:Expr} {te:TE} {pos':Pos} (hN:X.N.Nodup) (hi:X.N[i]?=some x) (hx:Loc X.env.scope x) (he:PE X e te) (hs:swapsWith e (some (.Name x pos')) pos.line X.env=pure false:=by rfl) (hf:X.fn x=true∨X.env.scope.names.lookup x=some .local:=by first | exact .inl rfl | exact .inr rfl | assumption) :
  PS X (.Assign [.Name x pos'] e pos) (tAsg te (anA i)):=by
 intro pins s σ H D I h
 refine wpAny_Assign_Name (thn (he pins s σ H _ I h) fun v s1 ⟨y,H1,I1,r1,q1⟩=>?_) hs
 exact adw I1 hN hi hx r1 (fun s2 I2=>⟨_,H1,I2,q1⟩) hf
def tPar (i j:Nat) (ta:TA):TS:=fun D σ H=>ta σ H fun vs H1=>∃ v w,vs=[v,w]∧D.nx ((σ.set i (some v)).set j (some w)) H1
theorem aoW {i j:Nat} {x y:Str} {a b:Expr} {ta:TA} {px py pt:Pos} {kt k2 pt2} (hc:X.calm=true) (hN:X.N.Nodup) (hi:X.N[i]?=some x) (hj:X.N[j]?=some y) (hij:i≠j)
  (hx:X.env.scope.names.lookup x=some .local) (hy:X.env.scope.names.lookup y=some .local) (ha:PA X [a,b] ta)
  (hw:swappedStores [.Tuple [.Name x px,.Name y py] kt pt] (.Tuple [a,b] k2 pt2) X.env=pure (some [x,y]))
  (hs:swapsWithSole [.Tuple [.Name x px,.Name y py] kt pt] (.Tuple [a,b] k2 pt2) pos.line X.env=pure false:=by rfl) :
  PS X (.Assign [.Tuple [.Name x px,.Name y py] kt pt] (.Tuple [a,b] k2 pt2) pos) (tPar i j ta):=by
 intro pins s σ H D I h
 rw [exec_Assign_arm]
 refine wpAny_bind (wpAny_standAt ?_)
 rw [hs]
 refine wpAny_bind (wpAny_pure ?_)
 rw [if_neg (by decide)]
 refine wpAny_bind (Tuple_ (thn (ha _ pins s σ H _ I h) fun us s1 ⟨vs,H1,I1,r1,q1⟩=>?_))
 obtain ⟨v,w,e1,q1⟩:=q1
 subst e1
 obtain ⟨u1,u2,rfl,rv,rw'⟩:∃ u1 u2,us=[u1,u2]∧RelV v u1∧RelV w u2:=by
  cases r1 with
  | cons p q =>
   cases q with
   | cons p' q' =>
    cases q'
    exact ⟨_,_,rfl,p,p'⟩
 refine wpAny_newObj_type ?_ (by show 2≤sizeLine; decide)
 have I2:Inv X pins σ H1 { s1 with heap:=s1.heap.push { cls:=.type "tuple",data:=.seq [u1,u2].toArray } }:=I1.kept (t':=s1.toks) fun b o e=>Heap.get?_push_of_some _ e
 rw [hw]
 refine wpAny_bind (wpAny_pure ?_)
 show wpAny (model X.prog X.w) X.A (do rule "assign.swapped-stores"; let items ← unpackItems (.ref s1.heap.objs.size) 2 none; assignInOrder [fun v=>bindName X.env y v,fun v=>bindName X.env x v] items.reverse; pure Flow.next) _ _ _
 refine wpAny_bind (wpAny_rule (wpAny_bind (unpackItems_tuple (items:=#[u1,u2]) (I.ok.hd hc) (IsTup.new s1.heap _) fun h' hx'=>?_)))
 have I3:=I2.kept (h':=h') (t':=s1.toks) fun b o e=>hx' b o (Nat.ne_of_lt (Heap.lt_size e)) e
 show wpAny _ _ (assignInOrder [fun v=>bindName X.env y v,fun v=>bindName X.env x v] [u2,u1] >>= fun _=>pure Flow.next) _ _ _
 refine wpAny_bind (assignInOrder_cons (wpAny_bindName (adw I3 hN hj (.inl hy) rw' (fun s2 I4=>?_) (.inr hy))))
 refine assignInOrder_cons (wpAny_bindName (adw I4 hN hi (.inl hx) rv (fun s3 I5=>assignInOrder_nil (wpAny_pure ?_)) (.inr hx)))
 rw [List.set_comm _ _ (Ne.symm hij)] at I5
 exact ⟨_,H1,I5,q1⟩
def tAug (i:Nat) (te:TE) (ti:TIp):TS:=fun D σ H=>∃ x,σ[i]?=some (some x)∧te σ H fun y H1=>ti x y H1 fun z H2=>D.nx (σ.set i (some z)) H2
theorem amf {i:Nat} {x:Str} {e:Expr} {te:TE} {op:Operator} {ti:TIp} {pos':Pos} (hN:X.N.Nodup) (hi:X.N[i]?=some x) (hx:Loc X.env.scope x) (he:PE X e te) (ho:PIp X op ti) (hf:X.fn x=true∨X.env.scope.names.lookup x=some .local:=by first | exact .inl rfl | exact .inr rfl | assumption) :
  PS X (.AugAssign (.Name x pos') op e pos) (tAug i te ti):=by
 intro pins s σ H D I h
 obtain ⟨v,e1,h⟩:=h
 obtain ⟨m,hn,hl⟩:=I.loc
 have vis:Vis X.env.scope x:=by rcases hx with k | k; exact .inl k; exact .inr (.inl k)
 obtain ⟨u,r,l⟩:=hl i x v hi e1 vis
 refine wpAny_AugAssign_Name ?_
 have go:wpAny (model X.prog X.w) X.A (eval e X.env) (fun w s₂=>wpAny (model X.prog X.w) X.A (inplaceOp op u w) (fun r s₃=>wpAny (model X.prog X.w) X.A (storeName X.env x r) (fun _=>SP X pins D .next) X.xe s₃) X.xe s₂) X.xe s:=by
  refine thn (he pins s σ H _ I h) fun w s1 ⟨y,H1,I1,r1,q1⟩=>?_
  refine thn (ho pins s1 σ H1 v y u w _ I1 r r1 q1) fun z s2 ⟨zv,H2,I2,r2,q2⟩=>?_
  exact adw I2 hN hi hx r2 (fun s3 I3=>⟨_,H2,I3,q2⟩) hf
 rcases l with ⟨hk,hm⟩ | ⟨hk,c,hc,hcell⟩
 ·exact wpAny_loadName_local I.ok.kind hk hn hm go
 ·rcases hk with hk | hk
  ·exact wpAny_loadName_cell I.ok.kind hk hc hcell go
  ·rcases hx with k | k
   ·have:X.env.scope.names.lookup x=some .free:=hk
    rw [k] at this; cases this
   ·have:X.env.scope.names.lookup x=some .free:=hk
    rw [k] at this; cases this
def ipI (f:Int→Int→Int):TIp:=fun x y H Q=>∃ i j,x=.int i∧y=.int j∧Q (.int (f i j)) H
theorem anL:PIp X .Add (ipI fun i j=>i+j):=by
 intro pins s σ H x y v u Q I r1 r2 h
 obtain ⟨i,j,e1,e2,q⟩:=h
 subst e1; subst e2
 obtain ⟨t,rfl⟩:=r1
 obtain ⟨t',rfl⟩:=r2
 exact iadd_int ⟨.int _,H,I.tok _,⟨_,rfl⟩,q⟩
end
section
variable {X:Cx} {pos:Pos}
def aoE (c:TT) (tb:TS):TS:=fun D σ H=>∃ W:Nat→St→Hp→Prop,(∃ m,W m σ H)∧∀ m σ H,W m σ H →
 c σ H fun b H1=>if b=true then ∃ N:St→Hp→Prop,(∀ σ' H',N σ' H'→∃ m',m' < m∧W m' σ' H')∧tb { D with nx:=N,ct:=N,bk:=D.nx } σ H1 else D.nx σ H1
theorem alA {c:Expr} {body:List Stmt} {tc:TT} {tb:TS} (hp:PassesOwn (model X.prog X.w) X.A X.env X.xe) (hc:PT X c tc) (hb:PSs X body tb):PS X (.While c body [] pos) (aoE tc tb):=by
 intro pins s σ H D I h
 obtain ⟨W,⟨m0,w0⟩,turn⟩:=h
 refine wpAny_While (codeAny_whileLoop (fun n s'=>∃ σ' H',Inv X pins σ' H' s'∧W n σ' H') ?_ m0 ⟨σ,H,I,w0⟩)
 rintro n s1 ⟨σ1,H1,I1,w1⟩
 refine wpAny_passesOwn hp (thn (hc pins s1 σ1 H1 _ I1 (turn n σ1 H1 w1)) fun b s2 ⟨H2,I2,q2⟩=>?_)
 cases b with
 | true =>
  obtain ⟨N,hN,q2⟩:=q2
  rw [if_pos rfl]
  refine wpAny_passesOwn hp (thn (hb pins s2 σ1 H2 _ I2 q2) fun f s3 q3=>?_)
  cases f with
  | next =>
   obtain ⟨σ3,H3,I3,n3⟩:=q3
   obtain ⟨m',hm,w3⟩:=hN σ3 H3 n3
   exact ⟨m',hm,σ3,H3,I3,w3⟩
  | cont =>
   obtain ⟨σ3,H3,I3,n3⟩:=q3
   obtain ⟨m',hm,w3⟩:=hN σ3 H3 n3
   exact ⟨m',hm,σ3,H3,I3,w3⟩
  | brk=>exact q3
  | ret v=>exact q3
 | false =>
  rw [if_neg Bool.false_ne_true]
  exact wpAny_execs_nil ⟨σ1,H2,I2,q2⟩
end
structure It where
 go:Nat→Hp→Prop
 yld:Nat→Hp→V→Hp→Prop
 stop:Nat→Hp→Prop
def FpOk (X:Cx) (pins:List (Addr × Obj)) (H:Hp) (b:Addr):Prop :=
 H b=none∧b≠X.env.locals∧b ∉ X.fs∧(b∈X.ex∨X.s₀.heap.objs.size≤b)∧(∀ x c,X.env.cells.lookup x=some c→c≠b)∧∀ p∈X.pn++pins,p.1≠b
theorem Inv.fpOk {X:Cx} {pins:List (Addr × Obj)} {σ:St} {H H':Hp} {s:Shared} {b:Addr} (I:Inv X pins σ H s) (hb:s.heap.objs.size≤b) (hn:H' b=none):FpOk X pins H' b:=by
 refine ⟨hn,Nat.ne_of_gt (Nat.lt_of_lt_of_le I.lt hb),I.nofs hb,.inr (Nat.le_trans I.sz hb),fun x c e z=>?_,fun p hp z=>?_⟩
 ·obtain ⟨v,q⟩:=I.cell x c e
  exact absurd (Nat.lt_of_lt_of_le q.lt (by rw [z]; exact hb)) (Nat.lt_irrefl _)
 ·exact absurd (Nat.lt_of_lt_of_le (Heap.lt_size (I.pin p hp).1) (by rw [z]; exact hb)) (Nat.lt_irrefl _)
structure Turn (P:Program) (w:World) (K:PySem.W.Frag) (tg:Expr) (J:It) (fp:List Addr) (it:Addr) (tn:Nat→Heap→Prop):Prop where
 mem:it∈fp
 obj:∀ i h,tn i h→∀ b∈fp,∃ o,h.get? b=some o∧∀ v,o.data≠.cell v
 keep:∀ i h h',tn i h→(∀ b∈fp,∀ o,h.get? b=some o→h'.get? b=some o)→tn i h'
 item:∀ (X:Cx),X.prog=P→X.w=w→X.K=K→X.calm=true→∀ (i:Nat) (pins:List (Addr × Obj)) (s:Shared) (σ:St) (H:Hp) (E:Value→Shared→Prop),Inv X pins σ H s→(∀ b∈fp,FpOk X pins H b)→tn i s.heap→J.go i H →
  wpAny (model P w) X.A (pyNext (.ref it)) (fun r s1=>∃ u,r=some u ∧
   wpAny (model P w) X.A (letOwnedTupleGo tg (.ref it) u) (fun _ s2=>∃ x H',Inv X pins σ H' s2∧RelV x u∧J.yld i H x H'∧tn (i+1) s2.heap∧∀ b∈fp,H' b=none) E s1) E s
 done:∀ (X:Cx),X.prog=P→X.w=w→X.K=K→X.calm=true→∀ (i:Nat) (pins:List (Addr × Obj)) (s:Shared) (σ:St) (H:Hp) (E:Value→Shared→Prop),Inv X pins σ H s→(∀ b∈fp,FpOk X pins H b)→tn i s.heap→J.stop i H →
  wpAny (model P w) X.A (pyNext (.ref it)) (fun r s1=>r=none∧Inv X pins σ H s1) E s
 self:∀ (A:Around) (i:Nat) (s:Shared) (Q:Value→Shared→Prop) (E:Value→Shared→Prop),tn i s.heap→Q (.ref it) s→wpAny (model P w) A (pyIter (.ref it)) Q E s
abbrev TI:=St→Hp→(It→Hp→Prop)→Prop
def PIE (X:Cx) (pins:List (Addr × Obj)) (σ:St) (tg:Expr) (R:It→Hp→Prop) (itv:Value) (s2:Shared):Prop :=
 ∃ (it:Addr) (fp:List Addr) (tn:Nat→Heap→Prop) (J:It) (H':Hp),itv=.ref it∧Inv X pins σ H' s2∧Turn X.prog X.w X.K tg J fp it tn∧tn 0 s2.heap∧(∀ b∈fp,FpOk X pins H' b)∧R J H'
def PI (X:Cx) (tg iter:Expr) (wi:TI):Prop :=
 ∀ (pins:List (Addr × Obj)) (s:Shared) (σ:St) (H:Hp) (R:It→Hp→Prop),Inv X pins σ H s→wi σ H R →
  wpAny (model X.prog X.w) X.A (eval iter X.env) (fun v s1=>wpAny (model X.prog X.w) X.A (pyIter v) (PIE X pins σ tg R) X.xe s1) X.xe s
theorem amz {M : Model} {A : Around} {E : Value → Shared → Prop} {s : Shared} {tg : Expr} {it : Addr} {u : Value} {o : Obj} {n : String} {vs : Array Value} {Q : Unit → Shared → Prop} (ho : s.heap.get? it = some o) (hc : o.cls = .type n) (hd : o.data = .fields vs)
    (hn : ["enumerate", "zip", "dict_itemiterator", "dict_reverseitemiterator", "odict_iterator", "itertools.zip_longest", "itertools.pairwise"].contains n = false) (hQ : Q () s) : wpAny M A (letOwnedTupleGo tg (.ref it) u) Q E s := by
  unfold letOwnedTupleGo
  cases tg <;> first
    | exact wpAny_pure hQ
    | (cases u <;> first
        | exact wpAny_pure hQ
        | (refine wpAny_bind (wpAny_load ho ?_)
           rw [hc, hd]
           show wpAny M A (if (["enumerate", "zip", "dict_itemiterator", "dict_reverseitemiterator", "odict_iterator", "itertools.zip_longest", "itertools.pairwise"].contains n && vs[0]? == some (rawInt _)) = true then _ else _) Q E s
           rw [if_neg (by intro h; rw [hn, Bool.false_and] at h; cases h)]
           exact wpAny_pure hQ))
def Itl (K:PySem.W.Frag) (a:Addr):It :=
 ⟨fun i H=>∃ xs x,SqL K H a xs∧xs[i]?=some x,fun i H x H'=>H'=H∧∀ xs,SqL K H a xs→xs[i]?=some x,fun i H=>∃ xs,SqL K H a xs∧xs.length≤i⟩
def Itt (K:PySem.W.Frag) (a:Addr):It :=
 ⟨fun i H=>∃ xs x,SqT K H a xs∧xs[i]?=some x,fun i H x H'=>H'=H∧∀ xs,SqT K H a xs→xs[i]?=some x,fun i H=>∃ xs,SqT K H a xs∧xs.length≤i⟩
def Itr (lo:Int) (n:Nat):It:=⟨fun i _=>i < n,fun i H x H'=>H'=H∧x=.int (lo+i),fun i _=>n≤i⟩
theorem ajW {P:Program} {w:World} {K:PySem.W.Frag} {tg:Expr} (a it:Addr):Turn P w K tg (Itl K a) [it] it (fun i h=>h.IsListIter it a i) where
 mem:=by simp
 obj:=fun i h st b hb=>by
  have e:b=it:=by simpa using hb
  subst e
  obtain ⟨o,e,c,d⟩:=st
  exact ⟨o,e,fun v z=>by rw [d] at z; cases z⟩
 keep:=fun i h h' st k=>st.at fun o e=>k it (by simp) o e
 item:=by
  intro X hP hw hK hc i pins s σ H E I hf st hg
  subst hP hw hK
  obtain ⟨xs,x,hq,hx⟩:=hg
  obtain ⟨its,rv,p,hz⟩:=I.list hq
  obtain ⟨u,hu,ru⟩:=rv.get hx
  obtain ⟨f0,f1,f2,f3,f4,f5⟩:=hf it (by simp)
  refine wpAny_pyNext_list_item st p.isList (x:=u) (by simpa using hu) fun h' st' sb=>?_
  have I1:Inv X pins σ H { s with heap:=h' }:=I.turned (t':=s.toks) (fun b o hb e=>(sb.2 b hb).trans e) f0 f1 f3 f4 f5
  obtain ⟨o,e,c,d⟩:=id st'
  exact ⟨u,rfl,amz (s:={ s with heap:=h' }) e c d (by decide) ⟨x,H,I1,ru,⟨rfl,fun ys hy=>by rw [I.list_inj hy hq]; exact hx⟩,st',fun b hb=>(hf b hb).1⟩⟩
 done:=by
  intro X hP hw hK hc i pins s σ H E I hf st hg
  subst hP hw hK
  obtain ⟨xs,hq,hx⟩:=hg
  obtain ⟨its,rv,p,hz⟩:=I.list hq
  obtain ⟨f0,f1,f2,f3,f4,f5⟩:=hf it (by simp)
  have hl:=rv.length
  exact wpAny_pyNext_list_end (I.ok.hd hc) st p.isList (by simp; omega) fun h' eb=>⟨rfl,I.turned (t':=s.toks) (fun b o hb e=>eb b o hb e) f0 f1 f3 f4 f5⟩
 self:=fun _ _ _ _ _ st h=>wpAny_pyIter_listiter st h
theorem aja {P:Program} {w:World} {K:PySem.W.Frag} {tg:Expr} (a it:Addr):Turn P w K tg (Itt K a) [it] it (fun i h=>h.IsTupleIter it a i) where
 mem:=by simp
 obj:=fun i h st b hb=>by
  have e:b=it:=by simpa using hb
  subst e
  obtain ⟨o,e,c,d⟩:=st
  exact ⟨o,e,fun v z=>by rw [d] at z; cases z⟩
 keep:=fun i h h' st k=>st.at fun o e=>k it (by simp) o e
 item:=by
  intro X hP hw hK hc i pins s σ H E I hf st hg
  subst hP hw hK
  obtain ⟨xs,x,hq,hx⟩:=hg
  obtain ⟨its,rv,p,hz⟩:=I.tuple hq
  obtain ⟨u,hu,ru⟩:=rv.get hx
  obtain ⟨f0,f1,f2,f3,f4,f5⟩:=hf it (by simp)
  refine wpAny_pyNext_tuple_item st (show s.heap.IsTuple a its.toArray from p) (x:=u) (by simpa using hu) fun h' st' sb=>?_
  have I1:Inv X pins σ H { s with heap:=h' }:=I.turned (t':=s.toks) (fun b o hb e=>(sb.2 b hb).trans e) f0 f1 f3 f4 f5
  obtain ⟨o,e,c,d⟩:=id st'
  exact ⟨u,rfl,amz (s:={ s with heap:=h' }) e c d (by decide) ⟨x,H,I1,ru,⟨rfl,fun ys hy=>by rw [I.tuple_inj hy hq]; exact hx⟩,st',fun b hb=>(hf b hb).1⟩⟩
 done:=by
  intro X hP hw hK hc i pins s σ H E I hf st hg
  subst hP hw hK
  obtain ⟨xs,hq,hx⟩:=hg
  obtain ⟨its,rv,p,hz⟩:=I.tuple hq
  obtain ⟨f0,f1,f2,f3,f4,f5⟩:=hf it (by simp)
  have hl:=rv.length
  exact wpAny_pyNext_tuple_end (I.ok.hd hc) st (show s.heap.IsTuple a its.toArray from p) (by simp; omega) fun h' eb=>⟨rfl,I.turned (t':=s.toks) (fun b o hb e=>eb b o hb e) f0 f1 f3 f4 f5⟩
 self:=fun _ _ _ _ _ st h=>wpAny_pyIter_tupleiter st h
theorem ai6 {P:Program} {w:World} {K:PySem.W.Frag} {tg:Expr} (it:Addr) (lo:Int) (n:Nat):Turn P w K tg (Itr lo n) [it] it (fun i h=>IsRangeIter h it (lo+(i:Nat)*1) ((n:Int) - (i:Nat)) 1) where
 mem:=by simp
 obj:=fun i h st b hb=>by
  have e:b=it:=by simpa using hb
  subst e
  exact ⟨_,st,fun v z=>by
   have z':Data.fields _=Data.cell v:=z
   cases z'⟩
 keep:=fun i h h' st k=>k it (by simp) _ st
 item:=by
  intro X hP hw hK hc i pins s σ H E I hf st hg
  subst hP hw hK
  obtain ⟨f0,f1,f2,f3,f4,f5⟩:=hf it (by simp)
  have W:=Walks.range (prog:=X.prog) (w:=X.w) (I.ok.hd hc) it lo 1 n
  refine W.item i s _ _ hg st fun v h' tk hv st' kk=>?_
  obtain ⟨t,rfl⟩:=hv
  have I1:Inv X pins σ H { s with heap:=h',toks:=tk }:=I.turned (fun b o hb e=>kk b o (by simpa using hb) e) f0 f1 f3 f4 f5
  refine ⟨_,rfl,amz (s:={ s with heap:=h',toks:=tk }) (n:="range_iterator") st' rfl rfl (by decide) ⟨.int (lo+i),H,I1,⟨t,?_⟩,⟨rfl,rfl⟩,st',fun b hb=>(hf b hb).1⟩⟩
  rw [Int.mul_one]
 done:=by
  intro X hP hw hK hc i pins s σ H E I hf st hg
  subst hP hw hK
  obtain ⟨f0,f1,f2,f3,f4,f5⟩:=hf it (by simp)
  exact wpAny_pyNext_range_end (I.ok.hd hc) st (by have:n≤i:=hg; omega) fun h' eb=>⟨rfl,I.turned (t':=s.toks) (fun b o hb e=>eb b o hb e) f0 f1 f3 f4 f5⟩
 self:=fun _ _ _ _ _ st h=>wpAny_pyIter_rangeiter st h
end L2
namespace L2
open PySem PySem.Spec PyProof.Rows
section
variable {X:Cx} {tg:Expr}
theorem ah6 {pins:List (Addr × Obj)} {σ:St} {H:Hp} {s:Shared} {R:It→Hp→Prop} {E:Value→Shared→Prop} {lo hi:Int} {t u v:Tok} {tk:Nat} (I:Inv X pins σ H s) (h1:-(2 ^ 62)≤lo) (h2:lo < 2 ^ 62) (h3:-(2 ^ 62)≤hi) (h4:hi < 2 ^ 62)
  (q:R (Itr lo (hi - lo).toNat) H):wpAny (model X.prog X.w) X.A (pyIter (.ref s.heap.objs.size)) (PIE X pins σ tg R) E { s with heap:=s.heap.push { cls:=.type "range",data:=.fields #[.int lo t,.int hi u,.int 1 v] },toks:=tk }:=by
 refine wpAny_pyIter_range (IsRange.new ..) (small_one h1 h2 h3 h4) ?_
 have I1:Inv X pins σ H { s with heap:=s.heap.push { cls:=.type "range",data:=.fields #[.int lo t,.int hi u,.int 1 v] },toks:=tk }:=I.kept fun b o e=>Heap.get?_push_of_some _ e
 refine ⟨(s.heap.push { cls:=.type "range",data:=.fields #[.int lo t,.int hi u,.int 1 v] }).objs.size,[(s.heap.push { cls:=.type "range",data:=.fields #[.int lo t,.int hi u,.int 1 v] }).objs.size],_,_,H,rfl,
  I1.kept (t':=tk) fun b o e=>Heap.get?_push_of_some _ e,ai6 _ lo (hi - lo).toNat,?_,fun b hb=>?_,q⟩
 ·have e1:lo+((0:Nat):Int)*1=lo:=by simp
  have e2:(((hi - lo).toNat:Nat):Int) - ((0:Nat):Int)=Builtin.Range.rangeSize lo hi 1:=by rw [rangeSize_one]; split <;> omega
  show IsRangeIter _ _ (lo+((0:Nat):Int)*1) ((((hi - lo).toNat:Nat):Int) - ((0:Nat):Int)) 1
  rw [e1,e2]
  exact Heap.get?_push_size _ rfl
 ·have e:b=(s.heap.push { cls:=.type "range",data:=.fields #[.int lo t,.int hi u,.int 1 v] }).objs.size:=by simpa using hb
  subst e
  exact I1.fpOk (Nat.le_refl _) (I1.hok.fresh (Nat.le_refl _))
def apC (ta:TA):TI:=fun σ H R=>ta σ H fun vs H1=>∃ j:Int,vs=[.int j]∧-(2 ^ 62)≤j∧j < 2 ^ 62∧R (Itr 0 j.toNat) H1
def aph (ta:TA):TI:=fun σ H R=>ta σ H fun vs H1=>∃ i j:Int,vs=[.int i,.int j]∧(-(2 ^ 62)≤i∧i < 2 ^ 62∧-(2 ^ 62)≤j∧j < 2 ^ 62)∧R (Itr i (j - i).toNat) H1
theorem akm {a:Expr} {ta:TA} {p pos:Pos} (hg:Gl X "range") (hm:X.mg "range"=none) (ha:PA X [a] ta) (hs:starEach [a] X.env=[(false,eval a X.env)]:=by rfl):PI X tg (.Call (.Name "range" p) [a] [] pos) (apC ta):=by
 intro pins s σ H R I h
 refine Call_ (afL I hg hm boot_range (PyProof.Rows.callWith_type1 (thn (ha pos pins s σ H _ I h) fun us s1 ⟨vs,H1,I1,r1,q1⟩=>?_) hs rfl))
 obtain ⟨j,e,q1,q2,q⟩:=q1
 subst e
 cases r1 with
 | cons r rr =>
  cases rr
  obtain ⟨t,rfl⟩:=r
  exact call_range_1 (ah6 I1 (by omega) (by omega) q1 q2 (by simpa using q))
theorem ajZ {a b:Expr} {ta:TA} {p pos:Pos} (hg:Gl X "range") (hm:X.mg "range"=none) (ha:PA X [a,b] ta) (hs:starEach [a,b] X.env=[(false,eval a X.env),(false,eval b X.env)]:=by rfl) (hs2:starEach [b] X.env=[(false,eval b X.env)]:=by rfl) :
  PI X tg (.Call (.Name "range" p) [a,b] [] pos) (aph ta):=by
 intro pins s σ H R I h
 refine Call_ (afL I hg hm boot_range (PyProof.Rows.callWith_type1 (thn (ha pos pins s σ H _ I h) fun us s1 ⟨vs,H1,I1,r1,q1⟩=>?_) (by rw [hs,hs2]) (by rw [hs2]; rfl)))
 obtain ⟨i,j,e,⟨q1,q2,q3,q4⟩,q⟩:=q1
 subst e
 cases r1 with
 | cons r rr =>
  cases rr with
  | cons r' rr =>
   cases rr
   obtain ⟨t,rfl⟩:=r
   obtain ⟨t',rfl⟩:=r'
   exact call_range_2 (ah6 I1 q1 q2 q3 q4 q)
def tFor (wi:TI) (g:TG) (tb:TS):TS:=fun D σ H=>wi σ H fun J H1=>∃ W:Nat→Nat→St→Hp→Prop,(∃ m,W 0 m σ H1)∧∀ i m σ H,W i m σ H →
 (J.stop i H∧D.nx σ H)∨(J.go i H∧∃ N:St→Hp→Prop,(∀ σ' H',N σ' H'→∃ m',m' < m∧W (i+1) m' σ' H')∧∀ x H',J.yld i H x H'→g x σ H' fun σ2 H2=>tb { D with nx:=N,ct:=N,bk:=D.nx } σ2 H2)
def ah8 (fp:List Addr) (h:Heap):List (Addr × Obj):=fp.filterMap fun b=>(h.get? b).map fun o=>(b,o)
theorem acj {fp:List Addr} {h:Heap} {b:Addr} {o:Obj} (hb:b∈fp) (e:h.get? b=some o):(b,o)∈ah8 fp h:=List.mem_filterMap.mpr ⟨b,hb,by rw [e]; rfl⟩
theorem akl {fp:List Addr} {h:Heap} {p:Addr × Obj} (hp:p∈ah8 fp h):p.1∈fp∧h.get? p.1=some p.2:=by
 obtain ⟨b,hb,e⟩:=List.mem_filterMap.mp hp
 cases q:h.get? b with
 | none=>rw [q] at e; cases e
 | some o =>
  rw [q] at e
  have e':(b,o)=p:=Option.some.inj e
  subst e'
  exact ⟨hb,q⟩
theorem Inv.pinned {pins:List (Addr × Obj)} {σ:St} {H:Hp} {s:Shared} {fp:List Addr} (I:Inv X pins σ H s) (hf:∀ b∈fp,FpOk X pins H b) (ho:∀ b∈fp,∃ o,s.heap.get? b=some o∧∀ v,o.data≠.cell v):Inv X (pins++ah8 fp s.heap) σ H s :=
 I.pins_of fun p hp=>(List.mem_append.mp hp).elim (fun z=>I.pin p (List.mem_append_right _ z)) fun z=>by
  obtain ⟨hb,e⟩:=akl z
  obtain ⟨f0,f1,f2,_⟩:=hf p.1 hb
  obtain ⟨o,e',d⟩:=ho p.1 hb
  rw [e] at e'; cases e'
  exact ⟨e,f0,f1,f2,d⟩
theorem Inv.unpinned {pins pl:List (Addr × Obj)} {σ:St} {H:Hp} {s:Shared} (I:Inv X (pins++pl) σ H s):Inv X pins σ H s:=I.pins_of fun p hp=>I.pin p (List.mem_append_right _ (List.mem_append_left _ hp))
theorem alV {iter:Expr} {body:List Stmt} {wi:TI} {g:TG} {tb:TS} {pos:Pos} (hp:PassesOwn (model X.prog X.w) X.A X.env X.xe) (hc:X.calm=true) (hi:PI X tg iter wi) (hg:PG X tg g) (hb:PSs X body tb)
  (hs:∀ x,foldedSetIterable iter X.env x=pure x:=by intro _; rfl):PS X (.For tg iter body [] pos) (tFor wi g tb):=by
 intro pins s σ H D I h
 refine wpAny_For (thn (hi pins s σ H _ I h) fun v s1 h1=>thn h1 fun itv s2 h2=>?_) hs
 obtain ⟨it,fp,tn,J,H2,e,I2,T,st2,f2,W,⟨m0,w0⟩,turn⟩:=h2
 subst e
 -- what stays true of the iterator's objects through the loop
 have stat:∀ {H':Hp},(∀ b∈fp,H' b=none)→∀ b∈fp,FpOk X pins H' b:=fun hn b hb=>⟨hn b hb,(f2 b hb).2⟩
 refine codeAny_forLoop_any (fun n s'=>∃ i σ' H',Inv X pins σ' H' s'∧tn i s'.heap∧(∀ b∈fp,H' b=none)∧W i n σ' H') ?_ m0 ⟨0,σ,H2,I2,st2,fun b hb=>(f2 b hb).1,w0⟩
 rintro n s3 ⟨i,σ3,H3,I3,st3,fr3,w3⟩
 rcases turn i n σ3 H3 w3 with ⟨stop,qn⟩ | ⟨go,N,hN,step⟩
 ·refine wpAny_passesOwn hp (thn (T.done X rfl rfl rfl hc i pins s3 σ3 H3 X.xe I3 (stat fr3) st3 stop) fun r s4 ⟨hr,I4⟩=>?_)
  subst hr
  exact wpAny_execs_nil ⟨σ3,H3,I4,qn⟩
 ·refine wpAny_passesOwn hp (thn (T.item X rfl rfl rfl hc i pins s3 σ3 H3 X.xe I3 (stat fr3) st3 go) fun r s4 ⟨u,hr,h4⟩=>?_)
  subst hr
  refine wpAny_passesOwn hp (thn h4 fun _ s5 ⟨x,H5,I5,r5,y5,st5,fr5⟩=>?_)
  have I5':=I5.pinned (stat fr5) (T.obj _ _ st5)
  refine wpAny_passesOwn hp (thn (hg _ s5 σ3 H5 x u _ I5' r5 (step x H5 y5)) fun _ s6 ⟨σ6,H6,I6,q6⟩=>?_)
  refine wpAny_passesOwn hp (thn (hb _ s6 σ6 H6 _ I6 q6) fun f s7 q7=>?_)
  have again:∀ {σ7:St} {H7:Hp},Inv X (pins++ah8 fp s5.heap) σ7 H7 s7→N σ7 H7→∃ m,m < n∧∃ i σ' H',Inv X pins σ' H' s7∧tn i s7.heap∧(∀ b∈fp,H' b=none)∧W i m σ' H':=fun {σ7 H7} I7 n7=>by
   obtain ⟨m',hm,w7⟩:=hN σ7 H7 n7
   refine ⟨m',hm,i+1,σ7,H7,I7.unpinned,T.keep _ _ _ st5 fun b hb o e=>(I7.pin (b,o) (List.mem_append_right _ (List.mem_append_right _ (acj hb e)))).1,fun b hb=>?_,w7⟩
   obtain ⟨o,e,d⟩:=T.obj _ _ st5 b hb
   exact (I7.pin (b,o) (List.mem_append_right _ (List.mem_append_right _ (acj hb e)))).2.1
  cases f with
  | next=>obtain ⟨σ7,H7,I7,n7⟩:=q7; exact again I7 n7
  | cont=>obtain ⟨σ7,H7,I7,n7⟩:=q7; exact again I7 n7
  | brk=>obtain ⟨σ7,H7,I7,q7⟩:=q7; exact ⟨σ7,H7,I7.unpinned,q7⟩
  | ret v=>obtain ⟨x7,σ7,H7,I7,r7,q7⟩:=q7; exact ⟨x7,σ7,H7,I7.unpinned,r7,q7⟩
end
end L2
namespace L2
open PySem PySem.Spec PyProof.Rows
abbrev R2:=V→V→Hp→VK→Prop
def OpR (X:Cx) (f:Value→Value→Sem Value) (r:R2):Prop :=
 ∀ (pins:List (Addr × Obj)) (s:Shared) (σ:St) (H:Hp) (x y:V) (v u:Value) (Q:VK),Inv X pins σ H s→RelV x v→RelV y u→r x y H Q →
  wpAny (model X.prog X.w) X.A (f v u) (EP X pins σ Q) X.xe s
def UnR (X:Cx) (f:Value→Sem Value) (r:V→Hp→VK→Prop):Prop :=
 ∀ (pins:List (Addr × Obj)) (s:Shared) (σ:St) (H:Hp) (x:V) (v:Value) (Q:VK),Inv X pins σ H s→RelV x v→r x H Q →
  wpAny (model X.prog X.w) X.A (f v) (EP X pins σ Q) X.xe s
def aeG (X:Cx) (f:Value) (r:List V→Hp→VK→Prop):Prop :=
 ∀ (pins:List (Addr × Obj)) (s:Shared) (σ:St) (H:Hp) (xs:List V) (us:List Value) (Q:VK),Inv X pins σ H s→Vals xs us→r xs H Q →
  wpAny (model X.prog X.w) X.A (call f us) (EP X pins σ Q) X.xe s
def tOp (r:R2) (ta tb:TE):TE:=fun σ H Q=>ta σ H fun x H1=>tb σ H1 fun y H2=>r x y H2 Q
def tUn (r:V→Hp→VK→Prop) (ta:TE):TE:=fun σ H Q=>ta σ H fun x H1=>r x H1 Q
def rI (C:Int→Int→Prop) (g:Int→Int→V):R2:=fun x y H Q=>∃ i j,x=.int i∧y=.int j∧C i j∧Q (g i j) H
def rI0 (g:Int→Int→V):R2:=fun x y H Q=>∃ i j,x=.int i∧y=.int j∧Q (g i j) H
def rU (g:Int→V):V→Hp→VK→Prop:=fun x H Q=>∃ i,x=.int i∧Q (g i) H
section
variable {X:Cx} {a b c:Expr} {ta tb tc:TE} {pos:Pos}
theorem binT (ha:PE X a ta) (hb:PE X b tb) {pins:List (Addr × Obj)} {s:Shared} {σ:St} {H:Hp} {R:V→V→Hp→Prop} (I:Inv X pins σ H s)
  (h:ta σ H fun x H1=>tb σ H1 fun y H2=>R x y H2) {Q:Value→Shared→Prop} {f:Value→Value→Sem Value}
  (hf:∀ v u s2 x y H2,Inv X pins σ H2 s2→RelV x v→RelV y u→R x y H2→wpAny (model X.prog X.w) X.A (f v u) Q X.xe s2) :
  wpAny (model X.prog X.w) X.A (eval a X.env) (fun v s₁=>wpAny (model X.prog X.w) X.A (eval b X.env) (fun u s₂=>wpAny (model X.prog X.w) X.A (f v u) Q X.xe s₂) X.xe s₁) X.xe s:=by
 refine thn (ha pins s σ H _ I h) fun v s1 ⟨x,H1,I1,r1,q1⟩=>?_
 refine thn (hb pins s1 σ H1 _ I1 q1) fun u s2 ⟨y,H2,I2,r2,q2⟩=>?_
 exact hf v u s2 x y H2 I2 r1 r2 q2
theorem ao2 {op:Operator} {r:R2} (ho:OpR X (binaryOp op) r) (ha:PE X a ta) (hb:PE X b tb):PE X (.BinOp a op b pos) (tOp r ta tb):=by
 intro pins s σ H Q I h
 exact wpAny_BinOp (binT ha hb I h fun v u s2 x y H2 I2 rx ry q=>ho pins s2 σ H2 x y v u Q I2 rx ry q)
theorem apJ {op:UnaryOp} {r:V→Hp→VK→Prop} (ho:UnR X (unaryOp op) r) (ha:PE X a ta):PE X (.UnaryOp op a pos) (tUn r ta):=by
 intro pins s σ H Q I h
 exact UnaryOp_ (thn (ha pins s σ H _ I h) fun v s1 ⟨x,H1,I1,r1,q1⟩=>ho pins s1 σ H1 x v Q I1 r1 q1)
theorem opI {f:Value→Value→Sem Value} {C:Int→Int→Prop} {g:Int→Int→Int}
  (rule:∀ (i j:Int) (t u:Tok) (s:Shared) (Q:Value→Shared→Prop) (E:Value→Shared→Prop),C i j→Q (.int (g i j) s.toks) { s with toks:=s.toks+1 }→wpAny (model X.prog X.w) X.A (f (.int i t) (.int j u)) Q E s) :
  OpR X f (rI C fun i j=>.int (g i j)):=by
 intro pins s σ H x y v u Q I rx ry h
 obtain ⟨i,j,rfl,rfl,hc,q⟩:=h
 obtain ⟨t,rfl⟩:=rx
 obtain ⟨t',rfl⟩:=ry
 exact rule i j t t' s _ _ hc ⟨.int (g i j),H,I.tok _,⟨_,rfl⟩,q⟩
theorem opI0 {f:Value→Value→Sem Value} {g:Int→Int→Int}
  (rule:∀ (i j:Int) (t u:Tok) (s:Shared) (Q:Value→Shared→Prop) (E:Value→Shared→Prop),Q (.int (g i j) s.toks) { s with toks:=s.toks+1 }→wpAny (model X.prog X.w) X.A (f (.int i t) (.int j u)) Q E s) :
  OpR X f (rI0 fun i j=>.int (g i j)):=by
 intro pins s σ H x y v u Q I rx ry h
 obtain ⟨i,j,rfl,rfl,q⟩:=h
 obtain ⟨t,rfl⟩:=rx
 obtain ⟨t',rfl⟩:=ry
 exact rule i j t t' s _ _ ⟨.int (g i j),H,I.tok _,⟨_,rfl⟩,q⟩
theorem opB0 {f:Value→Value→Sem Value} {g:Int→Int→Bool}
  (rule:∀ (i j:Int) (t u:Tok) (s:Shared) (Q:Value→Shared→Prop) (E:Value→Shared→Prop),Q (.bool (g i j)) s→wpAny (model X.prog X.w) X.A (f (.int i t) (.int j u)) Q E s) :
  OpR X f (rI0 fun i j=>.bl (g i j)):=by
 intro pins s σ H x y v u Q I rx ry h
 obtain ⟨i,j,rfl,rfl,q⟩:=h
 obtain ⟨t,rfl⟩:=rx
 obtain ⟨t',rfl⟩:=ry
 exact rule i j t t' s _ _ ⟨.bl (g i j),H,I,rfl,q⟩
def CPow (i j:Int):Prop:=0≤j∧j≤1000000∧i.natAbs < 2 ^ 64
def CMul (i j:Int):Prop:=(-(2 ^ 64) < i∧i < 2 ^ 64)∨(-(2 ^ 64) < j∧j < 2 ^ 64)
theorem CMul.ok {i j:Int} (h:CMul i j):IntMulOk i j:=by
 rcases h with ⟨h1,h2⟩ | ⟨h1,h2⟩
 ·exact .of_left (intBits_le_64 h1 h2)
 ·exact .of_right (intBits_le_64 h1 h2)
theorem aoY:OpR X (binaryOp .Add) (rI0 fun i j=>.int (i+j)):=opI0 fun _ _ _ _ _ _ _ q=>add_int q
theorem abT:OpR X (binaryOp .Sub) (rI0 fun i j=>.int (i - j)):=opI0 fun _ _ _ _ _ _ _ q=>sub_int q
theorem ac0:OpR X (binaryOp .Mod) (rI (fun _ j=>j≠0) fun i j=>.int (i.fmod j)):=opI fun _ _ _ _ _ _ _ hc q=>mod_int' hc q
theorem aeA:OpR X (binaryOp .Pow) (rI CPow fun i j=>.int (i ^ j.toNat)):=opI fun _ _ _ _ _ _ _ hc q=>pow_int_small hc.1 hc.2.1 hc.2.2 q
theorem unI {f:Value→Sem Value} {g:Int→Int}
  (rule:∀ (i:Int) (t:Tok) (s:Shared) (Q:Value→Shared→Prop) (E:Value→Shared→Prop),Q (.int (g i) s.toks) { s with toks:=s.toks+1 }→wpAny (model X.prog X.w) X.A (f (.int i t)) Q E s) :
  UnR X f (rU fun i=>.int (g i)):=by
 intro pins s σ H x v Q I rx h
 obtain ⟨i,rfl,q⟩:=h
 obtain ⟨t,rfl⟩:=rx
 exact rule i t s _ _ ⟨.int (g i),H,I.tok _,⟨_,rfl⟩,q⟩
theorem aa3:UnR X (unaryOp .USub) (rU fun i=>.int (-i)):=unI fun _ _ _ _ _ q=>neg_int q
end
section
variable {X:Cx} {a b c:Expr} {ta tb tc:TE} {pos:Pos}
theorem af5:OpR X (compareOp .Lt) (rI0 fun i j=>.bl (decide (i < j))):=opB0 fun _ _ _ _ _ _ _ q=>lt_int q
theorem af4:OpR X (compareOp .Gt) (rI0 fun i j=>.bl (decide (j < i))):=opB0 fun _ _ _ _ _ _ _ q=>gt_int q
theorem apE:OpR X (compareOp .GtE) (rI0 fun i j=>.bl (decide (j≤i))):=opB0 fun _ _ _ _ _ _ _ q=>ge_int q
theorem OpR.or {f:Value→Value→Sem Value} {r r':R2} (h:OpR X f r) (h':OpR X f r'):OpR X f (fun x y H Q=>r x y H Q∨r' x y H Q):=by
 intro pins s σ H x y v u Q I rx ry q
 rcases q with q | q
 ·exact h pins s σ H x y v u Q I rx ry q
 ·exact h' pins s σ H x y v u Q I rx ry q
theorem aaO (b:Expr) {op:CmpOp} (h:op≠.In:=by decide) (h2:op≠.NotIn:=by decide):behindInMarks op b=false:=by
 have e1:(op == CmpOp.In)=false:=by cases op <;> first | rfl | exact absurd rfl h
 have e2:(op == CmpOp.NotIn)=false:=by cases op <;> first | rfl | exact absurd rfl h2
 cases b <;> simp [behindInMarks,e1,e2]
theorem amL {op:CmpOp} {r:R2} (ho:OpR X (compareOp op) r) (ha:PE X a ta) (hb:PE X b tb) (hm:behindInMarks op b=false):PE X (.Compare a [op] [b] pos) (tOp r ta tb):=by
 intro pins s σ H Q I h
 exact wpAny_Compare1 (binT ha hb I h fun v u s2 x y H2 I2 rx ry q=>ho pins s2 σ H2 x y v u Q I2 rx ry q) hm
def apd (t:TE):TT:=fun σ H Q=>t σ H fun x H'=>∃ k,x=.bl k∧Q k H'
theorem amR {op:CmpOp} {r:R2} (ho:OpR X (compareOp op) r) (ha:PE X a ta) (hb:PE X b tb) (hm:behindInMarks op b=false):PT X (.Compare a [op] [b] pos) (apd (tOp r ta tb)):=by
 intro pins s σ H Q I h
 refine wpAny_isTrue_Compare1 (thn (ha pins s σ H _ I h) fun v s1 ⟨x,H1,I1,r1,q1⟩=>thn (hb pins s1 σ H1 _ I1 q1) fun u s2 ⟨y,H2,I2,r2,q2⟩ =>
  thn (ho pins s2 σ H2 x y v u _ I2 r1 r2 q2) fun c s3 ⟨z,H3,I3,r3,k,e,q3⟩=>?_) hm
 subst e
 cases r3
 exact wpAny_truthy_bool ⟨H3,I3,q3⟩
theorem agY:(sizeLine:Nat) < 2 ^ 63:=by rw [sizeLine_eq]; decide
theorem afr {x:V} {us:List Value} (r:Vals [x] us):∃ u,us=[u]∧RelV x u:=by
 cases r with
 | cons r1 r2=>cases r2; exact ⟨_,rfl,r1⟩
theorem apc {x y:V} {us:List Value} (r:Vals [x,y] us):∃ u w',us=[u,w']∧RelV x u∧RelV y w':=by
 cases r with
 | cons r1 r2 =>
  cases r2 with
  | cons r3 r4=>cases r4; exact ⟨_,_,rfl,r1,r3⟩
theorem age:aeG X (.builtin "abs") (fun xs H Q=>∃ i,xs=[.int i]∧Q (.int (if i < 0 then -i else i)) H):=by
 intro pins s σ H xs us Q I r h
 obtain ⟨i,rfl,q⟩:=h
 obtain ⟨u,rfl,t,rfl⟩:=afr r
 exact call_abs_int fun u tk=>⟨.int (if i < 0 then -i else i),H,I.tok _,⟨_,rfl⟩,q⟩
theorem ag5:aeG X (.type "int") (fun xs H Q=>(∃ i,xs=[.int i]∧Q (.int i) H)∨∃ k,xs=[.bl k]∧Q (.int (if k then 1 else 0)) H):=by
 intro pins s σ H xs us Q I r h
 rcases h with ⟨i,rfl,q⟩ | ⟨k,rfl,q⟩
 ·obtain ⟨u,rfl,t,rfl⟩:=afr r
  exact call_int_int ⟨.int i,H,I,⟨_,rfl⟩,q⟩
 ·obtain ⟨u,rfl,r1⟩:=afr r
  cases r1
  exact call_int_bool ⟨.int (if k then 1 else 0),H,I.tok _,⟨_,rfl⟩,q⟩
end
end L2
namespace L2
open PySem PySem.Spec PyProof.Rows
section
variable {prog:Program} {w:World} {A:Around} {E:Value→Shared→Prop} {s:Shared} {K:PySem.W.Frag} {x dx C f:Addr} {mA:Str→Option Value} {name:Str} {v:Value}
end
section
variable {P:Program} {w:World} {H H':Hp} {h h':Heap} {a C dx:Addr} {fs fs':List (Str × V)}
end
structure Cls (K:PySem.W.Frag) (C:Addr):Prop where
 pg:PySem.W.plainGet K C Str.empty=true
 hd:PySem.W.hasDictIn K C=true
 po:PySem.W.plainOver K C=true
 sa:PySem.W.findIn K (.ref C) "__setattr__"=some (some (.builtin "object.__setattr__"))
theorem Cls.get {K:PySem.W.Frag} {C:Addr} (c:Cls K C) (f:Str):PySem.W.plainGet K C f=true:=c.pg
section
variable {X:Cx} {pins:List (Addr × Obj)} {σ:St} {H:Hp} {s:Shared} {a C dx:Addr} {fs:List (Str × V)} {f:Str} {v:V} {A:Around} {E:Value→Shared→Prop}
theorem Inv.made (I:Inv X pins σ H s):Inv X pins σ (upd (upd H s.heap.objs.size (.own (s.heap.objs.size+1))) (s.heap.objs.size+1) (.ins C s.heap.objs.size []))
  { s with heap:=(s.heap.push PySem.W.emptyDict).push (PySem.W.instObj C s.heap.objs.size) }:=by
 have e1:(s.heap.push PySem.W.emptyDict).get? s.heap.objs.size=some PySem.W.emptyDict:=Heap.get?_push_size s.heap rfl
 have e2:((s.heap.push PySem.W.emptyDict).push (PySem.W.instObj C s.heap.objs.size)).get? (s.heap.objs.size+1)=some (PySem.W.instObj C s.heap.objs.size):=by
  have:=Heap.get?_push_size (s.heap.push PySem.W.emptyDict) (o:=PySem.W.instObj C s.heap.objs.size) rfl
  rwa [Heap.size_push] at this
 have e3:(s.heap.push PySem.W.emptyDict).Ns s.heap.objs.size (fun _=>none):=⟨PySem.W.emptyDict,#[],_,e1,rfl,(fun e he=>absurd he (by simp)),fun _=>rfl⟩
 have I1:=I.laid (a:=s.heap.objs.size) (o:=.own (s.heap.objs.size+1)) (h':=s.heap.push PySem.W.emptyDict) (t':=s.toks) (fun b u q=>Heap.get?_push_of_some _ q) (Nat.le_refl _) ⟨_,e1⟩
 refine I1.laid (a:=s.heap.objs.size+1) (o:=.ins C s.heap.objs.size []) (t':=s.toks) (fun b u q=>Heap.get?_push_of_some _ q) (Nat.le_of_eq (Heap.size_push _ _)) ?_
 have ne:s.heap.objs.size≠s.heap.objs.size+1:=Nat.ne_of_lt (Nat.lt_succ_self _)
 refine ⟨by rw [aaG ne,aa1],Nat.zero_le _,ne,e2,fun _=>none,(Heap.Ns1.of_empty e3).at fun o q=>Heap.get?_push_of_some _ q,fun _=>True.intro,fun y hy=>absurd rfl hy⟩
end
section
variable {X:Cx} {o e value:Expr} {f:Str} {pos pos' tpos:Pos} {ta tv:TE}
end
section
variable {X:Cx} {pins:List (Addr × Obj)} {σ:St} {H:Hp} {s:Shared} {A:Around} {E:Value→Shared→Prop} {Q:Value→Shared→Prop} {c:Value} {b:Bool}
end
end L2
namespace L2
open PySem PySem.Spec PyProof.Rows
structure Room (k:Nat) (A:Around):Prop where
 hd:A.handled=none
 dp:A.depth+3*k+5 < recursionLimit
 un:A.units+16*k+200 < cLine
theorem Room.mono {j k:Nat} {A:Around} (r:Room k A) (h:j≤k):Room j A:=⟨r.hd,by have:=r.dp; omega,by have:=r.un; omega⟩
theorem Room.deeper {k:Nat} {A:Around} (r:Room (k+1) A) (env:Env):Room k (A.deeper env) :=
 ⟨r.hd,by have:=r.dp; show A.depth+1+3*k+5 < _; omega,by have:=r.un; show A.units+3+16*k+200 < _; omega⟩
theorem Room.depth {k:Nat} {A:Around} (r:Room k A):A.depth < recursionLimit:=by have:=r.dp; omega
theorem Room.units {k:Nat} {A:Around} (r:Room k A):A.units+64 < cLine:=by have:=r.un; omega
def tNil:TA:=fun _ H Q=>Q [] H
def apw (ta:TE) (tr:TA):TA:=fun σ H Q=>ta σ H fun x H1=>tr σ H1 fun xs H2=>Q (x :: xs) H2
section
variable {X:Cx} {e:Expr} {es:List Expr} {te:TE} {t:TA} {pos:Pos}
theorem ahR:PA X [] tNil:=fun _ _ _ _ H Q I h=>Calls.spliced_nil ⟨[],H,I,.nil,h⟩
theorem agk (ha:PE X e te) (hr:PA X es t) (hs:starEach (e :: es) X.env=(false,eval e X.env) :: starEach es X.env:=by rfl):PA X (e :: es) (apw te t):=by
 intro pos pins s σ H Q I h
 rw [hs]
 show wpAny _ _ (spliced ((false,eval e X.env) :: backTo pos (starEach es X.env))) _ _ s
 refine Calls.spliced_cons (thn (ha pins s σ H _ I h) fun u s1 ⟨x,H1,I1,r1,q1⟩=>?_)
 exact thn (hr pos pins s1 σ H1 _ I1 q1) fun us s2 ⟨xs,H2,I2,r2,q2⟩=>⟨x :: xs,H2,I2,.cons r1 r2,q2⟩
def tTup (t:TA):TE:=fun σ H Q=>t σ H fun xs H1=>xs.length≤sizeLine∧∀ p,H1 p=none→Q (.ref p) (upd H1 p (.tup xs))
def tLst (t:TA):TE:=fun σ H Q=>t σ H fun xs H1=>xs.length≤sizeLine∧∀ p,H1 p=none→Q (.ref p) (upd H1 p (.lst xs))
theorem anR {x1} (h:PA X es t):PE X (.Tuple es x1 pos) (tTup t):=by
 intro pins s σ H Q I hq
 refine wpAny_Tuple_spliced (thn (h pos pins s σ H _ I hq) fun us s1 ⟨xs,H1,I1,r,z,q⟩=>⟨by rw [← r.length]; exact z,?_⟩)
 have hf:H1 s1.heap.objs.size=none:=I1.hok.fresh (Nat.le_refl _)
 refine ⟨.ref s1.heap.objs.size,upd H1 s1.heap.objs.size (.tup xs),I1.laid (t':=s1.toks) (fun b u e=>Heap.get?_push_of_some _ e) (Nat.le_refl _) ?_,rfl,q _ hf⟩
 exact ⟨z,us,r,⟨_,Heap.get?_push_size _ rfl,rfl,_,rfl⟩⟩
theorem aj2 (h:PA X es t):PE X (.List es pos) (tLst t):=by
 intro pins s σ H Q I hq
 refine wpAny_List_spliced (thn (h pos pins s σ H _ I hq) fun us s1 ⟨xs,H1,I1,r,z,q⟩=>⟨by rw [← r.length]; exact z,?_⟩)
 have hf:H1 s1.heap.objs.size=none:=I1.hok.fresh (Nat.le_refl _)
 refine ⟨.ref s1.heap.objs.size,upd H1 s1.heap.objs.size (.lst xs),I1.laid (t':=s1.toks) (fun b u e=>Heap.get?_push_of_some _ e) (Nat.le_refl _) ?_,rfl,q _ hf⟩
 exact ⟨z,us,0,r,Heap.get?_push_size _ rfl⟩
end
abbrev Sp:=List V→Hp→VK→XK→Prop
abbrev CXT:=List Env→Hp→Shared→XK→Value→Shared→Prop
structure Env0 (P:Program) (w:World) (K:PySem.W.Frag) (mg:Str→Option Value) (base:Heap) (A:Around) (outer:List Env) (s:Shared) (H:Hp):Prop where
 frames:A.frames=some outer
 mod:Mod K mg base
 bs:∀ b o,base.get? b=some o→s.heap.get? b=some o∧H b=none
 bsz:base.objs.size≤s.heap.objs.size
 funs:s.heap.FunFrames base outer
 frf:∀ b∈frs outer,H b=none
 hok:HOk P w H s.heap
 bare:AllBare s.gens
def CE (outer:List Env) (P:Program) (w:World) (H:Hp) (s:Shared) (Q:VK) (u:Value) (s':Shared):Prop :=
 ∃ v H',s'.os=s.os∧AllBare s'.gens∧Un (frs outer) [] H H' s.heap s'.heap∧HOk P w H' s'.heap∧RelV v u∧Q v H'
def CR (CX:CXT) (outer:List Env) (P:Program) (w:World) (H:Hp) (s:Shared) (Q:VK) (E:XK) (r:Result) (s':Shared):Prop :=
 match r with
 | .ok (.ret u)=>CE outer P w H s Q u s'
 | .ok _=>False
 | .error e=>CX outer H s E e s'
structure FnOk (P:Program) (w:World) (K:PySem.W.Frag) (mg:Str→Option Value) (base:Heap) (CX:CXT) (k:Nat) (f:Addr) (fd:FuncData) (ps:List Str) (sp:Sp):Prop where
 len:∀ vs H Q E,sp vs H Q E→vs.length=ps.length
 run:∀ (A:Around) (outer:List Env) (s:Shared) (H:Hp) (args:Args) (us:List Value) (vs:List V) (Q:VK) (E:XK),Room k A→Env0 P w K mg base A outer s H→BindsTo s fd args (ps.zip us)→Vals vs us→sp vs H Q E →
  codeAny (model P w) A (.call (.ref f) args) (CR CX outer P w H s Q E) s
theorem FnOk.mono {P:Program} {w:World} {K:PySem.W.Frag} {mg:Str→Option Value} {base:Heap} {CX:CXT} {j k:Nat} {f:Addr} {fd:FuncData} {ps:List Str} {sp:Sp} (F:FnOk P w K mg base CX j f fd ps sp) (h:j≤k) :
  FnOk P w K mg base CX k f fd ps sp:=⟨F.len,fun A outer s H args us vs Q E hr=>F.run A outer s H args us vs Q E (hr.mono h)⟩
theorem FnOk.imp {P:Program} {w:World} {K:PySem.W.Frag} {mg:Str→Option Value} {base:Heap} {CX:CXT} {k:Nat} {f:Addr} {fd:FuncData} {ps:List Str} {sp sp':Sp} (F:FnOk P w K mg base CX k f fd ps sp)
  (h:∀ vs H Q E,sp' vs H Q E→sp vs H Q E):FnOk P w K mg base CX k f fd ps sp' :=
 ⟨fun vs H Q E q=>F.len vs H Q E (h _ _ _ _ q),fun A outer s H args us vs Q E hr he hb hv hs=>F.run A outer s H args us vs Q E hr he hb hv (h _ _ _ _ hs)⟩
section
variable {X:Cx} {pins:List (Addr × Obj)} {σ:St} {H:Hp} {s s':Shared}
theorem Inv.env0 (I:Inv X pins σ H s):Env0 X.prog X.w X.K X.mg X.base X.A X.stack s H :=
 ⟨I.ok.frames,I.ok.mod,I.bs,Nat.le_trans I.ok.bsz I.sz,I.stack,I.stkFree,I.hok,I.bare⟩
theorem Inv.after {Q:VK} {u:Value} (I:Inv X pins σ H s) (h:CE X.stack X.prog X.w H s Q u s'):EP X pins σ Q u s':=by
 obtain ⟨v,H',os,bare,un,hok,r,q⟩:=h
 obtain ⟨hh,g,d,t,os'⟩:=s'
 obtain rfl:os'=s.os:=os
 exact ⟨v,H',I.call (h':=hh) (g':=g) (d':=d) (t':=t) (ch:=[]) un hok bare (fun b z=>absurd z (by simp)),r,q⟩
end
def apQ (sp:Sp) (dvs:List V) (E:XK) (t:TA):TE:=fun σ H Q=>t σ H fun vs H1=>sp (vs++dvs) H1 Q E
def adC (K:PySem.W.Frag) (fd:FuncData) (ps:List Str) (ds:List Value):Prop :=
 ∀ (s:Shared) (us:List Value),K.In s.heap→(us++ds).length=ps.length→BindsTo s fd ⟨us,[]⟩ (ps.zip (us++ds))
theorem adC.all {K:PySem.W.Frag} {fd:FuncData} {ps:List Str} (h:∀ us:List Value,us.length=ps.length→bindArgs fd ⟨us,[]⟩=pure (ps.zip us)):adC K fd ps []:=fun s us _ hl=>by
 rw [List.append_nil] at hl ⊢
 exact .of_eq (h us hl)
def aiz (CX:CXT) (X:Cx) (E:XK):Prop:=∀ (pins:List (Addr × Obj)) (σ:St) (H:Hp) (s:Shared) (e:Value) (s':Shared),Inv X pins σ H s→CX X.stack H s E e s'→X.xe e s'
section
variable {X:Cx} {CX:CXT} {k:Nat} {f C:Addr} {fd:FuncData} {ps:List Str} {sp:Sp} {dvs:List V} {ds:List Value} {E:XK} {x m:Str} {p pos apos:Pos} {e o:Expr} {es:List Expr} {ta:TE} {t:TA}
theorem aog {pins:List (Addr × Obj)} {σ:St} {H:Hp} {s:Shared} {Q:VK} {us:List Value} {vs:List V} (F:FnOk X.prog X.w X.K X.mg X.base CX k f fd ps sp) (hr:Room k X.A) (hb:adC X.K fd ps ds) (hd:Vals dvs ds) (hx:aiz CX X E)
  (I:Inv X pins σ H s) (r:Vals vs us) (h:sp (vs++dvs) H Q E):wpAny (model X.prog X.w) X.A (call (.ref f) us) (EP X pins σ Q) X.xe s:=by
 have r2:Vals (vs++dvs) (us++ds):=r.append hd
 have hl:(us++ds).length=ps.length:=by rw [← r2.length]; exact F.len _ _ _ _ h
 refine wpAny_call (codeAny_mono (F.run X.A X.stack s H ⟨us,[]⟩ (us++ds) (vs++dvs) Q E hr I.env0 (hb s us I.kIn hl) r2 h) fun r s' hq=>?_)
 cases r with
 | error e=>exact hx pins σ H s e s' I hq
 | ok fl =>
  cases fl with
  | ret u=>exact I.after hq
  | next=>exact False.elim hq
  | brk=>exact False.elim hq
  | cont=>exact False.elim hq
theorem afZ (F:FnOk X.prog X.w X.K X.mg X.base CX k f fd ps sp) (hr:Room k X.A) (hg:Gl X x) (hm:X.mg x=some (.ref f)) (hk:PySem.W.keepIn X.K (.ref f)=true) (hb:adC X.K fd ps ds) (hd:Vals dvs ds) (hx:aiz CX X E)
  (ha:PA X (e :: es) t) (hdb:(x == ("__debug__":Str))=false:=by decide) (he:starEach (e :: es) X.env=(false,eval e X.env) :: starEach es X.env:=by rfl) (hpl:(backTo pos (starEach es X.env)).any (·.1)=false:=by rfl) :
  PE X (.Call (.Name x p) (e :: es) [] pos) (apQ sp dvs E t):=by
 intro pins s σ H Q I h
 refine wpAny_Call_Name_kw (akp I hg hm ?_ hdb)
 refine PySem.W.callWith_K (h₀:=X.base) I.ok.mod.kin hk (thn (ha pos pins s σ H _ I h) fun us s1 ⟨vs,H1,I1,r,q⟩=>⟨I1.kIn,?_⟩) he hpl
 exact aog F hr hb hd hx I1 r q
end
section
variable {X:Cx} {CX:CXT} {k:Nat} {f C:Addr} {fd:FuncData} {ps ks:List Str} {sp:Sp} {E:XK} {x m:Str} {p pos apos kpos:Pos} {e o:Expr} {es:List Expr} {kws:List Keyword} {te ta:TE} {t tk:TA} {nm:Option Str}
variable {g:List Value→List Value→List Value} {gV:List V→List V→List V}
end
structure aaA (N P:List Str) (sc:Scope):Prop where
 kind:sc.kind=.function
 co:sc.isCoroutine=false
 gen:sc.isGenerator=false
 nd:N.Nodup
 pre:N.take P.length=P
 par:∀ x∈P,sc.names.lookup x=some .local∨sc.names.lookup x=some .cell
 nofree:∀ y∈sc.names,y.2≠.free
theorem agB {kindOf:Str→Option NameKind} {x:Str}:∀ {binds:List (Str × Value)} {m:Str→Option Value},(∀ v,(x,v) ∉ binds)→bindL kindOf binds m x=m x
 | [],_,_=>rfl
 | (n,v) :: r,m,h=>by
  unfold bindL
  rw [agB fun w hw=>h w (List.mem_cons_of_mem _ hw)]
  split
  ·have:x≠n:=by rintro rfl; exact h v List.mem_cons_self
   simp [this]
  ·rfl
theorem agG {kindOf:Str→Option NameKind} {x:Str}:∀ {binds:List (Str × Value)} {m:Str→Option Value},(∀ v,(x,v) ∉ binds)→bindC kindOf binds m x=m x
 | [],_,_=>rfl
 | (n,v) :: r,m,h=>by
  unfold bindC
  rw [agG fun w hw=>h w (List.mem_cons_of_mem _ hw)]
  split
  ·rfl
  ·have:x≠n:=by rintro rfl; exact h v List.mem_cons_self
   simp [this]
theorem ag0 {kindOf:Str→Option NameKind} {x:Str} {v:Value}:∀ {P:List Str} {vs:List Value} {i:Nat} {m:Str→Option Value},P.Nodup→P[i]?=some x→vs[i]?=some v→kindOf x=some .local →
  bindL kindOf (P.zip vs) m x=some v
 | [],_,_,_,_,h,_,_=>by simp at h
 | _ :: _,[],_,_,_,_,h,_=>by simp at h
 | p :: P,w :: vs,0,m,nd,h1,h2,hk=>by
  simp at h1 h2; subst h1; subst h2
  show bindL kindOf ((p,w) :: P.zip vs) m p=_
  unfold bindL
  rw [agB fun v hv=>(List.nodup_cons.mp nd).1 (List.of_mem_zip hv).1,if_pos hk]
  simp
 | p :: P,w :: vs,i+1,m,nd,h1,h2,hk=>by
  show bindL kindOf ((p,w) :: P.zip vs) m x=_
  unfold bindL
  exact ag0 (i:=i) (List.nodup_cons.mp nd).2 (by simpa using h1) (by simpa using h2) hk
theorem ags {kindOf:Str→Option NameKind} {x:Str} {v:Value}:∀ {P:List Str} {vs:List Value} {i:Nat} {m:Str→Option Value},P.Nodup→P[i]?=some x→vs[i]?=some v→kindOf x≠some .local →
  bindC kindOf (P.zip vs) m x=some v
 | [],_,_,_,_,h,_,_=>by simp at h
 | _ :: _,[],_,_,_,_,h,_=>by simp at h
 | p :: P,w :: vs,0,m,nd,h1,h2,hk=>by
  simp at h1 h2; subst h1; subst h2
  show bindC kindOf ((p,w) :: P.zip vs) m p=_
  unfold bindC
  rw [agG fun v hv=>(List.nodup_cons.mp nd).1 (List.of_mem_zip hv).1,if_neg hk]
  simp
 | p :: P,w :: vs,i+1,m,nd,h1,h2,hk=>by
  show bindC kindOf ((p,w) :: P.zip vs) m x=_
  unfold bindC
  exact ags (i:=i) (List.nodup_cons.mp nd).2 (by simpa using h1) (by simpa using h2) hk
def start (N:List Str) (vs:List V):St:=vs.map some++List.replicate (N.length - vs.length) none
def cxOf (CX:CXT) (P:Program) (w:World) (K:PySem.W.Frag) (mg:Str→Option Value) (base:Heap) (N:List Str) (qual:Str) (scope:Scope) (f:Addr) (cd:Value) (A:Around) (outer:List Env) (s:Shared) (H:Hp) (E:XK):Cx where
 prog:=P
 w:=w
 K:=K
 mg:=mg
 base:=base
 A:=A.deeper (envOfC qual scope s.heap.objs.size f cd)
 N:=N
 s₀:=s
 H₀:=H
 env:=envOfC qual scope s.heap.objs.size f cd
 outer:=outer
 stack:=envOfC qual scope s.heap.objs.size f cd :: outer
 ex:=[]
 calm:=true
 fn:=fun _=>true
 pn:=[]
 xe:=fun e s'=>wpAny (model P w) (A.deeper (envOfC qual scope s.heap.objs.size f cd)) (leaving (envOfC qual scope s.heap.objs.size f cd) e) (fun _ s''=>CX outer H s E e s'') (fun e' s''=>CX outer H s E e' s'') s'
theorem air {sc:Scope} {n:Nat} {x:Str} (h:sc.names.lookup x=some .cell):∃ c,(cellsFrom n sc.names []).lookup x=some c:=by
 have q:=PySem.W.cellsFrom_some sc.names n [] (.inl h)
 exact Option.isSome_iff_exists.mp q
theorem akG {CX:CXT} {P:Program} {w:World} {K:PySem.W.Frag} {mg:Str→Option Value} {base:Heap} {N ps:List Str} {qual:Str} {scope:Scope} {f:Addr} {cd:Value} {A:Around} {outer:List Env} {s s1:Shared} {H:Hp} {E:XK} {us:List Value} {vs:List V}
  (S:aaA N ps scope) (hd:A.handled=none) (e0:Env0 P w K mg base A outer s H) (hl:vs.length=ps.length) (r:Vals vs us)
  (x:InCallC s s.heap.objs.size (bindL (envOfC qual scope s.heap.objs.size f cd).kindOf (ps.zip us) fun _=>none) (cellsFrom (s.heap.objs.size+1) scope.names []) (bindC (envOfC qual scope s.heap.objs.size f cd).kindOf (ps.zip us) fun _=>none) s1) :
  Inv (cxOf CX P w K mg base N qual scope f cd A outer s H E) [] (start N vs) H s1:=by
 have hpl:ps.length≤N.length:=by have:=congrArg List.length S.pre; rw [List.length_take] at this; omega
 obtain ⟨h1,tk,rfl,hk⟩:=x.done
 have noA:∀ b:Addr,b ∉ (cxOf CX P w K mg base N qual scope f cd A outer s H E).ex:=fun b z=>absurd (show b∈([]:List Addr) from z) (by simp)
 refine ⟨⟨e0.mod,S.kind,rfl,rfl,Nat.le_refl _,fun y z c h1 h2=>?_,fun y hy=>?_,fun y c _ h=>?_,fun _=>hd,Around.frames_deeper e0.frames,.inr ⟨rfl,rfl⟩,fun b z=>absurd z (noA b),e0.bs,e0.bsz,fun b _ _=>noA b,fun b z=>absurd z (noA b),e0.funs,e0.frf⟩,
  rfl,e0.bare,Un.kept hk,⟨_,x.toInCall.ns,fun i y v h1 h2 h3=>?_⟩,fun y c h=>⟨_,x.cell y c h⟩,e0.hok.fresh (Nat.le_refl _),fun y c h=>?_,fun p hp=>absurd (show p∈([]:List (Addr × Obj)) from hp) (by simp),e0.hok.kept hk,?_⟩
 ·exact name_of_addr x.apart (PySem.mem_of_lookup h1) (PySem.mem_of_lookup h2)
 ·have hy:scope.names.lookup y=some .cell∨scope.names.lookup y=some .free:=hy
  rcases hy with hy | hy
  ·exact air hy
  ·exact absurd rfl (S.nofree _ (PySem.mem_of_lookup hy))
 ·exact Nat.le_of_lt (x.above y c (PySem.mem_of_lookup h))
 ·have hi:i < vs.length:=by
   unfold start at h2
   by_cases hi:i < vs.length
   ·exact hi
   ·rw [List.getElem?_append_right (by simpa using hi)] at h2
    rw [List.getElem?_replicate] at h2
    split at h2 <;> cases h2
  have ha:vs[i]?=some v:=by
   unfold start at h2
   rw [List.getElem?_append_left (by simpa using hi),List.getElem?_map] at h2
   cases e:vs[i]? with
   | none=>rw [e] at h2; cases h2
   | some a=>rw [e] at h2; cases h2; rfl
  obtain ⟨u,hu,rv⟩:=r.get ha
  have hp:ps[i]?=some y:=by
   rw [← S.pre,List.getElem?_take_of_lt (by omega)]; exact h1
  have ndP:ps.Nodup:=by rw [← S.pre]; exact S.nd.sublist (List.take_sublist _ _)
  refine ⟨u,rv,?_⟩
  rcases S.par y (List.mem_of_getElem? hp) with k | k
  ·exact .inl ⟨k,ag0 ndP hp hu k⟩
  ·obtain ⟨c,e⟩:=air (n:=s.heap.objs.size+1) k
   refine .inr ⟨.inl k,c,e,?_⟩
   have q:=x.cell y c e
   rw [ags ndP hp hu (by show scope.names.lookup y≠_; rw [k]; decide)] at q
   exact q
 ·exact e0.hok.fresh (Nat.le_of_lt (x.above y c (PySem.mem_of_lookup h)))
 ·unfold start
  show _=N.length
  rw [List.length_append,List.length_map,List.length_replicate]
  omega
theorem alq {CX:CXT} {P:Program} {w:World} {K:PySem.W.Frag} {mg:Str→Option Value} {base:Heap} {k:Nat} {f:Addr} {name qual:Str} {params:Arguments} {body:List Stmt} {scope:Scope} {dV kV doc pm cdv ct oc:Value} {an od:Option Addr}
  {osl:Array (Option Value)} {N ps:List Str} {sp:Sp} (lk:K.lookup f=some ⟨oc,od,.func (PySem.W.fnOf name qual params body scope dV kV doc pm an cdv ct),osl⟩) (hcd:PySem.W.codeIn K cdv qual=true) (S:aaA N ps scope)
  (len:∀ vs H Q E,sp vs H Q E→vs.length=ps.length)
  (hbody:∀ (A:Around) (outer:List Env) (s:Shared) (H:Hp) (vs:List V) (Q:VK) (E:XK),Room k (A.deeper (envOfC qual scope s.heap.objs.size f cdv))→sp vs H Q E →
   ∃ t,PSs (cxOf CX P w K mg base N qual scope f cdv A outer s H E) body t∧t { nx:=fun _ H'=>Q .non H',rt:=Q } (start N vs) H) :
  FnOk P w K mg base CX (k+1) f (PySem.W.fnOf name qual params body scope dV kV doc pm an cdv ct) ps sp:=by
 refine ⟨len,fun A outer s H args us vs Q E hr e0 hb r hsp=>?_⟩
 have hl:=len _ _ _ _ hsp
 have KX:K.In s.heap:=e0.mod.kin.keeps fun b o e=>(e0.bs b o e).1
 have lim:s.heap.NoLimit:=e0.mod.nolimit.keeps fun b o e=>(e0.bs b o e).1
 have hkind:∀ y∈ps.zip us,scope.names.lookup y.1=some .local∨(scope.names.lookup y.1=some .cell∧((cellsFrom (s.heap.objs.size+1) scope.names []).lookup y.1).isSome=true):=fun ⟨n,v⟩ hy=>by
  rcases S.par n (List.of_mem_zip hy).1 with q | q
  ·exact .inl q
  ·exact .inr ⟨q,PySem.W.cellsFrom_some _ _ _ (.inl q)⟩
 refine codeAny_call_function hr.depth (KX _ _ lk) rfl S.co S.gen rfl (PySem.W.codeRec_of KX hcd) (hb _ _ _ _ ?_)
 refine wpAny_newFunctionEnv_cells S.kind hkind fun env he s1 x=>?_
 subst he
 refine ⟨lim.keeps x.toInCall.keep,codeAny_func ?_⟩
 obtain ⟨t,ht,hq⟩:=hbody A outer s H vs Q E (hr.deeper _) hsp
 have I:Inv (cxOf CX P w K mg base N qual scope f cdv A outer s H E) [] (start N vs) H s1:=akG S hr.hd e0 hl r x
 refine wpAny_mono (ht [] s1 (start N vs) H _ I hq) (fun fl s' hs=>?_) fun e s' hs=>hs
 have fin:∀ {σ':St} {H':Hp} {v:V} {u:Value},Inv (cxOf CX P w K mg base N qual scope f cdv A outer s H E) [] σ' H' s'→RelV v u→Q v H'→CE outer P w H s Q u s' :=
  fun {σ' H' v u} J rv q=>⟨v,H',J.os,J.bare,J.base,J.hok,rv,q⟩
 cases fl with
 | ret u =>
  obtain ⟨v,σ',H',J,rv,q⟩:=hs
  exact fin J rv q
 | next =>
  obtain ⟨σ',H',J,q⟩:=hs
  exact fin (v:=V.non) (u:=Value.none) J rfl q
 | brk =>
  obtain ⟨_,_,_,q⟩:=hs
  exact False.elim q
 | cont =>
  obtain ⟨_,_,_,q⟩:=hs
  exact False.elim q
end L2
namespace L2
open PySem PySem.Spec PyProof.Rows
section
variable {X:Cx} {x:Str} {p pos:Pos} {e:Expr} {es:List Expr} {t:TA} {id T:String} {r:List V→Hp→VK→Prop}
def tCB (r:List V→Hp→VK→Prop) (t:TA):TE:=fun σ H Q=>t σ H fun vs H1=>r vs H1 Q
theorem alK (hc:aeG X (.builtin id) r) (hg:Gl X x) (hm:X.mg x=none) (hv:bootBuiltins x=some (.builtin id)) (ha:PA X (e :: es) t) (hn:x≠"__name__":=by decide) (hdb:(x == ("__debug__":Str))=false:=by decide)
  (he:starEach (e :: es) X.env=(false,eval e X.env) :: starEach es X.env:=by rfl) (hpl:(backTo pos (starEach es X.env)).any (·.1)=false:=by rfl):PE X (.Call (.Name x p) (e :: es) [] pos) (tCB r t):=by
 intro pins s σ H Q I h
 refine wpAny_Call_Name_kw (afL I hg hm hv ?_ hn hdb)
 exact PyProof.Rows.callWith_builtin1 (thn (ha pos pins s σ H _ I h) fun us s1 ⟨vs,H1,I1,r1,q1⟩=>hc pins s1 σ H1 vs us Q I1 r1 q1) he hpl
theorem ad8 (hc:aeG X (.type T) r) (hg:Gl X x) (hm:X.mg x=none) (hv:bootBuiltins x=some (.type T)) (ha:PA X (e :: es) t) (hn:x≠"__name__":=by decide) (hdb:(x == ("__debug__":Str))=false:=by decide)
  (he:starEach (e :: es) X.env=(false,eval e X.env) :: starEach es X.env:=by rfl) (hpl:(backTo pos (starEach es X.env)).any (·.1)=false:=by rfl):PE X (.Call (.Name x p) (e :: es) [] pos) (tCB r t):=by
 intro pins s σ H Q I h
 refine wpAny_Call_Name_kw (afL I hg hm hv ?_ hn hdb)
 exact PyProof.Rows.callWith_type1 (thn (ha pos pins s σ H _ I h) fun us s1 ⟨vs,H1,I1,r1,q1⟩=>hc pins s1 σ H1 vs us Q I1 r1 q1) he hpl
end
end L2
namespace HT
open PySem PyProof.Rows
def lexLt:List Int→List Int→Bool
 | [],[]=>false
 | [],_ :: _=>true
 | _ :: _,[]=>false
 | x :: xs,y :: ys=>if x=y then lexLt xs ys else decide (x < y)
theorem lexLt_cons (x y:Int) (xs ys:List Int):lexLt (x :: xs) (y :: ys)=if x=y then lexLt xs ys else decide (x < y):=rfl
section
open PySem.SeqAt
open PySem.AutoSeq1 (wpAny_loadPart')
open PySem.MeetsSeq PySem.MeetsSeq2 PySem.MeetsSeq3
end
section
variable {prog:Program} {w:World} {A:Around} {E:Value→Shared→Prop} {s:Shared}
theorem cat_tup {t b:Addr} {vs ws:List Value} {Q:Value→Shared→Prop} (ht:IsTup s.heap t vs.toArray) (hb:IsTup s.heap b ws.toArray) (hv:vs≠[])
  (h1:ws=[]→Q (.ref t) s) (h2:ws≠[]→Q (.ref s.heap.objs.size) { s with heap:=s.heap.push { cls:=.type "tuple",data:=.seq (vs++ws).toArray } })
  (hsz:vs.length+ws.length≤sizeLine):wpAny (model prog w) A (binaryOp .Add (.ref t) (.ref b)) Q E s:=by
 obtain ⟨⟨cls,dd,data,sl⟩,ho,hc,n,hd⟩:=id ht
 obtain ⟨⟨cls2,dd2,data2,sl2⟩,ho2,hc2,n2,hd2⟩:=id hb
 simp only at hc hd hc2 hd2
 subst hc hd hc2 hd2
 have e:vs.toArray++ws.toArray=(vs++ws).toArray:=by simp
 by_cases hw:ws=[]
 ·exact concat_meets ⟨_,ho,rfl⟩ ⟨_,ho2,rfl⟩ noFill_tuple_add seq_tuple_add PySem.F.slot_tuple_add PySem.F.entry_tuple_add (PySem.F.args_tuple_add_2 _ _)
   (tuple_addW1 t b vs.toArray ws.toArray n n2 dd dd2 sl sl2 (by simpa using hv) (by simp [hw])) ⟨ho,ho2,h1 hw⟩
 ·refine concat_meets ⟨_,ho,rfl⟩ ⟨_,ho2,rfl⟩ noFill_tuple_add seq_tuple_add PySem.F.slot_tuple_add PySem.F.entry_tuple_add (PySem.F.args_tuple_add_2 _ _)
   (tuple_addW2 t b vs.toArray ws.toArray n n2 dd dd2 sl sl2 (by simpa using hv) (by simpa using hw) (by rw [List.size_toArray,List.size_toArray]; exact hsz)) ⟨ho,ho2,?_⟩
  rw [e]
  exact h2 hw
def sIx (n d:Nat):Option Int→Nat
 | none=>d
 | some v=>if v < 0 then (v+(n:Int)).toNat else min v.toNat n
theorem sIx_nat (n d k:Nat):sIx n d (some (k:Int))=min k n:=by
 show (if (k:Int) < 0 then ((k:Int)+(n:Int)).toNat else min (k:Int).toNat n)=min k n
 rw [if_neg (by omega),Int.toNat_natCast]
theorem an1 (n d:Nat) (hd:d≤n) (o:Option Int):sIx n d o≤n:=by
 cases o with
 | none=>exact hd
 | some v =>
  show (if v < 0 then (v+(n:Int)).toNat else min v.toNat n)≤n
  by_cases hv:v < 0
  ·rw [if_pos hv]; omega
  ·rw [if_neg hv]; exact Nat.min_le_right _ _
theorem akj (v:Int) (n d:Nat):(if v < 0 then max (v+(n:Int)) 0 else min v (n:Int))=((sIx n d (some v):Nat):Int):=by
 show (if v < 0 then max (v+(n:Int)) 0 else min v (n:Int))=(((if v < 0 then (v+(n:Int)).toNat else min v.toNat n):Nat):Int)
 by_cases hv:v < 0
 ·simp only [if_pos hv]; omega
 ·simp only [if_neg hv]; omega
theorem aiW (lo hi:Option Int) (n:Nat):Builtin.Slice.sliceAdjust lo hi 1 (n:Int)=(((sIx n 0 lo:Nat):Int),((sIx n n hi:Nat):Int)):=by
 have h1:¬ ((1:Int) < 0):=by omega
 unfold Builtin.Slice.sliceAdjust
 simp only [h1,if_false]
 refine Prod.ext ?_ ?_
 ·cases lo with
  | none=>rfl
  | some v=>exact akj v n 0
 ·cases hi with
  | none=>rfl
  | some v=>exact akj v n n
theorem aiV (i j:Nat):Builtin.Slice.slicePlaces (i:Int) (j:Int) 1=j - i:=by
 unfold Builtin.Slice.slicePlaces
 have h1:(1:Int) > 0:=by omega
 simp only [h1,if_true,Int.ediv_one]
 split <;> omega
theorem afG {v:Value} {o:Option Int} {Q:Option Int→Shared→Prop} (p:IsPart v o) (h:Q o s):wpAny (model prog w) A (Builtin.Slice.slicePartIndex v) Q E s:=by
 cases p with
 | none=>exact slicePart_none h
 | int i t=>exact slicePart_int h
theorem aeD {sl:Addr} {vl vu:Value} {lo hi:Option Int} {n:Nat} {Q:Int × Int × Nat→Shared→Prop} (hs:s.heap.IsSliceOf sl vl vu .none) (pl:IsPart vl lo) (pu:IsPart vu hi)
  (h:Q (((sIx n 0 lo:Nat):Int),1,sIx n n hi - sIx n 0 lo) s):wpAny (model prog w) A (Builtin.Slice.sliceApplied (.ref sl) (pure (n:Int))) Q E s:=by
 obtain ⟨os,hos,hcs,hds⟩:=id hs
 unfold Builtin.Slice.sliceApplied Builtin.Slice.sliceFields
 refine wpAny_bind (wpAny_bind (wpAny_field hos hds (x:=vl) rfl (wpAny_bind (wpAny_field hos hds (x:=vu) rfl (wpAny_bind (wpAny_field hos hds (x:=.none) rfl (wpAny_pure ?_)))))))
 refine wpAny_bind (slicePart_none ?_)
 show wpAny _ _ (if ((1:Int) == 0)=true then _ else _) _ _ s
 rw [if_neg (by decide)]
 refine wpAny_bind (afG pl (wpAny_bind (afG pu (wpAny_bind (wpAny_pure ?_)))))
 show wpAny _ _ (match Builtin.Slice.sliceAdjust lo hi 1 (n:Int) with | (lo,hi)=>pure (lo,(1:Int),Builtin.Slice.slicePlaces lo hi 1)) _ _ s
 rw [aiW lo hi n]
 show wpAny _ _ (pure (((sIx n 0 lo:Nat):Int),(1:Int),Builtin.Slice.slicePlaces ((sIx n 0 lo:Nat):Int) ((sIx n n hi:Nat):Int) 1)) _ _ s
 rw [aiV]
 exact wpAny_pure h
theorem akQ (xs:Array Value) (i k:Nat):((List.range k).filterMap fun (m:Nat)=>xs[((i:Int)+(m:Int)*1).toNat]?).toArray=((xs.toList.drop i).take k).toArray:=by
 have e:(fun (m:Nat)=>xs[((i:Int)+(m:Int)*1).toNat]?)=fun m=>xs[i+m]?:=by
  funext m
  have:((i:Int)+(m:Int)*1).toNat=i+m:=by omega
  rw [this]
 rw [e]
 have:=pick_run xs i k
 rw [List.filterMap_map] at this
 have e2:((fun x=>xs[x]?) ∘ fun x=>i+x)=fun m=>xs[i+m]?:=rfl
 rw [e2] at this
 rw [this]
theorem getItem_tuple_cut {t sl:Addr} {items:Array Value} {vl vu:Value} {lo hi:Option Int} {Q:Value→Shared→Prop} (ht:IsTup s.heap t items) (hs:s.heap.IsSliceOf sl vl vu .none) (pl:IsPart vl lo) (pu:IsPart vu hi)
  (hw:¬ (sIx items.size 0 lo=0∧sIx items.size items.size hi=items.size))
  (h:Q (.ref s.heap.objs.size) { s with heap:=s.heap.push { cls:=.type "tuple",data:=.seq ((items.toList.drop (sIx items.size 0 lo)).take (sIx items.size items.size hi - sIx items.size 0 lo)).toArray } })
  (hsz:items.size≤sizeLine):wpAny (model prog w) A (getItem (.ref t) (.ref sl)) Q E s:=by
 have htake:sizeOk (.seq ((items.toList.drop (sIx items.size 0 lo)).take (sIx items.size items.size hi - sIx items.size 0 lo)).toArray):=by
  show ((items.toList.drop (sIx items.size 0 lo)).take (sIx items.size items.size hi - sIx items.size 0 lo)).toArray.size≤sizeLine
  rw [List.size_toArray,List.length_take,List.length_drop,Array.length_toList]
  omega
 have hj:sIx items.size items.size hi≤items.size:=an1 _ _ (Nat.le_refl _) hi
 obtain ⟨os,hos,hcs,hds⟩:=id hs
 have hTs:s.TypeIs (.ref sl) "slice":=⟨os,hos,hcs⟩
 unfold getItem
 try with_reducible refine wpAny_holding ?_
 first | refine wpAny_bind (wpAny_pure ?_) | skip
 refine wpAny_bind (wpAny_sequenceKey ht.typeIs (by decide) ?_)
 refine wpAny_bind (wpAny_callSpecial?_slot (name:=Str.ofString "__getitem__") ht.typeIs PyProof.Rows.slot_tuple_getitem
  (wpAny_call_entry PyProof.Rows.slot_tuple_getitem ht.typeIs entry_tuple_getitem ?_ (args_tuple_getitem _ _)))
 show wpAny _ _ (Builtin.Tuple.tupleItemsOf (.ref t) >>= _) _ _ s
 refine wpAny_bind (tupleItemsOf_ ht ?_)
 refine wpAny_bind (wpAny_typeOf hTs ?_)
 rw [if_pos (by decide)]
 refine wpAny_bind (aeD hs pl pu ?_)
 have hno:¬ ((((sIx items.size 0 lo:Nat):Int) == 0 && (1:Int) == 1 && (sIx items.size items.size hi - sIx items.size 0 lo) == items.size)=true):=by
  intro q
  rw [Bool.and_eq_true,Bool.and_eq_true] at q
  have q1:((sIx items.size 0 lo:Nat):Int)=0:=eq_of_beq q.1.1
  have q2:sIx items.size items.size hi - sIx items.size 0 lo=items.size:=eq_of_beq q.2
  exact hw ⟨by omega,by omega⟩
 show wpAny _ _ (if (((sIx items.size 0 lo:Nat):Int) == 0 && (1:Int) == 1 && (sIx items.size items.size hi - sIx items.size 0 lo) == items.size)=true then _ else _) _ _ s
 rw [if_neg hno,akQ]
 first
  | exact wpAny_bind (m:=Builtin.Tuple.tupleExact _) (wpAny_newObj_type (wpAny_pure ⟨_,rfl,wpAny_pure h⟩) htake)
  | exact wpAny_bind (m:=Builtin.Tuple.tupleExact _) (wpAny_newObj_type (wpAny_bind (wpAny_pure (wpAny_pure ⟨_,rfl,wpAny_pure h⟩))) htake)
  | exact wpAny_bind (wpAny_bind (m:=Builtin.Tuple.tupleExact _) (wpAny_newObj_type (wpAny_pure (wpAny_pure ⟨_,rfl,wpAny_pure h⟩)) htake))
  | exact wpAny_bind (wpAny_bind (m:=Builtin.Tuple.tupleExact _) (wpAny_newObj_type (wpAny_pure ⟨_,rfl,wpAny_pure h⟩) htake))
end
end HT
namespace L2
open PySem PySem.Spec PyProof.Rows
abbrev TO:=St→Hp→(Option Int→Hp→Prop)→Prop
def PO (X:Cx) (e:Option Expr) (t:TO):Prop :=
 ∀ (pins:List (Addr × Obj)) (s:Shared) (σ:St) (H:Hp) (Q:Option Int→Hp→Prop),Inv X pins σ H s→t σ H Q →
  wpAny (model X.prog X.w) X.A (evalPart e X.env) (fun u s'=>∃ o H',Inv X pins σ H' s'∧IsPart u o∧Q o H') X.xe s
def amF:TO:=fun _ H Q=>Q none H
def apI (t:TE):TO:=fun σ H Q=>t σ H fun x H1=>∃ i,x=.int i∧Q (some i) H1
section
variable {X:Cx} {e:Expr} {te:TE} {lo hi:Option Expr} {tl th:TO} {pos p2:Pos}
theorem ani:PO X none amF:=by
 intro pins s σ H Q I h
 rw [evalPart_none]
 exact wpAny_pure ⟨none,H,I,.none,h⟩
theorem am6 (h:PE X e te):PO X (some e) (apI te):=by
 intro pins s σ H Q I hw
 rw [evalPart_some]
 refine thn (h pins s σ H _ I hw) fun u s1 ⟨x,H1,I1,r1,q1⟩=>?_
 obtain ⟨i,rfl,q⟩:=q1
 obtain ⟨t,rfl⟩:=r1
 exact ⟨some i,H1,I1,.int i t,q⟩
def SlR (X:Cx) (r:V→Option Int→Option Int→Hp→VK→Prop):Prop :=
 ∀ (pins:List (Addr × Obj)) (s:Shared) (σ:St) (H:Hp) (x:V) (v vl vu:Value) (lo hi:Option Int) (sl:Addr) (Q:VK),Inv X pins σ H s→RelV x v→s.heap.IsSliceOf sl vl vu .none→IsPart vl lo→IsPart vu hi→r x lo hi H Q →
  ∃ T id,typeLookup (.type T) "__getitem__"=pure (some (.builtin id))∧s.TypeIs v T∧wpAny (model X.prog X.w) X.A (getItem v (.ref sl)) (EP X pins σ Q) X.xe s
theorem SlR.or {r r':V→Option Int→Option Int→Hp→VK→Prop} (h:SlR X r) (h':SlR X r'):SlR X (fun x lo hi H Q=>r x lo hi H Q∨r' x lo hi H Q):=by
 intro pins s σ H x v vl vu lo hi sl Q I rx hs pl pu q
 rcases q with q | q
 ·exact h pins s σ H x v vl vu lo hi sl Q I rx hs pl pu q
 ·exact h' pins s σ H x v vl vu lo hi sl Q I rx hs pl pu q
def tSl (r:V→Option Int→Option Int→Hp→VK→Prop) (te:TE) (tl th:TO):TE:=fun σ H Q=>te σ H fun x H1=>tl σ H1 fun l H2=>th σ H2 fun u H3=>r x l u H3 Q
theorem akT {r:V→Option Int→Option Int→Hp→VK→Prop} (hr:SlR X r) (he:PE X e te) (hl:PO X lo tl) (hu:PO X hi th):PE X (.Subscript e (.Slice lo hi none p2) pos) (tSl r te tl th):=by
 intro pins s σ H Q I h
 refine Subscript_ (thn (he pins s σ H _ I h) fun v s1 ⟨x,H1,I1,r1,q1⟩=>?_)
 refine wpAny_Slice (thn (hl pins s1 σ H1 _ I1 q1) fun vl s2 ⟨l,H2,I2,pl,q2⟩=>thn (hu pins s2 σ H2 _ I2 q2) fun vu s3 ⟨u,H3,I3,pu,q3⟩=>?_)
 rw [evalPart_none]
 refine wpAny_pure ?_
 have I4:Inv X pins σ H3 { s3 with heap:=s3.heap.push { cls:=.type "slice",data:=.fields #[vl,vu,.none] } }:=I3.kept (t':=s3.toks) fun b ob q=>Heap.get?_push_of_some _ q
 obtain ⟨T,id,hT,ht,hg⟩:=hr pins { s3 with heap:=s3.heap.push { cls:=.type "slice",data:=.fields #[vl,vu,.none] } } σ H3 x v vl vu l u s3.heap.objs.size Q I4 r1 (Heap.IsSliceOf.new ..) pl pu q3
 show wpAny (model X.prog X.w) X.A (subscriptTail e (.Slice lo hi none p2) v (.ref s3.heap.objs.size)) (EP X pins σ Q) X.xe { s3 with heap:=s3.heap.push { cls:=.type "slice",data:=.fields #[vl,vu,.none] } }
 exact tail_any (ops:=[.ref s3.heap.objs.size,v]) ht hT hg (by with_unfolding_all rfl)
def cutV (xs:List V) (lo hi:Option Int):List V:=(xs.drop (HT.sIx xs.length 0 lo)).take (HT.sIx xs.length xs.length hi - HT.sIx xs.length 0 lo)
theorem ac5 (xs:List V) (lo hi:Option Int):(cutV xs lo hi).length≤xs.length:=by
 unfold cutV
 rw [List.length_take,List.length_drop]
 omega
def rSlT (K:PySem.W.Frag):V→Option Int→Option Int→Hp→VK→Prop:=fun x lo hi H Q=>∃ a xs,x=.ref a∧SqT K H a xs ∧
 ¬ (HT.sIx xs.length 0 lo=0∧HT.sIx xs.length xs.length hi=xs.length)∧∀ p,H p=none→Q (.ref p) (upd H p (.tup (cutV xs lo hi)))
theorem anS:SlR X (rSlT X.K):=by
 intro pins s σ H x v vl vu lo hi sl Q I rx hs pl pu h
 obtain ⟨a,xs,rfl,hx,hw,q⟩:=h
 cases rx
 obtain ⟨its,r,ht,hz⟩:=I.tuple hx
 have hlen:its.toArray.size=xs.length:=by rw [List.size_toArray]; exact r.length.symm
 refine ⟨"tuple",_,PyProof.Rows.slot_tuple_getitem.lookup,ht.typeIs,?_⟩
 refine HT.getItem_tuple_cut ht hs pl pu (by rw [hlen]; exact hw) ?_ (by rw [hlen]; exact hz)
 rw [hlen]
 refine ⟨.ref s.heap.objs.size,_,I.laid (t':=s.toks) (o:=.tup (cutV xs lo hi)) (fun b ob q=>Heap.get?_push_of_some _ q) (Nat.le_refl _) ?_,rfl,q _ (I.hok.fresh (Nat.le_refl _))⟩
 exact ⟨Nat.le_trans (ac5 xs lo hi) hz,_,(r.drop (HT.sIx xs.length 0 lo)).take (HT.sIx xs.length xs.length hi - HT.sIx xs.length 0 lo),IsTup.new _ _⟩
def amE (K:PySem.W.Frag):R2:=fun x y H Q=>∃ a b xs ys,x=.ref a∧y=.ref b∧SqT K H a xs∧SqT K H b ys∧xs≠[]∧xs.length+ys.length≤sizeLine ∧
 (ys=[]→Q (.ref a) H)∧(ys≠[]→∀ p,H p=none→Q (.ref p) (upd H p (.tup (xs++ys))))
theorem Vals.nil_iff {xs:List V} {us:List Value} (r:Vals xs us):us=[]↔xs=[]:=by
 cases r with
 | nil=>simp
 | cons _ _=>simp
theorem akk:OpR X (binaryOp .Add) (amE X.K):=by
 intro pins s σ H x y v u Q I rx ry h
 obtain ⟨a,b,xs,ys,rfl,rfl,ha,hb,hx,hz,q1,q2⟩:=h
 cases rx
 cases ry
 obtain ⟨its,r1,p1,_⟩:=I.tuple ha
 obtain ⟨its2,r2,p2,_⟩:=I.tuple hb
 refine HT.cat_tup p1 p2 (fun z=>hx (r1.nil_iff.mp z)) (fun z=>⟨.ref a,H,I,rfl,q1 (r2.nil_iff.mp z)⟩) (fun z=>?_) (by rw [← r1.length,← r2.length]; exact hz)
 refine ⟨.ref s.heap.objs.size,_,I.laid (t':=s.toks) (o:=.tup (xs++ys)) (fun b ob q=>Heap.get?_push_of_some _ q) (Nat.le_refl _) ?_,rfl,q2 (fun w=>z (r2.nil_iff.mpr w)) _ (I.hok.fresh (Nat.le_refl _))⟩
 exact ⟨by rw [List.length_append]; exact hz,_,r1.append r2,IsTup.new _ _⟩
end
end L2
namespace L2
open PySem PySem.Spec PyProof.Rows
def ixN (n:Nat) (i:Int):Option Nat:=if 0≤i then (if i < n then some i.toNat else none) else if -(n:Int)≤i then some (i+n).toNat else none
def atI {α:Type} (xs:List α) (i:Int):Option α:=(ixN xs.length i).bind fun j=>xs[j]?
theorem ake {n:Nat} {i:Int} {j:Nat} (h:ixN n i=some j):seqIndex? i n=some j∧j < n∧-(n:Int)≤i∧i < n:=by
 unfold ixN at h
 by_cases h0:0≤i
 ·rw [if_pos h0] at h
  by_cases h1:i < n
  ·rw [if_pos h1] at h
   have e:i.toNat=j:=Option.some.inj h
   exact ⟨by rw [seqIndex_of h0 h1,e],by omega,by omega,h1⟩
  ·rw [if_neg h1] at h; cases h
 ·rw [if_neg h0] at h
  by_cases h1:-(n:Int)≤i
  ·rw [if_pos h1] at h
   have e:(i+n).toNat=j:=Option.some.inj h
   exact ⟨by rw [seqIndex_neg (by omega) h1,e],by omega,h1,by omega⟩
  ·rw [if_neg h1] at h; cases h
theorem ahk {α:Type} {xs:List α} {i:Int} {v:α} (h:atI xs i=some v):∃ j,seqIndex? i xs.length=some j∧xs[j]?=some v∧j < xs.length∧-(xs.length:Int)≤i∧i < xs.length:=by
 unfold atI at h
 cases e:ixN xs.length i with
 | none=>rw [e] at h; cases h
 | some j =>
  rw [e] at h
  obtain ⟨h1,h2,h3,h4⟩:=ake e
  exact ⟨j,h1,h,h2,h3,h4⟩
theorem anC {α:Type} {xs:List α} {j:Nat} {v:α} (h:xs[j]?=some v):atI xs (j:Int)=some v:=by
 have hj:j < xs.length:=(List.getElem?_eq_some_iff.mp h).1
 have e:ixN xs.length (j:Int)=some j:=by
  unfold ixN
  rw [if_pos (by omega),if_pos (by omega)]; simp
 unfold atI; rw [e]; exact h
theorem akP {α:Type} (xs:List α) (v:α):atI (xs++[v]) (-1)=some v:=by
 have hl:(xs++[v]).length=xs.length+1:=by simp
 have e:ixN (xs++[v]).length (-1)=some xs.length:=by
  unfold ixN
  rw [hl,if_neg (by decide),if_pos (by omega)]
  congr 1
  omega
 unfold atI
 rw [e]
 show (xs++[v])[xs.length]?=some v
 simp
def ahH (b:Expr):Prop:=∀ o i,subscripted b false o i=operate [o,i] (getItem o i)
def IxR (X:Cx) (r:R2):Prop :=
 ∀ (value slice:Expr) (pins:List (Addr × Obj)) (s:Shared) (σ:St) (H:Hp) (x y:V) (v u:Value) (Q:VK),Inv X pins σ H s→RelV x v→RelV y u→r x y H Q →
  subscripted slice false v u=operate [v,u] (getItem v u)→wpAny (model X.prog X.w) X.A (subscriptTail value slice v u) (EP X pins σ Q) X.xe s
def MtR (X:Cx) (id:String) (r:V→List V→Hp→VK→Prop):Prop :=
 ∀ (pins:List (Addr × Obj)) (s:Shared) (σ:St) (H:Hp) (x:V) (xs:List V) (v:Value) (us:List Value) (Q:VK),Inv X pins σ H s→RelV x v→Vals xs us→r x xs H Q →
  wpAny (model X.prog X.w) X.A (call (.builtin id) (v :: us)) (EP X pins σ Q) X.xe s
section
variable {X:Cx} {a b:Expr} {ta tb:TE} {pos:Pos}
theorem IxR.or {r r':R2} (h:IxR X r) (h':IxR X r'):IxR X (fun x y H Q=>r x y H Q∨r' x y H Q):=by
 intro value slice pins s σ H x y v u Q I rx ry q hs
 rcases q with q | q
 ·exact h value slice pins s σ H x y v u Q I rx ry q hs
 ·exact h' value slice pins s σ H x y v u Q I rx ry q hs
theorem aoM {r:R2} (hr:IxR X r) (ha:PE X a ta) (hb:PE X b tb) (hs:ahH b):PE X (.Subscript a b pos) (tOp r ta tb):=by
 intro pins s σ H Q I h
 exact Subscript_ (binT ha hb I h fun v u s2 x y H2 I2 rx ry q=>hr a b pins s2 σ H2 x y v u Q I2 rx ry q (hs _ _))
def rIxL (K:PySem.W.Frag):R2:=fun x y H Q=>∃ p xs i v,x=.ref p∧y=.int i∧SqL K H p xs∧atI xs i=some v∧Q v H
def rIxT (K:PySem.W.Frag):R2:=fun x y H Q=>∃ p xs i v,x=.ref p∧y=.int i∧SqT K H p xs∧atI xs i=some v∧Q v H
def rIxS:R2:=fun x y H Q=>∃ z i c,x=.str z∧y=.int i∧z.length≤sizeLine∧atI z.cps.toList i=some c∧Q (.str ⟨#[c]⟩) H
theorem ang:IxR X (rIxL X.K):=by
 intro value slice pins s σ H x y v u Q I rx ry h hs
 obtain ⟨p,xs,i,z,rfl,rfl,hq,he,q⟩:=h
 cases rx
 obtain ⟨t,rfl⟩:=ry
 obtain ⟨its,r,pl,hz⟩:=I.list hq
 obtain ⟨j,h1,h2,h3,h4,h5⟩:=ahk he
 obtain ⟨w,ew,rw'⟩:=r.get h2
 have hl:=r.length
 have hn:=agY
 have fin:EP X pins σ Q w s:=⟨z,H,I,rw',q⟩
 by_cases h0:0≤i
 ·have hj:i.toNat=j:=by
   rw [seqIndex_of h0 h5] at h1
   exact Option.some.inj h1
  exact item_listR pl.isList h0 (by omega) (by rw [hj]; simpa using ew) fin hs
 ·have hj:(i+(its.toArray.size:Int)).toNat=j:=by
   rw [seqIndex_neg (by omega) h4] at h1
   rw [List.size_toArray,← hl]
   exact Option.some.inj h1
  exact subscriptTail_builtinR (x:=w) pl.isList.typeIs slot_list_getitem.lookup
   (wpAny_getItem_list_neg (Q:=fun r s'=>r=w∧EP X pins σ Q r s') pl.isList (by omega) (by rw [List.size_toArray] <;> omega) (by omega) (by rw [hj]; simpa using ew) ⟨rfl,fin⟩) hs
theorem aof:IxR X (rIxT X.K):=by
 intro value slice pins s σ H x y v u Q I rx ry h hs
 obtain ⟨p,xs,i,z,rfl,rfl,hq,he,q⟩:=h
 cases rx
 obtain ⟨t,rfl⟩:=ry
 obtain ⟨its,r,pl,hz⟩:=I.tuple hq
 obtain ⟨j,h1,h2,h3,h4,h5⟩:=ahk he
 obtain ⟨w,ew,rw'⟩:=r.get h2
 have hl:=r.length
 have hn:=agY
 have fin:EP X pins σ Q w s:=⟨z,H,I,rw',q⟩
 exact subscriptTail_builtinR (x:=w) pl.typeIs slot_tuple_getitem.lookup
  (getItem_tuple (j:=j) (Q:=fun r s'=>r=w∧EP X pins σ Q r s') pl (by omega) (by omega) (by rw [List.size_toArray,← hl]; exact h1) (by simpa using ew) ⟨rfl,fin⟩) hs
theorem aoA:IxR X rIxS:=by
 intro value slice pins s σ H x y v u Q I rx ry h hs
 obtain ⟨z,i,c,rfl,rfl,hz,he,q⟩:=h
 obtain ⟨t,rfl⟩:=rx
 obtain ⟨t',rfl⟩:=ry
 obtain ⟨j,h1,h2,h3,h4,h5⟩:=ahk he
 have hl:z.cps.toList.length=z.length:=by simp [Str.length]
 rw [hl] at h1 h4 h5
 have hn:=agY
 exact tail_any (typeIs_str s z t) slot_str_getitem.lookup (getItem_str (c:=c) (by
  have e1:decide (i < -(2 ^ 63:Int))=false:=decide_eq_false (by omega)
  have e2:decide (i ≥ 2 ^ 63)=false:=decide_eq_false (by omega)
  rw [e1,e2,Bool.or_false]) (by rw [h1]; simpa using h2) ⟨.str ⟨#[c]⟩,H,I.tok _,⟨_,rfl⟩,q⟩) hs
def rIx (K:PySem.W.Frag):R2:=fun x y H Q=>rIxL K x y H Q∨rIxT K x y H Q∨rIxS x y H Q
theorem alT:IxR X (rIx X.K):=ang.or (aof.or aoA)
theorem ai2 (its:List Value) (n j:Nat) (u:Value):Obj.mapSeq (·.setIfInBounds j u) { cls:=.type "list",data:=.seq its.toArray n }={ cls:=.type "list",data:=.seq (its.set j u).toArray n }:=by
 simp [Obj.mapSeq]
theorem Inv.lst {pins:List (Addr × Obj)} {σ:St} {H:Hp} {s:Shared} {p:Addr} {xs:List V} (I:Inv X pins σ H s) (h:H p=some (.lst xs)) :
  ∃ (its:List Value) (n:Nat),Vals xs its∧s.heap.get? p=some { cls:=.type "list",data:=.seq its.toArray n }∧xs.length≤sizeLine:=by
 obtain ⟨z,its,n,r,e⟩:=I.hok p _ h
 exact ⟨its,n,r,e,z⟩
theorem Inv.lstUpd {pins:List (Addr × Obj)} {σ:St} {H:Hp} {s:Shared} {p:Addr} {xs ys:List V} {its its':List Value} {n n':Nat} {f:Obj→Obj} (I:Inv X pins σ H s) (h:H p=some (.lst xs))
  (ho:s.heap.get? p=some { cls:=.type "list",data:=.seq its.toArray n }) (hf:f { cls:=.type "list",data:=.seq its.toArray n }={ cls:=.type "list",data:=.seq its'.toArray n' }) (r:Vals ys its') (hz:ys.length≤sizeLine) (t:Nat) :
  Inv X pins σ (upd H p (.lst ys)) { s with heap:=s.heap.update p f,toks:=t }:=by
 have e:(s.heap.update p f).get? p=some { cls:=.type "list",data:=.seq its'.toArray n' }:=by
  rw [Heap.get?_update_self f ho (by rw [hf] <;> rfl),hf]
 refine I.write (x:=p) (e:=p) (by rw [h]; trivial) (.inl rfl) (fun b u hb q=>(Heap.get?_update_other _ _ (Ne.symm hb)).trans q) ⟨_,e⟩ ?_
 exact ⟨hz,its',n',r,e⟩
def apK:V→V→V→Hp→(Hp→Prop)→Prop:=fun o i v H Q=>∃ p xs k j,o=.ref p∧i=.int k∧H p=some (.lst xs)∧ixN xs.length k=some j∧Q (upd H p (.lst (xs.set j v)))
theorem ahZ:PSet X apK:=by
 intro pins s σ H o i v ov iv u Q I ro ri rv h
 obtain ⟨p,xs,k,j,rfl,rfl,hp,hj,q⟩:=h
 cases ro
 obtain ⟨t,rfl⟩:=ri
 obtain ⟨its,n,r,ho,hz⟩:=I.lst hp
 obtain ⟨h1,h2,h3,h4⟩:=ake hj
 have hl:=r.length
 have hn:=agY
 have I':Inv X pins σ (upd H p (.lst (xs.set j v))) { s with heap:=s.heap.update p (Obj.mapSeq (·.setIfInBounds j u)) } :=
  I.lstUpd hp ho (ai2 its n j u) (r.set rv j) (by rw [List.length_set]; exact hz) s.toks
 by_cases h0:0≤k
 ·have hk:k.toNat=j:=by
   rw [seqIndex_of h0 h4] at h1
   exact Option.some.inj h1
  exact PySem.W.ki_setAt ho h0 (by omega) (by rw [List.size_toArray,← hl]; exact h4) (by rw [hk]; exact ⟨_,I',q⟩)
 ·have hk:(k+(its.toArray.size:Int)).toNat=j:=by
   rw [seqIndex_neg (by omega) h3] at h1
   rw [List.size_toArray,← hl]
   exact Option.some.inj h1
  exact PySem.W.ki_setBack ho (by omega) (by rw [List.size_toArray,← hl]; exact h3) (by omega) (by rw [hk]; exact ⟨_,I',q⟩)
theorem agR (lo hi:Option Int) (n:Nat):(sliceBounds lo hi none n).1=((HT.sIx n 0 lo:Nat):Int)∧(sliceBounds lo hi none n).2.1=((HT.sIx n n hi:Nat):Int)∧(sliceBounds lo hi none n).2.2=1:=by
 refine ⟨?_,?_,rfl⟩
 ·cases lo with
  | none=>simp [sliceBounds,HT.sIx]
  | some i =>
   simp only [sliceBounds,HT.sIx,Option.getD_none,show (1:Int) > 0 by decide,if_true]
   by_cases h:i < 0
   ·simp only [h,if_true] <;> omega
   ·simp only [h,if_false] <;> omega
 ·cases hi with
  | none=>simp [sliceBounds,HT.sIx]
  | some i =>
   simp only [sliceBounds,HT.sIx,Option.getD_none,show (1:Int) > 0 by decide,if_true]
   by_cases h:i < 0
   ·simp only [h,if_true] <;> omega
   ·simp only [h,if_false] <;> omega
theorem agn (its:List Value) (lo hi:Option Int):slicePick its.toArray lo hi none=((its.drop (HT.sIx its.length 0 lo)).take (HT.sIx its.length its.length hi - HT.sIx its.length 0 lo)).toArray:=by
 obtain ⟨h1,h2,h3⟩:=agR lo hi its.toArray.size
 unfold slicePick
 rw [h1,h2,h3]
 simp only [sliceRange_one,pick_run,List.size_toArray] <;> rfl
def rSlL (K:PySem.W.Frag):V→Option Int→Option Int→Hp→VK→Prop:=fun x lo hi H Q=>∃ a xs,x=.ref a∧SqL K H a xs∧∀ p,H p=none→Q (.ref p) (upd H p (.lst (cutV xs lo hi)))
theorem am2:SlR X (rSlL X.K):=by
 intro pins s σ H x v vl vu lo hi sl Q I rx hs pl pu h
 obtain ⟨a,xs,rfl,hx,q⟩:=h
 cases rx
 obtain ⟨its,r,ht,hz⟩:=I.list hx
 have hlen:=r.length
 refine ⟨"list",_,slot_list_getitem.lookup,ht.isList.typeIs,?_⟩
 refine wpAny_getItem_list_slice ht.isList hs pl pu .none (by simp) ?_ (by rw [List.size_toArray] <;> omega)
 rw [agn,← hlen]
 refine ⟨.ref s.heap.objs.size,_,I.laid (t':=s.toks) (o:=.lst (cutV xs lo hi)) (fun b ob q=>Heap.get?_push_of_some _ q) (Nat.le_refl _) ?_,rfl,q _ (I.hok.fresh (Nat.le_refl _))⟩
 exact ⟨Nat.le_trans (ac5 xs lo hi) hz,_,0,(r.drop (HT.sIx xs.length 0 lo)).take (HT.sIx xs.length xs.length hi - HT.sIx xs.length 0 lo),Heap.get?_push_size _ rfl⟩
theorem aaQ:aeG X (.builtin "len") (fun xs H Q=>∃ p ys,xs=[.ref p]∧(SqL X.K H p ys∨SqT X.K H p ys)∧Q (.int ys.length) H):=by
 intro pins s σ H xs us Q I r h
 obtain ⟨p,ys,rfl,hq,q⟩:=h
 obtain ⟨u,rfl,rx⟩:=afr r
 cases rx
 have hn:=agY
 rcases hq with hq | hq
 ·obtain ⟨its,r',pl,hz⟩:=I.list hq
  have hlen:=r'.length
  exact Calls.call_len_list pl.isList (by simp only [List.size_toArray] <;> omega) ⟨.int ys.length,H,I.tok _,⟨s.toks+1,by rw [List.size_toArray,hlen]⟩,q⟩
 ·obtain ⟨its,r',pl,hz⟩:=I.tuple hq
  have hlen:=r'.length
  exact len_tuple pl (by simp only [List.size_toArray] <;> omega) ⟨.int ys.length,H,I.tok _,⟨s.toks+1,by rw [List.size_toArray,hlen]⟩,q⟩
theorem acH:aeG X (.type "list") (fun xs H Q=>∃ p ys,xs=[.ref p]∧(SqL X.K H p ys∨SqT X.K H p ys)∧∀ l,H l=none→Q (.ref l) (upd H l (.lst ys))):=by
 intro pins s σ H xs us Q I r h
 obtain ⟨p,ys,rfl,hq,q⟩:=h
 obtain ⟨u,rfl,rx⟩:=afr r
 cases rx
 have fin:∀ (its:List Value),Vals ys its→ys.length≤sizeLine→∀ (h':Heap) (c':Nat),(∀ b o',s.heap.get? b=some o'→h'.get? b=some o') →
   h'.get? s.heap.objs.size=some { cls:=.type "list",dict:=none,data:=.seq its.toArray c',slots:=#[] }→EP X pins σ Q (.ref s.heap.objs.size) { s with heap:=h' }:=fun its r' hz h' c' kp e =>
  ⟨.ref s.heap.objs.size,_,I.laid (t':=s.toks) kp (Nat.le_refl _) (show adj X.prog X.w _ h' _ (.lst ys) from ⟨hz,its,c',r',e⟩),rfl,q _ (I.hok.fresh (Nat.le_refl _))⟩
 rcases hq with hq | hq
 ·obtain ⟨its,r',pl,hz⟩:=I.list hq
  have hlen:=r'.length
  obtain ⟨o,ho,hc,n,hd⟩:=pl.isList
  exact call_list_seq p (.inl rfl) ho hc hd (fun h' c' kp e=>fin its r' hz h' c' kp e) (by simp only [List.size_toArray] <;> omega)
 ·obtain ⟨its,r',pl,hz⟩:=I.tuple hq
  have hlen:=r'.length
  obtain ⟨o,ho,hc,n,hd⟩:=pl
  exact call_list_seq p (.inr rfl) ho hc hd (fun h' c' kp e=>fin its r' hz h' c' kp e) (by simp only [List.size_toArray] <;> omega)
theorem abx:aeG X (.type "tuple") (fun xs H Q=>∃ p ys,xs=[.ref p]∧((SqL X.K H p ys∧∀ l,H l=none→Q (.ref l) (upd H l (.tup ys)))∨(SqT X.K H p ys∧Q (.ref p) H))):=by
 intro pins s σ H xs us Q I r h
 obtain ⟨p,ys,rfl,h⟩:=h
 obtain ⟨u,rfl,rx⟩:=afr r
 cases rx
 rcases h with ⟨hq,q⟩ | ⟨hq,q⟩
 ·obtain ⟨its,r',pl,hz⟩:=I.list hq
  have hlen:=r'.length
  refine call_tuple_list pl.isList (fun h' kp=>?_) (by simp only [List.size_toArray] <;> omega)
  have I1:Inv X pins σ H { s with heap:=h' }:=I.kept (t':=s.toks) kp
  have I2:Inv X pins σ (upd H h'.objs.size (.tup ys)) { s with heap:=h'.push { cls:=.type "tuple",data:=.seq its.toArray } } :=
   I1.laid (t':=s.toks) (fun b o e=>Heap.get?_push_of_some _ e) (Nat.le_refl _) (show adj X.prog X.w _ _ _ (.tup ys) from ⟨hz,its,r',IsTup.new _ _⟩)
  exact ⟨.ref h'.objs.size,_,I2,rfl,q _ (I1.hok.fresh (Nat.le_refl _))⟩
 ·obtain ⟨its,r',pl,hz⟩:=I.tuple hq
  exact call_tuple_same pl ⟨.ref p,H,I,rfl,q⟩
def tyV (K:PySem.W.Frag) (T:String) (x:V) (H:Hp):Prop:=match x with
 | .str _=>T="str"
 | .int _=>T="int"
 | .ref p=>(T="list"∧∃ xs,SqL K H p xs)∨(T="tuple"∧∃ o,K.lookup p=some o∧o.cls=.type "tuple"∧o.dict=none) ∨
   (T="dict"∧((∃ kvs,H p=some (.dK kvs))∨∃ kvs,H p=some (.dT kvs)))∨(T="set"∧∃ S n,H p=some (.set S n))
 | _=>False
theorem ao4 {pins:List (Addr × Obj)} {σ:St} {H:Hp} {s:Shared} {T:String} {x:V} {v:Value} (I:Inv X pins σ H s) (r:RelV x v) (ty:tyV X.K T x H) :
  s.TypeIs v T∧∀ a,v=.ref a→∃ ob,s.heap.get? a=some ob∧ob.dict=none:=by
 cases x with
 | str z =>
  obtain ⟨t,rfl⟩:=r
  cases (show T="str" from ty)
  exact ⟨typeIs_str s z t,fun _ e=>nomatch e⟩
 | int i =>
  obtain ⟨t,rfl⟩:=r
  cases (show T="int" from ty)
  exact ⟨typeIs_int s i t,fun _ e=>nomatch e⟩
 | ref p =>
  cases r
  rcases ty with ⟨rfl,xs,hq⟩ | ⟨rfl,o,hk,hc,hd⟩ | ⟨rfl,hk⟩ | ⟨rfl,S,n,hk⟩
  ·obtain ⟨its,_,pl,_⟩:=I.list hq
   refine ⟨pl.isList.typeIs,fun a e=>?_⟩
   cases e
   obtain ⟨o,n,e,c,hd,_⟩:=pl
   exact ⟨o,e,hd⟩
  ·refine ⟨⟨o,I.kIn p o hk,hc⟩,fun a e=>?_⟩
   cases e
   exact ⟨o,I.kIn _ o hk,hd⟩
  ·have z:∃ o,s.heap.get? p=some o∧o.ExactDict:=by
    rcases hk with ⟨kvs,hk⟩ | ⟨kvs,hk⟩
    ·obtain ⟨_,_,_,_,o,_,_,e,ex,_⟩:=I.hok p _ hk
     exact ⟨o,e,ex⟩
    ·obtain ⟨_,_,_,_,o,_,_,e,ex,_⟩:=I.hok p _ hk
     exact ⟨o,e,ex⟩
   obtain ⟨o,e,ex⟩:=z
   refine ⟨⟨o,e,ex.1⟩,fun a e2=>?_⟩
   cases e2
   exact ⟨o,e,ex.2.1⟩
  ·obtain ⟨o,_,_,_,e,ex,_⟩:=I.hok p _ hk
   refine ⟨⟨o,e,ex.1⟩,fun a e2=>?_⟩
   cases e2
   exact ⟨o,e,ex.2.1⟩
 | _=>exact False.elim ty
def tBM (K:PySem.W.Frag) (T:String) (r:V→List V→Hp→VK→Prop) (to:TE) (t:TA):TE:=fun σ H Q=>to σ H fun x H1=>tyV K T x H1∧t σ H1 fun xs H2=>r x xs H2 Q
variable {o e:Expr} {es:List Expr} {to:TE} {t:TA} {name:Str} {apos cpos:Pos} {T id:String} {r:V→List V→Hp→VK→Prop}
theorem amH (pa:PlainAttrs T) (slot:Slot T name id) (hty:typeOf (.builtin id)=pure (.type "method_descriptor")) (hm:MtR X id r) (ho:PE X o to) (ha:PA X (e :: es) t)
  (hbase:attributeBase o name X.env (eval o X.env)=eval o X.env:=by rfl)
  (hfew:((backTo cpos (starEach (e :: es) X.env)).all (fun x=>!x.1) && (backToKw cpos (keywordEach [] X.env)).all (fun x=>x.1.isSome)
   && decide ((e :: es).length+([]:List Keyword).length+(if ([]:List Keyword).isEmpty then 0 else 1) < 30))=true:=by rfl)
  (hline:(apos.endLine == cpos.line)=true:=by rfl) (hs:starEach (e :: es) X.env=(false,eval e X.env) :: starEach es X.env:=by rfl) (hplain:(backTo cpos (starEach es X.env)).any (·.1)=false:=by rfl) :
  PE X (.Call (.Attribute o name apos) (e :: es) [] cpos) (tBM X.K T r to t):=by
 intro pins s σ H Q I h
 refine wpAny_Call_method_late hbase hfew hline rfl (thn (ho pins s σ H _ I h) fun v s1 ⟨x,H1,I1,r1,ty,q1⟩=>?_)
 obtain ⟨h1,h2⟩:=ao4 I1 r1 ty
 refine ⟨T,id,pa,slot,hty,h1,h2,?_⟩
 have hA:=ha cpos pins s1 σ H1 _ I1 q1
 rw [hs] at hA ⊢
 refine Calls.callWith_builtin (by show (false || (backTo cpos (starEach es X.env)).any (·.1))=false; rw [hplain] <;> rfl) (Calls.evalArgs_plain ?_)
 exact thn hA fun us s2 ⟨vs,H2,I2,r2,q2⟩=>hm pins s2 σ H2 x vs v us Q I2 r1 r2 q2
end
end L2
namespace L2
open PySem PySem.Spec PyProof.Rows
def MtM (X:Cx) (id:String) (r:V→List V→Hp→VK→Prop):Prop :=
 ∀ (pins:List (Addr × Obj)) (s:Shared) (σ:St) (H:Hp) (x:V) (xs:List V) (v:Value) (us:List Value) (Q:VK),Inv X pins σ H s→RelV x v→Vals xs us→r x xs H Q →
  wpAny (model X.prog X.w) X.A (call (.builtin id) (v :: us)) (EP X pins σ Q) X.xe s
theorem Vals.one:∀ {x:V} {us:List Value},Vals [x] us→∃ u,us=[u]∧RelV x u
 | _,_,.cons r .nil=>⟨_,rfl,r⟩
theorem Vals.zero:∀ {us:List Value},Vals [] us→us=[]
 | _,.nil=>rfl
theorem Vals.eraseIdx:∀ {xs:List V} {us:List Value} (i:Nat),Vals xs us→Vals (xs.eraseIdx i) (us.eraseIdx i)
 | _,_,_,.nil=>.nil
 | _,_,0,.cons _ t=>t
 | _,_,i+1,.cons r t=>.cons r (Vals.eraseIdx i t)
theorem afd {α:Type}:∀ (l:List α) (i:Nat),(l.eraseIdx i).length≤l.length
 | [],_=>Nat.le_refl _
 | _ :: _,0=>Nat.le_succ _
 | _ :: r,i+1=>Nat.succ_le_succ (afd r i)
section
variable {X:Cx} {pins:List (Addr × Obj)} {σ:St} {H:Hp} {s:Shared} {l b:Addr} {xs ys zs:List V}
theorem Inv.lset {its its':List Value} {n:Nat} {f:Array Value→Array Value} {t':Nat} (I:Inv X pins σ H s) (hH:H l=some (.lst xs))
  (e:s.heap.get? l=some { cls:=.type "list",data:=.seq its.toArray n }) (hf:f its.toArray=its'.toArray) (hv:Vals ys its') (hz:ys.length≤sizeLine) :
  Inv X pins σ (upd H l (.lst ys)) { s with heap:=s.heap.update l (Obj.mapSeq f),toks:=t' }:=by
 have q:=PySem.IsL.update e f
 rw [hf] at q
 refine I.write (x:=l) (e:=l) (by rw [hH]; exact trivial) (.inl rfl) (fun b' u hb hu=>(Heap.get?_update_other s.heap (Obj.mapSeq f) (Ne.symm hb)).trans hu) ⟨_,q⟩ ?_
 exact ⟨hz,its',_,hv,q⟩
theorem Inv.lnew {its:List Value} {t':Nat} (I:Inv X pins σ H s) (hv:Vals ys its) (hz:ys.length≤sizeLine) :
  Inv X pins σ (upd H s.heap.objs.size (.lst ys)) { s with heap:=s.heap.push { cls:=.type "list",data:=.seq its.toArray },toks:=t' } :=
 I.laid (fun _ _ q=>Heap.get?_push_of_some _ q) (Nat.le_refl _) ⟨hz,its,0,hv,Heap.get?_push_size _ rfl⟩
theorem Inv.fresh (I:Inv X pins σ H s):H s.heap.objs.size=none:=I.hok.fresh (Nat.le_refl _)
theorem Inv.lstM (I:Inv X pins σ H s) (hH:H l=some (.lst xs)):xs.length≤sizeLine∧∃ (its:List Value) (n:Nat),Vals xs its∧xs.length=its.length∧s.heap.get? l=some { cls:=.type "list",data:=.seq its.toArray n }:=by
 obtain ⟨z,its,n,r,e⟩:=I.hok l _ hH
 exact ⟨z,its,n,r,r.length,e⟩
theorem akU {n:Nat} (h:n≤sizeLine):Builtin.List.listTooLong n=false:=by
 unfold Builtin.List.listTooLong
 exact decide_eq_false (by omega)
end
section
variable {X:Cx}
def am0:V→List V→Hp→VK→Prop:=fun x vs H Q=>∃ l xs y,x=.ref l∧vs=[y]∧H l=some (.lst xs)∧xs.length < sizeLine∧Q .non (upd H l (.lst (xs++[y])))
theorem adX:MtM X "list.append" am0:=by
 intro pins s σ H x vs v us Q I rx rv h
 obtain ⟨l,xs,y,rfl,rfl,hH,hz,q⟩:=h
 cases rx
 obtain ⟨u,rfl,ru⟩:=rv.one
 obtain ⟨z,its,n,r,hl,e⟩:=I.lstM hH
 refine call_meets F.slot_list_append ⟨_,e,rfl⟩ F.entry_list_append (F.args_list_append_2 _ _) (PySem.list_append l its.toArray n u (by rw [List.size_toArray]; omega)) ⟨e,?_⟩
 refine ⟨.non,_,I.lset (its':=its++[u]) hH e (by simp) (r.append (.cons ru .nil)) ?_,rfl,q⟩
 rw [List.length_append,List.length_singleton]
 omega
def aoT:V→List V→Hp→VK→Prop:=fun x vs H Q=>∃ l xs i k y,x=.ref l∧vs=[.int i]∧H l=some (.lst xs)∧-(2 ^ 63)≤i∧i < 2 ^ 63∧seqIndex? i xs.length=some k∧xs[k]?=some y∧Q y (upd H l (.lst (xs.eraseIdx k)))
theorem akJ:MtM X "list.pop" aoT:=by
 intro pins s σ H x vs v us Q I rx rv h
 obtain ⟨l,xs,i,k,y,rfl,rfl,hH,h1,h2,hk,hy,q⟩:=h
 cases rx
 obtain ⟨u,rfl,ru⟩:=rv.one
 obtain ⟨t,rfl⟩:=ru
 obtain ⟨z,its,n,r,hl,e⟩:=I.lstM hH
 obtain ⟨w,hw,rw'⟩:=r.get hy
 refine call_meets F.slot_list_pop ⟨_,e,rfl⟩ F.entry_list_pop (F.args_list_pop_2 _ _)
  (MeetsSeq.list_pop_at l its.toArray n i t k w (fitsIndex_both h1 h2) (by rw [List.size_toArray,← hl]; exact hk) (by rw [← Array.getElem?_toList]; exact hw) (by rw [List.size_toArray]; omega)) ⟨e,?_⟩
 refine ⟨y,_,I.lset (its':=its.eraseIdx k) hH e ?_ (r.eraseIdx k) ?_,rw',q⟩
 ·show its.toArray.eraseIdxIfInBounds k=(its.eraseIdx k).toArray
  rw [List.eraseIdxIfInBounds_toArray]
 ·have:=afd xs k
  omega
end
section
variable {prog:Program} {w:World} {A:Around} {E:Value→Shared→Prop} {s:Shared}
end
section
variable {X:Cx}
end
end L2
namespace Att
open PySem PySem.W PySem.Calls PyProof.Rows
theorem ae8 {P:Params} {h:Heap}:∀ (ns:List Int) (vs:List Value),WellAll P h vs (ns.map WData.int)→IntsAre vs ns:=by
 intro ns
 induction ns with
 | nil =>
  intro vs w
  rw [List.map_nil] at w
  cases w
  exact .nil
 | cons n ns ih =>
  intro vs w
  rw [List.map_cons] at w
  cases w with
  | cons a b =>
   cases a
   exact .cons _ _ (ih _ b)
theorem ajX {l:OpenLaw} {n:Nat} (hn:l.most=some n) {P:Params} {h:Heap} {args:List WData} {vals:List Value}
  (hpre:l.row.toRowW.claim.pre args=true) (hwl:WellAll P h vals args) :
  ∃ a vs ns,vals=[Value.ref a]∧args=[WData.list (ns.map WData.int)]∧h.get? a=some { cls:=.type "list",data:=.seq vs.toArray }∧IntsAre vs ns∧ns.length≤n:=by
 have hsh:WShape.hasAll [] args [.list .int]=true:=(pre_splitW hpre).1
 have hc:l.pre.holds [] { args:=args }=true:=(pre_splitW hpre).2
 obtain ⟨d,r,rfl,h1,h2⟩:=hasAllW_cons hsh
 obtain rfl:=hasAllW_nil h2
 obtain ⟨xs,rfl,h3⟩:=hasW_list h1
 obtain ⟨ns,rfl⟩:=items_int h3
 have hlen:ns.length≤n:=by
  unfold OpenLaw.pre at hc
  have h4:(WTm.not (.lt (.lit (.int (n:Int))) (.len (.arg 0)))).holds [] { args:=[.list (ns.map .int)] }=true:=by
   have h4:=(holds_andW hc).1
   rw [hn] at h4
   exact h4
  have h5:=condW_of h4 (w_not (w_lt w_lit (w_len_list (w_arg rfl))))
  rw [List.length_map] at h5
  refine Nat.le_of_not_lt fun q=>?_
  have q':(n:Int) < ((ns.length:Nat):Int):=by omega
  first
   | (rw [decide_eq_true q'] at h5; exact absurd h5 (by decide))
   | (simp at h5; omega)
 cases hwl with
 | cons w1 w2 =>
  cases w2
  cases w1 with
  | list ho hall=>exact ⟨_,_,ns,rfl,rfl,ho,ae8 ns _ hall,hlen⟩
theorem ajx (l:OpenLaw) (args:List WData):l.row.toRowW.claim.post args (.bool true) args=true :=
 postW_of (r:=l.row.toRowW) (X:=(true == true))
  (show WShape.has [] (.bool true) .bool=true by first | rfl | decide | simp [WShape.has,WShape.arms,WShape.armsAll])
  (show (WTm.eq .res (.lit (.bool true))).value [] { args:=args,res:=some (.bool true),after:=args }=some (.bool (true == true)) from w_eq_bool (w_res rfl) w_lit) rfl
theorem attach_call {l:OpenLaw} {n:Nat} {q:Program} {loose:List Str} {XP:(Str→Option Value)→Heap→Prop} {YP:World→Heap→Prop} {d:DefRec}
  (hn:l.most=some n) (hdf:d.params.defaults=[])
  (call:∀ (w:World) (s₀ s₁:Shared) (mg mb:Str→Option Value) (fa:Addr) (o:Obj) (pm cd doc:Value) (a:Addr) (vs:List Value) (ns:List Int),
   Ground q loose [] XP w s₀ mg mb s₁.heap→YP w s₁.heap →
   s₁.heap.get? fa=some o→o.data=.func (docDef d.name d.params d.body d.scope pm cd doc)→s₁.heap.CodeRec cd d.name→mg d.name=some (.ref fa) →
   s₁.heap.get? a=some { cls:=.type "list",data:=.seq vs.toArray }→IntsAre vs ns→ns.length≤n→s₁.gens=#[] →
   codeAny (model l.prog w) callerA (.call (.ref fa) ⟨[.ref a],[]⟩) (fun r s'=>r=.ok (.ret (.bool true))∧OldK s₁.heap s'.heap∧s'.os=s₁.os∧AllBare s'.gens) s₁) :
  WalkO q loose XP YP l.row.toRowW d [] (fun f vs=>PySem.call f vs):=by
 intro w s₀ s₁ mg mb G Y fa o pm cd doc dV kV ho hd hcd hD hmg hg args vals as hpre hlay hrd hwl hlo
 obtain rfl:dV=.none:=Dflts.none hD hdf
 obtain rfl:kV=.none:=Dflts.noKw hD
 obtain ⟨a,vs,ns,rfl,rfl,hobj,hints,hlen⟩:=ajX hn hpre hwl
 refine enter_call (codeAny_mono (call w s₀ s₁ mg mb fa o pm cd doc a vs ns G Y ho (fd_plain hd) hcd hmg hobj hints hlen hg) fun r s' hq=>?_)
 obtain ⟨rfl,h2,h3,h4⟩:=hq
 exact ⟨.inl ⟨.bool true,.bool true,[],rfl,fun _=>rfl,.bool true,ajx l _,fun _=>⟨List.Pairwise.nil,fun _ hm=>(nomatch hm)⟩⟩,h2,h3,h4⟩
section
variable {prog:Program} {w:World} {A:Around} {E:Value→Shared→Prop} {s:Shared} {K:Frag}
end
end Att
namespace L2
open PySem PySem.Spec PyProof.Rows
theorem ag9:∀ {vs:List Value} {ns:List Int},IntsAre vs ns→Vals (ns.map V.int) vs
 | _,_,.nil=>.nil
 | _,_,.cons n t h=>.cons ⟨t,rfl⟩ (ag9 h)
def Only (H:Hp):Prop:=∀ b,H b=none∨∃ o xs,H b=some (.frz o (.lst xs))
theorem ak2 {P:Program} {w:World} {K:PySem.W.Frag} {mg mb:Str→Option Value} {CX:CXT} {k:Nat} {fa a:Addr} {fd:FuncData} {x:Str} {sp:Sp} {s₁:Shared} {vs:List Value} {ns:List Int}
  (KX:K.In s₁.heap) (hns:s₁.heap.Ns mainGlobals mg) (hb:s₁.heap.Ns builtinsNs mb) (hbb:∀ x:Str,x≠"__name__"→mb x=bootBuiltins x) (hlim:s₁.heap.NoLimit) (hg:s₁.gens=#[])
  (ha:s₁.heap.get? a=some { cls:=.type "list",data:=.seq vs.toArray }) (hi:IntsAre vs ns) (hl:ns.length≤sizeLine) (hr:Room k callerA)
  (F:∀ base:Heap,K.In base→base.Ns mainGlobals mg→FnOk P w K mg base CX k fa fd [x] sp) (hbind:∀ (s:Shared) (u:Value),BindsTo s fd ⟨[u],[]⟩ [(x,u)])
  (hsp:∀ H:Hp,Only H→SqL K H a (ns.map V.int)→sp [.ref a] H (fun v _=>v=.bl true) fun _ _ _=>False)
  (hCX:∀ H e s',CX [] H s₁ (fun _ _ _=>False) e s'→False) :
  codeAny (model P w) callerA (.call (.ref fa) ⟨[.ref a],[]⟩) (fun r s'=>r=.ok (.ret (.bool true))∧OldK s₁.heap s'.heap∧s'.os=s₁.os∧AllBare s'.gens) s₁:=by
 have rv:=ag9 hi
 have lenV:=hi.length
 -- from an abstract heap in which nothing but the script may be tracked
 have core:∀ H:Hp,Only H→SqL K H a (ns.map V.int)→HOk P w H s₁.heap→(∀ b,H b≠none→b=a)→(H a≠none→K.lookup a=none) →
   codeAny (model P w) callerA (.call (.ref fa) ⟨[.ref a],[]⟩) (fun r s'=>r=.ok (.ret (.bool true))∧OldK s₁.heap s'.heap∧s'.os=s₁.os∧AllBare s'.gens) s₁:=by
  intro H hO hS hok hA hK
  have base_of:∀ {b:Addr} {o:Obj},s₁.heap.get? b=some o→H b=none→(hidT s₁.heap H).get? b=some o:=fun e n=>alE e n
  have noA:∀ {b:Addr} {o:Obj} {es:Array DictEntry} {ep:Nat},s₁.heap.get? b=some o→o.data=.dict es ep→H b=none:=fun {b o es ep} e d=>by
   cases q:H b with
   | none=>rfl
   | some u =>
    have e':b=a:=hA b (by rw [q]; simp)
    subst e'
    rw [ha] at e; cases e
    have d':Data.seq vs.toArray _=Data.dict es ep:=d
    cases d'
  have nsK:∀ {b:Addr} {m:Str→Option Value},s₁.heap.Ns b m→(hidT s₁.heap H).Ns b m:=fun {b m} ⟨o,es,ep,e,d,r⟩=>⟨o,es,ep,base_of e (noA e d),d,r⟩
  have hKb:K.In (hidT s₁.heap H):=fun b o e=>base_of (KX b o e) (by
   cases q:H b with
   | none=>rfl
   | some u =>
    have e':b=a:=hA b (by rw [q]; simp)
    subst e'
    rw [hK (by rw [q]; simp)] at e; cases e)
  have hM:Mod K mg (hidT s₁.heap H):=⟨hKb,nsK hns,⟨mb,nsK hb,hbb⟩,let ⟨mc,h1,h2⟩:=hlim; ⟨mc,nsK h1,h2⟩⟩
  have e0:Env0 P w K mg (hidT s₁.heap H) callerA [] s₁ H:=⟨rfl,hM,fun b o e=>anl e,Nat.le_of_eq (akH _ _),trivial,fun b hb=>absurd (show b∈([]:List Addr) from hb) (by simp),hok,.of_eq hg⟩
  refine codeAny_mono ((F _ hKb (nsK hns)).run callerA [] s₁ H ⟨[.ref a],[]⟩ [.ref a] [.ref a] _ _ hr e0 (hbind s₁ (.ref a)) (.cons rfl .nil) (hsp H hO hS)) fun r s' h=>?_
  cases r with
  | error e=>exact (hCX H e s' h).elim
  | ok fl =>
   cases fl with
   | next=>exact False.elim h
   | brk=>exact False.elim h
   | cont=>exact False.elim h
   | ret u =>
    obtain ⟨v,H',os,bare,un,hok',r',q⟩:=h
    have q':v=.bl true:=q
    subst q'
    obtain rfl:u=Value.bool true:=r'
    refine ⟨rfl,OldK.of_keep fun b o e=>?_,os,bare⟩
    cases q:H b with
    | none=>exact un.keep b o e q (by intro z; exact absurd (show b∈([]:List Addr) from z) (by simp)) (by simp)
    | some u =>
     rcases hO b with z | ⟨ob,xs,z⟩
     ·rw [q] at z; cases z
     ·have z2:=un.frzs b ob _ z
      obtain ⟨e1,_⟩:=hok b _ z
      obtain ⟨e2,_⟩:=hok' b _ z2
      rw [e] at e1; cases e1
      exact e2
 cases hk:K.lookup a with
 | some o =>
  -- the script is one of the module's own objects
  have e:=KX a o hk
  rw [ha] at e
  cases e
  refine core (fun _=>none) (fun _=>.inl rfl) (.inr ⟨_,vs.toArray,_,hk,rfl,rfl,rfl,by rw [List.size_toArray,lenV]; exact hl,by simpa using rv⟩) (fun b u z=>by have z':(none:Option HO)=some u:=z; cases z') (fun b z=>absurd rfl z) fun z=>absurd rfl z
 | none =>
  refine core (fun b=>if b=a then some (.frz { cls:=.type "list",data:=.seq vs.toArray } (.lst (ns.map V.int))) else none) (fun b=>?_) (.inl (.inr ⟨{ cls:=.type "list",data:=.seq vs.toArray },if_pos rfl⟩)) (fun b u z=>?_) (fun b z=>?_) fun _=>hk
  ·by_cases hb:b=a
   ·exact .inr ⟨_,_,if_pos hb⟩
   ·exact .inl (if_neg hb)
  ·by_cases hb:b=a
   ·have z':=(if_pos hb).symm.trans z
    cases z'
    subst hb
    exact ⟨ha,by rw [List.length_map]; exact hl,vs,_,rv,ha⟩
   ·have z':=(if_neg hb).symm.trans z
    cases z'
  ·by_cases hb:b=a
   ·exact hb
   ·exact absurd (if_neg hb) z
end L2
namespace L2
open PySem PySem.Spec PyProof.Rows
theorem walk_of {l:PySem.W.OpenLaw} {n k:Nat} {q:Program} {loose:List Str} {XP:(Str→Option Value)→Heap→Prop} {YP:World→Heap→Prop} {d:DefRec} {K:Params→PySem.W.Frag} {CX:World→CXT} {sp:World→Sp} {x:Str}
  (hn:l.most=some n) (hn2:n≤sizeLine) (hdf:d.params.defaults=[]) (hr:Room k callerA)
  (hY:∀ (w:World) (h:Heap),YP w h→(K w.params).In h)
  (F:∀ (w:World) (mg:Str→Option Value) (fa:Addr) (h:Heap),(K w.params).In h→h.Ns mainGlobals mg→mg d.name=some (.ref fa) →
   ∃ fd:FuncData,(∀ (s:Shared) (u:Value),BindsTo s fd ⟨[u],[]⟩ [(x,u)]) ∧
    ∀ base:Heap,(K w.params).In base→base.Ns mainGlobals mg→FnOk l.prog w (K w.params) mg base (CX w) k fa fd [x] (sp w))
  (hsp:∀ (w:World) (H:Hp) (a:Addr) (ns:List Int),ns.length≤n→Only H→SqL (K w.params) H a (ns.map V.int)→sp w [.ref a] H (fun v _=>v=.bl true) fun _ _ _=>False)
  (hCX:∀ (w:World) (H:Hp) (s:Shared) (e:Value) (s':Shared),CX w [] H s (fun _ _ _=>False) e s'→False) :
  PySem.W.WalkO q loose XP YP l.row.toRowW d [] (fun f vs=>PySem.call f vs):=by
 refine Att.attach_call hn hdf fun w s₀ s₁ mg mb fa o pm cd doc a vs ns G Y ho hd hcd hmg hobj hints hlen hg=>?_
 have KX:=hY w _ Y
 obtain ⟨fd,hb,hF⟩:=F w mg fa _ KX G.T.g hmg
 exact ak2 KX G.T.g G.T.b G.T.builtins G.T.nolimit hg hobj hints (Nat.le_trans hlen hn2) hr hF hb (fun H hO hS=>hsp w H a ns hlen hO hS) fun H e s'=>hCX w H s₁ e s'
end L2
namespace L2
open PySem PySem.Spec PyProof.Rows
abbrev CX0:CXT:=fun _ _ _ _ _ _=>False
abbrev E0:XK:=fun _ _ _=>False
theorem anx {X:Cx}:aiz CX0 X E0:=fun _ _ _ _ _ _ _ h=>h.elim
structure Fun (K:PySem.W.Frag) (x qual:Str) (st:Stmt) (f:Addr) (fd:FuncData):Prop where
 ex:∃ (oc:Value) (od:Option Addr) (kV doc pm:Value) (an:Option Addr) (cdv ct:Value) (osl:Array (Option Value)),
  fd=PySem.W.fnOf x qual (aaz st) (aaw st) (aaf st) .none kV doc pm an cdv ct∧K.lookup f=some ⟨oc,od,.func fd,osl⟩∧PySem.W.codeIn K cdv qual=true
 kp:PySem.W.keepIn K (.ref f)=true
section
variable {P:Program} {w:World} {K:PySem.W.Frag} {mg:Str→Option Value} {base:Heap}
theorem Fun.ok {x qual:Str} {st:Stmt} {f:Addr} {fd:FuncData} {N ps:List Str} {k:Nat} {sp:Sp} (F:Fun K x qual st f fd) (S:aaA N ps (aaf st)) (len:∀ vs H Q E,sp vs H Q E→vs.length=ps.length)
  (hbody:∀ (cdv:Value) (A:Around) (outer:List Env) (s:Shared) (H:Hp) (vs:List V) (Q:VK) (E:XK),Room k (A.deeper (envOfC qual (aaf st) s.heap.objs.size f cdv))→sp vs H Q E →
   ∃ t,PSs (cxOf CX0 P w K mg base N qual (aaf st) f cdv A outer s H E).nox (aaw st) t∧t { nx:=fun _ H'=>Q .non H',rt:=Q } (start N vs) H):FnOk P w K mg base CX0 (k+1) f fd ps sp:=by
 obtain ⟨oc,od,kV,doc,pm,an,cdv,ct,osl,rfl,lk,hcd⟩:=F.ex
 refine alq lk hcd S len fun A outer s H vs Q E hr hsp=>?_
 obtain ⟨t,h,q⟩:=hbody cdv A outer s H vs Q E hr hsp
 exact ⟨t,h.nox,q⟩
theorem Fun.binds {x qual:Str} {st:Stmt} {f:Addr} {fd:FuncData} {ps:List Str} (F:Fun K x qual st f fd)
  (h:∀ (kV doc pm:Value) (an:Option Addr) (cdv ct:Value) (us:List Value),us.length=ps.length→bindArgs (PySem.W.fnOf x qual (aaz st) (aaw st) (aaf st) .none kV doc pm an cdv ct) ⟨us,[]⟩=pure (ps.zip us)):adC K fd ps []:=by
 obtain ⟨oc,od,kV,doc,pm,an,cdv,ct,osl,rfl,lk,hcd⟩:=F.ex
 exact .all (h kV doc pm an cdv ct)
theorem aaT {x qual:Str} {st:Stmt} {f:Addr} {oc:Value} {od an:Option Addr} {osl:Array (Option Value)} {kV doc pm cdv ct:Value} (l:K.lookup f=some ⟨oc,od,.func (PySem.W.fnOf x qual (aaz st) (aaw st) (aaf st) .none kV doc pm an cdv ct),osl⟩)
  (c:PySem.W.codeIn K cdv qual=true) (k:PySem.W.keepIn K (.ref f)=true):Fun K x qual st f (PySem.W.fnOf x qual (aaz st) (aaw st) (aaf st) .none kV doc pm an cdv ct):=⟨⟨oc,od,kV,doc,pm,an,cdv,ct,osl,rfl,l,c⟩,k⟩
end
section
variable {X:Cx}
theorem pv (i:Nat) {x:Str} {pos:Pos} (hN:X.N[i]?=some x:=by rfl) (hv:Vis X.env.scope x:=by first | exact Or.inl rfl | exact Or.inr (Or.inl rfl) | exact Or.inr (Or.inr rfl)) (hd:(x == ("__debug__":Str))=false:=by decide)
  (hcd:(x == ("__classdict__":Str))=false:=by decide):PE X (.Name x pos) (tVar i):=ae2 hN hv hd hcd
end
def Same (H H':Hp):Prop:=∀ b o,H b=some o→H' b=some o
theorem Same.refl (H:Hp):Same H H:=fun _ _ h=>h
theorem Same.trans {H H1 H2:Hp} (a:Same H H1) (b:Same H1 H2):Same H H2:=fun c o h=>b c o (a c o h)
theorem Same.free {H H':Hp} (e:Same H H') {l:Addr} (h:H' l=Option.none):H l=Option.none:=by
 cases q:H l with
 | none=>rfl
 | some o =>
  rw [e l o q] at h
  cases h
end L2
namespace Bn
def Bd (k:Nat) (i:Int):Prop:=i.natAbs < 2 ^ k
theorem Bd.mono {j k:Nat} {i:Int} (h:Bd j i) (l:j≤k):Bd k i:=Nat.lt_of_lt_of_le h (Nat.pow_le_pow_right (by decide) l)
theorem Bd.mul {j k:Nat} {a b:Int} (h:Bd j a) (g:Bd k b):Bd (j+k) (a*b):=by
 unfold Bd at *
 rw [Int.natAbs_mul,Nat.pow_add]
 exact Nat.mul_lt_mul'' h g
theorem Bd.add {k:Nat} {a b:Int} (h:Bd k a) (g:Bd k b):Bd (k+1) (a+b):=by
 unfold Bd at *
 rw [Nat.pow_succ]
 have:=Int.natAbs_add_le a b
 omega
theorem Bd.neg {k:Nat} {a:Int} (h:Bd k a):Bd k (-a):=by
 unfold Bd at *
 rw [Int.natAbs_neg]
 exact h
theorem Bd.sub {k:Nat} {a b:Int} (h:Bd k a) (g:Bd k b):Bd (k+1) (a - b):=by
 rw [Int.sub_eq_add_neg]
 exact h.add g.neg
theorem Bd.le {k:Nat} {a b:Int} (h:Bd k b) (l:a.natAbs≤b.natAbs):Bd k a:=Nat.lt_of_le_of_lt l h
theorem Bd.of {k n:Nat} {a:Int} (l:a.natAbs≤n) (h:n < 2 ^ k):Bd k a:=Nat.lt_of_le_of_lt l h
theorem Bd.log {k:Nat} {a:Int} (h:Bd k a) (hk:0 < k):a.natAbs.log2 < k:=by
 rcases Nat.eq_zero_or_pos a.natAbs with z | z
 ·rw [z]
  exact Nat.lt_of_le_of_lt (Nat.le_of_eq (by decide)) hk
 ·exact (Nat.log2_lt (Nat.ne_of_gt z)).mpr h
theorem agE (a:Int) {b:Int} (h:b≠0):(a.fmod b).natAbs < b.natAbs:=by
 rw [Int.fmod_eq_emod]
 have h1:=Int.emod_nonneg a h
 have h2:a % b < (b.natAbs:Int):=Int.emod_lt a h
 by_cases c:0≤b∨b ∣ a
 ·rw [if_pos c]
  omega
 ·rw [if_neg c]
  have hb:b < 0:=by omega
  have h3:a % b≠0:=fun z=>c (.inr (Int.dvd_of_emod_eq_zero z))
  have h4:b.natAbs=(-b).toNat:=by omega
  omega
theorem ah4 (a b:Int):Int.gcd b (a.fmod b)=Int.gcd a b:=by
 rw [Int.fmod_def,Int.mul_comm,Int.gcd_sub_mul_right_right,Int.gcd_comm]
theorem aj1 (x:Int):(if x < 0 then -x else x)=(x.natAbs:Int):=by
 split <;> omega
end Bn
namespace Bn
def gl:List Int→Int→Int
 | [],g=>g
 | n :: r,g=>gl r (Int.gcd g n:Nat)
def low (ns:List Int):List Int:=if gl ns 0=0 then ns else ns.map (· / gl ns 0)
theorem aou:∀ (ns:List Int) (g:Int),0≤g→0≤gl ns g
 | [],_,h=>h
 | _ :: r,_,_=>aou r _ (Int.natCast_nonneg _)
theorem al3 (k:Int):∀ (ns:List Int) (g:Int),0≤g→gl (ns.map (k*·)) ((k.natAbs:Int)*g)=(k.natAbs:Int)*gl ns g
 | [],_,_=>rfl
 | n :: r,g,h=>by
  show gl (r.map (k*·)) ((Int.gcd ((k.natAbs:Int)*g) (k*n):Nat):Int)=(k.natAbs:Int)*gl r _
  have e:((Int.gcd ((k.natAbs:Int)*g) (k*n):Nat):Int)=(k.natAbs:Int)*((Int.gcd g n:Nat):Int):=by
   rcases Int.natAbs_eq k with q | q
   ·rw [← q,Int.gcd_mul_left]
    have:(k.natAbs:Int)=k:=q.symm
    push_cast
    rw [this]
   ·have e2:k*n=(k.natAbs:Int)*(-n):=by rw [Int.mul_neg,← Int.neg_mul,← q]
    rw [e2,Int.gcd_mul_left,Int.gcd_neg]
    push_cast
    simp
  rw [e]
  exact al3 k r _ (Int.natCast_nonneg _)
theorem agf (k:Int) (ns:List Int):gl (ns.map (k*·)) 0=(k.natAbs:Int)*gl ns 0:=by
 have:=al3 k ns 0 (Int.le_refl 0)
 rwa [Int.mul_zero] at this
theorem agM {k:Int} (h:0 < k) (ns:List Int):gl ns 0≠0→low (ns.map (k*·))=low ns:=fun z=>by
 have hk:(k.natAbs:Int)=k:=by omega
 have e:=agf k ns
 rw [hk] at e
 have nz:k*gl ns 0≠0:=Int.mul_ne_zero (by omega) z
 unfold low
 rw [e,if_neg nz,if_neg z,List.map_map]
 refine List.map_congr_left fun n _=>?_
 show k*n / (k*gl ns 0)=n / gl ns 0
 exact Int.mul_ediv_mul_of_pos _ _ h
theorem adF:∀ (ns:List Int) (g:Int),gl ns g ∣ g∧∀ n∈ns,gl ns g ∣ n
 | [],g=>⟨Int.dvd_refl g,fun _ h=>nomatch h⟩
 | m :: r,g=>by
  obtain ⟨h1,h2⟩:=adF r ((Int.gcd g m:Nat):Int)
  refine ⟨Int.dvd_trans h1 (Int.gcd_dvd_left ..),fun n hn=>?_⟩
  rcases List.mem_cons.mp hn with q | q
  ·subst q
   exact Int.dvd_trans h1 (Int.gcd_dvd_right ..)
  ·exact h2 n q
theorem anj {ns:List Int} (h:gl ns 0=0):∀ n∈ns,n=0:=fun n hn=>by
 have:=(adF ns 0).2 n hn
 rw [h] at this
 exact Int.zero_dvd.mp this
theorem alJ {ns:List Int} {n:Int} (hn:n∈ns) (h:n≠0):gl ns 0≠0:=fun z=>h (anj z n hn)
theorem aj0 {ns:List Int} {n:Int} (hn:n∈ns) (h:n≠0):0 < gl ns 0:=by
 have h1:=aou ns 0 (Int.le_refl 0)
 have h2:=alJ hn h
 omega
theorem ajf {ns:List Int} {n:Int} (hn:n∈ns) (h:n≠0):low ns=ns.map (· / gl ns 0):=by
 unfold low
 rw [if_neg (alJ hn h)]
theorem Bd.gcd {k:Nat} {a b:Int} (h:Bd k a) (g:Bd k b):Bd k (Int.gcd a b:Nat):=by
 unfold Bd at *
 rw [Int.natAbs_natCast]
 rcases Nat.eq_zero_or_pos a.natAbs with z | z
 ·have:a=0:=by omega
  subst this
  rw [Int.gcd_zero_left]
  exact g
 ·exact Nat.lt_of_le_of_lt (Nat.gcd_le_left _ z) h
theorem als {k:Nat}:∀ {ns:List Int} {g:Int},Bd k g→(∀ n∈ns,Bd k n)→Bd k (gl ns g)
 | [],_,h,_=>h
 | n :: r,g,h,hn=>by
  show Bd k (gl r _)
  exact als (ns:=r) (h.gcd (hn n List.mem_cons_self)) fun m hm=>hn m (List.mem_cons_of_mem _ hm)
theorem ah2 {k:Nat} {ns:List Int} (h:∀ n∈ns,Bd k n):∀ n∈low ns,Bd k n:=fun n hn=>by
 unfold low at hn
 by_cases c:gl ns 0=0
 ·rw [if_pos c] at hn
  exact h n hn
 ·rw [if_neg c] at hn
  obtain ⟨m,hm,rfl⟩:=List.mem_map.mp hn
  refine (h m hm).le ?_
  have d:=(adF ns 0).2 m hm
  obtain ⟨q,e⟩:=d
  rw [e,Int.mul_ediv_cancel_left _ c,Int.natAbs_mul]
  exact Nat.le_mul_of_pos_left _ (by omega)
def fr (t b:Int):List Int:=if b < 0 then low [0 - t,0 - b] else low [t,b]
theorem mem2 (a b:Int):b∈[a,b]:=List.mem_cons_of_mem _ List.mem_cons_self
theorem anu {t b:Int} (h:b≠0):∃ p q:Int,fr t b=[p,q]∧0 < q∧p*b=t*q:=by
 have go:∀ {t b:Int},0 < b→∃ p q:Int,low [t,b]=[p,q]∧0 < q∧p*b=t*q:=fun {t b} hb=>by
  have nz:b≠0:=by omega
  have gp:=aj0 (mem2 t b) nz
  refine ⟨t / gl [t,b] 0,b / gl [t,b] 0,ajf (mem2 t b) nz,?_,?_⟩
  ·obtain ⟨m,e⟩:=(adF [t,b] 0).2 b (mem2 t b)
   have:b / gl [t,b] 0=m:=by
    conv=>lhs; lhs; rw [e]
    exact Int.mul_ediv_cancel_left _ (by omega)
   rw [this]
   have hm:0 < m*gl [t,b] 0:=by rw [Int.mul_comm,← e]; exact hb
   exact Int.pos_of_mul_pos_left hm gp
  ·obtain ⟨m,e⟩:=(adF [t,b] 0).2 b (mem2 t b)
   obtain ⟨n,f⟩:=(adF [t,b] 0).2 t List.mem_cons_self
   have e1:b / gl [t,b] 0=m:=by
    conv=>lhs; lhs; rw [e]
    exact Int.mul_ediv_cancel_left _ (by omega)
   have e2:t / gl [t,b] 0=n:=by
    conv=>lhs; lhs; rw [f]
    exact Int.mul_ediv_cancel_left _ (by omega)
   rw [e1,e2]
   conv=>lhs; rhs; rw [e]
   conv=>rhs; lhs; rw [f]
   rw [Int.mul_left_comm,Int.mul_assoc]
 unfold fr
 by_cases c:b < 0
 ·rw [if_pos c]
  obtain ⟨p,q,e1,e2,e3⟩:=go (t:=0 - t) (b:=0 - b) (by omega)
  refine ⟨p,q,e1,e2,?_⟩
  rw [Int.zero_sub,Int.zero_sub,Int.mul_neg,Int.neg_mul] at e3
  omega
 ·rw [if_neg c]
  exact go (by omega)
def sg (n:Int):Int:=if 0 < n then 1 else if n < 0 then -1 else 0
theorem alC {b:Int} (h:b≠0):(0 < b∧sg b=1)∨(b < 0∧sg b=-1):=by
 unfold sg
 by_cases c:0 < b
 ·exact .inl ⟨c,if_pos c⟩
 ·have d:b < 0:=by omega
  exact .inr ⟨d,by rw [if_neg c,if_pos d]⟩
theorem aln (b:Int):-(2 ^ 64) < sg b∧sg b < 2 ^ 64:=by
 unfold sg
 split
 ·decide
 ·split <;> decide
theorem acp {g n:Int} (h:g≠0):(g*n).fdiv g=n:=by
 rw [Int.fdiv_eq_ediv_of_dvd ⟨n,rfl⟩,Int.mul_ediv_cancel_left _ h]
theorem ajt (n:Int):∀ (l:List Int) (g:Int),gl (l++[n]) g=(Int.gcd (gl l g) n:Nat)
 | [],g=>rfl
 | m :: r,g=>ajt n r _
theorem amY {k:Nat} {t b p q:Int} (ht:Bd k t) (hb:Bd k b) (e:fr t b=[p,q]):Bd k p∧Bd k q:=by
 have go:∀ {x y:Int},Bd k x→Bd k y→low [x,y]=[p,q]→Bd k p∧Bd k q:=fun {x y} hx hy e=>by
  have h:=ah2 (k:=k) (ns:=[x,y]) fun n hn=>by
   rcases List.mem_cons.mp hn with z | z
   ·rw [z]; exact hx
   ·have z':n=y:=by simpa using z
    rw [z']; exact hy
  rw [e] at h
  exact ⟨h p List.mem_cons_self,h q (mem2 _ _)⟩
 unfold fr at e
 split at e
 ·exact go (by rw [Int.zero_sub]; exact ht.neg) (by rw [Int.zero_sub]; exact hb.neg) e
 ·exact go ht hb e
theorem alf {k m:Int} (hk:0 < k) (hm:0 < m) {A B:List Int} (hA:gl A 0≠0) (e:A.map (k*·)=B.map (m*·)):low A=low B:=by
 have hB:gl B 0≠0:=fun z=>by
  have h:=agf k A
  rw [e,agf m B,z,Int.mul_zero] at h
  have:(k.natAbs:Int)*gl A 0≠0:=Int.mul_ne_zero (by omega) hA
  exact this h.symm
 rw [← agM hk A hA,e,agM hm B hB]
theorem ame (b:Int):∀ (ns:List Int) (g:Int),gl ns (Int.gcd g b:Nat)=(Int.gcd (gl ns g) b:Nat)
 | [],_=>rfl
 | n :: r,g=>by
  show gl r ((Int.gcd ((Int.gcd g b:Nat):Int) n:Nat):Int)=((Int.gcd (gl r _) b:Nat):Int)
  rw [← ame b r,Int.gcd_assoc,Int.gcd_comm b n,← Int.gcd_assoc]
theorem ahf {ns:List Int} {b:Int} (hb:0 < b):gl (ns++[b]) 0=gl ns b:=by
 rw [ajt,← ame,Int.gcd_zero_left]
 congr 1
 omega
theorem ab4 (ns:List Int) (b:Int):b∈ns++[b]:=List.mem_append_right _ List.mem_cons_self
theorem aoO {ns:List Int} {b:Int} (hb:0 < b):low (ns++[b])=(ns.map fun n=>n.fdiv (gl ns b))++[b.fdiv (gl ns b)]∧0 < gl ns b:=by
 have gp:=aj0 (ab4 ns b) (by omega)
 rw [ahf hb] at gp
 refine ⟨?_,gp⟩
 rw [ajf (ab4 ns b) (by omega),ahf hb,List.map_append]
 have e:∀ n:Int,n / gl ns b=n.fdiv (gl ns b):=fun n=>(Int.fdiv_eq_ediv_of_nonneg n (Int.le_of_lt gp)).symm
 simp only [e,List.map_cons,List.map_nil]
theorem aie (ns:List Int) {b:Int} (hb:0 < b):∃ (zs:List Int) (z g:Int),low (ns++[b])=zs++[z]∧0 < g∧0 < z∧ns=zs.map (g*·)∧b=g*z∧zs.length=ns.length:=by
 obtain ⟨e,gp⟩:=aoO (ns:=ns) hb
 have dv:=adF (ns++[b]) 0
 rw [ahf hb] at dv
 have ex:∀ n∈ns++[b],gl ns b*n.fdiv (gl ns b)=n:=fun n hn=>by
  obtain ⟨q,e⟩:=dv.2 n hn
  conv=>lhs; rhs; rw [e]
  rw [acp (by omega)]
  exact e.symm
 refine ⟨_,_,gl ns b,e,gp,?_,?_,(ex b (ab4 ns b)).symm,List.length_map _⟩
 ·have h:=ex b (ab4 ns b)
  have:0 < b.fdiv (gl ns b)*gl ns b:=by rw [Int.mul_comm,h]; exact hb
  exact Int.pos_of_mul_pos_left this gp
 ·rw [List.map_map]
  conv=>lhs; rw [← List.map_id ns]
  refine List.map_congr_left fun n hn=>?_
  exact (ex n (List.mem_append_left _ hn)).symm
theorem ahO (ns:List Int) {b:Int} (hb:0 < b):low (low (ns++[b]))=low (ns++[b]):=by
 obtain ⟨zs,z,g,e,hg,hz,e1,e2,_⟩:=aie ns hb
 rw [e]
 refine alf (k:=g) (m:=1) hg (by decide) (alJ (ab4 zs z) (by omega)) ?_ |>.trans e
 rw [List.map_append,← e1]
 show ns++[g*z]=(ns++[b]).map (1*·)
 rw [← e2]
 conv=>lhs; rw [← List.map_id (ns++[b])]
 refine List.map_congr_left fun n _=>?_
 exact (Int.one_mul n).symm
end Bn
namespace Bn
def sm (xs:List Int) (w:Int) (ys:List Int) (v:Int):List Int:=List.zipWith (fun x y=>x*v+y*w) xs ys
theorem aoe {xs ys:List Int} {f g:Int→Int→Int} (h:∀ x y,f x y=g x y):List.zipWith f xs ys=List.zipWith g xs ys:=by
 have:f=g:=funext fun x=>funext fun y=>h x y
 rw [this]
theorem ai0 (xs:List Int) (w:Int) (ys:List Int) (v:Int):List.zipWith (fun x y=>1*x*v+y*w) xs ys=sm xs w ys v:=aoe fun x y=>by rw [Int.one_mul]
theorem ahz (xs:List Int) (w:Int) (ys:List Int) (v:Int):List.zipWith (fun y x=>-1*y*w+x*v) ys xs=sm xs w (ys.map (- ·)) v:=by
 unfold sm
 rw [List.zipWith_map_right,List.zipWith_comm]
 refine aoe fun x y=>?_
 rw [Int.neg_mul,Int.one_mul]
 exact Int.add_comm _ _
theorem aoZ {xs ys:List Int} {w v:Int} (h:xs.length=ys.length):(sm xs w ys v).length=xs.length:=by
 unfold sm
 rw [List.length_zipWith]
 omega
end Bn
namespace L2
open PySem PySem.Spec PyProof.Rows Bn
section
variable {X:Cx}
def CBig (i j:Int):Prop:=Bd 4000 i∧Bd 4000 j
theorem ago {k:Nat} {i:Int} (h:Bd k i):Builtin.Int.intBits i≤k:=by
 unfold Builtin.Int.intBits
 split
 ·exact Nat.zero_le _
 ·rename_i c
  have z:i.natAbs≠0:=by
   intro q
   have:i=0:=by omega
   subst this
   exact c rfl
  have:=(Nat.log2_lt z).mpr h
  omega
theorem CBig.ok {i j:Int} (h:CBig i j):IntMulOk i j:=by
 have h1:=ago h.1
 have h2:=ago h.2
 unfold IntMulOk Builtin.Int.intTooBig bitsLine
 intro c
 simp only [Bool.and_eq_true,decide_eq_true_eq] at c
 have:=c.2
 omega
def aiQ (_ j:Int):Prop:=j≠0∧Bd 8000 j
theorem adz:OpR X (binaryOp .FloorDiv) (rI aiQ fun i j=>.int (i.fdiv j)) :=
 opI fun _ _ _ _ _ _ _ hc q=>floordiv_int hc.1 q (.inl (PyProof.noPylong_of_log2 (Nat.lt_trans (hc.2.log (by decide)) (by decide))))
theorem PS.imp {st:Stmt} {t t':TS} (h:PS X st t) (i:∀ D σ H,t' D σ H→t D σ H):PS X st t':=fun pins s σ H D I q=>h pins s σ H D I (i D σ H q)
theorem PSs.imp {st:List Stmt} {t t':TS} (h:PSs X st t) (i:∀ D σ H,t' D σ H→t D σ H):PSs X st t':=fun pins s σ H D I q=>h pins s σ H D I (i D σ H q)
theorem PE.imp {e:Expr} {t t':TE} (h:PE X e t) (i:∀ σ H Q,t' σ H Q→t σ H Q):PE X e t':=fun pins s σ H Q I q=>h pins s σ H Q I (i σ H Q q)
theorem PT.imp {e:Expr} {t t':TT} (h:PT X e t) (i:∀ σ H Q,t' σ H Q→t σ H Q):PT X e t':=fun pins s σ H Q I q=>h pins s σ H Q I (i σ H Q q)
theorem Inv.turnedNew {pins:List (Addr × Obj)} {σ:St} {H:Hp} {s:Shared} {h':Heap} {t':Nat} {ch:List Addr} {a:Addr} {o:HO} (I:Inv X pins σ H s) (hf:∀ b∈ch,FpOk X pins H b)
  (k:∀ b u,b ∉ ch→s.heap.get? b=some u→h'.get? b=some u) (hp:s.heap.objs.size≤a) (new:adj X.prog X.w (upd H a o) h' a o) :
  Inv X pins σ (upd H a o) { s with heap:=h',toks:=t' }:=by
 have hn:H a=none:=I.hok.fresh hp
 have nch:∀ b u,H b=some u→b ∉ ch:=fun b u e z=>by
  rw [(hf b z).1] at e
  cases e
 have nea:∀ b u,H b=some u→b≠a:=fun b u e=>aaN e hn
 refine I.step (g':=s.gens) (d':=s.drawn) (ch:=ch) (fun b hb=>?_) (fun b u _ _ hc e _=>k b u hc e) (fun b u _ _ hc e _=>⟨u.slots,k b u hc e⟩) (fun b u _ e n=>?_)
  (fun b u hc e=>⟨u,k b u hc e⟩) (fun b xs e=>?_) (fun b u v e=>?_) (fun b ps e=>⟨#[],?_⟩) (fun m hm=>?_) (fun b u e=>?_) I.bare
 ·obtain ⟨_,f1,_,f3,f4,f5⟩:=hf b hb
  exact ⟨f3,f1,f4,f5⟩
 ·rw [aaG (Nat.ne_of_lt (Nat.lt_of_lt_of_le (Heap.lt_size e) hp))]
  exact n
 ·rw [aaG (nea b _ e)]
  exact e
 ·rw [aaG (nea b _ e)]
  exact e
 ·rw [aaG (nea b _ e),e]
  simp
 ·obtain ⟨ob,es,ep,ho,r⟩:=hm
  exact ⟨ob,es,ep,k _ ob (fun z=>(hf _ z).2.1 rfl) ho,r⟩
 ·by_cases hb:b=a
  ·subst hb
   rw [aa1] at e
   cases e
   exact new
  ·rw [aaG hb] at e
   refine (I.hok b u e).stay (fun c v hc q=>k c v ?_ q) (fun c q=>?_) fun c xs q=>?_
   ·rcases hc with z | z
    ·rw [z]
     exact nch b u e
    ·exact nch c _ z
   ·rw [aaG (nea c _ q)]
    exact q
   ·rw [aaG (nea c _ q)]
    exact q
theorem Inv.turnedL {pins:List (Addr × Obj)} {σ:St} {H:Hp} {s:Shared} {h':Heap} {t':Nat} {ch:List Addr} (I:Inv X pins σ H s) (hf:∀ b∈ch,FpOk X pins H b)
  (k:∀ b u,b ∉ ch→s.heap.get? b=some u→h'.get? b=some u):Inv X pins σ H { s with heap:=h',toks:=t' }:=by
 have nch:∀ b u,H b=some u→b ∉ ch:=fun b u e z=>by
  rw [(hf b z).1] at e
  cases e
 refine I.step (g':=s.gens) (d':=s.drawn) (ch:=ch) (fun b hb=>?_) (fun b u _ _ hc e _=>k b u hc e) (fun b u _ _ hc e _=>⟨u.slots,k b u hc e⟩) (fun b u _ e n=>n)
  (fun b u hc e=>⟨u,k b u hc e⟩) (fun b xs e=>e) (fun b u v e=>e) (fun b ps e=>⟨#[],?_⟩) (fun m hm=>?_) (fun b u e=>?_) I.bare
 ·obtain ⟨_,f1,_,f3,f4,f5⟩:=hf b hb
  exact ⟨f3,f1,f4,f5⟩
 ·rw [e]
  simp
 ·obtain ⟨ob,es,ep,ho,r⟩:=hm
  exact ⟨ob,es,ep,k _ ob (fun z=>(hf _ z).2.1 rfl) ho,r⟩
 ·refine (I.hok b u e).stay (fun c v hc q=>k c v ?_ q) (fun c q=>q) fun c xs q=>q
  rcases hc with z | z
  ·rw [z]
   exact nch b u e
  ·exact nch c _ z
end
def Ite (K : PySem.W.Frag) (a : Addr) : It :=
  ⟨fun i H => ∃ xs x, SqL K H a xs ∧ xs[i]? = some x,
   fun i H x H' => ∃ p y, H p = none ∧ x = .ref p ∧ H' = upd H p (.tup [.int i, y]) ∧ ∀ xs, SqL K H a xs → xs[i]? = some y,
   fun i H => ∃ xs, SqL K H a xs ∧ xs.length ≤ i⟩
theorem ajQ {P:Program} {w:World} {K:PySem.W.Frag} {elts:List Expr} {x1:Nat} {tp:Pos} (a e it:Addr) (hne:e≠it) :
  Turn P w K (.Tuple elts x1 tp) (Ite K a) [e,it] e (fun i h=>(∃ old,IsEnum h e it (i:Int) old)∧h.IsListIter it a i) where
 mem:=by simp
 obj:=fun i h st b hb=>by
  obtain ⟨⟨old,q⟩,o,e1,c,d⟩:=st
  rcases List.mem_cons.mp hb with z | z
  ·subst z
   exact ⟨_,q,fun v z=>nomatch z⟩
  ·have z':b=it:=by simpa using z
   subst z'
   exact ⟨o,e1,fun v z=>by rw [d] at z; cases z⟩
 keep:=fun i h h' st k=>⟨let ⟨old,q⟩:=st.1; ⟨old,k e (by simp) _ q⟩,st.2.at fun o q=>k it (by simp) o q⟩
 item:=by
  intro X hP hw hK hc i pins s σ H E I hf st hg
  subst hP hw hK
  obtain ⟨xs,x,hq,hx⟩:=hg
  obtain ⟨its,rv,pl,hz⟩:=I.list hq
  obtain ⟨u,hu,ru⟩:=rv.get hx
  obtain ⟨⟨old,he⟩,hit⟩:=st
  refine wpAny_pyNext_enum_item he hit pl.isList (x:=u) (by simpa using hu) hne fun h1 ho1 hit1 ht1 hs1 hk1=>⟨_,rfl,?_⟩
  have lt1:e < s.heap.objs.size:=Heap.lt_size he
  refine wpAny_letOwnedTupleGo_enum (s:={ s with heap:=h1,toks:=s.toks+1 }) ho1 fun h2 he2 sb2=>?_
  have ht2:h2.get? s.heap.objs.size=some { cls:=.type "tuple",data:=.seq #[.int i s.toks,u] }:=(sb2.2 _ (Nat.ne_of_gt lt1)).trans ht1
  have I2:Inv X pins σ (upd H s.heap.objs.size (.tup [.int i,x])) { s with heap:=h2,toks:=s.toks+1 } :=
   I.turnedNew hf (fun b o hb q=>(sb2.2 b (fun z=>hb (by simp [z]))).trans (hk1 b o (fun z=>hb (by simp [z])) (fun z=>hb (by simp [z])) q)) (Nat.le_refl _)
    ⟨by show 2≤sizeLine; decide,[.int i s.toks,u],.cons ⟨_,rfl⟩ (.cons ru .nil),⟨_,ht2,rfl,_,rfl⟩⟩
  refine ⟨.ref s.heap.objs.size,_,I2,rfl,⟨_,x,I.hok.fresh (Nat.le_refl _),rfl,rfl,fun ys hy=>by rw [I.list_inj hy hq]; exact hx⟩,⟨⟨_,by simpa using he2⟩,hit1.at fun o q=>(sb2.2 it hne.symm).trans q⟩,fun b hb=>?_⟩
  have hb':=(hf b hb).1
  have lt:b≠s.heap.objs.size:=by
   rcases List.mem_cons.mp hb with z | z
   ·subst z
    exact Nat.ne_of_lt lt1
   ·have z':b=it:=by simpa using z
    subst z'
    obtain ⟨o,q,_⟩:=hit
    exact Nat.ne_of_lt (Heap.lt_size q)
  rw [aaG lt]
  exact hb'
 done:=by
  intro X hP hw hK hc i pins s σ H E I hf st hg
  subst hP hw hK
  obtain ⟨xs,hq,hx⟩:=hg
  obtain ⟨its,rv,pl,hz⟩:=I.list hq
  obtain ⟨⟨old,he⟩,hit⟩:=st
  have hl:=rv.length
  exact wpAny_pyNext_enum_end (I.ok.hd hc) he hit pl.isList (by simp; omega) fun h' eb=>⟨rfl,I.turnedL (t':=s.toks) hf fun b o hb q=>eb b o (fun z=>hb (by simp [z])) q⟩
 self:=fun _ _ _ _ _ st h=>let ⟨_,q⟩:=st.1; wpAny_pyIter_enum q h
section
variable {X:Cx} {elts:List Expr} {x1:Nat} {tp:Pos}
def apu (K:PySem.W.Frag) (tl:TA):TI:=fun σ H R=>tl σ H fun vs H1=>∃ a,vs=[.ref a]∧(∃ xs,SqL K H1 a xs)∧R (Ite K a) H1
theorem anh {l:Expr} {tl:TA} {p pos:Pos} (hg:Gl X "enumerate") (hm:X.mg "enumerate"=none) (hl:PA X [l] tl) (hs:starEach [l] X.env=[(false,eval l X.env)]:=by rfl) :
  PI X (.Tuple elts x1 tp) (.Call (.Name "enumerate" p) [l] [] pos) (apu X.K tl):=by
 intro pins s σ H R I h
 refine Call_ (afL I hg hm boot_enumerate (PyProof.Rows.callWith_type1 (thn (hl pos pins s σ H _ I h) fun us s1 ⟨vs,H1,I1,r1,q1⟩=>?_) hs rfl))
 obtain ⟨a,rfl,⟨xs,hq⟩,q⟩:=q1
 obtain ⟨u,rfl,ru⟩:=afr r1
 cases ru
 obtain ⟨its,rv,pl,hz⟩:=I1.list hq
 refine call_enumerate_list pl.isList fun h' he hit hsz k=>?_
 have I2:Inv X pins σ H1 { s1 with heap:=h' }:=I1.kept (t':=s1.toks) k
 refine wpAny_pyIter_enum (s:={ s1 with heap:=h' }) he ?_
 refine ⟨s1.heap.objs.size+1,[s1.heap.objs.size+1,s1.heap.objs.size],_,_,H1,rfl,I2,ajQ a _ _ (Nat.succ_ne_self _),⟨⟨_,he⟩,hit⟩,fun b hb=>?_,q⟩
 have hb':s1.heap.objs.size≤b:=by
  rcases List.mem_cons.mp hb with z | z
  ·rw [z]
   exact Nat.le_succ _
  ·have z':b=s1.heap.objs.size:=by simpa using z
   rw [z']
   exact Nat.le_refl _
 exact I1.fpOk hb' (I1.hok.fresh hb')
end
end L2
namespace L2
open PySem PySem.Spec PyProof.Rows Bn
def ac8 (env:Env):List (Str × NameKind)→List (Str × Addr)→List (Str × Addr)
 | [],acc=>acc
 | p :: r,acc=>if (p.2 == .free)=true then ac8 env r ((p.1,(env.cells.lookup p.1).getD 0) :: acc) else ac8 env r acc
theorem aj9 {sc:Scope} {env:Env} (h:∀ p∈sc.names,p.2=.free→∃ c,env.cells.lookup p.1=some c):closureFor sc env=pure (ac8 env sc.names []):=by
 unfold closureFor
 have go:∀ (l:List (Str × NameKind)) (acc:List (Str × Addr)),(∀ p∈l,p.2=.free→∃ c,env.cells.lookup p.1=some c) →
   (forIn l acc (fun x r=>if (x.2 == NameKind.free)=true then do let a ← cellOf env x.1; pure (ForInStep.yield ((x.1,a) :: r)) else pure (ForInStep.yield r)):Sem _)=pure (ac8 env l acc):=by
  intro l
  induction l with
  | nil=>intro acc _; rfl
  | cons p r ih =>
   intro acc hp
   rw [List.forIn_cons]
   have hr:=fun acc'=>ih acc' fun q hq=>hp q (List.mem_cons_of_mem _ hq)
   by_cases c:(p.2 == NameKind.free)=true
   ·obtain ⟨a,ea⟩:=hp p List.mem_cons_self (by simpa using c)
    have e1:cellOf env p.1=pure a:=by unfold cellOf; rw [ea]
    rw [if_pos c,e1]
    simp only [pure_bind]
    rw [hr]
    show _=pure (if (p.2 == .free)=true then _ else _)
    rw [if_pos c,ea]
    rfl
   ·rw [if_neg c]
    simp only [pure_bind]
    rw [hr]
    show _=pure (if (p.2 == .free)=true then _ else _)
    rw [if_neg c]
 have e:=go sc.names [] h
 show (forIn sc.names [] _ >>= fun r=>pure r)=_
 rw [bind_pure]
 exact e
theorem adu {env:Env}:∀ (l:List (Str × NameKind)) (acc:List (Str × Addr)),(∀ p∈l,p.2=.free→∃ c,env.cells.lookup p.1=some c) →
  ∀ y c,(ac8 env l acc).lookup y=some c→acc.lookup y=some c∨env.cells.lookup y=some c
 | [],acc,_,y,c,e=>.inl e
 | p :: r,acc,h,y,c,e=>by
  have hr:∀ q∈r,q.2=.free→∃ c,env.cells.lookup q.1=some c:=fun q hq=>h q (List.mem_cons_of_mem _ hq)
  unfold ac8 at e
  by_cases k:(p.2 == NameKind.free)=true
  ·rw [if_pos k] at e
   obtain ⟨a,ea⟩:=h p List.mem_cons_self (by simpa using k)
   rcases adu r _ hr y c e with z | z
   ·rw [List.lookup_cons] at z
    cases w:y == p.1 with
    | true =>
     rw [w,ea] at z
     have hy:y=p.1:=by simpa using w
     rw [hy,ea]
     exact .inr z
    | false =>
     rw [w] at z
     exact .inl z
   ·exact .inr z
  ·rw [if_neg k] at e
   exact adu r acc hr y c e
theorem acQ {env:Env}:∀ (l:List (Str × NameKind)) (acc:List (Str × Addr)) (y:Str),((∃ c,acc.lookup y=some c)∨(y,NameKind.free)∈l)→∃ c,(ac8 env l acc).lookup y=some c
 | [],acc,y,h=>by
  rcases h with h | h
  ·exact h
  ·cases h
 | p :: r,acc,y,h=>by
  unfold ac8
  by_cases k:(p.2 == NameKind.free)=true
  ·rw [if_pos k]
   refine acQ r _ y ?_
   cases w:y == p.1 with
   | true=>exact .inl ⟨_,by rw [List.lookup_cons,w]⟩
   | false =>
    rcases h with ⟨c,h⟩ | h
    ·exact .inl ⟨c,by rw [List.lookup_cons,w]; exact h⟩
    ·rcases List.mem_cons.mp h with z | z
     ·rw [← z] at w
      simp at w
     ·exact .inr z
  ·rw [if_neg k]
   refine acQ r _ y ?_
   rcases h with h | h
   ·exact .inl h
   ·rcases List.mem_cons.mp h with z | z
    ·rw [← z] at k
     simp at k
    ·exact .inr z
theorem aew {env:Env}:∀ {names:List (Str × NameKind)} {x:Str},(∀ y∈names,y.2≠.cell) →
  (let l:=(names.map fun (n,k)=>if (k == NameKind.free && env.scope.kind == .function && env.kindOf n == some .cell) then (n,NameKind.cell) else (n,k)).lookup x; l=some .cell∨l=some .free)→(x,NameKind.free)∈names
 | [],x,_,h=>by
  rcases h with h | h <;> cases h
 | (n,k) :: r,x,hc,h=>by
  dsimp only at h
  rw [List.map_cons] at h
  have ih:=@aew env r x fun y hy=>hc y (List.mem_cons_of_mem _ hy)
  have nk:k≠.cell:=hc (n,k) List.mem_cons_self
  by_cases c:(k == NameKind.free && env.scope.kind == .function && env.kindOf n == some .cell)=true
  ·have kf:k=.free:=by
    simp only [Bool.and_eq_true,beq_iff_eq] at c
    exact c.1.1
   dsimp only at h
   rw [if_pos c,List.lookup_cons] at h
   cases w:x == n with
   | true =>
    have hx:x=n:=by simpa using w
    rw [hx,← kf]
    exact List.mem_cons_self
   | false =>
    rw [w] at h
    exact List.mem_cons_of_mem _ (ih h)
  ·dsimp only at h
   rw [if_neg c,List.lookup_cons] at h
   cases w:x == n with
   | true =>
    rw [w] at h
    have hx:x=n:=by simpa using w
    have kf:k=.free:=by
     rcases h with h | h
     ·exact absurd (Option.some.inj h) nk
     ·exact Option.some.inj h
    rw [hx,← kf]
    exact List.mem_cons_self
   | false =>
    rw [w] at h
    exact List.mem_cons_of_mem _ (ih h)
def ac2 (X:Cx) (sc:Scope) (N:List Str) (C:Addr) (s₀:Shared) (H₀:Hp) (ex:List Addr):Cx where
 prog:=X.prog
 w:=X.w
 K:=X.K
 mg:=X.mg
 base:=X.base
 A:=X.A
 N:=N
 s₀:=s₀
 H₀:=H₀
 env:=compEnvC sc (ac8 X.env sc.names []) C X.env
 outer:=X.stack
 stack:=X.stack
 ex:=ex
 fn:=fun _=>false
 calm:=X.calm
 pn:=[]
 xe:=fun _ _=>False
def aes (own:List Str) (cap:List (Nat × Str)) (σ:St):St:=own.map (fun _=>none)++cap.map fun p=>(σ[p.1]?).join
def cmpN (own:List Str) (cap:List (Nat × Str)):List Str:=own++cap.map (·.2)
def cmpW (J:It) (g:TG) (te:TE) (σ₀:St) (H1:Hp) (D:Addr) (Q:VK):Prop :=
 ∃ W:Nat→Nat→St→Hp→List V→Prop,(∃ m,W 0 m σ₀ (upd H1 D (.lst [])) [])∧∀ i m σ H ys,W i m σ H ys→H D=some (.lst ys) ∧
  ((J.stop i H∧Q (.ref D) H)∨(J.go i H∧ys.length < sizeLine∧∀ x H2,J.yld i H x H2→g x σ H2 fun σ3 H3=>te σ3 H3 fun y H4=>H4 D=some (.lst ys)∧∃ m',m' < m∧W (i+1) m' σ3 (upd H4 D (.lst (ys++[y]))) (ys++[y])))
def aj3 (own:List Str) (cap:List (Nat × Str)) (wi:TI) (g:TG) (te:TE):TE:=fun σ H Q=>wi σ H fun J H1=>∀ D,H1 D=none→cmpW J g te (aes own cap σ) H1 D Q
def Nx (n:Nat) (Pv:Nat→St→Hp→List V→Prop) (D:Addr) (i:Nat) (ys:List V) (σ:St) (y:V) (H:Hp):Prop :=
 H D=some (.lst ys)∧∃ m,m < n - i∧(m=n - (i+1)∧i+1≤n∧Pv (i+1) σ (upd H D (.lst (ys++[y]))) (ys++[y]))
theorem ape {n:Nat} {Pv:Nat→St→Hp→List V→Prop} {D:Addr} {i:Nat} {ys:List V} {σ:St} {y:V} {H:Hp} (h:i < n) (hD:H D=some (.lst ys)) (p:Pv (i+1) σ (upd H D (.lst (ys++[y]))) (ys++[y])):Nx n Pv D i ys σ y H :=
 ⟨hD,n - (i+1),by omega,rfl,h,p⟩
theorem amX {J:It} {g:TG} {te:TE} {σ₀:St} {H1:Hp} {D:Addr} {Q:VK} (n:Nat) (hn:n≤sizeLine) (Pv:Nat→St→Hp→List V→Prop) (h0:Pv 0 σ₀ (upd H1 D (.lst [])) [])
  (hl:∀ i σ H ys,Pv i σ H ys→ys.length=i∧H D=some (.lst ys)) (hgo:∀ i σ H ys,i < n→Pv i σ H ys→J.go i H)
  (hs:∀ i σ H ys x H2,i < n→Pv i σ H ys→J.yld i H x H2→g x σ H2 fun σ3 H3=>te σ3 H3 fun y H4=>Nx n Pv D i ys σ3 y H4)
  (hd:∀ σ H ys,Pv n σ H ys→J.stop n H∧Q (.ref D) H):cmpW J g te σ₀ H1 D Q:=by
 refine ⟨fun i m σ H ys=>m=n - i∧i≤n∧Pv i σ H ys,⟨n,rfl,Nat.zero_le _,h0⟩,?_⟩
 rintro i m σ H ys ⟨rfl,hi,p⟩
 obtain ⟨l1,l2⟩:=hl i σ H ys p
 refine ⟨l2,?_⟩
 by_cases hlt:i < n
 ·exact .inr ⟨hgo i σ H ys hlt p,by omega,fun x H2 y=>hs i σ H ys x H2 hlt p y⟩
 ·have e:i=n:=by omega
  subst e
  exact .inl (hd σ H ys p)
section
variable {prog:Program} {w:World} {A:Around} {R:Result→Shared→Prop} {s:Shared}
theorem agt {elt target iter:Expr} {sc:Scope} {pos:Pos} {it acc:Value} {env:Env} (I:Nat→Shared→Prop)
  (turn:∀ n s,I n s→wpAny (model prog w) A (pyNext it) (fun r s1=>match r with
   | none=>R (.ok .next) s1
   | some v=>wpAny (model prog w) A (letOwnedTupleGo target it v) (fun _ s2=>wpAny (model prog w) A (assign target env v) (fun _ s3=>wpAny (model prog w) A (eval elt env)
     (fun x s4=>wpAny (model prog w) A (call (.builtin "list.append") [acc,x]) (fun _ s5=>∃ m,m < n∧I m s5) (fun _ _=>False) s4) (fun _ _=>False) s3) (fun _ _=>False) s2) (fun _ _=>False) s1) (fun _ _=>False) s)
  (n:Nat) (h:I n s):codeAny (model prog w) A (.compLoop (.ListComp elt [⟨target,iter,[],0⟩] sc pos) 0 it acc env) R s:=by
 refine codeAny_loop rfl I (fun n s hI=>?_) n h
 show wpAny _ _ ((compTurn (.ListComp elt [⟨target,iter,[],0⟩] sc pos) 0 it acc env).onRaise (fun x=>do noteFrame x env; theTreesLotGoes x)) _ _ s
 refine wpAny_noted ?_
 rw [compTurn_list1]
 refine wpAny_bind (wpAny_standAt (wpAny_bind ?_))
 refine wpAny_mono (turn n s hI) (fun r s1 h1=>?_) fun _ _ z=>z.elim
 cases r with
 | none=>exact wpAny_pure h1
 | some v =>
  refine wpAny_bind (wpAny_mono h1 (fun _ s2 h2=>?_) fun _ _ z=>z.elim)
  refine wpAny_bind (wpAny_mono h2 (fun _ s3 h3=>?_) fun _ _ z=>z.elim)
  refine wpAny_bind (wpAny_bind (wpAny_mono h3 (fun x s4 h4=>?_) fun _ _ z=>z.elim))
  refine wpAny_bind (wpAny_mono h4 (fun _ s5 h5=>?_) fun _ _ z=>z.elim)
  exact wpAny_pure (wpAny_pure ⟨rfl,h5⟩)
end
structure aeE (X:Cx) (sc:Scope) (own:List Str) (cap:List (Nat × Str)):Prop where
 kind:sc.kind=.function
 names:∀ y∈sc.names,y.2=.local→sc.names.lookup y.1=some .local
 nocell:∀ y∈sc.names,y.2≠.cell
 free:∀ y∈sc.names,y.2=.free→X.env.kindOf y.1=some .cell
 at':∀ p∈cap,X.N[p.1]?=some p.2
 cap:∀ p∈cap,sc.names.lookup p.2=some .free
section
variable {X:Cx} {sc:Scope} {own:List Str} {cap:List (Nat × Str)} {pins:List (Addr × Obj)} {σ:St} {H:Hp} {s:Shared}
theorem aeE.has (k:aeE X sc own cap) (ok:X.Ok):∀ p∈sc.names,p.2=.free→∃ c,X.env.cells.lookup p.1=some c:=fun p hp e=>ok.has p.1 (.inl (k.free p hp e))
theorem acs {env:Env}:∀ {names:List (Str × NameKind)} {x:Str},env.scope.kind=.function→names.lookup x=some .free→env.kindOf x=some .cell →
  (names.map fun (n,k)=>if (k == NameKind.free && env.scope.kind == .function && env.kindOf n == some .cell) then (n,NameKind.cell) else (n,k)).lookup x=some .cell
 | [],x,_,h,_=>by cases h
 | (n,k) :: r,x,hk,h,hx=>by
  rw [List.map_cons]
  dsimp only
  rw [List.lookup_cons] at h
  cases w:x == n with
  | true =>
   rw [w] at h
   have e:x=n:=by simpa using w
   have kf:k=.free:=Option.some.inj h
   have c:(k == NameKind.free && env.scope.kind == .function && env.kindOf n == some .cell)=true:=by
    rw [kf,hk,← e,hx]
    decide
   rw [if_pos c,List.lookup_cons,w]
  | false =>
   rw [w] at h
   have ih:=@acs env r x hk h hx
   by_cases c:(k == NameKind.free && env.scope.kind == .function && env.kindOf n == some .cell)=true
   ·rw [if_pos c,List.lookup_cons,w]
    exact ih
   ·rw [if_neg c,List.lookup_cons,w]
    exact ih
theorem Inv.cmp (k:aeE X sc own cap) {h4:Heap} {fp:List Addr} {m:Str→Option Value} {t':Nat} (I:Inv X pins σ H s) (hf:∀ b∈fp,FpOk X pins H b) (hlt:∀ b∈fp,b < s.heap.objs.size) (hns:h4.Ns s.heap.objs.size m)
  (kp:∀ b o,s.heap.get? b=some o→h4.get? b=some o):Inv (ac2 X sc (cmpN own cap) s.heap.objs.size s H fp) [] (aes own cap σ) H { s with heap:=h4,toks:=t' }:=by
 have hcl:∀ y c,(ac8 X.env sc.names []).lookup y=some c→X.env.cells.lookup y=some c:=fun y c e=>by
  rcases adu sc.names [] (k.has I.ok) y c e with z | z
  ·cases z
  ·exact z
 have nst:∀ b∈fp,b ∉ frs X.stack:=fun b hb z=>by
  rcases List.mem_cons.mp (I.stkSub b z) with e | e
  ·exact (hf b hb).2.1 e
  ·exact (hf b hb).2.2.1 e
 refine ⟨⟨I.ok.mod,k.kind,I.ok.glob,I.ok.blt,Nat.le_refl _,fun x y c h1 h2=>I.ok.inj x y c (hcl x c h1) (hcl y c h2),fun x hx=>?_,fun x c e=>(nomatch e),I.ok.hd,I.ok.frames,.inl rfl,fun b hb=>⟨Nat.ne_of_lt (hlt b hb),fun x c e=>(hf b hb).2.2.2.2.1 x c (hcl x c e)⟩,
  I.bs,Nat.le_trans I.ok.bsz I.sz,fun b o e hb=>?_,nst,I.stack,I.stkFree⟩,rfl,I.bare,Un.kept kp,⟨m,hns,fun i x v h1 h2 h3=>?_⟩,fun x c e=>?_,I.hok.fresh (Nat.le_refl _),fun x c e=>I.freeC x c (hcl x c e),fun p hp=>absurd (show p∈([]:List (Addr × Obj)) from hp) (by simp),I.hok.kept kp,?_⟩
 ·exact acQ sc.names [] x (.inr (aew k.nocell hx))
 ·rcases (hf b hb).2.2.2.1 with z | z
  ·exact I.ok.noex b o e z
  ·exact absurd (Nat.lt_of_lt_of_le (Heap.lt_size (I.ok.bs b o e).1) z) (Nat.lt_irrefl _)
 ·have hN:(cmpN own cap)[i]?=some x:=h1
  unfold cmpN at hN
  unfold aes at h2
  by_cases hi:i < own.length
  ·rw [List.getElem?_append_left (by simpa using hi),List.getElem?_map] at h2
   cases e:own[i]? with
   | none=>rw [e] at h2; cases h2
   | some z=>rw [e] at h2; cases h2
  ·rw [List.getElem?_append_right (by simpa using hi),List.getElem?_map,List.length_map] at h2
   rw [List.getElem?_append_right (by omega),List.getElem?_map] at hN
   cases e:cap[i - own.length]? with
   | none=>rw [e] at h2; cases h2
   | some p =>
    rw [e] at h2 hN
    have hp:p∈cap:=List.mem_of_getElem? e
    have hx:p.2=x:=Option.some.inj hN
    have hv:(σ[p.1]?).join=some v:=Option.some.inj h2
    have hv':σ[p.1]?=some (some v):=by
     cases e2:σ[p.1]? with
     | none=>rw [e2] at hv; cases hv
     | some z=>rw [e2] at hv; exact congrArg some hv
    have fr:=k.cap p hp
    have kc:X.env.kindOf p.2=some .cell:=k.free (p.2,.free) (PySem.mem_of_lookup fr) rfl
    obtain ⟨m0,_,hl⟩:=I.loc
    obtain ⟨u,ru,lk⟩:=hl p.1 p.2 v (k.at' p hp) hv' (.inr (.inl kc))
    refine ⟨u,ru,?_⟩
    rcases lk with ⟨k1,_⟩ | ⟨_,c,ec,cell⟩
    ·rw [kc] at k1
     cases k1
    ·rw [← hx]
     obtain ⟨c',ec'⟩:=acQ (env:=X.env) sc.names [] p.2 (.inr (PySem.mem_of_lookup fr))
     have:=(hcl _ _ ec').symm.trans ec
     cases this
     obtain ⟨o,ho,hd⟩:=cell
     exact .inr ⟨.inl (acs I.ok.kind fr kc),c,ec',o,kp c o ho,hd⟩
 ·obtain ⟨v,o,ho,hd⟩:=I.cell x c (hcl x c e)
  exact ⟨v,o,kp c o ho,hd⟩
 ·unfold aes
  show _=(cmpN own cap).length
  unfold cmpN
  rw [List.length_append,List.length_append,List.length_map,List.length_map,List.length_map]
theorem Inv.uncmp {s3 s':Shared} {H3 H':Hp} {N:List Str} {σ':St} {C:Addr} {fp:List Addr} {pl:List (Addr × Obj)} (I:Inv X pins σ H s) (hf:∀ b∈fp,FpOk X pins H b) (u:Un (frs X.stack) fp H H3 s.heap s3.heap) (os:s3.os=s.os)
  (J:Inv (ac2 X sc N C s3 H3 fp) pl σ' H' s'):Inv X pins σ H' s':=by
 have os':s'.os=s.os:=(show s'.os=s3.os from J.os).trans os
 refine I.call' (ch:=fp) os' (u.trans J.base) J.hok J.bare fun b hb=>?_
 obtain ⟨_,f1,_,f3,f4,f5⟩:=hf b hb
 exact ⟨f3,f1,f4,f5⟩
end
end L2
namespace L2
open PySem PySem.Spec PyProof.Rows Bn
section
variable {X:Cx} {sc:Scope} {own:List Str} {cap:List (Nat × Str)} {pins:List (Addr × Obj)} {σ:St} {H:Hp} {s:Shared} {elt target iter:Expr} {pos pos':Pos} {wi:TI} {g:TG} {te:TE} {Q:VK}
theorem agT {use:Option (Value→Sem Unit)} {Qf:Value→Shared→Prop} (k:aeE X sc own cap) (hi:PI X target iter wi) (hc:X.calm=true)
  (hg:∀ C s₀ H₀ ex,PG (ac2 X sc (cmpN own cap) C s₀ H₀ ex) target g) (he:∀ C s₀ H₀ ex,PE (ac2 X sc (cmpN own cap) C s₀ H₀ ex) elt te) (I:Inv X pins σ H s) (h:aj3 own cap wi g te σ H Q)
  (fin:∀ D C s' H' m,Inv X pins σ H' s'→FpOk X pins H' C→s'.heap.Ns C m→Q (.ref D) H'→compPost (model X.prog X.w) X.A X.xe use Qf (.ref D) C (.ok .next) s')
  (hs:∀ x,foldedSetIterable iter X.env x=pure x) :
  wpAny (model X.prog X.w) X.A (comprehension (.ListComp elt [⟨target,iter,[],0⟩] sc pos) sc X.env pos' (newList []) false (eval iter X.env) use) Qf X.xe s:=by
 refine wpAny_comprehension_free (use:=use) rfl hs (aj9 (k.has I.ok)) k.kind k.names ?_
 refine thn (hi pins s σ H _ I h) fun v s1 h1=>thn h1 fun itv s2 h2=>?_
 obtain ⟨it,fp,tn,J,H2,e,I2,T,st2,f2,hW⟩:=h2
 subst e
 refine wpAny_newObj_type (wpAny_newFunctionEnv k.nocell (fun y hy=>nomatch hy) (fun h4 hns hsb=>?_) k.kind)
 have I3:Inv X pins σ (upd H2 s2.heap.objs.size (.lst [])) { s2 with heap:=s2.heap.push { cls:=.type "list",data:=.seq ([]:List Value).toArray },toks:=s2.toks }:=I2.lnew (ys:=[]) (its:=[]) .nil (Nat.zero_le _)
 have hD:H2 s2.heap.objs.size=none:=I2.fresh
 have ltf:∀ b∈fp,b < s2.heap.objs.size:=fun b hb=>by
  obtain ⟨o,ho,_⟩:=T.obj _ _ st2 b hb
  exact Heap.lt_size ho
 have f3:∀ b∈fp,FpOk X pins (upd H2 s2.heap.objs.size (.lst [])) b:=fun b hb=>⟨by rw [aaG (Nat.ne_of_lt (ltf b hb))]; exact (f2 b hb).1,(f2 b hb).2⟩
 have un:Un (frs X.stack) fp H2 (upd H2 s2.heap.objs.size (.lst [])) s2.heap (s2.heap.push { cls:=.type "list",data:=.seq ([]:List Value).toArray }):=Un.laid (fun b u q=>Heap.get?_push_of_some _ q) (Nat.le_refl _) hD
 have kp:∀ b o,(s2.heap.push { cls:=.type "list",data:=.seq ([]:List Value).toArray }).get? b=some o→h4.get? b=some o:=fun b o q=>hsb.extBut b o (Nat.ne_of_lt (Heap.lt_size q)) (Heap.get?_push_of_some _ q)
 have J0:=I3.cmp (t':=s2.toks+([]:List (Str × Value)).length) k f3 (fun b hb=>Nat.lt_of_lt_of_le (ltf b hb) (by rw [Heap.size_push]; exact Nat.le_succ _)) hns kp
 have stat:∀ {H':Hp},(∀ b∈fp,H' b=none)→∀ b∈fp,FpOk (ac2 X sc (cmpN own cap) (s2.heap.push { cls:=.type "list",data:=.seq ([]:List Value).toArray }).objs.size { s2 with heap:=s2.heap.push { cls:=.type "list",data:=.seq ([]:List Value).toArray },toks:=s2.toks } (upd H2 s2.heap.objs.size (.lst [])) fp) [] H' b:=fun hn b hb =>
  ⟨hn b hb,(J0.ok.exf b hb).1,J0.ok.exfs b hb,.inl hb,(J0.ok.exf b hb).2,fun p hp=>absurd (show p∈([]:List (Addr × Obj)) from hp) (by simp)⟩
 have st4:tn 0 h4:=T.keep _ _ _ st2 fun b hb o q=>kp b o (Heap.get?_push_of_some _ q)
 have fr0:∀ b∈fp,(upd H2 s2.heap.objs.size (.lst [])) b=none:=fun b hb=>(f3 b hb).1
 have loop:codeAny (model X.prog X.w) X.A (.compLoop (.ListComp elt [⟨target,iter,[],0⟩] sc pos) 0 (.ref it) (.ref s2.heap.objs.size) (compEnvC sc (ac8 X.env sc.names []) (s2.heap.push { cls:=.type "list",data:=.seq ([]:List Value).toArray }).objs.size X.env))
   (compPost (model X.prog X.w) X.A X.xe use Qf (.ref s2.heap.objs.size) (s2.heap.push { cls:=.type "list",data:=.seq ([]:List Value).toArray }).objs.size) { s2 with heap:=h4,toks:=s2.toks+([]:List (Str × Value)).length }:=by
  obtain ⟨W,⟨m0,w0⟩,turn⟩:=hW s2.heap.objs.size hD
  refine agt (fun n s'=>∃ i σ' H' ys,Inv (ac2 X sc (cmpN own cap) (s2.heap.push { cls:=.type "list",data:=.seq ([]:List Value).toArray }).objs.size { s2 with heap:=s2.heap.push { cls:=.type "list",data:=.seq ([]:List Value).toArray },toks:=s2.toks } (upd H2 s2.heap.objs.size (.lst [])) fp) [] σ' H' s'∧tn i s'.heap∧(∀ b∈fp,H' b=none)∧W i n σ' H' ys) ?_ m0
   ⟨0,_,_,[],J0,st4,fr0,w0⟩
  rintro n s5 ⟨i,σ5,H5,ys,I5,st5,fr5,w5⟩
  obtain ⟨hD5,w5⟩:=turn i n σ5 H5 ys w5
  rcases w5 with ⟨stop,qn⟩ | ⟨go,hlt,step⟩
  ·refine thn (T.done (ac2 X sc (cmpN own cap) (s2.heap.push { cls:=.type "list",data:=.seq ([]:List Value).toArray }).objs.size { s2 with heap:=s2.heap.push { cls:=.type "list",data:=.seq ([]:List Value).toArray },toks:=s2.toks } (upd H2 s2.heap.objs.size (.lst [])) fp) rfl rfl rfl hc i [] s5 σ5 H5 _ I5 (stat fr5) st5 stop) fun r s6 ⟨hr,I6⟩=>?_
   subst hr
   obtain ⟨m,hn,_⟩:=id I6.loc
   exact fin _ _ s6 H5 m (I2.uncmp (s3:={ s2 with heap:=s2.heap.push { cls:=.type "list",data:=.seq ([]:List Value).toArray },toks:=s2.toks }) f2 un rfl I6) (I3.fpOk (Nat.le_refl _) I6.free) hn qn
  ·refine thn (T.item (ac2 X sc (cmpN own cap) (s2.heap.push { cls:=.type "list",data:=.seq ([]:List Value).toArray }).objs.size { s2 with heap:=s2.heap.push { cls:=.type "list",data:=.seq ([]:List Value).toArray },toks:=s2.toks } (upd H2 s2.heap.objs.size (.lst [])) fp) rfl rfl rfl hc i [] s5 σ5 H5 _ I5 (stat fr5) st5 go) fun r s6 ⟨u,hr,h6⟩=>?_
   subst hr
   refine thn h6 fun _ s7 ⟨x,H7,I7,r7,y7,st7,fr7⟩=>?_
   have I7':=I7.pinned (stat fr7) (T.obj _ _ st7)
   refine thn (hg _ _ _ _ _ s7 σ5 H7 x u _ I7' r7 (step x H7 y7)) fun _ s8 ⟨σ8,H8,I8,q8⟩=>?_
   refine thn (he _ _ _ _ _ s8 σ8 H8 _ I8 q8) fun v9 s9 ⟨y,H9,I9,r9,hD9,m',hm,w9⟩=>?_
   refine thn (adX _ s9 σ8 H9 (.ref s2.heap.objs.size) [y] (.ref s2.heap.objs.size) [v9] (fun _ H'=>H'=upd H9 s2.heap.objs.size (.lst (ys++[y]))) I9 rfl (.cons r9 .nil) ⟨_,ys,y,rfl,rfl,hD9,hlt,rfl⟩) fun _ s10 ⟨_,H10,I10,_,q10⟩=>?_
   subst q10
   refine ⟨m',hm,i+1,σ8,_,_,I10.unpinned,T.keep _ _ _ st7 fun b hb o q=>(I10.pin (b,o) (List.mem_append_right _ (List.mem_append_right _ (acj hb q)))).1,fun b hb=>?_,w9⟩
   obtain ⟨o,q,d⟩:=T.obj _ _ st7 b hb
   exact (I10.pin (b,o) (List.mem_append_right _ (List.mem_append_right _ (acj hb q)))).2.1
 exact codeAny_compStart_list loop (T.self _ 0 _ _ _ st4 loop)
theorem amu (k:aeE X sc own cap) (hi:PI X target iter wi) (hc:X.calm=true)
  (hg:∀ C s₀ H₀ ex,PG (ac2 X sc (cmpN own cap) C s₀ H₀ ex) target g) (he:∀ C s₀ H₀ ex,PE (ac2 X sc (cmpN own cap) C s₀ H₀ ex) elt te)
  (hs:∀ x,foldedSetIterable iter X.env x=pure x:=by intro _; rfl):PE X (.ListComp elt [⟨target,iter,[],0⟩] sc pos) (aj3 own cap wi g te):=by
 intro pins s σ H Q I h
 rw [eval_ListComp]
 refine agT (use:=none) k hi hc hg he I h (fun D C s' H' m I' fC hn q=>?_) hs
 refine ⟨m,hn,fun h' sb=>⟨.ref D,H',?_,rfl,q⟩⟩
 obtain ⟨f0,f1,f2,f3,f4,f5⟩:=fC
 exact I'.turned (t':=s'.toks) (fun b o hb e=>(sb.2 b hb).trans e) f0 f1 f3 f4 f5
theorem ajj {i:Nat} {x:Str} {py spos:Pos} (hN:X.N.Nodup) (hx:X.N[i]?=some x) (hl:Loc X.env.scope x) (k:aeE X sc own cap) (hi:PI X target iter wi) (hc:X.calm=true)
  (hg:∀ C s₀ H₀ ex,PG (ac2 X sc (cmpN own cap) C s₀ H₀ ex) target g) (he:∀ C s₀ H₀ ex,PE (ac2 X sc (cmpN own cap) C s₀ H₀ ex) elt te)
  (hs:∀ x,foldedSetIterable iter X.env x=pure x:=by intro _; rfl) (hsw:swapsWith (.ListComp elt [⟨target,iter,[],0⟩] sc pos) (some (.Name x py)) spos.line X.env=pure true:=by rfl)
  (hf:X.fn x=true∨X.env.scope.names.lookup x=some .local:=by first | exact .inl rfl | exact .inr rfl | assumption) :
  PS X (.Assign [.Name x py] (.ListComp elt [⟨target,iter,[],0⟩] sc pos) spos) (tAsg (aj3 own cap wi g te) (anA i)):=by
 intro pins s σ H D I h
 rw [exec_Assign_Name_used _ _ _ _ hsw]
 refine wpAny_bind (wpAny_standAt (wpAny_bind ?_))
 show wpAny _ X.A (comprehension (.ListComp elt [⟨target,iter,[],0⟩] sc pos) sc X.env _ (newList []) false (eval iter X.env) (some (assign (.Name x py) X.env)) >>= fun _=>pure ()) _ _ s
 refine wpAny_bind (thn (agT (use:=some (assign (.Name x py) X.env)) (Qf:=fun _ s'=>SP X pins D .next s') k hi hc hg he I h (fun B C s' H' m I' fC hn q=>?_) hs) fun _ s' hq=>wpAny_pure (wpAny_pure hq))
 show wpAny _ _ (assign (.Name x py) X.env (.ref B)) _ _ s'
 obtain ⟨o,es,ep,ho,hd,r⟩:=hn
 obtain ⟨f0,f1,f2,f3,f4,f5⟩:=fC
 have I'':Inv X (pins++[(C,o)]) σ H' s':=I'.pins_of fun p hp=>(List.mem_append.mp hp).elim (fun z=>I'.pin p (List.mem_append_right _ z)) fun z=>by
  have e:p=(C,o):=by simpa using z
  subst e
  exact ⟨ho,f0,f1,f2,fun v z=>by rw [hd] at z; cases z⟩
 refine wpAny_assign_Name (adw I'' hN hx hl (v:=.ref B) rfl (fun s2 I2=>?_) hf)
 have pC:=I2.pin (C,o) (by simp)
 refine ⟨m,⟨o,es,ep,pC.1,hd,r⟩,fun h' sb=>⟨_,H',?_,q⟩⟩
 exact (I2.unpinned).turned (t':=s2.toks) (fun b o hb e=>(sb.2 b hb).trans e) f0 f1 f3 f4 f5
end
section
variable {X:Cx}
end
end L2
namespace L2
open PySem Bn
section
variable {prog:Program} {w:World} {A:Around} {E:Value→Shared→Prop} {s:Shared}
theorem aiN {it t:Addr} {i:Nat} {items:Array Value} {x:Value} {Q:Value→Shared→Prop} (git:s.heap.IsTupleIter it t i) (gt:s.heap.IsTuple t items) (gx:items[i]?=some x)
  (gQ:∀ h',h'.IsTupleIter it t (i+1)→Heap.SameBut it s.heap h'→Q x { s with heap:=h' }):wpAny (model prog w) A (Builtin.SmallTypes.nextOf (.ref it)) Q E s:=by
 obtain ⟨o,go,gc,gd⟩:=id git
 obtain ⟨ol,gol,_,nl,gdl⟩:=gt
 unfold Builtin.SmallTypes.nextOf
 refine wpAny_bind (wpAny_callSpecial?_slot (name:=Str.ofString "__next__") git.typeIs F.slot_tuple_iterator_next (wpAny_call_entry F.slot_tuple_iterator_next git.typeIs F.entry_tuple_iterator_next ?_ (F.args_tuple_iterator_next_1 _)))
 show wpAny _ _ (field (.ref it) 0 >>= _) _ _ s
 refine wpAny_bind (wpAny_field go gd (x:=.ref t) rfl ?_)
 show wpAny _ _ (if (Value.ref t == Value.none)=true then _ else _) _ _ s
 rw [if_neg (show ¬ ((Value.ref t == Value.none)=true) from Bool.false_ne_true)]
 show wpAny _ _ (field (.ref it) 1 >>= _) _ _ s
 refine wpAny_bind (wpAny_field go gd (x:=.int i 0) rfl ?_)
 show wpAny _ _ (seqItems? (.ref t) >>= _) _ _ s
 refine wpAny_bind (wpAny_seqItems gol gdl ?_)
 simp only [Int.toNat_natCast,gx]
 refine wpAny_bind (wpAny_setField go gd (by simp) (wpAny_pure ⟨_,rfl,wpAny_pure (gQ _ ?_ (Heap.SameBut.update ..))⟩))
 refine ⟨_,Heap.get?_update_self _ go (Obj.isFreed_of_fields (Obj.data_mapFields gd _)),(Obj.cls_mapFields ..).trans gc,?_⟩
 rw [Obj.data_mapFields gd]
 simp [rawInt]
theorem aft {it t:Addr} {i:Nat} {items:Array Value} {Q:Value→Shared→Prop} (hh:A.handled=none) (git:s.heap.IsTupleIter it t i) (gt:s.heap.IsTuple t items) (gx:items[i]?=none)
  (gE:∀ h' e,Heap.ExtBut it s.heap h'→(∃ o,h'.get? e=some o∧o.cls=.type "StopIteration")→E (.ref e) { s with heap:=h' }):wpAny (model prog w) A (Builtin.SmallTypes.nextOf (.ref it)) Q E s:=by
 obtain ⟨o,go,gc,gd⟩:=id git
 obtain ⟨ol,gol,_,nl,gdl⟩:=gt
 unfold Builtin.SmallTypes.nextOf
 refine wpAny_bind (wpAny_callSpecial?_slot (name:=Str.ofString "__next__") git.typeIs F.slot_tuple_iterator_next (wpAny_call_entry F.slot_tuple_iterator_next git.typeIs F.entry_tuple_iterator_next ?_ (F.args_tuple_iterator_next_1 _)))
 show wpAny _ _ (field (.ref it) 0 >>= _) _ _ s
 refine wpAny_bind (wpAny_field go gd (x:=.ref t) rfl ?_)
 show wpAny _ _ (if (Value.ref t == Value.none)=true then _ else _) _ _ s
 rw [if_neg (show ¬ ((Value.ref t == Value.none)=true) from Bool.false_ne_true)]
 show wpAny _ _ (field (.ref it) 1 >>= _) _ _ s
 refine wpAny_bind (wpAny_field go gd (x:=.int i 0) rfl ?_)
 show wpAny _ _ (seqItems? (.ref t) >>= _) _ _ s
 refine wpAny_bind (wpAny_seqItems gol gdl ?_)
 simp only [Int.toNat_natCast,gx]
 first
  | refine wpAny_bind (wpAny_rule (wpAny_bind (wpAny_setField go gd (by simp) (wpAny_bind (wpAny_letGo ?_)))))
  | refine wpAny_bind (wpAny_rule (wpAny_bind (wpAny_setField go gd (by simp) ?_)))
 show wpAny _ _ (newExc (.type "StopIteration") [] >>= _) _ _ _
 refine wpAny_bind ?_
 simp only [newExc,newTuple]
 refine wpAny_bind (wpAny_newObj_type ?_ (by size_fits))
 refine wpAny_bind (m:=firstArgMember _ _) (wpAny_of_eq (a:=Value.none) (by first | rfl | (simp only [firstArgMember]; rfl)) ?_)
 refine wpAny_newObj_type ?_ (by size_fits)
 simp only [raiseNew]
 refine wpAny_bind (wpAny_handled ?_)
 first
  | rw [show A.in1.handled=none from hh]
  | rw [hh]
 refine wpAny_bind (wpAny_pure (wpAny_throw ?_))
 exact gE _ _ (((Heap.SameBut.update ..).extBut.push _).push _) ⟨_,Heap.get?_push_size _ rfl,rfl⟩
end
theorem alo {prog:Program} {w:World} {A:Around} (hh:A.handled=none) (it t:Addr) (hne:t≠it) (items:Array Value) :
  Draws prog w A it [it,t] items.size (fun i v=>items[i]?=some v) (fun i h=>h.IsTupleIter it t i∧h.IsTuple t items) where
 live:=fun _ _ st=>let ⟨o,ho,_⟩:=st.1; ⟨o,ho⟩
 frame:=fun _ _ _ st hk=>⟨let ⟨o,ho,r⟩:=st.1; ⟨o,hk it (by simp) o ho,r⟩,let ⟨o,ho,r⟩:=st.2; ⟨o,hk t (by simp) o ho,r⟩⟩
 item:=fun i s Q E hi st hQ=>by
  refine aiN st.1 st.2 (x:=items[i]) (by simp [hi]) fun h' hit' hs'=>?_
  exact hQ _ h' s.toks (by simp [hi]) ⟨hit',st.2.extBut hs'.extBut hne⟩ hs'
 done:=fun s Q E st hE=>aft hh st.1 st.2 (by simp) hE
structure ZAp (z TI TO i1 i2:Addr) (fp1 fp2:List Addr):Prop where
 tiz:TI≠z
 toz:TO≠z
 tito:TI≠TO
 ti1:TI≠i1
 ti2:TI≠i2
 z1:z ∉ fp1
 z2:z ∉ fp2
 to1:TO ∉ fp1
 to2:TO ∉ fp2
 i12:i1 ∉ fp2
 i21:i2 ∉ fp1
 m1:i1∈fp1
 m2:i2∈fp2
section
variable {prog:Program} {w:World} {A:Around} {E:Value→Shared→Prop} {s:Shared} {z TI TO i1 i2:Addr} {fp1 fp2:List Addr} {n1 n2 i:Nat} {P1 P2:Nat→Value→Prop} {S1 S2:Nat→Heap→Prop} {a b:Value}
theorem ajr {Q:Value→Shared→Prop} (D1:Draws prog w A i1 fp1 n1 P1 S1) (D2:Draws prog w A i2 fp2 n2 P2 S2) (ap:ZAp z TI TO i1 i2 fp1 fp2) (gz:IsZip s.heap z TI TO .none) (gTI:IsPair s.heap TI (.ref i1) (.ref i2)) (gTO:IsPair s.heap TO a b)
  (g1:S1 i s.heap) (g2:S2 i s.heap) (l1:i < n1) (l2:i < n2)
  (gQ:∀ h' tk x y,P1 i x→P2 i y→IsZip h' z TI TO (rawInt s.heap.objs.size)→IsPair h' TO x y→S1 (i+1) h'→S2 (i+1) h'→IsPair h' s.heap.objs.size x y →
   (∀ c o,c≠z→c≠TO→c≠i1→c≠i2→s.heap.get? c=some o→h'.get? c=some o)→Q (.ref s.heap.objs.size) { s with heap:=h',toks:=tk }) :
  wpAny (model prog w) A (Builtin.«zip.__next__» ⟨[.ref z],[]⟩) (fun fin s'=>∃ v,fin=.done (.ret v)∧Q v s') E s:=by
 have nz1:i1≠z:=fun q=>ap.z1 (q ▸ ap.m1)
 have nz2:i2≠z:=fun q=>ap.z2 (q ▸ ap.m2)
 have nt1:TO≠i1:=fun q=>ap.to1 (q ▸ ap.m1)
 have nt2:TO≠i2:=fun q=>ap.to2 (q ▸ ap.m2)
 show wpAny _ _ (field (.ref z) 2 >>= _) _ _ _
 refine wpAny_bind (wpAny_field gz rfl (x:=.bool false) rfl ?_)
 show wpAny _ _ (field (.ref z) 3 >>= _) _ _ _
 refine wpAny_bind (wpAny_field gz rfl (x:=.ref TI) rfl ?_)
 refine wpAny_bind (wpAny_seqItems gTI rfl ?_)
 show wpAny _ _ (Builtin.SmallTypes.ownedTupleIsFree (.ref z) >>= _) _ _ _
 refine wpAny_bind ?_
 unfold Builtin.SmallTypes.ownedTupleIsFree
 refine wpAny_bind (wpAny_field gz rfl (x:=.none) rfl (wpAny_pure ?_))
 simp only [if_true]
 refine wpAny_bind (wpAny_rule ?_)
 refine wpAny_bind (wpAny_field gz rfl (x:=.ref TO) rfl ?_)
 refine wpAny_bind (wpAny_setField_rec gz (by simp) fun h1 gz1 s1=>?_)
 replace gz1:IsZip h1 z TI TO .ellipsis:=gz1
 refine wpAny_bind ?_
 simp only [List.zipIdx_cons,List.zipIdx_nil,List.forIn_cons,List.forIn_nil]
 refine wpAny_bind (wpAny_bind (wpAny_onRaise ?_))
 show wpAny _ _ (Builtin.SmallTypes.nextOf (.ref i1) >>= _) _ _ _
 refine wpAny_bind (D1.item i _ _ _ l1 (D1.frame _ _ _ g1 fun c hc o q=>s1.extBut c o (fun e=>ap.z1 (e ▸ hc)) q) fun x h2 tk2 px g1' s2=>wpAny_pure ?_)
 have gTO2:IsPair h2 TO a b:=s2.extBut _ _ nt1 (s1.extBut _ _ ap.toz gTO)
 refine wpAny_bind (wpAny_seqItems gTO2 rfl ?_)
 refine wpAny_bind (wpAny_updateSeq_pair (s:={ s with heap:=h2,toks:=tk2 }) gTO2 fun h3 gTO3 s3=>?_)
 replace gTO3:IsPair h3 TO x b:=gTO3
 replace s3:Heap.SameBut TO h2 h3:=s3
 refine wpAny_bind (wpAny_letGo (wpAny_pure ?_))
 refine wpAny_bind (wpAny_bind (wpAny_onRaise ?_))
 show wpAny _ _ (Builtin.SmallTypes.nextOf (.ref i2) >>= _) _ _ _
 have g2':S2 i h3:=D2.frame _ _ _ g2 fun c hc o q=>s3.extBut c o (fun e=>ap.to2 (e ▸ hc)) (s2.extBut c o (fun e=>ap.i12 (e ▸ hc)) (s1.extBut c o (fun e=>ap.z2 (e ▸ hc)) q))
 refine wpAny_bind (D2.item i _ _ _ l2 g2' fun y h4 tk4 py g2'' s4=>wpAny_pure ?_)
 replace s4:Heap.SameBut i2 h3 h4:=s4
 have gTO4:IsPair h4 TO x b:=s4.extBut _ _ nt2 gTO3
 refine wpAny_bind (wpAny_seqItems gTO4 rfl ?_)
 refine wpAny_bind (wpAny_updateSeq_pair (s:={ s with heap:=h4,toks:=tk4 }) gTO4 fun h5 gTO5 s5=>?_)
 replace gTO5:IsPair h5 TO x y:=gTO5
 replace s5:Heap.SameBut TO h4 h5:=s5
 refine wpAny_bind (wpAny_letGo (wpAny_pure (wpAny_pure ?_)))
 refine wpAny_bind (wpAny_seqItems gTO5 rfl ?_)
 refine wpAny_bind (wpAny_newTuple ?_)
 have hsz:h5.objs.size=s.heap.objs.size:=by rw [s5.1,s4.1,s3.1,s2.1,s1.1]
 have gz5:IsZip h5 z TI TO .ellipsis:=s5.extBut _ _ ap.toz.symm (s4.extBut _ _ nz2.symm (s3.extBut _ _ ap.toz.symm (s2.extBut _ _ nz1.symm gz1)))
 have k5:∀ c o,c≠z→c≠TO→c≠i1→c≠i2→s.heap.get? c=some o→h5.get? c=some o:=fun c o c1 c2 c3 c4 q=>s5.extBut _ _ c2 (s4.extBut _ _ c4 (s3.extBut _ _ c2 (s2.extBut _ _ c3 (s1.extBut _ _ c1 q))))
 have g15:S1 (i+1) h5:=D1.frame _ _ _ g1' fun c hc o q=>s5.extBut c o (fun e=>ap.to1 (e ▸ hc)) (s4.extBut c o (fun e=>ap.i21 (e ▸ hc)) (s3.extBut c o (fun e=>ap.to1 (e ▸ hc)) q))
 have g25:S2 (i+1) h5:=D2.frame _ _ _ g2'' fun c hc o q=>s5.extBut c o (fun e=>ap.to2 (e ▸ hc)) q
 have zlt:z < h5.objs.size:=Heap.lt_size gz5
 show wpAny _ _ (Builtin.SmallTypes.ownedTupleHandOut (.ref z) (.ref h5.objs.size) >>= _) _ _ _
 refine wpAny_bind ?_
 unfold Builtin.SmallTypes.ownedTupleHandOut
 have gz6:IsZip (h5.push { cls:=.type "tuple",data:=.seq #[x,y] }) z TI TO .ellipsis:=Heap.get?_push_of_some _ gz5
 refine wpAny_bind (wpAny_setField_rec gz6 (by simp) fun h7 gz7 s7=>?_)
 replace gz7:IsZip h7 z TI TO (rawInt h5.objs.size):=gz7
 refine wpAny_setField_rec gz7 (by simp) fun h8 gz8 s8=>?_
 replace gz8:IsZip h8 z TI TO (rawInt h5.objs.size):=gz8
 have up:∀ c o,c≠z→h5.get? c=some o→h8.get? c=some o:=fun c o c1 q=>s8.extBut _ _ c1 (s7.extBut _ _ c1 (Heap.get?_push_of_some _ q))
 have gT8:IsPair h8 h5.objs.size x y:=s8.extBut _ _ (Nat.ne_of_gt zlt) (s7.extBut _ _ (Nat.ne_of_gt zlt) (Heap.get?_push_size _ rfl))
 rw [hsz] at gz8 gT8
 refine wpAny_pure ⟨_,rfl,?_⟩
 show Q (.ref h5.objs.size) _
 rw [hsz]
 exact gQ h8 _ x y px py gz8 (up _ _ ap.toz gTO5) (D1.frame _ _ _ g15 fun c hc o q=>up c o (fun e=>ap.z1 (e ▸ hc)) q) (D2.frame _ _ _ g25 fun c hc o q=>up c o (fun e=>ap.z2 (e ▸ hc)) q) gT8 fun c o c1 c2 c3 c4 q=>up c o c1 (k5 c o c1 c2 c3 c4 q)
theorem ajD {Q:Fin→Shared→Prop} (D1:Draws prog w A i1 fp1 n1 P1 S1) (D2:Draws prog w A i2 fp2 n2 P2 S2) (ap:ZAp z TI TO i1 i2 fp1 fp2) (gz:IsZip s.heap z TI TO .none) (gTI:IsPair s.heap TI (.ref i1) (.ref i2)) (gTO:IsPair s.heap TO a b)
  (g1:S1 i s.heap) (g2:S2 i s.heap) (fin:i=n1∨(i < n1∧i=n2))
  (gE:∀ h' tk e,(∀ c o,c≠z→c≠TO→c≠i1→c≠i2→s.heap.get? c=some o→h'.get? c=some o)→(∃ o,h'.get? e=some o∧o.cls=.type "StopIteration")→E (.ref e) { s with heap:=h',toks:=tk }) :
  wpAny (model prog w) A (Builtin.«zip.__next__» ⟨[.ref z],[]⟩) Q E s:=by
 have nz1:i1≠z:=fun q=>ap.z1 (q ▸ ap.m1)
 have nz2:i2≠z:=fun q=>ap.z2 (q ▸ ap.m2)
 have nt1:TO≠i1:=fun q=>ap.to1 (q ▸ ap.m1)
 have nt2:TO≠i2:=fun q=>ap.to2 (q ▸ ap.m2)
 show wpAny _ _ (field (.ref z) 2 >>= _) _ _ _
 refine wpAny_bind (wpAny_field gz rfl (x:=.bool false) rfl ?_)
 show wpAny _ _ (field (.ref z) 3 >>= _) _ _ _
 refine wpAny_bind (wpAny_field gz rfl (x:=.ref TI) rfl ?_)
 refine wpAny_bind (wpAny_seqItems gTI rfl ?_)
 show wpAny _ _ (Builtin.SmallTypes.ownedTupleIsFree (.ref z) >>= _) _ _ _
 refine wpAny_bind ?_
 unfold Builtin.SmallTypes.ownedTupleIsFree
 refine wpAny_bind (wpAny_field gz rfl (x:=.none) rfl (wpAny_pure ?_))
 simp only [if_true]
 refine wpAny_bind (wpAny_rule ?_)
 refine wpAny_bind (wpAny_field gz rfl (x:=.ref TO) rfl ?_)
 refine wpAny_bind (wpAny_setField_rec gz (by simp) fun h1 gz1 s1=>?_)
 replace gz1:IsZip h1 z TI TO .ellipsis:=gz1
 refine wpAny_bind ?_
 simp only [List.zipIdx_cons,List.zipIdx_nil,List.forIn_cons,List.forIn_nil]
 refine wpAny_bind (wpAny_bind (wpAny_onRaise ?_))
 show wpAny _ _ (Builtin.SmallTypes.nextOf (.ref i1) >>= _) _ _ _
 have g1':S1 i h1:=D1.frame _ _ _ g1 fun c hc o q=>s1.extBut c o (fun e=>ap.z1 (e ▸ hc)) q
 rcases fin with e1 | ⟨l1,e2⟩
 ·subst e1
  refine wpAny_bind (D1.done _ _ _ g1' fun h2 e s2 he=>?_)
  obtain ⟨oe,hoe,hce⟩:=he
  have gz2:IsZip h2 z TI TO .ellipsis:=s2 _ _ nz1.symm gz1
  have hez:e≠z:=fun q=>by
   subst q
   rw [gz2] at hoe
   cases hoe
   simp at hce
  refine wpAny_setField_rec (s:={ s with heap:=h2 }) gz2 (by simp) fun h3 _ s3=>?_
  exact gE h3 _ e (fun c o c1 _ c3 _ q=>s3.extBut _ _ c1 (s2 _ _ c3 (s1.extBut _ _ c1 q))) ⟨oe,s3.extBut _ _ hez hoe,hce⟩
 ·subst e2
  refine wpAny_bind (D1.item i _ _ _ l1 g1' fun x h2 tk2 px g1'' s2=>wpAny_pure ?_)
  have gTO2:IsPair h2 TO a b:=s2.extBut _ _ nt1 (s1.extBut _ _ ap.toz gTO)
  refine wpAny_bind (wpAny_seqItems gTO2 rfl ?_)
  refine wpAny_bind (wpAny_updateSeq_pair (s:={ s with heap:=h2,toks:=tk2 }) gTO2 fun h3 gTO3 s3=>?_)
  replace s3:Heap.SameBut TO h2 h3:=s3
  refine wpAny_bind (wpAny_letGo (wpAny_pure ?_))
  refine wpAny_bind (wpAny_bind (wpAny_onRaise ?_))
  show wpAny _ _ (Builtin.SmallTypes.nextOf (.ref i2) >>= _) _ _ _
  have g2':S2 i h3:=D2.frame _ _ _ g2 fun c hc o q=>s3.extBut c o (fun e=>ap.to2 (e ▸ hc)) (s2.extBut c o (fun e=>ap.i12 (e ▸ hc)) (s1.extBut c o (fun e=>ap.z2 (e ▸ hc)) q))
  refine wpAny_bind (D2.done _ _ _ g2' fun h4 e s4 he=>?_)
  replace s4:Heap.ExtBut i2 h3 h4:=s4
  obtain ⟨oe,hoe,hce⟩:=he
  have gz4:IsZip h4 z TI TO .ellipsis:=s4 _ _ nz2.symm (s3.extBut _ _ ap.toz.symm (s2.extBut _ _ nz1.symm gz1))
  have hez:e≠z:=fun q=>by
   subst q
   rw [gz4] at hoe
   cases hoe
   simp at hce
  refine wpAny_setField_rec (s:={ s with heap:=h4,toks:=tk2 }) gz4 (by simp) fun h5 _ s5=>?_
  exact gE h5 _ e (fun c o c1 c2 c3 c4 q=>s5.extBut _ _ c1 (s4 _ _ c4 (s3.extBut _ _ c2 (s2.extBut _ _ c3 (s1.extBut _ _ c1 q))))) ⟨oe,s5.extBut _ _ hez hoe,hce⟩
theorem ahE {Q:Option Value→Shared→Prop} (D1:Draws prog w A.in1 i1 fp1 n1 P1 S1) (D2:Draws prog w A.in1 i2 fp2 n2 P2 S2) (ap:ZAp z TI TO i1 i2 fp1 fp2) (gz:IsZip s.heap z TI TO .none) (gTI:IsPair s.heap TI (.ref i1) (.ref i2)) (gTO:IsPair s.heap TO a b)
  (g1:S1 i s.heap) (g2:S2 i s.heap) (l1:i < n1) (l2:i < n2)
  (gQ:∀ h' tk x y,P1 i x→P2 i y→IsZip h' z TI TO (rawInt s.heap.objs.size)→IsPair h' TO x y→S1 (i+1) h'→S2 (i+1) h'→IsPair h' s.heap.objs.size x y →
   (∀ c o,c≠z→c≠TO→c≠i1→c≠i2→s.heap.get? c=some o→h'.get? c=some o)→Q (some (.ref s.heap.objs.size)) { s with heap:=h',toks:=tk }) :
  wpAny (model prog w) A (pyNext (.ref z)) Q E s:=by
 have gT:s.TypeIs (.ref z) "zip":=⟨_,gz,rfl⟩
 unfold pyNext
 refine wpAny_bind (wpAny_attempt (wpAny_callSpecial?_slot (name:=Str.ofString "__next__") gT F.slot_zip_next (wpAny_call_entry F.slot_zip_next gT F.entry_zip_next ?_ (F.args_zip_next_1 _))))
 exact ajr D1 D2 ap gz gTI gTO g1 g2 l1 l2 fun h' tk x y p1 p2 e1 e2 e3 e4 e5 e6=>wpAny_pure (gQ h' tk x y p1 p2 e1 e2 e3 e4 e5 e6)
theorem afl {Q:Option Value→Shared→Prop} (D1:Draws prog w A.in1 i1 fp1 n1 P1 S1) (D2:Draws prog w A.in1 i2 fp2 n2 P2 S2) (ap:ZAp z TI TO i1 i2 fp1 fp2) (gz:IsZip s.heap z TI TO .none) (gTI:IsPair s.heap TI (.ref i1) (.ref i2)) (gTO:IsPair s.heap TO a b)
  (g1:S1 i s.heap) (g2:S2 i s.heap) (fin:i=n1∨(i < n1∧i=n2))
  (gQ:∀ h' tk,(∀ c o,c≠z→c≠TO→c≠i1→c≠i2→s.heap.get? c=some o→h'.get? c=some o)→Q none { s with heap:=h',toks:=tk }):wpAny (model prog w) A (pyNext (.ref z)) Q E s:=by
 have gT:s.TypeIs (.ref z) "zip":=⟨_,gz,rfl⟩
 unfold pyNext
 refine wpAny_bind (wpAny_attempt (wpAny_callSpecial?_slot (name:=Str.ofString "__next__") gT F.slot_zip_next (wpAny_call_entry F.slot_zip_next gT F.entry_zip_next ?_ (F.args_zip_next_1 _))))
 refine ajD D1 D2 ap gz gTI gTO g1 g2 fin fun h' tk e hk he=>?_
 obtain ⟨o,ho,hc⟩:=he
 refine wpAny_bind (wpAny_isInstance (T:="StopIteration") (b:=true) ⟨o,ho,hc⟩ isSubtype_stop ?_)
 exact wpAny_pure (gQ _ _ hk)
end
end L2
namespace L2
open PySem Bn
abbrev zpH1 (h:Heap) (o1:Obj):Heap:=h.push o1
abbrev zpH2 (h:Heap) (o1 o2:Obj):Heap:=(zpH1 h o1).push o2
abbrev zpH3 (h:Heap) (o1 o2:Obj):Heap:=(zpH2 h o1 o2).push { cls:=.type "tuple",data:=.seq #[.ref h.objs.size,.ref (zpH1 h o1).objs.size] }
abbrev zpH4 (h:Heap) (o1 o2:Obj):Heap:=(zpH3 h o1 o2).push { cls:=.type "tuple",data:=.seq #[.none,.none] }
abbrev zpH5 (h:Heap) (o1 o2:Obj):Heap:=(zpH4 h o1 o2).push { cls:=.type "zip",data:=.fields #[.none,.bool false,.bool false,.ref (zpH2 h o1 o2).objs.size,.ref (zpH3 h o1 o2).objs.size] }
def MkIt (l:Addr) (o:Obj) (G:Heap→Prop):Prop :=
 ∀ (prog:Program) (w:World) (A:Around) (E:Value→Shared→Prop) (s:Shared) (Q:Value→Shared→Prop),G s.heap→Q (.ref s.heap.objs.size) { s with heap:=s.heap.push o }→wpAny (model prog w) A (pyIter (.ref l)) Q E s
theorem akf (l1 l2:Addr) (o1 o2:Obj) (G1 G2:Heap→Prop) (p1:MkIt l1 o1 G1) (p2:MkIt l2 o2 G2) (k2:∀ h,G2 h→G2 (h.push o1)) :
  Meets (Builtin.«zip.__new__» ⟨[.type "zip",.ref l1,.ref l2],[]⟩) (fun _ R s=>G1 s.heap∧G2 s.heap∧R (.ok (.ret (.ref (zpH4 s.heap o1 o2).objs.size))) { s with heap:=zpH5 s.heap o1 o2 }) :=
 .of_wp fun prog w A R s h=>by
  obtain ⟨hp,g,d,tk,os⟩:=s
  obtain ⟨g1,g2,h⟩:=h
  have hsub:=sub_zip
  have q1:=fun (A':Around) (E':Value→Shared→Prop) (Q':Value→Shared→Prop)=>p1 prog w A' E' ⟨hp,g,d,tk,os⟩ Q' g1
  have q2:=fun (A':Around) (E':Value→Shared→Prop) (Q':Value→Shared→Prop)=>p2 prog w A' E' ⟨hp.push o1,g,d,tk,os⟩ Q' (k2 _ g2)
  wp_walk using q1 _ _ _,q2 _ _ _
  exact ⟨_,rfl,h⟩
theorem agz {prog:Program} {w:World} {A:Around} {E:Value→Shared→Prop} {s:Shared} {l1 l2:Addr} {o1 o2:Obj} {G1 G2:Heap→Prop} {Q:Value→Shared→Prop} (p1:MkIt l1 o1 G1) (p2:MkIt l2 o2 G2) (k2:∀ h,G2 h→G2 (h.push o1)) (g1:G1 s.heap) (g2:G2 s.heap)
  (f1:o1.isFreed=false) (f2:o2.isFreed=false)
  (h:∀ h',IsZip h' (s.heap.objs.size+4) (s.heap.objs.size+2) (s.heap.objs.size+3) .none→IsPair h' (s.heap.objs.size+2) (.ref s.heap.objs.size) (.ref (s.heap.objs.size+1))→IsPair h' (s.heap.objs.size+3) .none .none →
   h'.get? s.heap.objs.size=some o1→h'.get? (s.heap.objs.size+1)=some o2→(∀ c o,s.heap.get? c=some o→h'.get? c=some o)→Q (.ref (s.heap.objs.size+4)) { s with heap:=h' }) :
  wpAny (model prog w) A (call (.type "zip") [.ref l1,.ref l2]) Q E s:=by
 refine callType_new F.called_zip (by decide) (F.typeCall_zip_2 _ _) (F.newCall_zip_2 _ _) (fun obj=>F.args_object_init_3 obj _ _) F.entry_zip_new (akf l1 l2 o1 o2 G1 G2 p1 p2 k2) ⟨g1,g2,?_⟩
 have e1:(zpH1 s.heap o1).objs.size=s.heap.objs.size+1:=Heap.size_push ..
 have e2:(zpH2 s.heap o1 o2).objs.size=s.heap.objs.size+2:=by rw [Heap.size_push,e1]
 have e3:(zpH3 s.heap o1 o2).objs.size=s.heap.objs.size+3:=by rw [Heap.size_push,e2]
 have e4:(zpH4 s.heap o1 o2).objs.size=s.heap.objs.size+4:=by rw [Heap.size_push,e3]
 have r5:(zpH5 s.heap o1 o2).get? (zpH4 s.heap o1 o2).objs.size=some _:=Heap.get?_push_size _ rfl
 have r4:(zpH5 s.heap o1 o2).get? (zpH3 s.heap o1 o2).objs.size=some _:=Heap.get?_push_of_some _ (Heap.get?_push_size _ rfl)
 have r3:(zpH5 s.heap o1 o2).get? (zpH2 s.heap o1 o2).objs.size=some _:=Heap.get?_push_of_some _ (Heap.get?_push_of_some _ (Heap.get?_push_size _ rfl))
 have r2:(zpH5 s.heap o1 o2).get? (zpH1 s.heap o1).objs.size=some o2:=Heap.get?_push_of_some _ (Heap.get?_push_of_some _ (Heap.get?_push_of_some _ (Heap.get?_push_size _ f2)))
 have r1:(zpH5 s.heap o1 o2).get? s.heap.objs.size=some o1:=Heap.get?_push_of_some _ (Heap.get?_push_of_some _ (Heap.get?_push_of_some _ (Heap.get?_push_of_some _ (Heap.get?_push_size _ f1))))
 show _∧_
 rw [e2,e3,e4] at r5
 rw [e1,e2] at r3
 rw [e3] at r4
 rw [e1] at r2
 rw [e4]
 exact ⟨⟨_,r5,rfl⟩,h _ r5 r3 r4 r1 r2 fun c o q=>Heap.get?_push_of_some _ (Heap.get?_push_of_some _ (Heap.get?_push_of_some _ (Heap.get?_push_of_some _ (Heap.get?_push_of_some _ q))))⟩
end L2
namespace L2
open PySem PySem.Spec PyProof.Rows Bn
def SqF (f:Bool) (K:PySem.W.Frag) (H:Hp) (a:Addr) (xs:List V):Prop:=match f with
 | true=>SqT K H a xs
 | false=>SqL K H a xs
def ItF (f:Bool) (it a:Addr) (i:Nat) (h:Heap):Prop:=match f with
 | true=>h.IsTupleIter it a i
 | false=>h.IsListIter it a i
def HasF (f:Bool) (a:Addr) (items:Array Value) (h:Heap):Prop:=match f with
 | true=>h.IsTuple a items
 | false=>h.IsList a items
def ItO (f:Bool) (a:Addr):Obj:=match f with
 | true=>{ cls:=.type "tuple_iterator",data:=.fields #[.ref a,.int 0 0] }
 | false=>{ cls:=.type "list_iterator",data:=.fields #[.ref a,.int 0 0] }
section
variable {X:Cx} {pins:List (Addr × Obj)} {σ:St} {H:Hp} {s:Shared} {a:Addr} {xs ys:List V} {f:Bool}
theorem Inv.seqF (I:Inv X pins σ H s) (h:SqF f X.K H a xs):∃ its:List Value,Vals xs its∧HasF f a its.toArray s.heap∧xs.length≤sizeLine:=by
 cases f with
 | true =>
  obtain ⟨its,r,p,z⟩:=I.tuple h
  exact ⟨its,r,p,z⟩
 | false =>
  obtain ⟨its,r,p,z⟩:=I.list h
  exact ⟨its,r,p.isList,z⟩
theorem Inv.seqF_inj (I:Inv X pins σ H s) (h:SqF f X.K H a xs) (h':SqF f X.K H a ys):xs=ys:=by
 cases f with
 | true=>exact I.tuple_inj h h'
 | false=>exact I.list_inj h h'
theorem Inv.apart {b:Addr} (I:Inv X pins σ H s) (fb:FpOk X pins H b) (h:SqF f X.K H a xs):a≠b:=by
 have viaK:∀ {o:Obj},X.K.lookup a=some o→a≠b:=fun {o} q e=>by
  have hb:X.base.get? b=some o:=e ▸ I.ok.mod.kin a o q
  rcases fb.2.2.2.1 with z | z
  ·exact I.ok.noex b o hb z
  ·exact absurd (Nat.lt_of_lt_of_le (Heap.lt_size (I.ok.bs b o hb).1) z) (Nat.lt_irrefl _)
 cases f with
 | true =>
  rcases h with (h | ⟨o,h⟩) | ⟨o,_,_,q,_⟩
  ·exact aaN h fb.1
  ·exact aaN h fb.1
  ·exact viaK q
 | false =>
  rcases h with (h | ⟨o,h⟩) | ⟨o,_,_,q,_⟩
  ·exact aaN h fb.1
  ·exact aaN h fb.1
  ·exact viaK q
end
theorem ahY {prog:Program} {w:World} {A:Around} (f:Bool) (hh:A.handled=none) (it a:Addr) (hne:a≠it) (items:Array Value) :
  Draws prog w A it [it,a] items.size (fun i v=>items[i]?=some v) (fun i h=>ItF f it a i h∧HasF f a items h):=by
 cases f with
 | true=>exact alo hh it a hne items
 | false=>exact Draws.list hh it a hne items
theorem anU (f:Bool) (a:Addr) (items:Array Value):MkIt a (ItO f a) (HasF f a items):=by
 cases f with
 | true=>exact fun prog w A E s Q g q=>wpAny_pyIter_tuple g q
 | false=>exact fun prog w A E s Q g q=>wpAny_pyIter_list g q
theorem ItF.keep {f:Bool} {it a:Addr} {i:Nat} {h h':Heap} (x:ItF f it a i h) (k:∀ o,h.get? it=some o→h'.get? it=some o):ItF f it a i h':=by
 cases f with
 | true=>obtain ⟨o,e,r⟩:=x; exact ⟨o,k o e,r⟩
 | false=>obtain ⟨o,e,r⟩:=x; exact ⟨o,k o e,r⟩
theorem HasF.keep {f:Bool} {a:Addr} {items:Array Value} {h h':Heap} (x:HasF f a items h) (k:∀ o,h.get? a=some o→h'.get? a=some o):HasF f a items h':=by
 cases f with
 | true=>obtain ⟨o,e,r⟩:=x; exact ⟨o,k o e,r⟩
 | false=>obtain ⟨o,e,r⟩:=x; exact ⟨o,k o e,r⟩
theorem ItF.obj {f:Bool} {it a:Addr} {i:Nat} {h:Heap} (x:ItF f it a i h):∃ o,h.get? it=some o∧∀ v,o.data≠.cell v:=by
 cases f with
 | true=>obtain ⟨o,e,_,d⟩:=x; exact ⟨o,e,fun v z=>by rw [d] at z; cases z⟩
 | false=>obtain ⟨o,e,_,d⟩:=x; exact ⟨o,e,fun v z=>by rw [d] at z; cases z⟩
theorem agD (f:Bool) (a it:Addr) {h:Heap} (e:h.get? it=some (ItO f a)):ItF f it a 0 h:=by
 cases f with
 | true=>exact ⟨_,e,rfl,rfl⟩
 | false=>exact ⟨_,e,rfl,rfl⟩
theorem ahV (f:Bool) (a:Addr):(ItO f a).isFreed=false:=by cases f <;> rfl
def Itz (K : PySem.W.Frag) (f1 : Bool) (a : Addr) (f2 : Bool) (b : Addr) : It :=
  ⟨fun i H => ∃ xs ys x y, SqF f1 K H a xs ∧ SqF f2 K H b ys ∧ xs[i]? = some x ∧ ys[i]? = some y,
   fun i H v H' => ∃ p x y, H p = none ∧ v = .ref p ∧ H' = upd H p (.tup [x, y]) ∧ (∀ xs, SqF f1 K H a xs → xs[i]? = some x) ∧ ∀ ys, SqF f2 K H b ys → ys[i]? = some y,
   fun i H => ∃ xs ys, SqF f1 K H a xs ∧ SqF f2 K H b ys ∧ (i = xs.length ∨ (i < xs.length ∧ i = ys.length))⟩
structure ZRec (z TI TO i1 i2:Addr):Prop where
 tiz:TI≠z
 toz:TO≠z
 i1z:i1≠z
 i2z:i2≠z
 tito:TI≠TO
 ti1:TI≠i1
 ti2:TI≠i2
 to1:TO≠i1
 to2:TO≠i2
 i12:i1≠i2
theorem ZRec.ap {z TI TO i1 i2 a b:Addr} (r:ZRec z TI TO i1 i2) (h:∀ c∈[z,TI,TO,i1,i2],a≠c) (g:∀ c∈[z,TI,TO,i1,i2],b≠c):ZAp z TI TO i1 i2 [i1,a] [i2,b] where
 tiz:=r.tiz
 toz:=r.toz
 tito:=r.tito
 ti1:=r.ti1
 ti2:=r.ti2
 z1:=fun q=>by simp at q; rcases q with q | q; exact r.i1z q.symm; exact h z (by simp) q.symm
 z2:=fun q=>by simp at q; rcases q with q | q; exact r.i2z q.symm; exact g z (by simp) q.symm
 to1:=fun q=>by simp at q; rcases q with q | q; exact r.to1 q; exact h TO (by simp) q.symm
 to2:=fun q=>by simp at q; rcases q with q | q; exact r.to2 q; exact g TO (by simp) q.symm
 i12:=fun q=>by simp at q; rcases q with q | q; exact r.i12 q; exact g i1 (by simp) q.symm
 i21:=fun q=>by simp at q; rcases q with q | q; exact r.i12 q.symm; exact h i2 (by simp) q.symm
 m1:=by simp
 m2:=by simp
theorem akO {P:Program} {w:World} {K:PySem.W.Frag} {elts:List Expr} {x1:Nat} {tp:Pos} (f1 f2:Bool) (a b z TI TO i1 i2:Addr) (zr:ZRec z TI TO i1 i2) :
  Turn P w K (.Tuple elts x1 tp) (Itz K f1 a f2 b) [z,TI,TO,i1,i2] z (fun i h=>IsZip h z TI TO .none∧IsPair h TI (.ref i1) (.ref i2)∧(∃ u v,IsPair h TO u v)∧ItF f1 i1 a i h∧ItF f2 i2 b i h) where
 mem:=by simp
 obj:=fun i h st c hc=>by
  obtain ⟨e1,e2,⟨u,v,e3⟩,e4,e5⟩:=st
  simp at hc
  rcases hc with q | q | q | q | q
  ·subst q
   exact ⟨_,e1,fun v z=>nomatch z⟩
  ·subst q
   exact ⟨_,e2,fun v z=>nomatch z⟩
  ·subst q
   exact ⟨_,e3,fun v z=>nomatch z⟩
  ·subst q
   exact e4.obj
  ·subst q
   exact e5.obj
 keep:=fun i h h' st k=>by
  obtain ⟨e1,e2,⟨u,v,e3⟩,e4,e5⟩:=st
  exact ⟨k z (by simp) _ e1,k TI (by simp) _ e2,⟨u,v,k TO (by simp) _ e3⟩,e4.keep fun o q=>k i1 (by simp) o q,e5.keep fun o q=>k i2 (by simp) o q⟩
 item:=by
  intro X hP hw hK hc i pins s σ H E I hf st hg
  subst hP hw hK
  obtain ⟨xs,ys,x,y,hx,hy,ex,ey⟩:=hg
  obtain ⟨its,r1,p1,_⟩:=I.seqF hx
  obtain ⟨jts,r2,p2,_⟩:=I.seqF hy
  obtain ⟨ux,gx,rx⟩:=r1.get ex
  obtain ⟨uy,gy,ry⟩:=r2.get ey
  obtain ⟨e1,e2,⟨u,v,e3⟩,e4,e5⟩:=st
  have na:∀ c∈[z,TI,TO,i1,i2],a≠c:=fun c hc=>I.apart (hf c hc) hx
  have nb:∀ c∈[z,TI,TO,i1,i2],b≠c:=fun c hc=>I.apart (hf c hc) hy
  have hd:X.A.in1.handled=none:=I.ok.hd hc
  have D1:=ahY (prog:=X.prog) (w:=X.w) f1 hd i1 a (na i1 (by simp)) its.toArray
  have D2:=ahY (prog:=X.prog) (w:=X.w) f2 hd i2 b (nb i2 (by simp)) jts.toArray
  refine ahE D1 D2 (zr.ap na nb) e1 e2 e3 ⟨e4,p1⟩ ⟨e5,p2⟩ (List.getElem?_eq_some_iff.mp gx).1 (List.getElem?_eq_some_iff.mp gy).1 fun h1 tk vx vy px py q1 q2 q3 q4 q5 k1=>⟨_,rfl,?_⟩
  have ex':vx=ux:=by
   have:its[i]?=some vx:=by simpa using px
   rw [gx] at this
   exact (Option.some.inj this).symm
  have ey':vy=uy:=by
   have:jts[i]?=some vy:=by simpa using py
   rw [gy] at this
   exact (Option.some.inj this).symm
  subst ex' ey'
  have lt:∀ c∈[z,TI,TO,i1,i2],c≠s.heap.objs.size:=fun c hc=>by
   have:∃ o,s.heap.get? c=some o:=by
    simp at hc
    rcases hc with q | q | q | q | q
    ·exact ⟨_,q ▸ e1⟩
    ·exact ⟨_,q ▸ e2⟩
    ·exact ⟨_,q ▸ e3⟩
    ·obtain ⟨o,ho,_⟩:=e4.obj
     exact ⟨o,q ▸ ho⟩
    ·obtain ⟨o,ho,_⟩:=e5.obj
     exact ⟨o,q ▸ ho⟩
   obtain ⟨o,ho⟩:=this
   exact Nat.ne_of_lt (Heap.lt_size ho)
  refine wpAny_letOwnedTupleGo_zip (s:={ s with heap:=h1,toks:=tk }) q1 fun h2 z2 sb2=>?_
  have t2:h2.get? s.heap.objs.size=some { cls:=.type "tuple",data:=.seq #[vx,vy] }:=(sb2.2 _ (lt z (by simp)).symm).trans q5
  have I2:Inv X pins σ (upd H s.heap.objs.size (.tup [x,y])) { s with heap:=h2,toks:=tk } :=
   I.turnedNew hf (fun c o hc q=>(sb2.2 c (fun e=>hc (by simp [e]))).trans (k1 c o (fun e=>hc (by simp [e])) (fun e=>hc (by simp [e])) (fun e=>hc (by simp [e])) (fun e=>hc (by simp [e])) q)) (Nat.le_refl _)
    ⟨by show 2≤sizeLine; decide,[vx,vy],.cons rx (.cons ry .nil),⟨_,t2,rfl,_,rfl⟩⟩
  refine ⟨.ref s.heap.objs.size,_,I2,rfl,⟨_,x,y,I.hok.fresh (Nat.le_refl _),rfl,rfl,fun zs hz=>by rw [I.seqF_inj hz hx]; exact ex,fun zs hz=>by rw [I.seqF_inj hz hy]; exact ey⟩,
   ⟨z2,(sb2.2 _ zr.tiz).trans (k1 _ _ zr.tiz zr.tito zr.ti1 zr.ti2 e2),⟨_,_,(sb2.2 _ zr.toz).trans q2⟩,q3.1.keep fun o q=>(sb2.2 _ zr.i1z).trans q,q4.1.keep fun o q=>(sb2.2 _ zr.i2z).trans q⟩,fun c hc=>?_⟩
  rw [aaG (lt c hc)]
  exact (hf c hc).1
 done:=by
  intro X hP hw hK hc i pins s σ H E I hf st hg
  subst hP hw hK
  obtain ⟨xs,ys,hx,hy,fin⟩:=hg
  obtain ⟨its,r1,p1,_⟩:=I.seqF hx
  obtain ⟨jts,r2,p2,_⟩:=I.seqF hy
  have l1:=r1.length
  have l2:=r2.length
  obtain ⟨e1,e2,⟨u,v,e3⟩,e4,e5⟩:=st
  have na:∀ c∈[z,TI,TO,i1,i2],a≠c:=fun c hc=>I.apart (hf c hc) hx
  have nb:∀ c∈[z,TI,TO,i1,i2],b≠c:=fun c hc=>I.apart (hf c hc) hy
  have hd:X.A.in1.handled=none:=I.ok.hd hc
  have D1:=ahY (prog:=X.prog) (w:=X.w) f1 hd i1 a (na i1 (by simp)) its.toArray
  have D2:=ahY (prog:=X.prog) (w:=X.w) f2 hd i2 b (nb i2 (by simp)) jts.toArray
  refine afl D1 D2 (zr.ap na nb) e1 e2 e3 ⟨e4,p1⟩ ⟨e5,p2⟩ (by rw [List.size_toArray,List.size_toArray,← l1,← l2]; exact fin) fun h' tk k=>⟨rfl,?_⟩
  exact I.turnedL hf fun c o hc q=>k c o (fun e=>hc (by simp [e])) (fun e=>hc (by simp [e])) (fun e=>hc (by simp [e])) (fun e=>hc (by simp [e])) q
 self:=fun _ _ _ _ _ st h=>wpAny_pyIter_zip st.1 h
section
variable {X:Cx} {elts:List Expr} {x1:Nat} {tp:Pos}
def iZip (K:PySem.W.Frag) (tl:TA):TI:=fun σ H R=>tl σ H fun vs H1=>∃ f1 a f2 b xs ys,vs=[.ref a,.ref b]∧SqF f1 K H1 a xs∧SqF f2 K H1 b ys∧R (Itz K f1 a f2 b) H1
theorem aox {l r:Expr} {tl:TA} {p pos:Pos} (hg:Gl X "zip") (hm:X.mg "zip"=none) (hl:PA X [l,r] tl) (hs:starEach [l,r] X.env=[(false,eval l X.env),(false,eval r X.env)]:=by rfl) (hs2:starEach [r] X.env=[(false,eval r X.env)]:=by rfl) :
  PI X (.Tuple elts x1 tp) (.Call (.Name "zip" p) [l,r] [] pos) (iZip X.K tl):=by
 intro pins s σ H R I h
 refine Call_ (afL I hg hm boot_zip (PyProof.Rows.callWith_type1 (thn (hl pos pins s σ H _ I h) fun us s1 ⟨vs,H1,I1,r1,q1⟩=>?_) (by rw [hs,hs2]) (by rw [hs2]; rfl)))
 obtain ⟨f1,a,f2,b,xs,ys,rfl,hx,hy,q⟩:=q1
 obtain ⟨u,v,rfl,ru,rv⟩:=apc r1
 cases ru
 cases rv
 obtain ⟨its,_,p1,_⟩:=I1.seqF hx
 obtain ⟨jts,_,p2,_⟩:=I1.seqF hy
 refine agz (anU f1 a its.toArray) (anU f2 b jts.toArray) (fun h g=>g.keep fun o z=>Heap.get?_push_of_some _ z) p1 p2 (ahV _ _) (ahV _ _) fun h' e1 e2 e3 e4 e5 k=>?_
 refine wpAny_pyIter_zip (s:={ s1 with heap:=h' }) e1 ?_
 have zr:ZRec (s1.heap.objs.size+4) (s1.heap.objs.size+2) (s1.heap.objs.size+3) s1.heap.objs.size (s1.heap.objs.size+1):=by
  generalize s1.heap.objs.size=n
  have g:∀ i j:Nat,i≠j→((n:Nat)+i:Nat)≠n+j:=fun i j h=>by omega
  exact ⟨g 2 4 (by decide),g 3 4 (by decide),g 0 4 (by decide),g 1 4 (by decide),g 2 3 (by decide),g 2 0 (by decide),g 2 1 (by decide),g 3 0 (by decide),g 3 1 (by decide),g 0 1 (by decide)⟩
 refine ⟨_,[s1.heap.objs.size+4,s1.heap.objs.size+2,s1.heap.objs.size+3,s1.heap.objs.size,s1.heap.objs.size+1],_,_,H1,rfl,I1.kept (t':=s1.toks) k,akO f1 f2 a b _ _ _ _ _ zr,⟨e1,e2,⟨_,_,e3⟩,agD f1 a _ e4,agD f2 b _ e5⟩,fun c hc=>?_,q⟩
 have hb:s1.heap.objs.size≤c:=by
  simp only [List.mem_cons,List.not_mem_nil,or_false] at hc
  rcases hc with q | q | q | q | q
  all_goals rw [q]
  all_goals first | exact Nat.le_refl _ | exact Nat.le_add_right _ _
 exact I1.fpOk hb (I1.hok.fresh hb)
end
end L2
namespace L2
open PySem PySem.Spec PyProof.Rows Bn
structure FunD (K:PySem.W.Frag) (x qual:Str) (st:Stmt) (f:Addr) (fd:FuncData) (ds:Array Value):Prop where
 ex:∃ (oc:Value) (od:Option Addr) (T:Addr) (oT:Obj) (n:Nat) (kV doc pm:Value) (an:Option Addr) (cdv ct:Value) (osl:Array (Option Value)),
  fd=PySem.W.fnOf x qual (aaz st) (aaw st) (aaf st) (.ref T) kV doc pm an cdv ct∧K.lookup f=some ⟨oc,od,.func fd,osl⟩∧PySem.W.codeIn K cdv qual=true∧K.lookup T=some oT∧oT.data=.seq ds n
 kp:PySem.W.keepIn K (.ref f)=true
section
variable {P:Program} {w:World} {K:PySem.W.Frag} {mg:Str→Option Value} {base:Heap}
theorem FunD.ok {x qual:Str} {st:Stmt} {f:Addr} {fd:FuncData} {ds:Array Value} {N ps:List Str} {k:Nat} {sp:Sp} (F:FunD K x qual st f fd ds) (S:aaA N ps (aaf st)) (len:∀ vs H Q E,sp vs H Q E→vs.length=ps.length)
  (hbody:∀ (cdv:Value) (A:Around) (outer:List Env) (s:Shared) (H:Hp) (vs:List V) (Q:VK) (E:XK),Room k (A.deeper (envOfC qual (aaf st) s.heap.objs.size f cdv))→sp vs H Q E →
   ∃ t,PSs (cxOf CX0 P w K mg base N qual (aaf st) f cdv A outer s H E).nox (aaw st) t∧t { nx:=fun _ H'=>Q .non H',rt:=Q } (start N vs) H):FnOk P w K mg base CX0 (k+1) f fd ps sp:=by
 obtain ⟨oc,od,T,oT,n,kV,doc,pm,an,cdv,ct,osl,rfl,lk,hcd,_,_⟩:=F.ex
 refine alq lk hcd S len fun A outer s H vs Q E hr hsp=>?_
 obtain ⟨t,h,q⟩:=hbody cdv A outer s H vs Q E hr hsp
 exact ⟨t,h.nox,q⟩
theorem FunD.binds {x qual:Str} {st:Stmt} {f:Addr} {fd:FuncData} {ds:Array Value} {ps:List Str} {dd:List Value} (F:FunD K x qual st f fd ds)
  (h:∀ (T:Addr) (kV doc pm:Value) (an:Option Addr) (cdv ct:Value) (us:List Value),(us++dd).length=ps.length →
   ∃ k,bindArgs (PySem.W.fnOf x qual (aaz st) (aaw st) (aaf st) (.ref T) kV doc pm an cdv ct) ⟨us,[]⟩=seqItems? (.ref T) >>= k∧k (some ds)=pure (ps.zip (us++dd))):adC K fd ps dd:=by
 obtain ⟨oc,od,T,oT,n,kV,doc,pm,an,cdv,ct,osl,rfl,lk,hcd,lT,hT⟩:=F.ex
 intro s us hK hl
 obtain ⟨k,h1,h2⟩:=h T kV doc pm an cdv ct us hl
 exact PySem.W.binds_K hK rfl lT hT h1 h2
theorem am3 {x qual:Str} {st:Stmt} {f T:Addr} {oT:Obj} {n:Nat} {ds:Array Value} {oc:Value} {od an:Option Addr} {osl:Array (Option Value)} {kV doc pm cdv ct:Value} (l:K.lookup f=some ⟨oc,od,.func (PySem.W.fnOf x qual (aaz st) (aaw st) (aaf st) (.ref T) kV doc pm an cdv ct),osl⟩)
  (c:PySem.W.codeIn K cdv qual=true) (k:PySem.W.keepIn K (.ref f)=true) (lT:K.lookup T=some oT) (hT:oT.data=.seq ds n):FunD K x qual st f (PySem.W.fnOf x qual (aaz st) (aaw st) (aaf st) (.ref T) kV doc pm an cdv ct) ds :=
 ⟨⟨oc,od,T,oT,n,kV,doc,pm,an,cdv,ct,osl,rfl,l,c,lT,hT⟩,k⟩
end
theorem abz {X:Cx} {sc:Scope} {own:List Str} {cap:List (Nat × Str)} (so:Scope) (N:List Str) (hso:X.env.scope=so) (hN:X.N=N) (kind:sc.kind=.function) (names:∀ y∈sc.names,y.2=.local→sc.names.lookup y.1=some .local)
  (nocell:∀ y∈sc.names,y.2≠.cell) (free:∀ y∈sc.names,y.2=.free→so.names.lookup y.1=some .cell) (at':∀ p∈cap,N[p.1]?=some p.2) (hcap:∀ p∈cap,sc.names.lookup p.2=some .free):aeE X sc own cap :=
 ⟨kind,names,nocell,fun y hy e=>by show X.env.scope.names.lookup y.1=_; rw [hso]; exact free y hy e,fun p hp=>by rw [hN]; exact at' p hp,hcap⟩
end L2
namespace L2
open PySem PySem.Spec PyProof.Rows Bn
theorem af7 (n d:Nat):HT.sIx (n+1) d (some (-1))=n:=by
 unfold HT.sIx
 simp
 omega
end L2
namespace L2
open PySem PySem.Spec PyProof.Rows Bn
section
variable {X:Cx}
end
end L2
namespace L2
open PySem PySem.Spec PyProof.Rows Bn
theorem adj.has {P:Program} {w:World} {H:Hp} {h:Heap} {a:Addr} {o:HO} (x:adj P w H h a o):∃ u,h.get? a=some u:=by
 cases o with
 | lst xs=>obtain ⟨_,_,_,_,e⟩:=x; exact ⟨_,e⟩
 | tup xs=>obtain ⟨_,_,_,u,e,_⟩:=x; exact ⟨u,e⟩
 | dK kvs=>obtain ⟨_,_,_,_,o,_,_,e,_⟩:=x; exact ⟨_,e⟩
 | dT kvs=>obtain ⟨_,_,_,_,o,_,_,e,_⟩:=x; exact ⟨_,e⟩
 | set S n=>obtain ⟨o,_,_,_,e,_⟩:=x; exact ⟨_,e⟩
 | ins C dx fs=>obtain ⟨_,_,_,e,_⟩:=x; exact ⟨_,e⟩
 | own y=>exact x
 | xd fs=>obtain ⟨_,⟨_,_,_,e,_⟩,_⟩:=x; exact ⟨_,e⟩
 | rng lo hi=>obtain ⟨_,_,_,e⟩:=x; exact ⟨_,e⟩
 | frz ob u=>obtain ⟨e,_⟩:=x; exact ⟨_,e⟩
 | tbl ps=>exact ⟨_,show h.get? a=some _ from x⟩
 | met f y=>exact ⟨_,show h.get? a=some _ from x⟩
 | ext φ=>exact x.2.1
abbrev ade:List Value:=[.type "ValueError",.type "Exception",.type "BaseException",.type "object"]
theorem anv {K:PySem.W.Frag} {h:Heap} {C:Addr} {bmB:List Value} {newId:String} (X:K.In h) (q:PySem.W.excIn K C bmB newId=true) :
  ∃ bm N nm qn bs hdct sn sub ab col dd k0 k1 k2 k3 k5 mN,h.get? C=some (excClassObj nm qn C N bs bm hdct sn sub ab col dd k0 k1 k2 k3 k5 newId)∧h.Ns N mN∧mN "__init__"=none∧OwnTail h bmB bm:=by
 unfold PySem.W.excIn at q
 split at q
 ·rename_i dd cd sl ho
  split at q
  ·rename_i C' bm k0 k1 k2 k3 n k5 hm hs
   simp only [Bool.and_eq_true,beq_iff_eq,Bool.not_eq_true'] at q
   obtain ⟨⟨⟨⟨⟨z1,z2⟩,hdel⟩,ht⟩,hok⟩,hni⟩:=q
   subst z1 z2
   obtain ⟨nm,bs,mro,ns,qn,hd,sn,sub,ab,col,del⟩:=cd
   dsimp only at hm hdel hok hni
   subst hm hdel
   have hsl:sl=#[k0,k1,k2,k3,some (.builtin n),k5]:=by
    obtain ⟨l⟩:=sl
    simp only at hs
    rw [hs]
   subst hsl
   refine ⟨bm,ns,nm,qn,bs,hd,sn,sub,ab,col,dd,k0,k1,k2,k3,k5,_,X _ _ ho,.of_isNs (PySem.W.isNs_of_in X hok),PySem.W.nsMap_none_of_in X hok hni,PySem.W.tail_of_in X ht⟩
  ·cases q
 ·cases q
def CX1 (P:Program) (w:World):CXT:=fun outer H s E e s'=>∃ (x C t:Addr) (B:Heap) (H':Hp),e=.ref x∧s'.os=s.os∧AllBare s'.gens∧Un (frs outer) [] H H' s.heap s'.heap∧HOk P w H' s'.heap ∧
 Heap.FlyingW B outer x (.ref C) (.ref t) s'.heap∧(∀ b o,s'.heap.get? b=some o→(∃ u,H' b=some u)∨(∃ o',s.heap.get? b=some o'∧b ∉ frs outer)→B.get? b=some o)∧E (.ref C) none H'
theorem ak5 {P:Program} {w:World} {K:PySem.W.Frag} {mg:Str→Option Value} {base:Heap} {N:List Str} {qual:Str} {scope:Scope} {f:Addr} {cd:Value} {A:Around} {outer:List Env} {s₀:Shared} {H₀:Hp} {E:XK}
  {x:Str} {C:Addr} {txt:Str} {j:Nat} {np p1 cpos pos:Pos} (hg:Gl (cxOf (CX1 P w) P w K mg base N qual scope f cd A outer s₀ H₀ E) x) (hm:mg x=some (.ref C)) (hx:PySem.W.excIn K C ade "ValueError.__new__"=true)
  (hd:(x == ("__debug__":Str))=false:=by decide) :
  PS (cxOf (CX1 P w) P w K mg base N qual scope f cd A outer s₀ H₀ E) (.Raise (some (.Call (.Name x np) [.Constant (.str txt) j p1] [] cpos)) none pos) (fun _ _ H=>E (.ref C) none H):=by
 intro pins s σ H D I h
 obtain ⟨bm,Nn,nm,qn,bs,hdct,sn,sub,ab,col,dd,k0,k1,k2,k3,k5,mN,hC,hN,hni,T⟩:=anv I.ok.mod.kin hx
 refine wpAny_Raise_call_subT (C:=C) (nm:=nm) (q:=qn) (N:=Nn) (bs:=bs) (bm:=bm) (hdct:=hdct) (sn:=sn) (sub:=sub) (ab:=ab) (col:=col) (dd:=dd) (k0:=k0) (k1:=k1) (k2:=k2) (k3:=k3) (k5:=k5)
  PySem.F.excBase_ValueError (mN:=mN) (T.hasType (by decide)) (I.ok.hd rfl) rfl hni (akp I hg hm ⟨rfl,?_⟩ hd)
 refine Calls.evalArgs_plain (thn ((agk ao6 ahR) cpos pins s σ H (fun vs H1=>vs=[.str txt]∧H1=H) I ⟨rfl,rfl⟩) fun us s2 q2=>?_)
 obtain ⟨vs,H2,I2,r2,rfl,rfl⟩:=q2
 have l2:=r2.length
 refine ⟨rfl,by rw [← l2]; show 1≤sizeLine; decide,I2.bk _ _ hC,hN.keeps I2.bk,T.keeps I2.bk,fun h' e made=>?_⟩
 -- the frame is left
 have stk:(cxOf (CX1 P w) P w K mg base N qual scope f cd A outer s₀ H₀ E).stack=envOfC qual scope s₀.heap.objs.size f cd :: outer:=rfl
 have nfr:∀ {b u},H2 b=some u→b ∉ frs (envOfC qual scope s₀.heap.objs.size f cd :: outer):=fun {b u} q z=>by
  rw [I2.stkFree b z] at q
  cases q
 have nL:∀ {b o},s₀.heap.get? b=some o→b ∉ frs outer→b ∉ frs (envOfC qual scope s₀.heap.objs.size f cd :: outer):=fun {b o} q z y=>by
  rcases List.mem_cons.mp (I2.stkSub b y) with g | g
  ·exact absurd (Nat.lt_of_lt_of_le (Heap.lt_size q) I2.ok.above) (by rw [g]; exact Nat.lt_irrefl _)
  ·exact z g
 refine wpAny_leaves_madeW (base:=PySem.W.hideAll s2.heap (frs (envOfC qual scope s₀.heap.objs.size f cd :: outer))) (h:=s2.heap) (s:={ s2 with heap:=h' }) I2.ok.frames rfl (fun b o q=>PySem.W.of_hideAll _ q)
  (PySem.W.funFrames_hide I2.stack fun env he b hb=>List.mem_filterMap.mpr ⟨env,he,hb⟩) made fun h'' t fl tup nb ups=>?_
 have keepB:∀ b o,s2.heap.get? b=some o→b ∉ frs (envOfC qual scope s₀.heap.objs.size f cd :: outer)→h''.get? b=some o:=fun b o q z=>fl.1 b o (PySem.W.hideAll_get _ q z)
 have upS:∀ b o,s2.heap.get? b=some o→(∀ vs,o.data≠.fields vs)→∃ sl,h''.get? b=some { o with slots:=sl }:=fun b o q z=>ups b o (made.keeps b o q) z
 refine ⟨e,C,t,_,H2,rfl,I2.os,I2.bare,⟨fun b o q n hb _=>?_,fun b o q n hb _=>?_,fun b o q n _=>I2.base.free b o q n (by intro z; cases z),fun b o q _=>?_,I2.base.tups,I2.base.frzs,I2.base.tbls⟩,fun b u q=>?_,fl,fun b o q z=>?_,h⟩
 ·exact keepB b o (I2.base.keep b o q n hb (by intro z; cases z)) (nL q hb)
 ·obtain ⟨sl,g⟩:=I2.base.slot b o q n hb (by intro z; cases z)
  obtain ⟨_,o',ho',hd'⟩:=I2.ok.funs.mem hb
  have eo:o'=o:=by
   have ho2:s₀.heap.get? b=some o':=ho'
   rw [q] at ho2
   exact (Option.some.inj ho2).symm
  subst eo
  obtain ⟨sl',g'⟩:=upS b _ g hd'
  exact ⟨sl',g'⟩
 ·obtain ⟨o',g⟩:=I2.base.there b o q (by intro z; cases z)
  by_cases c:b∈frs (envOfC qual scope s₀.heap.objs.size f cd :: outer)
  ·obtain ⟨_,o2,ho2,hd2⟩:=I2.stack.mem c
   obtain ⟨sl,g'⟩:=upS b o2 ho2 hd2
   exact ⟨_,g'⟩
  ·exact ⟨o',keepB b o' g c⟩
 ·refine (I2.hok b u q).stay (fun c v hc g=>keepB c v g ?_) (fun _ g=>g) fun _ _ g=>g
  rcases hc with z | z
  ·rw [z]
   exact nfr q
  ·exact nfr z
 ·have go:∀ {o2},s2.heap.get? b=some o2→b ∉ frs (envOfC qual scope s₀.heap.objs.size f cd :: outer)→(PySem.W.hideAll s2.heap (frs (envOfC qual scope s₀.heap.objs.size f cd :: outer))).get? b=some o:=fun {o2} g n=>by
   have:=keepB b o2 g n
   have q':h''.get? b=some o:=q
   rw [q'] at this
   cases this
   exact PySem.W.hideAll_get _ g n
  rcases z with ⟨u,z⟩ | ⟨o',z,nz⟩
  ·obtain ⟨o2,g⟩:=(I2.hok b u z).has
   exact go g (nfr z)
  ·obtain ⟨o2,g⟩:=I2.base.there b o' z (by intro z; cases z)
   exact go g (nL z nz)
end L2
namespace L2
open PySem PySem.Spec PyProof.Rows Bn
section
variable {X:Cx} {pins:List (Addr × Obj)} {σ:St} {H H':Hp} {s s':Shared}
theorem Inv.flown {B h5:Heap} (I:Inv X pins σ H s) (os:s'.os=s.os) (bare:AllBare s'.gens) (un:Un (frs X.stack) [] H H' s.heap s'.heap) (hok:HOk X.prog X.w H' s'.heap)
  (cov:∀ b o,s'.heap.get? b=some o→(∃ u,H' b=some u)∨(∃ o',s.heap.get? b=some o'∧b ∉ frs X.stack)→B.get? b=some o) (fr:∀ b∈frs X.stack,H' b=none)
  (st:B.StaysIn h5) (up:s'.heap.UpToSlots h5):Inv X pins σ H' { s' with heap:=h5 }:=by
 have nofr:∀ {b u},H' b=some u→b ∉ frs X.stack:=fun {b u} q z=>by
  rw [fr b z] at q
  cases q
 have frame:∀ b∈frs X.stack,∃ o sl,s.heap.get? b=some o∧H b=none∧h5.get? b=some { o with slots:=sl }:=fun b hb=>by
  obtain ⟨_,o,ho,hd⟩:=I.stack.mem hb
  have hn:=I.stkFree b hb
  obtain ⟨sl,g⟩:=un.slot b o ho hn hb (by intro z; cases z)
  obtain ⟨sl',g'⟩:=up b _ g hd
  exact ⟨o,sl',ho,hn,g'⟩
 refine I.call' (s':={ s' with heap:=h5 }) (ch:=[]) os ⟨fun b o q n hb _=>?_,fun b o q n hb _=>?_,un.free,fun b o q _=>?_,un.tups,un.frzs,un.tbls⟩ (fun b u q=>?_) bare fun b z=>nomatch z
 ·exact st b o (cov b o (un.keep b o q n hb (by intro z; cases z)) (.inr ⟨o,q,hb⟩))
 ·obtain ⟨o',sl,g1,_,g2⟩:=frame b hb
  rw [q] at g1
  cases g1
  exact ⟨sl,g2⟩
 ·by_cases c:b∈frs X.stack
  ·obtain ⟨o',sl,_,_,g2⟩:=frame b c
   exact ⟨_,g2⟩
  ·obtain ⟨o',g⟩:=un.there b o q (by intro z; cases z)
   exact ⟨o',st b o' (cov b o' g (.inr ⟨o,q,c⟩))⟩
 ·refine (hok b u q).stay (fun c v hc g=>st c v (cov c v g (.inl ?_))) (fun _ g=>g) fun _ _ g=>g
  rcases hc with z | z
  ·exact ⟨u,by rw [z]; exact q⟩
  ·exact ⟨_,z⟩
end
section
variable {X:Cx} {k:Nat} {f:Addr} {fd:FuncData} {ps:List Str} {sp:Sp} {dvs:List V} {ds:List Value} {E:XK} {x:Str} {p pos:Pos} {e:Expr} {es:List Expr} {t:TA}
end
end L2
namespace L2
open PySem PySem.Spec PyProof.Rows Bn
section
variable {P:Program} {w:World} {K:PySem.W.Frag} {mg:Str→Option Value} {base:Heap} {CX:CXT}
theorem Fun.okX {x qual:Str} {st:Stmt} {f:Addr} {fd:FuncData} {N ps:List Str} {k:Nat} {sp:Sp} (F:Fun K x qual st f fd) (S:aaA N ps (aaf st)) (len:∀ vs H Q E,sp vs H Q E→vs.length=ps.length)
  (hbody:∀ (cdv:Value) (A:Around) (outer:List Env) (s:Shared) (H:Hp) (vs:List V) (Q:VK) (E:XK),Room k (A.deeper (envOfC qual (aaf st) s.heap.objs.size f cdv))→sp vs H Q E →
   ∃ t,PSs (cxOf CX P w K mg base N qual (aaf st) f cdv A outer s H E) (aaw st) t∧t { nx:=fun _ H'=>Q .non H',rt:=Q } (start N vs) H):FnOk P w K mg base CX (k+1) f fd ps sp:=by
 obtain ⟨oc,od,kV,doc,pm,an,cdv,ct,osl,rfl,lk,hcd⟩:=F.ex
 exact alq lk hcd S len fun A outer s H vs Q E hr hsp=>hbody cdv A outer s H vs Q E hr hsp
theorem FunD.okX {x qual:Str} {st:Stmt} {f:Addr} {fd:FuncData} {ds:Array Value} {N ps:List Str} {k:Nat} {sp:Sp} (F:FunD K x qual st f fd ds) (S:aaA N ps (aaf st)) (len:∀ vs H Q E,sp vs H Q E→vs.length=ps.length)
  (hbody:∀ (cdv:Value) (A:Around) (outer:List Env) (s:Shared) (H:Hp) (vs:List V) (Q:VK) (E:XK),Room k (A.deeper (envOfC qual (aaf st) s.heap.objs.size f cdv))→sp vs H Q E →
   ∃ t,PSs (cxOf CX P w K mg base N qual (aaf st) f cdv A outer s H E) (aaw st) t∧t { nx:=fun _ H'=>Q .non H',rt:=Q } (start N vs) H):FnOk P w K mg base CX (k+1) f fd ps sp:=by
 obtain ⟨oc,od,T,oT,n,kV,doc,pm,an,cdv,ct,osl,rfl,lk,hcd,_,_⟩:=F.ex
 exact alq lk hcd S len fun A outer s H vs Q E hr hsp=>hbody cdv A outer s H vs Q E hr hsp
end
theorem apl {P:Program} {w:World} {K:PySem.W.Frag} {mg:Str→Option Value} {base:Heap} {N:List Str} {qual:Str} {scope:Scope} {f:Addr} {cd:Value} {A:Around} {outer:List Env} {s₀:Shared} {H₀:Hp} {E:XK} :
  aiz (CX1 P w) (cxOf (CX1 P w) P w K mg base N qual scope f cd A outer s₀ H₀ E) E:=by
 intro pins σ H s e s' I c
 obtain ⟨x,C,t,B,H',rfl,os,bare,un,hok,fl,cov,hE⟩:=c
 have fr:∀ b∈frs (cxOf (CX1 P w) P w K mg base N qual scope f cd A outer s₀ H₀ E).stack,H' b=none:=fun b hb=>by
  obtain ⟨_,o,ho,hd⟩:=I.stack.mem hb
  exact un.free b o ho (I.stkFree b hb) (by intro z; cases z)
 have nL:∀ {b o},s₀.heap.get? b=some o→b ∉ frs outer→b ∉ frs (envOfC qual scope s₀.heap.objs.size f cd :: outer):=fun {b o} q z y=>by
  rcases List.mem_cons.mp (I.stkSub b y) with g | g
  ·exact absurd (Nat.lt_of_lt_of_le (Heap.lt_size q) I.ok.above) (by rw [g]; exact Nat.lt_irrefl _)
  ·exact z g
 refine wpAny_leaves_onW (base:=B) I.ok.frames rfl fl fun h' fl' up=>?_
 have I5:=I.flown os bare un hok cov fr fl'.1 up
 refine ⟨x,C,t,B,H',rfl,os.trans I.os,bare,I5.base,I5.hok,fl',fun b o q z=>?_,hE⟩
 have go:∀ {o2},B.get? b=some o2→B.get? b=some o:=fun {o2} g=>by
  have:=fl'.1 b o2 g
  have q':h'.get? b=some o:=q
  rw [q'] at this
  cases this
  exact g
 rcases z with ⟨u,z⟩ | ⟨o',z,nz⟩
 ·obtain ⟨o2,g⟩:=(hok b u z).has
  exact go (cov b o2 g (.inl ⟨u,z⟩))
 ·obtain ⟨o2,g⟩:=I.base.there b o' z (by intro z; cases z)
  obtain ⟨o3,g3⟩:=un.there b o2 g (by intro z; cases z)
  exact go (cov b o3 g3 (.inr ⟨o2,g,nL z nz⟩))
end L2
namespace L2
open PySem PySem.Spec PyProof.Rows Bn
section
variable {X:Cx} {pins:List (Addr × Obj)} {σ:St} {H:Hp} {s:Shared}
end
section
variable {X:Cx} {pins:List (Addr × Obj)} {σ:St} {H:Hp} {s:Shared}
end
end L2
namespace L2
open PySem PySem.Spec PyProof.Rows Bn
section
variable {X:Cx} {k:Nat} {f:Addr} {fd:FuncData} {ps:List Str} {sp:Sp} {dvs:List V} {ds:List Value} {x:Str} {p pos pos1 pos2 pos3 pc:Pos} {e:Expr} {es:List Expr} {t:TA} {c n:Str} {C:Addr} {i:Nat} {b₀:Stmt} {body:List Stmt} {newId:String}
end
end L2
namespace L2
open PySem PySem.Spec PySem.W PySem.Calls PySem.Builtin PySem.Builtin.Getset_descriptor PyProof.Rows Bn
section
variable {prog:Program} {w:World} {A:Around} {E:Value→Shared→Prop} {s:Shared} {K:PySem.W.Frag} {x D:Addr} {B:String} {R:Result→Shared→Prop}
def aow (h:Heap) (x D:Addr):Prop:=∃ o,h.get? x=some o∧o.cls=.ref D
theorem aow.ty {M:Model} {h:Heap} (I:aow h x D):Looks M h (typeOf (.ref x)) (.ref D):=by
 obtain ⟨o,h1,h2⟩:=I
 rw [← h2]
 exact (Looks.ld h1).andThen .now
end
end L2
namespace L2
open PySem PySem.Spec PyProof.Rows Bn
section
variable {X:Cx} {y D:Addr} {oe:Obj}
end
end L2
namespace L2.Pp
open PySem PySem.Spec PyProof.Rows Bn
inductive PV where
 | non | bl (b:Bool) | int (i:Int) | str (x:Str) | tup (xs:List PV) | lst (xs:List PV)
inductive SO where
 | lst (xs:List PV)
 | lol (xss:List (List PV))
abbrev Sto:=List SO
inductive AV where
 | pv (v:PV) | ref (k:Nat)
abbrev Rho:=List (Option AV)
inductive Res (α:Type) where
 | ok (a:α) (S:Sto) | exc (n:Str) (S:Sto) | fail
def Res.bind {α β:Type} (r:Res α) (k:α→Sto→Res β):Res β:=match r with
 | .ok a S=>k a S
 | .exc n S=>.exc n S
 | .fail=>.fail
inductive SRes where
 | nx (ρ:Rho) (S:Sto) | rt (v:AV) (S:Sto) | bk (ρ:Rho) (S:Sto) | ct (ρ:Rho) (S:Sto) | exc (n:Str) (S:Sto) | fail
def LAt (K:PySem.W.Frag) (c:Addr→Prop) (H:Hp) (a:Addr) (vs:List V):Prop :=
 (H a=some (.lst vs)∧¬ c a)∨(∃ o,H a=some (.frz o (.lst vs))) ∨
  ∃ (o:Obj) (its:Array Value) (n:Nat),K.lookup a=some o∧o.cls=.type "list"∧o.dict=none∧o.data=.seq its n∧its.size≤sizeLine∧Vals vs its.toList
theorem LAt.sq {K:PySem.W.Frag} {c:Addr→Prop} {H:Hp} {a:Addr} {vs:List V} (h:LAt K c H a vs):SqL K H a vs:=by
 rcases h with h | h | h
 ·exact .inl (.inl h.1)
 ·exact .inl (.inr h)
 ·exact .inr h
mutual
def Rep (K:PySem.W.Frag) (c:Addr→Prop) (H:Hp):PV→V→Prop
 | .non,x=>x=.non
 | .bl b,x=>x=.bl b
 | .int i,x=>x=.int i
 | .str s,x=>x=.str s
 | .tup xs,x=>∃ a vs,x=.ref a∧SqT K H a vs∧vs.length≤sizeLine∧Reps K c H xs vs
 | .lst xs,x=>∃ a vs,x=.ref a∧LAt K c H a vs∧vs.length≤sizeLine∧Reps K c H xs vs
def Reps (K:PySem.W.Frag) (c:Addr→Prop) (H:Hp):List PV→List V→Prop
 | [],vs=>vs=[]
 | p :: ps,vs=>∃ v r,vs=v :: r∧Rep K c H p v∧Reps K c H ps r
end
section
variable {K:PySem.W.Frag} {c c':Addr→Prop} {H H':Hp}
mutual
theorem Rep.mono (hT:∀ a vs,SqT K H a vs→SqT K H' a vs) (hL:∀ a vs,LAt K c H a vs→LAt K c' H' a vs):∀ (v:PV) (x:V),Rep K c H v x→Rep K c' H' v x
 | .non,x,h=>h
 | .bl b,x,h=>h
 | .int i,x,h=>h
 | .str s,x,h=>h
 | .tup xs,x,h=>by
  unfold Rep at h ⊢
  obtain ⟨a,vs,e,t,z,r⟩:=h
  exact ⟨a,vs,e,hT a vs t,z,Reps.mono hT hL xs vs r⟩
 | .lst xs,x,h=>by
  unfold Rep at h ⊢
  obtain ⟨a,vs,e,t,z,r⟩:=h
  exact ⟨a,vs,e,hL a vs t,z,Reps.mono hT hL xs vs r⟩
theorem Reps.mono (hT:∀ a vs,SqT K H a vs→SqT K H' a vs) (hL:∀ a vs,LAt K c H a vs→LAt K c' H' a vs):∀ (v:List PV) (x:List V),Reps K c H v x→Reps K c' H' v x
 | [],vs,h=>by
  unfold Reps at h ⊢
  exact h
 | p :: ps,vs,h=>by
  unfold Reps at h ⊢
  obtain ⟨v,r,e,h1,h2⟩:=h
  exact ⟨v,r,e,Rep.mono hT hL p v h1,Reps.mono hT hL ps r h2⟩
end
theorem Reps.length:∀ {xs:List PV} {vs:List V},Reps K c H xs vs→xs.length=vs.length
 | [],vs,h=>by
  unfold Reps at h
  rw [h]
  rfl
 | p :: ps,vs,h=>by
  unfold Reps at h
  obtain ⟨v,r,rfl,_,h2⟩:=h
  rw [List.length_cons,List.length_cons,Reps.length h2]
theorem Reps.get:∀ {xs:List PV} {vs:List V} {i:Nat} {p:PV},Reps K c H xs vs→xs[i]?=some p→∃ v,vs[i]?=some v∧Rep K c H p v
 | [],vs,i,p,h,e=>by simp at e
 | q :: ps,vs,0,p,h,e=>by
  unfold Reps at h
  obtain ⟨v,r,rfl,h1,_⟩:=h
  simp at e
  subst e
  exact ⟨v,rfl,h1⟩
 | q :: ps,vs,i+1,p,h,e=>by
  unfold Reps at h
  obtain ⟨v,r,rfl,_,h2⟩:=h
  obtain ⟨u,e1,e2⟩:=Reps.get (i:=i) h2 (by simpa using e)
  exact ⟨u,by simpa using e1,e2⟩
theorem Reps.nil:Reps K c H [] []:=by
 unfold Reps
 rfl
theorem Reps.cons {p:PV} {v:V} {ps:List PV} {vs:List V} (h:Rep K c H p v) (t:Reps K c H ps vs):Reps K c H (p :: ps) (v :: vs):=by
 unfold Reps
 exact ⟨v,vs,rfl,h,t⟩
theorem Reps.append:∀ {xs ys:List PV} {vs ws:List V},Reps K c H xs vs→Reps K c H ys ws→Reps K c H (xs++ys) (vs++ws)
 | [],ys,vs,ws,h,g=>by
  unfold Reps at h
  subst h
  exact g
 | p :: ps,ys,vs,ws,h,g=>by
  unfold Reps at h
  obtain ⟨v,r,rfl,h1,h2⟩:=h
  exact .cons h1 (h2.append g)
theorem Reps.drop:∀ {xs:List PV} {vs:List V} (n:Nat),Reps K c H xs vs→Reps K c H (xs.drop n) (vs.drop n)
 | xs,vs,0,h=>by simpa using h
 | [],vs,n+1,h=>by
  unfold Reps at h
  subst h
  simpa using Reps.nil
 | p :: ps,vs,n+1,h=>by
  unfold Reps at h
  obtain ⟨v,r,rfl,_,h2⟩:=h
  simpa using h2.drop n
theorem Reps.take:∀ {xs:List PV} {vs:List V} (n:Nat),Reps K c H xs vs→Reps K c H (xs.take n) (vs.take n)
 | xs,vs,0,h=>by simpa using Reps.nil
 | [],vs,n+1,h=>by
  unfold Reps at h
  subst h
  simpa using Reps.nil
 | p :: ps,vs,n+1,h=>by
  unfold Reps at h
  obtain ⟨v,r,rfl,h1,h2⟩:=h
  simpa using Reps.cons h1 (h2.take n)
theorem Reps.eraseIdx:∀ {xs:List PV} {vs:List V} (n:Nat),Reps K c H xs vs→Reps K c H (xs.eraseIdx n) (vs.eraseIdx n)
 | [],vs,n,h=>by
  unfold Reps at h
  subst h
  simpa using Reps.nil
 | p :: ps,vs,0,h=>by
  unfold Reps at h
  obtain ⟨v,r,rfl,h1,h2⟩:=h
  simpa using h2
 | p :: ps,vs,n+1,h=>by
  unfold Reps at h
  obtain ⟨v,r,rfl,h1,h2⟩:=h
  simpa using Reps.cons h1 (h2.eraseIdx n)
theorem Reps.set {p:PV} {v:V} (g:Rep K c H p v):∀ {xs:List PV} {vs:List V} (n:Nat),Reps K c H xs vs→Reps K c H (xs.set n p) (vs.set n v)
 | [],vs,n,h=>by
  unfold Reps at h
  subst h
  simpa using Reps.nil
 | q :: ps,vs,0,h=>by
  unfold Reps at h
  obtain ⟨v,r,rfl,h1,h2⟩:=h
  simpa using Reps.cons g h2
 | q :: ps,vs,n+1,h=>by
  unfold Reps at h
  obtain ⟨v,r,rfl,h1,h2⟩:=h
  simpa using Reps.cons h1 (Reps.set g n h2)
end
structure Ph where
 f:List Addr
 w:Addr→Prop
 c:Addr→Prop
def apn (K:PySem.W.Frag) (c:Addr→Prop) (H:Hp) (xss:List (List PV)) (bs:List Addr):Prop :=
 xss.length=bs.length∧∀ (i:Nat) (xs:List PV) (b:Addr),xss[i]?=some xs→bs[i]?=some b→∃ vs,H b=some (.lst vs)∧vs.length≤sizeLine∧Reps K c H xs vs
def SObj (K:PySem.W.Frag) (p:Ph) (H:Hp) (a:Addr):SO→Prop
 | .lst xs=>∃ vs,H a=some (.lst vs)∧vs.length≤sizeLine∧Reps K p.c H xs vs
 | .lol xss=>∃ bs:List Addr,H a=some (.lst (bs.map V.ref))∧bs.length≤sizeLine∧bs.Nodup∧(∀ b∈bs,p.w b∧b ∉ p.f)∧apn K p.c H xss bs
theorem SObj.mono {K:PySem.W.Frag} {p p':Ph} {H H':Hp} {a:Addr} {o:SO} (h:SObj K p H a o) (ha:∀ vs,H a=some (.lst vs)→H' a=some (.lst vs))
  (hb:∀ b,p.w b→b ∉ p.f→(p'.w b∧b ∉ p'.f)∧∀ vs,H b=some (.lst vs)→H' b=some (.lst vs)) (hR:∀ xs vs,Reps K p.c H xs vs→Reps K p'.c H' xs vs):SObj K p' H' a o:=by
 cases o with
 | lst xs =>
  obtain ⟨vs,e,l,r⟩:=h
  exact ⟨vs,ha vs e,l,hR xs vs r⟩
 | lol xss =>
  obtain ⟨bs,e,l,nd,wf,z,at_⟩:=h
  refine ⟨bs,ha _ e,l,nd,fun b m=>(hb b (wf b m).1 (wf b m).2).1,z,fun i xs b e1 e2=>?_⟩
  obtain ⟨vs,g1,g2,g3⟩:=at_ i xs b e1 e2
  have m:=wf b (List.mem_of_getElem? e2)
  exact ⟨vs,(hb b m.1 m.2).2 vs g1,g2,hR xs vs g3⟩
def Mb:HO→Prop
 | .lst _=>True
 | .dK _=>True
 | .dT _=>True
 | .ins _ _ _=>True
 | _=>False
structure Sim (K:PySem.W.Frag) (p:Ph) (S:Sto) (H:Hp):Prop where
 nd:p.f.Nodup
 len:p.f.length=S.length
 sub:∀ a∈p.f,p.w a
 wc:∀ a,p.w a→p.c a
 mu:∀ a,p.c a→∃ o,H a=some o∧Mb o
 obj:∀ (k:Nat) (a:Addr) (o:SO),p.f[k]?=some a→S[k]?=some o→SObj K p H a o
structure Step (p:Ph) (H:Hp) (q:Ph) (H':Hp):Prop where
 wc:∀ a,p.w a→p.c a
 mu:∀ a,p.c a→∃ o,H a=some o∧Mb o
 pre:p.f <+: q.f
 mw:∀ a,p.w a→q.w a
 mono:∀ a,p.c a→q.c a
 nf:∀ a∈q.f,a ∉ p.f→H a=none
 nw:∀ a,q.w a→¬ p.w a→H a=none
 nc:∀ a,q.c a→¬ p.c a→H a=none
 keep:∀ a o,H a=some o→¬ p.w a→H' a=some o
def RepA (K:PySem.W.Frag) (p:Ph) (H:Hp):AV→V→Prop
 | .pv v,x=>Rep K p.c H v x
 | .ref k,x=>∃ a,p.f[k]?=some a∧x=.ref a
abbrev ac6 (K:PySem.W.Frag) (p:Ph) (H:Hp):List AV→List V→Prop:=Paired (RepA K p H)
structure RepE (K:PySem.W.Frag) (p:Ph) (H:Hp) (ρ:Rho) (σ:St):Prop where
 len:ρ.length=σ.length
 at_:∀ (i:Nat) (v:AV),ρ[i]?=some (some v)→∃ x,σ[i]?=some (some x)∧RepA K p H v x
section
variable {K:PySem.W.Frag} {p q r:Ph} {H H' H'':Hp} {S:Sto}
theorem Sim.step (s:Sim K p S H):Step p H p H:=⟨s.wc,s.mu,List.prefix_rfl,fun _ h=>h,fun _ h=>h,fun _ h g=>absurd h g,fun _ h g=>absurd h g,fun _ h g=>absurd h g,fun _ _ h _=>h⟩
theorem Step.trans (a:Step p H q H') (b:Step q H' r H''):Step p H r H'':=by
 have back:∀ x,H' x=none→¬ p.w x→H x=none:=fun x h n=>by
  cases e:H x with
  | none=>rfl
  | some o=>rw [a.keep x o e n] at h; cases h
 refine ⟨a.wc,a.mu,a.pre.trans b.pre,fun x h=>b.mw x (a.mw x h),fun x h=>b.mono x (a.mono x h),fun x h n=>?_,fun x h n=>?_,fun x h n=>?_,fun x o e n=>?_⟩
 ·by_cases m:x∈q.f
  ·exact a.nf x m n
  ·have hn:=b.nf x h m
   refine back x hn fun z=>?_
   obtain ⟨o,ho,_⟩:=b.mu x (a.mono x (a.wc x z))
   rw [hn] at ho
   cases ho
 ·by_cases m:q.w x
  ·exact a.nw x m n
  ·exact back x (b.nw x h m) n
 ·by_cases m:q.c x
  ·exact a.nc x m n
  ·exact back x (b.nc x h m) fun z=>n (a.wc x z)
 ·refine b.keep x o (a.keep x o e n) fun z=>?_
  rw [a.nw x z n] at e
  cases e
theorem Step.tup (s:Step p H q H') {a:Addr} {vs:List V} (h:SqT K H a vs):SqT K H' a vs:=by
 have go:∀ o,H a=some o→¬ Mb o→H' a=some o:=fun o e n=>s.keep a o e fun z=>by
  obtain ⟨u,e',m⟩:=s.mu a (s.wc a z)
  rw [e] at e'
  cases e'
  exact n m
 rcases h with (h | ⟨o,h⟩) | h
 ·exact .inl (.inl (go _ h (fun z=>z)))
 ·exact .inl (.inr ⟨o,go _ h (fun z=>z)⟩)
 ·exact .inr h
theorem Step.lat (s:Step p H q H') {a:Addr} {vs:List V} (h:LAt K p.c H a vs):LAt K q.c H' a vs:=by
 rcases h with ⟨h,n⟩ | ⟨o,h⟩ | h
 ·refine .inl ⟨s.keep a _ h fun z=>n (s.wc a z),fun z=>?_⟩
  rw [s.nc a z n] at h
  cases h
 ·refine .inr (.inl ⟨o,s.keep a _ h fun z=>?_⟩)
  obtain ⟨u,e',m⟩:=s.mu a (s.wc a z)
  rw [h] at e'
  cases e'
  exact m
 ·exact .inr (.inr h)
theorem Step.rep (s:Step p H q H') {v:PV} {x:V} (h:Rep K p.c H v x):Rep K q.c H' v x:=Rep.mono (fun _ _=>s.tup) (fun _ _=>s.lat) v x h
theorem Step.reps (s:Step p H q H') {v:List PV} {x:List V} (h:Reps K p.c H v x):Reps K q.c H' v x:=Reps.mono (fun _ _=>s.tup) (fun _ _=>s.lat) v x h
theorem Step.at_ (s:Step p H q H') {k:Nat} {a:Addr} (h:p.f[k]?=some a):q.f[k]?=some a:=by
 obtain ⟨t,e⟩:=s.pre
 rw [← e,List.getElem?_append_left (by
  have:=List.getElem?_eq_some_iff.mp h
  exact this.1)]
 exact h
theorem Step.repA (s:Step p H q H') {v:AV} {x:V} (h:RepA K p H v x):RepA K q H' v x:=by
 cases v with
 | pv v=>exact s.rep h
 | ref k =>
  obtain ⟨a,e,f⟩:=h
  exact ⟨a,s.at_ e,f⟩
theorem Step.repE (s:Step p H q H') {ρ:Rho} {σ:St} (h:RepE K p H ρ σ):RepE K q H' ρ σ :=
 ⟨h.len,fun i v e=>let ⟨x,e1,e2⟩:=h.at_ i v e; ⟨x,e1,s.repA e2⟩⟩
theorem Sim.same (s:Sim K p S H) (h:Same H H'):Step p H p H':=⟨s.wc,s.mu,List.prefix_rfl,fun _ h=>h,fun _ h=>h,fun _ h g=>absurd h g,fun _ h g=>absurd h g,fun _ h g=>absurd h g,fun a o e _=>h a o e⟩
theorem Sim.ofSame (s:Sim K p S H) (h:Same H H'):Sim K p S H' :=
 ⟨s.nd,s.len,s.sub,s.wc,fun a m=>let ⟨o,e,m⟩:=s.mu a m; ⟨o,h a o e,m⟩,fun k a o e1 e2=>by
  exact (s.obj k a o e1 e2).mono (fun vs e=>h _ _ e) (fun b w f=>⟨⟨w,f⟩,fun vs e=>h _ _ e⟩) fun xs vs=>(s.same h).reps⟩
theorem abp {a:Addr} {o:HO} (h:H a=none):Same H (upd H a o):=fun b u e=>by
 rw [aaG (aaN e h)]
 exact e
end
section
variable {α β γ δ:Type}
def aa8 (K:PySem.W.Frag) (cl:Str→Addr) (R:Ph→Hp→α→β→Prop) (p:Ph) (H:Hp) (r:Res α) (Q:β→Hp→Prop) (E:XK):Prop:=match r with
 | .ok a S=>∀ q H' x,Step p H q H'→Sim K q S H'→R q H' a x→Q x H'
 | .exc n S=>∀ q H',Step p H q H'→Sim K q S H'→E (.ref (cl n)) none H'
 | .fail=>False
def abY (K:PySem.W.Frag) (cl:Str→Addr) (p:Ph) (H:Hp) (r:SRes) (D:Ends) (E:XK):Prop:=match r with
 | .nx ρ S=>∀ q H' σ,Step p H q H'→Sim K q S H'→RepE K q H' ρ σ→D.nx σ H'
 | .bk ρ S=>∀ q H' σ,Step p H q H'→Sim K q S H'→RepE K q H' ρ σ→D.bk σ H'
 | .ct ρ S=>∀ q H' σ,Step p H q H'→Sim K q S H'→RepE K q H' ρ σ→D.ct σ H'
 | .rt v S=>∀ q H' x,Step p H q H'→Sim K q S H'→RepA K q H' v x→D.rt x H'
 | .exc n S=>∀ q H',Step p H q H'→Sim K q S H'→E (.ref (cl n)) none H'
 | .fail=>False
variable {K:PySem.W.Frag} {cl:Str→Addr} {p q:Ph} {H H':Hp} {S:Sto} {E:XK} {R:Ph→Hp→α→β→Prop} {R':Ph→Hp→γ→δ→Prop}
theorem aa8.mono {r:Res α} {Q:β→Hp→Prop} (h:aa8 K cl R p H r Q E) (s:Step p H q H'):aa8 K cl R q H' r Q E:=by
 cases r with
 | ok a S=>exact fun q' H'' x s'=>h q' H'' x (s.trans s')
 | exc n S=>exact fun q' H'' s'=>h q' H'' (s.trans s')
 | fail=>exact h
theorem abY.mono {r:SRes} {D:Ends} (h:abY K cl p H r D E) (s:Step p H q H'):abY K cl q H' r D E:=by
 cases r with
 | nx ρ S=>exact fun q' H'' x s'=>h q' H'' x (s.trans s')
 | bk ρ S=>exact fun q' H'' x s'=>h q' H'' x (s.trans s')
 | ct ρ S=>exact fun q' H'' x s'=>h q' H'' x (s.trans s')
 | rt v S=>exact fun q' H'' x s'=>h q' H'' x (s.trans s')
 | exc n S=>exact fun q' H'' s'=>h q' H'' (s.trans s')
 | fail=>exact h
theorem aa8.ret {a:α} {x:β} {Q:β→Hp→Prop} (h:aa8 K cl R p H (.ok a S) Q E) (s:Sim K p S H) (r:R p H a x):Q x H:=h p H x s.step s r
theorem aa8.same {a:α} {x:β} {Q:β→Hp→Prop} (h:aa8 K cl R p H (.ok a S) Q E) (s:Sim K p S H) (e:Same H H') (r:R p H' a x):Q x H':=h p H' x (s.same e) (s.ofSame e) r
def tP (K:PySem.W.Frag) (cl:Str→Addr) (E:XK) (R:Ph→Hp→α→β→Prop) (m:Rho→Sto→Res α) (σ:St) (H:Hp) (Q:β→Hp→Prop):Prop :=
 ∃ p S ρ,Sim K p S H∧RepE K p H ρ σ∧aa8 K cl R p H (m ρ S) Q E
def tS (K:PySem.W.Frag) (cl:Str→Addr) (E:XK) (m:Rho→Sto→SRes):TS:=fun D σ H =>
 ∃ p S ρ,Sim K p S H∧RepE K p H ρ σ∧abY K cl p H (m ρ S) D E
theorem aaH {m:Rho→Sto→Res α} {k:α→Sto→Res γ} {ρ:Rho} {σ:St} {Q:δ→Hp→Prop} {T:β→Hp→Prop} (s:Sim K p S H) (e:RepE K p H ρ σ) (h:aa8 K cl R' p H ((m ρ S).bind k) Q E)
  (g:∀ q H' a b S',Step p H q H'→Sim K q S' H'→RepE K q H' ρ σ→R q H' a b→aa8 K cl R' q H' (k a S') Q E→T b H'):tP K cl E R m σ H T:=by
 refine ⟨p,S,ρ,s,e,?_⟩
 cases z:m ρ S with
 | ok a S1 =>
  rw [z] at h
  exact fun q H' b st sm r=>g q H' a b S1 st sm (st.repE e) r (aa8.mono (r:=k a S1) h st)
 | exc n S1 =>
  rw [z] at h
  exact h
 | fail =>
  rw [z] at h
  exact h
def SRes.of {α:Type} (r:Res α) (k:α→Sto→SRes):SRes:=match r with
 | .ok a S=>k a S
 | .exc n S=>.exc n S
 | .fail=>.fail
theorem ach {m:Rho→Sto→Res α} {k:α→Sto→SRes} {ρ:Rho} {σ:St} {D:Ends} {T:β→Hp→Prop} (s:Sim K p S H) (e:RepE K p H ρ σ) (h:abY K cl p H (SRes.of (m ρ S) k) D E)
  (g:∀ q H' a b S',Step p H q H'→Sim K q S' H'→RepE K q H' ρ σ→R q H' a b→abY K cl q H' (k a S') D E→T b H'):tP K cl E R m σ H T:=by
 refine ⟨p,S,ρ,s,e,?_⟩
 cases z:m ρ S with
 | ok a S1 =>
  rw [z] at h
  exact fun q H' b st sm r=>g q H' a b S1 st sm (st.repE e) r (abY.mono (r:=k a S1) h st)
 | exc n S1 =>
  rw [z] at h
  exact h
 | fail =>
  rw [z] at h
  exact h
end
end L2.Pp
namespace L2.Pp
open PySem PySem.Spec PyProof.Rows Bn
abbrev RB:Ph→Hp→Bool→Bool→Prop:=fun _ _ a b=>a=b
abbrev ME:=Rho→Sto→Res AV
abbrev MT:=Rho→Sto→Res Bool
abbrev MA:=Rho→Sto→Res (List AV)
abbrev MS:=Rho→Sto→SRes
section
variable (K:PySem.W.Frag) (cl:Str→Addr) (E:XK) (X:Cx)
def PEp (e:Expr) (m:ME):Prop:=X.K=K→PE X e (tP K cl E (RepA K) m)
def PTp (e:Expr) (m:MT):Prop:=X.K=K→PT X e (tP K cl E RB m)
def PWp (e:Expr) (m:MT):Prop:=X.K=K→PW X e (tP K cl E RB m)
def PAp (es:List Expr) (m:MA):Prop:=X.K=K→PA X es (tP K cl E (ac6 K) m)
def PSp (st:Stmt) (m:MS):Prop:=X.K=K→PS X st (tS K cl E m)
def PSsp (st:List Stmt) (m:MS):Prop:=X.K=K→PSs X st (tS K cl E m)
end
theorem PA.imp {X:Cx} {es:List Expr} {t t':TA} (h:PA X es t) (i:∀ σ H Q,t' σ H Q→t σ H Q):PA X es t':=fun pos pins s σ H Q I q=>h pos pins s σ H Q I (i σ H Q q)
theorem PW.imp {X:Cx} {e:Expr} {t t':TT} (h:PW X e t) (i:∀ σ H Q,t' σ H Q→t σ H Q):PW X e t':=fun wh pins s σ H Q I q=>h wh pins s σ H Q I (i σ H Q q)
def mVar (i:Nat):ME:=fun ρ S=>match ρ[i]? with
 | some (some v)=>.ok v S
 | _=>.fail
def mC (v:PV):ME:=fun _ S=>.ok (.pv v) S
def rd (S:Sto):AV→Option PV
 | .pv v=>some v
 | .ref k=>match S[k]? with
  | some (.lst xs)=>some (.lst xs)
  | _=>none
def abb (S:Sto):List AV→Option (List PV)
 | []=>some []
 | a :: r=>match rd S a with
  | some v=>match abb S r with
   | some vs=>some (v :: vs)
   | none=>none
  | none=>none
def okO (o:Option PV) (S:Sto):Res AV:=match o with
 | some r=>.ok (.pv r) S
 | none=>.fail
def abL (f:PV→Option PV) (a:AV) (S:Sto):Res AV:=okO ((rd S a).bind f) S
def abo (f:PV→PV→Option PV) (a b:AV) (S:Sto):Res AV:=okO ((rd S a).bind fun x=>(rd S b).bind fun y=>f x y) S
def mUn (f:PV→Option PV) (ma:ME):ME:=fun ρ S=>(ma ρ S).bind fun x S1=>abL f x S1
def mBin (f:PV→PV→Option PV) (ma mb:ME):ME:=fun ρ S=>(ma ρ S).bind fun x S1=>(mb ρ S1).bind fun y S2=>abo f x y S2
def mNil:MA:=fun _ S=>.ok [] S
def aab (ma:ME) (mr:MA):MA:=fun ρ S=>(ma ρ S).bind fun x S1=>(mr ρ S1).bind fun xs S2=>.ok (x :: xs) S2
def abw:List AV→Option (List PV)
 | []=>some []
 | .pv v :: r=>match abw r with
  | some vs=>some (v :: vs)
  | none=>none
 | .ref _ :: _=>none
def abV (f:List PV→Option PV) (xs:List AV) (S:Sto):Res AV:=okO ((abw xs).bind f) S
def abA (f:List PV→Option PV) (xs:List AV) (S:Sto):Res AV:=okO ((abb S xs).bind f) S
def mR (f:List PV→Option PV) (ma:MA):ME:=fun ρ S=>(ma ρ S).bind fun xs S1=>abA f xs S1
def mN (f:List PV→Option PV) (ma:MA):ME:=fun ρ S=>(ma ρ S).bind fun xs S1=>abV f xs S1
def fTup (vs:List PV):Option PV:=if vs.length≤16777216 then some (.tup vs) else none
def fLst (vs:List PV):Option PV:=if vs.length≤16777216 then some (.lst vs) else none
def tst:AV→Sto→Res Bool
 | .pv (.bl b),S=>.ok b S
 | _,_=>.fail
def mTst (m:ME):MT:=fun ρ S=>(m ρ S).bind tst
def mNot (m:MT):MT:=fun ρ S=>(m ρ S).bind fun b S1=>.ok (!b) S1
def mAnd (m n:MT):MT:=fun ρ S=>(m ρ S).bind fun b S1=>if b=true then n ρ S1 else .ok false S1
def mOr (m n:MT):MT:=fun ρ S=>(m ρ S).bind fun b S1=>if b=true then .ok true S1 else n ρ S1
def abK (m n:ME):ME:=fun ρ S=>(m ρ S).bind fun x S1=>match x with
 | .pv (.bl true)=>n ρ S1
 | .pv (.bl false)=>.ok (.pv (.bl false)) S1
 | _=>.fail
def mOrV (m n:ME):ME:=fun ρ S=>(m ρ S).bind fun x S1=>match x with
 | .pv (.bl false)=>n ρ S1
 | .pv (.bl true)=>.ok (.pv (.bl true)) S1
 | _=>.fail
def fNot:PV→Option PV
 | .bl b=>some (.bl (!b))
 | _=>none
def mIf (c:MT) (a b:ME):ME:=fun ρ S=>(c ρ S).bind fun t S1=>if t=true then a ρ S1 else b ρ S1
section
variable {K:PySem.W.Frag} {cl:Str→Addr} {E:XK} {X:Cx} {a b c e:Expr} {es:List Expr} {ma mb mc m:ME} {mt nt:MT} {ms:MA} {pos:Pos}
theorem aac (i:Nat) {x:Str} (hN:X.N[i]?=some x:=by rfl) (hv:Vis X.env.scope x:=by first | exact Or.inl rfl | exact Or.inr (Or.inl rfl) | exact Or.inr (Or.inr rfl)) (hd:(x == ("__debug__":Str))=false:=by decide)
  (hcd:(x == ("__classdict__":Str))=false:=by decide):PEp K cl E X (.Name x pos) (mVar i):=fun _=>(ae2 hN hv hd hcd).imp fun σ H Q ⟨p,S,ρ,s,e,h⟩=>by
 unfold mVar at h
 cases z:ρ[i]? with
 | none=>rw [z] at h; exact h.elim
 | some o =>
  cases o with
  | none=>rw [z] at h; exact h.elim
  | some v =>
   rw [z] at h
   obtain ⟨x,e1,e2⟩:=e.at_ i v z
   exact ⟨x,e1,aa8.ret h s e2⟩
theorem aad {i:Int} {j}:PEp K cl E X (.Constant (.int i) j pos) (mC (.int i)):=fun _=>amg.imp fun σ H Q ⟨p,S,ρ,s,e,h⟩=>aa8.ret (R:=RepA K) (x:=.int i) h s (by show Rep K p.c H (.int i) (.int i); unfold Rep; rfl)
theorem apA {i:Bool} {j}:PEp K cl E X (.Constant (.bool i) j pos) (mC (.bl i)):=fun _=>apj.imp fun σ H Q ⟨p,S,ρ,s,e,h⟩=>aa8.ret (R:=RepA K) (x:=.bl i) h s (by show Rep K p.c H (.bl i) (.bl i); unfold Rep; rfl)
def RepR (K:PySem.W.Frag) (p:Ph) (H:Hp) (v:PV) (x:V):Prop:=Rep K p.c H v x∨∃ xs a vs,v=.lst xs∧x=.ref a∧H a=some (.lst vs)∧vs.length≤sizeLine∧Reps K p.c H xs vs
theorem RepR.int {p:Ph} {H:Hp} {i:Int} {x:V} (h:RepR K p H (.int i) x):x=.int i:=by
 rcases h with h | ⟨_,_,_,e,_⟩
 ·unfold Rep at h; exact h
 ·cases e
theorem RepR.bl {p:Ph} {H:Hp} {i:Bool} {x:V} (h:RepR K p H (.bl i) x):x=.bl i:=by
 rcases h with h | ⟨_,_,_,e,_⟩
 ·unfold Rep at h; exact h
 ·cases e
theorem RepR.str {p:Ph} {H:Hp} {i:Str} {x:V} (h:RepR K p H (.str i) x):x=.str i:=by
 rcases h with h | ⟨_,_,_,e,_⟩
 ·unfold Rep at h; exact h
 ·cases e
theorem RepR.non {p:Ph} {H:Hp} {x:V} (h:RepR K p H .non x):x=.non:=by
 rcases h with h | ⟨_,_,_,e,_⟩
 ·unfold Rep at h; exact h
 ·cases e
theorem RepR.tup {p:Ph} {H:Hp} {xs:List PV} {x:V} (h:RepR K p H (.tup xs) x):∃ a vs,x=.ref a∧SqT K H a vs∧vs.length≤sizeLine∧Reps K p.c H xs vs:=by
 rcases h with h | ⟨_,_,_,e,_⟩
 ·unfold Rep at h; exact h
 ·cases e
theorem RepR.lst {p:Ph} {H:Hp} {xs:List PV} {x:V} (h:RepR K p H (.lst xs) x):∃ a vs,x=.ref a∧SqL K H a vs∧vs.length≤sizeLine∧Reps K p.c H xs vs:=by
 rcases h with h | ⟨ys,a,vs,e,e2,h,z,r⟩
 ·unfold Rep at h
  obtain ⟨a,vs,e,l,z,r⟩:=h
  exact ⟨a,vs,e,l.sq,z,r⟩
 ·cases e
  exact ⟨a,vs,e2,SqL.of h,z,r⟩
theorem agW {p:Ph} {S:Sto} {H:Hp} {a:AV} {v:PV} {x:V} (s:Sim K p S H) (r:RepA K p H a x) (e:rd S a=some v):RepR K p H v x:=by
 cases a with
 | pv u=>cases e; exact .inl r
 | ref k =>
  obtain ⟨a,e1,rfl⟩:=r
  unfold rd at e
  cases z:S[k]? with
  | none=>simp only [z] at e; cases e
  | some o =>
   cases o with
   | lst xs =>
    simp only [z] at e
    cases e
    obtain ⟨vs,h,l,r⟩:=s.obj k a _ e1 z
    exact .inr ⟨xs,a,vs,rfl,rfl,h,l,r⟩
   | lol xss=>simp only [z] at e; cases e
abbrev aoP (K:PySem.W.Frag) (p:Ph) (H:Hp):List PV→List V→Prop:=Paired (RepR K p H)
theorem ad3 {p:Ph} {S:Sto} {H:Hp} (s:Sim K p S H):∀ {as:List AV} {vs:List PV} {xs:List V},ac6 K p H as xs→abb S as=some vs→aoP K p H vs xs
 | [],vs,_,.nil,e=>by
  cases e
  exact .nil
 | a :: r,vs,_,.cons h t,e=>by
  unfold abb at e
  cases z:rd S a with
  | none=>simp only [z] at e; cases e
  | some v =>
   simp only [z] at e
   cases y:abb S r with
   | none=>simp only [y] at e; cases e
   | some us =>
    simp only [y] at e
    cases e
    exact .cons (agW s h z) (ad3 s t y)
def OpS (K:PySem.W.Frag) (r:R2) (f:PV→PV→Option PV):Prop:=∀ {p:Ph} {S:Sto} {H:Hp} {a b c:PV} {x y:V} {Q:VK},Sim K p S H→RepR K p H a x→RepR K p H b y→f a b=some c →
 (∀ H' z,Same H H'→Rep K p.c H' c z→Q z H')→r x y H Q
def UnS (K:PySem.W.Frag) (r:V→Hp→VK→Prop) (f:PV→Option PV):Prop:=∀ {p:Ph} {S:Sto} {H:Hp} {a c:PV} {x:V} {Q:VK},Sim K p S H→RepR K p H a x→f a=some c →
 (∀ H' z,Same H H'→Rep K p.c H' c z→Q z H')→r x H Q
def CaS (K:PySem.W.Frag) (r:List V→Hp→VK→Prop) (f:List PV→Option PV):Prop:=∀ {p:Ph} {S:Sto} {H:Hp} {as:List PV} {c:PV} {xs:List V} {Q:VK},Sim K p S H→Reps K p.c H as xs→f as=some c →
 (∀ H' z,Same H H'→Rep K p.c H' c z→Q z H')→r xs H Q
def CaR (K:PySem.W.Frag) (r:List V→Hp→VK→Prop) (f:List PV→Option PV):Prop:=∀ {p:Ph} {S:Sto} {H:Hp} {as:List PV} {c:PV} {xs:List V} {Q:VK},Sim K p S H→aoP K p H as xs→f as=some c →
 (∀ H' z,Same H H'→Rep K p.c H' c z→Q z H')→r xs H Q
theorem ae4 {p:Ph} {S:Sto} {H:Hp} {o:Option PV} {Q:VK} (s:Sim K p S H) (h:aa8 K cl (RepA K) p H (okO o S) Q E):∃ c,o=some c∧∀ H' z,Same H H'→Rep K p.c H' c z→Q z H':=by
 cases o with
 | none=>exact h.elim
 | some c=>exact ⟨c,rfl,fun H' z sm rz=>aa8.same (R:=RepA K) h s sm rz⟩
theorem ad4 {r:R2} {f:PV→PV→Option PV} (hf:OpS K r f) {p:Ph} {S:Sto} {H:Hp} {a b:AV} {x y:V} {Q:VK} (s:Sim K p S H) (ra:RepA K p H a x) (rb:RepA K p H b y) (h:aa8 K cl (RepA K) p H (abo f a b S) Q E):r x y H Q:=by
 obtain ⟨c,e,k⟩:=ae4 s h
 cases z:rd S a with
 | none=>rw [z] at e; cases e
 | some v =>
  cases y:rd S b with
  | none=>rw [z,y] at e; cases e
  | some w =>
   rw [z,y] at e
   exact hf s (agW s ra z) (agW s rb y) e k
theorem ajP {r:V→Hp→VK→Prop} {f:PV→Option PV} (hf:UnS K r f) {p:Ph} {S:Sto} {H:Hp} {a:AV} {x:V} {Q:VK} (s:Sim K p S H) (ra:RepA K p H a x) (h:aa8 K cl (RepA K) p H (abL f a S) Q E):r x H Q:=by
 obtain ⟨c,e,k⟩:=ae4 s h
 cases z:rd S a with
 | none=>rw [z] at e; cases e
 | some v =>
  rw [z] at e
  exact hf s (agW s ra z) e k
theorem agV {r:List V→Hp→VK→Prop} {f:List PV→Option PV} (hf:CaR K r f) {p:Ph} {S:Sto} {H:Hp} {as:List AV} {xs:List V} {Q:VK} (s:Sim K p S H) (ra:ac6 K p H as xs) (h:aa8 K cl (RepA K) p H (abA f as S) Q E):r xs H Q:=by
 obtain ⟨c,e,k⟩:=ae4 s h
 cases z:abb S as with
 | none=>rw [z] at e; cases e
 | some v =>
  rw [z] at e
  exact hf s (ad3 s ra z) e k
theorem aeq {p:Ph} {H:Hp}:∀ {as:List AV} {vs:List PV} {xs:List V},abw as=some vs→ac6 K p H as xs→Reps K p.c H vs xs
 | [],vs,_,e,.nil=>by
  cases e
  exact .nil
 | .pv v :: r,vs,_,e,.cons h t=>by
  unfold abw at e
  cases z:abw r with
  | none=>simp only [z] at e; cases e
  | some us =>
   simp only [z] at e
   cases e
   exact .cons h (aeq z t)
 | .ref k :: r,vs,_,e,.cons h t=>by
  cases e
theorem agS {r:List V→Hp→VK→Prop} {f:List PV→Option PV} (hf:CaS K r f) {p:Ph} {S:Sto} {H:Hp} {as:List AV} {xs:List V} {Q:VK} (s:Sim K p S H) (ra:ac6 K p H as xs) (h:aa8 K cl (RepA K) p H (abV f as S) Q E):r xs H Q:=by
 obtain ⟨c,e,k⟩:=ae4 s h
 cases z:abw as with
 | none=>rw [z] at e; cases e
 | some v =>
  rw [z] at e
  exact hf s (aeq z ra) e k
theorem aas {op:Operator} {r:R2} {f:PV→PV→Option PV} (ho:OpR X (binaryOp op) r) (hf:OpS X.K r f) (ha:PEp K cl E X a ma) (hb:PEp K cl E X b mb):PEp K cl E X (.BinOp a op b pos) (mBin f ma mb):=by
 intro hK
 subst hK
 refine (ao2 ho (ha rfl) (hb rfl)).imp fun σ H Q ⟨p,S,ρ,s,e,h⟩=>?_
 exact aaH s e h fun q H1 a x S1 st s1 e1 r1 h1=>aaH s1 e1 h1 fun q2 H2 b y S2 st2 s2 e2 r2 h2=>ad4 hf s2 (st2.repA r1) r2 h2
theorem abJ {op:UnaryOp} {r:V→Hp→VK→Prop} {f:PV→Option PV} (ho:UnR X (unaryOp op) r) (hf:UnS X.K r f) (ha:PEp K cl E X a ma):PEp K cl E X (.UnaryOp op a pos) (mUn f ma):=by
 intro hK
 subst hK
 refine (apJ ho (ha rfl)).imp fun σ H Q ⟨p,S,ρ,s,e,h⟩=>?_
 exact aaH s e h fun q H1 a x S1 st s1 e1 r1 h1=>ajP hf s1 r1 h1
theorem ais {op:CmpOp} {r:R2} {f:PV→PV→Option PV} (ho:OpR X (compareOp op) r) (hf:OpS X.K r f) (ha:PEp K cl E X a ma) (hb:PEp K cl E X b mb) (hm:behindInMarks op b=false):PEp K cl E X (.Compare a [op] [b] pos) (mBin f ma mb):=by
 intro hK
 subst hK
 refine (amL ho (ha rfl) (hb rfl) hm).imp fun σ H Q ⟨p,S,ρ,s,e,h⟩=>?_
 exact aaH s e h fun q H1 a x S1 st s1 e1 r1 h1=>aaH s1 e1 h1 fun q2 H2 b y S2 st2 s2 e2 r2 h2=>ad4 hf s2 (st2.repA r1) r2 h2
theorem anM {p:Ph} {H:Hp} {v:AV} {x:V} (r:RepA K p H v x) {b:Bool} (e:v=.pv (.bl b)):x=.bl b:=by
 subst e
 unfold RepA Rep at r
 exact r
theorem ak4 {p:Ph} {S:Sto} {H:Hp} {v:AV} {x:V} {Q:Bool→Hp→Prop} (s:Sim K p S H) (r:RepA K p H v x)
  (h:aa8 K cl RB p H (tst v S) Q E):∃ k,x=.bl k∧Q k H:=by
 cases v with
 | ref k=>exact h.elim
 | pv v =>
  cases v with
  | bl b=>exact ⟨b,anM r rfl,aa8.ret (R:=RB) h s rfl⟩
  | _=>exact h.elim
theorem aaI {op:CmpOp} {r:R2} {f:PV→PV→Option PV} (ho:OpR X (compareOp op) r) (hf:OpS X.K r f) (ha:PEp K cl E X a ma) (hb:PEp K cl E X b mb) (hm:behindInMarks op b=false):PTp K cl E X (.Compare a [op] [b] pos) (mTst (mBin f ma mb)):=by
 intro hK
 subst hK
 refine (amR ho (ha rfl) (hb rfl) hm).imp fun σ H Q ⟨p,S,ρ,s,e,h⟩=>?_
 have z:tP X.K cl E (RepA X.K) (mBin f ma mb) σ H fun x H'=>∃ k,x=.bl k∧Q k H':=aaH s e h fun q H1 a x S1 st s1 e1 r1 h1=>ak4 s1 r1 h1
 obtain ⟨p',S',ρ',s',e',h'⟩:=z
 exact aaH s' e' h' fun q H1 a x S1 st s1 e1 r1 h1=>aaH s1 e1 h1 fun q2 H2 b y S2 st2 s2 e2 r2 h2=>ad4 hf s2 (st2.repA r1) r2 h2
theorem agh (ha:PTp K cl E X a mt):PWp K cl E X (.BoolOp .And [a] pos) mt:=fun hK=>amv (ha hK)
theorem akh (ha:PTp K cl E X a mt):PWp K cl E X (.BoolOp .Or [a] pos) mt:=fun hK=>aoQ (ha hK)
theorem PWp.pt (h:PWp K cl E X a mt):PTp K cl E X a mt:=fun hK=>PW.pt (h hK)
theorem ahD {rest:List Expr} (ha:PTp K cl E X a mt) (hb:PWp K cl E X (.BoolOp .And (b :: rest) pos) nt):PWp K cl E X (.BoolOp .And (a :: b :: rest) pos) (mAnd mt nt):=by
 intro hK
 subst hK
 refine PW.imp (aoL (ha rfl) (hb rfl)) fun σ H Q ⟨p,S,ρ,s,e,h⟩=>?_
 refine aaH s e h fun q H1 a x S1 st s1 e1 r1 h1=>?_
 cases r1
 cases a with
 | true=>exact ⟨q,S1,ρ,s1,e1,h1⟩
 | false=>exact aa8.ret (R:=RB) h1 s1 rfl
theorem ahU {rest:List Expr} (ha:PTp K cl E X a mt) (hb:PWp K cl E X (.BoolOp .Or (b :: rest) pos) nt):PWp K cl E X (.BoolOp .Or (a :: b :: rest) pos) (mOr mt nt):=by
 intro hK
 subst hK
 refine PW.imp (app (ha rfl) (hb rfl)) fun σ H Q ⟨p,S,ρ,s,e,h⟩=>?_
 refine aaH s e h fun q H1 a x S1 st s1 e1 r1 h1=>?_
 cases r1
 cases a with
 | true=>exact aa8.ret (R:=RB) h1 s1 rfl
 | false=>exact ⟨q,S1,ρ,s1,e1,h1⟩
theorem aoq {op} (h:PEp K cl E X a ma):PEp K cl E X (.BoolOp op [a] pos) ma:=fun hK=>ao3 (h hK)
theorem anQ {rest:List Expr} (ha:PEp K cl E X a ma) (hb:PEp K cl E X (.BoolOp .And (b :: rest) pos) mb):PEp K cl E X (.BoolOp .And (a :: b :: rest) pos) (abK ma mb):=by
 intro hK
 subst hK
 refine (aos (ha rfl) (hb rfl)).imp fun σ H Q ⟨p,S,ρ,s,e,h⟩=>?_
 refine aaH s e h fun q H1 a x S1 st s1 e1 r1 h1=>?_
 cases a with
 | ref k=>exact h1.elim
 | pv v =>
  cases v with
  | bl b =>
   refine ⟨b,anM r1 rfl,?_⟩
   cases b with
   | true=>exact ⟨q,S1,ρ,s1,e1,h1⟩
   | false=>exact aa8.ret (R:=RepA X.K) h1 s1 (by show Rep X.K q.c H1 _ _; unfold Rep; rfl)
  | _=>exact h1.elim
theorem aae:PAp K cl E X [] mNil:=fun _=>(PA.imp ahR fun σ H Q ⟨p,S,ρ,s,e,h⟩=>aa8.ret (R:=ac6 K) h s .nil)
theorem aaa (ha:PEp K cl E X e m) (hr:PAp K cl E X es ms) (hs:starEach (e :: es) X.env=(false,eval e X.env) :: starEach es X.env:=by rfl):PAp K cl E X (e :: es) (aab m ms):=by
 intro hK
 subst hK
 refine PA.imp (agk (ha rfl) (hr rfl) hs) fun σ H Q ⟨p,S,ρ,s,e,h⟩=>?_
 exact aaH s e h fun q H1 a x S1 st s1 e1 r1 h1=>aaH s1 e1 h1 fun q2 H2 b y S2 st2 s2 e2 r2 h2=>aa8.ret (R:=ac6 X.K) h2 s2 (.cons (st2.repA r1) r2)
theorem adV {p:Ph} {S:Sto} {H:Hp} {vs:List PV} {xs:List V} {t:Addr} (s:Sim K p S H) (r:Reps K p.c H vs xs) (z:xs.length≤sizeLine) (ht:H t=none):Rep K p.c (upd H t (.tup xs)) (.tup vs) (.ref t):=by
 unfold Rep
 exact ⟨t,xs,rfl,SqT.of aa1,z,(s.same (abp ht)).reps r⟩
theorem aer {p:Ph} {S:Sto} {H:Hp} {vs:List PV} {xs:List V} {t:Addr} (s:Sim K p S H) (r:Reps K p.c H vs xs) (z:xs.length≤sizeLine) (ht:H t=none):Rep K p.c (upd H t (.lst xs)) (.lst vs) (.ref t):=by
 unfold Rep
 refine ⟨t,xs,rfl,.inl ⟨aa1,fun c=>?_⟩,z,(s.same (abp ht)).reps r⟩
 obtain ⟨o,e,_⟩:=s.mu t c
 rw [ht] at e
 cases e
theorem aa0:sizeLine=16777216:=sizeLine_eq
theorem aij {x1} (h:PAp K cl E X es ms):PEp K cl E X (.Tuple es x1 pos) (mN fTup ms):=by
 intro hK
 subst hK
 refine (anR (h rfl)).imp fun σ H Q ⟨p,S,ρ,s,e,h⟩=>?_
 refine aaH s e h fun q H1 as xs S1 st s1 e1 r1 h1=>?_
 refine agS (r:=fun xs H Q=>xs.length≤sizeLine∧∀ t,H t=none→Q (.ref t) (upd H t (.tup xs))) (f:=fTup) (fun {p S H as c xs Q} s r e k=>?_) s1 r1 h1
 unfold fTup at e
 split at e
 ·rename_i hl
  cases e
  rw [r.length,← aa0] at hl
  exact ⟨hl,fun t ht=>k _ _ (abp ht) (adV s r hl ht)⟩
 ·cases e
theorem ab6 (h:PAp K cl E X es ms):PEp K cl E X (.List es pos) (mN fLst ms):=by
 intro hK
 subst hK
 refine (aj2 (h rfl)).imp fun σ H Q ⟨p,S,ρ,s,e,h⟩=>?_
 refine aaH s e h fun q H1 as xs S1 st s1 e1 r1 h1=>?_
 refine agS (r:=fun xs H Q=>xs.length≤sizeLine∧∀ t,H t=none→Q (.ref t) (upd H t (.lst xs))) (f:=fLst) (fun {p S H as c xs Q} s r e k=>?_) s1 r1 h1
 unfold fLst at e
 split at e
 ·rename_i hl
  cases e
  rw [r.length,← aa0] at hl
  exact ⟨hl,fun t ht=>k _ _ (abp ht) (aer s r hl ht)⟩
 ·cases e
end
end L2.Pp
namespace L2.Pp
open PySem PySem.Spec PyProof.Rows Bn
def sNil:MS:=fun ρ S=>.nx ρ S
def sSeq (a b:MS):MS:=fun ρ S=>match a ρ S with
 | .nx ρ1 S1=>b ρ1 S1
 | r=>r
def aaW (m:ME):MS:=fun ρ S=>SRes.of (m ρ S) fun _ S1=>.nx ρ S1
def sRet (m:ME):MS:=fun ρ S=>SRes.of (m ρ S) fun v S1=>.rt v S1
def ab2:MS:=fun _ S=>.rt (.pv .non) S
def sIf (c:MT) (a b:MS):MS:=fun ρ S=>SRes.of (c ρ S) fun t S1=>if t=true then a ρ S1 else b ρ S1
def sSet (i:Nat) (m:ME):MS:=fun ρ S=>SRes.of (m ρ S) fun v S1=>.nx (ρ.set i (some v)) S1
def sPar (i j:Nat) (m:MA):MS:=fun ρ S=>SRes.of (m ρ S) fun vs S1=>match vs with
 | [v,w]=>.nx ((ρ.set i (some v)).set j (some w)) S1
 | _=>.fail
abbrev GM:=PV→Rho→Option Rho
abbrev GMs:=List PV→Rho→Option Rho
def gN (i:Nat):GM:=fun v ρ=>some (ρ.set i (some (.pv v)))
def acA:GMs:=fun vs ρ=>match vs with
 | []=>some ρ
 | _=>none
def aa2 (g:GM) (gs:GMs):GMs:=fun vs ρ=>match vs with
 | []=>none
 | v :: r=>match g v ρ with
  | some ρ1=>gs r ρ1
  | none=>none
def gT (n:Nat) (gs:GMs):GM:=fun v ρ=>match v with
 | .tup vs=>if vs.length=n then gs vs ρ else none
 | _=>none
abbrev Gd:=List (Nat × List PV)
def gOk (G:Gd) (S:Sto):Prop:=∀ g∈G,S[g.1]?=some (.lst g.2)
theorem ado (S:Sto):gOk [] S:=fun _ h=>nomatch h
abbrev MI:=Rho→Sto→Res (List PV × Gd)
open Classical in
noncomputable def abQ (G:Gd) (g:GM) (mb:MS):List PV→Rho→Sto→SRes
 | [],ρ,S=>if gOk G S then .nx ρ S else .fail
 | x :: r,ρ,S=>if gOk G S then (match g x ρ with
  | none=>.fail
  | some ρ1=>match mb ρ1 S with
   | .nx ρ2 S2=>abQ G g mb r ρ2 S2
   | .ct ρ2 S2=>abQ G g mb r ρ2 S2
   | .bk ρ2 S2=>.nx ρ2 S2
   | .rt v S2=>.rt v S2
   | .exc n S2=>.exc n S2
   | .fail=>.fail) else .fail
noncomputable def sFor (mi:MI) (g:GM) (mb:MS):MS:=fun ρ S=>SRes.of (mi ρ S) fun xs S1=>abQ xs.2 g mb xs.1 ρ S1
theorem abf {g:GM} {mb:MS} {ρ:Rho} {S:Sto}:abQ [] g mb [] ρ S=.nx ρ S:=by
 unfold abQ
 rw [if_pos (ado S)]
theorem aaM {g:GM} {mb:MS} {x:PV} {r:List PV} {ρ:Rho} {S:Sto}:abQ [] g mb (x :: r) ρ S=(match g x ρ with
  | none=>.fail
  | some ρ1=>match mb ρ1 S with
   | .nx ρ2 S2=>abQ [] g mb r ρ2 S2
   | .ct ρ2 S2=>abQ [] g mb r ρ2 S2
   | .bk ρ2 S2=>.nx ρ2 S2
   | .rt v S2=>.rt v S2
   | .exc n S2=>.exc n S2
   | .fail=>.fail):=by
 rw [abQ,if_pos (ado S)]
def aba (c:MT) (mb:MS):Nat→Rho→Sto→SRes
 | 0,_,_=>.fail
 | n+1,ρ,S=>SRes.of (c ρ S) fun t S1=>if t=true then (match mb ρ S1 with
   | .nx ρ2 S2=>aba c mb n ρ2 S2
   | .ct ρ2 S2=>aba c mb n ρ2 S2
   | .bk ρ2 S2=>.nx ρ2 S2
   | .rt v S2=>.rt v S2
   | .exc n S2=>.exc n S2
   | .fail=>.fail) else .nx ρ S1
open Classical in
noncomputable def afa (c:MT) (mb:MS):MS:=fun ρ S=>if h:∃ n,aba c mb n ρ S≠.fail then aba c mb h.choose ρ S else .fail
theorem SRes.of_ok {α:Type} {r:Res α} {k k':α→Sto→SRes} (h:∀ a S,k a S≠.fail→k' a S=k a S) (n:SRes.of r k≠.fail):SRes.of r k'=SRes.of r k:=by
 cases r with
 | ok a S=>exact h a S n
 | exc=>rfl
 | fail=>rfl
theorem adW {c:MT} {mb:MS}:∀ {n:Nat} {ρ:Rho} {S:Sto},aba c mb n ρ S≠.fail→aba c mb (n+1) ρ S=aba c mb n ρ S
 | 0,_,_,h=>absurd rfl h
 | n+1,ρ,S,h=>by
  unfold aba at h
  rw [aba]
  conv=>rhs; rw [aba]
  refine SRes.of_ok (fun t S1 h1=>?_) h
  by_cases ht:t=true
  ·simp only [if_pos ht] at h1 ⊢
   cases z:mb ρ S1 with
   | nx ρ2 S2=>rw [z] at h1; exact adW h1
   | ct ρ2 S2=>rw [z] at h1; exact adW h1
   | _=>rfl
  ·simp only [if_neg ht] at h1 ⊢
theorem aeg {c:MT} {mb:MS} {n:Nat} {ρ:Rho} {S:Sto} (h:aba c mb n ρ S≠.fail):∀ k,aba c mb (n+k) ρ S=aba c mb n ρ S
 | 0=>rfl
 | k+1=>by
  have ih:=aeg h k
  rw [← Nat.add_assoc,adW (by rw [ih]; exact h),ih]
theorem aeQ {c:MT} {mb:MS} {n:Nat} {ρ:Rho} {S:Sto} {r:SRes} (e:aba c mb n ρ S=r) (h:r≠.fail):afa c mb ρ S=r:=by
 have h':∃ n,aba c mb n ρ S≠.fail:=⟨n,by rw [e]; exact h⟩
 unfold afa
 rw [dif_pos h']
 have e2:=h'.choose_spec
 rcases Nat.le_total n h'.choose with l | l
 ·obtain ⟨k,q⟩:=Nat.exists_eq_add_of_le l
  rw [q,aeg (by rw [e]; exact h),e]
 ·obtain ⟨k,q⟩:=Nat.exists_eq_add_of_le l
  have z:=aeg e2 k
  rw [← q,e] at z
  exact z.symm
section
variable {K:PySem.W.Frag} {cl:Str→Addr} {E:XK} {X:Cx} {a b c e tg:Expr} {es:List Expr} {m:ME} {mt:MT} {ms:MA} {b1 b2:MS} {st:Stmt} {sts sts':List Stmt} {pos:Pos}
theorem RepE.set {p:Ph} {H:Hp} {ρ:Rho} {σ:St} {v:AV} {x:V} (h:RepE K p H ρ σ) (r:RepA K p H v x) (i:Nat):RepE K p H (ρ.set i (some v)) (σ.set i (some x)):=by
 refine ⟨by rw [List.length_set,List.length_set,h.len],fun j u e=>?_⟩
 by_cases q:i=j
 ·subst q
  by_cases l:i < ρ.length
  ·rw [List.getElem?_set_self l] at e
   cases e
   exact ⟨x,List.getElem?_set_self (by rw [← h.len]; exact l),r⟩
  ·rw [List.getElem?_eq_none (by rw [List.length_set]; omega)] at e
   cases e
 ·rw [List.getElem?_set_ne q] at e ⊢
  exact h.at_ j u e
theorem aaP:PSsp K cl E X [] sNil:=fun _=>PSs.imp anc fun D σ H ⟨p,S,ρ,s,e,h⟩=>h p H σ s.step s e
theorem abY.nxD {p:Ph} {H:Hp} {ρ:Rho} {S:Sto} {D:Ends} (h:abY K cl p H (.nx ρ S) D E) {σ:St} (s:Sim K p S H) (e:RepE K p H ρ σ):D.nx σ H:=h p H σ s.step s e
theorem aag (h1:PSp K cl E X st b1) (h2:PSsp K cl E X sts b2):PSsp K cl E X (st :: sts) (sSeq b1 b2):=by
 intro hK
 subst hK
 refine PSs.imp (alO (h1 rfl) (h2 rfl)) fun D σ H ⟨p,S,ρ,s,e,h⟩=>⟨p,S,ρ,s,e,?_⟩
 unfold sSeq at h
 cases z:b1 ρ S with
 | nx ρ1 S1 =>
  rw [z] at h
  exact fun q H' σ' stp sm ev=>⟨q,S1,ρ1,sm,ev,abY.mono (r:=b2 ρ1 S1) h stp⟩
 | bk ρ1 S1=>rw [z] at h; exact h
 | ct ρ1 S1=>rw [z] at h; exact h
 | rt v S1=>rw [z] at h; exact h
 | exc n S1=>rw [z] at h; exact h
 | fail=>rw [z] at h; exact h
theorem aai (h1:PSp K cl E X st b1):PSsp K cl E X [st] b1:=fun hK=>akB (h1 hK)
theorem abM (he:PEp K cl E X e m) (hs:swapsWith e none pos.line X.env=pure false:=by rfl):PSp K cl E X (.Expr e pos) (aaW m):=by
 intro hK
 subst hK
 refine PS.imp (ank (he rfl) hs) fun D σ H ⟨p,S,ρ,s,e,h⟩=>?_
 exact ach s e h fun q H' a b S' stp sm ev r k=>abY.nxD k sm ev
theorem aaB (he:PEp K cl E X e m):PSp K cl E X (.Return (some e) pos) (sRet m):=by
 intro hK
 subst hK
 refine PS.imp (ao0 (he rfl)) fun D σ H ⟨p,S,ρ,s,e,h⟩=>?_
 exact ach s e h fun q H' a b S' stp sm ev r k=>k q H' b sm.step sm r
theorem aa9 (hc:PTp K cl E X c mt) (ha:PSsp K cl E X sts b1) (hb:PSsp K cl E X sts' b2):PSp K cl E X (.If c sts sts' pos) (sIf mt b1 b2):=by
 intro hK
 subst hK
 refine PS.imp (ao9 (hc rfl) (ha rfl) (hb rfl)) fun D σ H ⟨p,S,ρ,s,e,h⟩=>?_
 refine ach s e h fun q H' a b S' stp sm ev r k=>?_
 cases r
 cases a with
 | true=>exact ⟨q,S',ρ,sm,ev,k⟩
 | false=>exact ⟨q,S',ρ,sm,ev,k⟩
theorem aar {i:Nat} {x:Str} {pos':Pos} (hN:X.N.Nodup) (hi:X.N[i]?=some x) (hx:Loc X.env.scope x) (he:PEp K cl E X e m) (hs:swapsWith e (some (.Name x pos')) pos.line X.env=pure false:=by rfl)
  (hf:X.fn x=true∨X.env.scope.names.lookup x=some .local:=by first | exact .inl rfl | exact .inr rfl | assumption):PSp K cl E X (.Assign [.Name x pos'] e pos) (sSet i m):=by
 intro hK
 subst hK
 refine PS.imp (aob hN hi hx (he rfl) hs hf) fun D σ H ⟨p,S,ρ,s,e,h⟩=>?_
 exact ach s e h fun q H' a b S' stp sm ev r k=>abY.nxD k sm (ev.set r i)
theorem amT {i j:Nat} {x y:Str} {px py pt:Pos} {kt k2 pt2} (hc:X.calm=true) (hN:X.N.Nodup) (hi:X.N[i]?=some x) (hj:X.N[j]?=some y) (hij:i≠j)
  (hx:X.env.scope.names.lookup x=some .local) (hy:X.env.scope.names.lookup y=some .local) (ha:PAp K cl E X [a,b] ms)
  (hw:swappedStores [.Tuple [.Name x px,.Name y py] kt pt] (.Tuple [a,b] k2 pt2) X.env=pure (some [x,y]))
  (hs:swapsWithSole [.Tuple [.Name x px,.Name y py] kt pt] (.Tuple [a,b] k2 pt2) pos.line X.env=pure false:=by rfl) :
  PSp K cl E X (.Assign [.Tuple [.Name x px,.Name y py] kt pt] (.Tuple [a,b] k2 pt2) pos) (sPar i j ms):=by
 intro hK
 subst hK
 refine PS.imp (aoW hc hN hi hj hij hx hy (ha rfl) hw hs) fun D σ H ⟨p,S,ρ,s,e,h⟩=>?_
 refine ach s e h fun q H' vs xs S' stp sm ev r k=>?_
 match vs,xs,r with
 | [],_,.nil=>exact k.elim
 | [v],_,.cons _ .nil=>exact k.elim
 | [v,w],_,.cons (b:=x1) r1 (.cons (b:=x2) r2 .nil)=>exact ⟨x1,x2,rfl,abY.nxD k sm ((ev.set r1 i).set r2 j)⟩
 | _ :: _ :: _ :: _,_,.cons _ (.cons _ (.cons _ _))=>exact k.elim
def gP (K:PySem.W.Frag) (g:GM):TG:=fun x σ H Q=>∃ p S ρ v ρ',Sim K p S H∧RepE K p H ρ σ∧Rep K p.c H v x∧g v ρ=some ρ'∧∀ σ',RepE K p H ρ' σ'→Q σ' H
def gPs (K:PySem.W.Frag) (g:GMs):TGs:=fun xs σ H Q=>∃ p S ρ vs ρ',Sim K p S H∧RepE K p H ρ σ∧Reps K p.c H vs xs∧g vs ρ=some ρ'∧∀ σ',RepE K p H ρ' σ'→Q σ' H
variable (K X)
def PGp (tg:Expr) (g:GM):Prop:=X.K=K→PG X tg (gP K g)
def PGsp (ts:List Expr) (g:GMs):Prop:=X.K=K→PGs X ts (gPs K g)
variable {K X}
theorem PG.imp {tg:Expr} {t t':TG} (h:PG X tg t) (i:∀ x σ H Q,t' x σ H Q→t x σ H Q):PG X tg t':=fun pins s σ H v u Q I r q=>h pins s σ H v u Q I r (i v σ H Q q)
theorem PGs.imp {ts:List Expr} {t t':TGs} (h:PGs X ts t) (i:∀ x σ H Q,t' x σ H Q→t x σ H Q):PGs X ts t':=fun pins s σ H v u Q I r q=>h pins s σ H v u Q I r (i v σ H Q q)
theorem aat {i:Nat} {x:Str} (hN:X.N.Nodup) (hi:X.N[i]?=some x) (hx:Loc X.env.scope x) (hf:X.fn x=true∨X.env.scope.names.lookup x=some .local:=by first | exact .inl rfl | exact .inr rfl | assumption):PGp K X (.Name x pos) (gN i) :=
 fun _=>PG.imp (aj6 hN hi hx hf) fun x σ H Q ⟨p,S,ρ,v,ρ',s,ev,r,g,k⟩=>by
  cases g
  exact k _ (ev.set (v:=.pv v) r i)
theorem acK:PGsp K X [] acA:=fun _=>PGs.imp anE fun xs σ H Q ⟨p,S,ρ,vs,ρ',s,ev,r,g,k⟩=>by
 cases vs with
 | nil =>
  cases g
  unfold Reps at r
  exact ⟨r,k _ ev⟩
 | cons _ _=>cases g
theorem aa7 {g:GM} {gs:GMs} (h1:PGp K X e g) (h2:PGsp K X es gs) (hs:(assignEach (e :: es) X.env).map (·.2)=assign e X.env :: (assignEach es X.env).map (·.2):=by rfl):PGsp K X (e :: es) (aa2 g gs):=by
 intro hK
 subst hK
 refine PGs.imp (akN (h1 rfl) (h2 rfl) hs) fun xs σ H Q ⟨p,S,ρ,vs,ρ',s,ev,r,g1,k⟩=>?_
 cases vs with
 | nil=>cases g1
 | cons v vr =>
  unfold Reps at r
  obtain ⟨x,xr,rfl,r1,r2⟩:=r
  unfold aa2 at g1
  cases z:g v ρ with
  | none=>simp only [z] at g1; cases g1
  | some ρ1 =>
   simp only [z] at g1
   exact ⟨x,xr,rfl,p,S,ρ,v,ρ1,s,ev,r1,z,fun σ' ev'=>⟨p,S,ρ1,vr,ρ',s,ev',r2,g1,k⟩⟩
theorem adn {k:Nat} {gs:GMs} {n:Nat} (hc:X.calm=true) (h:PGsp K X es gs) (hn:(assignEach es X.env).length=n:=by rfl) (hst:(assignEach es X.env).findIdx? (·.1)=none:=by rfl):PGp K X (.Tuple es k pos) (gT n gs):=by
 intro hK
 subst hK
 refine PG.imp (aoJ hc (h rfl) hn hst) fun x σ H Q ⟨p,S,ρ,v,ρ',s,ev,r,g1,k⟩=>?_
 cases v with
 | tup vs =>
  unfold Rep at r
  obtain ⟨a,xs,rfl,t,z,r⟩:=r
  unfold gT at g1
  dsimp only at g1
  split at g1
  ·rename_i hl
   exact ⟨a,xs,rfl,t,r.length.symm.trans hl,p,S,ρ,vs,ρ',s,ev,r,g1,k⟩
  ·cases g1
 | _=>cases g1
def ItOk (K:PySem.W.Frag) (p:Ph) (H:Hp) (xs:List PV × Gd) (J:It):Prop:=xs.1.length≤sizeLine∧∀ q H1 S1,Step p H q H1→Sim K q S1 H1→gOk xs.2 S1 →
 (∀ (i:Nat) (v:PV),xs.1[i]?=some v→J.go i H1∧∀ x H2,J.yld i H1 x H2→Same H1 H2∧Rep K q.c H2 v x)∧J.stop xs.1.length H1
theorem ItOk.step {p q:Ph} {H H':Hp} {xs:List PV × Gd} {J:It} (h:ItOk K p H xs J) (s:Step p H q H'):ItOk K q H' xs J:=⟨h.1,fun r H1 S1 t=>h.2 r H1 S1 (s.trans t)⟩
variable (K cl E X)
def PIp (tg iter:Expr) (m:MI):Prop:=X.K=K→PI X tg iter (tP K cl E (ItOk K) m)
variable {K cl E X}
theorem PI.imp {tg iter:Expr} {t t':TI} (h:PI X tg iter t) (i:∀ σ H Q,t' σ H Q→t σ H Q):PI X tg iter t':=fun pins s σ H R I q=>h pins s σ H R I (i σ H R q)
def iAny (K:PySem.W.Frag) (tl:TE):TI:=fun σ H R=>tl σ H fun x H1=>∃ a,x=.ref a∧(((∃ xs,SqL K H1 a xs)∧R (Itl K a) H1)∨((∃ xs,SqT K H1 a xs)∧R (Itt K a) H1))
theorem alY {l:Expr} {tl:TE} (hl:PE X l tl):PI X tg l (iAny X.K tl):=by
 intro pins s σ H R I h
 refine thn (hl pins s σ H _ I h) fun v s1 ⟨x,H1,I1,r1,q1⟩=>?_
 obtain ⟨a,e,q⟩:=q1
 subst e
 cases r1
 rcases q with ⟨⟨xs,hq⟩,q⟩ | ⟨⟨xs,hq⟩,q⟩
 ·obtain ⟨its,rv,p,hz⟩:=I1.list hq
  refine wpAny_pyIter_list p.isList ?_
  refine ⟨s1.heap.objs.size,[s1.heap.objs.size],_,_,H1,rfl,I1.kept (t':=s1.toks) fun b o e=>Heap.get?_push_of_some _ e,ajW a _,⟨_,Heap.get?_push_size _ rfl,rfl,rfl⟩,fun b hb=>?_,q⟩
  have e:b=s1.heap.objs.size:=by simpa using hb
  subst e
  exact I1.fpOk (Nat.le_refl _) (I1.hok.fresh (Nat.le_refl _))
 ·obtain ⟨its,rv,p,hz⟩:=I1.tuple hq
  refine wpAny_pyIter_tuple (show s1.heap.IsTuple a its.toArray from p) ?_
  refine ⟨s1.heap.objs.size,[s1.heap.objs.size],_,_,H1,rfl,I1.kept (t':=s1.toks) fun b o e=>Heap.get?_push_of_some _ e,aja a _,⟨_,Heap.get?_push_size _ rfl,rfl,rfl⟩,fun b hb=>?_,q⟩
  have e:b=s1.heap.objs.size:=by simpa using hb
  subst e
  exact I1.fpOk (Nat.le_refl _) (I1.hok.fresh (Nat.le_refl _))
def aa6:AV→Sto→Res (List PV × Gd)
 | .pv (.lst xs),S=>.ok (xs,[]) S
 | .pv (.tup xs),S=>.ok (xs,[]) S
 | .ref k,S=>match S[k]? with
  | some (.lst xs)=>.ok (xs,[(k,xs)]) S
  | _=>.fail
 | _,_=>.fail
def mIt (m:ME):MI:=fun ρ S=>(m ρ S).bind aa6
theorem aoK {p:Ph} {H:Hp} {xs:List PV} {a:Addr} {vs:List V} (l:LAt K p.c H a vs) (z:vs.length≤sizeLine) (r:Reps K p.c H xs vs):ItOk K p H (xs,[]) (Itl K a):=by
 refine ⟨by rw [r.length]; exact z,fun q H1 S1 st _ _=>⟨fun i v e=>?_,?_⟩⟩
 ·have l1:=(st.lat l).sq
  obtain ⟨x,e1,r1⟩:=(st.reps r).get e
  refine ⟨⟨vs,x,l1,e1⟩,fun y H2 hy=>?_⟩
  obtain ⟨rfl,hy⟩:=hy
  have:=(hy vs l1).symm.trans e1
  cases this
  exact ⟨Same.refl _,r1⟩
 ·exact ⟨vs,(st.lat l).sq,by rw [r.length]; exact Nat.le_refl _⟩
theorem aot {p:Ph} {H:Hp} {xs:List PV} {a:Addr} {vs:List V} (l:SqT K H a vs) (z:vs.length≤sizeLine) (r:Reps K p.c H xs vs):ItOk K p H (xs,[]) (Itt K a):=by
 refine ⟨by rw [r.length]; exact z,fun q H1 S1 st _ _=>⟨fun i v e=>?_,?_⟩⟩
 ·have l1:=st.tup l
  obtain ⟨x,e1,r1⟩:=(st.reps r).get e
  refine ⟨⟨vs,x,l1,e1⟩,fun y H2 hy=>?_⟩
  obtain ⟨rfl,hy⟩:=hy
  have:=(hy vs l1).symm.trans e1
  cases this
  exact ⟨Same.refl _,r1⟩
 ·exact ⟨vs,st.tup l,by rw [r.length]; exact Nat.le_refl _⟩
theorem anW {p:Ph} {H:Hp} {xs:List PV} {a:Addr} {k:Nat} {n:xs.length≤sizeLine} (hf:p.f[k]?=some a):ItOk K p H (xs,[(k,xs)]) (Itl K a):=by
 refine ⟨n,fun q H1 S1 st sm g=>?_⟩
 have e0:S1[k]?=some (.lst xs):=g (k,xs) List.mem_cons_self
 obtain ⟨vs,h1,l1,r1⟩:=sm.obj k a _ (st.at_ hf) e0
 refine ⟨fun i v e=>?_,?_⟩
 ·obtain ⟨x,e1,r2⟩:=r1.get e
  refine ⟨⟨vs,x,SqL.of h1,e1⟩,fun y H2 hy=>?_⟩
  obtain ⟨rfl,hy⟩:=hy
  have:=(hy vs (SqL.of h1)).symm.trans e1
  cases this
  exact ⟨Same.refl _,r2⟩
 ·exact ⟨vs,SqL.of h1,by rw [r1.length]; exact Nat.le_refl _⟩
theorem abm (h:PEp K cl E X e m):PIp K cl E X tg e (mIt m):=by
 intro hK
 subst hK
 refine PI.imp (alY (h rfl)) fun σ H R ⟨p,S,ρ,s,ev,h⟩=>?_
 refine aaH s ev h fun q H' v x S' stp sm ev r k=>?_
 cases v with
 | ref j =>
  obtain ⟨a,e,rfl⟩:=r
  unfold aa6 at k
  dsimp only at k
  cases z:S'[j]? with
  | none=>rw [z] at k; exact k.elim
  | some o =>
   cases o with
   | lst xs =>
    rw [z] at k
    obtain ⟨vs,h1,l1,r1⟩:=sm.obj j a _ e z
    exact ⟨a,rfl,.inl ⟨⟨vs,SqL.of h1⟩,aa8.ret (R:=ItOk X.K) k sm (anW (n:=by rw [r1.length]; exact l1) e)⟩⟩
   | lol xss=>rw [z] at k; exact k.elim
 | pv v =>
  cases v with
  | lst xs =>
   have r:Rep X.K q.c H' (.lst xs) x:=r
   unfold Rep at r
   obtain ⟨a,vs,rfl,l,z,r⟩:=r
   exact ⟨a,rfl,.inl ⟨⟨vs,l.sq⟩,aa8.ret (R:=ItOk X.K) k sm (aoK l z r)⟩⟩
  | tup xs =>
   have r:Rep X.K q.c H' (.tup xs) x:=r
   unfold Rep at r
   obtain ⟨a,vs,rfl,l,z,r⟩:=r
   exact ⟨a,rfl,.inr ⟨⟨vs,l⟩,aa8.ret (R:=ItOk X.K) k sm (aot l z r)⟩⟩
  | _=>exact k.elim
def abi (lo:Int) (n:Nat):List PV:=(List.range n).map fun i=>.int (lo+(i:Nat))
noncomputable def rng1:List AV→Sto→Res (List PV × Gd)
 | [.pv (.int j)],S1=>@ite _ (j≤16777216∧-16777216≤j) (Classical.propDecidable _) (.ok (abi 0 j.toNat,[]) S1) .fail
 | _,_=>.fail
noncomputable def aaE (ms:MA):MI:=fun ρ S=>(ms ρ S).bind rng1
noncomputable def rng2:List AV→Sto→Res (List PV × Gd)
 | [.pv (.int i),.pv (.int j)],S1=>@ite _ ((-4611686018427387904≤i∧i < 4611686018427387904∧-4611686018427387904≤j∧j < 4611686018427387904)∧j - i≤16777216) (Classical.propDecidable _) (.ok (abi i (j - i).toNat,[]) S1) .fail
 | _,_=>.fail
noncomputable def adL (ms:MA):MI:=fun ρ S=>(ms ρ S).bind rng2
theorem al2 {p:Ph} {H:Hp} {lo:Int} {n:Nat} (h:n≤sizeLine):ItOk K p H (abi lo n,[]) (Itr lo n):=by
 have hl:(abi lo n).length=n:=by unfold abi; rw [List.length_map,List.length_range]
 refine ⟨by show (abi lo n).length≤_; rw [hl]; exact h,fun q H1 S1 st _ _=>⟨fun i v e=>?_,?_⟩⟩
 ·have hi:i < n:=by
   have:=(List.getElem?_eq_some_iff.mp (show (abi lo n)[i]?=some v from e)).1
   omega
  refine ⟨hi,fun x H2 hy=>?_⟩
  obtain ⟨rfl,rfl⟩:=hy
  have e:(abi lo n)[i]?=some v:=e
  unfold abi at e
  rw [List.getElem?_map,List.getElem?_range hi] at e
  cases e
  refine ⟨Same.refl _,?_⟩
  unfold Rep
  rfl
 ·show n≤(abi lo n).length
  rw [hl]
  exact Nat.le_refl n
theorem aaZ {p:Pos} (hg:Gl X "range") (hm:X.mg "range"=none) (ha:PAp K cl E X [a] ms) (hs:starEach [a] X.env=[(false,eval a X.env)]:=by rfl):PIp K cl E X tg (.Call (.Name "range" p) [a] [] pos) (aaE ms):=by
 intro hK
 subst hK
 refine PI.imp (akm hg hm (ha rfl) hs) fun σ H R ⟨p,S,ρ,s,ev,h⟩=>?_
 refine aaH s ev h fun q H' vs xs S' stp sm ev r k=>?_
 unfold rng1 at k
 split at k
 ·rename_i j
  cases r with
  | cons r1 r2 =>
   cases r2
   rename_i x
   have e:x=.int j:=by
    have r1:Rep X.K q.c H' (.int j) x:=r1
    unfold Rep at r1
    exact r1
   subst e
   split at k
   ·rename_i hj
    have hz:=aa0
    exact ⟨j,rfl,by omega,by omega,aa8.ret (R:=ItOk X.K) k sm (al2 (by omega))⟩
   ·exact k.elim
 ·exact k.elim
theorem ai5 {p:Pos} (hg:Gl X "range") (hm:X.mg "range"=none) (ha:PAp K cl E X [a,b] ms) (hs:starEach [a,b] X.env=[(false,eval a X.env),(false,eval b X.env)]:=by rfl) (hs2:starEach [b] X.env=[(false,eval b X.env)]:=by rfl):PIp K cl E X tg (.Call (.Name "range" p) [a,b] [] pos) (adL ms):=by
 intro hK
 subst hK
 refine PI.imp (ajZ hg hm (ha rfl) hs hs2) fun σ H R ⟨p,S,ρ,s,ev,h⟩=>?_
 refine aaH s ev h fun q H' vs xs S' stp sm ev r k=>?_
 unfold rng2 at k
 split at k
 ·rename_i i j
  cases r with
  | cons r1 r2 =>
   cases r2 with
   | cons r2 r3 =>
    cases r3
    rename_i x y
    have e:x=.int i:=by
     have r1:Rep X.K q.c H' (.int i) x:=r1
     unfold Rep at r1
     exact r1
    have e2:y=.int j:=by
     have r1:Rep X.K q.c H' (.int j) y:=r2
     unfold Rep at r1
     exact r1
    subst e e2
    split at k
    ·rename_i hj
     have hz:=aa0
     exact ⟨i,j,rfl,by omega,aa8.ret (R:=ItOk X.K) k sm (al2 (by omega))⟩
    ·exact k.elim
 ·exact k.elim
theorem abR {mi:MI} {g:GM} (hp:PassesOwn (model X.prog X.w) X.A X.env X.xe) (hc:X.calm=true) (hi:PIp K cl E X tg e mi) (hg:PGp K X tg g) (hb:PSsp K cl E X sts b1)
  (hs:∀ x,foldedSetIterable e X.env x=pure x:=by intro _; rfl):PSp K cl E X (.For tg e sts [] pos) (sFor mi g b1):=by
 intro hK
 subst hK
 refine PS.imp (alV hp hc (hi rfl) (hg rfl) (hb rfl) hs) fun D σ H ⟨p,S,ρ,s,ev,h⟩=>?_
 refine ach s ev h fun q H' xg J S' stp sm ev it k=>?_
 obtain ⟨xs,G⟩:=xg
 refine ⟨fun i n σ H=>n=xs.length - i∧i≤xs.length∧∃ p S ρ,Sim X.K p S H∧RepE X.K p H ρ σ∧ItOk X.K p H (xs,G) J∧abY X.K cl p H (abQ G g b1 (xs.drop i) ρ S) D E,⟨xs.length,by simp,Nat.zero_le _,q,S',ρ,sm,ev,it,by simpa using k⟩,?_⟩
 rintro i n σ1 H1 ⟨rfl,hi,p1,S1,ρ1,sm1,ev1,it1,k1⟩
 by_cases hlt:i < xs.length
 ·have hx:xs[i]?=some xs[i]:=List.getElem?_eq_getElem hlt
  rw [List.drop_eq_getElem_cons hlt] at k1
  unfold abQ at k1
  split at k1
  ·rename_i gk
   obtain ⟨g1,y1⟩:=(it1.2 p1 H1 S1 sm1.step sm1 gk).1 i _ hx
   cases z:g xs[i] ρ1 with
   | none=>simp only [z] at k1; exact k1.elim
   | some ρ2 =>
    simp only [z] at k1
    refine .inr ⟨g1,fun σ' H'=>i+1≤xs.length∧∃ p S ρ,Sim X.K p S H'∧RepE X.K p H' ρ σ'∧ItOk X.K p H' (xs,G) J∧abY X.K cl p H' (abQ G g b1 (xs.drop (i+1)) ρ S) D E,fun σ' H' hN=>⟨xs.length - (i+1),by omega,rfl,hN⟩,fun x H2 hy=>?_⟩
    obtain ⟨same,rx⟩:=y1 x H2 hy
    have st2:=sm1.same same
    have sm2:=sm1.ofSame same
    refine ⟨p1,S1,ρ1,xs[i],ρ2,sm2,st2.repE ev1,rx,z,fun σ3 ev3=>⟨p1,S1,ρ2,sm2,ev3,?_⟩⟩
    have it2:=it1.step st2
    cases y:b1 ρ2 S1 with
    | nx ρ4 S4 =>
     rw [y] at k1
     exact fun q5 H5 σ5 st5 sm5 ev5=>⟨hlt,q5,S4,ρ4,sm5,ev5,it2.step st5,abY.mono (r:=abQ G g b1 (xs.drop (i+1)) ρ4 S4) k1 (st2.trans st5)⟩
    | ct ρ4 S4 =>
     rw [y] at k1
     exact fun q5 H5 σ5 st5 sm5 ev5=>⟨hlt,q5,S4,ρ4,sm5,ev5,it2.step st5,abY.mono (r:=abQ G g b1 (xs.drop (i+1)) ρ4 S4) k1 (st2.trans st5)⟩
    | bk ρ4 S4=>rw [y] at k1; exact abY.mono (r:=.nx ρ4 S4) k1 st2
    | rt v S4=>rw [y] at k1; exact abY.mono (r:=.rt v S4) k1 st2
    | exc v S4=>rw [y] at k1; exact abY.mono (r:=.exc v S4) k1 st2
    | fail=>rw [y] at k1; exact k1.elim
  ·exact k1.elim
 ·have e:i=xs.length:=by omega
  subst e
  rw [List.drop_length] at k1
  unfold abQ at k1
  split at k1
  ·rename_i gk
   exact .inl ⟨(it1.2 p1 H1 S1 sm1.step sm1 gk).2,abY.nxD k1 sm1 ev1⟩
  ·exact k1.elim
theorem aeX (hp:PassesOwn (model X.prog X.w) X.A X.env X.xe) (hc:PTp K cl E X c mt) (hb:PSsp K cl E X sts b1):PSp K cl E X (.While c sts [] pos) (afa mt b1):=by
 intro hK
 subst hK
 refine PS.imp (alA hp (hc rfl) (hb rfl)) fun D σ H ⟨p,S,ρ,s,ev,h⟩=>?_
 unfold afa at h
 split at h
 ·rename_i hh
  refine ⟨fun n σ H=>∃ p S ρ,Sim X.K p S H∧RepE X.K p H ρ σ∧abY X.K cl p H (aba mt b1 n ρ S) D E,⟨_,p,S,ρ,s,ev,h⟩,?_⟩
  rintro n σ1 H1 ⟨p1,S1,ρ1,sm1,ev1,k1⟩
  cases n with
  | zero=>exact k1.elim
  | succ n =>
   unfold aba at k1
   refine ach sm1 ev1 k1 fun q H2 t t' S2 stp sm2 ev2 r k2=>?_
   cases r
   cases t with
   | true =>
    rw [if_pos rfl] at k2 ⊢
    refine ⟨fun σ' H'=>∃ p S ρ,Sim X.K p S H'∧RepE X.K p H' ρ σ'∧abY X.K cl p H' (aba mt b1 n ρ S) D E,fun σ' H' hN=>⟨n,Nat.lt_succ_self n,hN⟩,q,S2,ρ1,sm2,ev2,?_⟩
    cases y:b1 ρ1 S2 with
    | nx ρ4 S4 =>
     rw [y] at k2
     exact fun q5 H5 σ5 st5 sm5 ev5=>⟨q5,S4,ρ4,sm5,ev5,abY.mono (r:=aba mt b1 n ρ4 S4) k2 st5⟩
    | ct ρ4 S4 =>
     rw [y] at k2
     exact fun q5 H5 σ5 st5 sm5 ev5=>⟨q5,S4,ρ4,sm5,ev5,abY.mono (r:=aba mt b1 n ρ4 S4) k2 st5⟩
    | bk ρ4 S4=>rw [y] at k2; exact k2
    | rt v S4=>rw [y] at k2; exact k2
    | exc v S4=>rw [y] at k2; exact k2
    | fail=>rw [y] at k2; exact k2.elim
   | false =>
    rw [if_neg Bool.false_ne_true] at k2 ⊢
    exact abY.nxD k2 sm2 ev2
 ·exact h.elim
end
end L2.Pp
namespace L2.Pp
open PySem PySem.Spec PyProof.Rows Bn
def aaV (n:Nat) (xs:List AV):Rho:=xs.map some++List.replicate (n - xs.length) none
def abC (n:Nat):AV→Sto→Res AV
 | .pv v,S=>.ok (.pv v) (S.take n)
 | .ref k,S=>if k < n then .ok (.ref k) (S.take n) else match S[k]? with
  | some (.lst xs)=>.ok (.ref n) (S.take n++[.lst xs])
  | _=>.fail
def frz (n:Nat):Res AV→Res AV
 | .ok (.ref k) S=>if k < n then .ok (.ref k) S else match S[k]? with
  | some (.lst xs)=>.ok (.pv (.lst xs)) (S.take n)
  | _=>.fail
 | r=>r
def aaR (n:Nat):SRes→Res AV
 | .rt v S=>abC n v S
 | .nx _ S=>.ok (.pv .non) (S.take n)
 | .exc e S=>.exc e (S.take n)
 | _=>.fail
def fnM (np n:Nat) (b:MS) (xs:List AV) (S:Sto):Res AV:=if xs.length=np then aaR S.length (b (aaV n xs) S) else .fail
def aau {α:Type}:Res α→Res α
 | .ok a S=>.ok a S
 | _=>.fail
abbrev FM:=List AV→Sto→Res AV
def abj (f:FM) (ds:List PV) (ms:MA):ME:=fun ρ S=>(ms ρ S).bind fun xs S1=>frz S1.length (f (xs++ds.map .pv) S1)
def aah (f:FM) (ds:List PV) (ms:MA):ME:=fun ρ S=>(ms ρ S).bind fun xs S1=>frz S1.length (aau (f (xs++ds.map .pv) S1))
def aa4 (f:FM) (ds:List PV) (ms:MA):ME:=fun ρ S=>(ms ρ S).bind fun xs S1=>aau (f (xs++ds.map .pv) S1)
def spP (K:PySem.W.Frag) (cl:Str→Addr) (f:FM):Sp:=fun vs H Q E=>∃ p S xs,Sim K p S H∧ac6 K p H xs vs∧aa8 K cl (RepA K) p H (f xs S) Q E
def spP0 (K:PySem.W.Frag) (cl:Str→Addr) (f:FM):Sp:=fun vs H Q _=>spP K cl f vs H Q E0
section
variable {K:PySem.W.Frag} {cl:Str→Addr} {p q:Ph} {H H':Hp} {S S':Sto}
theorem afy {c c':Addr→Prop} (h:∀ a,c a→c' a) {a:Addr} {vs:List V} (l:LAt K c' H a vs):LAt K c H a vs:=by
 rcases l with ⟨l,n⟩ | l | l
 ·exact .inl ⟨l,fun z=>n (h a z)⟩
 ·exact .inr (.inl l)
 ·exact .inr (.inr l)
theorem act {c c':Addr→Prop} (h:∀ a,c a→c' a) {ps:List PV} {vs:List V} (r:Reps K c' H ps vs):Reps K c H ps vs:=Reps.mono (fun _ _ t=>t) (fun _ _ l=>afy h l) ps vs r
theorem aiS {c c':Addr→Prop} (h:∀ a,c a→c' a) {v:PV} {x:V} (r:Rep K c' H v x):Rep K c H v x:=Rep.mono (fun _ _ t=>t) (fun _ _ l=>afy h l) v x r
theorem ahr {f g:List Addr} (h:f <+: g):g.take f.length=f:=by
 obtain ⟨t,e⟩:=h
 rw [← e,List.take_left]
theorem adk {α:Type}:∀ {l:List α} {i j:Nat} {a:α},l.Nodup→l[i]?=some a→l[j]?=some a→i=j
 | [],i,j,a,_,e,_=>by simp at e
 | b :: l,0,0,a,_,_,_=>rfl
 | b :: l,0,j+1,a,n,e,f=>by
  simp at e f
  subst e
  exact absurd (List.mem_of_getElem? f) (List.nodup_cons.mp n).1
 | b :: l,i+1,0,a,n,e,f=>by
  simp at e f
  subst f
  exact absurd (List.mem_of_getElem? e) (List.nodup_cons.mp n).1
 | b :: l,i+1,j+1,a,n,e,f=>by
  exact congrArg (·+1) (adk (l:=l) (a:=a) (List.nodup_cons.mp n).2 (by simpa using e) (by simpa using f))
theorem Sim.cutX (D:Addr→Prop) (s:Sim K p S H) (st:Step p H q H') (s':Sim K q S' H') (hD:∀ b,D b→H b=none) (hq:(∀ b,D b→b∈q.f)∨∀ k xss,S'[k]?=some (.lol xss)→¬ k < S.length) :
  let r:Ph:=⟨p.f,fun b=>q.w b∧¬ D b,fun b=>q.c b∧¬ D b⟩
  Step p H r H'∧Sim K r (S'.take S.length) H':=by
 intro r
 have nD:∀ a,p.c a→¬ D a:=fun a c d=>by
  obtain ⟨o,ho,_⟩:=s.mu a c
  rw [hD a d] at ho
  cases ho
 have le:S.length≤S'.length:=by
  have:=st.pre.length_le
  rw [← s.len,← s'.len]
  exact this
 refine ⟨⟨s.wc,s.mu,List.prefix_rfl,fun a h=>⟨st.mw a h,nD a (s.wc a h)⟩,fun a h=>⟨st.mono a h,nD a h⟩,fun _ h g=>absurd h g,fun a h=>st.nw a h.1,fun a h=>st.nc a h.1,st.keep⟩,s.nd,by rw [s.len,List.length_take]; omega,fun a h=>⟨st.mw a (s.sub a h),nD a (s.wc a (s.sub a h))⟩,fun a h=>⟨s'.wc a h.1,h.2⟩,fun a h=>s'.mu a h.1,fun k a o e1 e2=>?_⟩
 have hk:k < S.length:=by
  have:=(List.getElem?_eq_some_iff.mp e1).1
  rw [← s.len]
  exact this
 have e2':S'[k]?=some o:=by
  rw [List.getElem?_take,if_pos hk] at e2
  exact e2
 have z:=s'.obj k a o (st.at_ e1) e2'
 have shr:∀ xs vs,Reps K q.c H' xs vs→Reps K r.c H' xs vs:=fun xs vs=>act (fun b h=>h.1)
 have sub:∀ b,b ∉ q.f→b ∉ p.f:=fun b n h=>n (st.pre.subset h)
 rcases hq with hq | hq
 ·exact z.mono (fun _ e=>e) (fun b w f=>⟨⟨⟨w,fun d=>f (hq b d)⟩,sub b f⟩,fun _ e=>e⟩) shr
 ·cases o with
  | lst xs =>
   obtain ⟨vs,e,l,g⟩:=z
   exact ⟨vs,e,l,shr xs vs g⟩
  | lol xss=>exact absurd hk (hq k xss e2')
theorem Sim.cut (s:Sim K p S H) (st:Step p H q H') (s':Sim K q S' H'):Step p H ⟨p.f,fun b=>q.w b∧¬ False,fun b=>q.c b∧¬ False⟩ H'∧Sim K ⟨p.f,fun b=>q.w b∧¬ False,fun b=>q.c b∧¬ False⟩ (S'.take S.length) H' :=
 s.cutX (fun _=>False) st s' (fun _ h=>h.elim) (.inl fun _ h=>h.elim)
theorem afk (s:Sim K p S H) (st:Step p H q H') (sm:Sim K q S' H') {k:Nat} {a:Addr} (e:q.f[k]?=some a) (hk:¬ k < S.length):a ∉ p.f∧H a=none∧¬ p.c a:=by
 have na:a ∉ p.f:=fun hm=>by
  obtain ⟨j,hj,ej⟩:=List.getElem_of_mem hm
  have e2:q.f[j]?=some a:=st.at_ (by rw [List.getElem?_eq_getElem hj,ej])
  have hjk:j=k:=adk sm.nd e2 e
  rw [s.len] at hj
  omega
 have hn:=st.nf a (List.mem_of_getElem? e) na
 refine ⟨na,hn,fun c=>?_⟩
 obtain ⟨o,ho,_⟩:=s.mu a c
 rw [hn] at ho
 cases ho
theorem af1 {r:Res AV} {Q:VK} {E:XK} (s:Sim K p S H) (h:aa8 K cl (RepA K) p H (frz S.length r) Q E):aa8 K cl (RepA K) p H r Q E:=by
 cases r with
 | exc n S1=>exact h
 | fail=>exact h
 | ok v S1 =>
  cases v with
  | pv v=>exact h
  | ref k =>
   have h:aa8 K cl (RepA K) p H (if k < S.length then .ok (.ref k) S1 else match S1[k]? with
    | some (.lst xs)=>.ok (.pv (.lst xs)) (S1.take S.length)
    | _=>.fail) Q E:=h
   split at h
   ·exact h
   ·rename_i hk
    cases z:S1[k]? with
    | none=>rw [z] at h; exact h.elim
    | some o =>
     cases o with
     | lol xss=>rw [z] at h; exact h.elim
     | lst xs =>
      rw [z] at h
      intro q H' x st sm r
      obtain ⟨a,e,rfl⟩:=r
      obtain ⟨na,hn,nc⟩:=afk s st sm e hk
      obtain ⟨st1,sm1⟩:=s.cutX (fun b=>b=a) st sm (fun b d=>d ▸ hn) (.inl fun b d=>d ▸ List.mem_of_getElem? e)
      obtain ⟨vs,h1,l,r⟩:=sm.obj k a _ e z
      refine h _ H' (.ref a) st1 sm1 ?_
      show Rep K (fun b=>q.c b∧¬ b=a) H' (.lst xs) (.ref a)
      unfold Rep
      exact ⟨a,vs,rfl,.inl ⟨h1,fun d=>d.2 rfl⟩,l,act (fun b h=>h.1) r⟩
theorem aem {r:SRes} {Q:VK} {E:XK} (s:Sim K p S H) (h:aa8 K cl (RepA K) p H (aaR S.length r) Q E):abY K cl p H r { nx:=fun _ H'=>Q .non H',rt:=Q } E:=by
 cases r with
 | nx ρ S1 =>
  intro q H' σ st sm ev
  obtain ⟨st1,sm1⟩:=s.cut st sm
  exact h _ H' .non st1 sm1 (by show Rep K (fun b=>q.c b∧¬ False) H' .non .non; unfold Rep; rfl)
 | exc n S1 =>
  intro q H' st sm
  obtain ⟨st1,sm1⟩:=s.cut st sm
  exact h _ H' st1 sm1
 | rt v S1 =>
  intro q H' x st sm r
  obtain ⟨st1,sm1⟩:=s.cut st sm
  cases v with
  | pv v=>exact h _ H' x st1 sm1 (show Rep K (fun b=>q.c b∧¬ False) H' v x from aiS (fun b h=>h.1) r)
  | ref k =>
   obtain ⟨a,e,rfl⟩:=r
   have h:aa8 K cl (RepA K) p H (if k < S.length then .ok (.ref k) (S1.take S.length) else match S1[k]? with
    | some (.lst xs)=>.ok (.ref S.length) (S1.take S.length++[.lst xs])
    | _=>.fail) Q E:=h
   split at h
   ·rename_i hk
    refine h _ H' (.ref a) st1 sm1 ⟨a,?_,rfl⟩
    show p.f[k]?=some a
    have hf:=ahr st.pre
    rw [← hf,List.getElem?_take,if_pos (by rw [s.len]; exact hk)]
    exact e
   ·rename_i hk
    cases z:S1[k]? with
    | none=>rw [z] at h; exact h.elim
    | some o =>
     cases o with
     | lol xss=>rw [z] at h; exact h.elim
     | lst xs =>
      rw [z] at h
      obtain ⟨vs,h1,l,r⟩:=sm.obj k a _ e z
      obtain ⟨na,hn,nc⟩:=afk s st sm e hk
      have l1:(S1.take S.length).length=S.length:=by rw [← sm1.len,← s.len]
      have ma:a∈q.f:=List.mem_of_getElem? e
      refine h ⟨p.f++[a],q.w,q.c⟩ H' (.ref a) ⟨s.wc,s.mu,⟨[a],rfl⟩,st.mw,st.mono,fun b hb n=>?_,st.nw,st.nc,st.keep⟩ ⟨?_,?_,fun b hb=>?_,sm.wc,sm.mu,fun j b o e1 e2=>?_⟩ ⟨a,?_,rfl⟩
      ·rcases List.mem_append.mp hb with z | z
       ·exact absurd z n
       ·have:b=a:=by simpa using z
        rw [this]
        exact hn
      ·show (p.f++[a]).Nodup
       rw [List.nodup_append]
       refine ⟨s.nd,by simp,fun b hb c hc z=>?_⟩
       have:c=a:=by simpa using hc
       exact na (this ▸ z ▸ hb)
      ·show (p.f++[a]).length=_
       rw [List.length_append,List.length_append,l1,s.len]
       rfl
      ·rcases List.mem_append.mp hb with z | z
       ·exact st.mw b (s.sub b z)
       ·have:b=a:=by simpa using z
        rw [this]
        exact sm.sub a ma
      ·by_cases hj:j < S.length
       ·have e1':p.f[j]?=some b:=by
         have e1:(p.f++[a])[j]?=some b:=e1
         rwa [List.getElem?_append_left (by rw [s.len]; exact hj)] at e1
        rw [List.getElem?_append_left (by rw [l1]; exact hj),List.getElem?_take,if_pos hj] at e2
        refine (sm.obj j b o (st.at_ e1') e2).mono (fun _ e=>e) (fun c w f=>⟨⟨w,fun m=>?_⟩,fun _ e=>e⟩) fun _ _ r=>r
        rcases List.mem_append.mp m with z | z
        ·exact f (st.pre.subset z)
        ·have:c=a:=by simpa using z
         exact f (this ▸ ma)
       ·have hj':j=S.length:=by
         have:=(List.getElem?_eq_some_iff.mp e2).1
         rw [List.length_append,l1] at this
         simp at this
         omega
        subst hj'
        rw [List.getElem?_append_right (by rw [l1]; exact Nat.le_refl _),l1,Nat.sub_self] at e2
        have e1:(p.f++[a])[S.length]?=some b:=e1
        rw [← s.len,List.getElem?_append_right (Nat.le_refl _),Nat.sub_self] at e1
        cases e1
        cases e2
        exact ⟨vs,h1,l,r⟩
      ·show (p.f++[a])[S.length]?=some a
       rw [← s.len,List.getElem?_append_right (Nat.le_refl _),Nat.sub_self]
       rfl
 | bk ρ S1=>exact h.elim
 | ct ρ S1=>exact h.elim
 | fail=>exact h.elim
theorem adx {N:List Str} {xs:List AV} {vs:List V} (r:ac6 K p H xs vs):RepE K p H (aaV N.length xs) (L2.start N vs):=by
 have go:∀ {xs:List AV} {vs:List V},ac6 K p H xs vs→xs.length=vs.length:=fun {xs vs} r=>by
  induction r with
  | nil=>rfl
  | cons _ _ ih=>rw [List.length_cons,List.length_cons,ih]
 have get:∀ {xs:List AV} {vs:List V},ac6 K p H xs vs→∀ (i:Nat) (v:AV),xs[i]?=some v→∃ x,vs[i]?=some x∧RepA K p H v x:=fun {xs vs} r=>by
  induction r with
  | nil=>intro i v e; simp at e
  | cons h _ ih =>
   intro i v e
   cases i with
   | zero =>
    simp at e
    subst e
    exact ⟨_,rfl,h⟩
   | succ i=>simpa using ih i v (by simpa using e)
 have hl:=go r
 refine ⟨by unfold aaV L2.start; simp [hl],fun i v e=>?_⟩
 unfold aaV at e
 unfold L2.start
 by_cases hi:i < xs.length
 ·rw [List.getElem?_append_left (by simpa using hi),List.getElem?_map] at e
  cases z:xs[i]? with
  | none=>rw [z] at e; cases e
  | some u =>
   rw [z] at e
   cases e
   obtain ⟨x,e1,e2⟩:=get r i v z
   refine ⟨x,?_,e2⟩
   rw [List.getElem?_append_left (by rw [List.length_map,← hl]; exact hi),List.getElem?_map,e1]
   rfl
 ·rw [List.getElem?_append_right (by rw [List.length_map]; omega),List.getElem?_replicate] at e
  split at e
  ·cases e
  ·cases e
end
section
variable {P:Program} {w:World} {K:PySem.W.Frag} {mg:Str→Option Value} {base:Heap} {cl:Str→Addr}
theorem agX {K:PySem.W.Frag} {p:Ph} {H:Hp} {xs:List AV} {vs:List V} (h:ac6 K p H xs vs):xs.length=vs.length:=by
 induction h with
 | nil=>rfl
 | cons _ _ ih=>rw [List.length_cons,List.length_cons,ih]
theorem ajG {np n:Nat} {b:MS} {vs:List V} {H:Hp} {Q:VK} {E:XK} (h:spP K cl (fnM np n b) vs H Q E):vs.length=np:=by
 obtain ⟨p,S,xs,sm,ra,h⟩:=h
 unfold fnM at h
 split at h
 ·rename_i e
  rw [← agX ra,e]
 ·exact h.elim
theorem okP {x qual:Str} {st:Stmt} {f:Addr} {fd:FuncData} {N ps:List Str} {k np n:Nat} {b:MS} (F:Fun K x qual st f fd) (S:aaA N ps (aaf st)) (hnp:ps.length=np) (hn:N.length=n)
  (hb:∀ (cdv:Value) (A:Around) (outer:List Env) (s:Shared) (H:Hp) (E:XK),Room k (A.deeper (envOfC qual (aaf st) s.heap.objs.size f cdv))→PSsp K cl E0 (cxOf CX0 P w K mg base N qual (aaf st) f cdv A outer s H E).nox (aaw st) b) :
  FnOk P w K mg base CX0 (k+1) f fd ps (spP0 K cl (fnM np n b)):=by
 subst hnp hn
 refine F.ok S (fun vs H Q E h=>ajG h) fun cdv A outer s H vs Q E hr h=>⟨_,hb cdv A outer s H E hr rfl,?_⟩
 obtain ⟨p,S,xs,sm,ra,h⟩:=h
 unfold fnM at h
 split at h
 ·exact ⟨p,S,_,sm,adx ra,aem sm h⟩
 ·exact h.elim
theorem okX {x qual:Str} {st:Stmt} {f:Addr} {fd:FuncData} {N ps:List Str} {k np n:Nat} {b:MS} (F:Fun K x qual st f fd) (S:aaA N ps (aaf st)) (hnp:ps.length=np) (hn:N.length=n)
  (hb:∀ (cdv:Value) (A:Around) (outer:List Env) (s:Shared) (H:Hp) (E:XK),Room k (A.deeper (envOfC qual (aaf st) s.heap.objs.size f cdv))→PSsp K cl E (cxOf (CX1 P w) P w K mg base N qual (aaf st) f cdv A outer s H E) (aaw st) b) :
  FnOk P w K mg base (CX1 P w) (k+1) f fd ps (spP K cl (fnM np n b)):=by
 subst hnp hn
 refine F.okX S (fun vs H Q E h=>ajG h) fun cdv A outer s H vs Q E hr h=>⟨_,hb cdv A outer s H E hr rfl,?_⟩
 obtain ⟨p,S,xs,sm,ra,h⟩:=h
 unfold fnM at h
 split at h
 ·exact ⟨p,S,_,sm,adx ra,aem sm h⟩
 ·exact h.elim
theorem okXD {x qual:Str} {st:Stmt} {f:Addr} {fd:FuncData} {ds:Array Value} {N ps:List Str} {k np n:Nat} {b:MS} (F:FunD K x qual st f fd ds) (S:aaA N ps (aaf st)) (hnp:ps.length=np) (hn:N.length=n)
  (hb:∀ (cdv:Value) (A:Around) (outer:List Env) (s:Shared) (H:Hp) (E:XK),Room k (A.deeper (envOfC qual (aaf st) s.heap.objs.size f cdv))→PSsp K cl E (cxOf (CX1 P w) P w K mg base N qual (aaf st) f cdv A outer s H E) (aaw st) b) :
  FnOk P w K mg base (CX1 P w) (k+1) f fd ps (spP K cl (fnM np n b)):=by
 subst hnp hn
 refine F.okX S (fun vs H Q E h=>ajG h) fun cdv A outer s H vs Q E hr h=>⟨_,hb cdv A outer s H E hr rfl,?_⟩
 obtain ⟨p,S,xs,sm,ra,h⟩:=h
 unfold fnM at h
 split at h
 ·exact ⟨p,S,_,sm,adx ra,aem sm h⟩
 ·exact h.elim
theorem x0 {f:Addr} {fd:FuncData} {ps:List Str} {k:Nat} {g:FM} (F:FnOk P w K mg base (CX1 P w) k f fd ps (spP K cl g)):FnOk P w K mg base CX0 k f fd ps (spP0 K cl g) :=
 ⟨fun vs H Q E h=>F.len vs H Q E0 h,fun A outer s H args us vs Q E hr e0 hb hv h=>codeAny_mono (F.run A outer s H args us vs Q E0 hr e0 hb hv h) fun r s' hq=>by
  cases r with
  | error e =>
   obtain ⟨_,_,_,_,_,_,_,_,_,_,_,_,z⟩:=hq
   exact z
  | ok fl =>
   cases fl with
   | ret u=>exact hq
   | next=>exact hq
   | brk=>exact hq
   | cont=>exact hq⟩
end
section
variable {K:PySem.W.Frag} {cl:Str→Addr} {E:XK} {X:Cx} {e:Expr} {es:List Expr} {ms:MA} {pos p:Pos} {k n:Nat} {f:Addr} {fd:FuncData} {ps:List Str} {g:FM} {x:Str} {dvs:List V} {ds:List Value} {dv:List PV}
theorem acC {p:Ph} {H:Hp} {xs ys:List AV} {vs ws:List V} (h:ac6 K p H xs vs) (g:ac6 K p H ys ws):ac6 K p H (xs++ys) (vs++ws):=by
 induction h with
 | nil=>exact g
 | cons h _ ih=>exact .cons h ih
def Dv (dv:List PV) (dvs:List V):Prop:=∀ K p H,ac6 K p H (dv.map .pv) dvs
theorem Dv.nil:Dv [] []:=fun _ _ _=>.nil
theorem Dv.int {i:Int} {dv:List PV} {dvs:List V} (h:Dv dv dvs):Dv (.int i :: dv) (.int i :: dvs):=fun K p H=>.cons (by show Rep K p.c H _ _; unfold Rep; rfl) (h K p H)
theorem Dv.bl {i:Bool} {dv:List PV} {dvs:List V} (h:Dv dv dvs):Dv (.bl i :: dv) (.bl i :: dvs):=fun K p H=>.cons (by show Rep K p.c H _ _; unfold Rep; rfl) (h K p H)
theorem agc (F:FnOk X.prog X.w X.K X.mg X.base CX0 k f fd ps (spP0 K cl g)) (hr:Room k X.A) (hg:Gl X x) (hm:X.mg x=some (.ref f)) (hk:PySem.W.keepIn X.K (.ref f)=true) (hb:adC X.K fd ps ds) (hd:Vals dvs ds) (hv:Dv dv dvs)
  (ha:PAp K cl E0 X (e :: es) ms) (hdb:(x == ("__debug__":Str))=false:=by decide) (he:starEach (e :: es) X.env=(false,eval e X.env) :: starEach es X.env:=by rfl) (hpl:(backTo pos (starEach es X.env)).any (·.1)=false:=by rfl) :
  PEp K cl E0 X (.Call (.Name x p) (e :: es) [] pos) (abj g dv ms):=by
 intro hK
 refine PE.imp (afZ F hr hg hm hk hb hd anx (ha hK) hdb he hpl) fun σ H Q ⟨p,S,ρ,s,ev,h⟩=>?_
 exact aaH s ev h fun q H' as xs S' stp sm ev r k=>⟨q,S',_,sm,acC r (hv K q H'),af1 sm k⟩
theorem afR {α β:Type} {R:Ph→Hp→α→β→Prop} {p:Ph} {H:Hp} {r:Res α} {Q:β→Hp→Prop} (h:aa8 K cl R p H (aau r) Q E):aa8 K cl R p H r Q E0:=by
 cases r with
 | ok a S=>exact h
 | exc n S=>exact h.elim
 | fail=>exact h.elim
theorem akX (F:FnOk X.prog X.w X.K X.mg X.base CX0 k f fd ps (spP0 K cl g)) (hr:Room k X.A) (hg:Gl X x) (hm:X.mg x=some (.ref f)) (hk:PySem.W.keepIn X.K (.ref f)=true) (hb:adC X.K fd ps ds) (hd:Vals dvs ds) (hv:Dv dv dvs)
  (ha:PAp K cl E X (e :: es) ms) (hdb:(x == ("__debug__":Str))=false:=by decide) (he:starEach (e :: es) X.env=(false,eval e X.env) :: starEach es X.env:=by rfl) (hpl:(backTo pos (starEach es X.env)).any (·.1)=false:=by rfl) :
  PEp K cl E X (.Call (.Name x p) (e :: es) [] pos) (aah g dv ms):=by
 intro hK
 refine PE.imp (afZ F hr hg hm hk hb hd anx (ha hK) hdb he hpl) fun σ H Q ⟨p,S,ρ,s,ev,h⟩=>?_
 exact aaH s ev h fun q H' as xs S' stp sm ev r k=>⟨q,S',_,sm,acC r (hv K q H'),afR (af1 sm k)⟩
theorem ald (F:FnOk X.prog X.w X.K X.mg X.base CX0 k f fd ps (spP0 K cl g)) (hr:Room k X.A) (hg:Gl X x) (hm:X.mg x=some (.ref f)) (hk:PySem.W.keepIn X.K (.ref f)=true) (hb:adC X.K fd ps ds) (hd:Vals dvs ds) (hv:Dv dv dvs)
  (ha:PAp K cl E X (e :: es) ms) (hdb:(x == ("__debug__":Str))=false:=by decide) (he:starEach (e :: es) X.env=(false,eval e X.env) :: starEach es X.env:=by rfl) (hpl:(backTo pos (starEach es X.env)).any (·.1)=false:=by rfl) :
  PEp K cl E X (.Call (.Name x p) (e :: es) [] pos) (aa4 g dv ms):=by
 intro hK
 refine PE.imp (afZ F hr hg hm hk hb hd anx (ha hK) hdb he hpl) fun σ H Q ⟨p,S,ρ,s,ev,h⟩=>?_
 exact aaH s ev h fun q H' as xs S' stp sm ev r k=>⟨q,S',_,sm,acC r (hv K q H'),afR k⟩
theorem alx {P:Program} {w:World} {mg:Str→Option Value} {base:Heap} {N:List Str} {qual:Str} {scope:Scope} {fo:Addr} {cd:Value} {A:Around} {outer:List Env} {s₀:Shared} {H₀:Hp}
  (F:FnOk P w K mg base (CX1 P w) k f fd ps (spP K cl g)) (hr:Room k (cxOf (CX1 P w) P w K mg base N qual scope fo cd A outer s₀ H₀ E).A) (hg:Gl (cxOf (CX1 P w) P w K mg base N qual scope fo cd A outer s₀ H₀ E) x) (hm:mg x=some (.ref f)) (hk:PySem.W.keepIn K (.ref f)=true) (hb:adC K fd ps ds) (hd:Vals dvs ds) (hv:Dv dv dvs)
  (ha:PAp K cl E (cxOf (CX1 P w) P w K mg base N qual scope fo cd A outer s₀ H₀ E) (e :: es) ms) (hdb:(x == ("__debug__":Str))=false:=by decide)
  (he:starEach (e :: es) (cxOf (CX1 P w) P w K mg base N qual scope fo cd A outer s₀ H₀ E).env=(false,eval e (cxOf (CX1 P w) P w K mg base N qual scope fo cd A outer s₀ H₀ E).env) :: starEach es (cxOf (CX1 P w) P w K mg base N qual scope fo cd A outer s₀ H₀ E).env:=by rfl)
  (hpl:(backTo pos (starEach es (cxOf (CX1 P w) P w K mg base N qual scope fo cd A outer s₀ H₀ E).env)).any (·.1)=false:=by rfl) :
  PEp K cl E (cxOf (CX1 P w) P w K mg base N qual scope fo cd A outer s₀ H₀ E) (.Call (.Name x p) (e :: es) [] pos) (abj g dv ms):=by
 intro hK
 refine PE.imp (afZ F hr hg hm hk hb hd apl (ha hK) hdb he hpl) fun σ H Q ⟨p,S,ρ,s,ev,h⟩=>?_
 exact aaH s ev h fun q H' as xs S' stp sm ev r k=>⟨q,S',_,sm,acC r (hv K q H'),af1 sm k⟩
def aet (n:Str):MS:=fun _ S=>.exc n S
theorem ad1 {P:Program} {w:World} {mg:Str→Option Value} {base:Heap} {N:List Str} {qual:Str} {scope:Scope} {f:Addr} {cd:Value} {A:Around} {outer:List Env} {s₀:Shared} {H₀:Hp}
  {txt:Str} {j:Nat} {np p1 cpos:Pos} (hg:Gl (cxOf (CX1 P w) P w K mg base N qual scope f cd A outer s₀ H₀ E) x) (hm:mg x=some (.ref (cl x))) (hx:PySem.W.excIn K (cl x) ade "ValueError.__new__"=true)
  (hd:(x == ("__debug__":Str))=false:=by decide) :
  PSp K cl E (cxOf (CX1 P w) P w K mg base N qual scope f cd A outer s₀ H₀ E) (.Raise (some (.Call (.Name x np) [.Constant (.str txt) j p1] [] cpos)) none pos) (aet x) :=
 fun _=>PS.imp (ak5 hg hm hx hd) fun D σ H ⟨p,S,ρ,s,ev,h⟩=>h p H s.step s
end
end L2.Pp
namespace L2.Pp
open PySem PySem.Spec PyProof.Rows Bn
def cmpR (own:List Str) (cap:List (Nat × Str)) (ρ:Rho):Rho:=own.map (fun _=>none)++cap.map fun p=>(ρ[p.1]?).join
open Classical in
noncomputable def aa5 (G:Gd) (g:GM) (me:ME):List PV→Rho→Sto→Res (List PV)
 | [],_,S=>if gOk G S then .ok [] S else .fail
 | x :: r,ρ,S=>if gOk G S then (match g x ρ with
  | none=>.fail
  | some ρ1=>match me ρ1 S with
   | .ok (.pv y) S1=>match aa5 G g me r ρ1 S1 with
    | .ok ys S2=>.ok (y :: ys) S2
    | _=>.fail
   | _=>.fail) else .fail
theorem aay {g:GM} {me:ME} {ρ:Rho} {S:Sto}:aa5 [] g me [] ρ S=.ok [] S:=by
 unfold aa5
 rw [if_pos (ado S)]
theorem aav {g:GM} {me:ME} {x:PV} {r:List PV} {ρ:Rho} {S:Sto}:aa5 [] g me (x :: r) ρ S=(match g x ρ with
  | none=>.fail
  | some ρ1=>match me ρ1 S with
   | .ok (.pv y) S1=>match aa5 [] g me r ρ1 S1 with
    | .ok ys S2=>.ok (y :: ys) S2
    | _=>.fail
   | _=>.fail):=by
 rw [aa5,if_pos (ado S)]
noncomputable def aaC (own:List Str) (cap:List (Nat × Str)) (mi:MI) (g:GM) (me:ME):ME:=fun ρ S=>(mi ρ S).bind fun xs S1=>(aa5 xs.2 g me xs.1 (cmpR own cap ρ) S1).bind fun ys S2=>.ok (.pv (.lst ys)) S2
theorem aeS {G:Gd} {g:GM} {me:ME}:∀ (xs:List PV) (ρ:Rho) (S:Sto) (n:Str) (S':Sto),aa5 G g me xs ρ S≠.exc n S'
 | [],_,_,_,_,e=>by
  unfold aa5 at e
  split at e <;> cases e
 | x :: r,ρ,S,n,S',e=>by
  unfold aa5 at e
  split at e
  ·split at e
   ·cases e
   ·split at e
    ·split at e
     ·cases e
     ·cases e
    ·cases e
  ·cases e
theorem ahW {G:Gd} {g:GM} {me:ME} {xs zs:List PV} {ρ:Rho} {S S':Sto} (e:aa5 G g me xs ρ S=.ok zs S'):gOk G S:=by
 cases xs with
 | nil =>
  unfold aa5 at e
  split at e
  ·assumption
  ·cases e
 | cons x r =>
  unfold aa5 at e
  split at e
  ·assumption
  ·cases e
section
variable {K:PySem.W.Frag} {cl:Str→Addr} {E:XK} {X:Cx} {p q:Ph} {H H':Hp} {S:Sto}
theorem ak1 {ρ:Rho} {σ:St} {own:List Str} {cap:List (Nat × Str)} (h:RepE K p H ρ σ):RepE K p H (cmpR own cap ρ) (aes own cap σ):=by
 refine ⟨by unfold cmpR aes; simp,fun i v e=>?_⟩
 unfold cmpR at e
 unfold aes
 by_cases hi:i < own.length
 ·rw [List.getElem?_append_left (by simpa using hi),List.getElem?_map,List.getElem?_eq_getElem hi] at e
  cases e
 ·rw [List.getElem?_append_right (by rw [List.length_map]; omega),List.getElem?_map,List.length_map] at e ⊢
  cases z:cap[i - own.length]? with
  | none=>rw [z] at e; cases e
  | some c =>
   rw [z] at e
   have e:(ρ[c.1]?).join=some v:=Option.some.inj e
   have e':ρ[c.1]?=some (some v):=by
    cases y:ρ[c.1]? with
    | none=>rw [y] at e; cases e
    | some o=>rw [y] at e; exact congrArg some e
   obtain ⟨x,e1,e2⟩:=h.at_ c.1 v e'
   refine ⟨x,?_,e2⟩
   show some ((σ[c.1]?).join)=some (some x)
   rw [e1]
   rfl
def Ph.res (p:Ph) (D:Addr):Ph:=⟨p.f,fun a=>p.w a∨a=D,fun a=>p.c a∨a=D⟩
def Ph.hold (p:Ph) (D:Addr):Ph:=⟨p.f,fun a=>p.w a∧a≠D,p.c⟩
def Ph.less (p:Ph) (D:Addr):Ph:=⟨p.f,fun a=>p.w a∧a≠D,fun a=>p.c a∧a≠D⟩
theorem Sim.notin (s:Sim K p S H) {D:Addr} (h:H D=none):¬ p.c D:=fun c=>by
 obtain ⟨o,e,_⟩:=s.mu D c
 rw [h] at e
 cases e
theorem Sim.res (s:Sim K p S H) {D:Addr} {o:HO} (h:H D=none) (mo:Mb o):Step p H (p.res D) (upd H D o)∧Sim K (p.res D) S (upd H D o):=by
 have st:Step p H (p.res D) (upd H D o):=⟨s.wc,s.mu,List.prefix_rfl,fun a h=>.inl h,fun a h=>.inl h,fun a h g=>absurd h g,fun a x n=>x.elim (fun z=>absurd z n) (fun z=>by rw [z]; exact h),fun a x n=>x.elim (fun z=>absurd z n) (fun z=>by rw [z]; exact h),fun a u e _=>by
  rw [aaG (aaN e h)]
  exact e⟩
 refine ⟨st,s.nd,s.len,fun a h=>.inl (s.sub a h),fun a x=>x.elim (fun z=>.inl (s.wc a z)) .inr,fun a x=>?_,fun k a u e1 e2=>?_⟩
 ·by_cases z:a=D
  ·rw [z,aa1]
   exact ⟨o,rfl,mo⟩
  ·rw [aaG z]
   exact s.mu a (x.elim id fun y=>absurd y z)
 ·exact (s.obj k a u e1 e2).mono (fun vs e=>by rw [aaG (aaN e h)]; exact e) (fun b w f=>⟨⟨.inl w,f⟩,fun vs e=>by rw [aaG (aaN e h)]; exact e⟩) fun _ _ r=>st.reps r
theorem Sim.resHold (s:Sim K p S H) {D:Addr} {o:HO} (h:H D=none) (mo:Mb o):Sim K ((p.res D).hold D) S (upd H D o):=by
 obtain ⟨st,sm⟩:=s.res (o:=o) h mo
 have ne:∀ a,p.w a→a≠D:=fun a w z=>s.notin h (z ▸ s.wc a w)
 refine ⟨sm.nd,sm.len,fun a m=>⟨sm.sub a m,ne a (s.sub a m)⟩,fun a x=>sm.wc a x.1,sm.mu,fun k a u e1 e2=>?_⟩
 exact (s.obj k a u e1 e2).mono (fun vs e=>by rw [aaG (aaN e h)]; exact e) (fun b w f=>⟨⟨⟨.inl w,ne b w⟩,f⟩,fun vs e=>by rw [aaG (aaN e h)]; exact e⟩) fun _ _ r=>st.reps r
theorem Step.unhold {D:Addr} (h:p.w D) (st:Step (p.hold D) H q H') (s:Sim K p S H):Step p H ⟨q.f,fun a=>q.w a∨a=D,q.c⟩ H' :=
 ⟨s.wc,s.mu,st.pre,fun a x=>by
  by_cases z:a=D
  ·exact .inr z
  ·exact .inl (st.mw a ⟨x,z⟩),st.mono,st.nf,fun a x n=>by
  rcases x with x | x
  ·exact st.nw a x fun z=>n z.1
  ·exact absurd (x ▸ h) n,st.nc,fun a o e n=>st.keep a o e fun z=>n z.1⟩
theorem Sim.grow {D:Addr} {ys:List V} {o:HO} (s:Sim K p S H) (sh:Sim K (p.hold D) S H) (w:p.w D) (n:D ∉ p.f) (mo:Mb o):Step p H p (upd H D o)∧Sim K p S (upd H D o)∧Sim K (p.hold D) S (upd H D o):=by
 have st:Step p H p (upd H D o):=⟨s.wc,s.mu,List.prefix_rfl,fun _ h=>h,fun _ h=>h,fun _ h g=>absurd h g,fun _ h g=>absurd h g,fun _ h g=>absurd h g,fun a u e nw=>by
  rw [aaG (fun z:a=D=>nw (by rw [z]; exact w))]
  exact e⟩
 have hm:∀ a,p.c a→∃ u,upd H D o a=some u∧Mb u:=fun a x=>by
  by_cases z:a=D
  ·rw [z,aa1]
   exact ⟨o,rfl,mo⟩
  ·rw [aaG z]
   exact s.mu a x
 refine ⟨st,⟨s.nd,s.len,s.sub,s.wc,hm,fun k a u e1 e2=>?_⟩,⟨sh.nd,sh.len,sh.sub,sh.wc,hm,fun k a u e1 e2=>?_⟩⟩
 ·have ne:a≠D:=fun z=>n (z ▸ List.mem_of_getElem? e1)
  exact (sh.obj k a u e1 e2).mono (fun vs e=>by rw [aaG ne]; exact e) (fun b w f=>⟨⟨w.1,f⟩,fun vs e=>by rw [aaG w.2]; exact e⟩) fun _ _ r=>st.reps r
 ·have ne:a≠D:=fun z=>n (z ▸ List.mem_of_getElem? e1)
  exact (sh.obj k a u e1 e2).mono (fun vs e=>by rw [aaG ne]; exact e) (fun b w f=>⟨⟨w,f⟩,fun vs e=>by rw [aaG w.2]; exact e⟩) fun _ _ r=>st.reps r
theorem Sim.toLess {D:Addr} (s:Sim K (p.hold D) S H):Sim K (p.less D) S H :=
 ⟨s.nd,s.len,s.sub,fun a h=>⟨s.wc a h,h.2⟩,fun a h=>s.mu a h.1,fun k a o e1 e2 =>
  (s.obj k a o e1 e2).mono (fun _ e=>e) (fun b w f=>⟨⟨w,f⟩,fun _ e=>e⟩) fun _ _ r=>act (fun a h=>h.1) r⟩
theorem Step.toLess {D:Addr} (st:Step p H q H') (h:H D=none):Step p H (q.less D) H':=by
 have nD:∀ a,p.c a→a≠D:=fun a c z=>by
  obtain ⟨o,e,_⟩:=st.mu a c
  rw [z,h] at e
  cases e
 exact ⟨st.wc,st.mu,st.pre,fun a x=>⟨st.mw a x,nD a (st.wc a x)⟩,fun a x=>⟨st.mono a x,nD a x⟩,st.nf,fun a x=>st.nw a x.1,fun a x=>st.nc a x.1,st.keep⟩
variable {sc:Scope} {own:List Str} {cap:List (Nat × Str)} {elt target iter:Expr} {pos:Pos} {mi:MI} {g:GM} {me:ME}
theorem ahd {σ:St} {ρ:Rho} {xs zs:List PV} {G:Gd} {J:It} {Q:VK} {D:Addr} {S2:Sto} (sm:Sim K p S H) (ev:RepE K p H ρ σ) (it:ItOk K p H (xs,G) J) (z:aa5 G g me xs (cmpR own cap ρ) S=.ok zs S2) (hD:H D=none)
  (k:∀ q H' vs,Step p H q H'→Sim K q S2 H'→Sim K (q.hold D) S2 H'→q.w D→D ∉ q.f→H' D=some (.lst vs)→vs.length≤sizeLine→Reps K q.c H' zs vs→Q (.ref D) H') :
  cmpW J (gP K g) (tP K cl E0 (RepA K) me) (aes own cap σ) H D Q:=by
 obtain ⟨st0,sm0⟩:=sm.res (D:=D) (o:=.lst []) hD trivial
 have sh0:=sm.resHold (D:=D) (o:=.lst []) hD trivial
 have nf0:D ∉ p.f:=fun h=>sm.notin hD (sm.wc D (sm.sub D h))
 refine amX xs.length it.1 (fun i σ1 H1 ys=>ys.length=i∧i≤xs.length∧H1 D=some (.lst ys)∧∃ p1 S1 ρ1 us ws,(Sim K p1 S1 H1∧Sim K (p1.hold D) S1 H1)∧Step p H p1 H1∧p1.w D∧D ∉ p1.f∧RepE K p1 H1 ρ1 σ1∧ItOk K p1 H1 (xs,G) J∧gOk G S1∧Reps K p1.c H1 us ys∧zs=us++ws∧aa5 G g me (xs.drop i) ρ1 S1=.ok ws S2) ?_ ?_ ?_ ?_ ?_
 ·refine ⟨rfl,Nat.zero_le _,aa1,p.res D,S,cmpR own cap ρ,[],zs,⟨sm0,sh0⟩,st0,.inr rfl,nf0,ak1 (st0.repE ev),it.step st0,?_,.nil,rfl,by simpa using z⟩
  exact ahW z
 ·rintro i σ1 H1 ys ⟨h1,_,h2,_⟩
  exact ⟨h1,h2⟩
 ·rintro i σ1 H1 ys hi ⟨_,_,_,p1,S1,ρ1,us,ws,⟨sm1,sh1⟩,st1,w1,f1,ev1,it1,g1,_⟩
  exact ((it1.2 p1 H1 S1 sm1.step sm1 g1).1 i xs[i] (List.getElem?_eq_getElem hi)).1
 ·rintro i σ1 H1 ys x H2 hi ⟨hl,_,hH,p1,S1,ρ1,us,ws,⟨sm1,sh1⟩,st1,w1,f1,ev1,it1,g1,r1,e1,c1⟩ hy
  obtain ⟨same,rx⟩:=((it1.2 p1 H1 S1 sm1.step sm1 g1).1 i xs[i] (List.getElem?_eq_getElem hi)).2 x H2 hy
  rw [List.drop_eq_getElem_cons hi] at c1
  unfold aa5 at c1
  rw [if_pos g1] at c1
  split at c1
  ·cases c1
  ·rename_i ρ2 gz
   split at c1
   ·rename_i y S3 mz
    split at c1
    ·rename_i vs S4 cz
     cases c1
     have st2:=sm1.same same
     have sm2:=sm1.ofSame same
     have smh:=sh1.ofSame same
     have stS:Step p H p1 H2:=st1.trans st2
     refine ⟨p1,S1,ρ1,xs[i],ρ2,sm2,st2.repE ev1,rx,gz,fun σ3 ev3=>⟨p1.hold D,S1,ρ2,smh,⟨ev3.len,ev3.at_⟩,?_⟩⟩
     rw [mz]
     intro q H4 y' st4 sm4 ry
     have hD2:H2 D=some (.lst ys):=same _ _ hH
     have hD4:H4 D=some (.lst ys):=st4.keep D _ hD2 fun z=>z.2 rfl
     have fq:D ∉ q.f:=fun h=>by
      have:=st4.nf D h f1
      rw [hD2] at this
      cases this
     have stU:=Step.unhold w1 st4 sm2
     have nq:¬ q.w D:=fun z=>by
      have:=st4.nw D z fun y=>y.2 rfl
      rw [hD2] at this
      cases this
     have smU:Sim K ⟨q.f,fun a=>q.w a∨a=D,q.c⟩ S3 H4:=⟨sm4.nd,sm4.len,fun a h=>.inl (sm4.sub a h),fun a h=>h.elim (sm4.wc a) fun z=>z ▸ st4.mono D (sm2.wc D w1),sm4.mu,fun k a o e1 e2 =>
      (sm4.obj k a o e1 e2).mono (fun _ e=>e) (fun b w f=>⟨⟨.inl w,f⟩,fun _ e=>e⟩) fun _ _ r=>r⟩
     have shU:Sim K (Ph.hold ⟨q.f,fun a=>q.w a∨a=D,q.c⟩ D) S3 H4:=⟨sm4.nd,sm4.len,fun a h=>⟨.inl (sm4.sub a h),fun z=>nq (z ▸ sm4.sub a h)⟩,fun a h=>smU.wc a h.1,sm4.mu,fun k a o e1 e2 =>
      (sm4.obj k a o e1 e2).mono (fun _ e=>e) (fun b w f=>⟨⟨⟨.inl w,fun z=>nq (z ▸ w)⟩,f⟩,fun _ e=>e⟩) fun _ _ r=>r⟩
     obtain ⟨stG,smG,shG⟩:=smU.grow (ys:=ys) (D:=D) (o:=.lst (ys++[y'])) shU (.inr rfl) fq trivial
     have stA:=st2.trans (stU.trans stG)
     refine ape hi hD4 ⟨by rw [List.length_append,hl]; rfl,hi,aa1,_,S3,ρ2,us++[y],vs,⟨smG,shG⟩,st1.trans stA,.inr rfl,fq,stG.repE (stU.repE ev3),it1.step stA,ahW cz,?_,by rw [e1,List.append_assoc]; rfl,cz⟩
     exact (stA.reps r1).append (.cons (stG.rep ry) .nil)
    ·cases c1
   ·cases c1
 ·rintro σ1 H1 ys ⟨hl,_,hH,p1,S1,ρ1,us,ws,⟨sm1,sh1⟩,st1,w1,f1,ev1,it1,g1,r1,e1,c1⟩
  rw [List.drop_length] at c1
  unfold aa5 at c1
  rw [if_pos g1] at c1
  cases c1
  refine ⟨(it1.2 p1 H1 _ sm1.step sm1 g1).2,?_⟩
  rw [List.append_nil] at e1
  subst e1
  exact k p1 H1 ys st1 sm1 sh1 w1 f1 hH (by rw [hl]; exact it.1) r1
theorem aeZ {σ:St} {ρ:Rho} {xs:List PV × Gd} {J:It} {Q:VK} {D:Addr} (sm:Sim K p S H) (ev:RepE K p H ρ σ) (it:ItOk K p H xs J) (k:aa8 K cl (RepA K) p H ((aa5 xs.2 g me xs.1 (cmpR own cap ρ) S).bind fun ys S2=>.ok (.pv (.lst ys)) S2) Q E) (hD:H D=none) :
  cmpW J (gP K g) (tP K cl E0 (RepA K) me) (aes own cap σ) H D Q:=by
 cases z:aa5 xs.2 g me xs.1 (cmpR own cap ρ) S with
 | fail=>rw [z] at k; exact k.elim
 | exc n S'=>exact absurd z (aeS _ _ _ _ _)
 | ok zs S2 =>
  rw [z] at k
  have k:∀ q H' x,Step p H q H'→Sim K q S2 H'→Rep K q.c H' (.lst zs) x→Q x H':=k
  refine ahd sm ev it z hD fun q H' vs st1 sm1 sh1 w1 f1 hH l1 r1=>?_
  refine k (q.less D) H' (.ref D) (st1.toLess hD) sh1.toLess ?_
  unfold Rep
  exact ⟨D,vs,rfl,.inl ⟨hH,fun z=>z.2 rfl⟩,l1,act (fun a h=>h.1) r1⟩
theorem abu (k:aeE X sc own cap) (hi:PIp K cl E X target iter mi) (hc:X.calm=true) (hg:∀ C s₀ H₀ ex,PGp K (ac2 X sc (cmpN own cap) C s₀ H₀ ex) target g) (he:∀ C s₀ H₀ ex,PEp K cl E0 (ac2 X sc (cmpN own cap) C s₀ H₀ ex) elt me)
  (hs:∀ x,foldedSetIterable iter X.env x=pure x:=by intro _; rfl):PEp K cl E X (.ListComp elt [⟨target,iter,[],0⟩] sc pos) (aaC own cap mi g me):=by
 intro hK
 refine PE.imp (amu k (hi hK) hc (fun C s₀ H₀ ex=>hg C s₀ H₀ ex hK) (fun C s₀ H₀ ex=>he C s₀ H₀ ex hK) hs) fun σ H Q ⟨p,S,ρ,s,ev,h⟩=>?_
 exact aaH s ev h fun q H' xs J S' stp sm ev it kk D hD=>aeZ sm ev it kk hD
theorem acL {i:Nat} {x:Str} {py spos:Pos} (hN:X.N.Nodup) (hx:X.N[i]?=some x) (hl:Loc X.env.scope x) (k:aeE X sc own cap) (hi:PIp K cl E X target iter mi) (hc:X.calm=true) (hg:∀ C s₀ H₀ ex,PGp K (ac2 X sc (cmpN own cap) C s₀ H₀ ex) target g) (he:∀ C s₀ H₀ ex,PEp K cl E0 (ac2 X sc (cmpN own cap) C s₀ H₀ ex) elt me)
  (hs:∀ x,foldedSetIterable iter X.env x=pure x:=by intro _; rfl) (hsw:swapsWith (.ListComp elt [⟨target,iter,[],0⟩] sc pos) (some (.Name x py)) spos.line X.env=pure true:=by rfl)
  (hf:X.fn x=true∨X.env.scope.names.lookup x=some .local:=by first | exact .inl rfl | exact .inr rfl | assumption) :
  PSp K cl E X (.Assign [.Name x py] (.ListComp elt [⟨target,iter,[],0⟩] sc pos) spos) (sSet i (aaC own cap mi g me)):=by
 intro hK
 refine PS.imp (ajj hN hx hl k (hi hK) hc (fun C s₀ H₀ ex=>hg C s₀ H₀ ex hK) (fun C s₀ H₀ ex=>he C s₀ H₀ ex hK) hs hsw hf) fun D σ H ⟨p,S,ρ,s,ev,h⟩=>?_
 have h2:tP K cl E (RepA K) (aaC own cap mi g me) σ H fun y H1=>D.nx (σ.set i (some y)) H1:=by
  refine ⟨p,S,ρ,s,ev,?_⟩
  unfold sSet at h
  cases z:aaC own cap mi g me ρ S with
  | ok v S1 =>
   rw [z] at h
   exact fun q H' y st sm r=>h q H' _ st sm ((st.repE ev).set r i)
  | exc n S1=>rw [z] at h; exact h
  | fail=>rw [z] at h; exact h
 obtain ⟨p,S,ρ,s,ev,h⟩:=h2
 exact aaH s ev h fun q H' xs J S' stp sm ev it kk B hB=>aeZ sm ev it kk hB
end
end L2.Pp
namespace L2.Pp
open PySem PySem.Spec PyProof.Rows Bn
def adD:List (Option Bool)→Option (List Bool)
 | []=>some []
 | some b :: r=>match adD r with
  | some bs=>some (b :: bs)
  | none=>none
 | none :: _=>none
theorem afT:∀ {l:List (Option Bool)} {bs:List Bool},adD l=some bs→bs.length=l.length
 | [],_,e=>by cases e; rfl
 | some b :: r,bs,e=>by
  unfold adD at e
  split at e
  ·rename_i cs h
   cases e
   rw [List.length_cons,List.length_cons,afT h]
  ·cases e
 | none :: r,_,e=>by cases e
theorem ael:∀ {l:List (Option Bool)} {bs:List Bool} {i:Nat} {o:Option Bool},adD l=some bs→l[i]?=some o→∃ b,o=some b∧bs[i]?=some b
 | [],_,i,o,_,h=>by simp at h
 | some b :: r,bs,i,o,e,h=>by
  unfold adD at e
  split at e
  ·rename_i cs h'
   cases e
   cases i with
   | zero =>
    simp at h
    exact ⟨b,h.symm,rfl⟩
   | succ i=>simpa using ael h' (by simpa using h)
  ·cases e
 | none :: r,_,_,_,e,_=>by cases e
def eqN:Nat→PV→PV→Option Bool
 | _,.non,.non=>some true
 | _,.bl a,.bl b=>some (a == b)
 | _,.int a,.int b=>some (a == b)
 | _,.str a,.str b=>some (a == b)
 | n+1,.tup xs,.tup ys=>match adD (List.zipWith (eqN n) xs ys) with
  | some bs=>some (bs.all id && xs.length == ys.length)
  | none=>none
 | n+1,.lst xs,.lst ys=>if xs.length=ys.length then (match adD (List.zipWith (eqN n) xs ys) with
  | some bs=>some (bs.all id)
  | none=>none) else some false
 | _,_,_=>none
theorem ad7 (bs:List Bool):((List.range bs.length).all fun j=>bs.getD j true)=bs.all id:=by
 rw [Bool.eq_iff_iff,List.all_eq_true,List.all_eq_true]
 constructor
 ·intro h b hb
  obtain ⟨j,hj,e⟩:=List.getElem_of_mem hb
  have:=h j (by simpa using hj)
  simpa [List.getD,hj,e] using this
 ·intro h j hj
  have hj:j < bs.length:=by simpa using hj
  have:=h bs[j] (List.getElem_mem hj)
  simpa [List.getD,hj] using this
section
variable {X:Cx} {pins:List (Addr × Obj)} {σ:St} {H:Hp} {s:Shared} {c:Addr→Prop}
theorem aeI {n:Nat} {xs ys:List PV} {vs ws:List V} {its jts:List Value} {bs:List Bool} {A:Around}
  (ih:∀ (v w:PV) (x y:V) (u u':Value) (b:Bool),Rep X.K c H v x→Rep X.K c H w y→RelV x u→RelV y u'→eqN n v w=some b→SeqAt.EqAt A s u u' b)
  (r1:Reps X.K c H xs vs) (r2:Reps X.K c H ys ws) (q1:Vals vs its) (q2:Vals ws jts) (e:adD (List.zipWith (eqN n) xs ys)=some bs) :
  ∀ j (h1:j < its.toArray.size) (h2:j < jts.toArray.size),SeqAt.EqAt A s its.toArray[j] jts.toArray[j] (bs.getD j true):=fun j h1 h2=>by
 have l1:=r1.length.trans q1.length
 have l2:=r2.length.trans q2.length
 have g1:j < xs.length:=by rw [l1]; simpa using h1
 have g2:j < ys.length:=by rw [l2]; simpa using h2
 obtain ⟨x,ex,rx⟩:=r1.get (List.getElem?_eq_getElem g1)
 obtain ⟨y,ey,ry⟩:=r2.get (List.getElem?_eq_getElem g2)
 obtain ⟨u,eu,ru⟩:=q1.get ex
 obtain ⟨u',eu',ru'⟩:=q2.get ey
 have hz:(List.zipWith (eqN n) xs ys)[j]?=some (eqN n xs[j] ys[j]):=by
  rw [List.getElem?_zipWith,List.getElem?_eq_getElem g1,List.getElem?_eq_getElem g2]
 obtain ⟨b,eb,eb'⟩:=ael e hz
 have e1:its.toArray[j]=u:=by
  rw [List.getElem_toArray]
  rw [List.getElem?_eq_getElem (by simpa using h1)] at eu
  exact Option.some.inj eu
 have e2:jts.toArray[j]=u':=by
  rw [List.getElem_toArray]
  rw [List.getElem?_eq_getElem (by simpa using h2)] at eu'
  exact Option.some.inj eu'
 rw [e1,e2]
 have e3:bs.getD j true=b:=by simp [List.getD,eb']
 rw [e3]
 exact ih _ _ _ _ _ _ _ rx ry ru ru' eb
theorem afb {n:Nat} {xs ys:List PV} {bs:List Bool} (e:adD (List.zipWith (eqN n) xs ys)=some bs):bs.length=min xs.length ys.length:=by
 rw [afT e,List.length_zipWith]
theorem agN (n:Nat) (v w:PV) (x:V) (b:Bool) (nt:∀ xs,v≠.tup xs) (nl:∀ xs,v≠.lst xs) (h:Rep X.K c H v x) (g:Rep X.K c H w x) (e:eqN n v w=some b):b=true:=by
 cases v with
 | tup xs=>exact absurd rfl (nt xs)
 | lst xs=>exact absurd rfl (nl xs)
 | non =>
  cases w <;> first | (unfold eqN at e; simp at e; done) | skip
  unfold eqN at e; cases e; rfl
 | bl i =>
  cases w <;> first | (unfold eqN at e; simp at e; done) | skip
  unfold Rep at h g; subst h; injection g with g'; subst g'; unfold eqN at e; cases e; exact beq_self_eq_true _
 | int i =>
  cases w <;> first | (unfold eqN at e; simp at e; done) | skip
  unfold Rep at h g; subst h; injection g with g'; subst g'; unfold eqN at e; cases e; exact beq_self_eq_true _
 | str i =>
  cases w <;> first | (unfold eqN at e; simp at e; done) | skip
  unfold Rep at h g; subst h; injection g with g'; subst g'; unfold eqN at e; cases e; exact beq_self_eq_true _
theorem aiq (I:Inv X pins σ H s):∀ (n:Nat) (v w:PV) (x:V) (b:Bool),Rep X.K c H v x→Rep X.K c H w x→eqN n v w=some b→b=true:=by
 intro n
 induction n with
 | zero =>
  intro v w x b h g e
  cases v with
  | tup xs=>unfold eqN at e; simp at e
  | lst xs=>unfold eqN at e; simp at e
  | _=>exact agN 0 _ w x b (by intro _ z; cases z) (by intro _ z; cases z) h g e
 | succ n ih =>
  have items:∀ (xs ys:List PV) (vs:List V) (bs:List Bool),Reps X.K c H xs vs→Reps X.K c H ys vs→adD (List.zipWith (eqN n) xs ys)=some bs→bs.all id=true∧xs.length=ys.length:=fun xs ys vs bs r1 r2 e=>by
   have ll:=r1.length.trans r2.length.symm
   refine ⟨?_,ll⟩
   rw [List.all_eq_true]
   intro b hb
   obtain ⟨j,hj,ej⟩:=List.getElem_of_mem hb
   have hj':=hj
   rw [afb e] at hj'
   have g1:j < xs.length:=by omega
   have g2:j < ys.length:=by omega
   obtain ⟨x,ex,rx⟩:=r1.get (List.getElem?_eq_getElem g1)
   obtain ⟨y,ey,ry⟩:=r2.get (List.getElem?_eq_getElem g2)
   have:=ex.symm.trans ey
   cases this
   have hz:(List.zipWith (eqN n) xs ys)[j]?=some (eqN n xs[j] ys[j]):=by
    rw [List.getElem?_zipWith,List.getElem?_eq_getElem g1,List.getElem?_eq_getElem g2]
   obtain ⟨b',eb,eb'⟩:=ael e hz
   rw [List.getElem?_eq_getElem hj,ej] at eb'
   cases eb'
   exact ih _ _ _ _ rx ry eb
  intro v w x b h g e
  cases v with
  | tup xs =>
   cases w with
   | tup ys =>
    unfold Rep at h g
    obtain ⟨a,vs,rfl,t1,_,r1⟩:=h
    obtain ⟨a',ws,e1,t2,_,r2⟩:=g
    cases e1
    have:=I.tuple_inj t1 t2
    subst this
    unfold eqN at e
    split at e
    ·rename_i bs hb
     obtain ⟨z1,z2⟩:=items xs ys vs bs r1 r2 hb
     rw [z1,z2,beq_self_eq_true] at e
     cases e
     rfl
    ·cases e
   | _=>unfold eqN at e; simp at e
  | lst xs =>
   cases w with
   | lst ys =>
    unfold Rep at h g
    obtain ⟨a,vs,rfl,t1,_,r1⟩:=h
    obtain ⟨a',ws,e1,t2,_,r2⟩:=g
    cases e1
    have:=I.list_inj t1.sq t2.sq
    subst this
    unfold eqN at e
    rw [if_pos (r1.length.trans r2.length.symm)] at e
    split at e
    ·rename_i bs hb
     obtain ⟨z1,z2⟩:=items xs ys vs bs r1 r2 hb
     rw [z1] at e
     cases e
     rfl
    ·cases e
   | _=>unfold eqN at e; simp at e
  | _=>exact agN (n+1) _ w x b (by intro _ z; cases z) (by intro _ z; cases z) h g e
theorem alX (I:Inv X pins σ H s):∀ (n:Nat) (v w:PV) (x y:V) (u u':Value) (b:Bool) (A:Around),A.units+n < cLine→Rep X.K c H v x→Rep X.K c H w y→RelV x u→RelV y u'→eqN n v w=some b→SeqAt.RcAt A s u u' b∧SeqAt.EqAt A s u u' b:=by
 have flat:∀ (n:Nat) (v w:PV) (x y:V) (u u':Value) (b:Bool) (A:Around),(∀ xs,v≠.tup xs)→(∀ xs,v≠.lst xs)→Rep X.K c H v x→Rep X.K c H w y→RelV x u→RelV y u'→eqN n v w=some b→SeqAt.RcAt A s u u' b∧SeqAt.EqAt A s u u' b:=by
  intro n v w x y u u' b A nt nl h g r r' e
  cases v with
  | tup xs=>exact absurd rfl (nt xs)
  | lst xs=>exact absurd rfl (nl xs)
  | non =>
   cases w <;> first | (unfold eqN at e; simp at e; done) | skip
   unfold Rep at h g; subst h g; cases r; cases r'; unfold eqN at e; cases e; exact ⟨SeqAt.RcAt.none_none,SeqAt.EqAt.same _⟩
  | bl i =>
   cases w <;> first | (unfold eqN at e; simp at e; done) | skip
   unfold Rep at h g; subst h g; cases r; cases r'; unfold eqN at e; cases e; exact ⟨SeqAt.RcAt.bool_bool _ _,SeqAt.EqAt.bool_bool _ _⟩
  | int i =>
   cases w <;> first | (unfold eqN at e; simp at e; done) | skip
   unfold Rep at h g; subst h g; obtain ⟨t,rfl⟩:=r; obtain ⟨t',rfl⟩:=r'; unfold eqN at e; cases e; exact ⟨SeqAt.RcAt.int_int _ _ _ _,SeqAt.EqAt.int_int _ _ _ _⟩
  | str i =>
   cases w <;> first | (unfold eqN at e; simp at e; done) | skip
   unfold Rep at h g; subst h g; obtain ⟨t,rfl⟩:=r; obtain ⟨t',rfl⟩:=r'; unfold eqN at e; cases e; exact ⟨SeqAt.RcAt.str_str _ _ _ _,SeqAt.EqAt.str_str _ _ _ _⟩
 have main:∀ (n:Nat) (v w:PV) (x y:V) (u u':Value) (b:Bool) (A:Around),A.units+n < cLine→Rep X.K c H v x→Rep X.K c H w y→RelV x u→RelV y u'→eqN n v w=some b→SeqAt.RcAt A s u u' b∧SeqAt.EqAt A s u u' b:=by
  intro n
  induction n with
  | zero =>
   intro v w x y u u' b A hu h g r r' e
   cases v with
   | tup xs=>unfold eqN at e; simp at e
   | lst xs=>unfold eqN at e; simp at e
   | _=>exact flat 0 _ w x y u u' b A (by intro _ z; cases z) (by intro _ z; cases z) h g r r' e
  | succ n ih =>
   intro v w x y u u' b A hu h g r r' e
   have hin:A.in1.units+n < cLine:=by show A.units+1+n < cLine; omega
   cases v with
   | tup xs =>
    cases w with
    | tup ys =>
     have hs:x=y→b=true:=fun z=>aiq I (n+1) _ _ x b h (z ▸ g) e
     unfold Rep at h g
     obtain ⟨a,vs,rfl,t1,_,r1⟩:=h
     obtain ⟨a',ws,rfl,t2,_,r2⟩:=g
     cases r
     cases r'
     obtain ⟨its,q1,p1,_⟩:=I.tuple t1
     obtain ⟨jts,q2,p2,_⟩:=I.tuple t2
     unfold eqN at e
     split at e
     ·rename_i bs hb
      cases e
      have z:=SeqAt.RcAt.tuples (A:=A) (s:=s) (e:=fun j=>bs.getD j true) (show s.heap.IsTuple a its.toArray from p1) (show s.heap.IsTuple a' jts.toArray from p2) (by omega)
       (aeI (A:=A.in1) (fun v w x y u u' b h1 h2 h3 h4 h5=>(ih v w x y u u' b A.in1 hin h1 h2 h3 h4 h5).2) r1 r2 q1 q2 hb)
      have l1:=r1.length.trans q1.length
      have l2:=r2.length.trans q2.length
      rw [List.size_toArray,List.size_toArray,← l1,← l2,← afb hb,ad7] at z
      refine ⟨z,?_⟩
      by_cases ha:a=a'
      ·subst ha
       rw [hs rfl]
       exact SeqAt.EqAt.same _
      ·exact SeqAt.EqAt.of_refs ha z
     ·cases e
    | _=>unfold eqN at e; simp at e
   | lst xs =>
    cases w with
    | lst ys =>
     have hs:x=y→b=true:=fun z=>aiq I (n+1) _ _ x b h (z ▸ g) e
     unfold Rep at h g
     obtain ⟨a,vs,rfl,t1,_,r1⟩:=h
     obtain ⟨a',ws,rfl,t2,_,r2⟩:=g
     cases r
     cases r'
     obtain ⟨its,q1,p1,_⟩:=I.list t1.sq
     obtain ⟨jts,q2,p2,_⟩:=I.list t2.sq
     have l1:=r1.length.trans q1.length
     have l2:=r2.length.trans q2.length
     have fin:SeqAt.RcAt A s (.ref a) (.ref a') b→SeqAt.RcAt A s (.ref a) (.ref a') b∧SeqAt.EqAt A s (.ref a) (.ref a') b:=fun z=>by
      refine ⟨z,?_⟩
      by_cases ha:a=a'
      ·subst ha
       rw [hs rfl]
       exact SeqAt.EqAt.same _
      ·exact SeqAt.EqAt.of_refs ha z
     unfold eqN at e
     split at e
     ·rename_i hl
      split at e
      ·rename_i bs hb
       cases e
       have z:=SeqAt.RcAt.lists (A:=A) (s:=s) (e:=fun j=>bs.getD j true) p1.isList p2.isList (by rw [List.size_toArray,List.size_toArray]; omega) (by omega)
        (aeI (A:=A.in1) (fun v w x y u u' b h1 h2 h3 h4 h5=>(ih v w x y u u' b A.in1 hin h1 h2 h3 h4 h5).2) r1 r2 q1 q2 hb)
       have hm:its.length=bs.length:=by rw [afb hb]; omega
       rw [List.size_toArray,hm,ad7] at z
       exact fin z
      ·cases e
     ·rename_i hl
      cases e
      exact fin (SeqAt.RcAt.lists_lengths p1.isList p2.isList (by rw [List.size_toArray,List.size_toArray]; simp; omega) (by omega))
    | _=>unfold eqN at e; simp at e
   | _=>exact flat (n+1) _ w x y u u' b A (by intro _ z; cases z) (by intro _ z; cases z) h g r r' e
 exact main
end
end L2.Pp
namespace L2.Pp
open PySem PySem.Spec PyProof.Rows Bn
section
variable {X:Cx}
theorem anX {pins:List (Addr × Obj)} {σ:St} {H:Hp} {s:Shared} (I:Inv X pins σ H s) {p:Ph} {v w:PV} {x y:V} {u u':Value} {b:Bool} {A:Around} (hu:A.units+8 < cLine) (h:RepR X.K p H v x) (g:RepR X.K p H w y) (r:RelV x u) (r':RelV y u') (e:eqN 8 v w=some b) :
  SeqAt.RcAt A s u u' b∧SeqAt.RcNeAt A s u u' (!b):=by
 have hin:A.in1.units+7 < cLine:=by show A.units+1+7 < cLine; omega
 cases v with
 | non =>
  cases w <;> first | (unfold eqN at e; simp at e; done) | skip
  have h:=h.non; have g:=g.non; subst h g; cases r; cases r'; unfold eqN at e; cases e; exact ⟨SeqAt.RcAt.none_none,SeqAt.RcNeAt.none_none⟩
 | bl i =>
  cases w <;> first | (unfold eqN at e; simp at e; done) | skip
  have h:=h.bl; have g:=g.bl; subst h g; cases r; cases r'; unfold eqN at e; cases e; exact ⟨SeqAt.RcAt.bool_bool _ _,SeqAt.RcNeAt.bool_bool _ _⟩
 | int i =>
  cases w <;> first | (unfold eqN at e; simp at e; done) | skip
  have h:=h.int; have g:=g.int; subst h g; obtain ⟨t,rfl⟩:=r; obtain ⟨t',rfl⟩:=r'; unfold eqN at e; cases e; exact ⟨SeqAt.RcAt.int_int _ _ _ _,SeqAt.RcNeAt.int_int _ _ _ _⟩
 | str i =>
  cases w <;> first | (unfold eqN at e; simp at e; done) | skip
  have h:=h.str; have g:=g.str; subst h g; obtain ⟨t,rfl⟩:=r; obtain ⟨t',rfl⟩:=r'; unfold eqN at e; cases e; exact ⟨SeqAt.RcAt.str_str _ _ _ _,SeqAt.RcNeAt.str_str _ _ _ _⟩
 | tup xs =>
  cases w with
  | tup ys =>
   obtain ⟨a,vs,rfl,t1,_,r1⟩:=h.tup
   obtain ⟨a',ws,rfl,t2,_,r2⟩:=g.tup
   cases r
   cases r'
   obtain ⟨its,q1,p1,_⟩:=I.tuple t1
   obtain ⟨jts,q2,p2,_⟩:=I.tuple t2
   unfold eqN at e
   split at e
   ·rename_i bs hb
    cases e
    have it:=aeI (s:=s) (A:=A.in1) (fun v w x y u u' b h1 h2 h3 h4 h5=>(alX I 7 v w x y u u' b A.in1 hin h1 h2 h3 h4 h5).2) r1 r2 q1 q2 hb
    have z:=SeqAt.RcAt.tuples (A:=A) (s:=s) (e:=fun j=>bs.getD j true) (show s.heap.IsTuple a its.toArray from p1) (show s.heap.IsTuple a' jts.toArray from p2) (by omega) it
    have z':=SeqAt.RcNeAt.tuples (A:=A) (s:=s) (e:=fun j=>bs.getD j true) (show s.heap.IsTuple a its.toArray from p1) (show s.heap.IsTuple a' jts.toArray from p2) (by omega) it
    have l1:=r1.length.trans q1.length
    have l2:=r2.length.trans q2.length
    rw [List.size_toArray,List.size_toArray,← l1,← l2,← afb hb,ad7] at z z'
    exact ⟨z,z'⟩
   ·cases e
  | _=>unfold eqN at e; simp at e
 | lst xs =>
  cases w with
  | lst ys =>
   obtain ⟨a,vs,rfl,t1,_,r1⟩:=h.lst
   obtain ⟨a',ws,rfl,t2,_,r2⟩:=g.lst
   cases r
   cases r'
   obtain ⟨its,q1,p1,_⟩:=I.list t1
   obtain ⟨jts,q2,p2,_⟩:=I.list t2
   have l1:=r1.length.trans q1.length
   have l2:=r2.length.trans q2.length
   unfold eqN at e
   split at e
   ·rename_i hl
    split at e
    ·rename_i bs hb
     cases e
     have it:=aeI (s:=s) (A:=A.in1) (fun v w x y u u' b h1 h2 h3 h4 h5=>(alX I 7 v w x y u u' b A.in1 hin h1 h2 h3 h4 h5).2) r1 r2 q1 q2 hb
     have z:=SeqAt.RcAt.lists (A:=A) (s:=s) (e:=fun j=>bs.getD j true) p1.isList p2.isList (by rw [List.size_toArray,List.size_toArray]; omega) (by omega) it
     have z':=SeqAt.RcNeAt.lists (A:=A) (s:=s) (e:=fun j=>bs.getD j true) p1.isList p2.isList (by rw [List.size_toArray,List.size_toArray]; omega) (by omega) it
     have hm:its.length=bs.length:=by rw [afb hb]; omega
     rw [List.size_toArray,hm,ad7] at z z'
     exact ⟨z,z'⟩
    ·cases e
   ·rename_i hl
    cases e
    exact ⟨SeqAt.RcAt.lists_lengths p1.isList p2.isList (by rw [List.size_toArray,List.size_toArray]; simp; omega) (by omega),SeqAt.RcNeAt.lists_lengths p1.isList p2.isList (by rw [List.size_toArray,List.size_toArray]; simp; omega) (by omega)⟩
  | _=>unfold eqN at e; simp at e
def rEqP (K:PySem.W.Frag) (neg:Bool):R2:=fun x y H Q=>∃ p v w b,RepR K p H v x∧RepR K p H w y∧eqN 8 v w=some b∧Q (.bl (if neg then !b else b)) H
theorem aby (hu:X.A.units+8 < cLine):OpR X (compareOp .Eq) (rEqP X.K false):=by
 intro pins s σ H x y v u Q I rx ry h
 obtain ⟨p,a,b,k,h1,h2,e,q⟩:=h
 exact (anX I hu h1 h2 rx ry e).1 X.prog X.w X.xe _ ⟨.bl k,H,I,rfl,q⟩
theorem alZ (hu:X.A.units+8 < cLine):OpR X (compareOp .NotEq) (rEqP X.K true):=by
 intro pins s σ H x y v u Q I rx ry h
 obtain ⟨p,a,b,k,h1,h2,e,q⟩:=h
 exact (anX I hu h1 h2 rx ry e).2 X.prog X.w X.xe _ ⟨.bl (!k),H,I,rfl,q⟩
def fEq (a b:PV):Option PV:=(eqN 8 a b).map .bl
def fNe (a b:PV):Option PV:=(eqN 8 a b).map fun k=>.bl (!k)
theorem s_eq {K:PySem.W.Frag}:OpS K (rEqP K false) fEq:=fun {p S H a b c x y Q} s ra rb e k=>by
 unfold fEq at e
 cases z:eqN 8 a b with
 | none=>rw [z] at e; cases e
 | some t =>
  rw [z] at e
  cases e
  exact ⟨p,a,b,t,ra,rb,z,k H _ (Same.refl H) (by unfold Rep; rfl)⟩
theorem s_ne {K:PySem.W.Frag}:OpS K (rEqP K true) fNe:=fun {p S H a b c x y Q} s ra rb e k=>by
 unfold fNe at e
 cases z:eqN 8 a b with
 | none=>rw [z] at e; cases e
 | some t =>
  rw [z] at e
  cases e
  exact ⟨p,a,b,t,ra,rb,z,k H _ (Same.refl H) (by unfold Rep; rfl)⟩
def i2 (f:Int→Int→Option PV):PV→PV→Option PV
 | .int a,.int b=>f a b
 | _,_=>none
open Classical in
noncomputable def cI (C:Int→Int→Prop) (g:Int→Int→PV) (a b:Int):Option PV:=if C a b then some (g a b) else none
def toV:PV→V
 | .int i=>.int i
 | .bl b=>.bl b
 | .str s=>.str s
 | _=>.non
def am5:PV→Bool
 | .int _=>true
 | .bl _=>true
 | .str _=>true
 | .non=>true
 | _=>false
theorem abF {K:PySem.W.Frag} {c:Addr→Prop} {H:Hp} {v:PV} (h:am5 v=true):Rep K c H v (toV v):=by
 cases v with
 | tup _=>cases h
 | lst _=>cases h
 | _=>unfold Rep toV; rfl
theorem s_i2 {K:PySem.W.Frag} {C:Int→Int→Prop} {g:Int→Int→PV} {h:Int→Int→V} (fl:∀ i j,am5 (g i j)=true∧toV (g i j)=h i j):OpS K (rI C h) (i2 (cI C g)):=fun {p S H a b c x y Q} s ra rb e k=>by
 cases a with
 | int i =>
  cases b with
  | int j =>
   unfold i2 cI at e
   dsimp only at e
   split at e
   ·rename_i hc
    cases e
    refine ⟨i,j,ra.int,rb.int,hc,?_⟩
    rw [← (fl i j).2]
    exact k H _ (Same.refl H) (abF (fl i j).1)
   ·cases e
  | _=>cases e
 | _=>cases e
theorem s_i0 {K:PySem.W.Frag} {g:Int→Int→PV} {h:Int→Int→V} (fl:∀ i j,am5 (g i j)=true∧toV (g i j)=h i j):OpS K (rI0 h) (i2 fun i j=>some (g i j)):=fun {p S H a b c x y Q} s ra rb e k=>by
 cases a with
 | int i =>
  cases b with
  | int j =>
   cases e
   refine ⟨i,j,ra.int,rb.int,?_⟩
   rw [← (fl i j).2]
   exact k H _ (Same.refl H) (abF (fl i j).1)
  | _=>cases e
 | _=>cases e
def aiK (i j:Int):Prop:=CMul i j∨(Bd 1000000 i∧Bd 1000000 j)
theorem aiK.ok {i j:Int} (h:aiK i j):IntMulOk i j:=by
 rcases h with h | h
 ·exact h.ok
 have h1:=ago h.1
 have h2:=ago h.2
 unfold IntMulOk Builtin.Int.intTooBig bitsLine
 intro c
 simp only [Bool.and_eq_true,decide_eq_true_eq] at c
 have:=c.2
 omega
theorem aax:OpR X (binaryOp .Mult) (rI aiK fun i j=>.int (i*j)):=opI fun _ _ _ _ _ _ _ hc q=>mul_int q hc.ok
noncomputable def fMul:=i2 (cI aiK fun i j=>.int (i*j))
noncomputable def adg:=i2 (cI aiQ fun i j=>.int (i.fdiv j))
noncomputable def fMod:=i2 (cI (fun _ j=>j≠0) fun i j=>.int (i.fmod j))
noncomputable def fPow:=i2 (cI CPow fun i j=>.int (i ^ j.toNat))
def fSub:=i2 fun i j=>some (.int (i - j))
def fLt:=i2 fun i j=>some (.bl (decide (i < j)))
def fLe:=i2 fun i j=>some (.bl (decide (i≤j)))
def fGt:=i2 fun i j=>some (.bl (decide (j < i)))
def fGe:=i2 fun i j=>some (.bl (decide (j≤i)))
theorem aaY {K:PySem.W.Frag}:OpS K (rI aiK fun i j=>.int (i*j)) fMul:=s_i2 fun _ _=>⟨rfl,rfl⟩
theorem afQ {K:PySem.W.Frag}:OpS K (rI aiQ fun i j=>.int (i.fdiv j)) adg:=s_i2 fun _ _=>⟨rfl,rfl⟩
theorem af2 {K:PySem.W.Frag}:OpS K (rI (fun _ j=>j≠0) fun i j=>.int (i.fmod j)) fMod:=s_i2 fun _ _=>⟨rfl,rfl⟩
theorem ahc {K:PySem.W.Frag}:OpS K (rI CPow fun i j=>.int (i ^ j.toNat)) fPow:=s_i2 fun _ _=>⟨rfl,rfl⟩
theorem acS {K:PySem.W.Frag}:OpS K (rI0 fun i j=>.int (i - j)) fSub:=s_i0 fun _ _=>⟨rfl,rfl⟩
theorem s_lt {K:PySem.W.Frag}:OpS K (rI0 fun i j=>.bl (decide (i < j))) fLt:=s_i0 fun _ _=>⟨rfl,rfl⟩
theorem s_gt {K:PySem.W.Frag}:OpS K (rI0 fun i j=>.bl (decide (j < i))) fGt:=s_i0 fun _ _=>⟨rfl,rfl⟩
theorem s_ge {K:PySem.W.Frag}:OpS K (rI0 fun i j=>.bl (decide (j≤i))) fGe:=s_i0 fun _ _=>⟨rfl,rfl⟩
def fNeg:PV→Option PV
 | .int i=>some (.int (-i))
 | _=>none
theorem abI {K:PySem.W.Frag}:UnS K (rU fun i=>.int (-i)) fNeg:=fun {p S H a c x Q} s ra e k=>by
 cases a with
 | int i =>
  cases e
  exact ⟨i,ra.int,k H _ (Same.refl H) (abF (v:=.int (-i)) rfl)⟩
 | _=>cases e
def aol (K:PySem.W.Frag):R2:=fun x y H Q=>∃ l b xs zs,x=.ref l∧y=.ref b∧SqL K H l xs∧SqL K H b zs∧xs.length+zs.length≤sizeLine∧∀ p,H p=none→Q (.ref p) (upd H p (.lst (xs++zs)))
theorem aml:OpR X (binaryOp .Add) (aol X.K):=by
 intro pins s σ H x y v u Q I rx ry h
 obtain ⟨l,b,xs,zs,rfl,rfl,hx,hy,hz,q⟩:=h
 cases rx
 cases ry
 obtain ⟨its,r1,p1,_⟩:=I.list hx
 obtain ⟨jts,r2,p2,_⟩:=I.list hy
 obtain ⟨⟨cls,dd,data,sl⟩,n,ho,hc,_,hd⟩:=p1
 obtain ⟨⟨cls2,dd2,data2,sl2⟩,n2,ho2,hc2,_,hd2⟩:=p2
 simp only at hc hd hc2 hd2
 subst hc hd hc2 hd2
 have e:its.toArray++jts.toArray=(its++jts).toArray:=by simp
 have l1:=r1.length
 have l2:=r2.length
 refine concat_meets ⟨_,ho,rfl⟩ ⟨_,ho2,rfl⟩ noFill_list_add seq_list_add PySem.F.slot_list_add PySem.F.entry_list_add (PySem.F.args_list_add_2 _ _) (list_addW l b its.toArray jts.toArray n n2 dd dd2 sl sl2 (by rw [List.size_toArray,List.size_toArray]; omega)) ⟨ho,ho2,?_⟩
 rw [e]
 exact ⟨.ref _,_,I.lnew (t':=s.toks) (r1.append r2) (by rw [List.length_append]; omega),rfl,q _ I.fresh⟩
def fAdd:PV→PV→Option PV
 | .int a,.int b=>some (.int (a+b))
 | .lst xs,.lst ys=>if xs.length+ys.length≤16777216 then some (.lst (xs++ys)) else none
 | .tup xs,.tup ys=>if xs.length≠0∧ys.length≠0∧xs.length+ys.length≤16777216 then some (.tup (xs++ys)) else none
 | _,_=>none
def ao5 (K:PySem.W.Frag):R2:=fun x y H Q=>(rI0 fun i j=>.int (i+j)) x y H Q∨aol K x y H Q∨amE K x y H Q
theorem aaJ:OpR X (binaryOp .Add) (ao5 X.K):=OpR.or aoY (OpR.or aml akk)
theorem abn {K:PySem.W.Frag}:OpS K (ao5 K) fAdd:=fun {p S H a b c x y Q} s ra rb e k=>by
 cases a with
 | int i =>
  cases b with
  | int j =>
   cases e
   exact .inl ⟨i,j,ra.int,rb.int,k H _ (Same.refl H) (abF (v:=.int (i+j)) rfl)⟩
  | _=>cases e
 | lst xs =>
  cases b with
  | lst ys =>
   have e:(if xs.length+ys.length≤16777216 then some (PV.lst (xs++ys)) else none)=some c:=e
   split at e
   ·rename_i hl
    cases e
    obtain ⟨a1,vs,rfl,l1,z1,r1⟩:=ra.lst
    obtain ⟨a2,ws,rfl,l2,z2,r2⟩:=rb.lst
    have hz:vs.length+ws.length≤sizeLine:=by rw [← r1.length,← r2.length,aa0]; exact hl
    exact .inr (.inl ⟨a1,a2,vs,ws,rfl,rfl,l1,l2,hz,fun t ht=>k _ _ (abp ht) (aer s (r1.append r2) (by rw [List.length_append]; exact hz) ht)⟩)
   ·cases e
  | _=>cases e
 | tup xs =>
  cases b with
  | tup ys =>
   have e:(if xs.length≠0∧ys.length≠0∧xs.length+ys.length≤16777216 then some (PV.tup (xs++ys)) else none)=some c:=e
   split at e
   ·rename_i hl
    cases e
    obtain ⟨a1,vs,rfl,l1,z1,r1⟩:=ra.tup
    obtain ⟨a2,ws,rfl,l2,z2,r2⟩:=rb.tup
    have hz:vs.length+ws.length≤sizeLine:=by rw [← r1.length,← r2.length,aa0]; exact hl.2.2
    refine .inr (.inr ⟨a1,a2,vs,ws,rfl,rfl,l1,l2,fun q=>hl.1 (by rw [r1.length,q]; rfl),hz,fun q=>absurd (show ys.length=0 by rw [r2.length,q]; rfl) hl.2.1,fun _ t ht=>k _ _ (abp ht) (adV s (r1.append r2) (by rw [List.length_append]; exact hz) ht)⟩)
   ·cases e
  | _=>cases e
 | _=>cases e
end
section
variable {K:PySem.W.Frag} {cl:Str→Addr} {E:XK} {X:Cx} {a b e:Expr} {es:List Expr} {ma mb m:ME} {ms:MA} {pos p2:Pos}
def fIx:PV→PV→Option PV
 | .lst xs,.int i=>atI xs i
 | .tup xs,.int i=>atI xs i
 | _,_=>none
theorem akc {c:Addr→Prop} {H:Hp} {xs:List PV} {vs:List V} {i:Int} {v:PV} (r:Reps K c H xs vs) (e:atI xs i=some v):∃ x,atI vs i=some x∧Rep K c H v x:=by
 unfold atI at e ⊢
 rw [← r.length]
 cases z:ixN xs.length i with
 | none=>rw [z] at e; cases e
 | some j =>
  rw [z] at e
  exact r.get e
theorem s_ix:OpS K (rIx K) fIx:=fun {p S H a b c x y Q} s ra rb e k=>by
 cases b with
 | int i =>
  cases a with
  | lst xs =>
   obtain ⟨a1,vs,rfl,l1,z1,r1⟩:=ra.lst
   obtain ⟨x,e1,r2⟩:=akc r1 e
   exact .inl ⟨a1,vs,i,x,rfl,rb.int,l1,e1,k H x (Same.refl H) r2⟩
  | tup xs =>
   obtain ⟨a1,vs,rfl,l1,z1,r1⟩:=ra.tup
   obtain ⟨x,e1,r2⟩:=akc r1 e
   exact .inr (.inl ⟨a1,vs,i,x,rfl,rb.int,l1,e1,k H x (Same.refl H) r2⟩)
  | _=>cases e
 | _=>cases a <;> cases e
theorem aaD (ha:PEp K cl E X a ma) (hb:PEp K cl E X b mb) (hs:ahH b:=by intro _ _; rfl):PEp K cl E X (.Subscript a b pos) (mBin fIx ma mb):=by
 intro hK
 subst hK
 refine (aoM alT (ha rfl) (hb rfl) hs).imp fun σ H Q ⟨p,S,ρ,s,e,h⟩=>?_
 exact aaH s e h fun q H1 a x S1 st s1 e1 r1 h1=>aaH s1 e1 h1 fun q2 H2 b y S2 st2 s2 e2 r2 h2=>ad4 s_ix s2 (st2.repA r1) r2 h2
abbrev MO:=Rho→Sto→Res (Option Int)
def mO0:MO:=fun _ S=>.ok none S
def abk:AV→Sto→Res (Option Int)
 | .pv (.int i),S=>.ok (some i) S
 | _,_=>.fail
def mO1 (m:ME):MO:=fun ρ S=>(m ρ S).bind abk
abbrev RO:Ph→Hp→Option Int→Option Int→Prop:=fun _ _ a b=>a=b
variable (K cl E X)
def POp (e:Option Expr) (m:MO):Prop:=X.K=K→PO X e (tP K cl E RO m)
variable {K cl E X}
theorem PO.imp {e:Option Expr} {t t':TO} (h:PO X e t) (i:∀ σ H Q,t' σ H Q→t σ H Q):PO X e t':=fun pins s σ H Q I q=>h pins s σ H Q I (i σ H Q q)
theorem abl:POp K cl E X none mO0:=fun _=>PO.imp ani fun σ H Q ⟨p,S,ρ,s,e,h⟩=>aa8.ret (R:=RO) h s rfl
theorem abd (h:PEp K cl E X e m):POp K cl E X (some e) (mO1 m):=by
 intro hK
 subst hK
 refine PO.imp (am6 (h rfl)) fun σ H Q ⟨p,S,ρ,s,e,h⟩=>?_
 refine aaH s e h fun q H1 a x S1 st s1 e1 r1 h1=>?_
 unfold abk at h1
 split at h1
 ·rename_i i
  exact ⟨i,(show RepR X.K q H1 (.int i) x from .inl r1).int,aa8.ret (R:=RO) h1 s1 rfl⟩
 ·exact h1.elim
def cutP (xs:List PV) (lo hi:Option Int):List PV:=(xs.drop (HT.sIx xs.length 0 lo)).take (HT.sIx xs.length xs.length hi - HT.sIx xs.length 0 lo)
def fSl (v:PV) (lo hi:Option Int):Option PV:=match v with
 | .lst xs=>some (.lst (cutP xs lo hi))
 | .tup xs=>if HT.sIx xs.length 0 lo=0∧HT.sIx xs.length xs.length hi=xs.length then none else some (.tup (cutP xs lo hi))
 | _=>none
def mSl (m:ME) (ml mh:MO):ME:=fun ρ S=>(m ρ S).bind fun v S1=>(ml ρ S1).bind fun lo S2=>(mh ρ S2).bind fun hi S3=>okO ((rd S3 v).bind fun x=>fSl x lo hi) S3
theorem ah3 {c:Addr→Prop} {H:Hp} {xs:List PV} {vs:List V} {lo hi:Option Int} (r:Reps K c H xs vs):Reps K c H (cutP xs lo hi) (cutV vs lo hi):=by
 unfold cutP cutV
 rw [← r.length]
 exact (r.drop _).take _
theorem adp {lo hi:Option Expr} {ml mh:MO} (he:PEp K cl E X e m) (hl:POp K cl E X lo ml) (hu:POp K cl E X hi mh):PEp K cl E X (.Subscript e (.Slice lo hi none p2) pos) (mSl m ml mh):=by
 intro hK
 subst hK
 refine (akT (SlR.or am2 anS) (he rfl) (hl rfl) (hu rfl)).imp fun σ H Q ⟨p,S,ρ,s,e,h⟩=>?_
 refine aaH s e h fun q H1 a x S1 st s1 e1 r1 h1=>aaH s1 e1 h1 fun q2 H2 lo lo' S2 st2 s2 e2 r2 h2=>aaH s2 e2 h2 fun q3 H3 hi hi' S3 st3 s3 e3 r3 h3=>?_
 cases r2
 cases r3
 have ra:=st3.repA (st2.repA r1)
 obtain ⟨c,ec,k⟩:=ae4 s3 h3
 cases z:rd S3 a with
 | none=>rw [z] at ec; cases ec
 | some v =>
  rw [z] at ec
  have rv:=agW s3 ra z
  cases v with
  | lst xs =>
   have ec:some (PV.lst (cutP xs lo hi))=some c:=ec
   cases ec
   obtain ⟨a1,vs,rfl,l1,z1,r1⟩:=rv.lst
   exact .inl ⟨a1,vs,rfl,l1,fun t ht=>k _ _ (abp ht) (aer s3 (ah3 r1) (Nat.le_trans (ac5 vs lo hi) z1) ht)⟩
  | tup xs =>
   obtain ⟨a1,vs,rfl,l1,z1,r1⟩:=rv.tup
   have ec:(if HT.sIx xs.length 0 lo=0∧HT.sIx xs.length xs.length hi=xs.length then none else some (PV.tup (cutP xs lo hi)))=some c:=ec
   split at ec
   ·cases ec
   ·rename_i hw
    cases ec
    rw [r1.length] at hw
    exact .inr ⟨a1,vs,rfl,l1,hw,fun t ht=>k _ _ (abp ht) (adV s3 (ah3 r1) (Nat.le_trans (ac5 vs lo hi) z1) ht)⟩
  | _=>cases ec
theorem aaS {id:String} {r:List V→Hp→VK→Prop} {f:List PV→Option PV} {x:Str} {p:Pos} (hc:aeG X (.builtin id) r) (hf:CaR X.K r f) (hg:Gl X x) (hm:X.mg x=none) (hv:bootBuiltins x=some (.builtin id)) (ha:PAp K cl E X (e :: es) ms) (hn:x≠"__name__":=by decide) (hdb:(x == ("__debug__":Str))=false:=by decide)
  (he:starEach (e :: es) X.env=(false,eval e X.env) :: starEach es X.env:=by rfl) (hpl:(backTo pos (starEach es X.env)).any (·.1)=false:=by rfl):PEp K cl E X (.Call (.Name x p) (e :: es) [] pos) (mR f ms):=by
 intro hK
 subst hK
 refine PE.imp (alK hc hg hm hv (ha rfl) hn hdb he hpl) fun σ H Q ⟨p,S,ρ,s,ev,h⟩=>?_
 exact aaH s ev h fun q H' as xs S' stp sm ev r k=>agV hf sm r k
theorem abU {T:String} {r:List V→Hp→VK→Prop} {f:List PV→Option PV} {x:Str} {p:Pos} (hc:aeG X (.type T) r) (hf:CaR X.K r f) (hg:Gl X x) (hm:X.mg x=none) (hv:bootBuiltins x=some (.type T)) (ha:PAp K cl E X (e :: es) ms) (hn:x≠"__name__":=by decide) (hdb:(x == ("__debug__":Str))=false:=by decide)
  (he:starEach (e :: es) X.env=(false,eval e X.env) :: starEach es X.env:=by rfl) (hpl:(backTo pos (starEach es X.env)).any (·.1)=false:=by rfl):PEp K cl E X (.Call (.Name x p) (e :: es) [] pos) (mR f ms):=by
 intro hK
 subst hK
 refine PE.imp (ad8 hc hg hm hv (ha rfl) hn hdb he hpl) fun σ H Q ⟨p,S,ρ,s,ev,h⟩=>?_
 exact aaH s ev h fun q H' as xs S' stp sm ev r k=>agV hf sm r k
def fLen:List PV→Option PV
 | [.lst xs]=>some (.int xs.length)
 | [.tup xs]=>some (.int xs.length)
 | _=>none
theorem adY:CaR K (fun xs H Q=>∃ p ys,xs=[.ref p]∧(SqL K H p ys∨SqT K H p ys)∧Q (.int ys.length) H) fLen:=fun {p S H as c xs Q} s ra e k=>by
 unfold fLen at e
 split at e
 ·rename_i zs
  cases e
  cases ra with
  | cons h t =>
   cases t
   obtain ⟨a,vs,rfl,l,z,r⟩:=h.lst
   refine ⟨a,vs,rfl,.inl l,?_⟩
   rw [← r.length]
   exact k H _ (Same.refl H) (abF (v:=.int zs.length) rfl)
 ·rename_i zs
  cases e
  cases ra with
  | cons h t =>
   cases t
   obtain ⟨a,vs,rfl,l,z,r⟩:=h.tup
   refine ⟨a,vs,rfl,.inr l,?_⟩
   rw [← r.length]
   exact k H _ (Same.refl H) (abF (v:=.int zs.length) rfl)
 ·cases e
def fAbs:List PV→Option PV
 | [.int i]=>some (.int (if i < 0 then -i else i))
 | _=>none
theorem amn:CaR K (fun xs H Q=>∃ i,xs=[.int i]∧Q (.int (if i < 0 then -i else i)) H) fAbs:=fun {p S H as c xs Q} s ra e k=>by
 unfold fAbs at e
 split at e
 ·rename_i i
  cases e
  cases ra with
  | cons h t =>
   cases t
   cases h.int
   exact ⟨i,rfl,k H _ (Same.refl H) (abF (v:=.int _) rfl)⟩
 ·cases e
def aal:List PV→Option PV
 | [.lst xs]=>some (.tup xs)
 | [.tup xs]=>some (.tup xs)
 | _=>none
theorem adQ:CaR K (fun xs H Q=>∃ p ys,xs=[.ref p]∧((SqL K H p ys∧∀ l,H l=none→Q (.ref l) (upd H l (.tup ys)))∨(SqT K H p ys∧Q (.ref p) H))) aal:=fun {p S H as c xs Q} s ra e k=>by
 unfold aal at e
 split at e
 ·rename_i zs
  cases e
  cases ra with
  | cons h t =>
   cases t
   obtain ⟨a,vs,rfl,l,z,r⟩:=h.lst
   exact ⟨a,vs,rfl,.inl ⟨l,fun t ht=>k _ _ (abp ht) (adV s r z ht)⟩⟩
 ·rename_i zs
  cases e
  cases ra with
  | cons h t =>
   cases t
   obtain ⟨a,vs,rfl,l,z,r⟩:=h.tup
   refine ⟨a,vs,rfl,.inr ⟨l,k H _ (Same.refl H) ?_⟩⟩
   unfold Rep
   exact ⟨a,vs,rfl,l,z,r⟩
 ·cases e
def aak:List PV→Option PV
 | [.lst xs]=>some (.lst xs)
 | [.tup xs]=>some (.lst xs)
 | _=>none
theorem anb:CaR K (fun xs H Q=>∃ p ys,xs=[.ref p]∧(SqL K H p ys∨SqT K H p ys)∧∀ l,H l=none→Q (.ref l) (upd H l (.lst ys))) aak:=fun {p S H as c xs Q} s ra e k=>by
 unfold aak at e
 split at e
 ·rename_i zs
  cases e
  cases ra with
  | cons h t =>
   cases t
   obtain ⟨a,vs,rfl,l,z,r⟩:=h.lst
   exact ⟨a,vs,rfl,.inl l,fun t ht=>k _ _ (abp ht) (aer s r z ht)⟩
 ·rename_i zs
  cases e
  cases ra with
  | cons h t =>
   cases t
   obtain ⟨a,vs,rfl,l,z,r⟩:=h.tup
   exact ⟨a,vs,rfl,.inr l,fun t ht=>k _ _ (abp ht) (aer s r z ht)⟩
 ·cases e
def fInt:List PV→Option PV
 | [.int i]=>some (.int i)
 | [.bl b]=>some (.int (if b then 1 else 0))
 | _=>none
theorem aom:CaR K (fun xs H Q=>(∃ i,xs=[.int i]∧Q (.int i) H)∨∃ k,xs=[.bl k]∧Q (.int (if k then 1 else 0)) H) fInt:=fun {p S H as c xs Q} s ra e k=>by
 unfold fInt at e
 split at e
 ·rename_i i
  cases e
  cases ra with
  | cons h t =>
   cases t
   cases h.int
   exact .inl ⟨i,rfl,k H _ (Same.refl H) (abF (v:=.int _) rfl)⟩
 ·rename_i i
  cases e
  cases ra with
  | cons h t =>
   cases t
   cases h.bl
   exact .inr ⟨i,rfl,k H _ (Same.refl H) (abF (v:=.int _) rfl)⟩
 ·cases e
end
end L2.Pp
namespace L2.Pp
open PySem PySem.Spec PyProof.Rows Bn
section
variable {K:PySem.W.Frag} {cl:Str→Addr} {E:XK} {X:Cx} {a b c e l tg:Expr} {es:List Expr} {m ma mb:ME} {ms:MA} {pos:Pos} {p q:Ph} {H H':Hp} {S:Sto}
theorem Sim.push (s:Sim K p S H) {D:Addr} {ps:List PV} {vs:List V} (h:H D=none) (l:vs.length≤sizeLine) (r:Reps K p.c H ps vs) :
  let q:Ph:=⟨p.f++[D],fun a=>p.w a∨a=D,fun a=>p.c a∨a=D⟩
  Step p H q (upd H D (.lst vs))∧Sim K q (S++[.lst ps]) (upd H D (.lst vs)):=by
 intro q
 obtain ⟨st0,sm0⟩:=s.res (D:=D) (o:=.lst vs) h trivial
 have nf0:D ∉ p.f:=fun z=>s.notin h (s.wc D (s.sub D z))
 refine ⟨⟨st0.wc,st0.mu,⟨[D],rfl⟩,st0.mw,st0.mono,fun a x n=>?_,st0.nw,st0.nc,st0.keep⟩,?_,by simp [q,s.len],fun a x=>?_,sm0.wc,sm0.mu,fun k a o e1 e2=>?_⟩
 ·rcases List.mem_append.mp x with z | z
  ·exact absurd z n
  ·have:a=D:=by simpa using z
   rw [this]
   exact h
 ·show (p.f++[D]).Nodup
  rw [List.nodup_append]
  refine ⟨s.nd,by simp,fun a ha b hb z=>?_⟩
  have:b=D:=by simpa using hb
  exact nf0 (this ▸ z ▸ ha)
 ·rcases List.mem_append.mp x with z | z
  ·exact .inl (s.sub a z)
  ·exact .inr (by simpa using z)
 ·by_cases hk:k < S.length
  ·have e1':p.f[k]?=some a:=by
    have e1:(p.f++[D])[k]?=some a:=e1
    rwa [List.getElem?_append_left (by rw [s.len]; exact hk)] at e1
   rw [List.getElem?_append_left hk] at e2
   refine (s.obj k a o e1' e2).mono (fun vs e=>by rw [aaG (aaN e h)]; exact e) (fun b w f=>⟨⟨.inl w,fun m=>?_⟩,fun vs e=>by rw [aaG (aaN e h)]; exact e⟩) fun _ _ r=>st0.reps r
   rcases List.mem_append.mp m with z | z
   ·exact f z
   ·have:b=D:=by simpa using z
    exact s.notin h (this ▸ s.wc b w)
  ·have hk':k=S.length:=by
    have:=(List.getElem?_eq_some_iff.mp e2).1
    simp at this
    omega
   subst hk'
   rw [List.getElem?_append_right (Nat.le_refl _),Nat.sub_self] at e2
   have e1:(p.f++[D])[S.length]?=some a:=e1
   rw [← s.len,List.getElem?_append_right (Nat.le_refl _),Nat.sub_self] at e1
   cases e1
   cases e2
   exact ⟨vs,aa1,l,st0.reps r⟩
theorem Sim.write (s:Sim K p S H) {D:Addr} {k:Nat} {ps:List PV} {vs:List V} (h:p.f[k]?=some D) (hk:k < S.length) (l:vs.length≤sizeLine) (r:Reps K p.c H ps vs) :
  Step p H p (upd H D (.lst vs))∧Sim K p (S.set k (.lst ps)) (upd H D (.lst vs)):=by
 have w:p.w D:=s.sub D (List.mem_of_getElem? h)
 have st:Step p H p (upd H D (.lst vs)):=⟨s.wc,s.mu,List.prefix_rfl,fun _ h=>h,fun _ h=>h,fun _ h g=>absurd h g,fun _ h g=>absurd h g,fun _ h g=>absurd h g,fun a u e nw=>by
  rw [aaG (fun z:a=D=>nw (by rw [z]; exact w))]
  exact e⟩
 refine ⟨st,s.nd,by rw [List.length_set]; exact s.len,s.sub,s.wc,fun a x=>?_,fun j a o e1 e2=>?_⟩
 ·by_cases z:a=D
  ·rw [z,aa1]
   exact ⟨_,rfl,trivial⟩
  ·rw [aaG z]
   exact s.mu a x
 ·by_cases hj:k=j
  ·subst hj
   rw [h] at e1
   cases e1
   rw [List.getElem?_set_self hk] at e2
   cases e2
   exact ⟨vs,aa1,l,st.reps r⟩
  ·rw [List.getElem?_set_ne hj] at e2
   have ne:a≠D:=fun q=>hj (adk s.nd h (q ▸ e1))
   exact (s.obj j a o e1 e2).mono (fun vs e=>by rw [aaG ne]; exact e) (fun b w f=>⟨⟨w,f⟩,fun vs e=>by rw [aaG (fun z:b=D=>f (z ▸ List.mem_of_getElem? h))]; exact e⟩) fun _ _ r=>st.reps r
def afo (xs:List AV) (S:Sto):Res AV:=match abw xs with
 | some vs=>if vs.length≤16777216 then .ok (.ref S.length) (S++[.lst vs]) else .fail
 | none=>.fail
def mNew (ms:MA):ME:=fun ρ S=>(ms ρ S).bind afo
theorem ac9 (h:PAp K cl E X es ms):PEp K cl E X (.List es pos) (mNew ms):=by
 intro hK
 subst hK
 refine (aj2 (h rfl)).imp fun σ H Q ⟨p,S,ρ,s,e,h⟩=>?_
 refine aaH s e h fun q H1 as xs S1 st s1 e1 r1 h1=>?_
 unfold afo at h1
 split at h1
 ·rename_i vs hv
  split at h1
  ·rename_i hl
   have r:=aeq hv r1
   rw [r.length,← aa0] at hl
   refine ⟨hl,fun t ht=>?_⟩
   obtain ⟨st2,sm2⟩:=s1.push ht hl r
   exact h1 _ _ (.ref t) st2 sm2 ⟨t,by show (q.f++[t])[S1.length]?=some t; rw [← s1.len,List.getElem?_append_right (Nat.le_refl _),Nat.sub_self]; rfl,rfl⟩
  ·exact h1.elim
 ·exact h1.elim
def newR (xs:List AV) (S:Sto):Res AV:=match (abb S xs).bind aak with
 | some (.lst vs)=>.ok (.ref S.length) (S++[.lst vs])
 | _=>.fail
def aiR (ms:MA):ME:=fun ρ S=>(ms ρ S).bind newR
theorem alI {x:Str} {p:Pos} (hx:x="list") (hg:Gl X "list") (hm:X.mg "list"=none) (ha:PAp K cl E X [e] ms) (he:starEach [e] X.env=[(false,eval e X.env)]:=by rfl):PEp K cl E X (.Call (.Name x p) [e] [] pos) (aiR ms):=by
 intro hK
 subst hK hx
 refine PE.imp (ad8 acH hg hm (by decide +kernel) (ha rfl) (by decide) (by decide) he rfl) fun σ H Q ⟨p,S,ρ,s,ev,h⟩=>?_
 refine aaH s ev h fun q H1 as xs S1 st s1 e1 r1 h1=>?_
 unfold newR at h1
 cases z:abb S1 as with
 | none=>rw [z] at h1; exact h1.elim
 | some us =>
  rw [z] at h1
  have rr:=ad3 s1 r1 z
  have fin:∀ (vs:List PV) (ws:List V) (a:Addr),Reps X.K q.c H1 vs ws→ws.length≤sizeLine→aa8 X.K cl (RepA X.K) q H1 (.ok (.ref S1.length) (S1++[.lst vs])) Q E→∀ l,H1 l=none→Q (.ref l) (upd H1 l (.lst ws)):=fun vs ws a r hl k t ht=>by
   obtain ⟨st2,sm2⟩:=s1.push ht hl r
   exact k _ _ (.ref t) st2 sm2 ⟨t,by show (q.f++[t])[S1.length]?=some t; rw [← s1.len,List.getElem?_append_right (Nat.le_refl _),Nat.sub_self]; rfl,rfl⟩
  cases rr with
  | nil=>exact h1.elim
  | cons h t =>
   rename_i u x ut xt
   cases t with
   | cons _ _=>cases u <;> exact h1.elim
   | nil =>
    cases u with
    | lst vs =>
     obtain ⟨a,ws,rfl,l,z,r⟩:=h.lst
     exact ⟨a,ws,rfl,.inl l,fin vs ws a r z h1⟩
    | tup vs =>
     obtain ⟨a,ws,rfl,l,z,r⟩:=h.tup
     exact ⟨a,ws,rfl,.inr l,fin vs ws a r z h1⟩
    | _=>exact h1.elim
def aeV (k:Nat) (ys:List AV) (S:Sto):Res AV:=match ys with
 | [.pv y]=>match S[k]? with
  | some (.lst xs)=>if xs.length < 16777216 then .ok (.pv .non) (S.set k (.lst (xs++[y]))) else .fail
  | _=>.fail
 | _=>.fail
def acZ {α:Type} (k:AV) (f:Nat→Res α):Res α:=match k with
 | .ref k=>f k
 | _=>.fail
def mApp (m:ME) (ms:MA):ME:=fun ρ S=>(m ρ S).bind fun k S1=>acZ k fun k=>(ms ρ S1).bind fun ys S2=>aeV k ys S2
theorem ahe {k:Nat} {x:V} (s:Sim K p S H) (r:RepA K p H (.ref k) x):tyV K "list" x H:=by
 obtain ⟨a,e,rfl⟩:=r
 have hk:k < S.length:=by
  have:=(List.getElem?_eq_some_iff.mp e).1
  rw [← s.len]
  exact this
 have z:=s.obj k a S[k] e (List.getElem?_eq_getElem hk)
 cases y:S[k] with
 | lst xs =>
  rw [y] at z
  obtain ⟨vs,h,_⟩:=z
  exact .inl ⟨rfl,vs,SqL.of h⟩
 | lol xss =>
  rw [y] at z
  obtain ⟨bs,h,_⟩:=z
  exact .inl ⟨rfl,_,SqL.of h⟩
theorem abS {apos cpos:Pos} (ho:PEp K cl E X a m) (ha:PAp K cl E X [e] ms) (hbase:attributeBase a "append" X.env (eval a X.env)=eval a X.env:=by rfl)
  (hfew:((backTo cpos (starEach [e] X.env)).all (fun x=>!x.1) && (backToKw cpos (keywordEach [] X.env)).all (fun x=>x.1.isSome) && decide (([e]:List Expr).length+([]:List Keyword).length+(if ([]:List Keyword).isEmpty then 0 else 1) < 30))=true:=by rfl)
  (hline:(apos.endLine == cpos.line)=true:=by rfl) (hs:starEach [e] X.env=[(false,eval e X.env)]:=by rfl):PEp K cl E X (.Call (.Attribute a "append" apos) [e] [] cpos) (mApp m ms):=by
 intro hK
 subst hK
 refine PE.imp (amH PySem.F.plainAttrs_list PySem.F.slot_list_append PySem.F.type_list_append adX (ho rfl) (ha rfl) hbase hfew hline hs rfl) fun σ H Q ⟨p,S,ρ,s,ev,h⟩=>?_
 refine aaH s ev h fun q H1 k x S1 st s1 e1 r1 h1=>?_
 cases k with
 | pv v=>exact h1.elim
 | ref k =>
  refine ⟨ahe s1 r1,aaH s1 e1 h1 fun q2 H2 ys xs S2 st2 s2 e2 r2 h2=>?_⟩
  obtain ⟨a,ea,rfl⟩:=st2.repA r1
  unfold aeV at h2
  split at h2
  ·rename_i y
   cases r2 with
   | cons r3 r4 =>
    cases r4
    rename_i x
    cases z:S2[k]? with
    | none=>rw [z] at h2; exact h2.elim
    | some o =>
     cases o with
     | lol xss=>simp only [z] at h2; exact h2.elim
     | lst zs =>
      simp only [z] at h2
      obtain ⟨vs,h3,l3,r4⟩:=s2.obj k a _ ea z
      split at h2
      ·rename_i hl
       rw [r4.length] at hl
       have hz:=aa0
       refine ⟨a,vs,x,rfl,rfl,h3,by omega,?_⟩
       obtain ⟨st3,sm3⟩:=s2.write ea (List.getElem?_eq_some_iff.mp z).1 (ps:=zs++[y]) (vs:=vs++[x]) (by rw [List.length_append,List.length_singleton]; omega) (r4.append (.cons r3 .nil))
       exact h2 _ _ .non st3 sm3 (by show Rep X.K q2.c (upd H2 a (.lst (vs++[x]))) .non .non; unfold Rep; rfl)
      ·exact h2.elim
  ·exact h2.elim
def ams (k:Nat) (ys:List AV) (S:Sto):Res AV:=match ys with
 | [.pv (.int i)]=>if -9223372036854775808≤i∧i < 9223372036854775808 then (match S[k]? with
  | some (.lst xs)=>match seqIndex? i xs.length with
   | some j=>match xs[j]? with
    | some v=>.ok (.pv v) (S.set k (.lst (xs.eraseIdx j)))
    | none=>.fail
   | none=>.fail
  | _=>.fail) else .fail
 | _=>.fail
def mPop (m:ME) (ms:MA):ME:=fun ρ S=>(m ρ S).bind fun k S1=>acZ k fun k=>(ms ρ S1).bind fun ys S2=>ams k ys S2
theorem amh {apos cpos:Pos} (ho:PEp K cl E X a m) (ha:PAp K cl E X [e] ms) (hbase:attributeBase a "pop" X.env (eval a X.env)=eval a X.env:=by rfl)
  (hfew:((backTo cpos (starEach [e] X.env)).all (fun x=>!x.1) && (backToKw cpos (keywordEach [] X.env)).all (fun x=>x.1.isSome) && decide (([e]:List Expr).length+([]:List Keyword).length+(if ([]:List Keyword).isEmpty then 0 else 1) < 30))=true:=by rfl)
  (hline:(apos.endLine == cpos.line)=true:=by rfl) (hs:starEach [e] X.env=[(false,eval e X.env)]:=by rfl):PEp K cl E X (.Call (.Attribute a "pop" apos) [e] [] cpos) (mPop m ms):=by
 intro hK
 subst hK
 refine PE.imp (amH PySem.F.plainAttrs_list PySem.F.slot_list_pop PySem.F.type_list_pop akJ (ho rfl) (ha rfl) hbase hfew hline hs rfl) fun σ H Q ⟨p,S,ρ,s,ev,h⟩=>?_
 refine aaH s ev h fun q H1 k x S1 st s1 e1 r1 h1=>?_
 cases k with
 | pv v=>exact h1.elim
 | ref k =>
  refine ⟨ahe s1 r1,aaH s1 e1 h1 fun q2 H2 ys xs S2 st2 s2 e2 r2 h2=>?_⟩
  obtain ⟨a,ea,rfl⟩:=st2.repA r1
  unfold ams at h2
  split at h2
  ·rename_i i
   cases r2 with
   | cons r3 r4 =>
    cases r4
    rename_i x
    have ex:x=.int i:=(show RepR X.K q2 H2 (.int i) x from .inl r3).int
    subst ex
    split at h2
    ·rename_i hi
     cases z:S2[k]? with
     | none=>rw [z] at h2; exact h2.elim
     | some o =>
      cases o with
      | lol xss=>simp only [z] at h2; exact h2.elim
      | lst zs =>
       simp only [z] at h2
       obtain ⟨vs,h3,l3,r4⟩:=s2.obj k a _ ea z
       cases y:seqIndex? i zs.length with
       | none=>simp only [y] at h2; exact h2.elim
       | some j =>
        simp only [y] at h2
        cases yv:zs[j]? with
        | none=>simp only [yv] at h2; exact h2.elim
        | some v =>
         simp only [yv] at h2
         obtain ⟨u,eu,ru⟩:=r4.get yv
         refine ⟨a,vs,i,j,u,rfl,rfl,h3,hi.1,hi.2,by rw [← r4.length]; exact y,eu,?_⟩
         obtain ⟨st3,sm3⟩:=s2.write ea (List.getElem?_eq_some_iff.mp z).1 (ps:=zs.eraseIdx j) (vs:=vs.eraseIdx j) (Nat.le_trans (afd vs j) l3) (r4.eraseIdx j)
         exact h2 _ _ u st3 sm3 (st3.rep ru)
    ·exact h2.elim
  ·exact h2.elim
def af0 (k:Nat) (i:AV) (v:AV) (S:Sto):Res Unit:=match i,v with
 | .pv (.int i),.pv v=>match S[k]? with
  | some (.lst xs)=>match ixN xs.length i with
   | some j=>.ok () (S.set k (.lst (xs.set j v)))
   | none=>.fail
  | _=>.fail
 | _,_=>.fail
def acr (mo mi mv:ME):MS:=fun ρ S=>SRes.of (mv ρ S) fun v S1=>SRes.of (mo ρ S1) fun k S2=>SRes.of (mi ρ S2) fun i S3=>SRes.of (acZ k fun k=>af0 k i v S3) fun _ S4=>.nx ρ S4
theorem adm {o i v:Expr} {mo mi mv:ME} {tpos:Pos} (hv:PEp K cl E X v mv) (ho:PEp K cl E X o mo) (hi:PEp K cl E X i mi)
  (ha:∀ v,assign (.Subscript o i tpos) X.env v=(do
   let ov ← holding [v] (eval o X.env)
   let iv ← holding [v,ov] (eval i X.env)
   standAt tpos
   holding [v,ov,iv] (setItem ov iv v)
   release [v,ov,iv] []):=by intro _; rfl)
  (hs:swapsWithSole [.Subscript o i tpos] v pos.line X.env=pure false:=by rfl) (hw:swappedStores [.Subscript o i tpos] v X.env=pure none:=by rfl)
  (h1:(assignEach [.Subscript o i tpos] X.env).map (·.2)=[assign (.Subscript o i tpos) X.env]:=by rfl):PSp K cl E X (.Assign [.Subscript o i tpos] v pos) (acr mo mi mv):=by
 intro hK
 subst hK
 refine PS.imp (al9 (hv rfl) (amc (ho rfl) (hi rfl) ahZ ha) hs hw h1) fun D σ H ⟨p,S,ρ,s,ev,h⟩=>?_
 refine ach s ev h fun q H1 v x S1 st s1 e1 r1 h1=>?_
 refine ach s1 e1 h1 fun q2 H2 k y S2 st2 s2 e2 r2 h2=>?_
 refine ach s2 e2 h2 fun q3 H3 i z S3 st3 s3 e3 r3 h3=>?_
 cases k with
 | pv _=>exact h3.elim
 | ref k =>
  obtain ⟨a,ea,rfl⟩:=st3.repA r2
  have rv:=st3.repA (st2.repA r1)
  have h3:abY X.K cl q3 H3 (SRes.of (af0 k i v S3) fun _ S4=>.nx ρ S4) D E:=h3
  unfold af0 at h3
  split at h3
  ·rename_i ii vv _
   have ez:z=.int ii:=(show RepR X.K q3 H3 (.int ii) z from .inl r3).int
   subst ez
   cases w:S3[k]? with
   | none=>rw [w] at h3; exact h3.elim
   | some o =>
    cases o with
    | lol xss=>simp only [w] at h3; exact h3.elim
    | lst zs =>
     simp only [w] at h3
     obtain ⟨vs,hh,ll,rr⟩:=s3.obj k a _ ea w
     cases y:ixN zs.length ii with
     | none=>simp only [y] at h3; exact h3.elim
     | some j =>
      simp only [y] at h3
      refine ⟨a,vs,ii,j,rfl,rfl,hh,by rw [← rr.length]; exact y,?_⟩
      obtain ⟨st4,sm4⟩:=s3.write ea (List.getElem?_eq_some_iff.mp w).1 (ps:=zs.set j vv) (vs:=vs.set j x) (by rw [List.length_set]; exact ll) (Reps.set rv j rr)
      exact h3 _ _ _ st4 sm4 (st4.repE e3)
  ·exact h3.elim
def zipP:List PV→List PV→List PV
 | x :: xs,y :: ys=>.tup [x,y] :: zipP xs ys
 | _,_=>[]
theorem agl:∀ (xs ys:List PV),(zipP xs ys).length=min xs.length ys.length
 | [],ys=>by cases ys <;> simp [zipP]
 | x :: xs,[]=>by simp [zipP]
 | x :: xs,y :: ys=>by
  unfold zipP
  rw [List.length_cons,agl xs ys,List.length_cons,List.length_cons]
  omega
theorem ah1:∀ {xs ys:List PV} {i:Nat} {v:PV},(zipP xs ys)[i]?=some v→∃ x y,xs[i]?=some x∧ys[i]?=some y∧v=.tup [x,y]
 | [],ys,i,v,e=>by cases ys <;> simp [zipP] at e
 | x :: xs,[],i,v,e=>by simp [zipP] at e
 | x :: xs,y :: ys,0,v,e=>by
  unfold zipP at e
  simp at e
  exact ⟨x,y,rfl,rfl,e.symm⟩
 | x :: xs,y :: ys,i+1,v,e=>by
  unfold zipP at e
  obtain ⟨a,b,h1,h2,h3⟩:=ah1 (xs:=xs) (ys:=ys) (i:=i) (v:=v) (by simpa using e)
  exact ⟨a,b,by simpa using h1,by simpa using h2,h3⟩
def afs:List AV→Sto→Res (List PV × Gd)
 | [a,b],S=>match aa6 a S with
  | .ok xs _=>match aa6 b S with
   | .ok ys _=>.ok (zipP xs.1 ys.1,xs.2++ys.2) S
   | _=>.fail
  | _=>.fail
 | _,_=>.fail
def mZip (ms:MA):MI:=fun ρ S=>(ms ρ S).bind afs
theorem aik {a:AV} {x:V} {xs:List PV × Gd} {S':Sto} (s:Sim K p S H) (r:RepA K p H a x) (e:aa6 a S=.ok xs S'):∃ f ad vs,x=.ref ad∧SqF f K H ad vs∧xs.1.length≤sizeLine∧∀ q H1 S1,Step p H q H1→Sim K q S1 H1→gOk xs.2 S1→∃ vs,SqF f K H1 ad vs∧Reps K q.c H1 xs.1 vs:=by
 cases a with
 | ref j =>
  obtain ⟨a,e1,rfl⟩:=r
  unfold aa6 at e
  dsimp only at e
  cases z:S[j]? with
  | none=>rw [z] at e; cases e
  | some o =>
   cases o with
   | lol xss=>rw [z] at e; cases e
   | lst ys =>
    rw [z] at e
    cases e
    obtain ⟨vs,h1,l1,r1⟩:=s.obj j a _ e1 z
    refine ⟨false,a,vs,rfl,SqL.of h1,by rw [r1.length]; exact l1,fun q H1 S1 st sm g=>?_⟩
    obtain ⟨ws,h2,l2,r2⟩:=sm.obj j a _ (st.at_ e1) (g (j,ys) List.mem_cons_self)
    exact ⟨ws,SqL.of h2,r2⟩
 | pv v =>
  cases v with
  | lst ys =>
   cases e
   have r:Rep K p.c H (.lst ys) x:=r
   unfold Rep at r
   obtain ⟨a,vs,rfl,l,z,r⟩:=r
   exact ⟨false,a,vs,rfl,l.sq,by rw [r.length]; exact z,fun q H1 S1 st sm g=>⟨vs,(st.lat l).sq,st.reps r⟩⟩
  | tup ys =>
   cases e
   have r:Rep K p.c H (.tup ys) x:=r
   unfold Rep at r
   obtain ⟨a,vs,rfl,l,z,r⟩:=r
   exact ⟨true,a,vs,rfl,l,by rw [r.length]; exact z,fun q H1 S1 st sm g=>⟨vs,st.tup l,st.reps r⟩⟩
  | _=>cases e
theorem adP {elts:List Expr} {x1:Nat} {tp p:Pos} (hg:Gl X "zip") (hm:X.mg "zip"=none) (hl:PAp K cl E X [a,b] ms) (hs:starEach [a,b] X.env=[(false,eval a X.env),(false,eval b X.env)]:=by rfl) (hs2:starEach [b] X.env=[(false,eval b X.env)]:=by rfl) :
  PIp K cl E X (.Tuple elts x1 tp) (.Call (.Name "zip" p) [a,b] [] pos) (mZip ms):=by
 intro hK
 subst hK
 refine PI.imp (aox hg hm (hl rfl) hs hs2) fun σ H R ⟨p,S,ρ,s,ev,h⟩=>?_
 refine aaH s ev h fun q H' as xs S' stp sm ev r k=>?_
 unfold afs at k
 split at k
 ·rename_i u v
  cases r with
  | cons r1 r2 =>
   cases r2 with
   | cons r2 r3 =>
    cases r3
    split at k
    ·rename_i xs1 S1 hx
     split at k
     ·rename_i ys1 S2 hy
      obtain ⟨f1,a1,vs1,rfl,q1,z1,st1⟩:=aik sm r1 hx
      obtain ⟨f2,a2,vs2,rfl,q2,z2,st2⟩:=aik sm r2 hy
      refine ⟨f1,a1,f2,a2,vs1,vs2,rfl,q1,q2,aa8.ret (R:=ItOk X.K) k sm ?_⟩
      refine ⟨by rw [agl]; omega,fun q3 H3 S3 st3 sm3 g3=>?_⟩
      obtain ⟨ws1,w1,rr1⟩:=st1 q3 H3 S3 st3 sm3 fun g hg=>g3 g (List.mem_append_left _ hg)
      obtain ⟨ws2,w2,rr2⟩:=st2 q3 H3 S3 st3 sm3 fun g hg=>g3 g (List.mem_append_right _ hg)
      refine ⟨fun i v e=>?_,?_⟩
      ·obtain ⟨x,y,ex,ey,rfl⟩:=ah1 e
       obtain ⟨x',ex',rx⟩:=rr1.get ex
       obtain ⟨y',ey',ry⟩:=rr2.get ey
       refine ⟨⟨ws1,ws2,x',y',w1,w2,ex',ey'⟩,fun z H4 hz=>?_⟩
       obtain ⟨t,x2,y2,ht,rfl,rfl,g1,g2⟩:=hz
       have e1:=(g1 ws1 w1).symm.trans ex'
       have e2:=(g2 ws2 w2).symm.trans ey'
       cases e1
       cases e2
       refine ⟨abp ht,adV sm3 (.cons rx (.cons ry .nil)) (by show 2≤sizeLine; decide) ht⟩
      ·refine ⟨ws1,ws2,w1,w2,?_⟩
       show (zipP xs1.1 ys1.1).length=_∨_
       rw [agl,rr1.length,rr2.length]
       omega
     ·exact k.elim
    ·exact k.elim
 ·exact k.elim
def ad5:Nat→List PV→List PV
 | _,[]=>[]
 | n,x :: xs=>.tup [.int n,x] :: ad5 (n+1) xs
theorem ae6:∀ (n:Nat) (xs:List PV),(ad5 n xs).length=xs.length
 | _,[]=>rfl
 | n,x :: xs=>by
  unfold ad5
  rw [List.length_cons,ae6 (n+1) xs,List.length_cons]
theorem ag4:∀ {n:Nat} {xs:List PV} {i:Nat} {v:PV},(ad5 n xs)[i]?=some v→∃ x,xs[i]?=some x∧v=.tup [.int ((n+i:Nat):Int),x]
 | n,[],i,v,e=>by simp [ad5] at e
 | n,x :: xs,0,v,e=>by
  unfold ad5 at e
  simp at e
  exact ⟨x,rfl,e.symm⟩
 | n,x :: xs,i+1,v,e=>by
  unfold ad5 at e
  obtain ⟨y,h1,h2⟩:=ag4 (n:=n+1) (xs:=xs) (i:=i) (v:=v) (by simpa using e)
  refine ⟨y,by simpa using h1,?_⟩
  rw [h2,show n+1+i=n+(i+1) by omega]
def akr:List AV→Sto→Res (List PV × Gd)
 | [.pv (.lst xs)],S=>.ok (ad5 0 xs,[]) S
 | [.ref k],S=>match aa6 (.ref k) S with
  | .ok xs _=>.ok (ad5 0 xs.1,xs.2) S
  | _=>.fail
 | _,_=>.fail
def anm (ms:MA):MI:=fun ρ S=>(ms ρ S).bind akr
theorem al0 {xs:List PV} {G:Gd} {a:Addr} (z:xs.length≤sizeLine) (st1:∀ q H1 S1,Step p H q H1→Sim K q S1 H1→gOk G S1→∃ vs,SqL K H1 a vs∧Reps K q.c H1 xs vs):ItOk K p H (ad5 0 xs,G) (Ite K a):=by
 refine ⟨by rw [ae6]; exact z,fun q3 H3 S3 st3 sm3 g3=>?_⟩
 obtain ⟨ws1,w1,rr1⟩:=st1 q3 H3 S3 st3 sm3 g3
 refine ⟨fun i v e=>?_,?_⟩
 ·obtain ⟨x,ex,rfl⟩:=ag4 e
  obtain ⟨x',ex',rx⟩:=rr1.get ex
  refine ⟨⟨ws1,x',w1,ex'⟩,fun z H4 hz=>?_⟩
  obtain ⟨t,y2,ht,rfl,rfl,g1⟩:=hz
  have e1:=(g1 ws1 w1).symm.trans ex'
  cases e1
  refine ⟨abp ht,adV sm3 (.cons ?_ (.cons rx .nil)) (by show 2≤sizeLine; decide) ht⟩
  rw [Nat.zero_add]
  exact abF (v:=.int _) rfl
 ·refine ⟨ws1,w1,?_⟩
  show _≤(ad5 0 xs).length
  rw [ae6,rr1.length]
  exact Nat.le_refl _
theorem akZ {elts:List Expr} {x1:Nat} {tp p:Pos} (hg:Gl X "enumerate") (hm:X.mg "enumerate"=none) (hl:PAp K cl E X [l] ms) (hs:starEach [l] X.env=[(false,eval l X.env)]:=by rfl) :
  PIp K cl E X (.Tuple elts x1 tp) (.Call (.Name "enumerate" p) [l] [] pos) (anm ms):=by
 intro hK
 subst hK
 refine PI.imp (anh hg hm (hl rfl) hs) fun σ H R ⟨p,S,ρ,s,ev,h⟩=>?_
 refine aaH s ev h fun q H' as xs S' stp sm ev r k=>?_
 unfold akr at k
 split at k
 ·rename_i ys
  cases r with
  | cons r1 r2 =>
   cases r2
   rename_i x
   have r1:Rep X.K q.c H' (.lst ys) x:=r1
   unfold Rep at r1
   obtain ⟨a,vs,rfl,l,z,r⟩:=r1
   exact ⟨a,rfl,⟨vs,l.sq⟩,aa8.ret (R:=ItOk X.K) k sm (al0 (by rw [r.length]; exact z) fun q H1 S1 st sm g=>⟨vs,(st.lat l).sq,st.reps r⟩)⟩
 ·rename_i j
  cases r with
  | cons r1 r2 =>
   cases r2
   split at k
   ·rename_i xs1 S1 hx
    obtain ⟨a,e1,rfl⟩:=r1
    cases z:S'[j]? with
    | none=>unfold aa6 at hx; simp only [z] at hx; cases hx
    | some o =>
     cases o with
     | lol xss=>unfold aa6 at hx; simp only [z] at hx; cases hx
     | lst ys =>
      unfold aa6 at hx
      simp only [z] at hx
      cases hx
      obtain ⟨vs,h1,l1,r1⟩:=sm.obj j a _ e1 z
      refine ⟨a,rfl,⟨vs,SqL.of h1⟩,aa8.ret (R:=ItOk X.K) k sm (al0 (by rw [r1.length]; exact l1) fun q H1 S1 st sm g=>?_)⟩
      obtain ⟨ws,h2,l2,r2⟩:=sm.obj j a _ (st.at_ e1) (g (j,ys) List.mem_cons_self)
      exact ⟨ws,SqL.of h2,r2⟩
   ·exact k.elim
 ·exact k.elim
end
end L2.Pp
namespace L2.Pp
open PySem PySem.Spec PyProof.Rows Bn
theorem hu8 {A:Around} {k:Nat} (hr:Room k A):A.units+8 < cLine:=by
 have:=hr.units
 omega
section
variable {K:PySem.W.Frag} {cl:Str→Addr} {E:XK} {X:Cx} {a b c e l tg:Expr} {es:List Expr} {m ma mb:ME} {ms:MA} {pos:Pos} {p q:Ph} {H H':Hp} {S:Sto}
def augI (f:Int→Int→Int) (i:Nat) (ρ:Rho) (v:AV) (S:Sto):SRes:=match ρ[i]? with
 | some (some (.pv (.int x)))=>match v with
  | .pv (.int y)=>.nx (ρ.set i (some (.pv (.int (f x y))))) S
  | _=>.fail
 | _=>.fail
def akq (f:Int→Int→Int) (i:Nat) (m:ME):MS:=fun ρ S=>match ρ[i]? with
 | some (some (.pv (.int _)))=>SRes.of (m ρ S) (augI f i ρ)
 | _=>.fail
theorem alD {i:Nat} {x:Str} {op:Operator} {f:Int→Int→Int} {pos':Pos} (hN:X.N.Nodup) (hi:X.N[i]?=some x) (hx:Loc X.env.scope x) (he:PEp K cl E X e m) (ho:L2.PIp X op (ipI f))
  (hf:X.fn x=true∨X.env.scope.names.lookup x=some .local:=by first | exact .inl rfl | exact .inr rfl | assumption):PSp K cl E X (.AugAssign (.Name x pos') op e pos) (akq f i m):=by
 intro hK
 subst hK
 refine PS.imp (amf hN hi hx (he rfl) ho hf) fun D σ H ⟨p,S,ρ,s,ev,h⟩=>?_
 unfold akq at h
 split at h
 ·rename_i x0 hx0
  obtain ⟨v,e1,r1⟩:=ev.at_ i _ hx0
  refine ⟨v,e1,ach s ev h fun q H' a b S' stp sm ev' r k=>?_⟩
  have ev2:v=.int x0:=(show RepR X.K p H (.int x0) v from .inl r1).int
  unfold augI at k
  rw [hx0] at k
  dsimp only at k
  split at k
  ·rename_i y0
   have eb:b=.int y0:=(show RepR X.K q H' (.int y0) b from .inl r).int
   exact ⟨x0,y0,ev2,eb,abY.nxD k sm (ev'.set (v:=.pv (.int (f x0 y0))) (x:=.int (f x0 y0)) (by show Rep X.K q.c H' _ _; unfold Rep; rfl) i)⟩
  ·exact k.elim
 ·exact h.elim
def alr (K:PySem.W.Frag):Sp:=fun vs H Q _=>∃ (a:Addr) (ns:List Int),vs=[.ref a]∧SqL K H a (ns.map V.int)∧ns.length≤63∧∀ H',Q (.bl true) H'
theorem amS {f:FM} (ht:∀ ns:List Int,ns.length≤63→∃ S,f [.pv (.lst (ns.map .int))] []=.ok (.pv (.bl true)) S) {vs:List V} {H:Hp} {Q:VK} {E:XK} (h:alr K vs H Q E):spP0 K cl f vs H Q E:=by
 obtain ⟨a,ns,rfl,hS,hl,hQ⟩:=h
 obtain ⟨S,e⟩:=ht ns hl
 have rs:∀ (ns:List Int),Reps K (fun _=>False) H (ns.map .int) (ns.map V.int):=fun ns=>by
  induction ns with
  | nil=>exact .nil
  | cons n ns ih=>exact .cons (by unfold Rep; rfl) ih
 refine ⟨⟨[],fun _=>False,fun _=>False⟩,[],[.pv (.lst (ns.map .int))],⟨List.nodup_nil,rfl,(fun _ h=>absurd h (List.not_mem_nil)),(fun _ h=>h),(fun _ h=>h.elim),(fun k a o e=>by simp at e)⟩,.cons ?_ .nil,?_⟩
 ·show Rep K (fun _=>False) H (.lst (ns.map .int)) (.ref a)
  unfold Rep
  refine ⟨a,_,rfl,?_,?_,rs ns⟩
  ·rcases hS with (h | h) | h
   ·exact .inl ⟨h,fun z=>z⟩
   ·exact .inr (.inl h)
   ·exact .inr (.inr h)
  ·rw [List.length_map,aa0]
   omega
 ·rw [e]
  intro q H' x st sm r
  have r:Rep K q.c H' (.bl true) x:=r
  unfold Rep at r
  rw [r]
  exact hQ H'
end
end L2.Pp
namespace L2.Pp
open PySem PySem.Spec PyProof.Rows Bn
section
variable {K:PySem.W.Frag} {cl:Str→Addr} {E:XK} {X:Cx} {e:Expr} {es:List Expr} {ms:MA} {p q:Ph} {H H':Hp} {S:Sto}
theorem RepE.forget {ρ:Rho} {σ:St} (h:RepE K p H ρ σ) (i:Nat) (x:Option V):RepE K p H (ρ.set i none) (σ.set i x):=by
 refine ⟨by rw [List.length_set,List.length_set,h.len],fun j u e=>?_⟩
 by_cases q:i=j
 ·subst q
  by_cases l:i < ρ.length
  ·rw [List.getElem?_set_self l] at e
   cases e
  ·rw [List.getElem?_eq_none (by rw [List.length_set]; omega)] at e
   cases e
 ·rw [List.getElem?_set_ne q] at e ⊢
  exact h.at_ j u e
variable {k:Nat} {f:Addr} {fd:FuncData} {ps:List Str} {g:FM} {dvs:List V} {ds:List Value} {dv:List PV} {x:Str} {pp pos pos1 pos2 pos3 pc:Pos} {c n:Str} {i nn:Nat} {b₀:Stmt} {body:List Stmt} {newId:String} {up:Rho→Rho}
end
end L2.Pp
namespace L2
open PySem PySem.Spec PyProof.Rows Bn
section
variable {X:Cx} {k:Nat} {f:Addr} {fd:FuncData} {ps:List Str} {sp:Sp} {dvs:List V} {ds:List Value} {x:Str} {p pos pos1 pos2 pos3 pc:Pos} {e:Expr} {es:List Expr} {t:TA} {c n:Str} {C:Addr} {i:Nat} {b₀:Stmt} {body:List Stmt} {newId:String}
end
end L2
namespace L2.Pp
open PySem PySem.Spec PyProof.Rows Bn
section
variable {K:PySem.W.Frag} {cl:Str→Addr} {E:XK} {X:Cx} {e:Expr} {es:List Expr} {ms:MA} {p q:Ph} {H H':Hp} {S:Sto}
variable {k:Nat} {f:Addr} {fd:FuncData} {ps:List Str} {g:FM} {dvs:List V} {ds:List Value} {dv:List PV} {x:Str} {pp pos pos1 pos2 pos3 pc:Pos} {c n:Str} {i nn:Nat} {b₀:Stmt} {body:List Stmt} {newId:String} {up:Rho→Rho}
end
end L2.Pp
namespace L2.Pp
open PySem
section
variable {prog:Program} {w:World} {A:Around} {E:Value→Shared→Prop} {s:Shared}
end
end L2.Pp
namespace L2
open PySem PyProof.Rows
end L2
namespace L2.Pp
open PySem
end L2.Pp
namespace L2
open PySem PySem.Spec PyProof.Rows Bn
section
variable {X:Cx}
theorem afh (is:List Int):∀ j,j≤is.length→preSum (fun i=>is.getD i 0) j=(is.take j).sum
 | 0,_=>by simp [preSum]
 | j+1,h=>by
  have hj:j < is.length:=h
  rw [preSum,afh is j (by omega),List.take_add_one,List.getElem?_eq_getElem hj,Option.toList_some,List.sum_append,List.sum_singleton]
  simp only [List.getD,List.getElem?_eq_getElem hj,Option.getD_some]
theorem adq (hc:X.calm=true):aeG X (.builtin "sum") (fun xs H Q=>∃ (a:Addr) (is:List Int),xs=[.ref a]∧SqL X.K H a (is.map V.int)∧Q (.int is.sum) H):=by
 intro pins s σ H xs us Q I r h
 obtain ⟨a,is,rfl,hq,q⟩:=h
 obtain ⟨u,rfl,ru⟩:=afr r
 cases ru
 obtain ⟨its,rv,pl,hz⟩:=I.list hq
 have hl:is.length=its.length:=by
  have:=rv.length
  rwa [List.length_map] at this
 refine call_sum_walkG (wpAny_pyIter_list pl.isList ?_)
 have ha:a < s.heap.objs.size:=by
  obtain ⟨o,ho,_⟩:=pl.isList
  exact Heap.lt_size ho
 refine ⟨_,_,_,_,_,_,fun i=>is.getD i 0,rfl,Walks.list (prog:=X.prog) (w:=X.w) (A:=X.A.in1) (show X.A.in1.handled=none from I.ok.hd hc) s.heap.objs.size a (Nat.ne_of_lt ha) its.toArray,⟨⟨_,Heap.get?_push_size _ rfl,rfl,rfl⟩,Heap.IsList.at pl.isList fun o e=>Heap.get?_push_of_some _ e⟩,fun b hb=>?_,fun i v hv=>?_,fun h' tk t' kp=>?_⟩
 ·have hb':b=s.heap.objs.size∨b=a:=by simpa using hb
  rw [Heap.size_push]
  rcases hb' with e | e <;> rw [e]
  ·exact Nat.lt_succ_self _
  ·exact Nat.lt_succ_of_lt ha
 ·have hv':its[i]?=some v:=by simpa using hv
  have hi:i < is.length:=by
   have:=(List.getElem?_eq_some_iff.mp hv').1
   omega
  obtain ⟨u,hu,ru⟩:=rv.get (i:=i) (x:=.int is[i]) (by rw [List.getElem?_map,List.getElem?_eq_getElem hi]; rfl)
  rw [hv'] at hu
  cases hu
  obtain ⟨t,ht⟩:=(show ∃ t,v=Value.int is[i] t from ru)
  exact ⟨t,by rw [ht]; simp [List.getD,hi]⟩
 ·have e:preSum (fun i=>is.getD i 0) its.toArray.size=is.sum:=by
   rw [List.size_toArray,← hl,afh is _ (Nat.le_refl _),List.take_length]
  show EP X pins σ Q (.int (preSum (fun i=>is.getD i 0) its.toArray.size) t') _
  rw [e]
  have I1:Inv X pins σ H { s with heap:=s.heap.push { cls:=.type "list_iterator",data:=.fields #[.ref a,.int 0 0] },toks:=s.toks }:=I.kept fun b o z=>Heap.get?_push_of_some _ z
  have fp:FpOk X pins H s.heap.objs.size:=I.fpOk (Nat.le_refl _) (I.hok.fresh (Nat.le_refl _))
  obtain ⟨f0,f1,f2,f3,f4,f5⟩:=fp
  exact ⟨.int is.sum,H,I1.turned (fun b o hb z=>kp b o (by simpa using hb) z) f0 f1 f3 f4 f5,⟨t',rfl⟩,q⟩
end
end L2
namespace L2.Pp
open PySem PySem.Spec PyProof.Rows Bn
section
variable {K:PySem.W.Frag} {cl:Str→Addr} {E:XK} {X:Cx}
def adf:List PV→Option (List Int)
 | []=>some []
 | .int b :: r=>match adf r with
  | some bs=>some (b :: bs)
  | none=>none
 | _ :: _=>none
theorem ad0 {c:Addr→Prop} {H:Hp}:∀ {xs:List PV} {bs:List Int} {vs:List V},adf xs=some bs→Reps K c H xs vs→vs=bs.map V.int
 | [],bs,vs,e,r=>by
  cases e
  unfold Reps at r
  exact r
 | .int b :: xs,bs,vs,e,r=>by
  unfold adf at e
  split at e
  ·rename_i cs h
   cases e
   unfold Reps at r
   obtain ⟨v,w,rfl,r1,r2⟩:=r
   unfold Rep at r1
   rw [r1,ad0 h r2]
   rfl
  ·cases e
 | .non :: _,_,_,e,_=>by cases e
 | .bl _ :: _,_,_,e,_=>by cases e
 | .str _ :: _,_,_,e,_=>by cases e
 | .tup _ :: _,_,_,e,_=>by cases e
 | .lst _ :: _,_,_,e,_=>by cases e
def fSum:List PV→Option PV
 | [.lst xs]=>(adf xs).map fun bs=>.int bs.sum
 | _=>none
theorem ajw:CaR K (fun xs H Q=>∃ (a:Addr) (is:List Int),xs=[.ref a]∧SqL K H a (is.map V.int)∧Q (.int is.sum) H) fSum:=fun {p S H as c xs Q} s ra e k=>by
 unfold fSum at e
 split at e
 ·rename_i zs
  cases y:adf zs with
  | none=>rw [y] at e; cases e
  | some bs =>
   rw [y] at e
   cases e
   cases ra with
   | cons h t =>
    cases t
    obtain ⟨a,vs,rfl,l,z,r⟩:=h.lst
    rw [ad0 y r] at l
    exact ⟨a,bs,rfl,l,k H _ (Same.refl H) (abF (v:=.int _) rfl)⟩
 ·cases e
end
end L2.Pp
namespace L2.Pp
open PySem PySem.Spec PyProof.Rows Bn
section
variable {K:PySem.W.Frag} {cl:Str→Addr} {E:XK} {X:Cx} {p q:Ph} {H H':Hp} {S:Sto}
variable {sc:Scope} {own:List Str} {cap:List (Nat × Str)} {elt target iter:Expr} {pos:Pos} {mi:MI} {g:GM} {me:ME}
noncomputable def aht (own:List Str) (cap:List (Nat × Str)) (mi:MI) (g:GM) (me:ME):ME:=fun ρ S=>(mi ρ S).bind fun xs S1=>(aa5 xs.2 g me xs.1 (cmpR own cap ρ) S1).bind fun ys S2=>.ok (.ref S2.length) (S2++[.lst ys])
theorem Sim.adopt {zs:List PV} {vs:List V} {D:Addr} (s:Sim K q S H) (sh:Sim K (q.hold D) S H) (w:q.w D) (n:D ∉ q.f) (h:H D=some (.lst vs)) (l:vs.length≤sizeLine) (r:Reps K q.c H zs vs):Sim K ⟨q.f++[D],q.w,q.c⟩ (S++[.lst zs]) H:=by
 refine ⟨List.nodup_append.mpr ⟨s.nd,by simp,fun a ha b hb=>?_⟩,by rw [List.length_append,List.length_append,s.len]; rfl,fun a ha=>?_,s.wc,s.mu,fun k a o e1 e2=>?_⟩
 ·have:b=D:=by simpa using hb
  intro z
  exact n (by rw [← this,← z]; exact ha)
 ·rcases List.mem_append.mp ha with z | z
  ·exact s.sub a z
  ·have:a=D:=by simpa using z
   rw [this]; exact w
 ·have e1:(q.f++[D])[k]?=some a:=e1
  by_cases hk:k < q.f.length
  ·rw [List.getElem?_append_left hk] at e1
   rw [List.getElem?_append_left (by rw [← s.len]; exact hk)] at e2
   refine (sh.obj k a o e1 e2).mono (fun _ e=>e) (fun b w f=>⟨⟨w.1,fun m=>?_⟩,fun _ e=>e⟩) fun _ _ r=>r
   rcases List.mem_append.mp m with z | z
   ·exact f z
   ·exact w.2 (by simpa using z)
  ·have hk2:k=q.f.length:=by
    have:=(List.getElem?_eq_some_iff.mp e1).1
    rw [List.length_append] at this
    have:k < q.f.length+1:=this
    omega
   subst hk2
   rw [List.getElem?_append_right (Nat.le_refl _),Nat.sub_self] at e1
   rw [s.len,List.getElem?_append_right (Nat.le_refl _),Nat.sub_self] at e2
   cases e1
   cases e2
   exact ⟨vs,h,l,r⟩
theorem ai3 {σ:St} {ρ:Rho} {xs:List PV × Gd} {J:It} {Q:VK} {D:Addr} (sm:Sim K p S H) (ev:RepE K p H ρ σ) (it:ItOk K p H xs J) (k:aa8 K cl (RepA K) p H ((aa5 xs.2 g me xs.1 (cmpR own cap ρ) S).bind fun ys S2=>.ok (.ref S2.length) (S2++[.lst ys])) Q E) (hD:H D=none) :
  cmpW J (gP K g) (tP K cl E0 (RepA K) me) (aes own cap σ) H D Q:=by
 cases z:aa5 xs.2 g me xs.1 (cmpR own cap ρ) S with
 | fail=>rw [z] at k; exact k.elim
 | exc n S'=>exact absurd z (aeS _ _ _ _ _)
 | ok zs S2 =>
  rw [z] at k
  have k:∀ q H' x,Step p H q H'→Sim K q (S2++[.lst zs]) H'→RepA K q H' (.ref S2.length) x→Q x H':=k
  refine ahd sm ev it z hD fun q H' vs st1 sm1 sh1 w1 f1 hH l1 r1=>?_
  have sm2:=sm1.adopt sh1 w1 f1 hH l1 r1
  refine k ⟨q.f++[D],q.w,q.c⟩ H' (.ref D) ⟨st1.wc,st1.mu,st1.pre.trans (List.prefix_append _ _),st1.mw,st1.mono,fun a ha n=>?_,st1.nw,st1.nc,st1.keep⟩ sm2 ⟨D,?_,rfl⟩
  ·rcases List.mem_append.mp ha with y | y
   ·exact st1.nf a y n
   ·have:a=D:=by simpa using y
    rw [this]; exact hD
  ·show (q.f++[D])[S2.length]?=some D
   rw [← sm1.len,List.getElem?_append_right (Nat.le_refl _),Nat.sub_self]
   rfl
theorem ajM {i:Nat} {x:Str} {py spos:Pos} (hN:X.N.Nodup) (hx:X.N[i]?=some x) (hl:Loc X.env.scope x) (k:aeE X sc own cap) (hi:PIp K cl E X target iter mi) (hc:X.calm=true) (hg:∀ C s₀ H₀ ex,PGp K (ac2 X sc (cmpN own cap) C s₀ H₀ ex) target g) (he:∀ C s₀ H₀ ex,PEp K cl E0 (ac2 X sc (cmpN own cap) C s₀ H₀ ex) elt me)
  (hs:∀ x,foldedSetIterable iter X.env x=pure x:=by intro _; rfl) (hsw:swapsWith (.ListComp elt [⟨target,iter,[],0⟩] sc pos) (some (.Name x py)) spos.line X.env=pure true:=by rfl)
  (hf:X.fn x=true∨X.env.scope.names.lookup x=some .local:=by first | exact .inl rfl | exact .inr rfl | assumption) :
  PSp K cl E X (.Assign [.Name x py] (.ListComp elt [⟨target,iter,[],0⟩] sc pos) spos) (sSet i (aht own cap mi g me)):=by
 intro hK
 refine PS.imp (ajj hN hx hl k (hi hK) hc (fun C s₀ H₀ ex=>hg C s₀ H₀ ex hK) (fun C s₀ H₀ ex=>he C s₀ H₀ ex hK) hs hsw hf) fun D σ H ⟨p,S,ρ,s,ev,h⟩=>?_
 have h2:tP K cl E (RepA K) (aht own cap mi g me) σ H fun y H1=>D.nx (σ.set i (some y)) H1:=by
  refine ⟨p,S,ρ,s,ev,?_⟩
  unfold sSet at h
  cases z:aht own cap mi g me ρ S with
  | ok v S1 =>
   rw [z] at h
   exact fun q H' y st sm r=>h q H' _ st sm ((st.repE ev).set r i)
  | exc n S1=>rw [z] at h; exact h
  | fail=>rw [z] at h; exact h
 obtain ⟨p,S,ρ,s,ev,h⟩:=h2
 exact aaH s ev h fun q H' xs J S' stp sm ev it kk B hB=>ai3 sm ev it kk hB
end
section
variable {K:PySem.W.Frag} {cl:Str→Addr} {E:XK} {X:Cx} {e:Expr} {m:ME} {pos p2:Pos}
theorem Vals.at_ {xs:List V} {us:List Value} (r:Vals xs us):∀ {k:Nat} {x:V},xs[k]?=some x→∃ u,us[k]?=some u∧RelV x u:=fun {k x} h=>by
 obtain ⟨u,e1,e2⟩:=r.get h
 exact ⟨u,e1,e2⟩
end
end L2.Pp
namespace L2.Pp
open PySem PySem.Spec PyProof.Rows Bn
section
variable {K:PySem.W.Frag} {cl:Str→Addr} {E:XK} {X:Cx}
end
end L2.Pp
namespace L2
open PySem PySem.Spec PyProof.Rows Bn
open PySem.W (KasT kas_sort kas_ask KatLex KatGo KatTups kat_run kat_kind kat_lt kat_one kas_item kat_snds)
def runP {α:Type} (lt:Nat→Nat→Bool):KasT α→α
 | .ret a=>a
 | .ask i j k=>runP lt (k (lt i j))
def acq {α:Type} (n:Nat):KasT α→Bool
 | .ret _=>true
 | .ask i j k=>decide (i < n) && decide (j < n) && acq n (k true) && acq n (k false)
theorem aip {α:Type} {cmp:Nat→Nat→(Bool→Shared→Prop)→Shared→Prop} {lt:Nat→Nat→Bool} {n:Nat} {s:Shared} (hc:∀ i j (C:Bool→Shared→Prop),i < n→j < n→C (lt i j) s→cmp i j C s):∀ (t:KasT α) (Q:α→Shared→Prop),acq n t=true→Q (runP lt t) s→t.kasWp cmp Q s
 | .ret a,Q,_,h=>h
 | .ask i j k,Q,ok,h=>by
  unfold acq at ok
  simp only [Bool.and_eq_true,decide_eq_true_eq] at ok
  obtain ⟨⟨⟨hi,hj⟩,h1⟩,h2⟩:=ok
  refine hc i j _ hi hj (aip hc (k (lt i j)) Q ?_ h)
  cases lt i j
  ·exact h2
  ·exact h1
def ai8 (h:Heap) (v:Value) (us:List Int):Prop:=∃ a o its n,v=.ref a∧h.get? a=some o∧o.cls=.type "tuple"∧o.data=.seq (List.toArray its) n∧Vals (us.map V.int) its
section
variable {prog:Program} {w:World} {A:Around} {E:Value→Shared→Prop} {s:Shared}
theorem ajn {Q:Bool→Shared→Prop}:∀ (us vs:List Int) (its jts:List Value) (i:Nat) (fin:Bool),Vals (us.map V.int) its→Vals (vs.map V.int) jts→fin=decide (us.length < vs.length)→Q (HT.lexLt us vs) s→KatLex prog w A true fin Q (its.zip jts) i s
 | [],vs,its,jts,i,fin,h1,h2,hf,hQ=>by
  cases h1
  cases vs with
  | nil =>
   subst hf
   exact PySem.W.kat_nil hQ
  | cons v vs =>
   have e:fin=true:=by rw [hf]; simp
   subst e
   exact PySem.W.kat_nil hQ
 | u :: us,[],its,jts,i,fin,h1,h2,hf,hQ=>by
  cases h2
  have e:fin=false:=by rw [hf]; simp
  subst e
  rw [List.zip_nil_right]
  exact PySem.W.kat_nil hQ
 | u :: us,v :: vs,its,jts,i,fin,h1,h2,hf,hQ=>by
  cases h1 with
  | cons r1 t1 =>
   cases h2 with
   | cons r2 t2 =>
    obtain ⟨k1,rfl⟩:=r1
    obtain ⟨k2,rfl⟩:=r2
    rw [List.zip_cons_cons]
    refine PySem.W.kat_cons (wpAny_eqBool_int ?_)
    rw [HT.lexLt_cons] at hQ
    by_cases e:u=v
    ·rw [if_pos e] at hQ
     have b:(u == v)=true:=by simpa using e
     rw [b]
     exact PySem.W.kat_yes (ajn us vs _ _ (i+1) fin t1 t2 (by rw [hf]; simp) hQ)
    ·rw [if_neg e] at hQ
     have b:(u == v)=false:=by simpa using e
     rw [b]
     refine PySem.W.kat_no ?_
     by_cases hi:i=0
     ·subst hi
      exact oneLt_int hQ
     ·have b2:(true && i == 0)=false:=by simpa using hi
      rw [b2]
      exact kat_one _ _ (PySem.P.lt_int hQ)
theorem aoa {x y:Value} {us vs:List Int} {Q:Bool→Shared→Prop} (hx:ai8 s.heap x us) (hy:ai8 s.heap y vs) (h:Q (HT.lexLt us vs) s):wpAny (model prog w) A (keyLt' (tuples' true) x y) Q E s:=by
 obtain ⟨a,o,its,n,rfl,ho,hc,hd,r⟩:=hx
 obtain ⟨b,o2,jts,k,rfl,ho2,hc2,hd2,r2⟩:=hy
 refine kat_lt ho hd ho2 hd2 ?_
 have l1:=r.length
 have l2:=r2.length
 rw [List.length_map] at l1 l2
 refine ajn us vs its jts 0 _ r r2 ?_ h
 rw [List.size_toArray,List.size_toArray,l1,l2]
theorem afP:∀ (vs:List Value) (uss:List (List Int)),vs.length=uss.length→(∀ i,i < vs.length→ai8 s.heap (vs.getD i Value.none) (uss.getD i [])∧uss.getD i []≠[])→∃ fs,KatTups s.heap vs fs∧fs.length=vs.length∧∀ v∈fs,∃ i t,v=.int i t
 | [],uss,_,_=>⟨[],trivial,rfl,fun _ h=>absurd h List.not_mem_nil⟩
 | v :: vs,[],hl,_=>by cases hl
 | v :: vs,us :: uss,hl,h=>by
  obtain ⟨fs,k,l,q⟩:=afP vs uss (by simpa using hl) fun i hi=>by
   have:=h (i+1) (by simp; omega)
   simpa using this
  obtain ⟨⟨a,o,its,n,e,ho,hc,hd,r⟩,ne⟩:=h 0 (by simp)
  have e:v=.ref a:=e
  subst e
  cases us with
  | nil=>exact absurd rfl ne
  | cons u us =>
   have r:Vals (V.int u :: us.map V.int) its:=r
   cases r with
   | cons r1 t1 =>
    obtain ⟨t,rfl⟩:=r1
    refine ⟨.int u t :: fs,KatTups.cons ho hc hd (by simp) k,by simp [l],fun x hx=>?_⟩
    rcases List.mem_cons.mp hx with rfl | hx
    ·exact ⟨u,t,rfl⟩
    ·exact q x hx
def aaL (uss:List (List Int)):List Nat:=(runP (fun i j=>HT.lexLt (uss.getD i []) (uss.getD j [])) (kas_sort uss.length)).toList
theorem agd {a:Addr} {vs:List Value} {uss:List (List Int)} {n:Nat} {P:PySem.Fin→Shared→Prop} (ho:s.heap.get? a=some (seqObj "list" vs.toArray n)) (hl:vs.length=uss.length) (h2:2≤vs.length) (h64:vs.length < 64) (ok:acq uss.length (kas_sort uss.length)=true)
  (tu:∀ i,i < vs.length→ai8 s.heap (vs.getD i Value.none) (uss.getD i [])∧uss.getD i []≠[])
  (h:P (.done (.ret .none)) { s with heap:=sortedHeap s.heap a vs (List.toArray ((aaL uss).map fun i=>vs.getD i Value.none)) }) :
  wpAny (model prog w) A (Builtin.«list.sort» ⟨[.ref a],[]⟩) P E s:=by
 have ha:a < s.heap.objs.size:=Heap.lt_size ho
 obtain ⟨e1,ho1⟩:∃ e1,(s.heap.update a (Obj.mapSeq fun _=>(#[]:Array Value))).get? a=some (seqObj "list" #[] e1):=⟨_,get?_update_seq ho fun _=>#[]⟩
 have kp:∀ b o,b≠a→s.heap.get? b=some o→(((s.heap.update a (Obj.mapSeq fun _=>(#[]:Array Value))).push (seqObj "tuple" vs.toArray 0)).push (seqObj "list" #[] 0)).get? b=some o:=fun b o hb e =>
  Heap.get?_push_of_some _ (Heap.get?_push_of_some _ ((Heap.get?_update_ne _ _ _ _ hb).trans e))
 have tu2:∀ i,i < vs.length→ai8 (((s.heap.update a (Obj.mapSeq fun _=>(#[]:Array Value))).push (seqObj "tuple" vs.toArray 0)).push (seqObj "list" #[] 0)) (vs.getD i Value.none) (uss.getD i [])∧uss.getD i []≠[]:=fun i hi=>by
  obtain ⟨⟨b,o,its,m,e,hb,hc,hd,r⟩,ne⟩:=tu i hi
  refine ⟨⟨b,o,its,m,e,kp b o (fun z=>?_) hb,hc,hd,r⟩,ne⟩
  subst z
  rw [ho] at hb
  cases hb
  have hc:Value.type "list"=Value.type "tuple":=hc
  injection hc with hc
  exact absurd hc (by decide)
 have na:(((s.heap.update a (Obj.mapSeq fun _=>(#[]:Array Value))).push (seqObj "tuple" vs.toArray 0)).push (seqObj "list" #[] 0)).get? a=some (seqObj "list" #[] e1):=Heap.get?_push_of_some _ (Heap.get?_push_of_some _ ho1)
 rw [list_sort_plain]
 refine wpAny_bind (listItems_at ho rfl ?_)
 refine wpAny_bind (listUpdate_at ho rfl ?_ (by rw [List.size_toArray,sizeLine_eq]; omega) (Nat.zero_le _))
 refine wpAny_bind (seqEpoch_at ho1 rfl ?_)
 refine wpAny_bind (wpAny_newTuple ?_ (by show vs.length≤_; rw [sizeLine_eq]; omega))
 refine wpAny_bind (wpAny_newList ?_ (Nat.zero_le _))
 refine wpAny_holding ?_
 show wpAny (model prog w) A _ P E { s with heap:=((s.heap.update a (Obj.mapSeq fun _=>(#[]:Array Value))).push (seqObj "tuple" vs.toArray 0)).push (seqObj "list" #[] 0) }
 dsimp only
 have hn2:¬ vs.toArray.size < 2:=by rw [List.size_toArray]; omega
 rw [if_neg hn2,if_neg hn2]
 obtain ⟨fs,kt,lf,qf⟩:=afP (s:={ s with heap:=((s.heap.update a (Obj.mapSeq fun _=>(#[]:Array Value))).push (seqObj "tuple" vs.toArray 0)).push (seqObj "list" #[] 0) }) vs uss hl tu2
 refine wpAny_bind (kat_kind (T:=.type "int") kt (by omega) (fun v hv=>?_) rfl ?_)
 ·obtain ⟨i,t,rfl⟩:=qf v hv
  exact .now
 have bt:(Value.type "int" != Value.type "tuple")=true:=by decide
 rw [bt]
 refine wpAny_bind (wpAny_mono (kat_run (Q:=fun st' s'=>∃ p:Array Nat,p.size=vs.length∧arrOf st'=p.map (kas_item (vs.toArray.zip vs.toArray))∧failedOf st'=none∧p.toList=aaL uss∧s'={ s with heap:=((s.heap.update a (Obj.mapSeq fun _=>(#[]:Array Value))).push (seqObj "tuple" vs.toArray 0)).push (seqObj "list" #[] 0) })
  (G:=fun p s'=>p.toList=aaL uss∧s'={ s with heap:=((s.heap.update a (Obj.mapSeq fun _=>(#[]:Array Value))).push (seqObj "tuple" vs.toArray 0)).push (seqObj "list" #[] 0) })
  rfl h2 h64 (fun p' st' s' a1 a2 a3 a4=>⟨p',a1,a2,a3,a4⟩) ?_) ?_ fun _ _ e=>e)
 ·rw [hl]
  refine aip (lt:=fun i j=>HT.lexLt (uss.getD i []) (uss.getD j [])) (n:=uss.length) (fun i j C hi hj hC=>?_) _ _ ok ⟨rfl,rfl⟩
  exact aoa (tu2 i (by omega)).1 (tu2 j (by omega)).1 hC
 rintro ⟨⟨⟩,st'⟩ s' ⟨p,hp,har,hf,hpl,rfl⟩
 dsimp only
 have hout:=kat_snds rfl har
 have hsz:(List.toArray (p.toList.map fun i=>vs.getD i Value.none)).size=vs.length:=by rw [List.size_toArray,List.length_map,Array.length_toList,hp]
 rw [hout]
 refine wpAny_bind (seqEpoch_at na rfl ?_)
 refine wpAny_bind (listUpdate_at na rfl ?_ (Nat.zero_le _) (Nat.le_trans (Nat.le_of_eq hsz) (by rw [sizeLine_eq]; omega)))
 rw [hf]
 simp only [bne_self_eq_false,Bool.false_eq_true,if_false]
 refine wpAny_pure ?_
 rw [hpl]
 exact h
theorem aiH {l:Addr} {o:Obj} {T:String} {vs:List Value} {uss:List (List Int)} {n:Nat} {Q:Value→Shared→Prop} (hT:T="list"∨T="tuple") (ho:s.heap.get? l=some o) (hc:o.cls=.type T) (hd:o.data=.seq vs.toArray n) (hl:vs.length=uss.length) (h2:2≤vs.length) (h64:vs.length < 64) (ok:acq uss.length (kas_sort uss.length)=true)
  (tu:∀ i,i < vs.length→ai8 s.heap (vs.getD i Value.none) (uss.getD i [])∧uss.getD i []≠[])
  (h:∀ (h1 h':Heap) (c:Nat),(∀ b o',s.heap.get? b=some o'→h1.get? b=some o')→(∀ b o',h1.get? b=some o'→h'.get? b=some o')→h'.get? h1.objs.size=some (seqObj "list" (List.toArray ((aaL uss).map fun i=>vs.getD i Value.none)) c)→Q (.ref h1.objs.size) { s with heap:=h' }) :
  wpAny (model prog w) A (call (.builtin "sorted") [.ref l]) Q E s:=by
 refine PySem.Calls.call_function_entry kind_sorted plain_sorted entry_sorted (args_sorted1 _) ?_
 unfold Builtin.«sorted»
 refine wpAny_bind (m:=checkCount "sorted" 1 1 _) (wpAny_pure ?_)
 refine wpAny_bind (wpAny_collect_seq l hT ho hc hd (fun h1 k1=>?_) (by rw [List.size_toArray,sizeLine_eq]; omega))
 refine wpAny_bind (wpAny_newList ?_ (by rw [sizeLine_eq]; simp; omega))
 have hoL:(h1.push (seqObj "list" vs.toArray 0)).get? h1.objs.size=some (seqObj "list" vs.toArray 0):=Heap.get?_push_size _ rfl
 show wpAny _ _ _ _ _ { s with heap:=h1.push (seqObj "list" vs.toArray 0) }
 refine wpAny_bind (wpAny_holding (wpAny_call_entry slot_list_sort ⟨_,hoL,rfl⟩ entry_list_sort ?body (args_list_sort _)))
 case body =>
  refine agd (s:={ s with heap:=h1.push (seqObj "list" vs.toArray 0) }) hoL hl h2 h64 ok (fun i hi=>?_) ⟨_,rfl,wpAny_pure ⟨_,rfl,?_⟩⟩
  ·obtain ⟨⟨b,o,its,m,e,hb,hc,hd,r⟩,ne⟩:=tu i hi
   exact ⟨⟨b,o,its,m,e,Heap.get?_push_of_some _ (k1 b o hb),hc,hd,r⟩,ne⟩
  ·obtain ⟨e1,ho1⟩:∃ e1,((h1.push (seqObj "list" vs.toArray 0)).update h1.objs.size (Obj.mapSeq fun _=>(#[]:Array Value))).get? h1.objs.size=some (seqObj "list" #[] e1):=⟨_,get?_update_seq hoL fun _=>#[]⟩
   have ho2:=Heap.get?_push_of_some (seqObj "list" #[] 0) (Heap.get?_push_of_some (seqObj "tuple" vs.toArray 0) ho1)
   obtain ⟨e2,ho3⟩:∃ e2,(sortedHeap (h1.push (seqObj "list" vs.toArray 0)) h1.objs.size vs (List.toArray ((aaL uss).map fun i=>vs.getD i Value.none))).get? h1.objs.size=some (seqObj "list" (List.toArray ((aaL uss).map fun i=>vs.getD i Value.none)) e2):=⟨_,get?_update_seq ho2 fun _=>List.toArray ((aaL uss).map fun i=>vs.getD i Value.none)⟩
   refine h h1 _ e2 k1 (fun b o' hb1=>?_) ho3
   have hne:b≠h1.objs.size:=Nat.ne_of_lt (Heap.lt_size hb1)
   exact (Heap.get?_update_ne _ _ _ _ hne).trans (Heap.get?_push_of_some _ (Heap.get?_push_of_some _ ((Heap.get?_update_ne _ _ _ _ hne).trans (Heap.get?_push_of_some _ hb1))))
end
def anw (K:PySem.W.Frag) (H:Hp) (ts:List V) (uss:List (List Int)):Prop:=ts.length=uss.length∧∀ i t,ts[i]?=some t→∃ a,t=.ref a∧SqT K H a ((uss.getD i []).map V.int)∧uss.getD i []≠[]
theorem afI {X:Cx}:aeG X (.builtin "sorted") (fun xs H Q=>∃ (a:Addr) (ts:List V) (uss:List (List Int)),xs=[.ref a]∧(SqL X.K H a ts∨SqT X.K H a ts)∧anw X.K H ts uss∧2≤ts.length∧ts.length < 64∧acq uss.length (kas_sort uss.length)=true∧(aaL uss).length≤64 ∧
  ∀ l,H l=none→Q (.ref l) (upd H l (.lst ((aaL uss).map fun i=>ts.getD i .non)))):=by
 intro pins s σ H xs us Q I r h
 obtain ⟨a,ts,uss,rfl,hq,⟨hl,ht⟩,h2,h64,ok,hpl,q⟩:=h
 obtain ⟨u,rfl,ru⟩:=afr r
 cases ru
 have go:∀ (its:List Value) (T:String) (o:Obj) (n:Nat),Vals ts its→(T="list"∨T="tuple")→s.heap.get? a=some o→o.cls=.type T→o.data=.seq its.toArray n→ts.length≤sizeLine →
   wpAny (model X.prog X.w) X.A (call (.builtin "sorted") [.ref a]) (EP X pins σ Q) X.xe s:=fun its T o n rv hT ho hc hd hz=>by
  have hlen:=rv.length
  refine aiH (uss:=uss) hT ho hc hd (by omega) (by omega) (by omega) ok (fun i hi=>?_) fun h1 h' c k1 k2 e=>?_
  ·have hi':i < ts.length:=by omega
   obtain ⟨b,e1,sq,ne⟩:=ht i ts[i] (List.getElem?_eq_getElem hi')
   obtain ⟨v,e2,rel⟩:=rv.get (List.getElem?_eq_getElem hi')
   rw [e1] at rel
   cases rel
   obtain ⟨jts,rj,⟨o2,ho2,hc2,m,hd2⟩,_⟩:=I.tuple sq
   refine ⟨⟨b,o2,jts,m,?_,ho2,hc2,hd2,rj⟩,ne⟩
   rw [List.getD,e2]
   rfl
  ·have I1:Inv X pins σ H { s with heap:=h1,toks:=s.toks }:=I.kept k1
   have hz2:((aaL uss).map fun i=>ts.getD i .non).length≤sizeLine:=by
    rw [List.length_map,sizeLine_eq]
    omega
   have rel:∀ ps:List Nat,Vals (ps.map fun i=>ts.getD i .non) (ps.map fun i=>its.getD i Value.none):=fun ps=>by
    induction ps with
    | nil=>exact .nil
    | cons i ps ih =>
     refine .cons ?_ ih
     by_cases hi:i < ts.length
     ·obtain ⟨v,e2,rr⟩:=rv.get (List.getElem?_eq_getElem hi)
      have q1:ts.getD i .non=ts[i]:=by simp [List.getD,hi]
      have q2:its.getD i Value.none=v:=by simp [List.getD,e2]
      show RelV (ts.getD i .non) (its.getD i Value.none)
      rw [q1,q2]
      exact rr
     ·have q1:ts.getD i .non=.non:=by simp [List.getD,hi]
      have q2:its.getD i Value.none=Value.none:=by simp [List.getD,show its.length≤i by omega]
      show RelV (ts.getD i .non) (its.getD i Value.none)
      rw [q1,q2]
      rfl
   refine ⟨.ref h1.objs.size,_,I1.laid (t':=s.toks) (o:=.lst ((aaL uss).map fun i=>ts.getD i .non)) k2 (Nat.le_refl _) ?_,rfl,q _ (I1.hok.fresh (Nat.le_refl _))⟩
   exact ⟨hz2,_,c,rel _,e⟩
 rcases hq with hq | hq
 ·obtain ⟨its,rv,pl,hz⟩:=I.list hq
  obtain ⟨o,ho,hc,n,hd⟩:=pl.isList
  exact go its "list" o n rv (.inl rfl) ho hc hd hz
 ·obtain ⟨its,rv,⟨o,ho,hc,n,hd⟩,hz⟩:=I.tuple hq
  exact go its "tuple" o n rv (.inr rfl) ho hc hd hz
end L2
namespace L2.Pp
open PySem PySem.Spec PyProof.Rows Bn
open PySem.W (kas_sort)
section
variable {K:PySem.W.Frag}
def aeu:List PV→Option (List (List Int))
 | []=>some []
 | .tup us :: r=>match adf us,aeu r with
  | some is,some uss=>some (is :: uss)
  | _,_=>none
 | _ :: _=>none
theorem ah9:∀ {xs:List PV} {uss:List (List Int)},aeu xs=some uss→xs.length=uss.length
 | [],uss,e=>by cases e; rfl
 | .tup us :: r,uss,e=>by
  unfold aeu at e
  split at e
  ·rename_i is uss' h1 h2
   cases e
   rw [List.length_cons,List.length_cons,ah9 h2]
  ·cases e
 | .non :: _,_,e=>by cases e
 | .bl _ :: _,_,e=>by cases e
 | .int _ :: _,_,e=>by cases e
 | .str _ :: _,_,e=>by cases e
 | .lst _ :: _,_,e=>by cases e
theorem ajm {c:Addr→Prop} {H:Hp}:∀ {xs:List PV} {uss:List (List Int)} {vs:List V},aeu xs=some uss→Reps K c H xs vs→∀ i t,vs[i]?=some t→∃ a,t=.ref a∧SqT K H a ((uss.getD i []).map V.int)
 | [],uss,vs,e,r,i,t,h=>by
  unfold Reps at r
  subst r
  simp at h
 | .tup us :: r,uss,vs,e,rr,i,t,h=>by
  unfold aeu at e
  split at e
  ·rename_i is uss' h1 h2
   cases e
   unfold Reps at rr
   obtain ⟨v,w,rfl,r1,r2⟩:=rr
   cases i with
   | zero =>
    cases h
    unfold Rep at r1
    obtain ⟨a,ws,rfl,sq,_,r3⟩:=r1
    rw [ad0 h1 r3] at sq
    exact ⟨a,rfl,sq⟩
   | succ i =>
    have:=ajm h2 r2 i t (by simpa using h)
    simpa using this
  ·cases e
 | .non :: _,_,_,e,_,_,_,_=>by cases e
 | .bl _ :: _,_,_,e,_,_,_,_=>by cases e
 | .int _ :: _,_,_,e,_,_,_,_=>by cases e
 | .str _ :: _,_,_,e,_,_,_,_=>by cases e
 | .lst _ :: _,_,_,e,_,_,_,_=>by cases e
def amG (uss:List (List Int)):Prop:=2≤uss.length∧uss.length < 64∧acq uss.length (kas_sort uss.length)=true∧(aaL uss).length≤64∧∀ us∈uss,us≠[]
def amr (xs:List PV) (uss:List (List Int)):List PV:=(aaL uss).map fun i=>xs.getD i .non
open Classical in
noncomputable def aiT (xs:List PV):Option PV:=match aeu xs with
 | some uss=>if amG uss then some (.lst (amr xs uss)) else none
 | none=>none
noncomputable def ae7:List PV→Option PV
 | [.lst xs]=>aiT xs
 | [.tup xs]=>aiT xs
 | _=>none
theorem ag1 {c:Addr→Prop} {H:Hp} {xs:List PV} {vs:List V} (r:Reps K c H xs vs):∀ ps:List Nat,Reps K c H (ps.map fun i=>xs.getD i .non) (ps.map fun i=>vs.getD i .non)
 | []=>.nil
 | i :: ps=>by
  refine .cons ?_ (ag1 r ps)
  by_cases hi:i < xs.length
  ·obtain ⟨v,e1,e2⟩:=r.get (List.getElem?_eq_getElem hi)
   have q1:xs.getD i .non=xs[i]:=by simp [List.getD,hi]
   have q2:vs.getD i .non=v:=by simp [List.getD,e1]
   show Rep K c H (xs.getD i .non) (vs.getD i .non)
   rw [q1,q2]
   exact e2
  ·have hl:=r.length
   have q1:xs.getD i .non=.non:=by simp [List.getD,hi]
   have q2:vs.getD i .non=.non:=by simp [List.getD,show vs.length≤i by omega]
   show Rep K c H (xs.getD i .non) (vs.getD i .non)
   rw [q1,q2]
   unfold Rep
   rfl
theorem amb:CaR K (fun xs H Q=>∃ (a:Addr) (ts:List V) (uss:List (List Int)),xs=[.ref a]∧(SqL K H a ts∨SqT K H a ts)∧anw K H ts uss∧2≤ts.length∧ts.length < 64∧acq uss.length (kas_sort uss.length)=true∧(aaL uss).length≤64 ∧
  ∀ l,H l=none→Q (.ref l) (upd H l (.lst ((aaL uss).map fun i=>ts.getD i .non)))) ae7:=fun {p S H as c xs Q} s ra e k=>by
 have key:∀ (zs:List PV) (a:Addr) (vs:List V),aiT zs=some c→(SqL K H a vs∨SqT K H a vs)→Reps K p.c H zs vs→∃ (a':Addr) (ts:List V) (uss:List (List Int)),[V.ref a]=[.ref a']∧(SqL K H a' ts∨SqT K H a' ts)∧anw K H ts uss∧2≤ts.length∧ts.length < 64∧acq uss.length (kas_sort uss.length)=true∧(aaL uss).length≤64 ∧
   ∀ l,H l=none→Q (.ref l) (upd H l (.lst ((aaL uss).map fun i=>ts.getD i .non))):=fun zs a vs e sq r=>by
  unfold aiT at e
  split at e
  ·rename_i uss hu
   split at e
   ·rename_i hc
    cases e
    obtain ⟨c1,c2,c3,c4,c5⟩:=hc
    have l1:=ah9 hu
    have l2:=r.length
    refine ⟨a,vs,uss,rfl,sq,⟨by omega,fun i t h=>?_⟩,by omega,by omega,c3,c4,fun l hl=>?_⟩
    ·obtain ⟨b,e1,e2⟩:=ajm hu r i t h
     have hi:i < uss.length:=by
      have:=(List.getElem?_eq_some_iff.mp h).1
      omega
     refine ⟨b,e1,e2,?_⟩
     rw [List.getD,List.getElem?_eq_getElem hi]
     exact c5 _ (List.getElem_mem hi)
    ·refine k _ _ (abp hl) (aer s (ag1 r _) ?_ hl)
     rw [List.length_map,aa0]
     omega
   ·cases e
  ·cases e
 unfold ae7 at e
 split at e
 ·rename_i zs
  cases ra with
  | cons h t =>
   cases t
   obtain ⟨a,vs,rfl,l,z,r⟩:=h.lst
   exact key zs a vs e (.inl l) r
 ·rename_i zs
  cases ra with
  | cons h t =>
   cases t
   obtain ⟨a,vs,rfl,l,z,r⟩:=h.tup
   exact key zs a vs e (.inr l) r
 ·cases e
end
end L2.Pp
namespace L2
open PySem.W (KasT kas_sort)
theorem afv {α:Type} {lt lt':Nat→Nat→Bool} {n:Nat} (h:∀ i j,i < n→j < n→lt i j=lt' i j):∀ t:KasT α,acq n t=true→runP lt t=runP lt' t
 | .ret a,_=>rfl
 | .ask i j k,ok=>by
  unfold acq at ok
  simp only [Bool.and_eq_true,decide_eq_true_eq] at ok
  obtain ⟨⟨⟨hi,hj⟩,h1⟩,h2⟩:=ok
  show runP lt (k (lt i j))=runP lt' (k (lt' i j))
  rw [← h i j hi hj]
  refine afv h (k (lt i j)) ?_
  cases lt i j
  ·exact h2
  ·exact h1
theorem acN:∀ u:List Int,HT.lexLt u u=false
 | []=>rfl
 | x :: u=>by rw [HT.lexLt_cons,if_pos rfl,acN u]
theorem ahN:∀ u v:List Int,u=v∨HT.lexLt u v=true∨HT.lexLt v u=true
 | [],[]=>.inl rfl
 | [],_ :: _=>.inr (.inl rfl)
 | _ :: _,[]=>.inr (.inr rfl)
 | x :: u,y :: v=>by
  rw [HT.lexLt_cons,HT.lexLt_cons]
  by_cases h:x=y
  ·subst h
   rw [if_pos rfl,if_pos rfl]
   rcases ahN u v with h | h | h
   ·exact .inl (by rw [h])
   ·exact .inr (.inl h)
   ·exact .inr (.inr h)
  ·rw [if_neg h,if_neg (fun z=>h z.symm)]
   by_cases q:x < y
   ·exact .inr (.inl (by simpa using q))
   ·exact .inr (.inr (by simp; omega))
theorem ad2:∀ u v w:List Int,HT.lexLt u v=true→HT.lexLt v w=true→HT.lexLt u w=true
 | [],[],_,h,_=>by cases h
 | [],_ :: _,[],_,h=>by cases h
 | [],_ :: _,_ :: _,_,_=>rfl
 | _ :: _,[],_,h,_=>by cases h
 | _ :: _,_ :: _,[],_,h=>by cases h
 | x :: u,y :: v,z :: w,h1,h2=>by
  rw [HT.lexLt_cons] at h1 h2 ⊢
  by_cases e1:x=y
  ·subst e1
   rw [if_pos rfl] at h1
   by_cases e2:x=z
   ·rw [if_pos e2] at h2 ⊢
    exact ad2 u v w h1 h2
   ·rw [if_neg e2] at h2 ⊢
    exact h2
  ·rw [if_neg e1] at h1
   have h1:x < y:=by simpa using h1
   by_cases e2:y=z
   ·subst e2
    rw [if_neg e1]
    simpa using h1
   ·rw [if_neg e2] at h2
    have h2:y < z:=by simpa using h2
    rw [if_neg (by omega)]
    simp
    omega
theorem alj {u v:List Int} (h:HT.lexLt u v=true):HT.lexLt v u=false:=by
 cases q:HT.lexLt v u with
 | false=>rfl
 | true =>
  have:=ad2 u v u h q
  rw [acN] at this
  cases this
theorem akY {u v:List Int} (h:HT.lexLt u v=false) (g:HT.lexLt v u=false):u=v:=by
 rcases ahN u v with e | e | e
 ·exact e
 ·rw [h] at e; cases e
 ·rw [g] at e; cases e
def r3 (a b c d e f:Bool):Bool:=(!(a && b) || c) && (!(d && e) || f)
def okT (b:Nat→Nat→Bool) (n:Nat):Bool:=(List.range n).all fun i=>!(b i i) && (List.range n).all fun j=>!(b i j && b j i) && (List.range n).all fun k=>(!(b i j && b j k) || b i k) && (b i j || b j k || !(b i k))
def ak6 (b:Nat→Nat→Bool) (n:Nat) (ps:List (List Nat)):Bool:=let p:=(runP b (kas_sort n)).toList
 ps.contains p && (List.range n).all fun i=>(List.range n).all fun j=>!(decide (i < j)) || !(b (p.getD j 0) (p.getD i 0))
def aha:List (List Nat):=[[0,1,2],[0,2,1],[1,0,2],[1,2,0],[2,0,1],[2,1,0]]
def ag2:List (List Nat):=[[0,1,2,3],[0,1,3,2],[0,2,1,3],[0,2,3,1],[0,3,1,2],[0,3,2,1],[1,0,2,3],[1,0,3,2],[1,2,0,3],[1,2,3,0],[1,3,0,2],[1,3,2,0],
 [2,0,1,3],[2,0,3,1],[2,1,0,3],[2,1,3,0],[2,3,0,1],[2,3,1,0],[3,0,1,2],[3,0,2,1],[3,1,0,2],[3,1,2,0],[3,2,0,1],[3,2,1,0]]
def mt3 (b01 b02 b10 b12 b20 b21:Bool) (i j:Nat):Bool:=match i,j with
 | 0,1=>b01 | 0,2=>b02 | 1,0=>b10 | 1,2=>b12 | 2,0=>b20 | 2,1=>b21 | _,_=>false
def mt4 (b01 b02 b03 b10 b12 b13 b20 b21 b23 b30 b31 b32:Bool) (i j:Nat):Bool:=match i,j with
 | 0,1=>b01 | 0,2=>b02 | 0,3=>b03 | 1,0=>b10 | 1,2=>b12 | 1,3=>b13 | 2,0=>b20 | 2,1=>b21 | 2,3=>b23 | 3,0=>b30 | 3,1=>b31 | 3,2=>b32 | _,_=>false
theorem aoH:acq 3 (kas_sort 3)=true:=by decide +kernel
theorem anK:acq 4 (kas_sort 4)=true:=by decide +kernel
theorem all3:∀ b01 b02 b10 b12 b20 b21:Bool,okT (mt3 b01 b02 b10 b12 b20 b21) 3=true→ak6 (mt3 b01 b02 b10 b12 b20 b21) 3 aha=true:=by decide +kernel
theorem all4:∀ b01 b02 b03 b10 b12 b13 b20 b21 b23 b30 b31 b32:Bool,okT (mt4 b01 b02 b03 b10 b12 b13 b20 b21 b23 b30 b31 b32) 4=true→ak6 (mt4 b01 b02 b03 b10 b12 b13 b20 b21 b23 b30 b31 b32) 4 ag2=true:=by decide +kernel
theorem ami {b:Nat→Nat→Bool} {n:Nat} {uss:List (List Int)} (h:∀ i j,i < n→j < n→b i j=HT.lexLt (uss.getD i []) (uss.getD j [])):okT b n=true:=by
 unfold okT
 simp only [List.all_eq_true,List.mem_range,Bool.and_eq_true,Bool.not_eq_true',Bool.or_eq_true,Bool.and_eq_false_imp]
 intro i hi
 refine ⟨by rw [h i i hi hi,acN],fun j hj=>⟨fun q=>?_,fun k hk=>⟨?_,?_⟩⟩⟩
 ·rw [h i j hi hj] at q
  rw [h j i hj hi,alj q]
 ·rw [h i j hi hj,h j k hj hk,h i k hi hk]
  cases q1:HT.lexLt (uss.getD i []) (uss.getD j []) with
  | false=>exact .inl fun z=>by cases z
  | true =>
   cases q2:HT.lexLt (uss.getD j []) (uss.getD k []) with
   | false=>exact .inl fun _=>rfl
   | true=>exact .inr (ad2 _ _ _ q1 q2)
 ·rw [h i j hi hj,h j k hj hk,h i k hi hk]
  cases q1:HT.lexLt (uss.getD i []) (uss.getD j []) with
  | true=>exact .inl (.inl rfl)
  | false =>
   cases q2:HT.lexLt (uss.getD j []) (uss.getD k []) with
   | true=>exact .inl (.inr rfl)
   | false =>
    refine .inr ?_
    cases q3:HT.lexLt (uss.getD i []) (uss.getD k []) with
    | false=>rfl
    | true =>
     rcases ahN (uss.getD i []) (uss.getD j []) with e | e | e
     ·rw [e] at q3; rw [q2] at q3; cases q3
     ·rw [q1] at e; cases e
     ·have:=ad2 _ _ _ e q3
      rw [q2] at this
      cases this
end L2
namespace L2
open PySem.W (KasT kas_sort)
def abE (uss:List (List Int)):List (List Int):=(aaL uss).map fun i=>uss.getD i []
def leU (u v:List Int):Prop:=HT.lexLt v u=false
theorem agA {uss:List (List Int)} {n:Nat} {ps:List (List Nat)} (hl:uss.length=n) (ok:acq n (kas_sort n)=true) {b:Nat→Nat→Bool} (hb:∀ i j,i < n→j < n→b i j=HT.lexLt (uss.getD i []) (uss.getD j [])) (good:ak6 b n ps=true) (hp:∀ p∈ps,p.Perm (List.range n)) :
  aaL uss∈ps∧(aaL uss).Perm (List.range n)∧(abE uss).Pairwise leU:=by
 have e:aaL uss=(runP b (kas_sort n)).toList:=by
  unfold aaL
  rw [hl]
  exact congrArg Array.toList (afv (n:=n) (fun i j hi hj=>(hb i j hi hj).symm) _ ok)
 unfold ak6 at good
 simp only [Bool.and_eq_true,List.all_eq_true,List.mem_range] at good
 rw [← e] at good
 obtain ⟨g1,g2⟩:=good
 have m:aaL uss∈ps:=by simpa using g1
 have pm:=hp _ m
 refine ⟨m,pm,?_⟩
 have ln:(aaL uss).length=n:=by rw [pm.length_eq,List.length_range]
 unfold abE
 rw [List.pairwise_iff_getElem]
 intro i j hi hj hij
 rw [List.length_map] at hi hj
 have q:=g2 i (by omega) j (by omega)
 have pi:(aaL uss).getD i 0=(aaL uss)[i]:=by simp [List.getD,hi]
 have pj:(aaL uss).getD j 0=(aaL uss)[j]:=by simp [List.getD,hj]
 rw [pi,pj] at q
 have li:(aaL uss)[i] < n:=by
  have:=pm.subset (List.getElem_mem hi)
  simpa using this
 have lj:(aaL uss)[j] < n:=by
  have:=pm.subset (List.getElem_mem hj)
  simpa using this
 rw [hb _ _ lj li] at q
 simp only [List.getElem_map]
 unfold leU
 have d:decide (i < j)=true:=by simpa using hij
 rw [d] at q
 simpa using q
theorem alb:∀ p∈aha,p.Perm (List.range 3):=by decide
theorem alF:∀ p∈ag2,p.Perm (List.range 4):=by decide
theorem ahn {uss:List (List Int)} (h:uss.length=3):aaL uss∈aha∧(aaL uss).Perm (List.range 3)∧(abE uss).Pairwise leU:=by
 match uss,h with
 | [u0,u1,u2],_ =>
  have hb:∀ i j,i < 3→j < 3→mt3 (HT.lexLt u0 u1) (HT.lexLt u0 u2) (HT.lexLt u1 u0) (HT.lexLt u1 u2) (HT.lexLt u2 u0) (HT.lexLt u2 u1) i j=HT.lexLt (([u0,u1,u2]:List (List Int)).getD i []) (([u0,u1,u2]:List (List Int)).getD j []):=fun i j hi hj=>by
   match i,j,hi,hj with
   | 0,0,_,_=>exact (acN u0).symm
   | 0,1,_,_=>rfl
   | 0,2,_,_=>rfl
   | 1,0,_,_=>rfl
   | 1,1,_,_=>exact (acN u1).symm
   | 1,2,_,_=>rfl
   | 2,0,_,_=>rfl
   | 2,1,_,_=>rfl
   | 2,2,_,_=>exact (acN u2).symm
  exact agA rfl aoH hb (all3 _ _ _ _ _ _ (ami hb)) alb
theorem ahM {uss:List (List Int)} (h:uss.length=4):aaL uss∈ag2∧(aaL uss).Perm (List.range 4)∧(abE uss).Pairwise leU:=by
 match uss,h with
 | [u0,u1,u2,u3],_ =>
  have hb:∀ i j,i < 4→j < 4→mt4 (HT.lexLt u0 u1) (HT.lexLt u0 u2) (HT.lexLt u0 u3) (HT.lexLt u1 u0) (HT.lexLt u1 u2) (HT.lexLt u1 u3) (HT.lexLt u2 u0) (HT.lexLt u2 u1) (HT.lexLt u2 u3) (HT.lexLt u3 u0) (HT.lexLt u3 u1) (HT.lexLt u3 u2) i j=HT.lexLt (([u0,u1,u2,u3]:List (List Int)).getD i []) (([u0,u1,u2,u3]:List (List Int)).getD j []):=fun i j hi hj=>by
   match i,j,hi,hj with
   | 0,0,_,_=>exact (acN u0).symm
   | 0,1,_,_=>rfl
   | 0,2,_,_=>rfl
   | 0,3,_,_=>rfl
   | 1,0,_,_=>rfl
   | 1,1,_,_=>exact (acN u1).symm
   | 1,2,_,_=>rfl
   | 1,3,_,_=>rfl
   | 2,0,_,_=>rfl
   | 2,1,_,_=>rfl
   | 2,2,_,_=>exact (acN u2).symm
   | 2,3,_,_=>rfl
   | 3,0,_,_=>rfl
   | 3,1,_,_=>rfl
   | 3,2,_,_=>rfl
   | 3,3,_,_=>exact (acN u3).symm
  exact agA rfl anK hb (all4 _ _ _ _ _ _ _ _ _ _ _ _ (ami hb)) alF
theorem acb {uss:List (List Int)} (h:uss.length=3∨uss.length=4):(abE uss).Perm uss∧(abE uss).Pairwise leU:=by
 have key:∀ n,uss.length=n→(aaL uss).Perm (List.range n)→(abE uss).Perm uss:=fun n hn hp=>by
  have e:(List.range n).map (fun i=>uss.getD i [])=uss:=by
   refine List.ext_getElem (by simp [hn]) fun i h1 h2=>?_
   have hi:i < uss.length:=h2
   simp [List.getD,hi]
  have:=hp.map (fun i=>uss.getD i [])
  rw [e] at this
  exact this
 rcases h with h | h
 ·obtain ⟨_,hp,hs⟩:=ahn h
  exact ⟨key 3 h hp,hs⟩
 ·obtain ⟨_,hp,hs⟩:=ahM h
  exact ⟨key 4 h hp,hs⟩
theorem aga {A B:List (List Int)} (hp:A.Perm B) (ha:A.Pairwise leU) (hb:B.Pairwise leU):A=B :=
 hp.eq_of_pairwise (fun u v _ _ h g=>akY g h) ha hb
theorem afW {A B:List (List Int)} (hp:A.Perm B) (h:B.length=3∨B.length=4):abE A=abE B:=by
 obtain ⟨p1,s1⟩:=acb (uss:=A) (by rw [hp.length_eq]; exact h)
 obtain ⟨p2,s2⟩:=acb h
 exact aga (p1.trans (hp.trans p2.symm)) s1 s2
end L2
namespace L2
open PySem PySem.Spec PyProof.Rows Bn
theorem akF {X:Cx} {sc1 sc:Scope} {own1 own:List Str} {cap1 cap:List (Nat × Str)} {C:Addr} {s₀:Shared} {H₀:Hp} {ex:List Addr} (so:Scope) (hso:X.env.scope=so) (hk:so.kind=.function) (kind:sc.kind=.function) (names:∀ y∈sc.names,y.2=.local→sc.names.lookup y.1=some .local)
  (nocell:∀ y∈sc.names,y.2≠.cell) (free:∀ y∈sc.names,y.2=.free→sc1.names.lookup y.1=some .free∧so.names.lookup y.1=some .cell) (at':∀ p∈cap,(cmpN own1 cap1)[p.1]?=some p.2) (hcap:∀ p∈cap,sc.names.lookup p.2=some .free) :
  aeE (ac2 X sc1 (cmpN own1 cap1) C s₀ H₀ ex) sc own cap :=
 ⟨kind,names,nocell,fun y hy e=>by
  obtain ⟨f1,f2⟩:=free y hy e
  exact acs (env:=X.env) (by rw [hso]; exact hk) f1 (by show X.env.scope.names.lookup y.1=_; rw [hso]; exact f2),at',hcap⟩
end L2
namespace L2
open PySem PySem.Spec PyProof.Rows Bn
section
variable {M:Model} {A:Around} {E:Value→Shared→Prop} {s:Shared}
theorem agO {scope:Scope} {globals:Addr} {closure:List (Str × Addr)} {qual:Str} {outer:Env} {Q:Env→Shared→Prop}
  (hQ:Q (newEnv scope s.heap.objs.size globals (cellsFrom (s.heap.objs.size+1) scope.names closure) qual none .none (some outer) builtinsNs) { s with heap:=pushCells (s.heap.push { cls:=.type "dict",data:=.dict #[] }) scope.names }) :
  wpAny M A (newFunctionEnv scope globals closure [] qual none .none (some outer)) Q E s:=by
 simp only [newFunctionEnv,Option.isSome_some,if_true]
 refine wpAny_bind (wpAny_alloc ?_)
 refine wpAny_bind (wpAny_layCells _ (fun name kind cells=>by cases hkc:kind == NameKind.cell <;> simp [hkc]) _ _ _ _ ?_)
 rw [show ({ s with heap:=s.heap.push { cls:=.type "dict",data:=.dict #[] } }:Shared).heap.objs.size=s.heap.objs.size+1 from Heap.size_push ..]
 refine wpAny_bind ?_
 rw [List.forIn_nil]
 exact wpAny_pure (wpAny_pure hQ)
end
end L2
namespace L2
open PySem PySem.Spec PyProof.Rows Bn
theorem ako:∀ (names:List (Str × NameKind)) (n:Nat) (acc:List (Str × Addr)),(∀ x y c,acc.lookup x=some c→acc.lookup y=some c→x=y)→(∀ x c,acc.lookup x=some c→c < n) →
  ∀ x y c,(cellsFrom n names acc).lookup x=some c→(cellsFrom n names acc).lookup y=some c→x=y
 | [],n,acc,hi,_,x,y,c,e1,e2=>hi x y c e1 e2
 | (name,kind) :: r,n,acc,hi,hb,x,y,c,e1,e2=>by
  unfold cellsFrom at e1 e2
  by_cases k:(kind == NameKind.cell)=true
  ·rw [if_pos k] at e1 e2
   refine ako r (n+1) _ (fun x y c e1 e2=>?_) (fun x c e=>?_) x y c e1 e2
   ·rw [List.lookup_cons] at e1 e2
    cases wx:x == name with
    | true =>
     cases wy:y == name with
     | true=>rw [beq_iff_eq.mp wx,beq_iff_eq.mp wy]
     | false =>
      rw [wx] at e1
      rw [wy] at e2
      cases e1
      exact absurd (hb y _ e2) (Nat.lt_irrefl _)
    | false =>
     cases wy:y == name with
     | true =>
      rw [wx] at e1
      rw [wy] at e2
      cases e2
      exact absurd (hb x _ e1) (Nat.lt_irrefl _)
     | false =>
      rw [wx] at e1
      rw [wy] at e2
      exact hi x y c e1 e2
   ·rw [List.lookup_cons] at e
    cases wx:x == name with
    | true =>
     rw [wx] at e
     cases e
     exact Nat.lt_succ_self _
    | false =>
     rw [wx] at e
     exact Nat.lt_succ_of_lt (hb x c e)
  ·rw [if_neg k] at e1 e2
   exact ako r n acc hi hb x y c e1 e2
theorem agy {n0:Nat}:∀ (names:List (Str × NameKind)) (n:Nat) (acc:List (Str × Addr)) (x:Str),((∃ c,acc.lookup x=some c∧n0≤c)∨(x,NameKind.cell)∈names)→n0≤n→∃ c,(cellsFrom n names acc).lookup x=some c∧n0≤c
 | [],n,acc,x,h,hn=>by
  rcases h with h | h
  ·exact h
  ·cases h
 | (name,kind) :: r,n,acc,x,h,hn=>by
  unfold cellsFrom
  by_cases k:(kind == NameKind.cell)=true
  ·rw [if_pos k]
   refine agy r (n+1) _ x ?_ (Nat.le_succ_of_le hn)
   cases w:x == name with
   | true=>exact .inl ⟨n,by rw [List.lookup_cons,w],hn⟩
   | false =>
    rcases h with ⟨c,h,z⟩ | h
    ·exact .inl ⟨c,by rw [List.lookup_cons,w]; exact h,z⟩
    ·rcases List.mem_cons.mp h with z | z
     ·cases z
      simp at w
     ·exact .inr z
  ·rw [if_neg k]
   refine agy r n acc x ?_ hn
   rcases h with h | h
   ·exact .inl h
   ·rcases List.mem_cons.mp h with z | z
    ·cases z
     simp at k
    ·exact .inr z
theorem ahi {n0:Nat}:∀ (names:List (Str × NameKind)) (n:Nat) (acc:List (Str × Addr)) (x:Str) (c:Addr),n0≤n→(cellsFrom n names acc).lookup x=some c→n0≤c∨acc.lookup x=some c
 | [],n,acc,x,c,hn,e=>.inr e
 | (name,kind) :: r,n,acc,x,c,hn,e=>by
  unfold cellsFrom at e
  by_cases k:(kind == NameKind.cell)=true
  ·rw [if_pos k] at e
   rcases ahi r (n+1) _ x c (Nat.le_succ_of_le hn) e with z | z
   ·exact .inl z
   ·rw [List.lookup_cons] at z
    cases w:x == name with
    | true =>
     rw [w] at z
     cases z
     exact .inl hn
    | false =>
     rw [w] at z
     exact .inr z
  ·rw [if_neg k] at e
   exact ahi r n acc x c hn e
theorem aif:∀ (names:List (Str × NameKind)) (n:Nat) (acc:List (Str × Addr)) (x:Str),(x,NameKind.cell) ∉ names→(cellsFrom n names acc).lookup x=acc.lookup x
 | [],n,acc,x,h=>rfl
 | (name,kind) :: r,n,acc,x,h=>by
  unfold cellsFrom
  have hr:(x,NameKind.cell) ∉ r:=fun z=>h (List.mem_cons_of_mem _ z)
  by_cases k:(kind == NameKind.cell)=true
  ·rw [if_pos k,aif r _ _ x hr,List.lookup_cons]
   cases w:x == name with
   | true =>
    refine absurd ?_ h
    have e1:x=name:=by simpa using w
    have e2:kind=.cell:=by simpa using k
    rw [e1,e2]
    exact List.mem_cons_self
   | false=>rfl
  ·rw [if_neg k,aif r _ _ x hr]
theorem ahg:∀ (names:List (Str × NameKind)) (h:Heap) (acc:List (Str × Addr)),(∀ x c,acc.lookup x=some c→∃ v,h.IsCell c v)→∀ x c,(cellsFrom h.objs.size names acc).lookup x=some c→∃ v,(pushCells h names).IsCell c v
 | [],h,acc,hc,x,c,e=>hc x c e
 | (name,kind) :: r,h,acc,hc,x,c,e=>by
  unfold cellsFrom at e
  unfold pushCells
  by_cases k:(kind == NameKind.cell)=true
  ·rw [if_pos k] at e ⊢
   rw [← Heap.size_push h { cls:=.type "cell",data:=.cell none }] at e
   refine ahg r _ _ (fun y c e=>?_) x c e
   rw [List.lookup_cons] at e
   cases w:y == name with
   | true =>
    rw [w] at e
    cases e
    exact ⟨none,_,Heap.get?_push_size _ rfl,rfl⟩
   | false =>
    rw [w] at e
    obtain ⟨v,z⟩:=hc y c e
    exact ⟨v,z.keeps fun b o e=>Heap.get?_push_of_some _ e⟩
  ·rw [if_neg k] at e ⊢
   exact ahg r h acc hc x c e
theorem afJ {env:Env}:∀ {names:List (Str × NameKind)} {x:Str},
  (let l:=(names.map fun (n,k)=>if (k == NameKind.free && env.scope.kind == .function && env.kindOf n == some .cell) then (n,NameKind.cell) else (n,k)).lookup x; l=some .cell∨l=some .free)→(x,NameKind.free)∈names∨(x,NameKind.cell)∈names
 | [],x,h=>by
  rcases h with h | h <;> cases h
 | (n,k) :: r,x,h=>by
  dsimp only at h
  rw [List.map_cons] at h
  have ih:=@afJ env r x
  by_cases c:(k == NameKind.free && env.scope.kind == .function && env.kindOf n == some .cell)=true
  ·have kf:k=.free:=by
    simp only [Bool.and_eq_true,beq_iff_eq] at c
    exact c.1.1
   dsimp only at h
   rw [if_pos c,List.lookup_cons] at h
   cases w:x == n with
   | true =>
    have hx:x=n:=by simpa using w
    rw [hx,← kf]
    exact .inl List.mem_cons_self
   | false =>
    rw [w] at h
    exact (ih h).imp (List.mem_cons_of_mem _) (List.mem_cons_of_mem _)
  ·dsimp only at h
   rw [if_neg c,List.lookup_cons] at h
   cases w:x == n with
   | true =>
    rw [w] at h
    have hx:x=n:=by simpa using w
    rcases h with h | h
    ·have kf:k=.cell:=Option.some.inj h
     rw [hx,← kf]
     exact .inr List.mem_cons_self
    ·have kf:k=.free:=Option.some.inj h
     rw [hx,← kf]
     exact .inl List.mem_cons_self
   | false =>
    rw [w] at h
    exact (ih h).imp (List.mem_cons_of_mem _) (List.mem_cons_of_mem _)
theorem afH {env:Env}:∀ {names:List (Str × NameKind)} {x:Str},names.lookup x=some .cell →
  (names.map fun (n,k)=>if (k == NameKind.free && env.scope.kind == .function && env.kindOf n == some .cell) then (n,NameKind.cell) else (n,k)).lookup x=some .cell
 | [],x,h=>by cases h
 | (n,k) :: r,x,h=>by
  rw [List.map_cons]
  dsimp only
  rw [List.lookup_cons] at h
  cases w:x == n with
  | true =>
   rw [w] at h
   have kf:k=.cell:=Option.some.inj h
   subst kf
   rw [if_neg (by rw [show (NameKind.cell == NameKind.free)=false from rfl]; simp),List.lookup_cons,w]
  | false =>
   rw [w] at h
   have ih:=@afH env r x h
   by_cases c:(k == NameKind.free && env.scope.kind == .function && env.kindOf n == some .cell)=true
   ·rw [if_pos c,List.lookup_cons,w]
    exact ih
   ·rw [if_neg c,List.lookup_cons,w]
    exact ih
def acB (X:Cx) (sc:Scope) (N:List Str) (C:Addr) (s₀:Shared) (H₀:Hp) (ex:List Addr):Cx where
 prog:=X.prog
 w:=X.w
 K:=X.K
 mg:=X.mg
 base:=X.base
 A:=X.A
 N:=N
 s₀:=s₀
 H₀:=H₀
 env:=compEnvC sc (cellsFrom (C+1) sc.names (ac8 X.env sc.names [])) C X.env
 outer:=X.stack
 stack:=X.stack
 ex:=ex
 fn:=fun x=>sc.names.lookup x == some .cell
 calm:=X.calm
 pn:=[]
 xe:=fun _ _=>False
structure ae5 (X:Cx) (sc:Scope) (own:List Str) (cap:List (Nat × Str)):Prop where
 kind:sc.kind=.function
 names:∀ y∈sc.names,y.2=.local→sc.names.lookup y.1=some .local
 cells:∀ y∈sc.names,y.2=.cell→sc.names.lookup y.1=some .cell
 free:∀ y∈sc.names,y.2=.free→X.env.kindOf y.1=some .cell
 at':∀ p∈cap,X.N[p.1]?=some p.2
 cap:∀ p∈cap,sc.names.lookup p.2=some .free
section
variable {X:Cx} {sc:Scope} {own:List Str} {cap:List (Nat × Str)} {pins:List (Addr × Obj)} {σ:St} {H:Hp} {s:Shared} {elt target iter:Expr} {pos pos':Pos} {wi:TI} {g:TG} {te:TE} {Q:VK}
theorem ae5.has (k:ae5 X sc own cap) (ok:X.Ok):∀ p∈sc.names,p.2=.free→∃ c,X.env.cells.lookup p.1=some c:=fun p hp e=>ok.has p.1 (.inl (k.free p hp e))
theorem Inv.cmpC (k:ae5 X sc own cap) {h4:Heap} {fp:List Addr} {t':Nat} (I:Inv X pins σ H s) (hf:∀ b∈fp,FpOk X pins H b) (hlt:∀ b∈fp,b < s.heap.objs.size)
  (e4:h4=pushCells (s.heap.push { cls:=.type "dict",data:=.dict #[] }) sc.names):Inv (acB X sc (cmpN own cap) s.heap.objs.size s H fp) [] (aes own cap σ) H { s with heap:=h4,toks:=t' }:=by
 have kp:∀ b o,s.heap.get? b=some o→h4.get? b=some o:=fun b o e=>by
  rw [e4]
  exact pushCells_keeps _ _ b o (Heap.get?_push_of_some _ e)
 have hns:h4.Ns s.heap.objs.size (fun _=>none):=by
  rw [e4]
  exact (Heap.Ns.new ..).keeps fun b o e=>pushCells_keeps _ _ b o e
 have hcl:∀ y c,(ac8 X.env sc.names []).lookup y=some c→X.env.cells.lookup y=some c:=fun y c e=>by
  rcases adu sc.names [] (k.has I.ok) y c e with z | z
  ·cases z
  ·exact z
 have clt:∀ y c,X.env.cells.lookup y=some c→c < s.heap.objs.size:=fun y c e=>by
  obtain ⟨v,o,ho,_⟩:=I.cell y c e
  exact Heap.lt_size ho
 have hfr:∀ y c,(cellsFrom (s.heap.objs.size+1) sc.names (ac8 X.env sc.names [])).lookup y=some c→s.heap.objs.size < c∨X.env.cells.lookup y=some c:=fun y c e =>
  (ahi (n0:=s.heap.objs.size+1) sc.names _ _ y c (Nat.le_refl _) e).imp (fun z=>z) (hcl y c)
 have nst:∀ b∈fp,b ∉ frs X.stack:=fun b hb z=>by
  rcases List.mem_cons.mp (I.stkSub b z) with e | e
  ·exact (hf b hb).2.1 e
  ·exact (hf b hb).2.2.1 e
 refine ⟨⟨I.ok.mod,k.kind,I.ok.glob,I.ok.blt,Nat.le_refl _,fun x y c h1 h2=>?_,fun x hx=>?_,fun x c hfn e=>?_,I.ok.hd,I.ok.frames,.inl rfl,fun b hb=>⟨Nat.ne_of_lt (hlt b hb),fun x c e=>?_⟩,
  I.bs,Nat.le_trans I.ok.bsz I.sz,fun b o e hb=>?_,nst,I.stack,I.stkFree⟩,rfl,I.bare,Un.kept kp,⟨_,hns,fun i x v h1 h2 h3=>?_⟩,fun x c e=>?_,I.hok.fresh (Nat.le_refl _),fun x c e=>?_,fun p hp=>absurd (show p∈([]:List (Addr × Obj)) from hp) (by simp),I.hok.kept kp,?_⟩
 ·exact ako sc.names _ _ (fun x y c h1 h2=>I.ok.inj x y c (hcl x c h1) (hcl y c h2)) (fun x c e=>Nat.lt_succ_of_lt (clt x c (hcl x c e))) x y c h1 h2
 ·rcases afJ hx with z | z
  ·by_cases m:(x,NameKind.cell)∈sc.names
   ·obtain ⟨c,e,_⟩:=agy (n0:=0) sc.names (s.heap.objs.size+1) (ac8 X.env sc.names []) x (.inr m) (Nat.zero_le _)
    exact ⟨c,e⟩
   ·obtain ⟨c,e⟩:=acQ (env:=X.env) sc.names [] x (.inr z)
    exact ⟨c,(aif sc.names _ _ x m).trans e⟩
  ·obtain ⟨c,e,_⟩:=agy (n0:=0) sc.names (s.heap.objs.size+1) (ac8 X.env sc.names []) x (.inr z) (Nat.zero_le _)
   exact ⟨c,e⟩
 ·have hm:(x,NameKind.cell)∈sc.names:=PySem.mem_of_lookup (by simpa [acB] using hfn)
  obtain ⟨c',e',hc'⟩:=agy (n0:=s.heap.objs.size) sc.names (s.heap.objs.size+1) (ac8 X.env sc.names []) x (.inr hm) (Nat.le_succ _)
  have:=e'.symm.trans e
  cases this
  exact hc'
 ·rcases hfr x c e with z | z
  ·exact Nat.ne_of_gt (Nat.lt_trans (hlt b hb) z)
  ·exact (hf b hb).2.2.2.2.1 x c z
 ·rcases (hf b hb).2.2.2.1 with z | z
  ·exact I.ok.noex b o e z
  ·exact absurd (Nat.lt_of_lt_of_le (Heap.lt_size (I.ok.bs b o e).1) z) (Nat.lt_irrefl _)
 ·have hN:(cmpN own cap)[i]?=some x:=h1
  unfold cmpN at hN
  unfold aes at h2
  by_cases hi:i < own.length
  ·rw [List.getElem?_append_left (by simpa using hi),List.getElem?_map] at h2
   cases e:own[i]? with
   | none=>rw [e] at h2; cases h2
   | some z=>rw [e] at h2; cases h2
  ·rw [List.getElem?_append_right (by simpa using hi),List.getElem?_map,List.length_map] at h2
   rw [List.getElem?_append_right (by omega),List.getElem?_map] at hN
   cases e:cap[i - own.length]? with
   | none=>rw [e] at h2; cases h2
   | some p =>
    rw [e] at h2 hN
    have hp:p∈cap:=List.mem_of_getElem? e
    have hx:p.2=x:=Option.some.inj hN
    have hv:(σ[p.1]?).join=some v:=Option.some.inj h2
    have hv':σ[p.1]?=some (some v):=by
     cases e2:σ[p.1]? with
     | none=>rw [e2] at hv; cases hv
     | some z=>rw [e2] at hv; exact congrArg some hv
    have fr:=k.cap p hp
    have nc:(p.2,NameKind.cell) ∉ sc.names:=fun z=>by
     have:=k.cells _ z rfl
     rw [fr] at this
     cases this
    have kc:X.env.kindOf p.2=some .cell:=k.free (p.2,.free) (PySem.mem_of_lookup fr) rfl
    obtain ⟨m0,_,hl⟩:=I.loc
    obtain ⟨u,ru,lk⟩:=hl p.1 p.2 v (k.at' p hp) hv' (.inr (.inl kc))
    refine ⟨u,ru,?_⟩
    rcases lk with ⟨k1,_⟩ | ⟨_,c,ec,cell⟩
    ·rw [kc] at k1
     cases k1
    ·rw [← hx]
     obtain ⟨c',ec'⟩:=acQ (env:=X.env) sc.names [] p.2 (.inr (PySem.mem_of_lookup fr))
     have:=(hcl _ _ ec').symm.trans ec
     cases this
     obtain ⟨o,ho,hd⟩:=cell
     exact .inr ⟨.inl (acs I.ok.kind fr kc),c,(aif sc.names _ _ p.2 nc).trans ec',o,kp c o ho,hd⟩
 ·show ∃ v,h4.IsCell c v
  rw [e4]
  refine ahg sc.names _ (ac8 X.env sc.names []) (fun y c e=>?_) x c (by rw [Heap.size_push]; exact e)
  obtain ⟨v,z⟩:=I.cell y c (hcl y c e)
  exact ⟨v,z.keeps fun b o e=>Heap.get?_push_of_some _ e⟩
 ·rcases hfr x c e with z | z
  ·exact I.hok.fresh (Nat.le_of_lt z)
  ·exact I.freeC x c z
 ·unfold aes
  show _=(cmpN own cap).length
  unfold cmpN
  rw [List.length_append,List.length_append,List.length_map,List.length_map,List.length_map]
theorem Inv.uncmpC {s3 s':Shared} {H3 H':Hp} {N:List Str} {σ':St} {C:Addr} {fp:List Addr} {pl:List (Addr × Obj)} (I:Inv X pins σ H s) (hf:∀ b∈fp,FpOk X pins H b) (u:Un (frs X.stack) fp H H3 s.heap s3.heap) (os:s3.os=s.os)
  (J:Inv (acB X sc N C s3 H3 fp) pl σ' H' s'):Inv X pins σ H' s':=by
 have os':s'.os=s.os:=(show s'.os=s3.os from J.os).trans os
 refine I.call' (ch:=fp) os' (u.trans J.base) J.hok J.bare fun b hb=>?_
 obtain ⟨_,f1,_,f3,f4,f5⟩:=hf b hb
 exact ⟨f3,f1,f4,f5⟩
theorem aiZ {use:Option (Value→Sem Unit)} {Qf:Value→Shared→Prop} (k:ae5 X sc own cap) (hi:PI X target iter wi) (hc:X.calm=true)
  (hg:∀ C s₀ H₀ ex,PG (acB X sc (cmpN own cap) C s₀ H₀ ex) target g) (he:∀ C s₀ H₀ ex,PE (acB X sc (cmpN own cap) C s₀ H₀ ex) elt te) (I:Inv X pins σ H s) (h:aj3 own cap wi g te σ H Q)
  (fin:∀ D C s' H' m,Inv X pins σ H' s'→FpOk X pins H' C→s'.heap.Ns C m→Q (.ref D) H'→compPost (model X.prog X.w) X.A X.xe use Qf (.ref D) C (.ok .next) s')
  (hs:∀ x,foldedSetIterable iter X.env x=pure x) :
  wpAny (model X.prog X.w) X.A (comprehension (.ListComp elt [⟨target,iter,[],0⟩] sc pos) sc X.env pos' (newList []) false (eval iter X.env) use) Qf X.xe s:=by
 refine wpAny_comprehension_free (use:=use) rfl hs (aj9 (k.has I.ok)) k.kind k.names ?_
 refine thn (hi pins s σ H _ I h) fun v s1 h1=>thn h1 fun itv s2 h2=>?_
 obtain ⟨it,fp,tn,J,H2,e,I2,T,st2,f2,hW⟩:=h2
 subst e
 refine wpAny_newObj_type (agO ?_)
 have hsz:(s2.heap.push { cls:=.type "list",data:=.seq ([]:List Value).toArray }).objs.size=s2.heap.objs.size+1:=Heap.size_push ..
 have I3:Inv X pins σ (upd H2 s2.heap.objs.size (.lst [])) { s2 with heap:=s2.heap.push { cls:=.type "list",data:=.seq ([]:List Value).toArray },toks:=s2.toks }:=I2.lnew (ys:=[]) (its:=[]) .nil (Nat.zero_le _)
 have hD:H2 s2.heap.objs.size=none:=I2.fresh
 have ltf:∀ b∈fp,b < s2.heap.objs.size:=fun b hb=>by
  obtain ⟨o,ho,_⟩:=T.obj _ _ st2 b hb
  exact Heap.lt_size ho
 have f3:∀ b∈fp,FpOk X pins (upd H2 s2.heap.objs.size (.lst [])) b:=fun b hb=>⟨by rw [aaG (Nat.ne_of_lt (ltf b hb))]; exact (f2 b hb).1,(f2 b hb).2⟩
 have un:Un (frs X.stack) fp H2 (upd H2 s2.heap.objs.size (.lst [])) s2.heap (s2.heap.push { cls:=.type "list",data:=.seq ([]:List Value).toArray }):=Un.laid (fun b u q=>Heap.get?_push_of_some _ q) (Nat.le_refl _) hD
 have kp:∀ b o,(s2.heap.push { cls:=.type "list",data:=.seq ([]:List Value).toArray }).get? b=some o→(pushCells ((s2.heap.push { cls:=.type "list",data:=.seq ([]:List Value).toArray }).push { cls:=.type "dict",data:=.dict #[] }) sc.names).get? b=some o:=fun b o q=>pushCells_keeps _ _ b o (Heap.get?_push_of_some _ q)
 have J0:=I3.cmpC (t':=s2.toks) k f3 (fun b hb=>Nat.lt_of_lt_of_le (ltf b hb) (by rw [Heap.size_push]; exact Nat.le_succ _)) rfl
 have stat:∀ {H':Hp},(∀ b∈fp,H' b=none)→∀ b∈fp,FpOk (acB X sc (cmpN own cap) (s2.heap.push { cls:=.type "list",data:=.seq ([]:List Value).toArray }).objs.size { s2 with heap:=s2.heap.push { cls:=.type "list",data:=.seq ([]:List Value).toArray },toks:=s2.toks } (upd H2 s2.heap.objs.size (.lst [])) fp) [] H' b:=fun hn b hb =>
  ⟨hn b hb,(J0.ok.exf b hb).1,J0.ok.exfs b hb,.inl hb,(J0.ok.exf b hb).2,fun p hp=>absurd (show p∈([]:List (Addr × Obj)) from hp) (by simp)⟩
 have st4:tn 0 (pushCells ((s2.heap.push { cls:=.type "list",data:=.seq ([]:List Value).toArray }).push { cls:=.type "dict",data:=.dict #[] }) sc.names):=T.keep _ _ _ st2 fun b hb o q=>kp b o (Heap.get?_push_of_some _ q)
 have fr0:∀ b∈fp,(upd H2 s2.heap.objs.size (.lst [])) b=none:=fun b hb=>(f3 b hb).1
 have loop:codeAny (model X.prog X.w) X.A (.compLoop (.ListComp elt [⟨target,iter,[],0⟩] sc pos) 0 (.ref it) (.ref s2.heap.objs.size) (compEnvC sc (cellsFrom ((s2.heap.push { cls:=.type "list",data:=.seq ([]:List Value).toArray }).objs.size+1) sc.names (ac8 X.env sc.names [])) (s2.heap.push { cls:=.type "list",data:=.seq ([]:List Value).toArray }).objs.size X.env))
   (compPost (model X.prog X.w) X.A X.xe use Qf (.ref s2.heap.objs.size) (s2.heap.push { cls:=.type "list",data:=.seq ([]:List Value).toArray }).objs.size) { s2 with heap:=(pushCells ((s2.heap.push { cls:=.type "list",data:=.seq ([]:List Value).toArray }).push { cls:=.type "dict",data:=.dict #[] }) sc.names),toks:=s2.toks }:=by
  obtain ⟨W,⟨m0,w0⟩,turn⟩:=hW s2.heap.objs.size hD
  refine agt (fun n s'=>∃ i σ' H' ys,Inv (acB X sc (cmpN own cap) (s2.heap.push { cls:=.type "list",data:=.seq ([]:List Value).toArray }).objs.size { s2 with heap:=s2.heap.push { cls:=.type "list",data:=.seq ([]:List Value).toArray },toks:=s2.toks } (upd H2 s2.heap.objs.size (.lst [])) fp) [] σ' H' s'∧tn i s'.heap∧(∀ b∈fp,H' b=none)∧W i n σ' H' ys) ?_ m0
   ⟨0,_,_,[],J0,st4,fr0,w0⟩
  rintro n s5 ⟨i,σ5,H5,ys,I5,st5,fr5,w5⟩
  obtain ⟨hD5,w5⟩:=turn i n σ5 H5 ys w5
  rcases w5 with ⟨stop,qn⟩ | ⟨go,hlt,step⟩
  ·refine thn (T.done (acB X sc (cmpN own cap) (s2.heap.push { cls:=.type "list",data:=.seq ([]:List Value).toArray }).objs.size { s2 with heap:=s2.heap.push { cls:=.type "list",data:=.seq ([]:List Value).toArray },toks:=s2.toks } (upd H2 s2.heap.objs.size (.lst [])) fp) rfl rfl rfl hc i [] s5 σ5 H5 _ I5 (stat fr5) st5 stop) fun r s6 ⟨hr,I6⟩=>?_
   subst hr
   obtain ⟨m,hn,_⟩:=id I6.loc
   exact fin _ _ s6 H5 m (I2.uncmpC (s3:={ s2 with heap:=s2.heap.push { cls:=.type "list",data:=.seq ([]:List Value).toArray },toks:=s2.toks }) f2 un rfl I6) (I3.fpOk (Nat.le_refl _) I6.free) hn qn
  ·refine thn (T.item (acB X sc (cmpN own cap) (s2.heap.push { cls:=.type "list",data:=.seq ([]:List Value).toArray }).objs.size { s2 with heap:=s2.heap.push { cls:=.type "list",data:=.seq ([]:List Value).toArray },toks:=s2.toks } (upd H2 s2.heap.objs.size (.lst [])) fp) rfl rfl rfl hc i [] s5 σ5 H5 _ I5 (stat fr5) st5 go) fun r s6 ⟨u,hr,h6⟩=>?_
   subst hr
   refine thn h6 fun _ s7 ⟨x,H7,I7,r7,y7,st7,fr7⟩=>?_
   have I7':=I7.pinned (stat fr7) (T.obj _ _ st7)
   refine thn (hg _ _ _ _ _ s7 σ5 H7 x u _ I7' r7 (step x H7 y7)) fun _ s8 ⟨σ8,H8,I8,q8⟩=>?_
   refine thn (he _ _ _ _ _ s8 σ8 H8 _ I8 q8) fun v9 s9 ⟨y,H9,I9,r9,hD9,m',hm,w9⟩=>?_
   refine thn (adX _ s9 σ8 H9 (.ref s2.heap.objs.size) [y] (.ref s2.heap.objs.size) [v9] (fun _ H'=>H'=upd H9 s2.heap.objs.size (.lst (ys++[y]))) I9 rfl (.cons r9 .nil) ⟨_,ys,y,rfl,rfl,hD9,hlt,rfl⟩) fun _ s10 ⟨_,H10,I10,_,q10⟩=>?_
   subst q10
   refine ⟨m',hm,i+1,σ8,_,_,I10.unpinned,T.keep _ _ _ st7 fun b hb o q=>(I10.pin (b,o) (List.mem_append_right _ (List.mem_append_right _ (acj hb q)))).1,fun b hb=>?_,w9⟩
   obtain ⟨o,q,d⟩:=T.obj _ _ st7 b hb
   exact (I10.pin (b,o) (List.mem_append_right _ (List.mem_append_right _ (acj hb q)))).2.1
 exact codeAny_compStart_list loop (T.self _ 0 _ _ _ st4 loop)
theorem ali (k:ae5 X sc own cap) (hi:PI X target iter wi) (hc:X.calm=true)
  (hg:∀ C s₀ H₀ ex,PG (acB X sc (cmpN own cap) C s₀ H₀ ex) target g) (he:∀ C s₀ H₀ ex,PE (acB X sc (cmpN own cap) C s₀ H₀ ex) elt te)
  (hs:∀ x,foldedSetIterable iter X.env x=pure x:=by intro _; rfl):PE X (.ListComp elt [⟨target,iter,[],0⟩] sc pos) (aj3 own cap wi g te):=by
 intro pins s σ H Q I h
 rw [eval_ListComp]
 refine aiZ (use:=none) k hi hc hg he I h (fun D C s' H' m I' fC hn q=>?_) hs
 refine ⟨m,hn,fun h' sb=>⟨.ref D,H',?_,rfl,q⟩⟩
 obtain ⟨f0,f1,f2,f3,f4,f5⟩:=fC
 exact I'.turned (t':=s'.toks) (fun b o hb e=>(sb.2 b hb).trans e) f0 f1 f3 f4 f5
theorem anp {X:Cx} {sc:Scope} {own:List Str} {cap:List (Nat × Str)} (so:Scope) (N:List Str) (hso:X.env.scope=so) (hN:X.N=N) (kind:sc.kind=.function) (names:∀ y∈sc.names,y.2=.local→sc.names.lookup y.1=some .local)
  (cells:∀ y∈sc.names,y.2=.cell→sc.names.lookup y.1=some .cell) (free:∀ y∈sc.names,y.2=.free→so.names.lookup y.1=some .cell) (at':∀ p∈cap,N[p.1]?=some p.2) (hcap:∀ p∈cap,sc.names.lookup p.2=some .free):ae5 X sc own cap :=
 ⟨kind,names,cells,fun y hy e=>by show X.env.scope.names.lookup y.1=_; rw [hso]; exact free y hy e,fun p hp=>by rw [hN]; exact at' p hp,hcap⟩
theorem ane {X:Cx} {sc1 sc:Scope} {own1 own:List Str} {cap1 cap:List (Nat × Str)} {C:Addr} {s₀:Shared} {H₀:Hp} {ex:List Addr} (so:Scope) (hso:X.env.scope=so) (hk:so.kind=.function) (kind:sc.kind=.function) (names:∀ y∈sc.names,y.2=.local→sc.names.lookup y.1=some .local)
  (nocell:∀ y∈sc.names,y.2≠.cell) (free:∀ y∈sc.names,y.2=.free→sc1.names.lookup y.1=some .cell∨(sc1.names.lookup y.1=some .free∧so.names.lookup y.1=some .cell)) (at':∀ p∈cap,(cmpN own1 cap1)[p.1]?=some p.2) (hcap:∀ p∈cap,sc.names.lookup p.2=some .free) :
  aeE (acB X sc1 (cmpN own1 cap1) C s₀ H₀ ex) sc own cap :=
 ⟨kind,names,nocell,fun y hy e=>by
  rcases free y hy e with f | ⟨f1,f2⟩
  ·exact afH (env:=X.env) f
  ·exact acs (env:=X.env) (by rw [hso]; exact hk) f1 (by show X.env.scope.names.lookup y.1=_; rw [hso]; exact f2),at',hcap⟩
end
end L2
namespace L2.Pp
open PySem PySem.Spec PyProof.Rows Bn
section
variable {K:PySem.W.Frag} {cl:Str→Addr} {E:XK} {X:Cx} {p q:Ph} {H H':Hp} {S:Sto}
variable {sc:Scope} {own:List Str} {cap:List (Nat × Str)} {elt target iter:Expr} {pos:Pos} {mi:MI} {g:GM} {me:ME}
theorem alM (k:ae5 X sc own cap) (hi:PIp K cl E X target iter mi) (hc:X.calm=true) (hg:∀ C s₀ H₀ ex,PGp K (acB X sc (cmpN own cap) C s₀ H₀ ex) target g) (he:∀ C s₀ H₀ ex,PEp K cl E0 (acB X sc (cmpN own cap) C s₀ H₀ ex) elt me)
  (hs:∀ x,foldedSetIterable iter X.env x=pure x:=by intro _; rfl):PEp K cl E X (.ListComp elt [⟨target,iter,[],0⟩] sc pos) (aaC own cap mi g me):=by
 intro hK
 refine PE.imp (ali k (hi hK) hc (fun C s₀ H₀ ex=>hg C s₀ H₀ ex hK) (fun C s₀ H₀ ex=>he C s₀ H₀ ex hK) hs) fun σ H Q ⟨p,S,ρ,s,ev,h⟩=>?_
 exact aaH s ev h fun q H' xs J S' stp sm ev it kk D hD=>aeZ sm ev it kk hD
end
end L2.Pp
namespace L2.Pp
open PySem PySem.Spec PyProof.Rows Bn
def Pl1 (k:Nat) (S:Sto):Prop:=∀ (j:Nat) (o:SO),S[j]?=some o→j≠k→∃ xs,o=.lst xs
def Pl (S:Sto):Prop:=∀ (j:Nat) (o:SO),S[j]?=some o→∃ xs,o=.lst xs
section
variable {K:PySem.W.Frag} {cl:Str→Addr} {E:XK} {X:Cx} {a e:Expr} {m:ME} {ms:MA} {pos:Pos} {p q:Ph} {H H':Hp} {S:Sto}
theorem Sim.pushO (s:Sim K p S H) {D:Addr} {o:SO} {ho:HO} (h:H D=none) (mo:Mb ho) (ob:SObj K ⟨p.f++[D],fun a=>p.w a∨a=D,fun a=>p.c a∨a=D⟩ (upd H D ho) D o) :
  let q:Ph:=⟨p.f++[D],fun a=>p.w a∨a=D,fun a=>p.c a∨a=D⟩
  Step p H q (upd H D ho)∧Sim K q (S++[o]) (upd H D ho):=by
 intro q
 obtain ⟨st0,sm0⟩:=s.res (D:=D) (o:=ho) h mo
 have nf0:D ∉ p.f:=fun z=>s.notin h (s.wc D (s.sub D z))
 refine ⟨⟨st0.wc,st0.mu,⟨[D],rfl⟩,st0.mw,st0.mono,fun a x n=>?_,st0.nw,st0.nc,st0.keep⟩,?_,by simp [q,s.len],fun a x=>?_,sm0.wc,sm0.mu,fun k a u e1 e2=>?_⟩
 ·rcases List.mem_append.mp x with z | z
  ·exact absurd z n
  ·have:a=D:=by simpa using z
   rw [this]
   exact h
 ·show (p.f++[D]).Nodup
  rw [List.nodup_append]
  refine ⟨s.nd,by simp,fun a ha b hb z=>?_⟩
  have:b=D:=by simpa using hb
  exact nf0 (this ▸ z ▸ ha)
 ·rcases List.mem_append.mp x with z | z
  ·exact .inl (s.sub a z)
  ·exact .inr (by simpa using z)
 ·by_cases hk:k < S.length
  ·have e1':p.f[k]?=some a:=by
    have e1:(p.f++[D])[k]?=some a:=e1
    rwa [List.getElem?_append_left (by rw [s.len]; exact hk)] at e1
   rw [List.getElem?_append_left hk] at e2
   refine (s.obj k a u e1' e2).mono (fun vs e=>by rw [aaG (aaN e h)]; exact e) (fun b w f=>⟨⟨.inl w,fun m=>?_⟩,fun vs e=>by rw [aaG (aaN e h)]; exact e⟩) fun _ _ r=>st0.reps r
   rcases List.mem_append.mp m with z | z
   ·exact f z
   ·have:b=D:=by simpa using z
    exact s.notin h (this ▸ s.wc b w)
  ·have hk':k=S.length:=by
    have:=(List.getElem?_eq_some_iff.mp e2).1
    simp at this
    omega
   subst hk'
   rw [List.getElem?_append_right (Nat.le_refl _),Nat.sub_self] at e2
   have e1:(p.f++[D])[S.length]?=some a:=e1
   rw [← s.len,List.getElem?_append_right (Nat.le_refl _),Nat.sub_self] at e1
   cases e1
   cases e2
   exact ob
def an4 (xs:List AV) (S:Sto):Res AV:=match (abb S xs).bind aak with
 | some (.lst vs)=>.ok (.ref S.length) (S++[.lol [vs]])
 | _=>.fail
def mLol (ms:MA):ME:=fun ρ S=>(ms ρ S).bind an4
theorem ajE {as:List AV} {xs:List V} {vs:List PV} (s:Sim K p S H) (r:ac6 K p H as xs) (h:(abb S as).bind aak=some (.lst vs)) :
  ∃ b ws,xs=[.ref b]∧(SqL K H b ws∨SqT K H b ws)∧ws.length≤sizeLine∧Reps K p.c H vs ws:=by
 cases z:abb S as with
 | none=>rw [z] at h; cases h
 | some us =>
  rw [z] at h
  have rr:=ad3 s r z
  cases rr with
  | nil=>cases h
  | cons g t =>
   rename_i u x ut xt
   cases t with
   | cons _ _=>cases u <;> cases h
   | nil =>
    cases u with
    | lst ws =>
     cases h
     obtain ⟨a,ws,rfl,l,z,r⟩:=g.lst
     exact ⟨a,ws,rfl,.inl l,z,r⟩
    | tup ws =>
     cases h
     obtain ⟨a,ws,rfl,l,z,r⟩:=g.tup
     exact ⟨a,ws,rfl,.inr l,z,r⟩
    | _=>cases h
theorem aop {x:Str} {p lp:Pos} (hx:x="list") (hg:Gl X "list") (hm:X.mg "list"=none) (ha:PAp K cl E X [e] ms) (he:starEach [e] X.env=[(false,eval e X.env)]:=by rfl)
  (hs:starEach [.Call (.Name x p) [e] [] pos] X.env=[(false,eval (.Call (.Name x p) [e] [] pos) X.env)]:=by rfl):PEp K cl E X (.List [.Call (.Name x p) [e] [] pos] lp) (mLol ms):=by
 intro hK
 subst hK hx
 refine PE.imp (aj2 (agk (ad8 acH hg hm (by decide +kernel) (ha rfl) (by decide) (by decide) he rfl) ahR hs)) fun σ H Q ⟨p,S,ρ,s,ev,h⟩=>?_
 refine aaH s ev h fun q H1 as xs S1 st s1 e1 r1 h1=>?_
 unfold an4 at h1
 split at h1
 ·rename_i vs hv
  obtain ⟨b,ws,rfl,sq,hl,r⟩:=ajE s1 r1 hv
  refine ⟨b,ws,rfl,sq,fun l hn=>⟨by show 1≤sizeLine; decide,fun t ht=>?_⟩⟩
  obtain ⟨st2,sm2⟩:=s1.res (D:=l) (o:=.lst ws) hn trivial
  have ne:l≠t:=fun z=>by rw [← z,aa1] at ht; cases ht
  have nf:l ∉ q.f:=fun z=>s1.notin hn (s1.wc l (s1.sub l z))
  have st3:=(sm2.res (D:=t) (o:=.lst [.ref l]) ht trivial).1
  have ob:SObj X.K ⟨(q.res l).f++[t],fun a=>(q.res l).w a∨a=t,fun a=>(q.res l).c a∨a=t⟩ (upd (upd H1 l (.lst ws)) t (.lst [.ref l])) t (.lol [vs]):=by
   refine ⟨[l],aa1,by show 1≤sizeLine; decide,by simp,fun c hc=>?_,rfl,fun i ys c e1 e2=>?_⟩
   ·have:c=l:=by simpa using hc
    subst this
    refine ⟨.inl (.inr rfl),fun m=>?_⟩
    rcases List.mem_append.mp m with z | z
    ·exact nf z
    ·exact ne (by simpa using z)
   ·cases i with
    | zero =>
     cases e1
     cases e2
     exact ⟨ws,by rw [aaG ne,aa1],hl,st3.reps (st2.reps r)⟩
    | succ i=>simp at e1
  obtain ⟨st4,sm4⟩:=sm2.pushO (D:=t) (ho:=.lst [.ref l]) ht trivial ob
  exact h1 _ _ (.ref t) (st2.trans st4) sm4 ⟨t,by show (q.f++[t])[S1.length]?=some t; rw [← s1.len,List.getElem?_append_right (Nat.le_refl _),Nat.sub_self]; rfl,rfl⟩
 ·exact h1.elim
def appL (k:Nat) (ys:List AV) (S:Sto):Res AV:=match (abb S ys).bind aak,S[k]? with
 | some (.lst vs),some (.lol xss)=>if xss.length < 16777216 then .ok (.pv .non) (S.set k (.lol (xss++[vs]))) else .fail
 | _,_=>.fail
def anV (m:ME) (ms:MA):ME:=fun ρ S=>(m ρ S).bind fun k S1=>acZ k fun k=>(ms ρ S1).bind fun ys S2=>appL k ys S2
theorem Sim.growL (s:Sim K p S H) {k:Nat} {D l:Addr} {xss:List (List PV)} {bs:List Addr} {ys:List PV} {ws:List V} (h:p.f[k]?=some D) (hS:S[k]?=some (.lol xss)) (hn:H l=none) (hl:ws.length≤sizeLine) (r:Reps K p.c H ys ws) (hH:H D=some (.lst (bs.map V.ref))) (hz:bs.length < sizeLine) :
  Step p H (p.res l) (upd (upd H l (.lst ws)) D (.lst ((bs++[l]).map V.ref)))∧Sim K (p.res l) (S.set k (.lol (xss++[ys]))) (upd (upd H l (.lst ws)) D (.lst ((bs++[l]).map V.ref))):=by
 obtain ⟨st2,sm2⟩:=s.res (D:=l) (o:=.lst ws) hn trivial
 have hk:k < S.length:=(List.getElem?_eq_some_iff.mp hS).1
 have mD:D∈p.f:=List.mem_of_getElem? h
 have w:(p.res l).w D:=.inl (s.sub D mD)
 have neD:D≠l:=fun z=>by rw [z,hn] at hH; cases hH
 have nl:l ∉ p.f:=fun z=>s.notin hn (s.wc l (s.sub l z))
 have st3:Step (p.res l) (upd H l (.lst ws)) (p.res l) (upd (upd H l (.lst ws)) D (.lst ((bs++[l]).map V.ref))):=⟨sm2.wc,sm2.mu,List.prefix_rfl,fun _ h=>h,fun _ h=>h,fun _ h g=>absurd h g,fun _ h g=>absurd h g,fun _ h g=>absurd h g,fun a u e nw=>by
  rw [aaG (fun z:a=D=>nw (by rw [z]; exact w))]
  exact e⟩
 refine ⟨st2.trans st3,sm2.nd,by rw [List.length_set]; exact sm2.len,sm2.sub,sm2.wc,fun a x=>?_,fun j a o e1 e2=>?_⟩
 ·by_cases z:a=D
  ·rw [z,aa1]
   exact ⟨_,rfl,trivial⟩
  ·rw [aaG z]
   exact sm2.mu a x
 ·by_cases hj:k=j
  ·subst hj
   have e1:p.f[k]?=some a:=e1
   rw [h] at e1
   cases e1
   rw [List.getElem?_set_self hk] at e2
   cases e2
   obtain ⟨cs,g1,g2,g3,g4,g5,g6⟩:=s.obj k D _ h hS
   rw [hH] at g1
   have ec:bs=cs:=by
    have:=congrArg (fun o=>match o with | some (HO.lst v)=>v | _=>[]) g1
    have:bs.map V.ref=cs.map V.ref:=this
    exact List.map_inj_right (fun x y h=>by cases h; rfl) |>.mp this
   subst ec
   have nb:∀ b∈bs,b≠l:=fun b hb z=>s.notin hn (z ▸ s.wc b (g4 b hb).1)
   refine ⟨bs++[l],aa1,by rw [List.length_append]; exact hz,?_,fun b hb=>?_,by rw [List.length_append,List.length_append,g5]; rfl,fun i xs b e1 e2=>?_⟩
   ·rw [List.nodup_append]
    exact ⟨g3,by simp,fun x hx y hy z=>nb x hx (by rw [z]; simpa using hy)⟩
   ·rcases List.mem_append.mp hb with z | z
    ·exact ⟨.inl (g4 b z).1,(g4 b z).2⟩
    ·have:b=l:=by simpa using z
     subst this
     exact ⟨.inr rfl,nl⟩
   ·by_cases hi:i < bs.length
    ·rw [List.getElem?_append_left hi] at e2
     rw [List.getElem?_append_left (by rw [g5]; exact hi)] at e1
     obtain ⟨vs,h1,h2,h3⟩:=g6 i xs b e1 e2
     have hb:=g4 b (List.mem_of_getElem? e2)
     exact ⟨vs,by rw [aaG (fun z:b=D=>hb.2 (z ▸ mD)),aaG (nb b (List.mem_of_getElem? e2))]; exact h1,h2,st3.reps (st2.reps h3)⟩
    ·have hi':i=bs.length:=by
      have:=(List.getElem?_eq_some_iff.mp e2).1
      rw [List.length_append] at this
      have:i < bs.length+1:=this
      omega
     subst hi'
     rw [List.getElem?_append_right (Nat.le_refl _),Nat.sub_self] at e2
     rw [← g5,List.getElem?_append_right (Nat.le_refl _),Nat.sub_self] at e1
     cases e1
     cases e2
     exact ⟨ws,by rw [aaG (Ne.symm neD),aa1],hl,st3.reps (st2.reps r)⟩
  ·rw [List.getElem?_set_ne hj] at e2
   have ne:a≠D:=fun q=>hj (adk s.nd h (q ▸ e1))
   exact (sm2.obj j a o e1 e2).mono (fun vs e=>by rw [aaG ne]; exact e) (fun b w f=>⟨⟨w,f⟩,fun vs e=>by rw [aaG (fun z:b=D=>f (z ▸ mD))]; exact e⟩) fun _ _ r=>st3.reps r
theorem ano {x:Str} {p apos cpos:Pos} (hx:x="list") (hg:Gl X "list") (hm:X.mg "list"=none) (ho:PEp K cl E X a m) (ha:PAp K cl E X [e] ms) (hbase:attributeBase a "append" X.env (eval a X.env)=eval a X.env:=by rfl)
  (hfew:((backTo cpos (starEach [.Call (.Name x p) [e] [] pos] X.env)).all (fun x=>!x.1) && (backToKw cpos (keywordEach [] X.env)).all (fun x=>x.1.isSome) && decide (([.Call (.Name x p) [e] [] pos]:List Expr).length+([]:List Keyword).length+(if ([]:List Keyword).isEmpty then 0 else 1) < 30))=true:=by rfl)
  (hline:(apos.endLine == cpos.line)=true:=by rfl) (he:starEach [e] X.env=[(false,eval e X.env)]:=by rfl) (hs:starEach [.Call (.Name x p) [e] [] pos] X.env=[(false,eval (.Call (.Name x p) [e] [] pos) X.env)]:=by rfl) :
  PEp K cl E X (.Call (.Attribute a "append" apos) [.Call (.Name x p) [e] [] pos] [] cpos) (anV m ms):=by
 intro hK
 subst hK hx
 refine PE.imp (amH PySem.F.plainAttrs_list PySem.F.slot_list_append PySem.F.type_list_append adX (ho rfl) (agk (ad8 acH hg hm (by decide +kernel) (ha rfl) (by decide) (by decide) he rfl) ahR hs) hbase hfew hline hs rfl) fun σ H Q ⟨p,S,ρ,s,ev,h⟩=>?_
 refine aaH s ev h fun q H1 k x S1 st s1 e1 r1 h1=>?_
 cases k with
 | pv v=>exact h1.elim
 | ref k =>
  refine ⟨ahe s1 r1,aaH s1 e1 h1 fun q2 H2 ys xs S2 st2 s2 e2 r2 h2=>?_⟩
  obtain ⟨a,ea,rfl⟩:=st2.repA r1
  unfold appL at h2
  split at h2
  ·rename_i vs xss hv hS
   obtain ⟨b,ws,rfl,sq,hl,r⟩:=ajE s2 r2 hv
   split at h2
   ·rename_i hz
    refine ⟨b,ws,rfl,sq,fun l hn=>?_⟩
    obtain ⟨bs,g1,g2,g3,g4,g5,g6⟩:=s2.obj k a _ ea hS
    have hzz:=aa0
    have neA:a≠l:=fun z=>by rw [z,hn] at g1; cases g1
    obtain ⟨st3,sm3⟩:=s2.growL ea hS hn hl r g1 (by rw [← g5]; omega)
    refine ⟨a,bs.map V.ref,.ref l,rfl,rfl,by rw [aaG neA]; exact g1,by rw [List.length_map,← g5]; omega,?_⟩
    have:=h2 _ _ .non st3 sm3 (by show Rep X.K (q2.res l).c (upd (upd H2 l (.lst ws)) a (.lst ((bs++[l]).map V.ref))) .non .non; exact abF (v:=.non) rfl)
    rw [List.map_append] at this
    exact this
   ·exact h2.elim
  ·exact h2.elim
def amt (m:Int) (xs:List PV):Option (List PV):=match ixN xs.length m with
 | some j=>match xs[j]? with
  | some (.int v)=>some (xs.set j (.int (1 - v)))
  | _=>none
 | none=>none
def ak9 (m:Int):List (List PV)→Option (List (List PV))
 | []=>some []
 | xs :: r=>match amt m xs,ak9 m r with
  | some y,some ys=>some (y :: ys)
  | _,_=>none
theorem agU {m:Int}:∀ {xss yss:List (List PV)},ak9 m xss=some yss→xss.length=yss.length∧∀ (i:Nat) (xs:List PV),xss[i]?=some xs→∃ ys:List PV,yss[i]?=some ys∧amt m xs=some ys
 | [],yss,e=>by
  cases e
  exact ⟨rfl,fun i xs h=>by simp at h⟩
 | xs :: r,yss,e=>by
  unfold ak9 at e
  split at e
  ·rename_i y ys h1 h2
   cases e
   obtain ⟨l,g⟩:=agU h2
   refine ⟨by rw [List.length_cons,List.length_cons,l],fun i zs h=>?_⟩
   cases i with
   | zero =>
    cases h
    exact ⟨y,rfl,h1⟩
   | succ i=>simpa using g i zs (by simpa using h)
  ·cases e
open Classical in
noncomputable def amZ (ics ic im:Nat):MS:=fun ρ S=>match ρ[ics]?,ρ[im]? with
 | some (some (.ref k)),some (some (.pv (.int m)))=>match S[k]? with
  | some (.lol xss)=>if Pl1 k S∧ic < ρ.length then (match ak9 m xss with
   | some yss=>.nx (ρ.set ic none) (S.set k (.lol yss))
   | none=>.fail) else .fail
  | _=>.fail
 | _,_=>.fail
theorem Sim.inner (s:Sim K p S H) {k i:Nat} {D b:Addr} {xss:List (List PV)} {bs:List Addr} {ys:List PV} {ws:List V} (h:p.f[k]?=some D) (hS:S[k]?=some (.lol xss)) (pl:Pl1 k S) (hH:H D=some (.lst (bs.map V.ref))) (hb:bs[i]?=some b) (hl:ws.length≤sizeLine) (r:Reps K p.c H ys ws) :
  Step p H p (upd H b (.lst ws))∧Sim K p (S.set k (.lol (xss.set i ys))) (upd H b (.lst ws)):=by
 have hk:k < S.length:=(List.getElem?_eq_some_iff.mp hS).1
 have mD:D∈p.f:=List.mem_of_getElem? h
 obtain ⟨cs,g1,g2,g3,g4,g5,g6⟩:=s.obj k D _ h hS
 rw [hH] at g1
 have ec:bs=cs:=by
  have:=congrArg (fun o=>match o with | some (HO.lst v)=>v | _=>[]) g1
  have:bs.map V.ref=cs.map V.ref:=this
  exact List.map_inj_right (fun x y h=>by cases h; rfl) |>.mp this
 subst ec
 have wb:=g4 b (List.mem_of_getElem? hb)
 have st:Step p H p (upd H b (.lst ws)):=⟨s.wc,s.mu,List.prefix_rfl,fun _ h=>h,fun _ h=>h,fun _ h g=>absurd h g,fun _ h g=>absurd h g,fun _ h g=>absurd h g,fun a u e nw=>by
  rw [aaG (fun z:a=b=>nw (by rw [z]; exact wb.1))]
  exact e⟩
 refine ⟨st,s.nd,by rw [List.length_set]; exact s.len,s.sub,s.wc,fun a x=>?_,fun j a o e1 e2=>?_⟩
 ·by_cases z:a=b
  ·rw [z,aa1]
   exact ⟨_,rfl,trivial⟩
  ·rw [aaG z]
   exact s.mu a x
 ·have ne:a≠b:=fun z=>wb.2 (z ▸ List.mem_of_getElem? e1)
  by_cases hj:k=j
  ·subst hj
   rw [h] at e1
   cases e1
   rw [List.getElem?_set_self hk] at e2
   cases e2
   refine ⟨bs,by rw [aaG ne]; exact hH,g2,g3,g4,by rw [List.length_set]; exact g5,fun i' xs c e1 e2=>?_⟩
   by_cases hi:i=i'
   ·subst hi
    rw [hb] at e2
    cases e2
    have hx:i < xss.length:=by
     rw [g5]
     exact (List.getElem?_eq_some_iff.mp hb).1
    rw [List.getElem?_set_self hx] at e1
    cases e1
    exact ⟨ws,aa1,hl,st.reps r⟩
   ·rw [List.getElem?_set_ne hi] at e1
    obtain ⟨vs,h1,h2,h3⟩:=g6 i' xs c e1 e2
    exact ⟨vs,by rw [aaG (fun z:c=b=>hi (adk g3 hb (z ▸ e2)))]; exact h1,h2,st.reps h3⟩
  ·rw [List.getElem?_set_ne hj] at e2
   obtain ⟨xs,rfl⟩:=pl j o e2 (Ne.symm hj)
   obtain ⟨vs,e,l,g⟩:=s.obj j a _ e1 e2
   exact ⟨vs,by rw [aaG ne]; exact e,l,st.reps g⟩
theorem ala {α:Type} {ys xs:List α} {i:Nat} {y:α} (l:xs.length=ys.length) (h:ys[i]?=some y):(ys.take i++xs.drop i).set i y=ys.take (i+1)++xs.drop (i+1):=by
 have hi:i < ys.length:=(List.getElem?_eq_some_iff.mp h).1
 have hx:i < xs.length:=by omega
 have e:ys[i]=y:=(List.getElem?_eq_some_iff.mp h).2
 rw [List.drop_eq_getElem_cons hx,List.set_append,if_neg (by rw [List.length_take]; omega),List.length_take,Nat.min_eq_left (Nat.le_of_lt hi),Nat.sub_self,List.set_cons_zero,List.take_succ_eq_append_getElem hi,e,List.append_assoc]
 rfl
theorem ahX {α:Type} {l:List α} {i:Nat} {a b:α}:(l.set i a).set i b=l.set i b:=by simp
theorem anz {ics ic im:Nat} {c cs mm:Str} {p1 p2 p3 p4 p5 p6 p7 p8 p9 apos:Pos} {j:Nat} (hp:PassesOwn (model X.prog X.w) X.A X.env X.xe) (hc:X.calm=true) (hN:X.N.Nodup) (h1:X.N[ics]?=some cs) (h2:X.N[ic]?=some c) (h3:X.N[im]?=some mm)
  (v1:Vis X.env.scope cs) (v2:Loc X.env.scope c) (v3:Vis X.env.scope mm) (ne1:ics≠ic) (ne2:im≠ic)
  (ha:∀ v,assign (.Subscript (.Name c p3) (.Name mm p4) p5) X.env v=(do
   let ov ← holding [v] (eval (.Name c p3) X.env)
   let iv ← holding [v,ov] (eval (.Name mm p4) X.env)
   standAt p5
   holding [v,ov,iv] (setItem ov iv v)
   release [v,ov,iv] []):=by intro _; rfl)
  (hs:swapsWithSole [.Subscript (.Name c p3) (.Name mm p4) p5] (.BinOp (.Constant (.int 1) j p6) .Sub (.Subscript (.Name c p7) (.Name mm p8) p9) p2) apos.line X.env=pure false:=by rfl) (hw:swappedStores [.Subscript (.Name c p3) (.Name mm p4) p5] (.BinOp (.Constant (.int 1) j p6) .Sub (.Subscript (.Name c p7) (.Name mm p8) p9) p2) X.env=pure none:=by rfl)
  (ht:(assignEach [.Subscript (.Name c p3) (.Name mm p4) p5] X.env).map (·.2)=[assign (.Subscript (.Name c p3) (.Name mm p4) p5) X.env]:=by rfl)
  (hpl:ahH (.Name mm p8):=by intro _ _; rfl)
  (d1:(cs == ("__debug__":Str))=false:=by decide) (d2:(c == ("__debug__":Str))=false:=by decide) (d3:(mm == ("__debug__":Str))=false:=by decide)
  (k1:(cs == ("__classdict__":Str))=false:=by decide) (k2:(c == ("__classdict__":Str))=false:=by decide) (k3:(mm == ("__classdict__":Str))=false:=by decide)
  (hf:X.fn c=true∨X.env.scope.names.lookup c=some .local:=by first | exact .inl rfl | exact .inr rfl | assumption)
  (hfs:∀ x,foldedSetIterable (.Name cs p1) X.env x=pure x:=by intro _; rfl) {cp:Pos} :
  PSp K cl E X (.For (.Name c cp) (.Name cs p1) [.Assign [.Subscript (.Name c p3) (.Name mm p4) p5] (.BinOp (.Constant (.int 1) j p6) .Sub (.Subscript (.Name c p7) (.Name mm p8) p9) p2) apos] [] pos) (amZ ics ic im):=by
 intro hK
 subst hK
 have vc:Vis X.env.scope c:=v2.elim .inl fun z=>.inr (.inl z)
 refine PS.imp (alV hp hc (alY (ae2 h1 v1 d1 k1)) (aj6 hN h2 v2 hf) (akB (al9 (ao2 abT amg (aoM alT (ae2 h2 vc d2 k2) (ae2 h3 v3 d3 k3) hpl)) (amc (ae2 h2 vc d2 k2) (ae2 h3 v3 d3 k3) ahZ ha) hs hw ht)) hfs) fun D σ H ⟨p,S,ρ,s,ev,h⟩=>?_
 unfold amZ at h
 split at h
 ·rename_i k m q1 q2
  split at h
  ·rename_i xss hS
   split at h
   ·rename_i plc
    obtain ⟨pl,hic⟩:=plc
    split at h
    ·rename_i yss hy
     obtain ⟨x,ex,rx⟩:=ev.at_ ics _ q1
     obtain ⟨a,ea,rfl⟩:=rx
     obtain ⟨ll,fl⟩:=agU hy
     have hk:k < S.length:=(List.getElem?_eq_some_iff.mp hS).1
     obtain ⟨bs0,b1,b2,b3,b4,b5,b6⟩:=s.obj k a _ ea hS
     have plx:∀ zss,Pl1 k (S.set k (.lol zss)):=fun zss j o e n=>by
      rw [List.getElem?_set_ne (Ne.symm n)] at e
      exact pl j o e n
     refine ⟨.ref a,ex,a,rfl,.inl ⟨⟨_,SqL.of b1⟩,fun i n σ1 H1=>n=xss.length - i∧i≤xss.length∧∃ p1,Step p H p1 H1∧Sim X.K p1 (S.set k (.lol (yss.take i++xss.drop i))) H1∧RepE X.K p1 H1 (ρ.set ic none) σ1,⟨_,rfl,Nat.zero_le _,p,s.step,?_,?_⟩,?_⟩⟩
     ·have e0:S.set k (.lol xss)=S:=by
       obtain ⟨g1,g2⟩:=List.getElem?_eq_some_iff.mp hS
       rw [← g2]
       exact List.set_getElem_self g1
      simpa [e0] using s
     ·have:=ev.forget ic ((σ[ic]?).join)
      have e0:σ.set ic (σ[ic]?).join=σ:=by
       by_cases hi:ic < σ.length
       ·rw [List.getElem?_eq_getElem hi]
        exact List.set_getElem_self hi
       ·exact List.set_eq_of_length_le (by omega)
      rwa [e0] at this
     ·rintro i n σ1 H1 ⟨rfl,hi,p1,st1,sm1,ev1⟩
      have e1:=st1.at_ ea
      have hS1:(S.set k (.lol (yss.take i++xss.drop i)))[k]?=some (.lol (yss.take i++xss.drop i)):=List.getElem?_set_self hk
      obtain ⟨bs,c1,c2,c3,c4,c5,c6⟩:=sm1.obj k a _ e1 hS1
      have lz:(yss.take i++xss.drop i).length=xss.length:=by
       rw [List.length_append,List.length_take,List.length_drop]
       omega
      by_cases hlt:i < xss.length
      ·have hib:i < bs.length:=by omega
       obtain ⟨ys,ey,fy⟩:=fl i _ (List.getElem?_eq_getElem hlt)
       have ez:(yss.take i++xss.drop i)[i]?=some xss[i]:=by
        rw [List.getElem?_append_right (by rw [List.length_take]; omega),List.length_take,Nat.min_eq_left (by omega),Nat.sub_self,List.getElem?_drop,Nat.add_zero]
        exact List.getElem?_eq_getElem hlt
       obtain ⟨vs,g1,g2,g3⟩:=c6 i _ _ ez (List.getElem?_eq_getElem hib)
       unfold amt at fy
       split at fy
       ·rename_i jj hj
        split at fy
        ·rename_i v hv
         cases fy
         obtain ⟨u,eu,ru⟩:=g3.get hv
         have:u=.int v:=by unfold Rep at ru; exact ru
         subst this
         obtain ⟨xm,exm,rxm⟩:=ev1.at_ im (.pv (.int m)) (by rw [List.getElem?_set_ne (Ne.symm ne2)]; exact q2)
         have:xm=.int m:=by
          have rxm:Rep X.K p1.c H1 (.int m) xm:=rxm
          unfold Rep at rxm
          exact rxm
         subst this
         refine .inr ⟨⟨_,.ref bs[i],SqL.of c1,by rw [List.getElem?_map,List.getElem?_eq_getElem hib]; rfl⟩,fun σ' H'=>∃ p2,Step p H p2 H'∧Sim X.K p2 (S.set k (.lol (yss.take (i+1)++xss.drop (i+1)))) H'∧RepE X.K p2 H' (ρ.set ic none) σ',fun σ' H' hn=>⟨xss.length - (i+1),by omega,rfl,hlt,hn⟩,fun x H2 hy=>?_⟩
         obtain ⟨rfl,hy⟩:=hy
         have ey2:=hy _ (SqL.of c1)
         rw [List.getElem?_map,List.getElem?_eq_getElem hib] at ey2
         cases ey2
         have hic1:ic < σ1.length:=by
          rw [← ev1.len,List.length_set]
          exact hic
         have sc:(σ1.set ic (some (V.ref bs[i])))[ic]?=some (some (.ref bs[i])):=List.getElem?_set_self hic1
         have sm':(σ1.set ic (some (V.ref bs[i])))[im]?=some (some (.int m)):=by rw [List.getElem?_set_ne (Ne.symm ne2)]; exact exm
         have hj':ixN vs.length m=some jj:=by rw [← g3.length]; exact hj
         have ha1:atI vs m=some (.int v):=by unfold atI; rw [hj']; exact eu
         obtain ⟨st2,sm2⟩:=sm1.inner (ys:=xss[i].set jj (.int (1 - v))) (ws:=vs.set jj (.int (1 - v))) e1 hS1 (plx _) c1 (List.getElem?_eq_getElem hib) (by rw [List.length_set]; exact g2) (Reps.set (abF (v:=.int (1 - v)) rfl) jj g3)
         rw [ahX,ala ll ey] at sm2
         have ev2:=(st2.repE ev1).forget ic (some (V.ref bs[i]))
         rw [ahX] at ev2
         exact ⟨_,sc,_,sm',.inl ⟨_,_,_,_,rfl,rfl,SqL.of g1,ha1,1,v,rfl,rfl,_,sc,_,sm',_,_,_,_,rfl,rfl,g1,hj',p1,st1.trans st2,sm2,ev2⟩⟩
        ·cases fy
       ·cases fy
      ·have e:i=xss.length:=by omega
       subst e
       refine .inl ⟨⟨_,SqL.of c1,by rw [List.length_map]; omega⟩,?_⟩
       rw [List.drop_length,List.append_nil,ll,List.take_length] at sm1
       exact h p1 H1 σ1 st1 sm1 ev1
    ·exact h.elim
   ·exact h.elim
  ·exact h.elim
 ·exact h.elim
open Classical in
noncomputable def aj5 (n:Nat):SRes→Res AV
 | .rt (.ref k) S=>match S[k]? with
  | some (.lol xss)=>if ¬ k < n∧Pl (S.take n) then .ok (.pv (.lst (xss.map .lst))) (S.take n) else .fail
  | _=>.fail
 | _=>.fail
open Classical in
noncomputable def fnL (np n:Nat) (b:MS) (xs:List AV) (S:Sto):Res AV:=if xs.length=np∧Pl S then aj5 S.length (b (aaV n xs) S) else .fail
def Ph.only (p:Ph):Ph:=⟨p.f,fun a=>a∈p.f,p.c⟩
theorem Sim.only (s:Sim K p S H) (pl:Pl S):Sim K p.only S H :=
 ⟨s.nd,s.len,fun _ h=>h,fun a h=>s.wc a (s.sub a h),s.mu,fun k a o e1 e2=>by
  obtain ⟨xs,rfl⟩:=pl k o e2
  exact s.obj k a _ e1 e2⟩
theorem aiX {as:List AV} {vs:List V} (h:ac6 K p H as vs):ac6 K p.only H as vs:=by
 induction h with
 | nil=>exact .nil
 | cons h _ ih =>
  refine .cons ?_ ih
  rename_i v x _ _ _
  cases v with
  | pv v=>exact h
  | ref k=>exact h
theorem ahy {r:SRes} {Q:VK} {E:XK} (s:Sim K p S H) (pl:Pl S) (h:aa8 K cl (RepA K) p H (aj5 S.length r) Q E):abY K cl p.only H r { nx:=fun _ H'=>Q .non H',rt:=Q } E:=by
 cases r with
 | rt v S1 =>
  cases v with
  | pv v=>exact h.elim
  | ref k =>
   unfold aj5 at h
   dsimp only at h
   split at h
   ·rename_i xss hS
    split at h
    ·rename_i hc
     obtain ⟨hk,plt⟩:=hc
     rintro q H' x st sm ⟨a,e,rfl⟩
     have s1:=s.only pl
     obtain ⟨na,hn,nc⟩:=afk s1 st sm e hk
     obtain ⟨bs,g1,g2,g3,g4,g5,g6⟩:=sm.obj k a _ e hS
     have fresh:∀ b∈bs,H b=none:=fun b hb=>st.nw b (g4 b hb).1 fun m=>(g4 b hb).2 (st.pre.subset m)
     obtain ⟨st1,sm1⟩:=s1.cutX (fun b=>b=a∨b∈bs) st sm (fun b d=>d.elim (fun z=>z ▸ hn) (fresh b)) (.inr fun j yss e hj=>by
      obtain ⟨xs,z⟩:=plt j (.lol yss) (by rw [List.getElem?_take,if_pos hj]; exact e)
      cases z)
     refine h ⟨p.f,fun b=>(q.w b∧¬ (b=a∨b∈bs))∨p.w b,fun b=>q.c b∧¬ (b=a∨b∈bs)⟩ H' (.ref a) ⟨s.wc,s.mu,List.prefix_rfl,fun b h=>.inr h,st1.mono,fun _ h g=>absurd h g,fun b h n=>?_,st1.nc,fun b o e n=>st1.keep b o e fun z=>n (s.sub b z)⟩
      ⟨s.nd,sm1.len,fun b h=>.inr (s.sub b h),fun b h=>h.elim (sm1.wc b) fun z=>st1.mono b (s.wc b z),sm1.mu,fun j b o e1 e2=>(sm1.obj j b o e1 e2).mono (fun _ e=>e) (fun c w f=>⟨⟨.inl w,f⟩,fun _ e=>e⟩) fun _ _ r=>r⟩ ?_
     ·rcases h with h | h
      ·exact st1.nw b h fun z=>n (s.sub b z)
      ·exact absurd h n
     ·show Rep K (fun b=>q.c b∧¬ (b=a∨b∈bs)) H' (.lst (xss.map .lst)) (.ref a)
      unfold Rep
      refine ⟨a,bs.map V.ref,rfl,.inl ⟨g1,fun d=>d.2 (.inl rfl)⟩,by rw [List.length_map]; exact g2,?_⟩
      have go:∀ (yss:List (List PV)) (cs:List Addr),yss.length=cs.length→(∀ c∈cs,c∈bs)→(∀ (i:Nat) (xs:List PV) (b:Addr),yss[i]?=some xs→cs[i]?=some b→∃ vs,H' b=some (.lst vs)∧vs.length≤sizeLine∧Reps K q.c H' xs vs)→Reps K (fun b=>q.c b∧¬ (b=a∨b∈bs)) H' (yss.map .lst) (cs.map V.ref):=by
       intro yss
       induction yss with
       | nil =>
        intro cs l _ _
        have:cs=[]:=List.length_eq_zero_iff.mp l.symm
        subst this
        exact .nil
       | cons ys r ih =>
        intro cs l hm hh
        cases cs with
        | nil=>cases l
        | cons c t =>
         obtain ⟨vs,k1,k2,k3⟩:=hh 0 ys c rfl rfl
         refine .cons ?_ (ih t (by simpa using l) (fun c h=>hm c (List.mem_cons_of_mem _ h)) fun i xs b e1 e2=>hh (i+1) xs b (by simpa using e1) (by simpa using e2))
         unfold Rep
         exact ⟨c,vs,rfl,.inl ⟨k1,fun d=>d.2 (.inr (hm c List.mem_cons_self))⟩,k2,act (fun b h=>h.1) k3⟩
      exact go xss bs g5 (fun _ h=>h) g6
    ·exact h.elim
   ·exact h.elim
 | nx ρ S1=>exact h.elim
 | exc n S1=>exact h.elim
 | bk ρ S1=>exact h.elim
 | ct ρ S1=>exact h.elim
 | fail=>exact h.elim
end
section
variable {P:Program} {w:World} {K:PySem.W.Frag} {mg:Str→Option Value} {base:Heap} {cl:Str→Addr}
theorem amA {np n:Nat} {b:MS} {vs:List V} {H:Hp} {Q:VK} {E:XK} (h:spP K cl (fnL np n b) vs H Q E):vs.length=np:=by
 obtain ⟨p,S,xs,sm,ra,h⟩:=h
 unfold fnL at h
 split at h
 ·rename_i e
  rw [← agX ra,e.1]
 ·exact h.elim
theorem okL {x qual:Str} {st:Stmt} {f:Addr} {fd:FuncData} {N ps:List Str} {k np n:Nat} {b:MS} (F:Fun K x qual st f fd) (S:aaA N ps (aaf st)) (hnp:ps.length=np) (hn:N.length=n)
  (hb:∀ (cdv:Value) (A:Around) (outer:List Env) (s:Shared) (H:Hp) (E:XK),Room k (A.deeper (envOfC qual (aaf st) s.heap.objs.size f cdv))→PSsp K cl E0 (cxOf CX0 P w K mg base N qual (aaf st) f cdv A outer s H E).nox (aaw st) b) :
  FnOk P w K mg base CX0 (k+1) f fd ps (spP0 K cl (fnL np n b)):=by
 subst hnp hn
 refine F.ok S (fun vs H Q E h=>amA h) fun cdv A outer s H vs Q E hr h=>⟨_,hb cdv A outer s H E hr rfl,?_⟩
 obtain ⟨p,S,xs,sm,ra,h⟩:=h
 unfold fnL at h
 split at h
 ·rename_i e
  exact ⟨p.only,S,_,sm.only e.2,adx (aiX ra),ahy sm e.2 h⟩
 ·exact h.elim
end
end L2.Pp
namespace L2.Pp
open PySem PySem.Spec PyProof.Rows Bn
end L2.Pp
namespace L2.Pp
open PySem PySem.Spec PyProof.Rows Bn
def Cal (P:Program) (w:World) (K:PySem.W.Frag) (mg:Str→Option Value) (base:Heap) (cl:Str→Addr) (x:Str) (k:Nat) (ps:List Str) (g:FM):Prop:=∃ (a:Addr) (d:FuncData),FnOk P w K mg base CX0 k a d ps (spP0 K cl g)∧adC K d ps []∧PySem.W.keepIn K (.ref a)=true∧mg x=some (.ref a)
section
variable {cl:Str→Addr} {E:XK} {X:Cx} {e:Expr} {es:List Expr} {ms:MA} {pos p:Pos} {k k0:Nat} {ps:List Str} {g:FM} {x:Str}
theorem aaK (C:Cal X.prog X.w X.K X.mg X.base cl x k ps g) (hr:Room k0 X.A) (hk:k≤k0) (hg:Gl X x) (ha:PAp X.K cl E X (e :: es) ms) (hdb:(x == ("__debug__":Str))=false:=by decide) (he:starEach (e :: es) X.env=(false,eval e X.env) :: starEach es X.env:=by rfl) (hpl:(backTo pos (starEach es X.env)).any (·.1)=false:=by rfl) :
  PEp X.K cl E X (.Call (.Name x p) (e :: es) [] pos) (aah g [] ms):=by
 obtain ⟨a,d,G,b,kk,n⟩:=C
 exact akX G (hr.mono hk) hg n kk b .nil Dv.nil ha hdb he hpl
theorem apf (C:Cal X.prog X.w X.K X.mg X.base cl x k ps g) (hr:Room k0 X.A) (hk:k≤k0) (hg:Gl X x) (ha:PAp X.K cl E X (e :: es) ms) (hdb:(x == ("__debug__":Str))=false:=by decide) (he:starEach (e :: es) X.env=(false,eval e X.env) :: starEach es X.env:=by rfl) (hpl:(backTo pos (starEach es X.env)).any (·.1)=false:=by rfl) :
  PEp X.K cl E X (.Call (.Name x p) (e :: es) [] pos) (aa4 g [] ms):=by
 obtain ⟨a,d,G,b,kk,n⟩:=C
 exact ald G (hr.mono hk) hg n kk b .nil Dv.nil ha hdb he hpl
end
end L2.Pp
namespace L2.Pp
open PySem PySem.Spec PyProof.Rows Bn
theorem aiM (l:Addr) (its:Array Value) (n:Nat) (b:Addr) (jts:Array Value) (k:Nat) (dd:Option Addr) (sl:Array (Option Value)) (h0:¬(!its.isEmpty && Builtin.List.listTooLong (its.size+jts.size))=true) (h1:its.size≤sizeLine) (h2:its.size+jts.size≤sizeLine+1) :
  Meets (Builtin.«list.__iadd__» ⟨[.ref l,.ref b],[]⟩) (fun _ R s=>s.heap.get? l=some ⟨.type "list",none,.seq its n,#[]⟩∧s.heap.get? b=some ⟨.type "list",dd,.seq jts k,sl⟩∧R (.ok (.ret (Value.ref l))) { s with heap:=s.heap.update l (Obj.mapSeq fun x=>x++jts),toks:=s.toks }) :=
 .of_wp fun prog w A R s h=>by
  obtain ⟨hp,g,d,tk,os⟩:=s
  obtain ⟨hl,hb,h⟩:=h
  have f1:=PySem.AutoSeq1.idx_int
  have f2:=PySem.AutoSeq1.sub_tuple_tuple
  have f3:=PySem.AutoSeq1.sub_list_list
  have f4:=PySem.AutoSeq1.sub_tuple_list
  have f5:=PySem.AutoSeq1.sub_list_tuple
  have hz':(its++jts).size≤sizeLine+1:=by
   rw [Array.size_append]
   exact h2
  wp_walk using (wpAny_updateSeq hl rfl (hz:=h1) (_hz':=hz')),wpAny_loadPart' hl,wpAny_loadPart' hb
  exact ⟨_,rfl,h⟩
section
variable {X:Cx}
def apt (K:PySem.W.Frag):TIp:=fun x y H Q=>∃ l b xs zs,x=.ref l∧y=.ref b∧H l=some (.lst xs)∧SqL K H b zs∧xs.length+zs.length≤sizeLine∧Q (.ref l) (upd H l (.lst (xs++zs)))
theorem aoR:L2.PIp X .Add (apt X.K):=by
 intro pins s σ H x y v u Q I rx ry h
 obtain ⟨l,b,xs,zs,rfl,rfl,hx,hy,hz,q⟩:=h
 cases rx
 cases ry
 obtain ⟨z,its,n,r1,hl,e⟩:=I.lstM hx
 obtain ⟨jts,r2,p2,_⟩:=I.list hy
 obtain ⟨⟨cls2,dd2,data2,sl2⟩,n2,ho2,hc2,_,hd2⟩:=p2
 simp only at hc2 hd2
 subst hc2 hd2
 have l1:=r1.length
 have l2:=r2.length
 have hsz:its.toArray.size+jts.toArray.size≤sizeLine:=by rw [List.size_toArray,List.size_toArray]; omega
 have hlong:¬ (!its.toArray.isEmpty && Builtin.List.listTooLong (its.toArray.size+jts.toArray.size))=true:=by
  rw [akU hsz,Bool.and_false]
  exact Bool.false_ne_true
 have ta:s.TypeIs (.ref l) "list":=⟨_,e,rfl⟩
 have tb:s.TypeIs (.ref b) "list":=⟨_,ho2,rfl⟩
 have hf:=PySem.F.slot_list_iadd.lookup
 have hq:isSeqSlot (some (.builtin "list.__iadd__"))=true:=by decide +kernel
 have hfi:fillsInplaceSlot (.type "list") "add" (Operator.Add == .Add)=pure false:=by
  unfold fillsInplaceSlot
  show (typeLookup (.type "list") (dunderI "add") >>= fun fi=>pure (fi.isSome && !isSeqSlot fi))=pure false
  rw [hf,pure_bind,hq]
  rfl
 have hsi:seqSlot? (.type "list") (dunderI "add")=pure (some (.builtin "list.__iadd__")):=PySem.seqSlot_of hf hq
 unfold inplaceOp
 refine wpAny_holding ?_
 refine wpAny_bind (wpAny_typeOf ta (wpAny_bind (wpAny_of_eq hfi ?_)))
 show wpAny _ _ (if false=true then _ else _) _ _ s
 rw [if_neg Bool.false_ne_true]
 refine wpAny_bind (wpAny_binaryOp1_none (nm:="add") ta tb noFill_list_add ?_)
 refine wpAny_bind (wpAny_of_eq hsi ?_)
 refine wpAny_bind (wpAny_rule ?_)
 refine call_meets PySem.F.slot_list_iadd ⟨_,e,rfl⟩ PySem.F.entry_list_iadd (PySem.F.args_list_iadd_2 _ _) (aiM l its.toArray n b jts.toArray n2 dd2 sl2 hlong (by rw [List.size_toArray]; omega) (by omega)) ⟨e,ho2,?_⟩
 refine ⟨.ref l,_,I.lset (its':=its++jts) hx e (by simp) (r1.append r2) ?_,rfl,q⟩
 rw [List.length_append]
 omega
end
section
variable {K:PySem.W.Frag} {cl:Str→Addr} {E:XK} {X:Cx} {e:Expr} {m:ME} {pos:Pos}
def augL (k:Nat) (ρ:Rho) (v:AV) (S:Sto):SRes:=match v with
 | .pv (.lst ys)=>match S[k]? with
  | some (.lst xs)=>if xs.length+ys.length≤16777216 then .nx ρ (S.set k (.lst (xs++ys))) else .fail
  | _=>.fail
 | _=>.fail
def ajp (i:Nat) (m:ME):MS:=fun ρ S=>match ρ[i]? with
 | some (some (.ref k))=>SRes.of (m ρ S) (augL k ρ)
 | _=>.fail
theorem alH {i:Nat} {x:Str} {pos':Pos} (hN:X.N.Nodup) (hi:X.N[i]?=some x) (hx:Loc X.env.scope x) (he:PEp K cl E X e m)
  (hf:X.fn x=true∨X.env.scope.names.lookup x=some .local:=by first | exact .inl rfl | exact .inr rfl | assumption):PSp K cl E X (.AugAssign (.Name x pos') .Add e pos) (ajp i m):=by
 intro hK
 subst hK
 refine PS.imp (amf hN hi hx (he rfl) aoR hf) fun D σ H ⟨p,S,ρ,s,ev,h⟩=>?_
 unfold ajp at h
 split at h
 ·rename_i k hx0
  obtain ⟨v,e1,r1⟩:=ev.at_ i _ hx0
  refine ⟨v,e1,ach s ev h fun q H' a b S' stp sm ev' r z=>?_⟩
  obtain ⟨D0,ea,rfl⟩:=stp.repA r1
  unfold augL at z
  split at z
  ·rename_i ys
   obtain ⟨b0,ws,rfl,sq,lw,rw0⟩:=(show RepR X.K q H' (.lst ys) b from .inl r).lst
   split at z
   ·rename_i xs hS
    split at z
    ·rename_i hl
     obtain ⟨vs,h3,l3,r4⟩:=sm.obj k D0 _ ea hS
     have hz:=aa0
     have n1:=r4.length
     have n2:=rw0.length
     obtain ⟨st3,sm3⟩:=sm.write ea (List.getElem?_eq_some_iff.mp hS).1 (ps:=xs++ys) (vs:=vs++ws) (by rw [List.length_append]; omega) (r4.append rw0)
     refine ⟨D0,b0,vs,ws,rfl,rfl,h3,sq,by omega,?_⟩
     have es:σ.set i (some (.ref D0))=σ:=by
      refine List.ext_getElem? fun j=>?_
      by_cases hj:i=j
      ·subst hj
       rw [List.getElem?_set_self (List.getElem?_eq_some_iff.mp e1).1,e1]
      ·rw [List.getElem?_set_ne hj]
     show D.nx (σ.set i (some (.ref D0))) _
     rw [es]
     exact abY.nxD (z.mono st3) sm3 (st3.repE ev')
    ·exact z.elim
   ·exact z.elim
  ·exact z.elim
 ·exact h.elim
end
end L2.Pp
namespace L2.Pp
open PySem PySem.Spec PyProof.Rows Bn
section
variable {K:PySem.W.Frag} {cl:Str→Addr} {E:XK} {X:Cx}
theorem akI:∀ {is:List Int} {its:List Value},Vals (is.map V.int) its→IntsAre its is
 | [],_,.nil=>.nil
 | _ :: _,_,.cons r t=>by
  obtain ⟨tk,rfl⟩:=r
  exact .cons _ tk (akI t)
theorem ajq (hc:X.calm=true):aeG X (.builtin "min") (fun xs H Q=>∃ (a:Addr) (is:List Int),xs=[.ref a]∧SqL X.K H a (is.map V.int)∧is≠[]∧∀ M,M∈is→(∀ b∈is,M≤b)→Q (.int M) H):=by
 intro pins s σ H xs us Q I r h
 obtain ⟨a,is,rfl,hq,hne,q⟩:=h
 obtain ⟨u,rfl,ru⟩:=afr r
 cases ru
 obtain ⟨its,rv,pl,hz⟩:=I.list hq
 have hi:=akI rv
 have hl:=pl.isList
 obtain ⟨xs,e⟩:=hi.allInts.items
 have hns:is=xs.toList.map (·.1):=by rw [← hi.numsOf,← nums_intItems,← e]
 have hsz:0 < xs.size:=by
  have h3:0 < is.length:=List.length_pos_iff.mpr hne
  rw [hns,List.length_map,Array.length_toList] at h3
  exact h3
 rw [e] at hl
 refine min_intList (I.ok.hd hc) hl hsz fun v h' tk hv hk=>?_
 obtain ⟨t,rfl⟩:=intItems_at hv
 obtain ⟨h1,h2⟩:=argBest_lt (numAt xs) (xs.size - 1)
 refine ⟨.int _,H,I.kept (h':=h') (t':=tk) hk,⟨t,rfl⟩,q _ ?_ fun a ha=>?_⟩
 ·rw [hns,numAt_eq]
  exact getD_mem (by rw [List.length_map,Array.length_toList]; omega)
 ·rw [hns] at ha
  obtain ⟨j,hj,rfl⟩:=mem_getD ha
  rw [List.length_map,Array.length_toList] at hj
  rw [← numAt_eq]
  exact h2 j (by omega)
def fMin:List PV→Option PV
 | [.lst xs]=>(adf xs).bind fun bs=>bs.min?.map .int
 | _=>none
theorem apz:CaR K (fun xs H Q=>∃ (a:Addr) (is:List Int),xs=[.ref a]∧SqL K H a (is.map V.int)∧is≠[]∧∀ M,M∈is→(∀ b∈is,M≤b)→Q (.int M) H) fMin:=fun {p S H as c xs Q} s ra e k=>by
 unfold fMin at e
 split at e
 ·rename_i zs
  cases y:adf zs with
  | none=>rw [y] at e; cases e
  | some bs =>
   rw [y] at e
   cases ra with
   | cons h t =>
    cases t
    obtain ⟨a,vs,rfl,l,z,r⟩:=h.lst
    rw [ad0 y r] at l
    have e:bs.min?.map PV.int=some c:=e
    cases y2:bs.min? with
    | none=>rw [y2] at e; cases e
    | some m =>
     rw [y2] at e
     cases e
     refine ⟨a,bs,rfl,l,fun z=>?_,fun M hM hle=>?_⟩
     ·rw [z] at y2
      cases y2
     ·have e2:bs.min?=some M:=List.min?_eq_some_iff.mpr ⟨hM,hle⟩
      rw [y2] at e2
      cases e2
      exact k H _ (Same.refl H) (abF (v:=.int _) rfl)
 ·cases e
variable {a e:Expr} {m:ME} {ms:MA} {pos:Pos}
end
end L2.Pp
namespace L2.Pp
open PySem PySem.Spec PyProof.Rows Bn
section
variable {K:PySem.W.Frag} {cl:Str→Addr} {E:XK} {X:Cx}
def alW (K:PySem.W.Frag):R2:=fun x y H Q=>∃ a b ys,x=.ref a∧y=.ref b∧SqT K H a []∧SqT K H b ys∧Q (.ref b) H
theorem alz:OpR X (binaryOp .Add) (alW X.K):=by
 intro pins s σ H x y v u Q I rx ry h
 obtain ⟨a,b,ys,rfl,rfl,ha,hb,q⟩:=h
 cases rx
 cases ry
 obtain ⟨its,r1,p1,_⟩:=I.tuple ha
 obtain ⟨jts,r2,p2,_⟩:=I.tuple hb
 cases r1
 obtain ⟨⟨cls,dd,data,sl⟩,ho,hc,n,hd⟩:=p1
 obtain ⟨⟨cls2,dd2,data2,sl2⟩,ho2,hc2,n2,hd2⟩:=p2
 simp only at hc hd hc2 hd2
 subst hc hd hc2 hd2
 exact concat_meets ⟨_,ho,rfl⟩ ⟨_,ho2,rfl⟩ noFill_tuple_add seq_tuple_add PySem.F.slot_tuple_add PySem.F.entry_tuple_add (PySem.F.args_tuple_add_2 _ _)
  (tuple_addW0 a b _ jts.toArray n n2 dd dd2 sl sl2 (by simp)) ⟨ho,ho2,⟨.ref b,H,I,rfl,q⟩⟩
def akw:PV→PV→Option PV
 | .tup xs,.tup ys=>if xs.length+ys.length≤16777216 then some (.tup (xs++ys)) else none
 | _,_=>none
def an9 (K:PySem.W.Frag):R2:=fun x y H Q=>alW K x y H Q∨amE K x y H Q
theorem ajh:OpR X (binaryOp .Add) (an9 X.K):=OpR.or alz akk
theorem RepR.tupR {p:Ph} {H:Hp} {xs:List PV} {x:V} (h:RepR K p H (.tup xs) x):Rep K p.c H (.tup xs) x:=by
 rcases h with h | ⟨ys,a,vs,e,_⟩
 ·exact h
 ·cases e
theorem alS:OpS K (an9 K) akw:=fun {p S H a b c x y Q} s ra rb e k=>by
 cases a with
 | tup xs =>
  cases b with
  | tup ys =>
   have e:(if xs.length+ys.length≤16777216 then some (PV.tup (xs++ys)) else none)=some c:=e
   split at e
   ·rename_i hl
    cases e
    have ra':=ra.tupR
    have rb':=rb.tupR
    obtain ⟨a1,vs,rfl,l1,z1,r1⟩:=ra.tup
    obtain ⟨a2,ws,rfl,l2,z2,r2⟩:=rb.tup
    have hz:vs.length+ws.length≤sizeLine:=by rw [← r1.length,← r2.length,aa0]; exact hl
    cases xs with
    | nil =>
     have hv:vs=[]:=List.eq_nil_of_length_eq_zero (by rw [← r1.length]; rfl)
     subst hv
     exact .inl ⟨a1,a2,ws,rfl,rfl,l1,l2,k H _ (Same.refl H) rb'⟩
    | cons x0 xs =>
     refine .inr ⟨a1,a2,vs,ws,rfl,rfl,l1,l2,fun q=>?_,hz,fun q=>?_,fun _ t ht=>k _ _ (abp ht) (adV s (r1.append r2) (by rw [List.length_append]; exact hz) ht)⟩
     ·have:=r1.length
      rw [q] at this
      cases this
     ·have hy:ys=[]:=by
       have:=r2.length
       rw [q] at this
       exact List.eq_nil_of_length_eq_zero this
      subst hy
      have e0:x0 :: xs++[]=x0 :: xs:=List.append_nil _
      refine k H _ (Same.refl H) ?_
      rw [e0]
      exact ra'
   ·cases e
  | _=>cases e
 | _=>cases e
end
end L2.Pp
namespace L2.Pp
open PySem
theorem acG:bootBuiltins "len"=some (.builtin "len"):=by decide +kernel
theorem aju:bootBuiltins "abs"=some (.builtin "abs"):=by decide +kernel
theorem ahb:bootBuiltins "sum"=some (.builtin "sum"):=by decide +kernel
theorem an2:bootBuiltins "min"=some (.builtin "min"):=by decide +kernel
theorem agI:bootBuiltins "sorted"=some (.builtin "sorted"):=by decide +kernel
theorem amd:bootBuiltins "int"=some (.type "int"):=by decide +kernel
theorem amN:bootBuiltins "list"=some (.type "list"):=by decide +kernel
theorem ac3:bootBuiltins "tuple"=some (.type "tuple"):=by decide +kernel
end L2.Pp
set_option Elab.async false
set_option maxRecDepth 100000
set_option maxHeartbeats 4000000
namespace Sc
open PySem L2 Bn L2.Pp
abbrev afN:Stmt:=top 6
abbrev acX:Stmt:=top 7
abbrev acx:Stmt:=top 8
abbrev adN:Stmt:=top 10
abbrev adM:Stmt:=top 11
abbrev abq:Stmt:=top 12
abbrev ahC:Stmt:=top 13
abbrev ady:Stmt:=top 14
abbrev abr:Stmt:=top 15
abbrev afE:Stmt:=top 16
abbrev acU:Stmt:=top 18
abbrev acn:Stmt:=top 19
abbrev ace:Stmt:=top 20
abbrev ack:Stmt:=top 22
abbrev abO:Stmt:=top 23
abbrev ac7:Stmt:=top 24
abbrev acl:Stmt:=top 26
abbrev afM:Stmt:=top 28
abbrev aeh:Stmt:=top 29
abbrev afK:Stmt:=top 30
abbrev acv:Stmt:=top 31
abbrev aed:Stmt:=top 32
abbrev acw:Stmt:=top 33
abbrev afc:Stmt:=top 34
abbrev adA:Stmt:=top 35
abbrev afn:Stmt:=top 36
abbrev aef:Stmt:=top 37
abbrev aeO:Stmt:=top 38
abbrev aco:Stmt:=top 39
abbrev abG:Stmt:=top 41
abbrev ad6:Stmt:=top 40
abbrev aei:Stmt:=top 42
abbrev acf:Stmt:=top 43
abbrev aff:Stmt:=top 44
abbrev acm:Stmt:=top 45
abbrev adO:Stmt:=top 46
abbrev adR:Stmt:=top 47
abbrev acT:Stmt:=top 48
abbrev ads:Stmt:=top 49
abbrev acV:Stmt:=top 50
abbrev ac4:Stmt:=top 51
abbrev abW:Stmt:=top 52
abbrev aeo:Stmt:=top 53
noncomputable def aka:MS:=(sSeq (sIf (mTst (mBin fGt (mVar 0) (mC (.int 0)))) (sRet (mC (.int 1))) sNil)
 (sSeq (sIf (mTst (mBin fLt (mVar 0) (mC (.int 0)))) (sRet (mUn fNeg (mC (.int 1)))) sNil)
 (sRet (mC (.int 0)))))
noncomputable def ad9:FM:=fnM 1 1 aka
noncomputable def aeR:MS:=(sSeq (afa (mTst (mBin fNe (mVar 1) (mC (.int 0)))) (sSeq (sSet 2 (mBin fMod (mVar 0) (mVar 1)))
 (sSeq (sSet 0 (mVar 1))
 (sSet 1 (mVar 2)))))
 (sRet (mR fAbs (aab (mVar 0) mNil))))
noncomputable def acz:FM:=fnM 2 3 aeR
noncomputable def ae0:MS:=(sSeq (sSet 1 (mC (.int 0)))
 (sSeq (sFor (mIt (mVar 0)) (gN 2) (sSet 1 (aah acz [] (aab (mVar 1) (aab (mVar 2) mNil)))))
 (sRet (aaC ["number"] [(1,"common")] (mIt (mVar 0)) (gN 0) (mBin adg (mVar 0) (mVar 1))))))
noncomputable def acY:FM:=fnM 1 3 ae0
noncomputable def afi:MS:=(sSeq (sIf (mTst (mBin fEq (mVar 1) (mC (.int 0)))) (aet "NoPoint") sNil)
 (sRet (mR aal (aab (aaC ["number"] [(1,"bottom")] (mIt (aah acY [] (aab (mBin fAdd (mR aak (aab (mVar 0) mNil)) (mN fLst (aab (mVar 1) mNil))) mNil))) (gN 0) (mBin fMul (aah ad9 [] (aab (mVar 1) mNil)) (mVar 0))) mNil))))
noncomputable def aeU:FM:=fnM 2 2 afi
noncomputable def ahv:MS:=(sSeq (sSet 2 (aaC ["one","other"] [(1,"q"),(0,"p")] (mZip (aab (mSl (mVar 0) mO0 (mO1 (mUn fNeg (mC (.int 1))))) (aab (mSl (mVar 1) mO0 (mO1 (mUn fNeg (mC (.int 1))))) mNil))) (gT 2 (aa2 (gN 0) (aa2 (gN 1) acA))) (mBin fAdd (mBin fMul (mVar 0) (mBin fIx (mVar 2) (mUn fNeg (mC (.int 1))))) (mBin fMul (mVar 1) (mBin fIx (mVar 3) (mUn fNeg (mC (.int 1))))))))
 (sRet (abj aeU [] (aab (mVar 2) (aab (mBin fMul (mBin fIx (mVar 0) (mUn fNeg (mC (.int 1)))) (mBin fIx (mVar 1) (mUn fNeg (mC (.int 1))))) mNil)))))
noncomputable def acu:FM:=fnM 2 3 ahv
noncomputable def ac1:MS:=(sRet (aaC ["near","far"] [(0,"start"),(1,"end")] (mZip (aab (mSl (mVar 0) mO0 (mO1 (mUn fNeg (mC (.int 1))))) (aab (mSl (mVar 1) mO0 (mO1 (mUn fNeg (mC (.int 1))))) mNil))) (gT 2 (aa2 (gN 0) (aa2 (gN 1) acA))) (mBin fSub (mBin fMul (mVar 1) (mBin fIx (mVar 2) (mUn fNeg (mC (.int 1))))) (mBin fMul (mVar 0) (mBin fIx (mVar 3) (mUn fNeg (mC (.int 1))))))))
noncomputable def abe:FM:=fnM 2 2 ac1
noncomputable def amk:MS:=(sRet (mR fSum (aab (aaC ["one","other"] [] (mZip (aab (mVar 0) (aab (mVar 1) mNil))) (gT 2 (aa2 (gN 0) (aa2 (gN 1) acA))) (mBin fMul (mVar 0) (mVar 1))) mNil)))
noncomputable def aiP:FM:=fnM 2 2 amk
noncomputable def aeH:MS:=(sSeq (sSet 1 (mBin fIx (mVar 0) (mC (.int 0))))
 (sSeq (sIf (mTst (mBin fEq (mR fLen (aab (mVar 0) mNil)) (mC (.int 1)))) (sRet (mN fLst (aab (mUn fNeg (mBin fIx (mVar 1) (mC (.int 1)))) (aab (mBin fIx (mVar 1) (mC (.int 0))) mNil)))) sNil)
 (sSeq (sSet 2 (mBin fIx (mVar 0) (mC (.int 1))))
 (sRet (mN fLst (aab (mBin fSub (mBin fMul (mBin fIx (mVar 1) (mC (.int 1))) (mBin fIx (mVar 2) (mC (.int 2)))) (mBin fMul (mBin fIx (mVar 1) (mC (.int 2))) (mBin fIx (mVar 2) (mC (.int 1))))) (aab (mBin fSub (mBin fMul (mBin fIx (mVar 1) (mC (.int 2))) (mBin fIx (mVar 2) (mC (.int 0)))) (mBin fMul (mBin fIx (mVar 1) (mC (.int 0))) (mBin fIx (mVar 2) (mC (.int 2))))) (aab (mBin fSub (mBin fMul (mBin fIx (mVar 1) (mC (.int 0))) (mBin fIx (mVar 2) (mC (.int 1)))) (mBin fMul (mBin fIx (mVar 1) (mC (.int 1))) (mBin fIx (mVar 2) (mC (.int 0))))) mNil))))))))
noncomputable def acI:FM:=fnM 1 3 aeH
noncomputable def aci:MS:=(sSeq (sSet 1 (aaC ["p"] [(0,"points")] (mIt (mSl (mVar 0) (mO1 (mC (.int 1))) mO0)) (gN 0) (aah abe [] (aab (mBin fIx (mVar 1) (mC (.int 0))) (aab (mVar 0) mNil)))))
 (sRet (aah aiP [] (aab (aah acI [] (aab (mSl (mVar 1) mO0 (mO1 (mUn fNeg (mC (.int 1))))) mNil)) (aab (mBin fIx (mVar 1) (mUn fNeg (mC (.int 1)))) mNil)))))
noncomputable def abg:FM:=fnM 1 2 aci
noncomputable def aiC:MS:=(sRet (aah ad9 [] (aab (aah abg [] (aab (mVar 0) mNil)) mNil)))
noncomputable def adc:FM:=fnM 1 1 aiC
noncomputable def acP:MS:=(sSeq (sSet 1 (mR ae7 (aab (mVar 0) mNil)))
 (sSeq (sSet 2 (aah adc [] (aab (mVar 1) mNil)))
 (sSeq (sIf (mTst (mBin fEq (mVar 2) (mC (.int 0)))) (aet "Flat") sNil)
 (sSeq (sIf (mTst (mBin fLt (mVar 2) (mC (.int 0)))) (sSet 1 (mBin fAdd (mSl (mVar 1) mO0 (mO1 (mUn fNeg (mC (.int 2))))) (mN fLst (aab (mBin fIx (mVar 1) (mUn fNeg (mC (.int 1)))) (aab (mBin fIx (mVar 1) (mUn fNeg (mC (.int 2)))) mNil))))) sNil)
 (sRet (mR aal (aab (mVar 1) mNil)))))))
noncomputable def ab9:FM:=fnM 1 3 acP
noncomputable def aen:MS:=(sRet (mBin akw (mBin akw (mSl (mVar 0) mO0 (mO1 (mVar 1))) (mN fTup (aab (mVar 2) mNil))) (mSl (mVar 0) (mO1 (mBin fAdd (mVar 1) (mC (.int 1)))) mO0)))
noncomputable def ab1:FM:=fnM 3 3 aen
noncomputable def aek:MS:=(sRet (mR fMin (aab (aaC ["k"] [(0,"piece"),(1,"p")] (aaE (aab (mR fLen (aab (mVar 0) mNil)) mNil)) (gN 0) (aah adc [] (aab (aah ab1 [] (aab (mVar 1) (aab (mVar 0) (aab (mVar 2) mNil)))) mNil))) mNil)))
noncomputable def acd:FM:=fnM 2 2 aek
noncomputable def aee:MS:=(sRet (mBin fAdd (mBin fAdd (mSl (mVar 0) mO0 (mO1 (mC (.int 2)))) (mN fTup (aab (mC (.int 0)) mNil))) (mSl (mVar 0) (mO1 (mC (.int 2))) mO0)))
noncomputable def ab0:FM:=fnM 1 1 aee
noncomputable def ab8:MS:=(sIf (mTst (mBin fEq (mBin fIx (mVar 0) (mC (.int 2))) (mC (.int 0)))) (aet "Flat") sNil)
noncomputable def abv:FM:=fnM 1 1 ab8
noncomputable def aeW:MS:=(sSeq (aaW (abj abv [] (aab (mVar 1) mNil)))
 (sSeq (sSet 2 (mNew mNil))
 (sSeq (sFor (mIt (mVar 0)) (gN 3) (sSeq (sSet 4 (aaC ["p"] [] (mIt (mVar 3)) (gN 0) (aah ab0 [] (aab (mVar 0) mNil))))
 (sSeq (sSet 5 (mBin fAdd (mVar 4) (aaC ["p"] [(1,"arrow")] (mIt (mVar 4)) (gN 0) (aah acu [] (aab (mVar 0) (aab (mVar 1) mNil))))))
 (ajp 2 (aaC ["k"] [(5,"corners")] (aaE (aab (mC (.int 3)) mNil)) (gN 0) (abj ab9 [] (aab (mSl (mVar 1) (mO1 (mVar 0)) (mO1 (mBin fAdd (mVar 0) (mC (.int 4))))) mNil)))))))
 (sRet (mR aal (aab (mVar 2) mNil))))))
noncomputable def adr:FM:=fnM 2 6 aeW
noncomputable def acW:MS:=(sSeq (sSet 2 (mC (.int 0)))
 (sSeq (sFor (mIt (mVar 0)) (gN 3) (sSeq (sSet 4 (aah acd [] (aab (mVar 3) (aab (mVar 1) mNil))))
 (sSeq (sIf (mTst (mBin fEq (mVar 4) (mC (.int 0)))) (aet "OnSide") sNil)
 (sIf (mTst (mBin fGt (mVar 4) (mC (.int 0)))) (akq (fun i j=>i+j) 2 (mC (.int 1))) sNil))))
 (sRet (mVar 2))))
noncomputable def abN:FM:=fnM 2 5 acW
noncomputable def ajH:MS:=(sSeq (sSet 1 (mNew mNil))
 (sSeq (sFor (anm (aab (mSl (mVar 0) mO0 (mO1 (mC (.int 63)))) mNil)) (gT 2 (aa2 (gN 2) (aa2 (gN 3) acA))) (sIf (mTst (mBin fGe (mVar 3) (mBin fPow (mC (.int 10)) (mC (.int 18))))) (aaW (mApp (mVar 1) (aab (mBin fSub (mVar 3) (mBin fPow (mC (.int 10)) (mC (.int 18)))) mNil))) (sSeq (sSet 4 (mBin fMod (mBin fMul (mBin fAdd (mBin fAdd (mBin fAdd (mVar 3) (mBin fMul (mBin fMul (mC (.int 7)) (mVar 2)) (mVar 2))) (mBin fMul (mC (.int 13)) (mVar 2))) (mC (.int 5))) (mC (.int 48271))) (mC (.int 2147483647))))
 (sSeq (sSet 5 (mBin fMod (mBin fMul (mBin fAdd (mBin fAdd (mBin fAdd (mVar 3) (mBin fMul (mBin fMul (mC (.int 11)) (mVar 2)) (mVar 2))) (mBin fMul (mC (.int 17)) (mVar 2))) (mC (.int 3))) (mC (.int 40692))) (mC (.int 2147483399))))
 (sSeq (sSet 6 (mBin fMod (mBin fMul (mBin fAdd (mBin fAdd (mBin fAdd (mVar 3) (mBin fMul (mBin fMul (mC (.int 5)) (mVar 2)) (mVar 2))) (mBin fMul (mC (.int 29)) (mVar 2))) (mC (.int 8))) (mC (.int 39373))) (mC (.int 2147483587))))
 (sSeq (sSet 4 (mBin fMod (mBin fMul (mVar 4) (mC (.int 52021))) (mC (.int 1000000007))))
 (sSeq (sSet 5 (mBin fMod (mBin fMul (mVar 5) (mC (.int 30011))) (mC (.int 998244353))))
 (sSeq (sSet 6 (mBin fMod (mBin fMul (mVar 6) (mC (.int 45989))) (mC (.int 1000000009))))
 (aaW (mApp (mVar 1) (aab (mBin fAdd (mBin fMul (mBin fAdd (mBin fMul (mVar 4) (mC (.int 998244353))) (mVar 5)) (mC (.int 1000000009))) (mVar 6)) mNil)))))))))))
 (sRet (mVar 1))))
noncomputable def aeB:FM:=fnM 1 7 ajH
noncomputable def af3:MS:=(sSeq (afa (mAnd (mTst (mBin fGt (mR fLen (aab (mVar 0) mNil)) (mC (.int 0)))) (mTst (mBin fEq (mBin fIx (mVar 0) (mC (.int 0))) (mC (.int 0))))) (aaW (mPop (mVar 0) (aab (mC (.int 0)) mNil))))
 (sSeq (sIf (mTst (mBin fEq (mR fLen (aab (mVar 0) mNil)) (mC (.int 0)))) (sRet (mC (.int 0))) sNil)
 (sSeq (sSet 2 (mBin fMod (mBin fIx (mVar 0) (mC (.int 0))) (mVar 1)))
 (sSeq (acr (mVar 0) (mC (.int 0)) (mBin adg (mBin fIx (mVar 0) (mC (.int 0))) (mVar 1)))
 (sRet (mVar 2))))))
noncomputable def aaq:FM:=fnM 2 3 af3
noncomputable def ajA:MS:=(sSeq (sSet 0 (mR fAbs (aab (mVar 0) mNil)))
 (sSeq (sSet 1 (mR fAbs (aab (mVar 1) mNil)))
 (sSeq (afa (mTst (mBin fGt (mVar 1) (mC (.int 0)))) (sPar 0 1 (aab (mVar 1) (aab (mBin fMod (mVar 0) (mVar 1)) mNil))))
 (sRet (mVar 0)))))
noncomputable def afm:FM:=fnM 2 2 ajA
noncomputable def aea:MS:=(sSeq (sSet 1 (mC (.int 0)))
 (sSeq (sFor (mIt (mVar 0)) (gN 2) (sSet 1 (aah afm [] (aab (mVar 1) (aab (mVar 2) mNil)))))
 (sSeq (sIf (mTst (mBin fEq (mVar 1) (mC (.int 0)))) (sRet (mR aal (aab (mVar 0) mNil))) sNil)
 (sRet (mR aal (aab (aaC ["_law_number"] [(1,"_law_by")] (mIt (mVar 0)) (gN 0) (mBin adg (mVar 0) (mVar 1))) mNil))))))
noncomputable def aaF:FM:=fnM 1 3 aea
noncomputable def ahK:MS:=(sSeq (sIf (mTst (mBin fLt (mVar 1) (mC (.int 0)))) (sRet (aah aaF [] (aab (mN fLst (aab (mBin fSub (mC (.int 0)) (mVar 0)) (aab (mBin fSub (mC (.int 0)) (mVar 1)) mNil))) mNil))) sNil)
 (sRet (aah aaF [] (aab (mN fLst (aab (mVar 0) (aab (mVar 1) mNil))) mNil))))
noncomputable def abD:FM:=fnM 2 2 ahK
noncomputable def aeM:MS:=(sSeq (sSet 3 (aaC ["_law_k"] [(2,"_law_way"),(1,"_law_q"),(0,"_law_p")] (aaE (aab (mBin fSub (mR fLen (aab (mVar 0) mNil)) (mC (.int 1))) mNil)) (gN 0) (mBin fAdd (mBin fMul (mBin fMul (mVar 1) (mBin fIx (mVar 3) (mVar 0))) (mBin fIx (mVar 2) (mUn fNeg (mC (.int 1))))) (mBin fMul (mBin fIx (mVar 2) (mVar 0)) (mBin fIx (mVar 3) (mUn fNeg (mC (.int 1))))))))
 (sRet (aah aaF [] (aab (mBin fAdd (mVar 3) (mN fLst (aab (mBin fMul (mBin fIx (mVar 0) (mUn fNeg (mC (.int 1)))) (mBin fIx (mVar 1) (mUn fNeg (mC (.int 1))))) mNil))) mNil))))
noncomputable def abh:FM:=fnM 3 4 aeM
noncomputable def akt:MS:=(sRet (aaC ["_law_k"] [(1,"_law_q"),(0,"_law_p")] (aaE (aab (mBin fSub (mR fLen (aab (mVar 0) mNil)) (mC (.int 1))) mNil)) (gN 0) (mBin fSub (mBin fMul (mBin fIx (mVar 1) (mVar 0)) (mBin fIx (mVar 2) (mUn fNeg (mC (.int 1))))) (mBin fMul (mBin fIx (mVar 2) (mVar 0)) (mBin fIx (mVar 1) (mUn fNeg (mC (.int 1))))))))
noncomputable def aez:FM:=fnM 2 2 akt
noncomputable def afX:MS:=(sSeq (sSet 2 (mBin fSub (mBin fMul (mBin fIx (mVar 0) (mC (.int 1))) (mBin fIx (mVar 1) (mC (.int 2)))) (mBin fMul (mBin fIx (mVar 0) (mC (.int 2))) (mBin fIx (mVar 1) (mC (.int 1))))))
 (sSeq (sSet 3 (mBin fSub (mBin fMul (mBin fIx (mVar 0) (mC (.int 2))) (mBin fIx (mVar 1) (mC (.int 0)))) (mBin fMul (mBin fIx (mVar 0) (mC (.int 0))) (mBin fIx (mVar 1) (mC (.int 2))))))
 (sSeq (sSet 4 (mBin fSub (mBin fMul (mBin fIx (mVar 0) (mC (.int 0))) (mBin fIx (mVar 1) (mC (.int 1)))) (mBin fMul (mBin fIx (mVar 0) (mC (.int 1))) (mBin fIx (mVar 1) (mC (.int 0))))))
 (sRet (mN fLst (aab (mVar 2) (aab (mVar 3) (aab (mVar 4) mNil))))))))
noncomputable def adv:FM:=fnM 2 5 afX
noncomputable def akE:MS:=(sRet (mR fSum (aab (aaC ["_law_one","_law_other"] [] (mZip (aab (mVar 0) (aab (mVar 1) mNil))) (gT 2 (aa2 (gN 0) (aa2 (gN 1) acA))) (mBin fMul (mVar 0) (mVar 1))) mNil)))
noncomputable def afU:FM:=fnM 2 2 akE
noncomputable def adJ:MS:=(sSeq (sIf (mTst (mBin fEq (mR fLen (aab (mVar 0) mNil)) (mC (.int 2)))) (sRet (mBin fSub (mBin fMul (mBin fIx (mBin fIx (mVar 0) (mC (.int 0))) (mC (.int 0))) (mBin fIx (mBin fIx (mVar 0) (mC (.int 1))) (mC (.int 1)))) (mBin fMul (mBin fIx (mBin fIx (mVar 0) (mC (.int 0))) (mC (.int 1))) (mBin fIx (mBin fIx (mVar 0) (mC (.int 1))) (mC (.int 0)))))) sNil)
 (sRet (aah afU [] (aab (aah adv [] (aab (mBin fIx (mVar 0) (mC (.int 0))) (aab (mBin fIx (mVar 0) (mC (.int 1))) mNil))) (aab (mBin fIx (mVar 0) (mC (.int 2))) mNil)))))
noncomputable def abP:FM:=fnM 1 1 adJ
noncomputable def afA:MS:=(sRet (aah abP [] (aab (aaC ["_law_p"] [(0,"_law_points")] (mIt (mSl (mVar 0) (mO1 (mC (.int 1))) mO0)) (gN 0) (aah aez [] (aab (mBin fIx (mVar 1) (mC (.int 0))) (aab (mVar 0) mNil)))) mNil)))
noncomputable def aca:FM:=fnM 1 1 afA
noncomputable def adt:MS:=(sSeq (sSet 1 (mR ae7 (aab (mVar 0) mNil)))
 (sSeq (sIf (mTst (mBin fLt (aah aca [] (aab (mVar 1) mNil)) (mC (.int 0)))) (sSet 1 (mBin fAdd (mSl (mVar 1) mO0 (mO1 (mUn fNeg (mC (.int 2))))) (mN fLst (aab (mBin fIx (mVar 1) (mUn fNeg (mC (.int 1)))) (aab (mBin fIx (mVar 1) (mUn fNeg (mC (.int 2)))) mNil))))) sNil)
 (sRet (mR aal (aab (mVar 1) mNil)))))
noncomputable def aaU:FM:=fnM 1 2 adt
noncomputable def adK:MS:=(sRet (aah abP [] (aab (aaC ["_law_corner"] [(0,"_law_corners")] (mIt (mSl (mVar 0) (mO1 (mC (.int 1))) mO0)) (gN 0) (aaC ["_law_b","_law_c"] [] (mZip (aab (mBin fIx (mVar 1) (mC (.int 0))) (aab (mVar 0) mNil))) (gT 2 (aa2 (gN 0) (aa2 (gN 1) acA))) (mBin fSub (mVar 1) (mVar 0)))) mNil)))
noncomputable def abH:FM:=fnM 1 1 adK
noncomputable def aj8:MS:=(sSeq (sSet 3 (mNew mNil))
 (sSeq (sFor (aaE (aab (mBin fAdd (mVar 1) (mC (.int 1))) mNil)) (gN 4) (aaW (mApp (mVar 3) (aab (aaC ["_law_m"] [(0,"_law_row_here"),(2,"_law_wide")] (aaE (aab (mVar 1) mNil)) (gN 0) (aah aaq [] (aab (mVar 1) (aab (mBin fAdd (mVar 2) (mC (.int 1))) mNil)))) mNil))))
 (sSeq (sIf (mTst (mBin fNe (aah abH [] (aab (mVar 3) mNil)) (mC (.int 0)))) (sRet (mVar 3)) sNil)
 (sRet (aaC ["_law_k"] [(1,"_law_dims")] (adL (aab (mUn fNeg (mC (.int 1))) (aab (mVar 1) mNil))) (gN 0) (aaC ["_law_m"] [(0,"_law_k")] (aaE (aab (mVar 1) mNil)) (gN 0) (mR fInt (aab (mBin fEq (mVar 0) (mVar 1)) mNil))))))))
noncomputable def ada:FM:=fnM 3 5 aj8
noncomputable def akC:MS:=(sSeq (sSet 1 (mNew (aab (mC (.int 0)) (aab (mC (.int 1)) (aab (mC (.int 2)) mNil)))))
 (sSeq (sSet 2 (mNew (aab (mC (.int 0)) (aab (mC (.int 0)) (aab (mC (.int 0)) mNil)))))
 (sSeq (sSet 3 (mLol (aab (mVar 2) mNil)))
 (sSeq (sFor (aaE (aab (mC (.int 3)) mNil)) (gN 4) (sSeq (acr (mVar 2) (mPop (mVar 1) (aab (aah aaq [] (aab (mVar 0) (aab (mR fLen (aab (mVar 1) mNil)) mNil))) mNil)) (mC (.int 1)))
 (aaW (anV (mVar 3) (aab (mVar 2) mNil)))))
 (sSeq (sFor (aaE (aab (mC (.int 3)) mNil)) (gN 5) (sIf (mTst (mBin fEq (aah aaq [] (aab (mVar 0) (aab (mC (.int 4)) mNil))) (mC (.int 3)))) (amZ 3 2 5) sNil))
 (sRet (mVar 3)))))))
noncomputable def aec:FM:=fnL 1 6 akC
noncomputable def adT:MS:=(sSeq (sSet 3 (mNew mNil))
 (sSeq (sFor (aaE (aab (aah aaq [] (aab (mVar 0) (aab (mBin fAdd (mVar 2) (mC (.int 1))) mNil))) mNil)) (gN 4) (sSeq (sSet 5 (aah aaq [] (aab (mVar 0) (aab (mC (.int 6)) mNil))))
 (sIf (mAnd (mTst (mBin fEq (mVar 5) (mC (.int 5)))) (mTst (mBin fGt (mR fLen (aab (mVar 3) mNil)) (mC (.int 0))))) (aaW (mApp (mVar 3) (aab (mBin fIx (mVar 3) (mUn fNeg (mC (.int 1)))) mNil))) (sIf (mTst (mBin fEq (mVar 1) (mC (.int 2)))) (aaW (mApp (mVar 3) (aab (aah ada [] (aab (mVar 0) (aab (mC (.int 2)) (aab (mBin fAdd (mC (.int 1)) (mR fInt (aab (mBin fEq (mVar 5) (mC (.int 4))) mNil))) mNil)))) mNil))) (sIf (mTst (mBin fGt (mVar 5) (mC (.int 3)))) (aaW (mApp (mVar 3) (aab (aah ada [] (aab (mVar 0) (aab (mC (.int 3)) (aab (mC (.int 1)) mNil)))) mNil))) (aaW (mApp (mVar 3) (aab (aah aec [] (aab (mVar 0) mNil)) mNil))))))))
 (sRet (mVar 3))))
noncomputable def abZ:FM:=fnM 3 6 adT
noncomputable def ajR:MS:=(sSeq (sSet 2 (aah aaq [] (aab (mVar 0) (aab (mC (.int 4)) mNil))))
 (sSeq (sSet 3 (mBin fIx (mN fLst (aab (mC (.int 0)) (aab (mC (.int 3)) (aab (mC (.int 9)) (aab (mBin fPow (mC (.int 10)) (mC (.int 12))) mNil))))) (mVar 2)))
 (sSeq (sSet 4 (mBin fAdd (mC (.int 1)) (mBin fMul (aah aaq [] (aab (mVar 0) (aab (mC (.int 9)) mNil))) (mBin adg (mVar 2) (mC (.int 2))))))
 (sSeq (sSet 5 (aaC ["_law_k"] [(3,"_law_wide"),(0,"_law_row_here")] (aaE (aab (mVar 1) mNil)) (gN 0) (mBin fSub (aah aaq [] (aab (mVar 2) (aab (mBin fAdd (mBin fMul (mC (.int 2)) (mVar 1)) (mC (.int 1))) mNil))) (mVar 1))))
 (sRet (aah aaF [] (aab (mBin fAdd (mVar 5) (mN fLst (aab (mVar 4) mNil))) mNil)))))))
noncomputable def acF:FM:=fnM 2 6 ajR
noncomputable def aeb:MS:=(sSeq (sSet 2 (mNew mNil))
 (sSeq (sFor (aaE (aab (mVar 1) mNil)) (gN 3) (sSeq (sSet 4 (aah aaq [] (aab (mVar 0) (aab (mC (.int 3)) mNil))))
 (aaW (mApp (mVar 2) (aab (aah abD [] (aab (mBin fAdd (mC (.int 1)) (aah aaq [] (aab (mVar 0) (aab (mBin fIx (mN fLst (aab (mC (.int 1)) (aab (mC (.int 7)) (aab (mBin fPow (mC (.int 10)) (mC (.int 9))) mNil)))) (mVar 4)) mNil)))) (aab (mBin fAdd (mC (.int 1)) (aah aaq [] (aab (mVar 0) (aab (mBin fIx (mN fLst (aab (mC (.int 1)) (aab (mC (.int 7)) (aab (mBin fPow (mC (.int 10)) (mC (.int 6))) mNil)))) (mVar 4)) mNil)))) mNil))) mNil)))))
 (sRet (mVar 2))))
noncomputable def acg:FM:=fnM 2 5 aeb
noncomputable def agp:MS:=(sSeq (sSet 2 (mC (.int 1)))
 (sSeq (sFor (mIt (mVar 1)) (gN 3) (sSet 2 (mBin fMul (mVar 2) (mBin fIx (mVar 3) (mC (.int 1))))))
 (sSeq (sSet 4 (aaC ["_law_number","_law_part"] [(2,"_law_under")] (mZip (aab (mVar 0) (aab (mVar 1) mNil))) (gT 2 (aa2 (gN 0) (aa2 (gN 1) acA))) (mBin fMul (mBin fMul (mVar 0) (mBin fIx (mVar 1) (mC (.int 0)))) (mBin adg (mVar 2) (mBin fIx (mVar 1) (mC (.int 1)))))))
 (sRet (aah aaF [] (aab (mBin fAdd (mVar 4) (mN fLst (aab (mVar 2) mNil))) mNil))))))
noncomputable def abB:FM:=fnM 2 5 agp
noncomputable def ahj:MS:=(sSeq (sSet 3 (mNew mNil))
 (sSeq (sFor (mIt (mVar 1)) (gN 4) (sSeq (sSet 5 (aah acF [] (aab (mVar 0) (aab (mR fLen (aab (mVar 2) mNil)) mNil))))
 (aaW (mApp (mVar 3) (aab (aah aaU [] (aab (aaC ["_law_corner"] [(5,"_law_far_here"),(2,"_law_stretch_here")] (mIt (mVar 4)) (gN 0) (aah abh [] (aab (aah abB [] (aab (mVar 0) (aab (mVar 2) mNil))) (aab (mVar 1) (aab (mC (.int 1)) mNil))))) mNil)) mNil)))))
 (sRet (mVar 3))))
noncomputable def adS:FM:=fnM 3 6 ahj
noncomputable def afg:MS:=(sSeq (sSet 2 (mC (.int 1)))
 (sSeq (sFor (aaE (aab (mR fLen (aab (mVar 0) mNil)) mNil)) (gN 3) (sSeq (sSet 4 (aiR (aab (mVar 0) mNil)))
 (sSeq (acr (mVar 4) (mVar 3) (mVar 1))
 (sSeq (sSet 5 (aah aca [] (aab (mVar 4) mNil)))
 (sSeq (sIf (mTst (mBin fLt (mVar 5) (mC (.int 0)))) (sRet (mUn fNeg (mC (.int 1)))) sNil)
 (sIf (mTst (mBin fEq (mVar 5) (mC (.int 0)))) (sSet 2 (mC (.int 0))) sNil))))))
 (sRet (mVar 2))))
noncomputable def acy:FM:=fnM 2 6 afg
noncomputable def af8:MS:=(sSeq (sSet 2 (mC (.int 0)))
 (sSeq (sFor (mIt (mVar 0)) (gN 3) (sSeq (sSet 4 (aah acy [] (aab (mVar 3) (aab (mVar 1) mNil))))
 (sSeq (sIf (mTst (mBin fEq (mVar 4) (mC (.int 0)))) (sRet (mUn fNeg (mC (.int 1)))) sNil)
 (sIf (mTst (mBin fEq (mVar 4) (mC (.int 1)))) (sSet 2 (mBin fAdd (mVar 2) (mC (.int 1)))) sNil))))
 (sRet (mVar 2))))
noncomputable def ab5:FM:=fnM 2 5 af8
noncomputable def aeN:MS:=(sRet (mN fTup (aab (mBin fIx (mVar 0) (mC (.int 0))) (aab (mBin fIx (mVar 0) (mC (.int 1))) (aab (mC (.int 0)) (aab (mBin fIx (mVar 0) (mC (.int 2))) mNil))))))
noncomputable def ab3:FM:=fnM 1 1 aeN
noncomputable def afY:MS:=(sSeq (sSet 2 (mBin fIx (mN fLst (aab (mC (.int 1)) (aab (mC (.int 3)) (aab (mBin fPow (mC (.int 10)) (mC (.int 9))) mNil)))) (aah aaq [] (aab (mVar 0) (aab (mC (.int 3)) mNil)))))
 (sSeq (sSet 3 (mBin fIx (mN fLst (aab (mC (.int 1)) (aab (mC (.int 4)) (aab (mBin fPow (mC (.int 10)) (mC (.int 6))) mNil)))) (aah aaq [] (aab (mVar 0) (aab (mC (.int 3)) mNil)))))
 (sSeq (sSet 3 (mBin fAdd (mC (.int 1)) (aah aaq [] (aab (mVar 0) (aab (mVar 3) mNil)))))
 (sSeq (sSet 4 (aht ["_law_k"] [(2,"_law_wide"),(0,"_law_row_here")] (aaE (aab (mVar 1) mNil)) (gN 0) (mBin fSub (aah aaq [] (aab (mVar 2) (aab (mBin fAdd (mBin fMul (mC (.int 2)) (mVar 1)) (mC (.int 1))) mNil))) (mVar 1))))
 (sSeq (acr (mVar 4) (mUn fNeg (mC (.int 1))) (mBin fMul (mBin fAdd (mC (.int 1)) (aah aaq [] (aab (mVar 0) (aab (mVar 2) mNil)))) (mBin fSub (mC (.int 1)) (mBin fMul (mC (.int 2)) (aah aaq [] (aab (mVar 0) (aab (mC (.int 2)) mNil)))))))
 (sSeq (sIf (mTst (mBin fEq (aah aaq [] (aab (mVar 0) (aab (mC (.int 8)) mNil))) (mC (.int 7)))) (acr (mVar 4) (mUn fNeg (mC (.int 1))) (mC (.int 0))) sNil)
 (sRet (aah aaF [] (aab (mBin fAdd (mVar 4) (mN fLst (aab (mVar 3) mNil))) mNil)))))))))
noncomputable def acE:FM:=fnM 2 5 afY
noncomputable def adU:MS:=(sSeq (sSet 2 (mC (.int 1)))
 (sSeq (sFor (mIt (mVar 0)) (gN 3) (sSet 2 (mBin fMul (mVar 2) (mBin fIx (mVar 3) (mUn fNeg (mC (.int 1)))))))
 (sSeq (sSet 4 (mNew mNil))
 (sSeq (sFor (aaE (aab (mBin fSub (mR fLen (aab (mBin fIx (mVar 0) (mC (.int 0))) mNil)) (mC (.int 1))) mNil)) (gN 5) (aaW (mApp (mVar 4) (aab (mR fSum (aab (aaC ["_law_weight","_law_p"] [(2,"_law_under"),(5,"_law_k")] (mZip (aab (mVar 1) (aab (mVar 0) mNil))) (gT 2 (aa2 (gN 0) (aa2 (gN 1) acA))) (mBin fMul (mBin fMul (mVar 0) (mBin fIx (mVar 1) (mVar 3))) (mBin adg (mVar 2) (mBin fIx (mVar 1) (mUn fNeg (mC (.int 1))))))) mNil)) mNil))))
 (sRet (aah aaF [] (aab (mBin fAdd (mVar 4) (mN fLst (aab (mBin fMul (mVar 2) (mR fSum (aab (mVar 1) mNil))) mNil))) mNil)))))))
noncomputable def abX:FM:=fnM 2 6 adU
noncomputable def amB:MS:=(sSeq (sSet 1 (aa4 aeB [] (aab (mVar 0) mNil)))
 (sSeq (sSet 2 (aah acg [] (aab (mVar 1) (aab (mC (.int 2)) mNil))))
 (sSeq (sSet 3 (aah abZ [] (aab (mVar 1) (aab (mC (.int 2)) (aab (mC (.int 3)) mNil)))))
 (sSeq (sIf (mTst (mBin fEq (aah aaq [] (aab (mVar 1) (aab (mC (.int 2)) mNil))) (mC (.int 1)))) (sSet 4 (aaC ["_law_corners"] [(2,"_law_stretch_here")] (mIt (mVar 3)) (gN 0) (aah aaU [] (aab (aaC ["_law_corner"] [(1,"_law_stretch_here")] (mIt (mVar 0)) (gN 0) (aah abB [] (aab (mVar 0) (aab (mVar 1) mNil)))) mNil)))) (sSet 4 (aah adS [] (aab (mVar 1) (aab (mVar 3) (aab (mVar 2) mNil))))))
 (sSeq (sSet 5 (aah acE [] (aab (mVar 1) (aab (mC (.int 3)) mNil))))
 (sSeq (sIf (mTst (mBin fEq (mBin fIx (mVar 5) (mC (.int 2))) (mC (.int 0)))) (sSet 5 (mN fTup (aab (mBin fIx (mVar 5) (mC (.int 0))) (aab (mBin fIx (mVar 5) (mC (.int 1))) (aab (mBin fIx (mVar 5) (mC (.int 3))) (aab (mBin fIx (mVar 5) (mC (.int 3))) mNil)))))) sNil)
 (sSeq (sSet 6 (aah acF [] (aab (mVar 1) (aab (mC (.int 2)) mNil))))
 (sSeq (sIf (mAnd (mTst (mBin fGt (mR fLen (aab (mVar 4) mNil)) (mC (.int 0)))) (mTst (mBin fLt (aah aaq [] (aab (mVar 1) (aab (mC (.int 4)) mNil))) (mC (.int 3))))) (sSeq (sSet 7 (mBin fIx (mVar 4) (aah aaq [] (aab (mVar 1) (aab (mR fLen (aab (mVar 4) mNil)) mNil)))))
 (sSeq (sSet 8 (aaC ["_law_k"] [(1,"_law_row_here")] (aaE (aab (mC (.int 3)) mNil)) (gN 0) (aah aaq [] (aab (mVar 1) (aab (mC (.int 4)) mNil)))))
 (sIf (mTst (mBin fGt (mR fSum (aab (mVar 8) mNil)) (mC (.int 0)))) (sSet 6 (aah abX [] (aab (mVar 7) (aab (mVar 8) mNil)))) sNil))) sNil)
 (sSeq (sSet 9 (aah abD [] (aab (mBin fSub (aah aaq [] (aab (mVar 1) (aab (mC (.int 7)) mNil))) (mC (.int 1))) (aab (mC (.int 4)) mNil))))
 (sSeq (sIf (mTst (mBin fEq (aah aaq [] (aab (mVar 1) (aab (mC (.int 2)) mNil))) (mC (.int 1)))) (sSet 9 (aah abD [] (aab (mBin fAdd (mC (.int 1)) (aah aaq [] (aab (mVar 1) (aab (mC (.int 6)) mNil)))) (aab (mBin fAdd (mC (.int 7)) (aah aaq [] (aab (mVar 1) (aab (mBin fPow (mC (.int 10)) (mC (.int 6))) mNil)))) mNil)))) sNil)
 (sSeq (sSet 10 (aah ab5 [] (aab (mVar 4) (aab (mVar 6) mNil))))
 (sSeq (sSet 11 (mBin fAdd (aaC ["_law_number"] [(9,"_law_share")] (mIt (mSl (mVar 5) mO0 (mO1 (mC (.int 3))))) (gN 0) (mBin fMul (mBin fIx (mVar 1) (mC (.int 0))) (mVar 0))) (mN fLst (aab (mBin fMul (mBin fIx (mVar 9) (mC (.int 1))) (mBin fIx (mVar 5) (mC (.int 3)))) mNil))))
 (sSeq (sSet 11 (aah abh [] (aab (aah ab3 [] (aab (mVar 6) mNil)) (aab (aah aaF [] (aab (mVar 11) mNil)) (aab (mC (.int 1)) mNil)))))
 (sSeq (sSet 12 (abj adr [] (aab (mR aal (aab (mVar 4) mNil)) (aab (aah aaF [] (aab (mVar 5) mNil)) mNil))))
 (sSeq (sSet 13 (aah ab5 [] (aab (mVar 12) (aab (mVar 11) mNil))))
 (sSeq (sIf (mOr (mTst (mBin fLt (mVar 10) (mC (.int 0)))) (mOr (mTst (mBin fLt (mVar 13) (mC (.int 0)))) (mOr (mTst (mBin fEq (mBin fIx (mVar 9) (mC (.int 0))) (mC (.int 0)))) (mTst (mBin fEq (mBin fIx (mVar 9) (mC (.int 0))) (mBin fIx (mVar 9) (mC (.int 1)))))))) (sRet (mC (.bl true))) sNil)
 (sSeq (sIf (mOr (mTst (mBin fLt (mBin fIx (mVar 9) (mC (.int 0))) (mC (.int 0)))) (mTst (mBin fGt (mBin fIx (mVar 9) (mC (.int 0))) (mBin fIx (mVar 9) (mC (.int 1)))))) (sSet 10 (mC (.int 0))) sNil)
 (sRet (abK (mBin fEq (mVar 13) (mVar 10)) (mBin fEq (abj abN [] (aab (mVar 12) (aab (mVar 11) mNil))) (mVar 10)))))))))))))))))))))
noncomputable def am8:FM:=fnM 1 14 amB
section
variable {P:Program} {w:World} {K:PySem.W.Frag} {mg:Str→Option Value} {base:Heap} {cl:Str→Addr}
theorem ajz:aaA ["number"] ["number"] (aaf afN):=⟨rfl,rfl,rfl,by decide +kernel,rfl,by decide +kernel,by decide +kernel⟩
theorem anf {f:Addr} {fd:FuncData} (F:Fun K "sign" "sign" afN f fd)
  : FnOk P w K mg base CX0 1 f fd ["number"] (spP0 K cl ad9):=by
 have nd:=ajz.nd
 refine okP (np:=1) (n:=1) F ajz (by decide) (by decide) (b:=aka) (k:=0) fun cdv A outer s H E hr=>?_
 exact (aag (aa9 (aaI af4 s_gt (aac 0) aad (aaO _)) (aai (aaB aad)) aaP)
   (aag (aa9 (aaI af5 s_lt (aac 0) aad (aaO _)) (aai (aaB (abJ aa3 abI aad))) aaP)
   (aai (aaB aad))))
theorem afS:aaA ["one","other","rest"] ["one","other"] (aaf acX):=⟨rfl,rfl,rfl,by decide +kernel,rfl,by decide +kernel,by decide +kernel⟩
theorem aiG {f:Addr} {fd:FuncData} (F:Fun K "divisor" "divisor" acX f fd)
  (m_abs:mg "abs"=none)
  : FnOk P w K mg base CX0 1 f fd ["one","other"] (spP0 K cl acz):=by
 have nd:=afS.nd
 refine okP (np:=2) (n:=3) F afS (by decide) (by decide) (b:=aeR) (k:=0) fun cdv A outer s H E hr=>?_
 exact (aag (aeX PassesOwn.never (aaI (alZ (hu8 hr)) s_ne (aac 1) aad (aaO _)) (aag (aar (i:=2) nd rfl (Or.inl rfl) (aas ac0 af2 (aac 0) (aac 1)))
   (aag (aar (i:=0) nd rfl (Or.inl rfl) (aac 1))
   (aai (aar (i:=1) nd rfl (Or.inl rfl) (aac 2))))))
   (aai (aaB (aaS age amn rfl m_abs aju (aaa (aac 0) aae)))))
theorem afB:aaA ["numbers","common","number"] ["numbers"] (aaf acx):=⟨rfl,rfl,rfl,by decide +kernel,rfl,by decide +kernel,by decide +kernel⟩
theorem aiU {f:Addr} {fd:FuncData} (F:Fun K "reduced" "reduced" acx f fd)
  (C_divisor:Cal P w K mg base cl "divisor" 1 ["one","other"] acz)
  : FnOk P w K mg base CX0 2 f fd ["numbers"] (spP0 K cl acY):=by
 have nd:=afB.nd
 refine okP (np:=1) (n:=3) F afB (by decide) (by decide) (b:=ae0) (k:=1) fun cdv A outer s H E hr=>?_
 exact (aag (aar (i:=1) nd rfl (Or.inr rfl) aad)
   (aag (abR PassesOwn.never rfl (abm (aac 0)) (aat (i:=2) nd rfl (Or.inl rfl)) (aai (aar (i:=1) nd rfl (Or.inr rfl) (aaK C_divisor hr (by decide) rfl (aaa (aac 1) (aaa (aac 2) aae))))))
   (aai (aaB (abu (own:=["number"]) (cap:=[(1,"common")]) (abz (aaf acx) ["numbers","common","number"] rfl rfl rfl (by decide +kernel) (by decide +kernel) (by decide +kernel) (by decide +kernel) (by decide +kernel)) (abm (aac 0)) rfl (fun _ _ _ _=>(aat (i:=0) (show (cmpN ["number"] [(1,"common")]).Nodup by decide +kernel) rfl (Or.inl rfl) (Or.inr rfl))) (fun _ _ _ _=>(aas adz afQ (aac 0) (aac 1))))))))
theorem ait:aaA ["numbers","bottom"] ["numbers","bottom"] (aaf adN):=⟨rfl,rfl,rfl,by decide +kernel,rfl,by decide +kernel,by decide +kernel⟩
theorem akL {f:Addr} {fd:FuncData} {dsv:Array Value} (F:FunD K "point" "point" adN f fd dsv)
  (C_reduced:Cal P w K mg base cl "reduced" 2 ["numbers"] acY)
  (C_sign:Cal P w K mg base cl "sign" 1 ["number"] ad9)
  (m_list:mg "list"=none)
  (m_tuple:mg "tuple"=none)
  (q_NoPoint:mg "NoPoint"=some (.ref (cl "NoPoint"))) (x_NoPoint:PySem.W.excIn K (cl "NoPoint") ade "ValueError.__new__"=true)
  : FnOk P w K mg base (CX1 P w) 3 f fd ["numbers","bottom"] (spP K cl aeU):=by
 have nd:=ait.nd
 refine okXD (np:=2) (n:=2) F ait (by decide) (by decide) (b:=afi) (k:=2) fun cdv A outer s H E hr=>?_
 exact (aag (aa9 (aaI (aby (hu8 hr)) s_eq (aac 1) aad (aaO _)) (aai (ad1 rfl q_NoPoint x_NoPoint)) aaP)
   (aai (aaB (abU abx adQ rfl m_tuple ac3 (aaa (abu (own:=["number"]) (cap:=[(1,"bottom")]) (abz (aaf adN) ["numbers","bottom"] rfl rfl rfl (by decide +kernel) (by decide +kernel) (by decide +kernel) (by decide +kernel) (by decide +kernel)) (abm (aaK C_reduced hr (by decide) rfl (aaa (aas aaJ abn (abU acH anb rfl m_list amN (aaa (aac 0) aae)) (ab6 (aaa (aac 1) aae))) aae))) rfl (fun _ _ _ _=>(aat (i:=0) (show (cmpN ["number"] [(1,"bottom")]).Nodup by decide +kernel) rfl (Or.inl rfl) (Or.inr rfl))) (fun _ _ _ _=>(aas aax aaY (aaK C_sign hr (by decide) rfl (aaa (aac 1) aae)) (aac 0)))) aae)))))
theorem ah7:aaA ["p","q","numbers"] ["p","q"] (aaf adM):=⟨rfl,rfl,rfl,by decide +kernel,rfl,by decide +kernel,by decide +kernel⟩
theorem alk {f:Addr} {fd:FuncData} (F:Fun K "added" "added" adM f fd)
  {a_point:Addr} {d_point:FuncData}
  (G_point:FnOk P w K mg base CX0 3 a_point d_point ["numbers","bottom"] (spP0 K cl aeU)) (afi:adC K d_point ["numbers","bottom"] []) (k_point:PySem.W.keepIn K (.ref a_point)=true) (n_point:mg "point"=some (.ref a_point))
  (m_zip:mg "zip"=none)
  : FnOk P w K mg base CX0 4 f fd ["p","q"] (spP0 K cl acu):=by
 have nd:=ah7.nd
 refine okP (np:=2) (n:=3) F ah7 (by decide) (by decide) (b:=ahv) (k:=3) fun cdv A outer s H E hr=>?_
 exact (aag (acL (i:=2) (own:=["one","other"]) (cap:=[(1,"q"),(0,"p")]) nd rfl (Or.inl rfl) (abz (aaf adM) ["p","q","numbers"] rfl rfl rfl (by decide +kernel) (by decide +kernel) (by decide +kernel) (by decide +kernel) (by decide +kernel)) (adP rfl m_zip (aaa (adp (aac 0) abl (abd (abJ aa3 abI aad))) (aaa (adp (aac 1) abl (abd (abJ aa3 abI aad))) aae))) rfl (fun _ _ _ _=>(adn rfl (aa7 (aat (i:=0) (show (cmpN ["one","other"] [(1,"q"),(0,"p")]).Nodup by decide +kernel) rfl (Or.inl rfl) (Or.inr rfl)) (aa7 (aat (i:=1) (show (cmpN ["one","other"] [(1,"q"),(0,"p")]).Nodup by decide +kernel) rfl (Or.inl rfl) (Or.inr rfl)) acK)))) (fun _ _ _ _=>(aas aaJ abn (aas aax aaY (aac 0) (aaD (aac 2) (abJ aa3 abI aad))) (aas aax aaY (aac 1) (aaD (aac 3) (abJ aa3 abI aad))))))
   (aai (aaB (agc G_point (hr.mono (by decide)) rfl n_point k_point afi .nil Dv.nil (aaa (aac 2) (aaa (aas aax aaY (aaD (aac 0) (abJ aa3 abI aad)) (aaD (aac 1) (abJ aa3 abI aad))) aae))))))
theorem adG:aaA ["start","end"] ["start","end"] (aaf abq):=⟨rfl,rfl,rfl,by decide +kernel,rfl,by decide +kernel,by decide +kernel⟩
theorem afp {f:Addr} {fd:FuncData} (F:Fun K "whole_arrow" "whole_arrow" abq f fd)
  (m_zip:mg "zip"=none)
  : FnOk P w K mg base CX0 1 f fd ["start","end"] (spP0 K cl abe):=by
 have nd:=adG.nd
 refine okP (np:=2) (n:=2) F adG (by decide) (by decide) (b:=ac1) (k:=0) fun cdv A outer s H E hr=>?_
 exact (aai (aaB (abu (own:=["near","far"]) (cap:=[(0,"start"),(1,"end")]) (abz (aaf abq) ["start","end"] rfl rfl rfl (by decide +kernel) (by decide +kernel) (by decide +kernel) (by decide +kernel) (by decide +kernel)) (adP rfl m_zip (aaa (adp (aac 0) abl (abd (abJ aa3 abI aad))) (aaa (adp (aac 1) abl (abd (abJ aa3 abI aad))) aae))) rfl (fun _ _ _ _=>(adn rfl (aa7 (aat (i:=0) (show (cmpN ["near","far"] [(0,"start"),(1,"end")]).Nodup by decide +kernel) rfl (Or.inl rfl) (Or.inr rfl)) (aa7 (aat (i:=1) (show (cmpN ["near","far"] [(0,"start"),(1,"end")]).Nodup by decide +kernel) rfl (Or.inl rfl) (Or.inr rfl)) acK)))) (fun _ _ _ _=>(aas abT acS (aas aax aaY (aac 1) (aaD (aac 2) (abJ aa3 abI aad))) (aas aax aaY (aac 0) (aaD (aac 3) (abJ aa3 abI aad))))))))
theorem alR:aaA ["u","v"] ["u","v"] (aaf ahC):=⟨rfl,rfl,rfl,by decide +kernel,rfl,by decide +kernel,by decide +kernel⟩
theorem aoU {f:Addr} {fd:FuncData} (F:Fun K "dot" "dot" ahC f fd)
  (m_sum:mg "sum"=none)
  (m_zip:mg "zip"=none)
  : FnOk P w K mg base CX0 1 f fd ["u","v"] (spP0 K cl aiP):=by
 have nd:=alR.nd
 refine okP (np:=2) (n:=2) F alR (by decide) (by decide) (b:=amk) (k:=0) fun cdv A outer s H E hr=>?_
 exact (aai (aaB (aaS (adq rfl) ajw rfl m_sum ahb (aaa (abu (own:=["one","other"]) (cap:=[]) (abz (aaf ahC) ["u","v"] rfl rfl rfl (by decide +kernel) (by decide +kernel) (by decide +kernel) (by decide +kernel) (by decide +kernel)) (adP rfl m_zip (aaa (aac 0) (aaa (aac 1) aae))) rfl (fun _ _ _ _=>(adn rfl (aa7 (aat (i:=0) (show (cmpN ["one","other"] []).Nodup by decide +kernel) rfl (Or.inl rfl) (Or.inr rfl)) (aa7 (aat (i:=1) (show (cmpN ["one","other"] []).Nodup by decide +kernel) rfl (Or.inl rfl) (Or.inr rfl)) acK)))) (fun _ _ _ _=>(aas aax aaY (aac 0) (aac 1)))) aae))))
theorem agQ:aaA ["arrows","u","v"] ["arrows"] (aaf ady):=⟨rfl,rfl,rfl,by decide +kernel,rfl,by decide +kernel,by decide +kernel⟩
theorem akD {f:Addr} {fd:FuncData} (F:Fun K "normal" "normal" ady f fd)
  (m_len:mg "len"=none)
  : FnOk P w K mg base CX0 1 f fd ["arrows"] (spP0 K cl acI):=by
 have nd:=agQ.nd
 refine okP (np:=1) (n:=3) F agQ (by decide) (by decide) (b:=aeH) (k:=0) fun cdv A outer s H E hr=>?_
 exact (aag (aar (i:=1) nd rfl (Or.inl rfl) (aaD (aac 0) aad))
   (aag (aa9 (aaI (aby (hu8 hr)) s_eq (aaS aaQ adY rfl m_len acG (aaa (aac 0) aae)) aad (aaO _)) (aai (aaB (ab6 (aaa (abJ aa3 abI (aaD (aac 1) aad)) (aaa (aaD (aac 1) aad) aae))))) aaP)
   (aag (aar (i:=2) nd rfl (Or.inl rfl) (aaD (aac 0) aad))
   (aai (aaB (ab6 (aaa (aas abT acS (aas aax aaY (aaD (aac 1) aad) (aaD (aac 2) aad)) (aas aax aaY (aaD (aac 1) aad) (aaD (aac 2) aad))) (aaa (aas abT acS (aas aax aaY (aaD (aac 1) aad) (aaD (aac 2) aad)) (aas aax aaY (aaD (aac 1) aad) (aaD (aac 2) aad))) (aaa (aas abT acS (aas aax aaY (aaD (aac 1) aad) (aaD (aac 2) aad)) (aas aax aaY (aaD (aac 1) aad) (aaD (aac 2) aad))) aae)))))))))
theorem adH:aaA ["points","rows"] ["points"] (aaf abr):=⟨rfl,rfl,rfl,by decide +kernel,rfl,by decide +kernel,by decide +kernel⟩
theorem afq {f:Addr} {fd:FuncData} (F:Fun K "determinant" "determinant" abr f fd)
  (C_whole_arrow:Cal P w K mg base cl "whole_arrow" 1 ["start","end"] abe)
  (C_dot:Cal P w K mg base cl "dot" 1 ["u","v"] aiP)
  (C_normal:Cal P w K mg base cl "normal" 1 ["arrows"] acI)
  : FnOk P w K mg base CX0 2 f fd ["points"] (spP0 K cl abg):=by
 have nd:=adH.nd
 refine okP (np:=1) (n:=2) F adH (by decide) (by decide) (b:=aci) (k:=1) fun cdv A outer s H E hr=>?_
 exact (aag (acL (i:=1) (own:=["p"]) (cap:=[(0,"points")]) nd rfl (Or.inl rfl) (abz (aaf abr) ["points","rows"] rfl rfl rfl (by decide +kernel) (by decide +kernel) (by decide +kernel) (by decide +kernel) (by decide +kernel)) (abm (adp (aac 0) (abd aad) abl)) rfl (fun _ _ _ _=>(aat (i:=0) (show (cmpN ["p"] [(0,"points")]).Nodup by decide +kernel) rfl (Or.inl rfl) (Or.inr rfl))) (fun _ _ _ _=>(aaK C_whole_arrow hr (by decide) rfl (aaa (aaD (aac 1) aad) (aaa (aac 0) aae)))))
   (aai (aaB (aaK C_dot hr (by decide) rfl (aaa (aaK C_normal hr (by decide) rfl (aaa (adp (aac 1) abl (abd (abJ aa3 abI aad))) aae)) (aaa (aaD (aac 1) (abJ aa3 abI aad)) aae))))))
theorem ajY:aaA ["points"] ["points"] (aaf afE):=⟨rfl,rfl,rfl,by decide +kernel,rfl,by decide +kernel,by decide +kernel⟩
theorem ans {f:Addr} {fd:FuncData} (F:Fun K "side" "side" afE f fd)
  (C_sign:Cal P w K mg base cl "sign" 1 ["number"] ad9)
  (C_determinant:Cal P w K mg base cl "determinant" 2 ["points"] abg)
  : FnOk P w K mg base CX0 3 f fd ["points"] (spP0 K cl adc):=by
 have nd:=ajY.nd
 refine okP (np:=1) (n:=1) F ajY (by decide) (by decide) (b:=aiC) (k:=2) fun cdv A outer s H E hr=>?_
 exact (aai (aaB (aaK C_sign hr (by decide) rfl (aaa (aaK C_determinant hr (by decide) rfl (aaa (aac 0) aae)) aae))))
theorem afV:aaA ["points","corners","turn"] ["points"] (aaf acU):=⟨rfl,rfl,rfl,by decide +kernel,rfl,by decide +kernel,by decide +kernel⟩
theorem ai1 {f:Addr} {fd:FuncData} (F:Fun K "simplex" "simplex" acU f fd)
  (C_side:Cal P w K mg base cl "side" 3 ["points"] adc)
  (m_sorted:mg "sorted"=none)
  (m_tuple:mg "tuple"=none)
  (q_Flat:mg "Flat"=some (.ref (cl "Flat"))) (x_Flat:PySem.W.excIn K (cl "Flat") ade "ValueError.__new__"=true)
  : FnOk P w K mg base (CX1 P w) 4 f fd ["points"] (spP K cl ab9):=by
 have nd:=afV.nd
 refine okX (np:=1) (n:=3) F afV (by decide) (by decide) (b:=acP) (k:=3) fun cdv A outer s H E hr=>?_
 exact (aag (aar (i:=1) nd rfl (Or.inl rfl) (aaS afI amb rfl m_sorted agI (aaa (aac 0) aae)))
   (aag (aar (i:=2) nd rfl (Or.inl rfl) (aaK C_side hr (by decide) rfl (aaa (aac 1) aae)))
   (aag (aa9 (aaI (aby (hu8 hr)) s_eq (aac 2) aad (aaO _)) (aai (ad1 rfl q_Flat x_Flat)) aaP)
   (aag (aa9 (aaI af5 s_lt (aac 2) aad (aaO _)) (aai (aar (i:=1) nd rfl (Or.inl rfl) (aas aaJ abn (adp (aac 1) abl (abd (abJ aa3 abI aad))) (ab6 (aaa (aaD (aac 1) (abJ aa3 abI aad)) (aaa (aaD (aac 1) (abJ aa3 abI aad)) aae)))))) aaP)
   (aai (aaB (abU abx adQ rfl m_tuple ac3 (aaa (aac 1) aae))))))))
theorem ae9:aaA ["row","place","value"] ["row","place","value"] (aaf acn):=⟨rfl,rfl,rfl,by decide +kernel,rfl,by decide +kernel,by decide +kernel⟩
theorem ahq {f:Addr} {fd:FuncData} (F:Fun K "replaced" "replaced" acn f fd)
  : FnOk P w K mg base CX0 1 f fd ["row","place","value"] (spP0 K cl ab1):=by
 have nd:=ae9.nd
 refine okP (np:=3) (n:=3) F ae9 (by decide) (by decide) (b:=aen) (k:=0) fun cdv A outer s H E hr=>?_
 exact (aai (aaB (aas ajh alS (aas ajh alS (adp (aac 0) abl (abd (aac 1))) (aij (aaa (aac 2) aae))) (adp (aac 0) (abd (aas aaJ abn (aac 1) aad)) abl))))
theorem afj:aaA ["piece","p"] ["piece","p"] (aaf ace):=⟨rfl,rfl,rfl,by decide +kernel,rfl,by decide +kernel,by decide +kernel⟩
theorem aho {f:Addr} {fd:FuncData} (F:Fun K "standing" "standing" ace f fd)
  (C_side:Cal P w K mg base cl "side" 3 ["points"] adc)
  (C_replaced:Cal P w K mg base cl "replaced" 1 ["row","place","value"] ab1)
  (m_len:mg "len"=none)
  (m_min:mg "min"=none)
  (m_range:mg "range"=none)
  : FnOk P w K mg base CX0 4 f fd ["piece","p"] (spP0 K cl acd):=by
 have nd:=afj.nd
 refine okP (np:=2) (n:=2) F afj (by decide) (by decide) (b:=aek) (k:=3) fun cdv A outer s H E hr=>?_
 exact (aai (aaB (aaS (ajq rfl) apz rfl m_min an2 (aaa (abu (own:=["k"]) (cap:=[(0,"piece"),(1,"p")]) (abz (aaf ace) ["piece","p"] rfl rfl rfl (by decide +kernel) (by decide +kernel) (by decide +kernel) (by decide +kernel) (by decide +kernel)) (aaZ rfl m_range (aaa (aaS aaQ adY rfl m_len acG (aaa (aac 0) aae)) aae)) rfl (fun _ _ _ _=>(aat (i:=0) (show (cmpN ["k"] [(0,"piece"),(1,"p")]).Nodup by decide +kernel) rfl (Or.inl rfl) (Or.inr rfl))) (fun _ _ _ _=>(aaK C_side hr (by decide) rfl (aaa (aaK C_replaced hr (by decide) rfl (aaa (aac 1) (aaa (aac 0) (aaa (aac 2) aae)))) aae)))) aae))))
theorem aeP:aaA ["p"] ["p"] (aaf ack):=⟨rfl,rfl,rfl,by decide +kernel,rfl,by decide +kernel,by decide +kernel⟩
theorem ahJ {f:Addr} {fd:FuncData} (F:Fun K "in_space" "in_space" ack f fd)
  : FnOk P w K mg base CX0 1 f fd ["p"] (spP0 K cl ab0):=by
 have nd:=aeP.nd
 refine okP (np:=1) (n:=1) F aeP (by decide) (by decide) (b:=aee) (k:=0) fun cdv A outer s H E hr=>?_
 exact (aai (aaB (aas aaJ abn (aas aaJ abn (adp (aac 0) abl (abd aad)) (aij (aaa aad aae))) (adp (aac 0) (abd aad) abl))))
theorem adE:aaA ["arrow"] ["arrow"] (aaf abO):=⟨rfl,rfl,rfl,by decide +kernel,rfl,by decide +kernel,by decide +kernel⟩
theorem afu {f:Addr} {fd:FuncData} (F:Fun K "refuse_flat" "refuse_flat" abO f fd)
  (q_Flat:mg "Flat"=some (.ref (cl "Flat"))) (x_Flat:PySem.W.excIn K (cl "Flat") ade "ValueError.__new__"=true)
  : FnOk P w K mg base (CX1 P w) 1 f fd ["arrow"] (spP K cl abv):=by
 have nd:=adE.nd
 refine okX (np:=1) (n:=1) F adE (by decide) (by decide) (b:=ab8) (k:=0) fun cdv A outer s H E hr=>?_
 exact (aai (aa9 (aaI (aby (hu8 hr)) s_eq (aaD (aac 0) aad) aad (aaO _)) (aai (ad1 rfl q_Flat x_Flat)) aaP))
theorem ail:aaA ["heap","arrow","found","piece","low","corners"] ["heap","arrow"] (aaf ac7):=⟨rfl,rfl,rfl,by decide +kernel,rfl,by decide +kernel,by decide +kernel⟩
theorem akS {f:Addr} {fd:FuncData} (F:Fun K "prism" "prism" ac7 f fd)
  {a_refuse_flat:Addr} {d_refuse_flat:FuncData}
  (GX_refuse_flat:FnOk P w K mg base (CX1 P w) 1 a_refuse_flat d_refuse_flat ["arrow"] (spP K cl abv))
  (G_refuse_flat:FnOk P w K mg base CX0 1 a_refuse_flat d_refuse_flat ["arrow"] (spP0 K cl abv)) (ab8:adC K d_refuse_flat ["arrow"] []) (k_refuse_flat:PySem.W.keepIn K (.ref a_refuse_flat)=true) (n_refuse_flat:mg "refuse_flat"=some (.ref a_refuse_flat))
  (C_in_space:Cal P w K mg base cl "in_space" 1 ["p"] ab0)
  (C_added:Cal P w K mg base cl "added" 4 ["p","q"] acu)
  {a_simplex:Addr} {d_simplex:FuncData}
  (GX_simplex:FnOk P w K mg base (CX1 P w) 4 a_simplex d_simplex ["points"] (spP K cl ab9))
  (G_simplex:FnOk P w K mg base CX0 4 a_simplex d_simplex ["points"] (spP0 K cl ab9)) (acP:adC K d_simplex ["points"] []) (k_simplex:PySem.W.keepIn K (.ref a_simplex)=true) (n_simplex:mg "simplex"=some (.ref a_simplex))
  (m_range:mg "range"=none)
  (m_tuple:mg "tuple"=none)
  : FnOk P w K mg base (CX1 P w) 5 f fd ["heap","arrow"] (spP K cl adr):=by
 have nd:=ail.nd
 refine okX (np:=2) (n:=6) F ail (by decide) (by decide) (b:=aeW) (k:=4) fun cdv A outer s H E hr=>?_
 exact (aag (abM (alx GX_refuse_flat (hr.mono (by decide)) rfl n_refuse_flat k_refuse_flat ab8 .nil Dv.nil (aaa (aac 1) aae)))
   (aag (aar (i:=2) nd rfl (Or.inl rfl) (ac9 aae))
   (aag (abR PassesOwn.leaving rfl (abm (aac 0)) (aat (i:=3) nd rfl (Or.inl rfl)) (aag (acL (i:=4) (own:=["p"]) (cap:=[]) nd rfl (Or.inl rfl) (abz (aaf ac7) ["heap","arrow","found","piece","low","corners"] rfl rfl rfl (by decide +kernel) (by decide +kernel) (by decide +kernel) (by decide +kernel) (by decide +kernel)) (abm (aac 3)) rfl (fun _ _ _ _=>(aat (i:=0) (show (cmpN ["p"] []).Nodup by decide +kernel) rfl (Or.inl rfl) (Or.inr rfl))) (fun _ _ _ _=>(aaK C_in_space hr (by decide) rfl (aaa (aac 0) aae))))
   (aag (aar (i:=5) nd rfl (Or.inr rfl) (aas aaJ abn (aac 4) (abu (own:=["p"]) (cap:=[(1,"arrow")]) (abz (aaf ac7) ["heap","arrow","found","piece","low","corners"] rfl rfl rfl (by decide +kernel) (by decide +kernel) (by decide +kernel) (by decide +kernel) (by decide +kernel)) (abm (aac 4)) rfl (fun _ _ _ _=>(aat (i:=0) (show (cmpN ["p"] [(1,"arrow")]).Nodup by decide +kernel) rfl (Or.inl rfl) (Or.inr rfl))) (fun _ _ _ _=>(aaK C_added hr (by decide) rfl (aaa (aac 0) (aaa (aac 1) aae)))))))
   (aai (alH (i:=2) nd rfl (Or.inl rfl) (abu (own:=["k"]) (cap:=[(5,"corners")]) (abz (aaf ac7) ["heap","arrow","found","piece","low","corners"] rfl rfl rfl (by decide +kernel) (by decide +kernel) (by decide +kernel) (by decide +kernel) (by decide +kernel)) (aaZ rfl m_range (aaa aad aae)) rfl (fun _ _ _ _=>(aat (i:=0) (show (cmpN ["k"] [(5,"corners")]).Nodup by decide +kernel) rfl (Or.inl rfl) (Or.inr rfl))) (fun _ _ _ _=>(agc G_simplex (hr.mono (by decide)) rfl n_simplex k_simplex acP .nil Dv.nil (aaa (adp (aac 1) (abd (aac 0)) (abd (aas aaJ abn (aac 0) aad))) aae)))))))))
   (aai (aaB (abU abx adQ rfl m_tuple ac3 (aaa (aac 2) aae)))))))
theorem ae1:aaA ["heap","p","count","piece","stand"] ["heap","p"] (aaf acl):=⟨rfl,rfl,rfl,by decide +kernel,rfl,by decide +kernel,by decide +kernel⟩
theorem ahl {f:Addr} {fd:FuncData} (F:Fun K "count_at" "count_at" acl f fd)
  (C_standing:Cal P w K mg base cl "standing" 4 ["piece","p"] acd)
  (q_OnSide:mg "OnSide"=some (.ref (cl "OnSide"))) (x_OnSide:PySem.W.excIn K (cl "OnSide") ade "ValueError.__new__"=true)
  : FnOk P w K mg base (CX1 P w) 5 f fd ["heap","p"] (spP K cl abN):=by
 have nd:=ae1.nd
 refine okX (np:=2) (n:=5) F ae1 (by decide) (by decide) (b:=acW) (k:=4) fun cdv A outer s H E hr=>?_
 exact (aag (aar (i:=2) nd rfl (Or.inl rfl) aad)
   (aag (abR PassesOwn.leaving rfl (abm (aac 0)) (aat (i:=3) nd rfl (Or.inl rfl)) (aag (aar (i:=4) nd rfl (Or.inl rfl) (aaK C_standing hr (by decide) rfl (aaa (aac 3) (aaa (aac 1) aae))))
   (aag (aa9 (aaI (aby (hu8 hr)) s_eq (aac 4) aad (aaO _)) (aai (ad1 rfl q_OnSide x_OnSide)) aaP)
   (aai (aa9 (aaI af4 s_gt (aac 4) aad (aaO _)) (aai (alD (i:=2) nd rfl (Or.inl rfl) aad anL)) aaP)))))
   (aai (aaB (aac 2)))))
theorem ajN:aaA ["_law_script","_law_row_here","_law_k","_law_cell","_law_one","_law_two","_law_three"] ["_law_script"] (aaf afM):=⟨rfl,rfl,rfl,by decide +kernel,rfl,by decide +kernel,by decide +kernel⟩
theorem amj {f:Addr} {fd:FuncData} (F:Fun K "_law_row" "_law_row" afM f fd)
  (m_enumerate:mg "enumerate"=none)
  : FnOk P w K mg base CX0 1 f fd ["_law_script"] (spP0 K cl aeB):=by
 have nd:=ajN.nd
 refine okP (np:=1) (n:=7) F ajN (by decide) (by decide) (b:=ajH) (k:=0) fun cdv A outer s H E hr=>?_
 exact (aag (aar (i:=1) nd rfl (Or.inl rfl) (ac9 aae))
   (aag (abR PassesOwn.never rfl (akZ rfl m_enumerate (aaa (adp (aac 0) abl (abd aad)) aae)) (adn rfl (aa7 (aat (i:=2) nd rfl (Or.inl rfl)) (aa7 (aat (i:=3) nd rfl (Or.inl rfl)) acK))) (aai (aa9 (aaI apE s_ge (aac 3) (aas aeA ahc aad aad) (aaO _)) (aai (abM (abS (aac 1) (aaa (aas abT acS (aac 3) (aas aeA ahc aad aad)) aae)))) (aag (aar (i:=4) nd rfl (Or.inl rfl) (aas ac0 af2 (aas aax aaY (aas aaJ abn (aas aaJ abn (aas aaJ abn (aac 3) (aas aax aaY (aas aax aaY aad (aac 2)) (aac 2))) (aas aax aaY aad (aac 2))) aad) aad) aad))
   (aag (aar (i:=5) nd rfl (Or.inl rfl) (aas ac0 af2 (aas aax aaY (aas aaJ abn (aas aaJ abn (aas aaJ abn (aac 3) (aas aax aaY (aas aax aaY aad (aac 2)) (aac 2))) (aas aax aaY aad (aac 2))) aad) aad) aad))
   (aag (aar (i:=6) nd rfl (Or.inl rfl) (aas ac0 af2 (aas aax aaY (aas aaJ abn (aas aaJ abn (aas aaJ abn (aac 3) (aas aax aaY (aas aax aaY aad (aac 2)) (aac 2))) (aas aax aaY aad (aac 2))) aad) aad) aad))
   (aag (aar (i:=4) nd rfl (Or.inl rfl) (aas ac0 af2 (aas aax aaY (aac 4) aad) aad))
   (aag (aar (i:=5) nd rfl (Or.inl rfl) (aas ac0 af2 (aas aax aaY (aac 5) aad) aad))
   (aag (aar (i:=6) nd rfl (Or.inl rfl) (aas ac0 af2 (aas aax aaY (aac 6) aad) aad))
   (aai (abM (abS (aac 1) (aaa (aas aaJ abn (aas aax aaY (aas aaJ abn (aas aax aaY (aac 4) aad) (aac 5)) aad) (aac 6)) aae)))))))))))))
   (aai (aaB (aac 1)))))
theorem ah0:aaA ["_law_row_here","_law_many","_law_found"] ["_law_row_here","_law_many"] (aaf aeh):=⟨rfl,rfl,rfl,by decide +kernel,rfl,by decide +kernel,by decide +kernel⟩
theorem alu {f:Addr} {fd:FuncData} (F:Fun K "_law_take" "_law_take" aeh f fd)
  (m_len:mg "len"=none)
  : FnOk P w K mg base CX0 1 f fd ["_law_row_here","_law_many"] (spP0 K cl aaq):=by
 have nd:=ah0.nd
 refine okP (np:=2) (n:=3) F ah0 (by decide) (by decide) (b:=af3) (k:=0) fun cdv A outer s H E hr=>?_
 exact (aag (aeX PassesOwn.never (PWp.pt (ahD (aaI af4 s_gt (aaS aaQ adY rfl m_len acG (aaa (aac 0) aae)) aad (aaO _)) (agh (aaI (aby (hu8 hr)) s_eq (aaD (aac 0) aad) aad (aaO _))))) (aai (abM (amh (aac 0) (aaa aad aae)))))
   (aag (aa9 (aaI (aby (hu8 hr)) s_eq (aaS aaQ adY rfl m_len acG (aaa (aac 0) aae)) aad (aaO _)) (aai (aaB aad)) aaP)
   (aag (aar (i:=2) nd rfl (Or.inl rfl) (aas ac0 af2 (aaD (aac 0) aad) (aac 1)))
   (aag (adm (aas adz afQ (aaD (aac 0) aad) (aac 1)) (aac 0) aad)
   (aai (aaB (aac 2)))))))
theorem ajs:aaA ["_law_one","_law_other"] ["_law_one","_law_other"] (aaf afK):=⟨rfl,rfl,rfl,by decide +kernel,rfl,by decide +kernel,by decide +kernel⟩
theorem amU {f:Addr} {fd:FuncData} (F:Fun K "_law_gcd" "_law_gcd" afK f fd)
  (m_abs:mg "abs"=none)
  : FnOk P w K mg base CX0 1 f fd ["_law_one","_law_other"] (spP0 K cl afm):=by
 have nd:=ajs.nd
 refine okP (np:=2) (n:=2) F ajs (by decide) (by decide) (b:=ajA) (k:=0) fun cdv A outer s H E hr=>?_
 exact (aag (aar (i:=0) nd rfl (Or.inl rfl) (aaS age amn rfl m_abs aju (aaa (aac 0) aae)))
   (aag (aar (i:=1) nd rfl (Or.inl rfl) (aaS age amn rfl m_abs aju (aaa (aac 1) aae)))
   (aag (aeX PassesOwn.never (aaI af4 s_gt (aac 1) aad (aaO _)) (aai (amT (i:=0) (j:=1) rfl nd rfl rfl (by decide) rfl rfl (aaa (aac 1) (aaa (aas ac0 af2 (aac 0) (aac 1)) aae)) rfl)))
   (aai (aaB (aac 0))))))
theorem afz:aaA ["_law_numbers","_law_by","_law_number"] ["_law_numbers"] (aaf acv):=⟨rfl,rfl,rfl,by decide +kernel,rfl,by decide +kernel,by decide +kernel⟩
theorem ai9 {f:Addr} {fd:FuncData} (F:Fun K "_law_lowest" "_law_lowest" acv f fd)
  (C_wgcd:Cal P w K mg base cl "_law_gcd" 1 ["_law_one","_law_other"] afm)
  (m_tuple:mg "tuple"=none)
  : FnOk P w K mg base CX0 2 f fd ["_law_numbers"] (spP0 K cl aaF):=by
 have nd:=afz.nd
 refine okP (np:=1) (n:=3) F afz (by decide) (by decide) (b:=aea) (k:=1) fun cdv A outer s H E hr=>?_
 exact (aag (aar (i:=1) nd rfl (Or.inr rfl) aad)
   (aag (abR PassesOwn.never rfl (abm (aac 0)) (aat (i:=2) nd rfl (Or.inl rfl)) (aai (aar (i:=1) nd rfl (Or.inr rfl) (aaK C_wgcd hr (by decide) rfl (aaa (aac 1) (aaa (aac 2) aae))))))
   (aag (aa9 (aaI (aby (hu8 hr)) s_eq (aac 1) aad (aaO _)) (aai (aaB (abU abx adQ rfl m_tuple ac3 (aaa (aac 0) aae)))) aaP)
   (aai (aaB (abU abx adQ rfl m_tuple ac3 (aaa (abu (own:=["_law_number"]) (cap:=[(1,"_law_by")]) (abz (aaf acv) ["_law_numbers","_law_by","_law_number"] rfl rfl rfl (by decide +kernel) (by decide +kernel) (by decide +kernel) (by decide +kernel) (by decide +kernel)) (abm (aac 0)) rfl (fun _ _ _ _=>(aat (i:=0) (show (cmpN ["_law_number"] [(1,"_law_by")]).Nodup by decide +kernel) rfl (Or.inl rfl) (Or.inr rfl))) (fun _ _ _ _=>(aas adz afQ (aac 0) (aac 1)))) aae)))))))
theorem aiB:aaA ["_law_top","_law_bottom"] ["_law_top","_law_bottom"] (aaf aed):=⟨rfl,rfl,rfl,by decide +kernel,rfl,by decide +kernel,by decide +kernel⟩
theorem akM {f:Addr} {fd:FuncData} (F:Fun K "_law_frac" "_law_frac" aed f fd)
  (C_wlowest:Cal P w K mg base cl "_law_lowest" 2 ["_law_numbers"] aaF)
  : FnOk P w K mg base CX0 3 f fd ["_law_top","_law_bottom"] (spP0 K cl abD):=by
 have nd:=aiB.nd
 refine okP (np:=2) (n:=2) F aiB (by decide) (by decide) (b:=ahK) (k:=2) fun cdv A outer s H E hr=>?_
 exact (aag (aa9 (aaI af5 s_lt (aac 1) aad (aaO _)) (aai (aaB (aaK C_wlowest hr (by decide) rfl (aaa (ab6 (aaa (aas abT acS aad (aac 0)) (aaa (aas abT acS aad (aac 1)) aae))) aae)))) aaP)
   (aai (aaB (aaK C_wlowest hr (by decide) rfl (aaa (ab6 (aaa (aac 0) (aaa (aac 1) aae))) aae)))))
theorem afD:aaA ["_law_p","_law_q","_law_way","_law_far_here"] ["_law_p","_law_q","_law_way"] (aaf acw):=⟨rfl,rfl,rfl,by decide +kernel,rfl,by decide +kernel,by decide +kernel⟩
theorem aiY {f:Addr} {fd:FuncData} (F:Fun K "_law_joined" "_law_joined" acw f fd)
  (C_wlowest:Cal P w K mg base cl "_law_lowest" 2 ["_law_numbers"] aaF)
  (m_len:mg "len"=none)
  (m_range:mg "range"=none)
  : FnOk P w K mg base CX0 3 f fd ["_law_p","_law_q","_law_way"] (spP0 K cl abh):=by
 have nd:=afD.nd
 refine okP (np:=3) (n:=4) F afD (by decide) (by decide) (b:=aeM) (k:=2) fun cdv A outer s H E hr=>?_
 exact (aag (acL (i:=3) (own:=["_law_k"]) (cap:=[(2,"_law_way"),(1,"_law_q"),(0,"_law_p")]) nd rfl (Or.inl rfl) (abz (aaf acw) ["_law_p","_law_q","_law_way","_law_far_here"] rfl rfl rfl (by decide +kernel) (by decide +kernel) (by decide +kernel) (by decide +kernel) (by decide +kernel)) (aaZ rfl m_range (aaa (aas abT acS (aaS aaQ adY rfl m_len acG (aaa (aac 0) aae)) aad) aae)) rfl (fun _ _ _ _=>(aat (i:=0) (show (cmpN ["_law_k"] [(2,"_law_way"),(1,"_law_q"),(0,"_law_p")]).Nodup by decide +kernel) rfl (Or.inl rfl) (Or.inr rfl))) (fun _ _ _ _=>(aas aaJ abn (aas aax aaY (aas aax aaY (aac 1) (aaD (aac 3) (aac 0))) (aaD (aac 2) (abJ aa3 abI aad))) (aas aax aaY (aaD (aac 2) (aac 0)) (aaD (aac 3) (abJ aa3 abI aad))))))
   (aai (aaB (aaK C_wlowest hr (by decide) rfl (aaa (aas aaJ abn (aac 3) (ab6 (aaa (aas aax aaY (aaD (aac 0) (abJ aa3 abI aad)) (aaD (aac 1) (abJ aa3 abI aad))) aae))) aae)))))
theorem ajo:aaA ["_law_p","_law_q"] ["_law_p","_law_q"] (aaf afc):=⟨rfl,rfl,rfl,by decide +kernel,rfl,by decide +kernel,by decide +kernel⟩
theorem anq {f:Addr} {fd:FuncData} (F:Fun K "_law_gap" "_law_gap" afc f fd)
  (m_len:mg "len"=none)
  (m_range:mg "range"=none)
  : FnOk P w K mg base CX0 1 f fd ["_law_p","_law_q"] (spP0 K cl aez):=by
 have nd:=ajo.nd
 refine okP (np:=2) (n:=2) F ajo (by decide) (by decide) (b:=akt) (k:=0) fun cdv A outer s H E hr=>?_
 exact (aai (aaB (abu (own:=["_law_k"]) (cap:=[(1,"_law_q"),(0,"_law_p")]) (abz (aaf afc) ["_law_p","_law_q"] rfl rfl rfl (by decide +kernel) (by decide +kernel) (by decide +kernel) (by decide +kernel) (by decide +kernel)) (aaZ rfl m_range (aaa (aas abT acS (aaS aaQ adY rfl m_len acG (aaa (aac 0) aae)) aad) aae)) rfl (fun _ _ _ _=>(aat (i:=0) (show (cmpN ["_law_k"] [(1,"_law_q"),(0,"_law_p")]).Nodup by decide +kernel) rfl (Or.inl rfl) (Or.inr rfl))) (fun _ _ _ _=>(aas abT acS (aas aax aaY (aaD (aac 1) (aac 0)) (aaD (aac 2) (abJ aa3 abI aad))) (aas aax aaY (aaD (aac 2) (aac 0)) (aaD (aac 1) (abJ aa3 abI aad))))))))
theorem agw:aaA ["_law_u","_law_v","_law_x","_law_y","_law_z"] ["_law_u","_law_v"] (aaf adA):=⟨rfl,rfl,rfl,by decide +kernel,rfl,by decide +kernel,by decide +kernel⟩
theorem aj4 {f:Addr} {fd:FuncData} (F:Fun K "_law_cross" "_law_cross" adA f fd)
  : FnOk P w K mg base CX0 1 f fd ["_law_u","_law_v"] (spP0 K cl adv):=by
 have nd:=agw.nd
 refine okP (np:=2) (n:=5) F agw (by decide) (by decide) (b:=afX) (k:=0) fun cdv A outer s H E hr=>?_
 exact (aag (aar (i:=2) nd rfl (Or.inl rfl) (aas abT acS (aas aax aaY (aaD (aac 0) aad) (aaD (aac 1) aad)) (aas aax aaY (aaD (aac 0) aad) (aaD (aac 1) aad))))
   (aag (aar (i:=3) nd rfl (Or.inl rfl) (aas abT acS (aas aax aaY (aaD (aac 0) aad) (aaD (aac 1) aad)) (aas aax aaY (aaD (aac 0) aad) (aaD (aac 1) aad))))
   (aag (aar (i:=4) nd rfl (Or.inl rfl) (aas abT acS (aas aax aaY (aaD (aac 0) aad) (aaD (aac 1) aad)) (aas aax aaY (aaD (aac 0) aad) (aaD (aac 1) aad))))
   (aai (aaB (ab6 (aaa (aac 2) (aaa (aac 3) (aaa (aac 4) aae)))))))))
theorem ajT:aaA ["_law_u","_law_v"] ["_law_u","_law_v"] (aaf afn):=⟨rfl,rfl,rfl,by decide +kernel,rfl,by decide +kernel,by decide +kernel⟩
theorem amK {f:Addr} {fd:FuncData} (F:Fun K "_law_dot" "_law_dot" afn f fd)
  (m_sum:mg "sum"=none)
  (m_zip:mg "zip"=none)
  : FnOk P w K mg base CX0 1 f fd ["_law_u","_law_v"] (spP0 K cl afU):=by
 have nd:=ajT.nd
 refine okP (np:=2) (n:=2) F ajT (by decide) (by decide) (b:=akE) (k:=0) fun cdv A outer s H E hr=>?_
 exact (aai (aaB (aaS (adq rfl) ajw rfl m_sum ahb (aaa (abu (own:=["_law_one","_law_other"]) (cap:=[]) (abz (aaf afn) ["_law_u","_law_v"] rfl rfl rfl (by decide +kernel) (by decide +kernel) (by decide +kernel) (by decide +kernel) (by decide +kernel)) (adP rfl m_zip (aaa (aac 0) (aaa (aac 1) aae))) rfl (fun _ _ _ _=>(adn rfl (aa7 (aat (i:=0) (show (cmpN ["_law_one","_law_other"] []).Nodup by decide +kernel) rfl (Or.inl rfl) (Or.inr rfl)) (aa7 (aat (i:=1) (show (cmpN ["_law_one","_law_other"] []).Nodup by decide +kernel) rfl (Or.inl rfl) (Or.inr rfl)) acK)))) (fun _ _ _ _=>(aas aax aaY (aac 0) (aac 1)))) aae))))
theorem aii:aaA ["_law_ways"] ["_law_ways"] (aaf aef):=⟨rfl,rfl,rfl,by decide +kernel,rfl,by decide +kernel,by decide +kernel⟩
theorem akR {f:Addr} {fd:FuncData} (F:Fun K "_law_turn" "_law_turn" aef f fd)
  (C_wdot:Cal P w K mg base cl "_law_dot" 1 ["_law_u","_law_v"] afU)
  (C_wcross:Cal P w K mg base cl "_law_cross" 1 ["_law_u","_law_v"] adv)
  (m_len:mg "len"=none)
  : FnOk P w K mg base CX0 2 f fd ["_law_ways"] (spP0 K cl abP):=by
 have nd:=aii.nd
 refine okP (np:=1) (n:=1) F aii (by decide) (by decide) (b:=adJ) (k:=1) fun cdv A outer s H E hr=>?_
 exact (aag (aa9 (aaI (aby (hu8 hr)) s_eq (aaS aaQ adY rfl m_len acG (aaa (aac 0) aae)) aad (aaO _)) (aai (aaB (aas abT acS (aas aax aaY (aaD (aaD (aac 0) aad) aad) (aaD (aaD (aac 0) aad) aad)) (aas aax aaY (aaD (aaD (aac 0) aad) aad) (aaD (aaD (aac 0) aad) aad))))) aaP)
   (aai (aaB (aaK C_wdot hr (by decide) rfl (aaa (aaK C_wcross hr (by decide) rfl (aaa (aaD (aac 0) aad) (aaa (aaD (aac 0) aad) aae))) (aaa (aaD (aac 0) aad) aae))))))
theorem aky:aaA ["_law_points"] ["_law_points"] (aaf aeO):=⟨rfl,rfl,rfl,by decide +kernel,rfl,by decide +kernel,by decide +kernel⟩
theorem amp {f:Addr} {fd:FuncData} (F:Fun K "_law_det" "_law_det" aeO f fd)
  (C_wturn:Cal P w K mg base cl "_law_turn" 2 ["_law_ways"] abP)
  (C_wgap:Cal P w K mg base cl "_law_gap" 1 ["_law_p","_law_q"] aez)
  : FnOk P w K mg base CX0 3 f fd ["_law_points"] (spP0 K cl aca):=by
 have nd:=aky.nd
 refine okP (np:=1) (n:=1) F aky (by decide) (by decide) (b:=afA) (k:=2) fun cdv A outer s H E hr=>?_
 exact (aai (aaB (aaK C_wturn hr (by decide) rfl (aaa (abu (own:=["_law_p"]) (cap:=[(0,"_law_points")]) (abz (aaf aeO) ["_law_points"] rfl rfl rfl (by decide +kernel) (by decide +kernel) (by decide +kernel) (by decide +kernel) (by decide +kernel)) (abm (adp (aac 0) (abd aad) abl)) rfl (fun _ _ _ _=>(aat (i:=0) (show (cmpN ["_law_p"] [(0,"_law_points")]).Nodup by decide +kernel) rfl (Or.inl rfl) (Or.inr rfl))) (fun _ _ _ _=>(aaK C_wgap hr (by decide) rfl (aaa (aaD (aac 1) aad) (aaa (aac 0) aae))))) aae))))
theorem afe:aaA ["_law_points","_law_told"] ["_law_points"] (aaf aco):=⟨rfl,rfl,rfl,by decide +kernel,rfl,by decide +kernel,by decide +kernel⟩
theorem ahx {f:Addr} {fd:FuncData} (F:Fun K "_law_simplex" "_law_simplex" aco f fd)
  (C_wdet:Cal P w K mg base cl "_law_det" 3 ["_law_points"] aca)
  (m_sorted:mg "sorted"=none)
  (m_tuple:mg "tuple"=none)
  : FnOk P w K mg base CX0 4 f fd ["_law_points"] (spP0 K cl aaU):=by
 have nd:=afe.nd
 refine okP (np:=1) (n:=2) F afe (by decide) (by decide) (b:=adt) (k:=3) fun cdv A outer s H E hr=>?_
 exact (aag (aar (i:=1) nd rfl (Or.inl rfl) (aaS afI amb rfl m_sorted agI (aaa (aac 0) aae)))
   (aag (aa9 (aaI af5 s_lt (aaK C_wdet hr (by decide) rfl (aaa (aac 1) aae)) aad (aaO _)) (aai (aar (i:=1) nd rfl (Or.inl rfl) (aas aaJ abn (adp (aac 1) abl (abd (abJ aa3 abI aad))) (ab6 (aaa (aaD (aac 1) (abJ aa3 abI aad)) (aaa (aaD (aac 1) (abJ aa3 abI aad)) aae)))))) aaP)
   (aai (aaB (abU abx adQ rfl m_tuple ac3 (aaa (aac 1) aae))))))
theorem aev:aaA ["_law_corners"] ["_law_corners"] (aaf abG):=⟨rfl,rfl,rfl,by decide +kernel,rfl,by decide +kernel,by decide +kernel⟩
theorem ag3 {f:Addr} {fd:FuncData} (F:Fun K "_law_raw_turn" "_law_raw_turn" abG f fd)
  (C_wturn:Cal P w K mg base cl "_law_turn" 2 ["_law_ways"] abP)
  (m_zip:mg "zip"=none)
  : FnOk P w K mg base CX0 3 f fd ["_law_corners"] (spP0 K cl abH):=by
 have nd:=aev.nd
 refine okP (np:=1) (n:=1) F aev (by decide) (by decide) (b:=adK) (k:=2) fun cdv A outer s H E hr=>?_
 exact (aai (aaB (aaK C_wturn hr (by decide) rfl (aaa (abu (own:=["_law_corner"]) (cap:=[(0,"_law_corners")]) (abz (aaf abG) ["_law_corners"] rfl rfl rfl (by decide +kernel) (by decide +kernel) (by decide +kernel) (by decide +kernel) (by decide +kernel)) (abm (adp (aac 0) (abd aad) abl)) rfl (fun _ _ _ _=>(aat (i:=0) (show (cmpN ["_law_corner"] [(0,"_law_corners")]).Nodup by decide +kernel) rfl (Or.inl rfl) (Or.inr rfl))) (fun _ _ _ _=>(abu (own:=["_law_b","_law_c"]) (cap:=[]) (akF (aaf abG) rfl rfl rfl (by decide +kernel) (by decide +kernel) (by decide +kernel) (by decide +kernel) (by decide +kernel)) (adP rfl m_zip (aaa (aaD (aac 1) aad) (aaa (aac 0) aae))) rfl (fun _ _ _ _=>(adn rfl (aa7 (aat (i:=0) (show (cmpN ["_law_b","_law_c"] []).Nodup by decide +kernel) rfl (Or.inl rfl) (Or.inr rfl)) (aa7 (aat (i:=1) (show (cmpN ["_law_b","_law_c"] []).Nodup by decide +kernel) rfl (Or.inl rfl) (Or.inr rfl)) acK)))) (fun _ _ _ _=>(aas abT acS (aac 1) (aac 0)))))) aae))))
theorem ajl:aaA ["_law_row_here","_law_dims","_law_wide","_law_corners","_law_k"] ["_law_row_here","_law_dims","_law_wide"] (aaf ad6):=⟨rfl,rfl,rfl,by decide +kernel,rfl,by decide +kernel,by decide +kernel⟩
theorem anF {f:Addr} {fd:FuncData} (F:Fun K "_law_raw" "_law_raw" ad6 f fd)
  (C_wtake:Cal P w K mg base cl "_law_take" 1 ["_law_row_here","_law_many"] aaq)
  (C_wraw_turn:Cal P w K mg base cl "_law_raw_turn" 3 ["_law_corners"] abH)
  (m_int:mg "int"=none)
  (m_range:mg "range"=none)
  : FnOk P w K mg base CX0 4 f fd ["_law_row_here","_law_dims","_law_wide"] (spP0 K cl ada):=by
 have nd:=ajl.nd
 refine okP (np:=3) (n:=5) F ajl (by decide) (by decide) (b:=aj8) (k:=3) fun cdv A outer s H E hr=>?_
 exact (aag (aar (i:=3) nd rfl (Or.inl rfl) (ac9 aae))
   (aag (abR PassesOwn.never rfl (aaZ rfl m_range (aaa (aas aaJ abn (aac 1) aad) aae)) (aat (i:=4) nd rfl (Or.inl rfl)) (aai (abM (abS (aac 3) (aaa (abu (own:=["_law_m"]) (cap:=[(0,"_law_row_here"),(2,"_law_wide")]) (abz (aaf ad6) ["_law_row_here","_law_dims","_law_wide","_law_corners","_law_k"] rfl rfl rfl (by decide +kernel) (by decide +kernel) (by decide +kernel) (by decide +kernel) (by decide +kernel)) (aaZ rfl m_range (aaa (aac 1) aae)) rfl (fun _ _ _ _=>(aat (i:=0) (show (cmpN ["_law_m"] [(0,"_law_row_here"),(2,"_law_wide")]).Nodup by decide +kernel) rfl (Or.inl rfl) (Or.inr rfl))) (fun _ _ _ _=>(aaK C_wtake hr (by decide) rfl (aaa (aac 1) (aaa (aas aaJ abn (aac 2) aad) aae))))) aae)))))
   (aag (aa9 (aaI (alZ (hu8 hr)) s_ne (aaK C_wraw_turn hr (by decide) rfl (aaa (aac 3) aae)) aad (aaO _)) (aai (aaB (aac 3))) aaP)
   (aai (aaB (alM (own:=["_law_k"]) (cap:=[(1,"_law_dims")]) (anp (aaf ad6) ["_law_row_here","_law_dims","_law_wide","_law_corners","_law_k"] rfl rfl rfl (by decide +kernel) (by decide +kernel) (by decide +kernel) (by decide +kernel) (by decide +kernel)) (ai5 rfl m_range (aaa (abJ aa3 abI aad) (aaa (aac 1) aae))) rfl (fun _ _ _ _=>(aat (i:=0) (show (cmpN ["_law_k"] [(1,"_law_dims")]).Nodup by decide +kernel) rfl (Or.inr rfl) (Or.inl rfl))) (fun _ _ _ _=>(abu (own:=["_law_m"]) (cap:=[(0,"_law_k")]) (ane (aaf ad6) rfl rfl rfl (by decide +kernel) (by decide +kernel) (by decide +kernel) (by decide +kernel) (by decide +kernel)) (aaZ rfl m_range (aaa (aac 1) aae)) rfl (fun _ _ _ _=>(aat (i:=0) (show (cmpN ["_law_m"] [(0,"_law_k")]).Nodup by decide +kernel) rfl (Or.inl rfl) (Or.inr rfl))) (fun _ _ _ _=>(abU ag5 aom rfl m_int amd (aaa (ais (aby (hu8 hr)) s_eq (aac 0) (aac 1) (aaO _)) aae)))))))))))
theorem aiw:aaA ["_law_row_here","_law_rest","_law_corner","_law_corners","_law_k","_law_m"] ["_law_row_here"] (aaf aei):=⟨rfl,rfl,rfl,by decide +kernel,rfl,by decide +kernel,by decide +kernel⟩
theorem ale {f:Addr} {fd:FuncData} (F:Fun K "_law_kuhn" "_law_kuhn" aei f fd)
  (C_wtake:Cal P w K mg base cl "_law_take" 1 ["_law_row_here","_law_many"] aaq)
  (m_len:mg "len"=none)
  (m_list:mg "list"=none)
  (m_range:mg "range"=none)
  : FnOk P w K mg base CX0 2 f fd ["_law_row_here"] (spP0 K cl aec):=by
 have nd:=aiw.nd
 refine okL (np:=1) (n:=6) F aiw (by decide) (by decide) (b:=akC) (k:=1) fun cdv A outer s H E hr=>?_
 exact (aag (aar (i:=1) nd rfl (Or.inl rfl) (ac9 (aaa aad (aaa aad (aaa aad aae)))))
   (aag (aar (i:=2) nd rfl (Or.inl rfl) (ac9 (aaa aad (aaa aad (aaa aad aae)))))
   (aag (aar (i:=3) nd rfl (Or.inl rfl) (aop rfl rfl m_list (aaa (aac 2) aae)))
   (aag (abR PassesOwn.never rfl (aaZ rfl m_range (aaa aad aae)) (aat (i:=4) nd rfl (Or.inl rfl)) (aag (adm aad (aac 2) (amh (aac 1) (aaa (aaK C_wtake hr (by decide) rfl (aaa (aac 0) (aaa (aaS aaQ adY rfl m_len acG (aaa (aac 1) aae)) aae))) aae)))
   (aai (abM (ano rfl rfl m_list (aac 3) (aaa (aac 2) aae))))))
   (aag (abR PassesOwn.never rfl (aaZ rfl m_range (aaa aad aae)) (aat (i:=5) nd rfl (Or.inl rfl)) (aai (aa9 (aaI (aby (hu8 hr)) s_eq (aaK C_wtake hr (by decide) rfl (aaa (aac 0) (aaa aad aae))) aad (aaO _)) (aai (anz (ics:=3) (ic:=2) (im:=5) PassesOwn.never rfl nd rfl rfl rfl (Or.inl rfl) (Or.inl rfl) (Or.inl rfl) (by decide) (by decide))) aaP)))
   (aai (aaB (aac 3))))))))
theorem aex:aaA ["_law_row_here","_law_dims","_law_many","_law_heap","_law_k","_law_kind"] ["_law_row_here","_law_dims","_law_many"] (aaf acf):=⟨rfl,rfl,rfl,by decide +kernel,rfl,by decide +kernel,by decide +kernel⟩
theorem agP {f:Addr} {fd:FuncData} (F:Fun K "_law_raw_heap" "_law_raw_heap" acf f fd)
  (C_wtake:Cal P w K mg base cl "_law_take" 1 ["_law_row_here","_law_many"] aaq)
  (C_wraw:Cal P w K mg base cl "_law_raw" 4 ["_law_row_here","_law_dims","_law_wide"] ada)
  (C_wkuhn:Cal P w K mg base cl "_law_kuhn" 2 ["_law_row_here"] aec)
  (m_int:mg "int"=none)
  (m_len:mg "len"=none)
  (m_range:mg "range"=none)
  : FnOk P w K mg base CX0 5 f fd ["_law_row_here","_law_dims","_law_many"] (spP0 K cl abZ):=by
 have nd:=aex.nd
 refine okP (np:=3) (n:=6) F aex (by decide) (by decide) (b:=adT) (k:=4) fun cdv A outer s H E hr=>?_
 exact (aag (aar (i:=3) nd rfl (Or.inl rfl) (ac9 aae))
   (aag (abR PassesOwn.never rfl (aaZ rfl m_range (aaa (aaK C_wtake hr (by decide) rfl (aaa (aac 0) (aaa (aas aaJ abn (aac 2) aad) aae))) aae)) (aat (i:=4) nd rfl (Or.inl rfl)) (aag (aar (i:=5) nd rfl (Or.inl rfl) (aaK C_wtake hr (by decide) rfl (aaa (aac 0) (aaa aad aae))))
   (aai (aa9 (PWp.pt (ahD (aaI (aby (hu8 hr)) s_eq (aac 5) aad (aaO _)) (agh (aaI af4 s_gt (aaS aaQ adY rfl m_len acG (aaa (aac 3) aae)) aad (aaO _))))) (aai (abM (abS (aac 3) (aaa (aaD (aac 3) (abJ aa3 abI aad)) aae)))) (aai (aa9 (aaI (aby (hu8 hr)) s_eq (aac 1) aad (aaO _)) (aai (abM (abS (aac 3) (aaa (aaK C_wraw hr (by decide) rfl (aaa (aac 0) (aaa aad (aaa (aas aaJ abn aad (abU ag5 aom rfl m_int amd (aaa (ais (aby (hu8 hr)) s_eq (aac 5) aad (aaO _)) aae))) aae)))) aae)))) (aai (aa9 (aaI af4 s_gt (aac 5) aad (aaO _)) (aai (abM (abS (aac 3) (aaa (aaK C_wraw hr (by decide) rfl (aaa (aac 0) (aaa aad (aaa aad aae)))) aae)))) (aai (abM (abS (aac 3) (aaa (aaK C_wkuhn hr (by decide) rfl (aaa (aac 0) aae)) aae))))))))))))
   (aai (aaB (aac 3)))))
theorem ajF:aaA ["_law_row_here","_law_dims","_law_kind","_law_wide","_law_under","_law_far_here"] ["_law_row_here","_law_dims"] (aaf aff):=⟨rfl,rfl,rfl,by decide +kernel,rfl,by decide +kernel,by decide +kernel⟩
theorem amQ {f:Addr} {fd:FuncData} (F:Fun K "_law_far" "_law_far" aff f fd)
  (C_wtake:Cal P w K mg base cl "_law_take" 1 ["_law_row_here","_law_many"] aaq)
  (C_wlowest:Cal P w K mg base cl "_law_lowest" 2 ["_law_numbers"] aaF)
  (m_range:mg "range"=none)
  : FnOk P w K mg base CX0 3 f fd ["_law_row_here","_law_dims"] (spP0 K cl acF):=by
 have nd:=ajF.nd
 refine okP (np:=2) (n:=6) F ajF (by decide) (by decide) (b:=ajR) (k:=2) fun cdv A outer s H E hr=>?_
 exact (aag (aar (i:=2) nd rfl (Or.inl rfl) (aaK C_wtake hr (by decide) rfl (aaa (aac 0) (aaa aad aae))))
   (aag (aar (i:=3) nd rfl (Or.inr rfl) (aaD (ab6 (aaa aad (aaa aad (aaa aad (aaa (aas aeA ahc aad aad) aae))))) (aac 2)))
   (aag (aar (i:=4) nd rfl (Or.inl rfl) (aas aaJ abn aad (aas aax aaY (aaK C_wtake hr (by decide) rfl (aaa (aac 0) (aaa aad aae))) (aas adz afQ (aac 2) aad))))
   (aag (acL (i:=5) (own:=["_law_k"]) (cap:=[(3,"_law_wide"),(0,"_law_row_here")]) nd rfl (Or.inl rfl) (abz (aaf aff) ["_law_row_here","_law_dims","_law_kind","_law_wide","_law_under","_law_far_here"] rfl rfl rfl (by decide +kernel) (by decide +kernel) (by decide +kernel) (by decide +kernel) (by decide +kernel)) (aaZ rfl m_range (aaa (aac 1) aae)) rfl (fun _ _ _ _=>(aat (i:=0) (show (cmpN ["_law_k"] [(3,"_law_wide"),(0,"_law_row_here")]).Nodup by decide +kernel) rfl (Or.inl rfl) (Or.inr rfl))) (fun _ _ _ _=>(aas abT acS (aaK C_wtake hr (by decide) rfl (aaa (aac 2) (aaa (aas aaJ abn (aas aax aaY aad (aac 1)) aad) aae))) (aac 1))))
   (aai (aaB (aaK C_wlowest hr (by decide) rfl (aaa (aas aaJ abn (aac 5) (ab6 (aaa (aac 4) aae))) aae))))))))
theorem aeY:aaA ["_law_row_here","_law_dims","_law_told","_law_k","_law_kind"] ["_law_row_here","_law_dims"] (aaf acm):=⟨rfl,rfl,rfl,by decide +kernel,rfl,by decide +kernel,by decide +kernel⟩
theorem ahu {f:Addr} {fd:FuncData} (F:Fun K "_law_stretch" "_law_stretch" acm f fd)
  (C_wtake:Cal P w K mg base cl "_law_take" 1 ["_law_row_here","_law_many"] aaq)
  (C_wfrac:Cal P w K mg base cl "_law_frac" 3 ["_law_top","_law_bottom"] abD)
  (m_range:mg "range"=none)
  : FnOk P w K mg base CX0 4 f fd ["_law_row_here","_law_dims"] (spP0 K cl acg):=by
 have nd:=aeY.nd
 refine okP (np:=2) (n:=5) F aeY (by decide) (by decide) (b:=aeb) (k:=3) fun cdv A outer s H E hr=>?_
 exact (aag (aar (i:=2) nd rfl (Or.inl rfl) (ac9 aae))
   (aag (abR PassesOwn.never rfl (aaZ rfl m_range (aaa (aac 1) aae)) (aat (i:=3) nd rfl (Or.inl rfl)) (aag (aar (i:=4) nd rfl (Or.inl rfl) (aaK C_wtake hr (by decide) rfl (aaa (aac 0) (aaa aad aae))))
   (aai (abM (abS (aac 2) (aaa (aaK C_wfrac hr (by decide) rfl (aaa (aas aaJ abn aad (aaK C_wtake hr (by decide) rfl (aaa (aac 0) (aaa (aaD (ab6 (aaa aad (aaa aad (aaa (aas aeA ahc aad aad) aae)))) (aac 4)) aae)))) (aaa (aas aaJ abn aad (aaK C_wtake hr (by decide) rfl (aaa (aac 0) (aaa (aaD (ab6 (aaa aad (aaa aad (aaa (aas aeA ahc aad aad) aae)))) (aac 4)) aae)))) aae))) aae))))))
   (aai (aaB (aac 2)))))
theorem ahQ:aaA ["_law_corner","_law_stretch_here","_law_under","_law_part","_law_far_here"] ["_law_corner","_law_stretch_here"] (aaf adO):=⟨rfl,rfl,rfl,by decide +kernel,rfl,by decide +kernel,by decide +kernel⟩
theorem alw {f:Addr} {fd:FuncData} (F:Fun K "_law_spot" "_law_spot" adO f fd)
  (C_wlowest:Cal P w K mg base cl "_law_lowest" 2 ["_law_numbers"] aaF)
  (m_zip:mg "zip"=none)
  : FnOk P w K mg base CX0 3 f fd ["_law_corner","_law_stretch_here"] (spP0 K cl abB):=by
 have nd:=ahQ.nd
 refine okP (np:=2) (n:=5) F ahQ (by decide) (by decide) (b:=agp) (k:=2) fun cdv A outer s H E hr=>?_
 exact (aag (aar (i:=2) nd rfl (Or.inr rfl) aad)
   (aag (abR PassesOwn.never rfl (abm (aac 1)) (aat (i:=3) nd rfl (Or.inl rfl)) (aai (aar (i:=2) nd rfl (Or.inr rfl) (aas aax aaY (aac 2) (aaD (aac 3) aad)))))
   (aag (acL (i:=4) (own:=["_law_number","_law_part"]) (cap:=[(2,"_law_under")]) nd rfl (Or.inl rfl) (abz (aaf adO) ["_law_corner","_law_stretch_here","_law_under","_law_part","_law_far_here"] rfl rfl rfl (by decide +kernel) (by decide +kernel) (by decide +kernel) (by decide +kernel) (by decide +kernel)) (adP rfl m_zip (aaa (aac 0) (aaa (aac 1) aae))) rfl (fun _ _ _ _=>(adn rfl (aa7 (aat (i:=0) (show (cmpN ["_law_number","_law_part"] [(2,"_law_under")]).Nodup by decide +kernel) rfl (Or.inl rfl) (Or.inr rfl)) (aa7 (aat (i:=1) (show (cmpN ["_law_number","_law_part"] [(2,"_law_under")]).Nodup by decide +kernel) rfl (Or.inl rfl) (Or.inr rfl)) acK)))) (fun _ _ _ _=>(aas aax aaY (aas aax aaY (aac 0) (aaD (aac 1) aad)) (aas adz afQ (aac 2) (aaD (aac 1) aad)))))
   (aai (aaB (aaK C_wlowest hr (by decide) rfl (aaa (aas aaJ abn (aac 4) (ab6 (aaa (aac 2) aae))) aae)))))))
theorem aih:aaA ["_law_row_here","_law_heap","_law_stretch_here","_law_told","_law_corners","_law_far_here"] ["_law_row_here","_law_heap","_law_stretch_here"] (aaf adR):=⟨rfl,rfl,rfl,by decide +kernel,rfl,by decide +kernel,by decide +kernel⟩
theorem ak0 {f:Addr} {fd:FuncData} (F:Fun K "_law_laid" "_law_laid" adR f fd)
  (C_wfar:Cal P w K mg base cl "_law_far" 3 ["_law_row_here","_law_dims"] acF)
  (C_wsimplex:Cal P w K mg base cl "_law_simplex" 4 ["_law_points"] aaU)
  (C_wjoined:Cal P w K mg base cl "_law_joined" 3 ["_law_p","_law_q","_law_way"] abh)
  (C_wspot:Cal P w K mg base cl "_law_spot" 3 ["_law_corner","_law_stretch_here"] abB)
  (m_len:mg "len"=none)
  : FnOk P w K mg base CX0 5 f fd ["_law_row_here","_law_heap","_law_stretch_here"] (spP0 K cl adS):=by
 have nd:=aih.nd
 refine okP (np:=3) (n:=6) F aih (by decide) (by decide) (b:=ahj) (k:=4) fun cdv A outer s H E hr=>?_
 exact (aag (aar (i:=3) nd rfl (Or.inl rfl) (ac9 aae))
   (aag (abR PassesOwn.never rfl (abm (aac 1)) (aat (i:=4) nd rfl (Or.inl rfl)) (aag (aar (i:=5) nd rfl (Or.inr rfl) (aaK C_wfar hr (by decide) rfl (aaa (aac 0) (aaa (aaS aaQ adY rfl m_len acG (aaa (aac 2) aae)) aae))))
   (aai (abM (abS (aac 3) (aaa (aaK C_wsimplex hr (by decide) rfl (aaa (abu (own:=["_law_corner"]) (cap:=[(5,"_law_far_here"),(2,"_law_stretch_here")]) (abz (aaf adR) ["_law_row_here","_law_heap","_law_stretch_here","_law_told","_law_corners","_law_far_here"] rfl rfl rfl (by decide +kernel) (by decide +kernel) (by decide +kernel) (by decide +kernel) (by decide +kernel)) (abm (aac 4)) rfl (fun _ _ _ _=>(aat (i:=0) (show (cmpN ["_law_corner"] [(5,"_law_far_here"),(2,"_law_stretch_here")]).Nodup by decide +kernel) rfl (Or.inl rfl) (Or.inr rfl))) (fun _ _ _ _=>(aaK C_wjoined hr (by decide) rfl (aaa (aaK C_wspot hr (by decide) rfl (aaa (aac 0) (aaa (aac 2) aae))) (aaa (aac 1) (aaa aad aae)))))) aae)) aae))))))
   (aai (aaB (aac 3)))))
theorem afw:aaA ["_law_points","_law_p","_law_found","_law_k","_law_others","_law_turn_here"] ["_law_points","_law_p"] (aaf acT):=⟨rfl,rfl,rfl,by decide +kernel,rfl,by decide +kernel,by decide +kernel⟩
theorem aiF {f:Addr} {fd:FuncData} (F:Fun K "_law_within" "_law_within" acT f fd)
  (C_wdet:Cal P w K mg base cl "_law_det" 3 ["_law_points"] aca)
  (m_len:mg "len"=none)
  (m_list:mg "list"=none)
  (m_range:mg "range"=none)
  : FnOk P w K mg base CX0 4 f fd ["_law_points","_law_p"] (spP0 K cl acy):=by
 have nd:=afw.nd
 refine okP (np:=2) (n:=6) F afw (by decide) (by decide) (b:=afg) (k:=3) fun cdv A outer s H E hr=>?_
 exact (aag (aar (i:=2) nd rfl (Or.inl rfl) aad)
   (aag (abR PassesOwn.never rfl (aaZ rfl m_range (aaa (aaS aaQ adY rfl m_len acG (aaa (aac 0) aae)) aae)) (aat (i:=3) nd rfl (Or.inl rfl)) (aag (aar (i:=4) nd rfl (Or.inl rfl) (alI rfl rfl m_list (aaa (aac 0) aae)))
   (aag (adm (aac 1) (aac 4) (aac 3))
   (aag (aar (i:=5) nd rfl (Or.inl rfl) (aaK C_wdet hr (by decide) rfl (aaa (aac 4) aae)))
   (aag (aa9 (aaI af5 s_lt (aac 5) aad (aaO _)) (aai (aaB (abJ aa3 abI aad))) aaP)
   (aai (aa9 (aaI (aby (hu8 hr)) s_eq (aac 5) aad (aaO _)) (aai (aar (i:=2) nd rfl (Or.inl rfl) aad)) aaP)))))))
   (aai (aaB (aac 2)))))
theorem ag8:aaA ["_law_heap","_law_p","_law_many","_law_points","_law_place"] ["_law_heap","_law_p"] (aaf ads):=⟨rfl,rfl,rfl,by decide +kernel,rfl,by decide +kernel,by decide +kernel⟩
theorem akd {f:Addr} {fd:FuncData} (F:Fun K "_law_count" "_law_count" ads f fd)
  (C_wwithin:Cal P w K mg base cl "_law_within" 4 ["_law_points","_law_p"] acy)
  : FnOk P w K mg base CX0 5 f fd ["_law_heap","_law_p"] (spP0 K cl ab5):=by
 have nd:=ag8.nd
 refine okP (np:=2) (n:=5) F ag8 (by decide) (by decide) (b:=af8) (k:=4) fun cdv A outer s H E hr=>?_
 exact (aag (aar (i:=2) nd rfl (Or.inl rfl) aad)
   (aag (abR PassesOwn.never rfl (abm (aac 0)) (aat (i:=3) nd rfl (Or.inl rfl)) (aag (aar (i:=4) nd rfl (Or.inl rfl) (aaK C_wwithin hr (by decide) rfl (aaa (aac 3) (aaa (aac 1) aae))))
   (aag (aa9 (aaI (aby (hu8 hr)) s_eq (aac 4) aad (aaO _)) (aai (aaB (abJ aa3 abI aad))) aaP)
   (aai (aa9 (aaI (aby (hu8 hr)) s_eq (aac 4) aad (aaO _)) (aai (aar (i:=2) nd rfl (Or.inl rfl) (aas aaJ abn (aac 2) aad))) aaP)))))
   (aai (aaB (aac 2)))))
theorem afC:aaA ["_law_p"] ["_law_p"] (aaf acV):=⟨rfl,rfl,rfl,by decide +kernel,rfl,by decide +kernel,by decide +kernel⟩
theorem ai7 {f:Addr} {fd:FuncData} (F:Fun K "_law_raised" "_law_raised" acV f fd)
  : FnOk P w K mg base CX0 1 f fd ["_law_p"] (spP0 K cl ab3):=by
 have nd:=afC.nd
 refine okP (np:=1) (n:=1) F afC (by decide) (by decide) (b:=aeN) (k:=0) fun cdv A outer s H E hr=>?_
 exact (aai (aaB (aij (aaa (aaD (aac 0) aad) (aaa (aaD (aac 0) aad) (aaa aad (aaa (aaD (aac 0) aad) aae)))))))
theorem agZ:aaA ["_law_row_here","_law_dims","_law_wide","_law_under","_law_far_here"] ["_law_row_here","_law_dims"] (aaf ac4):=⟨rfl,rfl,rfl,by decide +kernel,rfl,by decide +kernel,by decide +kernel⟩
theorem akx {f:Addr} {fd:FuncData} (F:Fun K "_law_shift" "_law_shift" ac4 f fd)
  (C_wtake:Cal P w K mg base cl "_law_take" 1 ["_law_row_here","_law_many"] aaq)
  (C_wlowest:Cal P w K mg base cl "_law_lowest" 2 ["_law_numbers"] aaF)
  (m_range:mg "range"=none)
  : FnOk P w K mg base CX0 3 f fd ["_law_row_here","_law_dims"] (spP0 K cl acE):=by
 have nd:=agZ.nd
 refine okP (np:=2) (n:=5) F agZ (by decide) (by decide) (b:=afY) (k:=2) fun cdv A outer s H E hr=>?_
 exact (aag (aar (i:=2) nd rfl (Or.inr rfl) (aaD (ab6 (aaa aad (aaa aad (aaa (aas aeA ahc aad aad) aae)))) (aaK C_wtake hr (by decide) rfl (aaa (aac 0) (aaa aad aae)))))
   (aag (aar (i:=3) nd rfl (Or.inl rfl) (aaD (ab6 (aaa aad (aaa aad (aaa (aas aeA ahc aad aad) aae)))) (aaK C_wtake hr (by decide) rfl (aaa (aac 0) (aaa aad aae)))))
   (aag (aar (i:=3) nd rfl (Or.inl rfl) (aas aaJ abn aad (aaK C_wtake hr (by decide) rfl (aaa (aac 0) (aaa (aac 3) aae)))))
   (aag (ajM (i:=4) (own:=["_law_k"]) (cap:=[(2,"_law_wide"),(0,"_law_row_here")]) nd rfl (Or.inl rfl) (abz (aaf ac4) ["_law_row_here","_law_dims","_law_wide","_law_under","_law_far_here"] rfl rfl rfl (by decide +kernel) (by decide +kernel) (by decide +kernel) (by decide +kernel) (by decide +kernel)) (aaZ rfl m_range (aaa (aac 1) aae)) rfl (fun _ _ _ _=>(aat (i:=0) (show (cmpN ["_law_k"] [(2,"_law_wide"),(0,"_law_row_here")]).Nodup by decide +kernel) rfl (Or.inl rfl) (Or.inr rfl))) (fun _ _ _ _=>(aas abT acS (aaK C_wtake hr (by decide) rfl (aaa (aac 2) (aaa (aas aaJ abn (aas aax aaY aad (aac 1)) aad) aae))) (aac 1))))
   (aag (adm (aas aax aaY (aas aaJ abn aad (aaK C_wtake hr (by decide) rfl (aaa (aac 0) (aaa (aac 2) aae)))) (aas abT acS aad (aas aax aaY aad (aaK C_wtake hr (by decide) rfl (aaa (aac 0) (aaa aad aae)))))) (aac 4) (abJ aa3 abI aad))
   (aag (aa9 (aaI (aby (hu8 hr)) s_eq (aaK C_wtake hr (by decide) rfl (aaa (aac 0) (aaa aad aae))) aad (aaO _)) (aai (adm aad (aac 4) (abJ aa3 abI aad))) aaP)
   (aai (aaB (aaK C_wlowest hr (by decide) rfl (aaa (aas aaJ abn (aac 4) (ab6 (aaa (aac 3) aae))) aae))))))))))
theorem aey:aaA ["_law_points","_law_weights","_law_under","_law_p","_law_far_here","_law_k"] ["_law_points","_law_weights"] (aaf abW):=⟨rfl,rfl,rfl,by decide +kernel,rfl,by decide +kernel,by decide +kernel⟩
theorem agv {f:Addr} {fd:FuncData} (F:Fun K "_law_weighted" "_law_weighted" abW f fd)
  (C_wlowest:Cal P w K mg base cl "_law_lowest" 2 ["_law_numbers"] aaF)
  (m_len:mg "len"=none)
  (m_range:mg "range"=none)
  (m_sum:mg "sum"=none)
  (m_zip:mg "zip"=none)
  : FnOk P w K mg base CX0 3 f fd ["_law_points","_law_weights"] (spP0 K cl abX):=by
 have nd:=aey.nd
 refine okP (np:=2) (n:=6) F aey (by decide) (by decide) (b:=adU) (k:=2) fun cdv A outer s H E hr=>?_
 exact (aag (aar (i:=2) nd rfl (Or.inr rfl) aad)
   (aag (abR PassesOwn.never rfl (abm (aac 0)) (aat (i:=3) nd rfl (Or.inl rfl)) (aai (aar (i:=2) nd rfl (Or.inr rfl) (aas aax aaY (aac 2) (aaD (aac 3) (abJ aa3 abI aad))))))
   (aag (aar (i:=4) nd rfl (Or.inl rfl) (ac9 aae))
   (aag (abR PassesOwn.never rfl (aaZ rfl m_range (aaa (aas abT acS (aaS aaQ adY rfl m_len acG (aaa (aaD (aac 0) aad) aae)) aad) aae)) (aat (i:=5) nd rfl (Or.inr rfl)) (aai (abM (abS (aac 4) (aaa (aaS (adq rfl) ajw rfl m_sum ahb (aaa (abu (own:=["_law_weight","_law_p"]) (cap:=[(2,"_law_under"),(5,"_law_k")]) (abz (aaf abW) ["_law_points","_law_weights","_law_under","_law_p","_law_far_here","_law_k"] rfl rfl rfl (by decide +kernel) (by decide +kernel) (by decide +kernel) (by decide +kernel) (by decide +kernel)) (adP rfl m_zip (aaa (aac 1) (aaa (aac 0) aae))) rfl (fun _ _ _ _=>(adn rfl (aa7 (aat (i:=0) (show (cmpN ["_law_weight","_law_p"] [(2,"_law_under"),(5,"_law_k")]).Nodup by decide +kernel) rfl (Or.inl rfl) (Or.inr rfl)) (aa7 (aat (i:=1) (show (cmpN ["_law_weight","_law_p"] [(2,"_law_under"),(5,"_law_k")]).Nodup by decide +kernel) rfl (Or.inl rfl) (Or.inr rfl)) acK)))) (fun _ _ _ _=>(aas aax aaY (aas aax aaY (aac 0) (aaD (aac 1) (aac 3))) (aas adz afQ (aac 2) (aaD (aac 1) (abJ aa3 abI aad)))))) aae)) aae)))))
   (aai (aaB (aaK C_wlowest hr (by decide) rfl (aaa (aas aaJ abn (aac 4) (ab6 (aaa (aas aax aaY (aac 2) (aaS (adq rfl) ajw rfl m_sum ahb (aaa (aac 1) aae))) aae))) aae))))))))
theorem al1:aaA ["_law_script","_law_row_here","_law_stretch_here","_law_raw_here","_law_heap","_law_far_here","_law_p","_law_points","_law_weights","_law_share","_law_due","_law_there","_law_told","_law_seen"] ["_law_script"] (aaf aeo):=⟨rfl,rfl,rfl,by decide +kernel,rfl,by decide +kernel,by decide +kernel⟩
theorem aoN {f:Addr} {fd:FuncData} (F:Fun K "law" "law" aeo f fd)
  (C_wrow:Cal P w K mg base cl "_law_row" 1 ["_law_script"] aeB)
  (C_wstretch:Cal P w K mg base cl "_law_stretch" 4 ["_law_row_here","_law_dims"] acg)
  (C_wraw_heap:Cal P w K mg base cl "_law_raw_heap" 5 ["_law_row_here","_law_dims","_law_many"] abZ)
  (C_wtake:Cal P w K mg base cl "_law_take" 1 ["_law_row_here","_law_many"] aaq)
  (C_wsimplex:Cal P w K mg base cl "_law_simplex" 4 ["_law_points"] aaU)
  (C_wspot:Cal P w K mg base cl "_law_spot" 3 ["_law_corner","_law_stretch_here"] abB)
  (C_wlaid:Cal P w K mg base cl "_law_laid" 5 ["_law_row_here","_law_heap","_law_stretch_here"] adS)
  (C_wshift:Cal P w K mg base cl "_law_shift" 3 ["_law_row_here","_law_dims"] acE)
  (C_wfar:Cal P w K mg base cl "_law_far" 3 ["_law_row_here","_law_dims"] acF)
  (C_wweighted:Cal P w K mg base cl "_law_weighted" 3 ["_law_points","_law_weights"] abX)
  (C_wfrac:Cal P w K mg base cl "_law_frac" 3 ["_law_top","_law_bottom"] abD)
  (C_wcount:Cal P w K mg base cl "_law_count" 5 ["_law_heap","_law_p"] ab5)
  (C_wjoined:Cal P w K mg base cl "_law_joined" 3 ["_law_p","_law_q","_law_way"] abh)
  (C_wlowest:Cal P w K mg base cl "_law_lowest" 2 ["_law_numbers"] aaF)
  (C_wraised:Cal P w K mg base cl "_law_raised" 1 ["_law_p"] ab3)
  {a_prism:Addr} {d_prism:FuncData}
  (G_prism:FnOk P w K mg base CX0 5 a_prism d_prism ["heap","arrow"] (spP0 K cl adr)) (aeW:adC K d_prism ["heap","arrow"] []) (k_prism:PySem.W.keepIn K (.ref a_prism)=true) (n_prism:mg "prism"=some (.ref a_prism))
  {a_count_at:Addr} {d_count_at:FuncData}
  (G_count_at:FnOk P w K mg base CX0 5 a_count_at d_count_at ["heap","p"] (spP0 K cl abN)) (acW:adC K d_count_at ["heap","p"] []) (k_count_at:PySem.W.keepIn K (.ref a_count_at)=true) (n_count_at:mg "count_at"=some (.ref a_count_at))
  (m_len:mg "len"=none)
  (m_range:mg "range"=none)
  (m_sum:mg "sum"=none)
  (m_tuple:mg "tuple"=none)
  : FnOk P w K mg base CX0 6 f fd ["_law_script"] (spP0 K cl am8):=by
 have nd:=al1.nd
 refine okP (np:=1) (n:=14) F al1 (by decide) (by decide) (b:=amB) (k:=5) fun cdv A outer s H E hr=>?_
 exact (aag (aar (i:=1) nd rfl (Or.inr rfl) (apf C_wrow hr (by decide) rfl (aaa (aac 0) aae)))
   (aag (aar (i:=2) nd rfl (Or.inr rfl) (aaK C_wstretch hr (by decide) rfl (aaa (aac 1) (aaa aad aae))))
   (aag (aar (i:=3) nd rfl (Or.inl rfl) (aaK C_wraw_heap hr (by decide) rfl (aaa (aac 1) (aaa aad (aaa aad aae)))))
   (aag (aa9 (aaI (aby (hu8 hr)) s_eq (aaK C_wtake hr (by decide) rfl (aaa (aac 1) (aaa aad aae))) aad (aaO _)) (aai (acL (i:=4) (own:=["_law_corners"]) (cap:=[(2,"_law_stretch_here")]) nd rfl (Or.inl rfl) (abz (aaf aeo) ["_law_script","_law_row_here","_law_stretch_here","_law_raw_here","_law_heap","_law_far_here","_law_p","_law_points","_law_weights","_law_share","_law_due","_law_there","_law_told","_law_seen"] rfl rfl rfl (by decide +kernel) (by decide +kernel) (by decide +kernel) (by decide +kernel) (by decide +kernel)) (abm (aac 3)) rfl (fun _ _ _ _=>(aat (i:=0) (show (cmpN ["_law_corners"] [(2,"_law_stretch_here")]).Nodup by decide +kernel) rfl (Or.inl rfl) (Or.inr rfl))) (fun _ _ _ _=>(aaK C_wsimplex hr (by decide) rfl (aaa (abu (own:=["_law_corner"]) (cap:=[(1,"_law_stretch_here")]) (akF (aaf aeo) rfl rfl rfl (by decide +kernel) (by decide +kernel) (by decide +kernel) (by decide +kernel) (by decide +kernel)) (abm (aac 0)) rfl (fun _ _ _ _=>(aat (i:=0) (show (cmpN ["_law_corner"] [(1,"_law_stretch_here")]).Nodup by decide +kernel) rfl (Or.inl rfl) (Or.inr rfl))) (fun _ _ _ _=>(aaK C_wspot hr (by decide) rfl (aaa (aac 0) (aaa (aac 1) aae))))) aae))))) (aai (aar (i:=4) nd rfl (Or.inl rfl) (aaK C_wlaid hr (by decide) rfl (aaa (aac 1) (aaa (aac 3) (aaa (aac 2) aae)))))))
   (aag (aar (i:=5) nd rfl (Or.inl rfl) (aaK C_wshift hr (by decide) rfl (aaa (aac 1) (aaa aad aae))))
   (aag (aa9 (aaI (aby (hu8 hr)) s_eq (aaD (aac 5) aad) aad (aaO _)) (aai (aar (i:=5) nd rfl (Or.inl rfl) (aij (aaa (aaD (aac 5) aad) (aaa (aaD (aac 5) aad) (aaa (aaD (aac 5) aad) (aaa (aaD (aac 5) aad) aae))))))) aaP)
   (aag (aar (i:=6) nd rfl (Or.inl rfl) (aaK C_wfar hr (by decide) rfl (aaa (aac 1) (aaa aad aae))))
   (aag (aa9 (PWp.pt (ahD (aaI af4 s_gt (aaS aaQ adY rfl m_len acG (aaa (aac 4) aae)) aad (aaO _)) (agh (aaI af5 s_lt (aaK C_wtake hr (by decide) rfl (aaa (aac 1) (aaa aad aae))) aad (aaO _))))) (aag (aar (i:=7) nd rfl (Or.inl rfl) (aaD (aac 4) (aaK C_wtake hr (by decide) rfl (aaa (aac 1) (aaa (aaS aaQ adY rfl m_len acG (aaa (aac 4) aae)) aae)))))
   (aag (acL (i:=8) (own:=["_law_k"]) (cap:=[(1,"_law_row_here")]) nd rfl (Or.inl rfl) (abz (aaf aeo) ["_law_script","_law_row_here","_law_stretch_here","_law_raw_here","_law_heap","_law_far_here","_law_p","_law_points","_law_weights","_law_share","_law_due","_law_there","_law_told","_law_seen"] rfl rfl rfl (by decide +kernel) (by decide +kernel) (by decide +kernel) (by decide +kernel) (by decide +kernel)) (aaZ rfl m_range (aaa aad aae)) rfl (fun _ _ _ _=>(aat (i:=0) (show (cmpN ["_law_k"] [(1,"_law_row_here")]).Nodup by decide +kernel) rfl (Or.inl rfl) (Or.inr rfl))) (fun _ _ _ _=>(aaK C_wtake hr (by decide) rfl (aaa (aac 1) (aaa aad aae)))))
   (aai (aa9 (aaI af4 s_gt (aaS (adq rfl) ajw rfl m_sum ahb (aaa (aac 8) aae)) aad (aaO _)) (aai (aar (i:=6) nd rfl (Or.inl rfl) (aaK C_wweighted hr (by decide) rfl (aaa (aac 7) (aaa (aac 8) aae))))) aaP)))) aaP)
   (aag (aar (i:=9) nd rfl (Or.inr rfl) (aaK C_wfrac hr (by decide) rfl (aaa (aas abT acS (aaK C_wtake hr (by decide) rfl (aaa (aac 1) (aaa aad aae))) aad) (aaa aad aae))))
   (aag (aa9 (aaI (aby (hu8 hr)) s_eq (aaK C_wtake hr (by decide) rfl (aaa (aac 1) (aaa aad aae))) aad (aaO _)) (aai (aar (i:=9) nd rfl (Or.inr rfl) (aaK C_wfrac hr (by decide) rfl (aaa (aas aaJ abn aad (aaK C_wtake hr (by decide) rfl (aaa (aac 1) (aaa aad aae)))) (aaa (aas aaJ abn aad (aaK C_wtake hr (by decide) rfl (aaa (aac 1) (aaa (aas aeA ahc aad aad) aae)))) aae))))) aaP)
   (aag (aar (i:=10) nd rfl (Or.inl rfl) (aaK C_wcount hr (by decide) rfl (aaa (aac 4) (aaa (aac 6) aae))))
   (aag (aar (i:=11) nd rfl (Or.inl rfl) (aas aaJ abn (abu (own:=["_law_number"]) (cap:=[(9,"_law_share")]) (abz (aaf aeo) ["_law_script","_law_row_here","_law_stretch_here","_law_raw_here","_law_heap","_law_far_here","_law_p","_law_points","_law_weights","_law_share","_law_due","_law_there","_law_told","_law_seen"] rfl rfl rfl (by decide +kernel) (by decide +kernel) (by decide +kernel) (by decide +kernel) (by decide +kernel)) (abm (adp (aac 5) abl (abd aad))) rfl (fun _ _ _ _=>(aat (i:=0) (show (cmpN ["_law_number"] [(9,"_law_share")]).Nodup by decide +kernel) rfl (Or.inl rfl) (Or.inr rfl))) (fun _ _ _ _=>(aas aax aaY (aaD (aac 1) aad) (aac 0)))) (ab6 (aaa (aas aax aaY (aaD (aac 9) aad) (aaD (aac 5) aad)) aae))))
   (aag (aar (i:=11) nd rfl (Or.inl rfl) (aaK C_wjoined hr (by decide) rfl (aaa (aaK C_wraised hr (by decide) rfl (aaa (aac 6) aae)) (aaa (aaK C_wlowest hr (by decide) rfl (aaa (aac 11) aae)) (aaa aad aae)))))
   (aag (aar (i:=12) nd rfl (Or.inl rfl) (agc G_prism (hr.mono (by decide)) rfl n_prism k_prism aeW .nil Dv.nil (aaa (abU abx adQ rfl m_tuple ac3 (aaa (aac 4) aae)) (aaa (aaK C_wlowest hr (by decide) rfl (aaa (aac 5) aae)) aae))))
   (aag (aar (i:=13) nd rfl (Or.inl rfl) (aaK C_wcount hr (by decide) rfl (aaa (aac 12) (aaa (aac 11) aae))))
   (aag (aa9 (PWp.pt (ahU (aaI af5 s_lt (aac 10) aad (aaO _)) (ahU (aaI af5 s_lt (aac 13) aad (aaO _)) (ahU (aaI (aby (hu8 hr)) s_eq (aaD (aac 9) aad) aad (aaO _)) (akh (aaI (aby (hu8 hr)) s_eq (aaD (aac 9) aad) (aaD (aac 9) aad) (aaO _))))))) (aai (aaB apA)) aaP)
   (aag (aa9 (PWp.pt (ahU (aaI af5 s_lt (aaD (aac 9) aad) aad (aaO _)) (akh (aaI af4 s_gt (aaD (aac 9) aad) (aaD (aac 9) aad) (aaO _))))) (aai (aar (i:=10) nd rfl (Or.inl rfl) aad)) aaP)
   (aai (aaB (anQ (ais (aby (hu8 hr)) s_eq (aac 13) (aac 10) (aaO _)) (aoq (ais (aby (hu8 hr)) s_eq (agc G_count_at (hr.mono (by decide)) rfl n_count_at k_count_at acW .nil Dv.nil (aaa (aac 12) (aaa (aac 11) aae))) (aac 10) (aaO _)))))))))))))))))))))))
end
def EC:=And.intro @aaV.eq_1 (And.intro @sSeq.eq_1 (And.intro @sIf.eq_1 (And.intro @mTst.eq_1 (And.intro @mNot.eq_1 (And.intro @mAnd.eq_1 (And.intro @mOr.eq_1 (And.intro @abK.eq_1 (And.intro @mOrV.eq_1 (And.intro @mIf.eq_1 (And.intro @mBin.eq_1 (And.intro @mUn.eq_1 (And.intro @mR.eq_1 (And.intro @mN.eq_1 (And.intro @aab.eq_1 (And.intro @mVar.eq_1 (And.intro @mC.eq_1 (And.intro @mNil.eq_1 (And.intro @Res.bind.eq_1 (And.intro @Res.bind.eq_2 (And.intro @Res.bind.eq_3 (And.intro @abL.eq_1 (And.intro @abo.eq_1 (And.intro @abA.eq_1 (And.intro @abV.eq_1 (And.intro @abb.eq_1 (And.intro @abb.eq_2 (And.intro @rd.eq_1 (And.intro @rd.eq_2 (And.intro @abw.eq_1 (And.intro @abw.eq_2 (And.intro @abw.eq_3 (And.intro @okO.eq_1 (And.intro @okO.eq_2 (And.intro @fLen.eq_1 (And.intro @fLen.eq_2 (And.intro @fLen.eq_3 (And.intro @fTup.eq_1 (And.intro @fLst.eq_1 (And.intro @fNeg.eq_1 (And.intro @fNeg.eq_2 (And.intro @fNot.eq_1 (And.intro @fNot.eq_2 (And.intro @tst.eq_1 (And.intro @tst.eq_2 (And.intro @SRes.of.eq_1 (And.intro @SRes.of.eq_2 (And.intro @SRes.of.eq_3 (And.intro @sRet.eq_1 (And.intro @ab2.eq_1 (And.intro @sNil.eq_1 (And.intro @aaW.eq_1 (And.intro @sSet.eq_1 (And.intro @aaR.eq_1 (And.intro @aaR.eq_2 (And.intro @aaR.eq_3 (And.intro @aaR.eq_4 (And.intro @abC.eq_1 (And.intro @abC.eq_2 (And.intro @aah.eq_1 (And.intro @abj.eq_1 (@aa4.eq_1)))))))))))))))))))))))))))))))))))))))))))))))))))))))))))))
theorem ak8 (S:Sto) (k:Nat) (o:SO):(S.set k o).take S.length=S.set k o:=List.take_of_length_le (by simp)
def Row (S:Sto) (k:Nat) (ns:List Int):Prop:=S[k]?=some (.lst (ns.map .int))
theorem Row.lt {S:Sto} {k:Nat} {ns:List Int} (h:Row S k ns):k < S.length:=(List.getElem?_eq_some_iff.mp h).1
theorem Row.set {S:Sto} {k:Nat} {ns:List Int} (h:Row S k ns) (ms:List Int):Row (S.set k (.lst (ms.map .int))) k ms:=List.getElem?_set_self h.lt
theorem afx {r:Rho} {k:Nat} {m:AV}:∀ (ns:List Int) (S:Sto),Row S k ns→∃ n ns',aba (mAnd (mTst (mBin fGt (mR fLen (aab (mVar 0) mNil)) (mC (.int 0)))) (mTst (mBin fEq (mBin fIx (mVar 0) (mC (.int 0))) (mC (.int 0))))) (aaW (mPop (mVar 0) (aab (mC (.int 0)) mNil))) n (some (.ref k) :: some m :: r) S=.nx (some (.ref k) :: some m :: r) (S.set k (.lst (ns'.map .int)))∧ns'.length≤ns.length∧(ns'=[]∨∃ i t,ns'=i :: t∧i≠0)
 | [],S,h=>by
  refine ⟨1,[],?_,Nat.le_refl _,.inl rfl⟩
  have h':S[k]?=some (.lst []):=h
  have e:S.set k (.lst (([]:List Int).map .int))=S:=List.ext_getElem? fun i=>by
   by_cases q:k=i
   ·subst q; rw [List.getElem?_set_self h.lt,h']; rfl
   ·rw [List.getElem?_set_ne q]
  rw [e]
  simp [aba,mAnd,mTst,mBin,mR,aab,mVar,mC,mNil,Res.bind,abA,abb,rd,h',okO,fLen,abo,fGt,i2,tst,SRes.of]
 | i :: t,S,h=>by
  have h':S[k]?=some (.lst (.int i :: t.map .int)):=h
  by_cases hi:i=0
  ·subst hi
   have hr:Row (S.set k (.lst (t.map .int))) k t:=h.set t
   obtain ⟨n,ns',e,l,q⟩:=afx (r:=r) (m:=m) t _ hr
   refine ⟨n+1,ns',?_,by simp; omega,q⟩
   rw [List.set_set] at e
   rw [← e]
   have hl:(0:Int) < (t.length:Int)+1:=by omega
   simp [aba,mAnd,mTst,mBin,mR,aab,mVar,mC,mNil,Res.bind,abA,abb,rd,h',okO,fLen,abo,fGt,i2,tst,SRes.of,fIx,atI,ixN,fEq,eqN,aaW,mPop,acZ,ams,seqIndex?,hl]
  ·refine ⟨1,i :: t,?_,Nat.le_refl _,.inr ⟨i,t,rfl,hi⟩⟩
   have e:S.set k (.lst ((i :: t).map .int))=S:=List.ext_getElem? fun j=>by
    by_cases q:k=j
    ·subst q; rw [List.getElem?_set_self h.lt,h']; rfl
    ·rw [List.getElem?_set_ne q]
   rw [e]
   have hl:(0:Int) < (t.length:Int)+1:=by omega
   simp [aba,mAnd,mTst,mBin,mR,aab,mVar,mC,mNil,Res.bind,abA,abb,rd,h',okO,fLen,abo,fGt,i2,tst,SRes.of,fIx,atI,ixN,fEq,eqN,hl,hi]
theorem abc {S:Sto} {k:Nat} {ns:List Int} {m:Int} (h:Row S k ns) (hm:0 < m) (b:Bd 8000 m):∃ (v:Int) (ns':List Int),aaq [.ref k,.pv (.int m)] S=.ok (.pv (.int v)) (S.set k (.lst (ns'.map .int)))∧0≤v∧v < m∧ns'.length≤ns.length:=by
 obtain ⟨n,ns',e,l,q⟩:=afx (r:=[none]) (m:=.pv (.int m)) ns S h
 have hr:=h.set ns'
 have hl1:(S.set k (.lst (ns'.map .int))).length=S.length:=by simp
 have hss:∀ x,(S.set k (.lst (ns'.map .int))).set k x=S.set k x:=fun x=>List.set_set ..
 generalize hS1:S.set k (.lst (ns'.map .int))=S1 at e hr hl1 hss
 have w:=aeQ e (by simp)
 rcases q with rfl | ⟨i,t,rfl,hi⟩
 ·refine ⟨0,[],?_,Int.le_refl 0,hm,Nat.zero_le _⟩
  rw [hS1]
  have hr':S1[k]?=some (.lst []):=hr
  have tk:List.take S.length S1=S1:=List.take_of_length_le (by omega)
  unfold aaq fnM af3
  simp [aaV,sSeq,w,sIf,mTst,mBin,mR,aab,mVar,mC,mNil,Res.bind,abA,abb,rd,hr',okO,fLen,abo,fEq,eqN,tst,SRes.of,sRet,aaR,abC,tk]
 ·have hr':S1[k]?=some (.lst (.int i :: t.map .int)):=hr
  refine ⟨i.fmod m,i.fdiv m :: t,?_,Int.fmod_nonneg_of_pos i hm,Int.fmod_lt_of_pos i hm,l⟩
  rw [← hss]
  have tk:∀ x,List.take S.length (S1.set k x)=S1.set k x:=fun x=>List.take_of_length_le (by simp; omega)
  have hl:¬ ((t.length:Int)+1=0):=by omega
  have hq:aiQ i m:=⟨by omega,b⟩
  have hm0:m≠0:=by omega
  unfold aaq fnM af3
  simp [aaV,sSeq,w,sIf,mTst,mBin,mR,aab,mVar,mC,mNil,Res.bind,abA,abb,rd,hr',okO,fLen,abo,fEq,eqN,tst,SRes.of,sRet,aaR,abC,tk,sNil,hl,sSet,fMod,adg,i2,cI,fIx,atI,ixN,hm0,hq,acr,acZ,af0]
theorem aam (i j:Int):fGt (.int i) (.int j)=some (.bl (decide (j < i))):=rfl
theorem aao (i j:Int):fLt (.int i) (.int j)=some (.bl (decide (i < j))):=rfl
theorem aap (i j:Int):fGe (.int i) (.int j)=some (.bl (decide (j≤i))):=rfl
theorem aan (i j:Int):fLe (.int i) (.int j)=some (.bl (decide (i≤j))):=rfl
theorem aaj (i j:Int):fSub (.int i) (.int j)=some (.int (i - j)):=rfl
theorem acM {i j:Int} (h:aiK i j):fMul (.int i) (.int j)=some (.int (i*j)):=by
 simp [fMul,i2,cI,h]
theorem acJ {i j:Int} (h:aiQ i j):adg (.int i) (.int j)=some (.int (i.fdiv j)):=by
 simp [adg,i2,cI,h]
theorem adi {i j:Int} (h:j≠0):fMod (.int i) (.int j)=some (.int (i.fmod j)):=by
 simp [fMod,i2,cI,h]
theorem agr {i j:Int} (h:CPow i j):fPow (.int i) (.int j)=some (.int (i ^ j.toNat)):=by
 simp [fPow,i2,cI,h]
theorem ahP (n:Int) (S:Sto):ad9 [.pv (.int n)] S=.ok (.pv (.int (sg n))) S:=by
 unfold ad9 fnM aka sg
 by_cases h1:0 < n
 ·simp [aaV,sSeq,sIf,mTst,mBin,mVar,mC,Res.bind,abo,rd,okO,fGt,i2,tst,SRes.of,sRet,aaR,abC,h1]
 ·by_cases h2:n < 0
  ·simp [aaV,sSeq,sIf,mTst,mBin,mVar,mC,Res.bind,abo,rd,okO,fGt,fLt,i2,tst,SRes.of,sRet,aaR,abC,h1,h2,sNil,mUn,abL,fNeg]
  ·simp [aaV,sSeq,sIf,mTst,mBin,mVar,mC,Res.bind,abo,rd,okO,fGt,fLt,i2,tst,SRes.of,sRet,aaR,abC,h1,h2,sNil,mUn,abL,fNeg]
theorem adZ (S:Sto):∀ (m:Nat) (a b:Int) (x:Option AV),b.natAbs≤m→∃ (n:Nat) (g:Int) (x':Option AV),aba (mTst (mBin fNe (mVar 1) (mC (.int 0)))) (sSeq (sSet 2 (mBin fMod (mVar 0) (mVar 1))) (sSeq (sSet 0 (mVar 1)) (sSet 1 (mVar 2)))) n [some (.pv (.int a)),some (.pv (.int b)),x] S=.nx [some (.pv (.int g)),some (.pv (.int 0)),x'] S∧g.natAbs=Int.gcd a b
 | 0,a,b,x,h=>by
  have hb:b=0:=by omega
  subst hb
  refine ⟨1,a,x,?_,by simp⟩
  simp [aba,aaV,sSeq,sIf,mTst,mNot,mAnd,mOr,abK,mOrV,mIf,mBin,mUn,mR,mN,aab,mVar,mC,mNil,Res.bind,abL,abo,abA,abV,abb,rd,abw,okO,fLen,fAbs,aal,aak,fTup,fLst,fIx,atI,ixN,fEq,fNe,eqN,aam,aao,aap,aan,fAdd,aaj,fNeg,fNot,tst,SRes.of,sRet,ab2,sNil,aaW,sSet,aaR,abC,aah,abj,aa4,frz,aau]
 | m+1,a,b,x,h=>by
  by_cases hb:b=0
  ·subst hb
   refine ⟨1,a,x,?_,by simp⟩
   simp [aba,aaV,sSeq,sIf,mTst,mNot,mAnd,mOr,abK,mOrV,mIf,mBin,mUn,mR,mN,aab,mVar,mC,mNil,Res.bind,abL,abo,abA,abV,abb,rd,abw,okO,fLen,fAbs,aal,aak,fTup,fLst,fIx,atI,ixN,fEq,fNe,eqN,aam,aao,aap,aan,fAdd,aaj,fNeg,fNot,tst,SRes.of,sRet,ab2,sNil,aaW,sSet,aaR,abC,aah,abj,aa4,frz,aau]
  ·have hl:=agE a hb
   obtain ⟨n,g,x',e,q⟩:=adZ S m b (a.fmod b) (some (.pv (.int (a.fmod b)))) (by omega)
   refine ⟨n+1,g,x',?_,by rw [q,ah4]⟩
   rw [← e]
   simp [aba,aaV,sSeq,sIf,mTst,mNot,mAnd,mOr,abK,mOrV,mIf,mBin,mUn,mR,mN,aab,mVar,mC,mNil,Res.bind,abL,abo,abA,abV,abb,rd,abw,okO,fLen,fAbs,aal,aak,fTup,fLst,fIx,atI,ixN,fEq,fNe,eqN,aam,aao,aap,aan,fAdd,aaj,fNeg,fNot,tst,SRes.of,sRet,ab2,sNil,aaW,sSet,aaR,abC,aah,abj,aa4,frz,aau,adi hb,hb]
theorem ai4 (a b:Int) (S:Sto):acz [.pv (.int a),.pv (.int b)] S=.ok (.pv (.int (Int.gcd a b:Nat))) S:=by
 obtain ⟨n,g,x',e,q⟩:=adZ S b.natAbs a b none (Nat.le_refl _)
 have w:=aeQ e (by simp)
 unfold acz fnM aeR
 have hg:(if g < 0 then -g else g)=((Int.gcd a b:Nat):Int):=by rw [← q]; exact aj1 g
 simp [aaV,sSeq,sIf,mTst,mNot,mAnd,mOr,abK,mOrV,mIf,mBin,mUn,mR,mN,aab,mVar,mC,mNil,Res.bind,abL,abo,abA,abV,abb,rd,abw,okO,fLen,fAbs,aal,aak,fTup,fLst,fIx,atI,ixN,fEq,fNe,eqN,aam,aao,aap,aan,fAdd,aaj,fNeg,fNot,tst,SRes.of,sRet,ab2,sNil,aaW,sSet,aaR,abC,aah,abj,aa4,frz,aau,w,hg]
theorem agx (S:Sto):∀ (m:Nat) (a b:Int),0≤a→0≤b→b.natAbs≤m→∃ (n:Nat),aba (mTst (mBin fGt (mVar 1) (mC (.int 0)))) (sPar 0 1 (aab (mVar 1) (aab (mBin fMod (mVar 0) (mVar 1)) mNil))) n [some (.pv (.int a)),some (.pv (.int b))] S=.nx [some (.pv (.int (Int.gcd a b:Nat))),some (.pv (.int 0))] S
 | 0,a,b,ha,hb,h=>by
  have hb:b=0:=by omega
  subst hb
  have ea:((Int.gcd a 0:Nat):Int)=a:=by simp; omega
  refine ⟨1,?_⟩
  rw [ea]
  simp [aba,aaV,sSeq,sIf,mTst,mNot,mAnd,mOr,abK,mOrV,mIf,mBin,mUn,mR,mN,aab,mVar,mC,mNil,Res.bind,abL,abo,abA,abV,abb,rd,abw,okO,fLen,fAbs,aal,aak,fTup,fLst,fIx,atI,ixN,fEq,fNe,eqN,aam,aao,aap,aan,fAdd,aaj,fNeg,fNot,tst,SRes.of,sRet,ab2,sNil,aaW,sSet,aaR,abC,aah,abj,aa4,frz,aau]
 | m+1,a,b,ha,hb,h=>by
  by_cases h0:b=0
  ·subst h0
   have ea:((Int.gcd a 0:Nat):Int)=a:=by simp; omega
   refine ⟨1,?_⟩
   rw [ea]
   simp [aba,aaV,sSeq,sIf,mTst,mNot,mAnd,mOr,abK,mOrV,mIf,mBin,mUn,mR,mN,aab,mVar,mC,mNil,Res.bind,abL,abo,abA,abV,abb,rd,abw,okO,fLen,fAbs,aal,aak,fTup,fLst,fIx,atI,ixN,fEq,fNe,eqN,aam,aao,aap,aan,fAdd,aaj,fNeg,fNot,tst,SRes.of,sRet,ab2,sNil,aaW,sSet,aaR,abC,aah,abj,aa4,frz,aau]
  ·have hl:=agE a h0
   have hp:0 < b:=by omega
   obtain ⟨n,e⟩:=agx S m b (a.fmod b) hb (Int.fmod_nonneg_of_pos a hp) (by omega)
   refine ⟨n+1,?_⟩
   rw [← ah4,← e]
   simp [aba,aaV,sSeq,sIf,mTst,mNot,mAnd,mOr,abK,mOrV,mIf,mBin,mUn,mR,mN,aab,mVar,mC,mNil,Res.bind,abL,abo,abA,abV,abb,rd,abw,okO,fLen,fAbs,aal,aak,fTup,fLst,fIx,atI,ixN,fEq,fNe,eqN,aam,aao,aap,aan,fAdd,aaj,fNeg,fNot,tst,SRes.of,sRet,ab2,sNil,aaW,sSet,aaR,abC,aah,abj,aa4,frz,aau,adi h0,hp,sPar]
theorem aov (a b:Int) (S:Sto):afm [.pv (.int a),.pv (.int b)] S=.ok (.pv (.int (Int.gcd a b:Nat))) S:=by
 have ha:0≤(if a < 0 then -a else a):=by split <;> omega
 have hb:0≤(if b < 0 then -b else b):=by split <;> omega
 obtain ⟨n,e⟩:=agx S _ _ _ ha hb (Nat.le_refl _)
 have w:=aeQ e (by simp)
 have eg:Int.gcd (if a < 0 then -a else a) (if b < 0 then -b else b)=Int.gcd a b:=by
  rw [aj1,aj1]
  simp [Int.gcd]
 rw [eg] at w
 unfold afm fnM ajA
 simp [aaV,sSeq,sIf,mTst,mNot,mAnd,mOr,abK,mOrV,mIf,mBin,mUn,mR,mN,aab,mVar,mC,mNil,Res.bind,abL,abo,abA,abV,abb,rd,abw,okO,fLen,fAbs,aal,aak,fTup,fLst,fIx,atI,ixN,fEq,fNe,eqN,aam,aao,aap,aan,fAdd,aaj,fNeg,fNot,tst,SRes.of,sRet,ab2,sNil,aaW,sSet,aaR,abC,aah,abj,aa4,frz,aau,w]
theorem af9 (S:Sto) (v2:Option AV):∀ (ns:List Int) (g:Int) (a:AV),∃ v',abQ [] (gN 2) (sSet 1 (aah afm [] (aab (mVar 1) (aab (mVar 2) mNil)))) (ns.map .int) [some a,some (.pv (.int g)),v2] S=.nx [some a,some (.pv (.int (gl ns g))),v'] S
 | [],g,a=>⟨v2,abf⟩
 | n :: ns,g,a=>by
  obtain ⟨v',e⟩:=af9 S (some (.pv (.int n))) ns (Int.gcd g n:Nat) a
  refine ⟨v',?_⟩
  show abQ [] _ _ (.int n :: ns.map .int) _ S=_
  rw [aaM]
  simp [gN,aaV,sSeq,sIf,mTst,mNot,mAnd,mOr,abK,mOrV,mIf,mBin,mUn,mR,mN,aab,mVar,mC,mNil,Res.bind,abL,abo,abA,abV,abb,rd,abw,okO,fLen,fAbs,aal,aak,fTup,fLst,fIx,atI,ixN,fEq,fNe,eqN,aam,aao,aap,aan,fAdd,aaj,fNeg,fNot,tst,SRes.of,sRet,ab2,sNil,aaW,sSet,aaR,abC,aah,abj,aa4,frz,aau,aov]
  exact e
theorem aeJ (S:Sto) (g:Int) (hg:g≠0) (b:Bd 8000 g):∀ (ns:List Int) (x:Option AV),aa5 [] (gN 0) (mBin adg (mVar 0) (mVar 1)) (ns.map .int) [x,some (.pv (.int g))] S=.ok ((ns.map fun n=>n.fdiv g).map .int) S
 | [],x=>aay
 | n :: ns,x=>by
  have ih:=aeJ S g hg b ns (some (.pv (.int n)))
  show aa5 [] _ _ (.int n :: ns.map .int) _ S=_
  rw [aav]
  simp [gN,aaV,sSeq,sIf,mTst,mNot,mAnd,mOr,abK,mOrV,mIf,mBin,mUn,mR,mN,aab,mVar,mC,mNil,Res.bind,abL,abo,abA,abV,abb,rd,abw,okO,fLen,fAbs,aal,aak,fTup,fLst,fIx,atI,ixN,fEq,fNe,eqN,aam,aao,aap,aan,fAdd,aaj,fNeg,fNot,tst,SRes.of,sRet,ab2,sNil,aaW,sSet,aaR,abC,aah,abj,aa4,frz,aau,acJ (show aiQ n g from ⟨hg,b⟩),ih]
theorem ab7 (ns:List Int) (S:Sto) (hb:∀ n∈ns,Bd 8000 n):aaF [.pv (.lst (ns.map .int))] S=.ok (.pv (.tup ((low ns).map .int))) S:=by
 obtain ⟨v',e⟩:=af9 S none ns 0 (.pv (.lst (ns.map .int)))
 unfold aaF fnM aea
 by_cases h:gl ns 0=0
 ·have el:low ns=ns:=by unfold low; rw [if_pos h]
  simp [aaV,sSeq,sIf,mTst,mNot,mAnd,mOr,abK,mOrV,mIf,mBin,mUn,mR,mN,aab,mVar,mC,mNil,Res.bind,abL,abo,abA,abV,abb,rd,abw,okO,fLen,fAbs,aal,aak,fTup,fLst,fIx,atI,ixN,fEq,fNe,eqN,aam,aao,aap,aan,fAdd,aaj,fNeg,fNot,tst,SRes.of,sRet,ab2,sNil,aaW,sSet,aaR,abC,aah,abj,aa4,frz,aau,sFor,mIt,aa6,e,h,el]
 ·have el:low ns=ns.map fun n=>n.fdiv (gl ns 0):=by
   unfold low
   rw [if_neg h]
   exact List.map_congr_left fun n hn=>(Int.fdiv_eq_ediv_of_dvd ((adF ns 0).2 n hn)).symm
  have bg:Bd 8000 (gl ns 0):=als (Bd.of (n:=0) (by simp) (Nat.two_pow_pos 8000)) hb
  have ec:=aeJ S (gl ns 0) h bg ns none
  simp [aaV,sSeq,sIf,mTst,mNot,mAnd,mOr,abK,mOrV,mIf,mBin,mUn,mR,mN,aab,mVar,mC,mNil,Res.bind,abL,abo,abA,abV,abb,rd,abw,okO,fLen,fAbs,aal,aak,fTup,fLst,fIx,atI,ixN,fEq,fNe,eqN,aam,aao,aap,aan,fAdd,aaj,fNeg,fNot,tst,SRes.of,sRet,ab2,sNil,aaW,sSet,aaR,abC,aah,abj,aa4,frz,aau,sFor,mIt,aa6,e,h,el,aaC,cmpR,ec]
theorem agj (i:Int) {j:Int} (h1:-(2 ^ 64) < j) (h2:j < 2 ^ 64):fMul (.int i) (.int j)=some (.int (i*j)):=acM (.inl (.inr ⟨h1,h2⟩))
theorem p18:fPow (.int 10) (.int 18)=some (.int 1000000000000000000):=agr (i:=10) (j:=18) ⟨by decide,by decide,by decide⟩
theorem agm {k:Nat} {a:AV}:∀ (cs:List Int) (n:Nat) (acc:List Int) (S:Sto) (v2 v3 v4 v5 v6:Option AV),Row S k acc→acc.length+cs.length≤63→n+cs.length≤63→∃ (acc':List Int) (w2 w3 w4 w5 w6:Option AV),abQ [] (gT 2 (aa2 (gN 2) (aa2 (gN 3) acA))) ((sIf (mTst (mBin fGe (mVar 3) (mBin fPow (mC (.int 10)) (mC (.int 18))))) (aaW (mApp (mVar 1) (aab (mBin fSub (mVar 3) (mBin fPow (mC (.int 10)) (mC (.int 18)))) mNil))) (sSeq (sSet 4 (mBin fMod (mBin fMul (mBin fAdd (mBin fAdd (mBin fAdd (mVar 3) (mBin fMul (mBin fMul (mC (.int 7)) (mVar 2)) (mVar 2))) (mBin fMul (mC (.int 13)) (mVar 2))) (mC (.int 5))) (mC (.int 48271))) (mC (.int 2147483647))))
 (sSeq (sSet 5 (mBin fMod (mBin fMul (mBin fAdd (mBin fAdd (mBin fAdd (mVar 3) (mBin fMul (mBin fMul (mC (.int 11)) (mVar 2)) (mVar 2))) (mBin fMul (mC (.int 17)) (mVar 2))) (mC (.int 3))) (mC (.int 40692))) (mC (.int 2147483399))))
 (sSeq (sSet 6 (mBin fMod (mBin fMul (mBin fAdd (mBin fAdd (mBin fAdd (mVar 3) (mBin fMul (mBin fMul (mC (.int 5)) (mVar 2)) (mVar 2))) (mBin fMul (mC (.int 29)) (mVar 2))) (mC (.int 8))) (mC (.int 39373))) (mC (.int 2147483587))))
 (sSeq (sSet 4 (mBin fMod (mBin fMul (mVar 4) (mC (.int 52021))) (mC (.int 1000000007))))
 (sSeq (sSet 5 (mBin fMod (mBin fMul (mVar 5) (mC (.int 30011))) (mC (.int 998244353))))
 (sSeq (sSet 6 (mBin fMod (mBin fMul (mVar 6) (mC (.int 45989))) (mC (.int 1000000009))))
 (aaW (mApp (mVar 1) (aab (mBin fAdd (mBin fMul (mBin fAdd (mBin fMul (mVar 4) (mC (.int 998244353))) (mVar 5)) (mC (.int 1000000009))) (mVar 6)) mNil))))))))))) (ad5 n (cs.map .int)) [some a,some (.ref k),v2,v3,v4,v5,v6] S=.nx [some a,some (.ref k),w2,w3,w4,w5,w6] (S.set k (.lst (acc'.map .int)))∧acc'.length≤63
 | [],n,acc,S,v2,v3,v4,v5,v6,h,hl,_=>by
  refine ⟨acc,v2,v3,v4,v5,v6,?_,by simpa using hl⟩
  have e:S.set k (.lst (acc.map .int))=S:=List.ext_getElem? fun j=>by
   by_cases q:k=j
   ·subst q; rw [List.getElem?_set_self h.lt]; exact h.symm
   ·rw [List.getElem?_set_ne q]
  rw [e]
  exact abf
 | x :: cs,n,acc,S,v2,v3,v4,v5,v6,h,hl,hn=>by
  simp only [List.length_cons] at hl hn
  have h':S[k]?=some (.lst (acc.map .int)):=h
  have hlen:acc.length < 16777216:=by omega
  have hk1:-(2 ^ 64) < (n:Int):=by omega
  have hk2:(n:Int) < 2 ^ 64:=by omega
  by_cases c:(1000000000000000000:Int)≤x
  ·obtain ⟨acc',w2,w3,w4,w5,w6,e,q⟩:=agm (k:=k) (a:=a) cs (n+1) (acc++[x - 1000000000000000000]) (S.set k (.lst ((acc++[x - 1000000000000000000]).map .int))) (some (.pv (.int n))) (some (.pv (.int x))) v4 v5 v6 (h.set _) (by simp; omega) (by omega)
   refine ⟨acc',w2,w3,w4,w5,w6,?_,q⟩
   rw [List.set_set] at e
   rw [← e]
   show abQ [] _ _ (.tup [.int n,.int x] :: ad5 (n+1) (cs.map .int)) _ S=_
   rw [aaM]
   simp [gT,aa2,acA,gN,aaV,sSeq,sIf,mTst,mNot,mAnd,mOr,abK,mOrV,mIf,mBin,mUn,mR,mN,aab,mVar,mC,mNil,Res.bind,abL,abo,abA,abV,abb,rd,abw,okO,fLen,fAbs,aal,aak,fTup,fLst,fIx,atI,ixN,fEq,fNe,eqN,aam,aao,aap,aan,fAdd,aaj,fNeg,fNot,tst,SRes.of,sRet,ab2,sNil,aaW,sSet,aaR,abC,aah,abj,aa4,frz,aau,p18,c,mApp,acZ,aeV,h',hlen]
  ·obtain ⟨acc',w2,w3,w4,w5,w6,e,q⟩:=agm (k:=k) (a:=a) cs (n+1) (acc++[((((x+7*n*n+13*n+5)*48271).fmod 2147483647*52021).fmod 1000000007*998244353+(((x+11*n*n+17*n+3)*40692).fmod 2147483399*30011).fmod 998244353)*1000000009+(((x+5*n*n+29*n+8)*39373).fmod 2147483587*45989).fmod 1000000009]) (S.set k (.lst ((acc++[((((x+7*n*n+13*n+5)*48271).fmod 2147483647*52021).fmod 1000000007*998244353+(((x+11*n*n+17*n+3)*40692).fmod 2147483399*30011).fmod 998244353)*1000000009+(((x+5*n*n+29*n+8)*39373).fmod 2147483587*45989).fmod 1000000009]).map .int))) (some (.pv (.int n))) (some (.pv (.int x))) (some (.pv (.int ((((x+7*n*n+13*n+5)*48271).fmod 2147483647*52021).fmod 1000000007)))) (some (.pv (.int ((((x+11*n*n+17*n+3)*40692).fmod 2147483399*30011).fmod 998244353)))) (some (.pv (.int ((((x+5*n*n+29*n+8)*39373).fmod 2147483587*45989).fmod 1000000009)))) (h.set _) (by simp; omega) (by omega)
   refine ⟨acc',w2,w3,w4,w5,w6,?_,q⟩
   rw [List.set_set] at e
   rw [← e]
   show abQ [] _ _ (.tup [.int n,.int x] :: ad5 (n+1) (cs.map .int)) _ S=_
   rw [aaM]
   simp [gT,aa2,acA,gN,aaV,sSeq,sIf,mTst,mNot,mAnd,mOr,abK,mOrV,mIf,mBin,mUn,mR,mN,aab,mVar,mC,mNil,Res.bind,abL,abo,abA,abV,abb,rd,abw,okO,fLen,fAbs,aal,aak,fTup,fLst,fIx,atI,ixN,fEq,fNe,eqN,aam,aao,aap,aan,fAdd,aaj,fNeg,fNot,tst,SRes.of,sRet,ab2,sNil,aaW,sSet,aaR,abC,aah,abj,aa4,frz,aau,p18,c,mApp,acZ,aeV,h',hlen,agj _ hk1 hk2,agj _ (show -(2 ^ 64) < (48271:Int) by decide) (by decide),agj _ (show -(2 ^ 64) < (40692:Int) by decide) (by decide),agj _ (show -(2 ^ 64) < (39373:Int) by decide) (by decide),agj _ (show -(2 ^ 64) < (52021:Int) by decide) (by decide),agj _ (show -(2 ^ 64) < (30011:Int) by decide) (by decide),agj _ (show -(2 ^ 64) < (45989:Int) by decide) (by decide),agj _ (show -(2 ^ 64) < (998244353:Int) by decide) (by decide),agj _ (show -(2 ^ 64) < (1000000009:Int) by decide) (by decide),
    adi (show (2147483647:Int)≠0 by decide),adi (show (2147483399:Int)≠0 by decide),adi (show (2147483587:Int)≠0 by decide),adi (show (1000000007:Int)≠0 by decide),adi (show (998244353:Int)≠0 by decide),adi (show (1000000009:Int)≠0 by decide)]
theorem aoo (ns:List Int) (S:Sto) (h:ns.length≤63):∃ ms:List Int,aeB [.pv (.lst (ns.map .int))] S=.ok (.ref S.length) (S++[.lst (ms.map .int)])∧ms.length≤63:=by
 have hr:Row (S++[.lst []]) S.length []:=by unfold Row; simp
 obtain ⟨ms,w2,w3,w4,w5,w6,e,q⟩:=agm (a:=.pv (.lst (ns.map .int))) ns 0 [] (S++[.lst []]) none none none none none hr (by simpa using h) (by simpa using h)
 have ec:cutP (ns.map .int) none (some 63)=ns.map .int:=by
  unfold cutP
  have e1:HT.sIx (ns.map PV.int).length 0 none=0:=rfl
  have e2:HT.sIx (ns.map PV.int).length (ns.map PV.int).length (some 63)=(ns.map PV.int).length:=by
   have:=HT.sIx_nat (ns.map PV.int).length (ns.map PV.int).length 63
   rw [show ((63:Nat):Int)=63 from rfl] at this
   rw [this,List.length_map]
   omega
  rw [e1,e2,List.drop_zero,Nat.sub_zero,List.take_length]
 refine ⟨ms,?_,q⟩
 have es:(S++[SO.lst []]).set S.length (.lst (ms.map .int))=S++[.lst (ms.map .int)]:=by simp
 rw [es] at e
 unfold aeB fnM ajH
 simp [aaV,sSeq,sIf,mTst,mNot,mAnd,mOr,abK,mOrV,mIf,mBin,mUn,mR,mN,aab,mVar,mC,mNil,Res.bind,abL,abo,abA,abV,abb,rd,abw,okO,fLen,fAbs,aal,aak,fTup,fLst,fIx,atI,ixN,fEq,fNe,eqN,aam,aao,aap,aan,fAdd,aaj,fNeg,fNot,tst,SRes.of,sRet,ab2,sNil,aaW,sSet,aaR,abC,aah,abj,aa4,frz,aau,sFor,mNew,afo,anm,mSl,mO0,mO1,abk,fSl,akr,ec,e]
def PT (L:List Int) (b:Int):List Int:=(low (L++[b])).map (sg b*·)
theorem gl_b {L:List Int} {b:Int} (hb:b≠0):gl (L++[b]) 0≠0:=alJ (ab4 L b) hb
theorem anJ {L:List Int} {b:Int} (hb:0 < b):PT L b=low (L++[b]):=by
 unfold PT sg
 rw [if_pos hb]
 conv=>rhs; rw [← List.map_id (low (L++[b]))]
 exact List.map_congr_left fun n _=>Int.one_mul n
theorem aig (S:Sto) (v2:Option AV):∀ (ns:List Int) (g:Int) (a:AV),∃ v',abQ [] (gN 2) (sSet 1 (aah acz [] (aab (mVar 1) (aab (mVar 2) mNil)))) (ns.map .int) [some a,some (.pv (.int g)),v2] S=.nx [some a,some (.pv (.int (gl ns g))),v'] S
 | [],g,a=>⟨v2,abf⟩
 | n :: ns,g,a=>by
  obtain ⟨v',e⟩:=aig S (some (.pv (.int n))) ns (Int.gcd g n:Nat) a
  refine ⟨v',?_⟩
  show abQ [] _ _ (.int n :: ns.map .int) _ S=_
  rw [aaM]
  simp [gN,aaV,sSeq,sIf,mTst,mNot,mAnd,mOr,abK,mOrV,mIf,mBin,mUn,mR,mN,aab,mVar,mC,mNil,Res.bind,abL,abo,abA,abV,abb,rd,abw,okO,fLen,fAbs,aal,aak,fTup,fLst,fIx,atI,ixN,fEq,fNe,eqN,aam,aao,aap,aan,fAdd,aaj,fNeg,fNot,tst,SRes.of,sRet,ab2,sNil,aaW,sSet,aaR,abC,aah,abj,aa4,frz,aau,ai4]
  exact e
theorem aiL (ns:List Int) (S:Sto) (hb:∀ n∈ns,Bd 8000 n) (h:gl ns 0≠0):acY [.pv (.lst (ns.map .int))] S=.ok (.pv (.lst ((low ns).map .int))) S:=by
 obtain ⟨v',e⟩:=aig S none ns 0 (.pv (.lst (ns.map .int)))
 have el:low ns=ns.map fun n=>n.fdiv (gl ns 0):=by
  unfold low
  rw [if_neg h]
  exact List.map_congr_left fun n hn=>(Int.fdiv_eq_ediv_of_dvd ((adF ns 0).2 n hn)).symm
 have bg:Bd 8000 (gl ns 0):=als (Bd.of (n:=0) (by simp) (Nat.two_pow_pos 8000)) hb
 have ec:=aeJ S (gl ns 0) h bg ns none
 unfold acY fnM ae0
 simp [aaV,sSeq,sIf,mTst,mNot,mAnd,mOr,abK,mOrV,mIf,mBin,mUn,mR,mN,aab,mVar,mC,mNil,Res.bind,abL,abo,abA,abV,abb,rd,abw,okO,fLen,fAbs,aal,aak,fTup,fLst,fIx,atI,ixN,fEq,fNe,eqN,aam,aao,aap,aan,fAdd,aaj,fNeg,fNot,tst,SRes.of,sRet,ab2,sNil,aaW,sSet,aaR,abC,aah,abj,aa4,frz,aau,sFor,mIt,aa6,e,h,el,aaC,cmpR,ec]
theorem aiu (S:Sto) (b:Int):∀ (ns:List Int) (x:Option AV),aa5 [] (gN 0) (mBin fMul (aah ad9 [] (aab (mVar 1) mNil)) (mVar 0)) (ns.map .int) [x,some (.pv (.int b))] S=.ok ((ns.map (sg b*·)).map .int) S
 | [],x=>aay
 | n :: ns,x=>by
  have ih:=aiu S b ns (some (.pv (.int n)))
  have hm:fMul (.int (sg b)) (.int n)=some (.int (sg b*n)):=acM (.inl (.inl (aln b)))
  show aa5 [] _ _ (.int n :: ns.map .int) _ S=_
  rw [aav]
  simp [gN,aaV,sSeq,sIf,mTst,mNot,mAnd,mOr,abK,mOrV,mIf,mBin,mUn,mR,mN,aab,mVar,mC,mNil,Res.bind,abL,abo,abA,abV,abb,rd,abw,okO,fLen,fAbs,aal,aak,fTup,fLst,fIx,atI,ixN,fEq,fNe,eqN,aam,aao,aap,aan,fAdd,aaj,fNeg,fNot,tst,SRes.of,sRet,ab2,sNil,aaW,sSet,aaR,abC,aah,abj,aa4,frz,aau,ahP,hm,ih]
theorem alQ {w:PV} (L:List Int) (b:Int) (S:Sto) (hw:w=.lst (L.map .int)∨w=.tup (L.map .int)) (hL:∀ n∈L,Bd 8000 n) (bb:Bd 8000 b) (hb:b≠0) (hl:L.length≤100):aeU [.pv w,.pv (.int b)] S=.ok (.pv (.tup ((PT L b).map .int))) S:=by
 have e1:=aiL (L++[b]) S (fun n hn=>by
  rcases List.mem_append.mp hn with z | z
  ·exact hL n z
  ·have:n=b:=by simpa using z
   rw [this]; exact bb) (gl_b hb)
 have e2:=aiu S b (low (L++[b])) none
 have hz:L.length+1≤16777216:=by omega
 simp only [List.map_append,List.map_cons,List.map_nil] at e1
 unfold PT aeU fnM afi
 rcases hw with rfl | rfl <;> simp [aaV,sSeq,sIf,mTst,mNot,mAnd,mOr,abK,mOrV,mIf,mBin,mUn,mR,mN,aab,mVar,mC,mNil,Res.bind,abL,abo,abA,abV,abb,rd,abw,okO,fLen,fAbs,aal,aak,fTup,fLst,fIx,atI,ixN,fEq,fNe,eqN,aam,aao,aap,aan,fAdd,aaj,fNeg,fNot,tst,SRes.of,sRet,ab2,sNil,aaW,sSet,aaR,abC,aah,abj,aa4,frz,aau,hb,hz,e1,mIt,aa6,aaC,cmpR,e2]
theorem alc (zs:List Int) (z:Int):cutP ((zs++[z]).map .int) none (some (-1))=zs.map .int:=by
 unfold cutP
 have e1:HT.sIx ((zs++[z]).map PV.int).length 0 none=0:=rfl
 have e2:HT.sIx ((zs++[z]).map PV.int).length ((zs++[z]).map PV.int).length (some (-1))=zs.length:=by
  rw [List.length_map,List.length_append]
  exact af7 zs.length _
 rw [e1,e2]
 simp
theorem ajS (zs:List Int) (z:Int):¬ (HT.sIx ((zs++[z]).map PV.int).length 0 none=0∧HT.sIx ((zs++[z]).map PV.int).length ((zs++[z]).map PV.int).length (some (-1))=((zs++[z]).map PV.int).length):=by
 rintro ⟨_,e⟩
 have e2:HT.sIx ((zs++[z]).map PV.int).length ((zs++[z]).map PV.int).length (some (-1))=zs.length:=by
  rw [List.length_map,List.length_append]
  exact af7 zs.length _
 rw [e2,List.length_map,List.length_append] at e
 simp at e
theorem aeK (zs:List Int) (z:Int):fSl (.tup ((zs++[z]).map .int)) none (some (-1))=some (.tup (zs.map .int)):=by
 unfold fSl
 dsimp only
 rw [if_neg (ajS zs z),alc]
theorem acD (zs:List Int) (z:Int):fIx (.tup ((zs++[z]).map .int)) (.int (-1))=some (.int z):=by
 show atI ((zs++[z]).map PV.int) (-1)=_
 rw [List.map_append]
 exact akP _ _
theorem sm8 {m:Int} (h0:0≤m) (h:m < 1024):Bd 8000 m:=Bd.of (n:=1023) (by omega) (Nat.lt_of_lt_of_le (show 1023 < 2 ^ 10 by decide) (Nat.pow_le_pow_right (by decide) (by decide)))
theorem aaX (n:Nat) (a b:Int):eqN n (.int a) (.int b)=some (a == b):=by cases n <;> rfl
theorem mB {a b:Int} (h:Bd 2000 a) (g:Bd 2000 b):fMul (.int a) (.int b)=some (.int (a*b)):=acM (.inr ⟨h.mono (by decide),g.mono (by decide)⟩)
structure Pt (n:Nat) (xs:List Int) (w:Int):Prop where
 len:xs.length=n
 pos:0 < w
 low:low (xs++[w])=xs++[w]
 bx:∀ x∈xs,Bd 300 x
 bw:Bd 300 w
theorem ain (S:Sto) (PL QL:List PV) (w v:Int) (hp:fIx (.tup PL) (.int (-1))=some (.int w)) (hq:fIx (.tup QL) (.int (-1))=some (.int v)) (bw:Bd 2000 w) (bv:Bd 2000 v):∀ (xs ys:List Int) (x y:Option AV),xs.length=ys.length→(∀ x∈xs,Bd 2000 x)→(∀ y∈ys,Bd 2000 y) →
  aa5 [] (gT 2 (aa2 (gN 0) (aa2 (gN 1) acA))) (mBin fAdd (mBin fMul (mVar 0) (mBin fIx (mVar 2) (mUn fNeg (mC (.int 1))))) (mBin fMul (mVar 1) (mBin fIx (mVar 3) (mUn fNeg (mC (.int 1)))))) (zipP (xs.map .int) (ys.map .int)) [x,y,some (.pv (.tup QL)),some (.pv (.tup PL))] S=.ok ((sm xs w ys v).map .int) S
 | [],ys,x,y,hl,_,_=>by
  have:ys=[]:=List.length_eq_zero_iff.mp hl.symm
  subst this
  exact aay
 | a :: xs,[],x,y,hl,_,_=>by cases hl
 | a :: xs,b :: ys,x,y,hl,hx,hy=>by
  have ih:=ain S PL QL w v hp hq bw bv xs ys (some (.pv (.int a))) (some (.pv (.int b))) (by simpa using hl) (fun m hm=>hx m (List.mem_cons_of_mem _ hm)) (fun m hm=>hy m (List.mem_cons_of_mem _ hm))
  have m1:=mB (hx a List.mem_cons_self) bv
  have m2:=mB (hy b List.mem_cons_self) bw
  show aa5 [] _ _ (.tup [.int a,.int b] :: zipP (xs.map .int) (ys.map .int)) _ S=_
  rw [aav]
  simp [gT,aa2,acA,gN,aaV,sSeq,sIf,mTst,mNot,mAnd,mOr,abK,mOrV,mIf,mBin,mUn,mR,mN,aab,mVar,mC,mNil,Res.bind,abL,abo,abA,abV,abb,rd,abw,okO,fLen,fAbs,aal,aak,fTup,fLst,fEq,fNe,aaX,aam,aao,aap,aan,fAdd,aaj,fNeg,fNot,tst,SRes.of,sRet,ab2,sNil,aaW,sSet,aaR,abC,aah,abj,aa4,frz,aau,hp,hq,m1,m2,ih,sm]
theorem apL {xs ys:List Int} {w v:Int} {k:Nat} (hx:∀ x∈xs,Bd k x) (hy:∀ y∈ys,Bd k y) (hw:Bd k w) (hv:Bd k v):∀ n∈sm xs w ys v,Bd (k+k+1) n:=fun n hn=>by
 unfold sm at hn
 obtain ⟨i,hi,e⟩:=List.getElem_of_mem hn
 rw [List.getElem_zipWith] at e
 rw [← e]
 exact ((hx _ (List.getElem_mem _)).mul hv).add ((hy _ (List.getElem_mem _)).mul hw)
theorem alP {xs ys:List Int} {w v:Int} (S:Sto) (hl:xs.length=ys.length) (h9:xs.length≤9) (hw:0 < w) (hv:0 < v) (hx:∀ x∈xs,Bd 2000 x) (hy:∀ y∈ys,Bd 2000 y) (bw:Bd 2000 w) (bv:Bd 2000 v) :
  acu [.pv (.tup ((xs++[w]).map .int)),.pv (.tup ((ys++[v]).map .int))] S=.ok (.pv (.tup ((low (sm xs w ys v++[w*v])).map .int))) S:=by
 have ip:=acD xs w
 have iq:=acD ys v
 have sp:=aeK xs w
 have sq:=aeK ys v
 have ec:=ain S _ _ w v ip iq bw bv xs ys none none hl hx hy
 have mm:=mB bw bv
 have hp:=Int.mul_pos hw hv
 have ep:=alQ (w:=.lst ((sm xs w ys v).map .int)) (sm xs w ys v) (w*v) S (.inl rfl) (fun n hn=>(apL hx hy bw bv n hn).mono (by decide)) ((bw.mul bv).mono (by decide)) (by omega) (by rw [aoZ hl]; omega)
 rw [anJ hp] at ep
 generalize (xs++[w]).map PV.int=PL at ip sp ec
 generalize (ys++[v]).map PV.int=QL at iq sq ec
 unfold acu fnM ahv
 simp [aaV,sSeq,sIf,mTst,mNot,mAnd,mOr,abK,mOrV,mIf,mBin,mUn,mR,mN,aab,mVar,mC,mNil,Res.bind,abL,abo,abA,abV,abb,rd,abw,okO,fLen,fAbs,aal,aak,fTup,fLst,fEq,fNe,aaX,aam,aao,aap,aan,fAdd,aaj,fNeg,fNot,tst,SRes.of,sRet,ab2,sNil,aaW,sSet,aaR,abC,aah,abj,aa4,frz,aau,aaC,mZip,afs,aa6,mSl,mO0,mO1,abk,sp,sq,cmpR,ec,ip,iq,mm,ep]
def mv (way:Int) (xs:List Int) (w:Int) (ys:List Int) (v:Int):List Int:=if way=1 then low (sm xs w ys v++[w*v]) else low (sm ys v (xs.map (- ·)) w++[v*w])
theorem aiv (zs:List Int) (z:Int) (j:Nat) (h:j < zs.length):fIx (.tup ((zs++[z]).map .int)) (.int (j:Nat))=some (.int (zs.getD j 0)):=by
 show atI ((zs++[z]).map PV.int) (j:Int)=_
 refine anC ?_
 rw [List.getElem?_map,List.getElem?_append_left h,List.getElem?_eq_getElem h]
 simp [List.getD,h]
theorem ajk (S:Sto) (PL QL:List PV) (xs ys:List Int) (w v way:Int) (hp:fIx (.tup PL) (.int (-1))=some (.int w)) (hq:fIx (.tup QL) (.int (-1))=some (.int v)) (hpj:∀ j:Nat,j < xs.length→fIx (.tup PL) (.int (j:Nat))=some (.int (xs.getD j 0))) (hqj:∀ j:Nat,j < xs.length→fIx (.tup QL) (.int (j:Nat))=some (.int (ys.getD j 0)))
  (hway:way=1∨way=-1) (bw:Bd 1000 w) (bv:Bd 1000 v) (hx:∀ j,Bd 1000 (xs.getD j 0)) (hy:∀ j,Bd 1000 (ys.getD j 0)):∀ (js:List Nat) (x:Option AV),(∀ j∈js,j < xs.length) →
  aa5 [] (gN 0) (mBin fAdd (mBin fMul (mBin fMul (mVar 1) (mBin fIx (mVar 3) (mVar 0))) (mBin fIx (mVar 2) (mUn fNeg (mC (.int 1))))) (mBin fMul (mBin fIx (mVar 2) (mVar 0)) (mBin fIx (mVar 3) (mUn fNeg (mC (.int 1)))))) (js.map fun j=>.int (0+(j:Nat))) [x,some (.pv (.int way)),some (.pv (.tup QL)),some (.pv (.tup PL))] S=.ok ((js.map fun j=>way*xs.getD j 0*v+ys.getD j 0*w).map .int) S
 | [],x,_=>aay
 | j :: js,x,h=>by
  have ih:=ajk S PL QL xs ys w v way hp hq hpj hqj hway bw bv hx hy js (some (.pv (.int (0+(j:Nat))))) fun i hi=>h i (List.mem_cons_of_mem _ hi)
  have e1:=hpj j (h j List.mem_cons_self)
  have e2:=hqj j (h j List.mem_cons_self)
  have b1:Bd 2 way:=by rcases hway with rfl | rfl <;> exact Bd.of (n:=1) (by decide) (by decide)
  have m0:=mB (b1.mono (show 2≤2000 by decide)) ((hx j).mono (show 1000≤2000 by decide))
  have m1:=mB ((b1.mul (hx j)).mono (show 2+1000≤2000 by decide)) (bv.mono (show 1000≤2000 by decide))
  have m2:=mB ((hy j).mono (show 1000≤2000 by decide)) (bw.mono (show 1000≤2000 by decide))
  show aa5 [] _ _ (.int (0+(j:Nat)) :: js.map fun j=>.int (0+(j:Nat))) _ S=_
  rw [aav]
  simp only [Int.zero_add] at ih ⊢
  generalize hX:xs.getD j 0=X at e1 m0 m1
  generalize hY:ys.getD j 0=Y at e2 m2
  simp [gN,aaV,sSeq,sIf,mTst,mNot,mAnd,mOr,abK,mOrV,mIf,mBin,mUn,mR,mN,aab,mVar,mC,mNil,Res.bind,abL,abo,abA,abV,abb,rd,abw,okO,fLen,fAbs,aal,aak,fTup,fLst,fEq,fNe,aaX,aam,aao,aap,aan,fAdd,aaj,fNeg,fNot,tst,SRes.of,sRet,ab2,sNil,aaW,sSet,aaR,abC,aah,abj,aa4,frz,aau,e1,e2,hp,hq,m0,m1,m2,ih]
  simp only [List.getD_eq_getElem?_getD] at hX hY
  rw [hX,hY]
theorem agg {xs:List Int} {k:Nat} (h:∀ x∈xs,Bd k x) (j:Nat):Bd k (xs.getD j 0):=by
 by_cases hj:j < xs.length
 ·have e:xs.getD j 0=xs[j]:=by simp [List.getD,hj]
  rw [e]
  exact h _ (List.getElem_mem hj)
 ·have e:xs.getD j 0=0:=by simp [List.getD,hj]
  rw [e]
  exact Bd.of (n:=0) (by decide) (Nat.two_pow_pos k)
theorem agu {xs ys:List Int} (hl:xs.length=ys.length) (f:Int→Int→Int):(List.range xs.length).map (fun j=>f (xs.getD j 0) (ys.getD j 0))=List.zipWith f xs ys:=by
 refine List.ext_getElem (by simp [hl]) fun i h1 h2=>?_
 have hi:i < xs.length:=by simpa using h1
 have hj:i < ys.length:=by omega
 simp [List.getD,hi,hj]
theorem akv {xs ys:List Int} {w v way:Int} (S:Sto) (hl:xs.length=ys.length) (h9:xs.length≤9) (hway:way=1∨way=-1) (hx:∀ x∈xs,Bd 1000 x) (hy:∀ y∈ys,Bd 1000 y) (bw:Bd 1000 w) (bv:Bd 1000 v) :
  abh [.pv (.tup ((xs++[w]).map .int)),.pv (.tup ((ys++[v]).map .int)),.pv (.int way)] S=.ok (.pv (.tup ((low (List.zipWith (fun x y=>way*x*v+y*w) xs ys++[w*v])).map .int))) S:=by
 have ip:=acD xs w
 have iq:=acD ys v
 have ec:=ajk S _ _ xs ys w v way ip iq (fun j h=>aiv xs w j h) (fun j h=>aiv ys v j (by omega)) hway bw bv (agg hx) (agg hy) (List.range xs.length) none fun j hj=>by simpa using hj
 have er:(List.range xs.length).map (fun j=>way*xs.getD j 0*v+ys.getD j 0*w)=List.zipWith (fun x y=>way*x*v+y*w) xs ys:=agu hl fun x y=>way*x*v+y*w
 rw [er] at ec
 have mm:=mB (bw.mono (show 1000≤2000 by decide)) (bv.mono (show 1000≤2000 by decide))
 have b1:Bd 2 way:=by rcases hway with rfl | rfl <;> exact Bd.of (n:=1) (by decide) (by decide)
 have el:=ab7 (List.zipWith (fun x y=>way*x*v+y*w) xs ys++[w*v]) S (fun n hn=>by
  rcases List.mem_append.mp hn with z | z
  ·obtain ⟨i,hi,e⟩:=List.getElem_of_mem z
   rw [List.getElem_zipWith] at e
   rw [← e]
   exact ((((b1.mul (hx _ (List.getElem_mem _))).mul bv).mono (show 2+1000+1000≤3000 by decide)).add (((hy _ (List.getElem_mem _)).mul bw).mono (show 1000+1000≤3000 by decide))).mono (by decide)
  ·have:n=w*v:=by simpa using z
   rw [this]
   exact (bw.mul bv).mono (by decide))
 have hlen:((xs++[w]).map PV.int).length=xs.length+1:=by simp
 have hz:xs.length+1≤16777216:=by omega
 have hr:rng1 [.pv (.int (((xs.length+1:Nat):Int) - 1))] S=.ok ((List.range xs.length).map fun j=>.int (0+(j:Nat)),[]) S:=by
  unfold rng1
  dsimp only
  rw [if_pos ⟨by omega,by omega⟩]
  have:(((xs.length+1:Nat):Int) - 1).toNat=xs.length:=by omega
  rw [this]
  rfl
 have hzl:(List.zipWith (fun x y=>way*x*v+y*w) xs ys).length+1≤16777216:=by rw [List.length_zipWith]; omega
 simp only [List.map_append,List.map_cons,List.map_nil] at el
 generalize hZ:(List.zipWith (fun x y=>way*x*v+y*w) xs ys).map PV.int=ZL at ec el
 have hzl2:ZL.length+1≤16777216:=by rw [← hZ,List.length_map]; exact hzl
 generalize (List.range xs.length).map (fun j=>PV.int (0+(j:Nat)))=RL at ec hr
 generalize hP:(xs++[w]).map PV.int=PL at ip ec hlen
 generalize (ys++[v]).map PV.int=QL at iq ec
 unfold abh fnM aeM
 have hr2:=hr
 rw [← hlen] at hr2
 simp [aaV,sSeq,sIf,mTst,mNot,mAnd,mOr,abK,mOrV,mIf,mBin,mUn,mR,mN,aab,mVar,mC,mNil,Res.bind,abL,abo,abA,abV,abb,rd,abw,okO,fLen,fAbs,aal,aak,fTup,fLst,fEq,fNe,aaX,aam,aao,aap,aan,fAdd,aaj,fNeg,fNot,tst,SRes.of,sRet,ab2,sNil,aaW,sSet,aaR,abC,aah,abj,aa4,frz,aau,aaC,aaE,hr2,cmpR,ec,ip,iq,mm,hzl2,el]
theorem agb {k:Nat} {W:Int} (W0:0≤W) (W1:W≤1000000000000):∀ (is:List PV) (S:Sto) (ns:List Int) (x:Option AV),Row S k ns→∃ (xs ns':List Int),aa5 [] (gN 0) (mBin fSub (aah aaq [] (aab (mVar 2) (aab (mBin fAdd (mBin fMul (mC (.int 2)) (mVar 1)) (mC (.int 1))) mNil))) (mVar 1)) is [x,some (.pv (.int W)),some (.ref k)] S=.ok (xs.map .int) (S.set k (.lst (ns'.map .int)))∧xs.length=is.length∧∀ n∈xs,Bd 50 n
 | [],S,ns,x,h=>by
  refine ⟨[],ns,?_,rfl,fun _ h=>absurd h List.not_mem_nil⟩
  have e:S.set k (.lst (ns.map .int))=S:=List.ext_getElem? fun j=>by
   by_cases q:k=j
   ·subst q; rw [List.getElem?_set_self h.lt]; exact h.symm
   ·rw [List.getElem?_set_ne q]
  rw [e]
  exact aay
 | i :: is,S,ns,x,h=>by
  obtain ⟨t,n1,e1,t0,t1,_⟩:=abc (m:=2*W+1) h (by omega) ((Bd.of (k:=50) (n:=2000000000001) (by omega) (by decide)).mono (by decide))
  obtain ⟨xs,n2,e2,l2,b2⟩:=agb W0 W1 is _ n1 (some (.pv i)) (h.set n1)
  rw [List.set_set] at e2
  have m2:fMul (.int 2) (.int W)=some (.int (2*W)):=acM (.inl (.inl ⟨by decide,by decide⟩))
  refine ⟨(t - W) :: xs,n2,?_,by simp [l2],fun n hn=>?_⟩
  ·rw [aav]
   generalize S.set k (.lst (n1.map .int))=S1 at e1 e2
   simp [gN,aaV,sSeq,sIf,mTst,mNot,mAnd,mOr,abK,mOrV,mIf,mBin,mUn,mR,mN,aab,mVar,mC,mNil,Res.bind,abL,abo,abA,abV,abb,rd,abw,okO,fLen,fAbs,aal,aak,fTup,fLst,fIx,atI,ixN,fEq,fNe,eqN,aam,aao,aap,aan,fAdd,aaj,fNeg,fNot,tst,SRes.of,sRet,ab2,sNil,aaW,sSet,aaR,abC,aah,abj,aa4,frz,aau,m2,e1,e2]
  ·rcases List.mem_cons.mp hn with rfl | hn
   ·exact Bd.of (n:=1000000000000) (by omega) (by decide)
   ·exact b2 n hn
theorem apP {v:Int} (h0:0≤v) (h1:v < 4):∃ M:Int,fIx (.lst [.int 0,.int 3,.int 9,.int 1000000000000]) (.int v)=some (.int M)∧0≤M∧M≤1000000000000:=by
 have c:v=0∨v=1∨v=2∨v=3:=by omega
 rcases c with rfl | rfl | rfl | rfl
 ·exact ⟨0,rfl,by decide,by decide⟩
 ·exact ⟨3,rfl,by decide,by decide⟩
 ·exact ⟨9,rfl,by decide,by decide⟩
 ·exact ⟨1000000000000,rfl,by decide,by decide⟩
theorem p12:fPow (.int 10) (.int 12)=some (.int 1000000000000):=agr (i:=10) (j:=12) ⟨by decide,by decide,by decide⟩
theorem apq {v:Int} (h0:0≤v) (h1:v < 4):0≤v.fdiv 2∧v.fdiv 2≤1:=by
 have c:v=0∨v=1∨v=2∨v=3:=by omega
 rcases c with rfl | rfl | rfl | rfl <;> decide
theorem aok {n k:Nat} {L:List Int} {b:Int} (hb:0 < b) (hl:L.length=n) (hk:k≤300) (hL:∀ x∈L,Bd k x) (bb:Bd k b):∃ (zs:List Int) (z:Int),low (L++[b])=zs++[z]∧Pt n zs z∧(∀ x∈zs,Bd k x)∧Bd k z:=by
 obtain ⟨zs,z,g,e,hg,hz,_,_,hzl⟩:=aie L hb
 have hbd:=ah2 (k:=k) (ns:=L++[b]) fun m hm=>by
  rcases List.mem_append.mp hm with y | y
  ·exact hL m y
  ·have:m=b:=by simpa using y
   rw [this]; exact bb
 have hlow:=ahO L hb
 rw [e] at hbd hlow
 have b1:∀ x∈zs,Bd k x:=fun x hx=>hbd x (List.mem_append_left _ hx)
 have b2:Bd k z:=hbd z (ab4 zs z)
 exact ⟨zs,z,e,⟨hzl.trans hl,hz,hlow,fun x hx=>(b1 x hx).mono hk,b2.mono hk⟩,b1,b2⟩
theorem aoC {S:Sto} {k:Nat} {ns:List Int} (n:Nat) (hn:n=2∨n=3) (h:Row S k ns):∃ (xs:List Int) (w:Int) (ns':List Int),acF [.ref k,.pv (.int n)] S=.ok (.pv (.tup ((xs++[w]).map .int))) (S.set k (.lst (ns'.map .int)))∧Pt n xs w∧(∀ x∈xs,Bd 100 x)∧Bd 100 w:=by
 obtain ⟨c,n1,e1,c0,c1,_⟩:=abc (m:=4) h (by decide) (sm8 (by decide) (by decide))
 obtain ⟨M,em,M0,M1⟩:=apP c0 c1
 obtain ⟨t,n2,e2,t0,t1,_⟩:=abc (m:=9) (h.set n1) (by decide) (sm8 (by decide) (by decide))
 rw [List.set_set] at e2
 obtain ⟨xs,n3,e3,l3,b3⟩:=agb M0 M1 (abi 0 n) _ n2 none (h.set n2)
 rw [List.set_set] at e3
 have hc:=apq c0 c1
 have mt:fMul (.int t) (.int (c.fdiv 2))=some (.int (t*c.fdiv 2)):=acM (.inl (.inl ⟨by omega,by omega⟩))
 have qt:adg (.int c) (.int 2)=some (.int (c.fdiv 2)):=acJ ⟨by decide,sm8 (by decide) (by decide)⟩
 have hm:0≤t*c.fdiv 2∧t*c.fdiv 2≤8:=by
  have c2:c.fdiv 2=0∨c.fdiv 2=1:=by omega
  rcases c2 with z | z <;> rw [z] <;> omega
 have lx:xs.length=n:=by rw [l3]; unfold abi; simp
 generalize t*c.fdiv 2=tc at mt hm
 obtain ⟨zs,z,ez,P,b1,b2⟩:=aok (n:=n) (k:=100) (L:=xs) (b:=1+tc) (by omega) lx (by decide) (fun x hx=>(b3 x hx).mono (by decide)) (Bd.of (n:=9) (by omega) (by decide))
 have el:=ab7 (xs++[1+tc]) (S.set k (.lst (n3.map .int))) (fun m hm=>by
  rcases List.mem_append.mp hm with y | y
  ·exact (b3 m y).mono (by decide)
  ·have:m=1+tc:=by simpa using y
   rw [this]
   exact (Bd.of (k:=4) (n:=9) (by omega) (by decide)).mono (by decide))
 rw [ez] at el
 refine ⟨zs,z,n3,?_,P,b1,b2⟩
 have tk3:=ak8 S k (.lst (n3.map .int))
 have hz:xs.length+1≤16777216:=by omega
 generalize S.set k (.lst (n1.map .int))=S1 at e1 e2
 generalize S.set k (.lst (n2.map .int))=S2 at e2 e3
 generalize S.set k (.lst (n3.map .int))=S3 at e3 el tk3
 have hr:rng1 [.pv (.int (n:Int))] S2=.ok (abi 0 n,[]) S2:=by
  unfold rng1
  dsimp only
  rw [if_pos ⟨by omega,by omega⟩]
  rfl
 conv at el=>lhs; rw [List.map_append]
 simp only [List.map_cons,List.map_nil] at el
 generalize (zs++[z]).map PV.int=ZL at el
 unfold acF fnM ajR
 simp [aaV,sSeq,sIf,mTst,mNot,mAnd,mOr,abK,mOrV,mIf,mBin,mUn,mR,mN,aab,mVar,mC,mNil,Res.bind,abL,abo,abA,abV,abb,rd,abw,okO,fLen,fAbs,aal,aak,fTup,fLst,fEq,fNe,aaX,aam,aao,aap,aan,fAdd,aaj,fNeg,fNot,tst,SRes.of,sRet,ab2,sNil,aaW,sSet,aaR,abC,aah,abj,aa4,frz,aau,p12,e1,em,e2,mt,qt,aaC,aaE,hr,cmpR,e3,hz,el,tk3]
theorem ag6 {way:Int} (h:way=1∨way=-1) (xs:List Int) (w:Int) (ys:List Int) (v:Int):low (List.zipWith (fun x y=>way*x*v+y*w) xs ys++[w*v])=mv way xs w ys v:=by
 unfold mv
 rcases h with rfl | rfl
 ·rw [if_pos rfl,ai0]
 ·rw [if_neg (by decide),ahz,Int.mul_comm w v]
structure Pq (n k:Nat) (xs:List Int) (w:Int):Prop where
 len:xs.length=n
 pos:0 < w
 low:low (xs++[w])=xs++[w]
 bx:∀ x∈xs,Bd k x
 bw:Bd k w
def Vl (n:Nat) (xs:List Int) (w:Int) (N:Nat→Int) (D:Int):Prop:=∀ j,j < n→xs.getD j 0*D=N j*w
theorem Vl.self (n:Nat) (xs:List Int) (w:Int):Vl n xs w (fun j=>xs.getD j 0) w:=fun _ _=>rfl
theorem aiD {a b c:Int} (h:0 < c) (e:a*c=b*c):a=b:=Int.eq_of_mul_eq_mul_right (by omega) e
theorem anG {xs ys:List Int} {f:Int→Int→Int} {j:Nat} (h1:j < xs.length) (h2:j < ys.length):(List.zipWith f xs ys).getD j 0=f (xs.getD j 0) (ys.getD j 0):=by
 have:j < (List.zipWith f xs ys).length:=by rw [List.length_zipWith]; omega
 simp only [List.getD,List.getElem?_eq_getElem this,List.getElem?_eq_getElem h1,List.getElem?_eq_getElem h2,Option.getD_some,List.getElem_zipWith]
theorem apo {n k l:Nat} {way:Int} {xs ys:List Int} {w v:Int} (hway:way=1∨way=-1) (P:Pq n k xs w) (Q:Pq n l ys v):∃ (zs:List Int) (z:Int),mv way xs w ys v=zs++[z]∧Pq n (k+l+1) zs z ∧
  ∀ (N M:Nat→Int) (D E:Int),Vl n xs w N D→Vl n ys v M E→0 < D→0 < E→Vl n zs z (fun j=>way*N j*E+M j*D) (D*E):=by
 rw [← ag6 hway]
 have hb:=Int.mul_pos P.pos Q.pos
 have hl:(List.zipWith (fun x y=>way*x*v+y*w) xs ys).length=n:=by rw [List.length_zipWith,P.len,Q.len]; omega
 obtain ⟨zs,z,g,e,hg,hz,g1,g2,hzl⟩:=aie (List.zipWith (fun x y=>way*x*v+y*w) xs ys) hb
 have hlow:=ahO (List.zipWith (fun x y=>way*x*v+y*w) xs ys) hb
 have hbd:=ah2 (k:=k+l+1) (ns:=List.zipWith (fun x y=>way*x*v+y*w) xs ys++[w*v]) fun m hm=>by
  rcases List.mem_append.mp hm with y | y
  ·obtain ⟨i,hi,e⟩:=List.getElem_of_mem y
   rw [List.getElem_zipWith] at e
   rw [← e]
   have b1:=(P.bx _ (List.getElem_mem (l:=xs) (n:=i) (by rw [List.length_zipWith] at hi; omega))).mul Q.bw
   have b2:=(Q.bx _ (List.getElem_mem (l:=ys) (n:=i) (by rw [List.length_zipWith] at hi; omega))).mul P.bw
   have b3:Bd (k+l) (way*xs[i]'(by rw [List.length_zipWith] at hi; omega)*v):=by
    rcases hway with rfl | rfl
    ·rw [Int.one_mul]; exact b1
    ·have:(-1:Int)*xs[i]'(by rw [List.length_zipWith] at hi; omega)*v=-(xs[i]'(by rw [List.length_zipWith] at hi; omega)*v):=by rw [Int.neg_mul,Int.one_mul,Int.neg_mul]
     rw [this]; exact b1.neg
   exact b3.add (b2.mono (by omega))
  ·have:m=w*v:=by simpa using y
   rw [this]
   exact (P.bw.mul Q.bw).mono (by omega)
 rw [e] at hbd hlow
 refine ⟨zs,z,e,⟨hzl.trans hl,hz,hlow,fun x hx=>hbd x (List.mem_append_left _ hx),hbd z (ab4 zs z)⟩,fun N M D E a b hD hE j hj=>?_⟩
 have h1:(List.zipWith (fun x y=>way*x*v+y*w) xs ys).getD j 0=g*zs.getD j 0:=by
  rw [g1]
  have:j < zs.length:=by rw [hzl,hl]; exact hj
  simp [List.getD,this]
 rw [anG (by rw [P.len]; exact hj) (by rw [Q.len]; exact hj)] at h1
 have a1:=a j hj
 have b1:=b j hj
 generalize xs.getD j 0=X at a1 h1
 generalize ys.getD j 0=Y at b1 h1
 generalize zs.getD j 0=Z at h1 ⊢
 show Z*(D*E)=(way*N j*E+M j*D)*z
 generalize N j=A at *
 generalize M j=B at *
 refine aiD (c:=g*(w*v)) (Int.mul_pos hg hb) ?_
 have p1:=P.pos
 have p2:=Q.pos
 have k1:(way*X*v+Y*w)*(D*E)=(way*A*E+B*D)*(w*v):=by grind
 have k2:Z*(D*E)*(g*(w*v))=(way*X*v+Y*w)*(D*E)*(w*v):=by rw [h1]; grind
 rw [k2,k1,g2]
 grind
theorem Pt.pq {n k:Nat} {xs:List Int} {w:Int} (P:Pt n xs w) (b:∀ x∈xs,Bd k x) (bw:Bd k w):Pq n k xs w:=⟨P.len,P.pos,P.low,b,bw⟩
theorem Pq.mono {n k l:Nat} {xs:List Int} {w:Int} (P:Pq n k xs w) (h:k≤l):Pq n l xs w:=⟨P.len,P.pos,P.low,fun x hx=>(P.bx x hx).mono h,P.bw.mono h⟩
theorem ant {n k l:Nat} {way:Int} {xs ys:List Int} {w v:Int} (S:Sto) (hn:n=2∨n=3) (hway:way=1∨way=-1) (P:Pq n k xs w) (Q:Pq n l ys v) (hk:k≤1000) (hl:l≤1000):abh [.pv (.tup ((xs++[w]).map .int)),.pv (.tup ((ys++[v]).map .int)),.pv (.int way)] S=.ok (.pv (.tup ((mv way xs w ys v).map .int))) S:=by
 have e:=akv (way:=way) S (P.len.trans Q.len.symm) (by rw [P.len]; omega) hway (fun x hx=>(P.bx x hx).mono hk) (fun x hx=>(Q.bx x hx).mono hl) (P.bw.mono hk) (Q.bw.mono hl)
 rw [ag6 hway] at e
 exact e
theorem ahw (t b:Int) (S:Sto) (ht:Bd 8000 t) (hb:Bd 8000 b):abD [.pv (.int t),.pv (.int b)] S=.ok (.pv (.tup ((fr t b).map .int))) S:=by
 unfold abD fnM ahK fr
 have e1:=ab7 [0 - t,0 - b] S (by
  intro n hn
  rcases List.mem_cons.mp hn with rfl | hn
  ·rw [Int.zero_sub]; exact ht.neg
  ·have:n=0 - b:=by simpa using hn
   rw [this,Int.zero_sub]; exact hb.neg)
 have e2:=ab7 [t,b] S (by
  intro n hn
  rcases List.mem_cons.mp hn with rfl | hn
  ·exact ht
  ·have:n=b:=by simpa using hn
   rw [this]; exact hb)
 by_cases h:b < 0
 ·simp only [List.map_cons,List.map_nil,Int.zero_sub] at e1
  simp [EC,fAbs,aal,aak,fIx,atI,ixN,fEq,fNe,eqN,aam,aao,aap,aan,fAdd,aaj,frz,aau,h,e1]
 ·simp only [List.map_cons,List.map_nil] at e2
  simp [EC,fAbs,aal,aak,fIx,atI,ixN,fEq,fNe,eqN,aam,aao,aap,aan,fAdd,aaj,frz,aau,h,e2]
theorem adB:∀ is:List Int,adf (is.map .int)=some is
 | []=>rfl
 | i :: is=>by
  have ih:=adB is
  show (match adf (is.map .int) with | some bs=>some (i :: bs) | none=>none)=_
  rw [ih]
theorem agJ (is:List Int):fSum [.lst (is.map .int)]=some (.int is.sum):=by
 simp only [fSum,adB,Option.map_some]
def wa (xs:List Int) (w:Int) (ys:List Int) (v:Int):List Int:=List.zipWith (fun x y=>y*w - x*v) xs ys
theorem ajU (S:Sto) (PL QL:List PV) (w v:Int) (hp:fIx (.tup PL) (.int (-1))=some (.int w)) (hq:fIx (.tup QL) (.int (-1))=some (.int v)) (bw:Bd 2000 w) (bv:Bd 2000 v):∀ (xs ys:List Int) (x y:Option AV),xs.length=ys.length→(∀ x∈xs,Bd 2000 x)→(∀ y∈ys,Bd 2000 y) →
  aa5 [] (gT 2 (aa2 (gN 0) (aa2 (gN 1) acA))) (mBin fSub (mBin fMul (mVar 1) (mBin fIx (mVar 2) (mUn fNeg (mC (.int 1))))) (mBin fMul (mVar 0) (mBin fIx (mVar 3) (mUn fNeg (mC (.int 1)))))) (zipP (xs.map .int) (ys.map .int)) [x,y,some (.pv (.tup PL)),some (.pv (.tup QL))] S=.ok ((wa xs w ys v).map .int) S
 | [],ys,x,y,hl,_,_=>by
  have:ys=[]:=List.length_eq_zero_iff.mp hl.symm
  subst this
  exact aay
 | a :: xs,[],x,y,hl,_,_=>by cases hl
 | a :: xs,b :: ys,x,y,hl,hx,hy=>by
  have ih:=ajU S PL QL w v hp hq bw bv xs ys (some (.pv (.int a))) (some (.pv (.int b))) (by simpa using hl) (fun m hm=>hx m (List.mem_cons_of_mem _ hm)) (fun m hm=>hy m (List.mem_cons_of_mem _ hm))
  have m1:=mB (hx a List.mem_cons_self) bv
  have m2:=mB (hy b List.mem_cons_self) bw
  show aa5 [] _ _ (.tup [.int a,.int b] :: zipP (xs.map .int) (ys.map .int)) _ S=_
  rw [aav]
  simp [gT,aa2,acA,gN,EC,fAbs,aal,aak,fEq,fNe,aaX,aam,aao,aap,aan,fAdd,aaj,frz,aau,hp,hq,m1,m2,ih,wa]
theorem aix {xs ys:List Int} {w v:Int} (S:Sto) (hl:xs.length=ys.length) (hx:∀ x∈xs,Bd 2000 x) (hy:∀ y∈ys,Bd 2000 y) (bw:Bd 2000 w) (bv:Bd 2000 v) :
  abe [.pv (.tup ((xs++[w]).map .int)),.pv (.tup ((ys++[v]).map .int))] S=.ok (.pv (.lst ((wa xs w ys v).map .int))) S:=by
 have ip:=acD xs w
 have iq:=acD ys v
 have sp:=aeK xs w
 have sq:=aeK ys v
 have ec:=ajU S _ _ w v ip iq bw bv xs ys none none hl hx hy
 generalize (xs++[w]).map PV.int=PL at ip sp ec
 generalize (ys++[v]).map PV.int=QL at iq sq ec
 unfold abe fnM ac1
 simp [EC,fAbs,aal,aak,fEq,fNe,aaX,aam,aao,aap,aan,fAdd,aaj,frz,aau,aaC,mZip,afs,aa6,mSl,mO0,mO1,abk,sp,sq,cmpR,ec]
theorem agq (S:Sto):∀ (us vs:List Int) (x y:Option AV),(∀ x∈us,Bd 100000 x)→(∀ y∈vs,Bd 100000 y) →
  aa5 [] (gT 2 (aa2 (gN 0) (aa2 (gN 1) acA))) (mBin fMul (mVar 0) (mVar 1)) (zipP (us.map .int) (vs.map .int)) [x,y] S=.ok ((List.zipWith (·*·) us vs).map .int) S
 | [],vs,x,y,_,_=>by
  show aa5 [] _ _ [] _ S=_
  exact aay
 | a :: us,[],x,y,_,_=>by
  show aa5 [] _ _ [] _ S=_
  exact aay
 | a :: us,b :: vs,x,y,hx,hy=>by
  have ih:=agq S us vs (some (.pv (.int a))) (some (.pv (.int b))) (fun m hm=>hx m (List.mem_cons_of_mem _ hm)) (fun m hm=>hy m (List.mem_cons_of_mem _ hm))
  have m1:fMul (.int a) (.int b)=some (.int (a*b)):=acM (.inr ⟨(hx a List.mem_cons_self).mono (by decide),(hy b List.mem_cons_self).mono (by decide)⟩)
  show aa5 [] _ _ (.tup [.int a,.int b] :: zipP (us.map .int) (vs.map .int)) _ S=_
  rw [aav]
  simp [gT,aa2,acA,gN,EC,fAbs,aal,aak,fEq,fNe,aaX,aam,aao,aap,aan,fAdd,aaj,frz,aau,m1,ih]
def dt (us vs:List Int):Int:=(List.zipWith (·*·) us vs).sum
def Sq (A:PV) (us:List Int):Prop:=A=.lst (us.map .int)∨A=.tup (us.map .int)
theorem al8 {A B:PV} {us vs:List Int} (S:Sto) (hA:Sq A us) (hB:Sq B vs) (hx:∀ x∈us,Bd 100000 x) (hy:∀ y∈vs,Bd 100000 y):aiP [.pv A,.pv B] S=.ok (.pv (.int (dt us vs))) S:=by
 have ec:=agq S us vs none none hx hy
 have es:=agJ (List.zipWith (·*·) us vs)
 unfold dt
 generalize (List.zipWith (·*·) us vs).map PV.int=ZL at ec es
 generalize (List.zipWith (·*·) us vs).sum=Z at es
 unfold aiP fnM amk
 rcases hA with rfl | rfl <;> rcases hB with rfl | rfl <;>
  (generalize us.map PV.int=UL at ec ⊢; generalize vs.map PV.int=VL at ec ⊢; simp [EC,fAbs,aal,aak,fEq,fNe,aaX,aam,aao,aap,aan,fAdd,aaj,frz,aau,aaC,mZip,afs,aa6,cmpR,ec,es])
theorem ajV {A B:PV} {us vs:List Int} (S:Sto) (hA:Sq A us) (hB:Sq B vs) (hx:∀ x∈us,Bd 100000 x) (hy:∀ y∈vs,Bd 100000 y):afU [.pv A,.pv B] S=.ok (.pv (.int (dt us vs))) S:=by
 have ec:=agq S us vs none none hx hy
 have es:=agJ (List.zipWith (·*·) us vs)
 unfold dt
 generalize (List.zipWith (·*·) us vs).map PV.int=ZL at ec es
 generalize (List.zipWith (·*·) us vs).sum=Z at es
 unfold afU fnM akE
 rcases hA with rfl | rfl <;> rcases hB with rfl | rfl <;>
  (generalize us.map PV.int=UL at ec ⊢; generalize vs.map PV.int=VL at ec ⊢; simp [EC,fAbs,aal,aak,fEq,fNe,aaX,aam,aao,aap,aan,fAdd,aaj,frz,aau,aaC,mZip,afs,aa6,cmpR,ec,es])
theorem mBB {k l:Nat} {a b:Int} (h:Bd k a) (g:Bd l b) (hk:k≤1000000:=by decide) (hl:l≤1000000:=by decide):fMul (.int a) (.int b)=some (.int (a*b)):=acM (.inr ⟨h.mono hk,g.mono hl⟩)
theorem amy (a b:Int) (S:Sto):acI [.pv (.lst [.lst [.int a,.int b]])] S=.ok (.pv (.lst [.int (-b),.int a])) S:=by
 unfold acI fnM aeH
 simp [EC,fAbs,aal,aak,fIx,atI,ixN,fEq,fNe,eqN,aam,aao,aap,aan,fAdd,aaj,frz,aau]
theorem anr {a b c d e f:Int} (S:Sto) (ha:Bd 10000 a) (hb:Bd 10000 b) (hc:Bd 10000 c) (hd:Bd 10000 d) (he:Bd 10000 e) (hf:Bd 10000 f):acI [.pv (.lst [.lst [.int a,.int b,.int c],.lst [.int d,.int e,.int f]])] S=.ok (.pv (.lst [.int (b*f - c*e),.int (c*d - a*f),.int (a*e - b*d)])) S:=by
 have m1:=mBB hb hf
 have m2:=mBB hc he
 have m3:=mBB hc hd
 have m4:=mBB ha hf
 have m5:=mBB ha he
 have m6:=mBB hb hd
 unfold acI fnM aeH
 simp [EC,fAbs,aal,aak,fIx,atI,ixN,fEq,fNe,eqN,aam,aao,aap,aan,fAdd,aaj,frz,aau,m1,m2,m3,m4,m5,m6]
theorem aio {A B:PV} {a b c d e f:Int} (S:Sto) (hA:Sq A [a,b,c]) (hB:Sq B [d,e,f]) (ha:Bd 10000 a) (hb:Bd 10000 b) (hc:Bd 10000 c) (hd:Bd 10000 d) (he:Bd 10000 e) (hf:Bd 10000 f):adv [.pv A,.pv B] S=.ok (.pv (.lst [.int (b*f - c*e),.int (c*d - a*f),.int (a*e - b*d)])) S:=by
 have m1:=mBB hb hf
 have m2:=mBB hc he
 have m3:=mBB hc hd
 have m4:=mBB ha hf
 have m5:=mBB ha he
 have m6:=mBB hb hd
 unfold adv fnM afX
 rcases hA with rfl | rfl <;> rcases hB with rfl | rfl <;> simp [EC,fAbs,aal,aak,fIx,atI,ixN,fEq,fNe,eqN,aam,aao,aap,aan,fAdd,aaj,frz,aau,m1,m2,m3,m4,m5,m6]
structure P2 (x y w:Int):Prop where
 bx:Bd 1000 x
 by_:Bd 1000 y
 bw:Bd 1000 w
 pos:0 < w
structure P3 (x y z w:Int):Prop where
 bx:Bd 1000 x
 by_:Bd 1000 y
 bz:Bd 1000 z
 bw:Bd 1000 w
 pos:0 < w
abbrev v2 (x y w:Int):PV:=.tup [.int x,.int y,.int w]
abbrev v3 (x y z w:Int):PV:=.tup [.int x,.int y,.int z,.int w]
def Sv (A:PV) (L:List PV):Prop:=A=.lst L∨A=.tup L
theorem cut1 (p:PV) (L:List PV):cutP (p :: L) (some 1) none=L:=by
 unfold cutP
 have e1:HT.sIx (p :: L).length 0 (some 1)=1:=by
  rw [show (some (1:Int))=some ((1:Nat):Int) from rfl,HT.sIx_nat,List.length_cons]
  omega
 rw [e1]
 show ((p :: L).drop 1).take ((p :: L).length - 1)=L
 simp
theorem ahp (p:PV) (L:List PV):fSl (.lst (p :: L)) (some 1) none=some (.lst L):=by
 unfold fSl
 dsimp only
 rw [cut1]
theorem alh (p:PV) (L:List PV):fSl (.tup (p :: L)) (some 1) none=some (.tup L):=by
 unfold fSl
 dsimp only
 have e1:HT.sIx (p :: L).length 0 (some 1)=1:=by
  rw [show (some (1:Int))=some ((1:Nat):Int) from rfl,HT.sIx_nat,List.length_cons]
  omega
 rw [if_neg (by rw [e1]; simp),cut1]
theorem al5 (L:List PV) (p:PV):fSl (.lst (L++[p])) none (some (-1))=some (.lst L):=by
 unfold fSl
 dsimp only
 unfold cutP
 have e1:HT.sIx (L++[p]).length (L++[p]).length (some (-1))=L.length:=by
  rw [List.length_append]
  exact af7 L.length _
 rw [e1]
 show some (PV.lst (((L++[p]).drop 0).take (L.length - 0)))=_
 simp
theorem ama {x0 y0 w0 x1 y1 w1:Int} (S:Sto) (p:P2 x0 y0 w0) (q:P2 x1 y1 w1):abe [.pv (v2 x0 y0 w0),.pv (v2 x1 y1 w1)] S=.ok (.pv (.lst [.int (x1*w0 - x0*w1),.int (y1*w0 - y0*w1)])) S:=by
 have e:=aix (xs:=[x0,y0]) (ys:=[x1,y1]) (w:=w0) (v:=w1) S rfl (by simp; exact ⟨p.bx.mono (by decide),p.by_.mono (by decide)⟩) (by simp; exact ⟨q.bx.mono (by decide),q.by_.mono (by decide)⟩) (p.bw.mono (by decide)) (q.bw.mono (by decide))
 exact e
theorem ajy {x0 y0 z0 w0 x1 y1 z1 w1:Int} (S:Sto) (p:P3 x0 y0 z0 w0) (q:P3 x1 y1 z1 w1):abe [.pv (v3 x0 y0 z0 w0),.pv (v3 x1 y1 z1 w1)] S=.ok (.pv (.lst [.int (x1*w0 - x0*w1),.int (y1*w0 - y0*w1),.int (z1*w0 - z0*w1)])) S:=by
 have e:=aix (xs:=[x0,y0,z0]) (ys:=[x1,y1,z1]) (w:=w0) (v:=w1) S rfl (by simp; exact ⟨p.bx.mono (by decide),p.by_.mono (by decide),p.bz.mono (by decide)⟩) (by simp; exact ⟨q.bx.mono (by decide),q.by_.mono (by decide),q.bz.mono (by decide)⟩) (p.bw.mono (by decide)) (q.bw.mono (by decide))
 exact e
theorem sb {x0 w0 x1 w1:Int} (a:Bd 1000 x0) (b:Bd 1000 w0) (c:Bd 1000 x1) (d:Bd 1000 w1):Bd 2001 (x1*w0 - x0*w1):=((c.mul b).mono (show 1000+1000≤2000 by decide)).sub ((a.mul d).mono (show 1000+1000≤2000 by decide))
theorem cb {a b c d:Int} (h1:Bd 2001 a) (h2:Bd 2001 b) (h3:Bd 2001 c) (h4:Bd 2001 d):Bd 4003 (a*b - c*d):=((h1.mul h2).mono (show 2001+2001≤4002 by decide)).sub ((h3.mul h4).mono (show 2001+2001≤4002 by decide))
def D2 (x0 y0 w0 x1 y1 w1 x2 y2 w2:Int):Int:=w0*(x1*y2 - y1*x2) - w1*(x0*y2 - y0*x2)+w2*(x0*y1 - y0*x1)
def D3 (x0 y0 z0 w0 x1 y1 z1 w1 x2 y2 z2 w2 x3 y3 z3 w3:Int):Int :=
 w0*((y1*z2 - z1*y2)*x3+(z1*x2 - x1*z2)*y3+(x1*y2 - y1*x2)*z3) - w1*((y0*z2 - z0*y2)*x3+(z0*x2 - x0*z2)*y3+(x0*y2 - y0*x2)*z3)
 + w2*((y0*z1 - z0*y1)*x3+(z0*x1 - x0*z1)*y3+(x0*y1 - y0*x1)*z3) - w3*((y0*z1 - z0*y1)*x2+(z0*x1 - x0*z1)*y2+(x0*y1 - y0*x1)*z2)
theorem apD (x0 y0 w0 x1 y1 w1 x2 y2 w2:Int):dt [-(y1*w0 - y0*w1),x1*w0 - x0*w1] [x2*w0 - x0*w2,y2*w0 - y0*w2]=w0*D2 x0 y0 w0 x1 y1 w1 x2 y2 w2:=by
 simp only [dt,D2,List.zipWith_cons_cons,List.zipWith_nil_left,List.sum_cons,List.sum_nil]
 grind
theorem am4 (x0 y0 z0 w0 x1 y1 z1 w1 x2 y2 z2 w2 x3 y3 z3 w3:Int):dt [(y1*w0 - y0*w1)*(z2*w0 - z0*w2) - (z1*w0 - z0*w1)*(y2*w0 - y0*w2),(z1*w0 - z0*w1)*(x2*w0 - x0*w2) - (x1*w0 - x0*w1)*(z2*w0 - z0*w2),(x1*w0 - x0*w1)*(y2*w0 - y0*w2) - (y1*w0 - y0*w1)*(x2*w0 - x0*w2)] [x3*w0 - x0*w3,y3*w0 - y0*w3,z3*w0 - z0*w3]=w0*w0*D3 x0 y0 z0 w0 x1 y1 z1 w1 x2 y2 z2 w2 x3 y3 z3 w3:=by
 simp only [dt,D3,List.zipWith_cons_cons,List.zipWith_nil_left,List.sum_cons,List.sum_nil]
 grind
theorem ae3 {w d:Int} (h:0 < w):sg (w*d)=sg d:=by
 unfold sg
 by_cases h1:0 < d
 ·rw [if_pos (Int.mul_pos h h1),if_pos h1]
 ·by_cases h2:d < 0
  ·have:w*d < 0:=Int.mul_neg_of_pos_of_neg h h2
   rw [if_neg (by omega),if_pos this,if_neg h1,if_pos h2]
  ·have:d=0:=by omega
   subst this
   rw [Int.mul_zero]
theorem anB {A:PV} {x0 y0 w0 x1 y1 w1 x2 y2 w2:Int} (S:Sto) (hA:Sv A [v2 x0 y0 w0,v2 x1 y1 w1,v2 x2 y2 w2]) (p:P2 x0 y0 w0) (q:P2 x1 y1 w1) (r:P2 x2 y2 w2):abg [.pv A] S=.ok (.pv (.int (w0*D2 x0 y0 w0 x1 y1 w1 x2 y2 w2))) S:=by
 have a1:=ama S p q
 have a2:=ama S p r
 have bu:=sb p.bx p.bw q.bx q.bw
 have bv:=sb p.by_ p.bw q.by_ q.bw
 have bu2:=sb p.bx p.bw r.bx r.bw
 have bv2:=sb p.by_ p.bw r.by_ r.bw
 have id:=apD x0 y0 w0 x1 y1 w1 x2 y2 w2
 generalize w0*D2 x0 y0 w0 x1 y1 w1 x2 y2 w2=D at *
 generalize x1*w0 - x0*w1=U0 at *
 generalize y1*w0 - y0*w1=U1 at *
 generalize x2*w0 - x0*w2=V0 at *
 generalize y2*w0 - y0*w2=V1 at *
 have en:=amy U0 U1 S
 have ed:=al8 (A:=.lst [.int (-U1),.int U0]) (B:=.lst [.int V0,.int V1]) (us:=[-U1,U0]) (vs:=[V0,V1]) S (.inl rfl) (.inl rfl) (by simp; exact ⟨bv.neg.mono (by decide),bu.mono (by decide)⟩) (by simp; exact ⟨bu2.mono (by decide),bv2.mono (by decide)⟩)
 rw [id] at ed
 have pre:=al5 [.lst [.int U0,.int U1]] (.lst [.int V0,.int V1])
 simp only [List.cons_append,List.nil_append] at pre
 generalize v2 x0 y0 w0=P at *
 generalize v2 x1 y1 w1=Q at *
 generalize v2 x2 y2 w2=R at *
 unfold abg fnM aci
 rcases hA with rfl | rfl
 ·have s1:=ahp P [Q,R]
  simp [EC,fAbs,aal,aak,fIx,atI,ixN,fEq,fNe,eqN,aam,aao,aap,aan,fAdd,aaj,frz,aau,aaC,mIt,aa6,mSl,mO0,mO1,abk,s1,cmpR,aav,aay,gN,a1,a2,pre,en,ed]
 ·have s1:=alh P [Q,R]
  simp [EC,fAbs,aal,aak,fIx,atI,ixN,fEq,fNe,eqN,aam,aao,aap,aan,fAdd,aaj,frz,aau,aaC,mIt,aa6,mSl,mO0,mO1,abk,s1,cmpR,aav,aay,gN,a1,a2,pre,en,ed]
theorem amI {A:PV} {x0 y0 z0 w0 x1 y1 z1 w1 x2 y2 z2 w2 x3 y3 z3 w3:Int} (S:Sto) (hA:Sv A [v3 x0 y0 z0 w0,v3 x1 y1 z1 w1,v3 x2 y2 z2 w2,v3 x3 y3 z3 w3]) (p:P3 x0 y0 z0 w0) (q:P3 x1 y1 z1 w1) (r:P3 x2 y2 z2 w2) (s:P3 x3 y3 z3 w3):abg [.pv A] S=.ok (.pv (.int (w0*w0*D3 x0 y0 z0 w0 x1 y1 z1 w1 x2 y2 z2 w2 x3 y3 z3 w3))) S:=by
 have a1:=ajy S p q
 have a2:=ajy S p r
 have a3:=ajy S p s
 have b1:=sb p.bx p.bw q.bx q.bw
 have b2:=sb p.by_ p.bw q.by_ q.bw
 have b3:=sb p.bz p.bw q.bz q.bw
 have b4:=sb p.bx p.bw r.bx r.bw
 have b5:=sb p.by_ p.bw r.by_ r.bw
 have b6:=sb p.bz p.bw r.bz r.bw
 have b7:=sb p.bx p.bw s.bx s.bw
 have b8:=sb p.by_ p.bw s.by_ s.bw
 have b9:=sb p.bz p.bw s.bz s.bw
 have id:=am4 x0 y0 z0 w0 x1 y1 z1 w1 x2 y2 z2 w2 x3 y3 z3 w3
 generalize w0*w0*D3 x0 y0 z0 w0 x1 y1 z1 w1 x2 y2 z2 w2 x3 y3 z3 w3=D at *
 generalize x1*w0 - x0*w1=U0 at *
 generalize y1*w0 - y0*w1=U1 at *
 generalize z1*w0 - z0*w1=U2 at *
 generalize x2*w0 - x0*w2=V0 at *
 generalize y2*w0 - y0*w2=V1 at *
 generalize z2*w0 - z0*w2=V2 at *
 generalize x3*w0 - x0*w3=T0 at *
 generalize y3*w0 - y0*w3=T1 at *
 generalize z3*w0 - z0*w3=T2 at *
 have h:∀ {a:Int},Bd 2001 a→Bd 10000 a:=fun h=>h.mono (by decide)
 have h4:∀ {a:Int},Bd 4003 a→Bd 100000 a:=fun h=>h.mono (by decide)
 have h2:∀ {a:Int},Bd 2001 a→Bd 100000 a:=fun h=>h.mono (by decide)
 have en:=anr S (h b1) (h b2) (h b3) (h b4) (h b5) (h b6)
 have c1:=cb b2 b6 b3 b5
 have c2:=cb b3 b4 b1 b6
 have c3:=cb b1 b5 b2 b4
 have ed:=al8 (A:=.lst [.int (U1*V2 - U2*V1),.int (U2*V0 - U0*V2),.int (U0*V1 - U1*V0)]) (B:=.lst [.int T0,.int T1,.int T2]) (us:=[U1*V2 - U2*V1,U2*V0 - U0*V2,U0*V1 - U1*V0]) (vs:=[T0,T1,T2]) S (.inl rfl) (.inl rfl) (by simp; exact ⟨h4 c1,h4 c2,h4 c3⟩) (by simp; exact ⟨h2 b7,h2 b8,h2 b9⟩)
 rw [id] at ed
 generalize U1*V2 - U2*V1=N0 at *
 generalize U2*V0 - U0*V2=N1 at *
 generalize U0*V1 - U1*V0=N2 at *
 have pre:=al5 [.lst [.int U0,.int U1,.int U2],.lst [.int V0,.int V1,.int V2]] (.lst [.int T0,.int T1,.int T2])
 simp only [List.cons_append,List.nil_append] at pre
 generalize v3 x0 y0 z0 w0=P at *
 generalize v3 x1 y1 z1 w1=Q at *
 generalize v3 x2 y2 z2 w2=R at *
 generalize v3 x3 y3 z3 w3=T at *
 unfold abg fnM aci
 rcases hA with rfl | rfl
 ·have s1:=ahp P [Q,R,T]
  simp [EC,fAbs,aal,aak,fIx,atI,ixN,fEq,fNe,eqN,aam,aao,aap,aan,fAdd,aaj,frz,aau,aaC,mIt,aa6,mSl,mO0,mO1,abk,s1,cmpR,aav,aay,gN,a1,a2,a3,pre,en,ed]
 ·have s1:=alh P [Q,R,T]
  simp [EC,fAbs,aal,aak,fIx,atI,ixN,fEq,fNe,eqN,aam,aao,aap,aan,fAdd,aaj,frz,aau,aaC,mIt,aa6,mSl,mO0,mO1,abk,s1,cmpR,aav,aay,gN,a1,a2,a3,pre,en,ed]
theorem alG {A:PV} {x0 y0 w0 x1 y1 w1 x2 y2 w2:Int} (S:Sto) (hA:Sv A [v2 x0 y0 w0,v2 x1 y1 w1,v2 x2 y2 w2]) (p:P2 x0 y0 w0) (q:P2 x1 y1 w1) (r:P2 x2 y2 w2):adc [.pv A] S=.ok (.pv (.int (sg (D2 x0 y0 w0 x1 y1 w1 x2 y2 w2)))) S:=by
 have e1:=anB S hA p q r
 have e2:=ahP (w0*D2 x0 y0 w0 x1 y1 w1 x2 y2 w2) S
 rw [ae3 p.pos] at e2
 unfold adc fnM aiC
 simp [EC,fAbs,aal,aak,fIx,atI,ixN,fEq,fNe,eqN,aam,aao,aap,aan,fAdd,aaj,frz,aau,e1,e2]
theorem akK {A:PV} {x0 y0 z0 w0 x1 y1 z1 w1 x2 y2 z2 w2 x3 y3 z3 w3:Int} (S:Sto) (hA:Sv A [v3 x0 y0 z0 w0,v3 x1 y1 z1 w1,v3 x2 y2 z2 w2,v3 x3 y3 z3 w3]) (p:P3 x0 y0 z0 w0) (q:P3 x1 y1 z1 w1) (r:P3 x2 y2 z2 w2) (s:P3 x3 y3 z3 w3):adc [.pv A] S=.ok (.pv (.int (sg (D3 x0 y0 z0 w0 x1 y1 z1 w1 x2 y2 z2 w2 x3 y3 z3 w3)))) S:=by
 have e1:=amI S hA p q r s
 have e2:=ahP (w0*w0*D3 x0 y0 z0 w0 x1 y1 z1 w1 x2 y2 z2 w2 x3 y3 z3 w3) S
 rw [ae3 (Int.mul_pos p.pos p.pos)] at e2
 unfold adc fnM aiC
 simp [EC,fAbs,aal,aak,fIx,atI,ixN,fEq,fNe,eqN,aam,aao,aap,aan,fAdd,aaj,frz,aau,e1,e2]
def Gp (n k:Nat) (v:PV):Prop:=∃ xs w,v=.tup ((xs++[w]).map .int)∧Pq n k xs w
theorem Gp.mono {n k l:Nat} {v:PV} (h:Gp n k v) (hl:k≤l):Gp n l v:=by
 obtain ⟨xs,w,e,P⟩:=h
 exact ⟨xs,w,e,P.mono hl⟩
theorem Gp.two {v:PV} (h:Gp 2 1000 v):∃ x y w,v=v2 x y w∧P2 x y w:=by
 obtain ⟨xs,w,rfl,P⟩:=h
 match xs,P.len with
 | [x,y],_=>exact ⟨x,y,w,rfl,P.bx x (by simp),P.bx y (by simp),P.bw,P.pos⟩
theorem Gp.three {v:PV} (h:Gp 3 1000 v):∃ x y z w,v=v3 x y z w∧P3 x y z w:=by
 obtain ⟨xs,w,rfl,P⟩:=h
 match xs,P.len with
 | [x,y,z],_=>exact ⟨x,y,z,w,rfl,P.bx x (by simp),P.bx y (by simp),P.bx z (by simp),P.bw,P.pos⟩
theorem aiE (S:Sto) (PL QL:List PV) (xs ys:List Int) (w v:Int) (hp:fIx (.tup PL) (.int (-1))=some (.int w)) (hq:fIx (.tup QL) (.int (-1))=some (.int v)) (hpj:∀ j:Nat,j < xs.length→fIx (.tup PL) (.int (j:Nat))=some (.int (xs.getD j 0))) (hqj:∀ j:Nat,j < xs.length→fIx (.tup QL) (.int (j:Nat))=some (.int (ys.getD j 0)))
  (bw:Bd 1000 w) (bv:Bd 1000 v) (hx:∀ j,Bd 1000 (xs.getD j 0)) (hy:∀ j,Bd 1000 (ys.getD j 0)):∀ (js:List Nat) (x:Option AV),(∀ j∈js,j < xs.length) →
  aa5 [] (gN 0) (mBin fSub (mBin fMul (mBin fIx (mVar 1) (mVar 0)) (mBin fIx (mVar 2) (mUn fNeg (mC (.int 1))))) (mBin fMul (mBin fIx (mVar 2) (mVar 0)) (mBin fIx (mVar 1) (mUn fNeg (mC (.int 1)))))) (js.map fun j=>.int (0+(j:Nat))) [x,some (.pv (.tup QL)),some (.pv (.tup PL))] S=.ok ((js.map fun j=>ys.getD j 0*w - xs.getD j 0*v).map .int) S
 | [],x,_=>aay
 | j :: js,x,h=>by
  have ih:=aiE S PL QL xs ys w v hp hq hpj hqj bw bv hx hy js (some (.pv (.int (0+(j:Nat))))) fun i hi=>h i (List.mem_cons_of_mem _ hi)
  have e1:=hpj j (h j List.mem_cons_self)
  have e2:=hqj j (h j List.mem_cons_self)
  have m1:=mB ((hx j).mono (show 1000≤2000 by decide)) (bv.mono (show 1000≤2000 by decide))
  have m2:=mB ((hy j).mono (show 1000≤2000 by decide)) (bw.mono (show 1000≤2000 by decide))
  show aa5 [] _ _ (.int (0+(j:Nat)) :: js.map fun j=>.int (0+(j:Nat))) _ S=_
  rw [aav]
  simp only [Int.zero_add] at ih ⊢
  generalize hX:xs.getD j 0=X at e1 m1
  generalize hY:ys.getD j 0=Y at e2 m2
  simp [gN,EC,fAbs,aal,aak,fEq,fNe,aaX,aam,aao,aap,aan,fAdd,aaj,frz,aau,e1,e2,hp,hq,m1,m2,ih]
  simp only [List.getD_eq_getElem?_getD] at hX hY
  rw [hX,hY]
theorem alU {xs ys:List Int} {w v:Int} (S:Sto) (hl:xs.length=ys.length) (h9:xs.length≤9) (hx:∀ x∈xs,Bd 1000 x) (hy:∀ y∈ys,Bd 1000 y) (bw:Bd 1000 w) (bv:Bd 1000 v) :
  aez [.pv (.tup ((xs++[w]).map .int)),.pv (.tup ((ys++[v]).map .int))] S=.ok (.pv (.lst ((wa xs w ys v).map .int))) S:=by
 have ip:=acD xs w
 have iq:=acD ys v
 have ec:=aiE S _ _ xs ys w v ip iq (fun j h=>aiv xs w j h) (fun j h=>aiv ys v j (by omega)) bw bv (agg hx) (agg hy) (List.range xs.length) none fun j hj=>by simpa using hj
 have er:(List.range xs.length).map (fun j=>ys.getD j 0*w - xs.getD j 0*v)=wa xs w ys v:=agu hl fun x y=>y*w - x*v
 rw [er] at ec
 have hlen:((xs++[w]).map PV.int).length=xs.length+1:=by simp
 have hr:rng1 [.pv (.int (((xs.length+1:Nat):Int) - 1))] S=.ok ((List.range xs.length).map fun j=>.int (0+(j:Nat)),[]) S:=by
  unfold rng1
  dsimp only
  rw [if_pos ⟨by omega,by omega⟩]
  have:(((xs.length+1:Nat):Int) - 1).toNat=xs.length:=by omega
  rw [this]
  rfl
 generalize (wa xs w ys v).map PV.int=ZL at ec
 generalize (List.range xs.length).map (fun j=>PV.int (0+(j:Nat)))=RL at ec hr
 generalize hP:(xs++[w]).map PV.int=PL at ip ec hlen
 generalize (ys++[v]).map PV.int=QL at iq ec
 unfold aez fnM akt
 have hr2:=hr
 rw [← hlen] at hr2
 simp [EC,fAbs,aal,aak,fEq,fNe,aaX,aam,aao,aap,aan,fAdd,aaj,frz,aau,aaC,aaE,hr2,cmpR,ec]
theorem gap2 {x0 y0 w0 x1 y1 w1:Int} (S:Sto) (p:P2 x0 y0 w0) (q:P2 x1 y1 w1):aez [.pv (v2 x0 y0 w0),.pv (v2 x1 y1 w1)] S=.ok (.pv (.lst [.int (x1*w0 - x0*w1),.int (y1*w0 - y0*w1)])) S:=by
 have e:=alU (xs:=[x0,y0]) (ys:=[x1,y1]) (w:=w0) (v:=w1) S rfl (by simp) (by simp; exact ⟨p.bx,p.by_⟩) (by simp; exact ⟨q.bx,q.by_⟩) p.bw q.bw
 exact e
theorem gap3 {x0 y0 z0 w0 x1 y1 z1 w1:Int} (S:Sto) (p:P3 x0 y0 z0 w0) (q:P3 x1 y1 z1 w1):aez [.pv (v3 x0 y0 z0 w0),.pv (v3 x1 y1 z1 w1)] S=.ok (.pv (.lst [.int (x1*w0 - x0*w1),.int (y1*w0 - y0*w1),.int (z1*w0 - z0*w1)])) S:=by
 have e:=alU (xs:=[x0,y0,z0]) (ys:=[x1,y1,z1]) (w:=w0) (v:=w1) S rfl (by simp) (by simp; exact ⟨p.bx,p.by_,p.bz⟩) (by simp; exact ⟨q.bx,q.by_,q.bz⟩) p.bw q.bw
 exact e
theorem ah5 {A:PV} {x0 y0 w0 x1 y1 w1 x2 y2 w2:Int} (S:Sto) (hA:Sv A [v2 x0 y0 w0,v2 x1 y1 w1,v2 x2 y2 w2]) (p:P2 x0 y0 w0) (q:P2 x1 y1 w1) (r:P2 x2 y2 w2):aca [.pv A] S=.ok (.pv (.int (w0*D2 x0 y0 w0 x1 y1 w1 x2 y2 w2))) S:=by
 have a1:=gap2 S p q
 have a2:=gap2 S p r
 have bu:=sb p.bx p.bw q.bx q.bw
 have bv:=sb p.by_ p.bw q.by_ q.bw
 have bu2:=sb p.bx p.bw r.bx r.bw
 have bv2:=sb p.by_ p.bw r.by_ r.bw
 have id:(x1*w0 - x0*w1)*(y2*w0 - y0*w2) - (y1*w0 - y0*w1)*(x2*w0 - x0*w2)=w0*D2 x0 y0 w0 x1 y1 w1 x2 y2 w2:=by
  unfold D2
  grind
 generalize w0*D2 x0 y0 w0 x1 y1 w1 x2 y2 w2=D at *
 generalize x1*w0 - x0*w1=U0 at *
 generalize y1*w0 - y0*w1=U1 at *
 generalize x2*w0 - x0*w2=V0 at *
 generalize y2*w0 - y0*w2=V1 at *
 have m1:=mBB bu bv2
 have m2:=mBB bv bu2
 generalize v2 x0 y0 w0=P at *
 generalize v2 x1 y1 w1=Q at *
 generalize v2 x2 y2 w2=R at *
 have et:abP [.pv (.lst [.lst [.int U0,.int U1],.lst [.int V0,.int V1]])] S=.ok (.pv (.int D)) S:=by
  unfold abP fnM adJ
  simp [EC,fAbs,aal,aak,fIx,atI,ixN,fEq,fNe,eqN,aam,aao,aap,aan,fAdd,aaj,frz,aau,m1,m2,id]
 unfold aca fnM afA
 rcases hA with rfl | rfl
 ·have s1:=ahp P [Q,R]
  simp [EC,fAbs,aal,aak,fIx,atI,ixN,fEq,fNe,eqN,aam,aao,aap,aan,fAdd,aaj,frz,aau,aaC,mIt,aa6,mSl,mO0,mO1,abk,s1,cmpR,aav,aay,gN,a1,a2,et]
 ·have s1:=alh P [Q,R]
  simp [EC,fAbs,aal,aak,fIx,atI,ixN,fEq,fNe,eqN,aam,aao,aap,aan,fAdd,aaj,frz,aau,aaC,mIt,aa6,mSl,mO0,mO1,abk,s1,cmpR,aav,aay,gN,a1,a2,et]
theorem aib {A:PV} {x0 y0 z0 w0 x1 y1 z1 w1 x2 y2 z2 w2 x3 y3 z3 w3:Int} (S:Sto) (hA:Sv A [v3 x0 y0 z0 w0,v3 x1 y1 z1 w1,v3 x2 y2 z2 w2,v3 x3 y3 z3 w3]) (p:P3 x0 y0 z0 w0) (q:P3 x1 y1 z1 w1) (r:P3 x2 y2 z2 w2) (s:P3 x3 y3 z3 w3):aca [.pv A] S=.ok (.pv (.int (w0*w0*D3 x0 y0 z0 w0 x1 y1 z1 w1 x2 y2 z2 w2 x3 y3 z3 w3))) S:=by
 have a1:=gap3 S p q
 have a2:=gap3 S p r
 have a3:=gap3 S p s
 have b1:=sb p.bx p.bw q.bx q.bw
 have b2:=sb p.by_ p.bw q.by_ q.bw
 have b3:=sb p.bz p.bw q.bz q.bw
 have b4:=sb p.bx p.bw r.bx r.bw
 have b5:=sb p.by_ p.bw r.by_ r.bw
 have b6:=sb p.bz p.bw r.bz r.bw
 have b7:=sb p.bx p.bw s.bx s.bw
 have b8:=sb p.by_ p.bw s.by_ s.bw
 have b9:=sb p.bz p.bw s.bz s.bw
 have id:=am4 x0 y0 z0 w0 x1 y1 z1 w1 x2 y2 z2 w2 x3 y3 z3 w3
 generalize w0*w0*D3 x0 y0 z0 w0 x1 y1 z1 w1 x2 y2 z2 w2 x3 y3 z3 w3=D at *
 generalize x1*w0 - x0*w1=U0 at *
 generalize y1*w0 - y0*w1=U1 at *
 generalize z1*w0 - z0*w1=U2 at *
 generalize x2*w0 - x0*w2=V0 at *
 generalize y2*w0 - y0*w2=V1 at *
 generalize z2*w0 - z0*w2=V2 at *
 generalize x3*w0 - x0*w3=T0 at *
 generalize y3*w0 - y0*w3=T1 at *
 generalize z3*w0 - z0*w3=T2 at *
 have h:∀ {a:Int},Bd 2001 a→Bd 10000 a:=fun h=>h.mono (by decide)
 have h4:∀ {a:Int},Bd 4003 a→Bd 100000 a:=fun h=>h.mono (by decide)
 have h2:∀ {a:Int},Bd 2001 a→Bd 100000 a:=fun h=>h.mono (by decide)
 have en:=aio (A:=.lst [.int U0,.int U1,.int U2]) (B:=.lst [.int V0,.int V1,.int V2]) S (.inl rfl) (.inl rfl) (h b1) (h b2) (h b3) (h b4) (h b5) (h b6)
 have c1:=cb b2 b6 b3 b5
 have c2:=cb b3 b4 b1 b6
 have c3:=cb b1 b5 b2 b4
 have ed:=ajV (A:=.lst [.int (U1*V2 - U2*V1),.int (U2*V0 - U0*V2),.int (U0*V1 - U1*V0)]) (B:=.lst [.int T0,.int T1,.int T2]) (us:=[U1*V2 - U2*V1,U2*V0 - U0*V2,U0*V1 - U1*V0]) (vs:=[T0,T1,T2]) S (.inl rfl) (.inl rfl) (by simp; exact ⟨h4 c1,h4 c2,h4 c3⟩) (by simp; exact ⟨h2 b7,h2 b8,h2 b9⟩)
 rw [id] at ed
 generalize U1*V2 - U2*V1=N0 at *
 generalize U2*V0 - U0*V2=N1 at *
 generalize U0*V1 - U1*V0=N2 at *
 generalize v3 x0 y0 z0 w0=P at *
 generalize v3 x1 y1 z1 w1=Q at *
 generalize v3 x2 y2 z2 w2=R at *
 generalize v3 x3 y3 z3 w3=T at *
 have et:abP [.pv (.lst [.lst [.int U0,.int U1,.int U2],.lst [.int V0,.int V1,.int V2],.lst [.int T0,.int T1,.int T2]])] S=.ok (.pv (.int D)) S:=by
  unfold abP fnM adJ
  simp [EC,fAbs,aal,aak,fIx,atI,ixN,fEq,fNe,eqN,aam,aao,aap,aan,fAdd,aaj,frz,aau,en,ed]
 unfold aca fnM afA
 rcases hA with rfl | rfl
 ·have s1:=ahp P [Q,R,T]
  simp [EC,fAbs,aal,aak,fIx,atI,ixN,fEq,fNe,eqN,aam,aao,aap,aan,fAdd,aaj,frz,aau,aaC,mIt,aa6,mSl,mO0,mO1,abk,s1,cmpR,aav,aay,gN,a1,a2,a3,et]
 ·have s1:=alh P [Q,R,T]
  simp [EC,fAbs,aal,aak,fIx,atI,ixN,fEq,fNe,eqN,aam,aao,aap,aan,fAdd,aaj,frz,aau,aaC,mIt,aa6,mSl,mO0,mO1,abk,s1,cmpR,aav,aay,gN,a1,a2,a3,et]
theorem farg {S:Sto} {k:Nat} {ns:List Int} (n:Nat) (hn:n=2∨n=3) (h:Row S k ns):∃ (v:PV) (ns':List Int),acF [.ref k,.pv (.int n)] S=.ok (.pv v) (S.set k (.lst (ns'.map .int)))∧Gp n 100 v:=by
 obtain ⟨xs,w,n1,e1,P,b1,b2⟩:=aoC n hn h
 exact ⟨_,n1,e1,xs,w,rfl,P.pq b1 b2⟩
theorem ann {G:Gd} {g:GM} {me:ME} {x:PV} {r:List PV} {ρ:Rho} {S:Sto} (h:gOk G S):aa5 G g me (x :: r) ρ S=(match g x ρ with
  | none=>.fail
  | some ρ1=>match me ρ1 S with
   | .ok (.pv y) S1=>match aa5 G g me r ρ1 S1 with
    | .ok ys S2=>.ok (y :: ys) S2
    | _=>.fail
   | _=>.fail):=by
 rw [aa5,if_pos h]
 all_goals rfl
theorem aly {G:Gd} {g:GM} {me:ME} {ρ:Rho} {S:Sto} (h:gOk G S):aa5 G g me [] ρ S=.ok [] S:=by
 rw [aa5,if_pos h]
theorem aic (a b c x0 y0 w0 x1 y1 w1 x2 y2 w2:Int):D2 (a*x0) (a*y0) (a*w0) (b*x1) (b*y1) (b*w1) (c*x2) (c*y2) (c*w2)=a*b*c*D2 x0 y0 w0 x1 y1 w1 x2 y2 w2:=by
 unfold D2
 grind
theorem aiy (a b c d x0 y0 z0 w0 x1 y1 z1 w1 x2 y2 z2 w2 x3 y3 z3 w3:Int):D3 (a*x0) (a*y0) (a*z0) (a*w0) (b*x1) (b*y1) (b*z1) (b*w1) (c*x2) (c*y2) (c*z2) (c*w2) (d*x3) (d*y3) (d*z3) (d*w3)=a*b*c*d*D3 x0 y0 z0 w0 x1 y1 z1 w1 x2 y2 z2 w2 x3 y3 z3 w3:=by
 unfold D3
 grind
structure R2 (x y w X Y D:Int):Prop where
 pos:0 < w
 dos:0 < D
 ex:x*D=X*w
 ey:y*D=Y*w
structure R3 (x y z w X Y Z D:Int):Prop where
 pos:0 < w
 dos:0 < D
 ex:x*D=X*w
 ey:y*D=Y*w
 ez:z*D=Z*w
theorem Pq.p2 {k:Nat} {x y w:Int} (P:Pq 2 k [x,y] w) (h:k≤1000):P2 x y w:=⟨(P.bx x (by simp)).mono h,(P.bx y (by simp)).mono h,P.bw.mono h,P.pos⟩
theorem Pq.p3 {k:Nat} {x y z w:Int} (P:Pq 3 k [x,y,z] w) (h:k≤1000):P3 x y z w:=⟨(P.bx x (by simp)).mono h,(P.bx y (by simp)).mono h,(P.bx z (by simp)).mono h,P.bw.mono h,P.pos⟩
def sgP:List PV→Int
 | [.tup [.int x0,.int y0,.int w0],.tup [.int x1,.int y1,.int w1],.tup [.int x2,.int y2,.int w2]]=>sg (D2 x0 y0 w0 x1 y1 w1 x2 y2 w2)
 | [.tup [.int x0,.int y0,.int z0,.int w0],.tup [.int x1,.int y1,.int z1,.int w1],.tup [.int x2,.int y2,.int z2,.int w2],.tup [.int x3,.int y3,.int z3,.int w3]]=>sg (D3 x0 y0 z0 w0 x1 y1 z1 w1 x2 y2 z2 w2 x3 y3 z3 w3)
 | _=>0
theorem akb {n:Nat} (hn:n=2∨n=3) {A:PV} {L:List PV} (S:Sto) (hl:L.length=n+1) (hg:∀ v∈L,Gp n 1000 v) (hA:Sv A L):adc [.pv A] S=.ok (.pv (.int (sgP L))) S:=by
 rcases hn with rfl | rfl
 ·match L,hl with
  | [P,Q,R],_ =>
   obtain ⟨x0,y0,w0,rfl,p⟩:=(hg P (by simp)).two
   obtain ⟨x1,y1,w1,rfl,q⟩:=(hg Q (by simp)).two
   obtain ⟨x2,y2,w2,rfl,r⟩:=(hg R (by simp)).two
   exact alG S hA p q r
 ·match L,hl with
  | [P,Q,R,T],_ =>
   obtain ⟨x0,y0,z0,w0,rfl,p⟩:=(hg P (by simp)).three
   obtain ⟨x1,y1,z1,w1,rfl,q⟩:=(hg Q (by simp)).three
   obtain ⟨x2,y2,z2,w2,rfl,r⟩:=(hg R (by simp)).three
   obtain ⟨x3,y3,z3,w3,rfl,s⟩:=(hg T (by simp)).three
   exact akK S hA p q r s
theorem aku (D:Int):sg (-D)=- sg D:=by
 unfold sg
 split <;> split <;> (try split) <;> (try split) <;> omega
theorem R2.self {x y w:Int} (h:0 < w):R2 x y w x y w:=⟨h,h,rfl,rfl⟩
theorem R3.self {x y z w:Int} (h:0 < w):R3 x y z w x y z w:=⟨h,h,rfl,rfl,rfl⟩
abbrev tv (us:List Int):PV:=.tup (us.map .int)
def Gu (n k:Nat) (us:List Int):Prop:=∃ xs w,us=xs++[w]∧Pq n k xs w
theorem Gu.gp {n k:Nat} {us:List Int} (h:Gu n k us):Gp n k (tv us):=by
 obtain ⟨xs,w,rfl,P⟩:=h
 exact ⟨xs,w,rfl,P⟩
theorem Gu.ne {n k:Nat} {us:List Int} (h:Gu n k us):us≠[]:=by
 obtain ⟨xs,w,rfl,P⟩:=h
 simp
theorem gps {n k:Nat} {uss:List (List Int)} (h:∀ us∈uss,Gu n k us):∀ v∈uss.map tv,Gp n k v:=fun v hv=>by
 obtain ⟨us,hu,rfl⟩:=List.mem_map.mp hv
 exact (h us hu).gp
theorem afF:∀ uss:List (List Int),aeu (uss.map tv)=some uss
 | []=>rfl
 | us :: uss=>by
  have ih:=afF uss
  show (match adf (us.map .int),aeu (uss.map tv) with | some is,some uss=>some (is :: uss) | _,_=>none)=_
  rw [ih,adB]
theorem agH {uss:List (List Int)} {n:Nat} (hl:uss.length=n) (hp:(aaL uss).Perm (List.range n)):amr (uss.map tv) uss=(abE uss).map tv:=by
 unfold amr abE
 rw [List.map_map]
 refine List.map_congr_left fun i hi=>?_
 have h:i < uss.length:=by
  have:=hp.subset hi
  rw [hl]
  simpa using this
 simp [List.getD,h]
theorem afO {A:PV} {uss:List (List Int)} (hl:uss.length=3∨uss.length=4) (hA:Sv A (uss.map tv)) (hne:∀ us∈uss,us≠[]):ae7 [A]=some (.lst ((abE uss).map tv)):=by
 have e:aiT (uss.map tv)=some (.lst ((abE uss).map tv)):=by
  unfold aiT
  rw [afF]
  dsimp only
  rcases hl with h | h
  ·obtain ⟨_,hp,_⟩:=ahn h
   rw [if_pos (show amG uss from ⟨by omega,by omega,by rw [h]; exact aoH,by rw [hp.length_eq]; simp,hne⟩),agH h hp]
  ·obtain ⟨_,hp,_⟩:=ahM h
   rw [if_pos (show amG uss from ⟨by omega,by omega,by rw [h]; exact anK,by rw [hp.length_eq]; simp,hne⟩),agH h hp]
 rcases hA with rfl | rfl
 ·exact e
 ·exact e
def swl {α:Type}:List α→List α
 | [a,b,c]=>[a,c,b]
 | [a,b,c,d]=>[a,b,d,c]
 | l=>l
theorem akz {α β:Type} (f:α→β) (l:List α):(swl l).map f=swl (l.map f):=by
 unfold swl
 split
 ·rfl
 ·rfl
 ·rename_i h1 h2
  split
  ·rename_i e
   match l,e with
   | [a,b,c],_=>exact absurd rfl (h1 a b c)
  ·rename_i e
   match l,e with
   | [a,b,c,d],_=>exact absurd rfl (h2 a b c d)
  ·rfl
theorem alB {α:Type} (l:List α):(swl l).Perm l:=by
 unfold swl
 split
 ·exact .cons _ (.swap _ _ _)
 ·exact .cons _ (.cons _ (.swap _ _ _))
 ·exact .refl _
def dU:List (List Int)→Int
 | [[x0,y0,w0],[x1,y1,w1],[x2,y2,w2]]=>D2 x0 y0 w0 x1 y1 w1 x2 y2 w2
 | [[x0,y0,z0,w0],[x1,y1,z1,w1],[x2,y2,z2,w2],[x3,y3,z3,w3]]=>D3 x0 y0 z0 w0 x1 y1 z1 w1 x2 y2 z2 w2 x3 y3 z3 w3
 | _=>0
theorem Gu.two {k:Nat} {us:List Int} (h:Gu 2 k us) (hk:k≤1000):∃ x y w,us=[x,y,w]∧P2 x y w:=by
 obtain ⟨xs,w,rfl,P⟩:=h
 match xs,P.len,P with
 | [x,y],_,P=>exact ⟨x,y,w,rfl,P.p2 hk⟩
theorem Gu.three {k:Nat} {us:List Int} (h:Gu 3 k us) (hk:k≤1000):∃ x y z w,us=[x,y,z,w]∧P3 x y z w:=by
 obtain ⟨xs,w,rfl,P⟩:=h
 match xs,P.len,P with
 | [x,y,z],_,P=>exact ⟨x,y,z,w,rfl,P.p3 hk⟩
theorem agC {n k:Nat} (hn:n=2∨n=3) (hk:k≤1000) {uss:List (List Int)} (hl:uss.length=n+1) (hg:∀ us∈uss,Gu n k us):sgP (uss.map tv)=sg (dU uss):=by
 rcases hn with rfl | rfl
 ·match uss,hl with
  | [a,b,c],_ =>
   obtain ⟨x0,y0,w0,rfl,_⟩:=(hg a (by simp)).two hk
   obtain ⟨x1,y1,w1,rfl,_⟩:=(hg b (by simp)).two hk
   obtain ⟨x2,y2,w2,rfl,_⟩:=(hg c (by simp)).two hk
   rfl
 ·match uss,hl with
  | [a,b,c,d],_ =>
   obtain ⟨x0,y0,z0,w0,rfl,_⟩:=(hg a (by simp)).three hk
   obtain ⟨x1,y1,z1,w1,rfl,_⟩:=(hg b (by simp)).three hk
   obtain ⟨x2,y2,z2,w2,rfl,_⟩:=(hg c (by simp)).three hk
   obtain ⟨x3,y3,z3,w3,rfl,_⟩:=(hg d (by simp)).three hk
   rfl
theorem aoh {x0 y0 w0 x1 y1 w1 x2 y2 w2:Int} {p:List Nat} (hp:p∈aha):dU (p.map fun i=>([[x0,y0,w0],[x1,y1,w1],[x2,y2,w2]]:List (List Int)).getD i [])=dU [[x0,y0,w0],[x1,y1,w1],[x2,y2,w2]]∨dU (p.map fun i=>([[x0,y0,w0],[x1,y1,w1],[x2,y2,w2]]:List (List Int)).getD i [])=- dU [[x0,y0,w0],[x1,y1,w1],[x2,y2,w2]]:=by
 have hp:p=[0,1,2]∨p=[0,2,1]∨p=[1,0,2]∨p=[1,2,0]∨p=[2,0,1]∨p=[2,1,0]:=by simpa [aha] using hp
 rcases hp with rfl | rfl | rfl | rfl | rfl | rfl
 ·left
  show D2 x0 y0 w0 x1 y1 w1 x2 y2 w2=D2 x0 y0 w0 x1 y1 w1 x2 y2 w2
  unfold D2
  grind
 ·right
  show D2 x0 y0 w0 x2 y2 w2 x1 y1 w1=-(D2 x0 y0 w0 x1 y1 w1 x2 y2 w2)
  unfold D2
  grind
 ·right
  show D2 x1 y1 w1 x0 y0 w0 x2 y2 w2=-(D2 x0 y0 w0 x1 y1 w1 x2 y2 w2)
  unfold D2
  grind
 ·left
  show D2 x1 y1 w1 x2 y2 w2 x0 y0 w0=D2 x0 y0 w0 x1 y1 w1 x2 y2 w2
  unfold D2
  grind
 ·left
  show D2 x2 y2 w2 x0 y0 w0 x1 y1 w1=D2 x0 y0 w0 x1 y1 w1 x2 y2 w2
  unfold D2
  grind
 ·right
  show D2 x2 y2 w2 x1 y1 w1 x0 y0 w0=-(D2 x0 y0 w0 x1 y1 w1 x2 y2 w2)
  unfold D2
  grind
theorem aoX {x0 y0 z0 w0 x1 y1 z1 w1 x2 y2 z2 w2 x3 y3 z3 w3:Int} {p:List Nat} (hp:p∈ag2):dU (p.map fun i=>([[x0,y0,z0,w0],[x1,y1,z1,w1],[x2,y2,z2,w2],[x3,y3,z3,w3]]:List (List Int)).getD i [])=dU [[x0,y0,z0,w0],[x1,y1,z1,w1],[x2,y2,z2,w2],[x3,y3,z3,w3]]∨dU (p.map fun i=>([[x0,y0,z0,w0],[x1,y1,z1,w1],[x2,y2,z2,w2],[x3,y3,z3,w3]]:List (List Int)).getD i [])=- dU [[x0,y0,z0,w0],[x1,y1,z1,w1],[x2,y2,z2,w2],[x3,y3,z3,w3]]:=by
 have hp:p=[0,1,2,3]∨p=[0,1,3,2]∨p=[0,2,1,3]∨p=[0,2,3,1]∨p=[0,3,1,2]∨p=[0,3,2,1]∨p=[1,0,2,3]∨p=[1,0,3,2]∨p=[1,2,0,3]∨p=[1,2,3,0]∨p=[1,3,0,2]∨p=[1,3,2,0]∨p=[2,0,1,3]∨p=[2,0,3,1]∨p=[2,1,0,3]∨p=[2,1,3,0]∨p=[2,3,0,1]∨p=[2,3,1,0]∨p=[3,0,1,2]∨p=[3,0,2,1]∨p=[3,1,0,2]∨p=[3,1,2,0]∨p=[3,2,0,1]∨p=[3,2,1,0]:=by simpa [ag2] using hp
 rcases hp with rfl | rfl | rfl | rfl | rfl | rfl | rfl | rfl | rfl | rfl | rfl | rfl | rfl | rfl | rfl | rfl | rfl | rfl | rfl | rfl | rfl | rfl | rfl | rfl
 ·left
  show D3 x0 y0 z0 w0 x1 y1 z1 w1 x2 y2 z2 w2 x3 y3 z3 w3=D3 x0 y0 z0 w0 x1 y1 z1 w1 x2 y2 z2 w2 x3 y3 z3 w3
  unfold D3
  grind
 ·right
  show D3 x0 y0 z0 w0 x1 y1 z1 w1 x3 y3 z3 w3 x2 y2 z2 w2=-(D3 x0 y0 z0 w0 x1 y1 z1 w1 x2 y2 z2 w2 x3 y3 z3 w3)
  unfold D3
  grind
 ·right
  show D3 x0 y0 z0 w0 x2 y2 z2 w2 x1 y1 z1 w1 x3 y3 z3 w3=-(D3 x0 y0 z0 w0 x1 y1 z1 w1 x2 y2 z2 w2 x3 y3 z3 w3)
  unfold D3
  grind
 ·left
  show D3 x0 y0 z0 w0 x2 y2 z2 w2 x3 y3 z3 w3 x1 y1 z1 w1=D3 x0 y0 z0 w0 x1 y1 z1 w1 x2 y2 z2 w2 x3 y3 z3 w3
  unfold D3
  grind
 ·left
  show D3 x0 y0 z0 w0 x3 y3 z3 w3 x1 y1 z1 w1 x2 y2 z2 w2=D3 x0 y0 z0 w0 x1 y1 z1 w1 x2 y2 z2 w2 x3 y3 z3 w3
  unfold D3
  grind
 ·right
  show D3 x0 y0 z0 w0 x3 y3 z3 w3 x2 y2 z2 w2 x1 y1 z1 w1=-(D3 x0 y0 z0 w0 x1 y1 z1 w1 x2 y2 z2 w2 x3 y3 z3 w3)
  unfold D3
  grind
 ·right
  show D3 x1 y1 z1 w1 x0 y0 z0 w0 x2 y2 z2 w2 x3 y3 z3 w3=-(D3 x0 y0 z0 w0 x1 y1 z1 w1 x2 y2 z2 w2 x3 y3 z3 w3)
  unfold D3
  grind
 ·left
  show D3 x1 y1 z1 w1 x0 y0 z0 w0 x3 y3 z3 w3 x2 y2 z2 w2=D3 x0 y0 z0 w0 x1 y1 z1 w1 x2 y2 z2 w2 x3 y3 z3 w3
  unfold D3
  grind
 ·left
  show D3 x1 y1 z1 w1 x2 y2 z2 w2 x0 y0 z0 w0 x3 y3 z3 w3=D3 x0 y0 z0 w0 x1 y1 z1 w1 x2 y2 z2 w2 x3 y3 z3 w3
  unfold D3
  grind
 ·right
  show D3 x1 y1 z1 w1 x2 y2 z2 w2 x3 y3 z3 w3 x0 y0 z0 w0=-(D3 x0 y0 z0 w0 x1 y1 z1 w1 x2 y2 z2 w2 x3 y3 z3 w3)
  unfold D3
  grind
 ·right
  show D3 x1 y1 z1 w1 x3 y3 z3 w3 x0 y0 z0 w0 x2 y2 z2 w2=-(D3 x0 y0 z0 w0 x1 y1 z1 w1 x2 y2 z2 w2 x3 y3 z3 w3)
  unfold D3
  grind
 ·left
  show D3 x1 y1 z1 w1 x3 y3 z3 w3 x2 y2 z2 w2 x0 y0 z0 w0=D3 x0 y0 z0 w0 x1 y1 z1 w1 x2 y2 z2 w2 x3 y3 z3 w3
  unfold D3
  grind
 ·left
  show D3 x2 y2 z2 w2 x0 y0 z0 w0 x1 y1 z1 w1 x3 y3 z3 w3=D3 x0 y0 z0 w0 x1 y1 z1 w1 x2 y2 z2 w2 x3 y3 z3 w3
  unfold D3
  grind
 ·right
  show D3 x2 y2 z2 w2 x0 y0 z0 w0 x3 y3 z3 w3 x1 y1 z1 w1=-(D3 x0 y0 z0 w0 x1 y1 z1 w1 x2 y2 z2 w2 x3 y3 z3 w3)
  unfold D3
  grind
 ·right
  show D3 x2 y2 z2 w2 x1 y1 z1 w1 x0 y0 z0 w0 x3 y3 z3 w3=-(D3 x0 y0 z0 w0 x1 y1 z1 w1 x2 y2 z2 w2 x3 y3 z3 w3)
  unfold D3
  grind
 ·left
  show D3 x2 y2 z2 w2 x1 y1 z1 w1 x3 y3 z3 w3 x0 y0 z0 w0=D3 x0 y0 z0 w0 x1 y1 z1 w1 x2 y2 z2 w2 x3 y3 z3 w3
  unfold D3
  grind
 ·left
  show D3 x2 y2 z2 w2 x3 y3 z3 w3 x0 y0 z0 w0 x1 y1 z1 w1=D3 x0 y0 z0 w0 x1 y1 z1 w1 x2 y2 z2 w2 x3 y3 z3 w3
  unfold D3
  grind
 ·right
  show D3 x2 y2 z2 w2 x3 y3 z3 w3 x1 y1 z1 w1 x0 y0 z0 w0=-(D3 x0 y0 z0 w0 x1 y1 z1 w1 x2 y2 z2 w2 x3 y3 z3 w3)
  unfold D3
  grind
 ·right
  show D3 x3 y3 z3 w3 x0 y0 z0 w0 x1 y1 z1 w1 x2 y2 z2 w2=-(D3 x0 y0 z0 w0 x1 y1 z1 w1 x2 y2 z2 w2 x3 y3 z3 w3)
  unfold D3
  grind
 ·left
  show D3 x3 y3 z3 w3 x0 y0 z0 w0 x2 y2 z2 w2 x1 y1 z1 w1=D3 x0 y0 z0 w0 x1 y1 z1 w1 x2 y2 z2 w2 x3 y3 z3 w3
  unfold D3
  grind
 ·left
  show D3 x3 y3 z3 w3 x1 y1 z1 w1 x0 y0 z0 w0 x2 y2 z2 w2=D3 x0 y0 z0 w0 x1 y1 z1 w1 x2 y2 z2 w2 x3 y3 z3 w3
  unfold D3
  grind
 ·right
  show D3 x3 y3 z3 w3 x1 y1 z1 w1 x2 y2 z2 w2 x0 y0 z0 w0=-(D3 x0 y0 z0 w0 x1 y1 z1 w1 x2 y2 z2 w2 x3 y3 z3 w3)
  unfold D3
  grind
 ·right
  show D3 x3 y3 z3 w3 x2 y2 z2 w2 x0 y0 z0 w0 x1 y1 z1 w1=-(D3 x0 y0 z0 w0 x1 y1 z1 w1 x2 y2 z2 w2 x3 y3 z3 w3)
  unfold D3
  grind
 ·left
  show D3 x3 y3 z3 w3 x2 y2 z2 w2 x1 y1 z1 w1 x0 y0 z0 w0=D3 x0 y0 z0 w0 x1 y1 z1 w1 x2 y2 z2 w2 x3 y3 z3 w3
  unfold D3
  grind
theorem ajB {n k:Nat} (hn:n=2∨n=3) (hk:k≤1000) {uss:List (List Int)} (hl:uss.length=n+1) (hg:∀ us∈uss,Gu n k us):dU (abE uss)=dU uss∨dU (abE uss)=- dU uss:=by
 rcases hn with rfl | rfl
 ·obtain ⟨m,hp,_⟩:=ahn hl
  unfold abE
  generalize aaL uss=p at *
  match uss,hl with
  | [a,b,c],_ =>
   obtain ⟨x0,y0,w0,rfl,_⟩:=(hg a (by simp)).two hk
   obtain ⟨x1,y1,w1,rfl,_⟩:=(hg b (by simp)).two hk
   obtain ⟨x2,y2,w2,rfl,_⟩:=(hg c (by simp)).two hk
   exact aoh m
 ·obtain ⟨m,hp,_⟩:=ahM hl
  unfold abE
  generalize aaL uss=p at *
  match uss,hl with
  | [a,b,c,d],_ =>
   obtain ⟨x0,y0,z0,w0,rfl,_⟩:=(hg a (by simp)).three hk
   obtain ⟨x1,y1,z1,w1,rfl,_⟩:=(hg b (by simp)).three hk
   obtain ⟨x2,y2,z2,w2,rfl,_⟩:=(hg c (by simp)).three hk
   obtain ⟨x3,y3,z3,w3,rfl,_⟩:=(hg d (by simp)).three hk
   exact aoX m
theorem akg {n:Nat} (hn:n=2∨n=3) {uss:List (List Int)} (hl:uss.length=n+1):uss.length=3∨uss.length=4:=by
 rcases hn with rfl | rfl
 ·exact .inl hl
 ·exact .inr hl
theorem akV {n:Nat} (hn:n=2∨n=3) {uss:List (List Int)} (hl:uss.length=n+1) (hg:∀ us∈uss,Gu n 1000 us):sgP ((abE uss).map tv)=sgP (uss.map tv)∨sgP ((abE uss).map tv)=- sgP (uss.map tv):=by
 have hp:=(acb (akg hn hl)).1
 rw [agC hn (Nat.le_refl 1000) (by rw [hp.length_eq,hl]) (fun us hu=>hg us (hp.subset hu)),agC hn (Nat.le_refl 1000) hl hg]
 rcases ajB hn (Nat.le_refl 1000) hl hg with e | e
 ·exact .inl (by rw [e])
 ·exact .inr (by rw [e,aku])
theorem amM {n:Nat} (hn:n=2∨n=3) {A:PV} {L:List PV} (S:Sto) (hl:L.length=n+1) (hg:∀ v∈L,Gp n 1000 v) (hA:Sv A L):∃ d:Int,aca [.pv A] S=.ok (.pv (.int d)) S∧sg d=sgP L:=by
 rcases hn with rfl | rfl
 ·match L,hl with
  | [P,Q,R],_ =>
   obtain ⟨x0,y0,w0,rfl,p⟩:=(hg P (by simp)).two
   obtain ⟨x1,y1,w1,rfl,q⟩:=(hg Q (by simp)).two
   obtain ⟨x2,y2,w2,rfl,r⟩:=(hg R (by simp)).two
   exact ⟨_,ah5 S hA p q r,ae3 p.pos⟩
 ·match L,hl with
  | [P,Q,R,T],_ =>
   obtain ⟨x0,y0,z0,w0,rfl,p⟩:=(hg P (by simp)).three
   obtain ⟨x1,y1,z1,w1,rfl,q⟩:=(hg Q (by simp)).three
   obtain ⟨x2,y2,z2,w2,rfl,r⟩:=(hg R (by simp)).three
   obtain ⟨x3,y3,z3,w3,rfl,s⟩:=(hg T (by simp)).three
   exact ⟨_,aib S hA p q r s,ae3 (Int.mul_pos p.pos p.pos)⟩
def cnr (uss:List (List Int)):List (List Int):=if sgP ((abE uss).map tv) < 0 then swl (abE uss) else abE uss
theorem an0 {n:Nat} (hn:n=2∨n=3) {L:List PV} (hl:L.length=n+1):∃ a b M,fSl (.lst L) none (some (-2))=some (.lst M)∧fIx (.lst L) (.int (-1))=some a∧fIx (.lst L) (.int (-2))=some b∧fAdd (.lst M) (.lst [a,b])=some (.lst (swl L)):=by
 rcases hn with rfl | rfl
 ·match L,hl with
  | [P,Q,R],_=>exact ⟨R,Q,[P],rfl,rfl,rfl,rfl⟩
 ·match L,hl with
  | [P,Q,R,T],_=>exact ⟨T,R,[P,Q],rfl,rfl,rfl,rfl⟩
theorem adI {n:Nat} (hn:n=2∨n=3) {A:PV} {uss:List (List Int)} (S:Sto) (hl:uss.length=n+1) (hg:∀ us∈uss,Gu n 1000 us) (hA:Sv A (uss.map tv)):aaU [.pv A] S=.ok (.pv (.tup ((cnr uss).map tv))) S:=by
 have h34:uss.length=3∨uss.length=4:=by omega
 have e1:=afO h34 hA fun us hu=>(hg us hu).ne
 obtain ⟨pm,_⟩:=acb h34
 have hl2:((abE uss).map tv).length=n+1:=by rw [List.length_map,pm.length_eq]; exact hl
 have hg2:∀ v∈(abE uss).map tv,Gp n 1000 v:=gps fun us hu=>hg us (pm.subset hu)
 obtain ⟨d,e2,hd⟩:=amM (A:=.lst ((abE uss).map tv)) hn S hl2 hg2 (.inl rfl)
 obtain ⟨a,b,M,t1,t2,t3,t4⟩:=an0 hn hl2
 unfold cnr
 have hlt:d < 0↔sgP ((abE uss).map tv) < 0:=by
  rw [← hd]
  unfold sg
  split
  ·omega
  ·split <;> omega
 by_cases h:d < 0
 ·rw [if_pos (hlt.mp h),akz]
  generalize (abE uss).map tv=L at *
  unfold aaU fnM adt
  simp [EC,fAbs,aal,aak,fEq,fNe,aaX,aam,aao,aap,aan,frz,aau,e1,e2,h,mSl,mO0,mO1,abk,t1,t2,t3,t4]
 ·rw [if_neg (fun z=>h (hlt.mpr z))]
  generalize (abE uss).map tv=L at *
  unfold aaU fnM adt
  simp [EC,fAbs,aal,aak,fEq,fNe,aaX,aam,aao,aap,aan,frz,aau,e1,e2,h]
theorem ajb {n:Nat} (hn:n=2∨n=3) {A:PV} {uss:List (List Int)} (S:Sto) (hl:uss.length=n+1) (hg:∀ us∈uss,Gu n 1000 us) (hA:Sv A (uss.map tv)) (h0:sgP (uss.map tv)≠0):ab9 [.pv A] S=.ok (.pv (.tup ((cnr uss).map tv))) S:=by
 have h34:uss.length=3∨uss.length=4:=by omega
 have e1:=afO h34 hA fun us hu=>(hg us hu).ne
 obtain ⟨pm,_⟩:=acb h34
 have hl2:((abE uss).map tv).length=n+1:=by rw [List.length_map,pm.length_eq]; exact hl
 have hg2:∀ v∈(abE uss).map tv,Gp n 1000 v:=gps fun us hu=>hg us (pm.subset hu)
 have e2:=akb (A:=.lst ((abE uss).map tv)) hn S hl2 hg2 (.inl rfl)
 have h1:sgP ((abE uss).map tv)≠0:=by rcases akV hn hl hg with e | e <;> omega
 obtain ⟨a,b,M,t1,t2,t3,t4⟩:=an0 hn hl2
 unfold cnr
 by_cases h:sgP ((abE uss).map tv) < 0
 ·rw [if_pos h,akz]
  generalize (abE uss).map tv=L at *
  generalize sgP L=D at *
  unfold ab9 fnM acP
  simp [EC,fAbs,aal,aak,fEq,fNe,aaX,aam,aao,aap,aan,frz,aau,e1,e2,h,h1,mSl,mO0,mO1,abk,t1,t2,t3,t4]
 ·rw [if_neg h]
  generalize (abE uss).map tv=L at *
  generalize sgP L=D at *
  unfold ab9 fnM acP
  simp [EC,fAbs,aal,aak,fEq,fNe,aaX,aam,aao,aap,aan,frz,aau,e1,e2,h,h1]
theorem af6 {uss:List (List Int)} (h:uss.length=3∨uss.length=4):(cnr uss).Perm uss:=by
 obtain ⟨pm,_⟩:=acb h
 unfold cnr
 split
 ·exact (alB _).trans pm
 ·exact pm
theorem amP {uss:List (List Int)} (h:uss.length=3∨uss.length=4):cnr (cnr uss)=cnr uss:=by
 have e:=afW (af6 h) h
 unfold cnr at e ⊢
 rw [e]
def wU:List (List Int)→Int
 | []=>1
 | us :: r=>us.getLastD 0*wU r
theorem Gu.mono {n k l:Nat} {us:List Int} (h:Gu n k us) (hl:k≤l):Gu n l us:=by
 obtain ⟨xs,w,e,P⟩:=h
 exact ⟨xs,w,e,P.mono hl⟩
theorem amV {d:Int}:sg d=0↔d=0:=by
 unfold sg
 split
 ·omega
 ·split <;> omega
theorem aoz {d:Int}:sg d < 0↔d < 0:=by
 unfold sg
 split
 ·omega
 ·split <;> omega
theorem ao1 {n k:Nat} (hn:n=2∨n=3) (hk:k≤1000) {uss:List (List Int)} (hl:uss.length=n+1) (hg:∀ us∈uss,Gu n k us):dU (swl uss)=- dU uss:=by
 rcases hn with rfl | rfl
 ·match uss,hl with
  | [a,b,c],_ =>
   obtain ⟨x0,y0,w0,rfl,_⟩:=(hg a (by simp)).two hk
   obtain ⟨x1,y1,w1,rfl,_⟩:=(hg b (by simp)).two hk
   obtain ⟨x2,y2,w2,rfl,_⟩:=(hg c (by simp)).two hk
   show D2 x0 y0 w0 x2 y2 w2 x1 y1 w1=-(D2 x0 y0 w0 x1 y1 w1 x2 y2 w2)
   unfold D2
   grind
 ·match uss,hl with
  | [a,b,c,d],_ =>
   obtain ⟨x0,y0,z0,w0,rfl,_⟩:=(hg a (by simp)).three hk
   obtain ⟨x1,y1,z1,w1,rfl,_⟩:=(hg b (by simp)).three hk
   obtain ⟨x2,y2,z2,w2,rfl,_⟩:=(hg c (by simp)).three hk
   obtain ⟨x3,y3,z3,w3,rfl,_⟩:=(hg d (by simp)).three hk
   show D3 x0 y0 z0 w0 x1 y1 z1 w1 x3 y3 z3 w3 x2 y2 z2 w2=-(D3 x0 y0 z0 w0 x1 y1 z1 w1 x2 y2 z2 w2 x3 y3 z3 w3)
   unfold D3
   grind
theorem ajd {n k:Nat} (hn:n=2∨n=3) (hk:k≤1000) {uss:List (List Int)} (hl:uss.length=n+1) (hg:∀ us∈uss,Gu n k us):dU (cnr uss)=((dU uss).natAbs:Int):=by
 have hp:=(acb (akg hn hl)).1
 have gs:∀ us∈abE uss,Gu n k us:=fun us hu=>hg us (hp.subset hu)
 have ls:(abE uss).length=n+1:=by rw [hp.length_eq,hl]
 have e:=ajB hn hk hl hg
 have s:=ao1 hn hk ls gs
 have q:=agC hn hk ls gs
 unfold cnr
 split
 ·rename_i h
  rw [q,aoz] at h
  rw [s]
  omega
 ·rename_i h
  rw [q,aoz] at h
  omega
theorem ag7 {n k:Nat}:∀ {uss:List (List Int)},(∀ us∈uss,Gu n k us)→0 < wU uss
 | [],_=>by decide
 | us :: r,h=>by
  unfold wU
  obtain ⟨xs,w,rfl,P⟩:=h us List.mem_cons_self
  refine Int.mul_pos ?_ (ag7 fun u hu=>h u (List.mem_cons_of_mem _ hu))
  rw [show (xs++[w]).getLastD 0=w by simp]
  exact P.pos
structure Sx (n k:Nat) (uss:List (List Int)):Prop where
 len:uss.length=n+1
 gu:∀ us∈uss,Gu n k us
 nz:dU uss≠0
 cn:cnr uss=uss
abbrev px (uss:List (List Int)):PV:=.tup (uss.map tv)
theorem amx {n k:Nat} (hn:n=2∨n=3) (hk:k≤1000) {uss:List (List Int)} (hl:uss.length=n+1) (hg:∀ us∈uss,Gu n k us) (nz:dU uss≠0):Sx n k (cnr uss):=by
 have hp:=af6 (akg hn hl)
 refine ⟨by rw [hp.length_eq,hl],fun us hu=>hg us (hp.subset hu),?_,amP (akg hn hl)⟩
 rw [ajd hn hk hl hg]
 omega
def AffU (n:Nat) (A C:Nat→Int) (E:Int) (us us':List Int):Prop:=∃ xs w xs' w',us=xs++[w]∧us'=xs'++[w']∧xs.length=n∧xs'.length=n∧0 < w∧0 < w'∧∀ j,j < n→xs'.getD j 0*(E*w)=(A j*xs.getD j 0+C j*w)*w'
theorem AffU.two {A C:Nat→Int} {E:Int} {us us':List Int} (h:AffU 2 A C E us us'):∃ x y w x' y' w',us=[x,y,w]∧us'=[x',y',w']∧x'*(E*w)=(A 0*x+C 0*w)*w'∧y'*(E*w)=(A 1*y+C 1*w)*w':=by
 obtain ⟨xs,w,xs',w',rfl,rfl,l,l',_,_,h⟩:=h
 match xs,l,xs',l',h with
 | [x,y],_,[x',y'],_,h=>exact ⟨x,y,w,x',y',w',rfl,rfl,h 0 (by decide),h 1 (by decide)⟩
theorem AffU.three {A C:Nat→Int} {E:Int} {us us':List Int} (h:AffU 3 A C E us us'):∃ x y z w x' y' z' w',us=[x,y,z,w]∧us'=[x',y',z',w']∧x'*(E*w)=(A 0*x+C 0*w)*w'∧y'*(E*w)=(A 1*y+C 1*w)*w'∧z'*(E*w)=(A 2*z+C 2*w)*w':=by
 obtain ⟨xs,w,xs',w',rfl,rfl,l,l',_,_,h⟩:=h
 match xs,l,xs',l',h with
 | [x,y,z],_,[x',y',z'],_,h=>exact ⟨x,y,z,w,x',y',z',w',rfl,rfl,h 0 (by decide),h 1 (by decide),h 2 (by decide)⟩
theorem aps (a b c d E x0 y0 w0 x1 y1 w1 x2 y2 w2:Int):D2 (a*x0+c*w0) (b*y0+d*w0) (E*w0) (a*x1+c*w1) (b*y1+d*w1) (E*w1) (a*x2+c*w2) (b*y2+d*w2) (E*w2)=a*b*E*D2 x0 y0 w0 x1 y1 w1 x2 y2 w2:=by
 unfold D2
 grind
theorem apR (a b p c d e E x0 y0 z0 w0 x1 y1 z1 w1 x2 y2 z2 w2 x3 y3 z3 w3:Int):D3 (a*x0+c*w0) (b*y0+d*w0) (p*z0+e*w0) (E*w0) (a*x1+c*w1) (b*y1+d*w1) (p*z1+e*w1) (E*w1) (a*x2+c*w2) (b*y2+d*w2) (p*z2+e*w2) (E*w2) (a*x3+c*w3) (b*y3+d*w3) (p*z3+e*w3) (E*w3)=a*b*p*E*D3 x0 y0 z0 w0 x1 y1 z1 w1 x2 y2 z2 w2 x3 y3 z3 w3:=by
 unfold D3
 grind
theorem cm (a b:Int) {c:Int} (h:a*b=c):b*a=c:=by rw [Int.mul_comm]; exact h
theorem vol2 {A C:Nat→Int} {E:Int} {P Q R P' Q' R':List Int} (h0:AffU 2 A C E P P') (h1:AffU 2 A C E Q Q') (h2:AffU 2 A C E R R'):dU [P',Q',R']*(E*E*E*wU [P,Q,R])=A 0*A 1*E*dU [P,Q,R]*wU [P',Q',R']:=by
 obtain ⟨x0,y0,w0,X0,Y0,W0,rfl,rfl,p,q⟩:=h0.two
 obtain ⟨x1,y1,w1,X1,Y1,W1,rfl,rfl,p1,q1⟩:=h1.two
 obtain ⟨x2,y2,w2,X2,Y2,W2,rfl,rfl,p2,q2⟩:=h2.two
 have e:=aic (E*w0) (E*w1) (E*w2) X0 Y0 W0 X1 Y1 W1 X2 Y2 W2
 have f:=aic W0 W1 W2 (A 0*x0+C 0*w0) (A 1*y0+C 1*w0) (E*w0) (A 0*x1+C 0*w1) (A 1*y1+C 1*w1) (E*w1) (A 0*x2+C 0*w2) (A 1*y2+C 1*w2) (E*w2)
 rw [aps] at f
 rw [cm _ _ p,cm _ _ q,cm _ _ p1,cm _ _ q1,cm _ _ p2,cm _ _ q2,Int.mul_comm _ W0,Int.mul_comm _ W0,Int.mul_comm _ W0,Int.mul_comm _ W1,Int.mul_comm _ W1,Int.mul_comm _ W1,Int.mul_comm _ W2,Int.mul_comm _ W2,Int.mul_comm _ W2] at e
 have g:=e.symm.trans f
 show D2 X0 Y0 W0 X1 Y1 W1 X2 Y2 W2*(E*E*E*(w0*(w1*(w2*1))))=A 0*A 1*E*D2 x0 y0 w0 x1 y1 w1 x2 y2 w2*(W0*(W1*(W2*1)))
 generalize D2 X0 Y0 W0 X1 Y1 W1 X2 Y2 W2=d at g ⊢
 generalize D2 x0 y0 w0 x1 y1 w1 x2 y2 w2=d' at g ⊢
 clear e f p q p1 q1 p2 q2 h0 h1 h2
 grind
theorem vol3 {A C:Nat→Int} {E:Int} {P Q R T P' Q' R' T':List Int} (h0:AffU 3 A C E P P') (h1:AffU 3 A C E Q Q') (h2:AffU 3 A C E R R') (h3:AffU 3 A C E T T'):dU [P',Q',R',T']*(E*E*E*E*wU [P,Q,R,T])=A 0*A 1*A 2*E*dU [P,Q,R,T]*wU [P',Q',R',T']:=by
 obtain ⟨x0,y0,z0,w0,X0,Y0,Z0,W0,rfl,rfl,p,q,r⟩:=h0.three
 obtain ⟨x1,y1,z1,w1,X1,Y1,Z1,W1,rfl,rfl,p1,q1,r1⟩:=h1.three
 obtain ⟨x2,y2,z2,w2,X2,Y2,Z2,W2,rfl,rfl,p2,q2,r2⟩:=h2.three
 obtain ⟨x3,y3,z3,w3,X3,Y3,Z3,W3,rfl,rfl,p3,q3,r3⟩:=h3.three
 have e:=aiy (E*w0) (E*w1) (E*w2) (E*w3) X0 Y0 Z0 W0 X1 Y1 Z1 W1 X2 Y2 Z2 W2 X3 Y3 Z3 W3
 have f:=aiy W0 W1 W2 W3 (A 0*x0+C 0*w0) (A 1*y0+C 1*w0) (A 2*z0+C 2*w0) (E*w0) (A 0*x1+C 0*w1) (A 1*y1+C 1*w1) (A 2*z1+C 2*w1) (E*w1) (A 0*x2+C 0*w2) (A 1*y2+C 1*w2) (A 2*z2+C 2*w2) (E*w2) (A 0*x3+C 0*w3) (A 1*y3+C 1*w3) (A 2*z3+C 2*w3) (E*w3)
 rw [apR] at f
 rw [cm _ _ p,cm _ _ q,cm _ _ r,cm _ _ p1,cm _ _ q1,cm _ _ r1,cm _ _ p2,cm _ _ q2,cm _ _ r2,cm _ _ p3,cm _ _ q3,cm _ _ r3] at e
 have cW:∀ a W:Int,a*W=W*a:=Int.mul_comm
 rw [cW _ W0,cW _ W0,cW _ W0,cW _ W0,cW _ W1,cW _ W1,cW _ W1,cW _ W1,cW _ W2,cW _ W2,cW _ W2,cW _ W2,cW _ W3,cW _ W3,cW _ W3,cW _ W3] at e
 have g:=e.symm.trans f
 show D3 X0 Y0 Z0 W0 X1 Y1 Z1 W1 X2 Y2 Z2 W2 X3 Y3 Z3 W3*(E*E*E*E*(w0*(w1*(w2*(w3*1)))))=A 0*A 1*A 2*E*D3 x0 y0 z0 w0 x1 y1 z1 w1 x2 y2 z2 w2 x3 y3 z3 w3*(W0*(W1*(W2*(W3*1))))
 generalize D3 X0 Y0 Z0 W0 X1 Y1 Z1 W1 X2 Y2 Z2 W2 X3 Y3 Z3 W3=d at g ⊢
 generalize D3 x0 y0 z0 w0 x1 y1 z1 w1 x2 y2 z2 w2 x3 y3 z3 w3=d' at g ⊢
 clear e f p q r p1 q1 r1 p2 q2 r2 p3 q3 r3 h0 h1 h2 h3 cW
 grind
def mvU (way:Int) (f us:List Int):List Int:=mv way us.dropLast (us.getLastD 0) f.dropLast (f.getLastD 0)
theorem ajJ (way:Int) (xs:List Int) (w:Int) (ys:List Int) (v:Int):mvU way (ys++[v]) (xs++[w])=mv way xs w ys v:=by
 unfold mvU
 simp
theorem acO {n k l:Nat} {way:Int} {us f:List Int} (hway:way=1∨way=-1) (h:Gu n k us) (g:Gu n l f):Gu n (k+l+1) (mvU way f us)∧AffU n (fun _=>way*f.getLastD 0) (fun j=>f.getD j 0) (f.getLastD 0) us (mvU way f us):=by
 obtain ⟨xs,w,rfl,P⟩:=h
 obtain ⟨ys,v,rfl,Q⟩:=g
 rw [ajJ]
 obtain ⟨zs,z,e,Z,hv⟩:=apo hway P Q
 rw [e]
 refine ⟨⟨zs,z,rfl,Z⟩,xs,w,zs,z,rfl,rfl,P.len,Z.len,P.pos,Z.pos,fun j hj=>?_⟩
 have a:=hv _ _ _ _ (Vl.self n xs w) (Vl.self n ys v) P.pos Q.pos j hj
 rw [show (ys++[v]).getLastD 0=v by simp]
 have eg:(ys++[v]).getD j 0=ys.getD j 0:=by
  have:j < ys.length:=by rw [Q.len]; exact hj
  simp [List.getD,List.getElem?_append_left this]
 dsimp only at a ⊢
 rw [eg]
 generalize ys.getD j 0=y at a ⊢
 generalize xs.getD j 0=x at a ⊢
 generalize zs.getD j 0=t at a ⊢
 rw [Int.mul_comm v w,a]
 grind
theorem akA {n k l:Nat} {way:Int} {us f:List Int} (S:Sto) (hn:n=2∨n=3) (hway:way=1∨way=-1) (h:Gu n k us) (g:Gu n l f) (hk:k≤1000) (hl:l≤1000):abh [.pv (tv us),.pv (tv f),.pv (.int way)] S=.ok (.pv (tv (mvU way f us))) S:=by
 obtain ⟨xs,w,rfl,P⟩:=h
 obtain ⟨ys,v,rfl,Q⟩:=g
 rw [ajJ]
 exact ant S hn hway P Q hk hl
theorem ajO {a b w v:Int} (hw:0 < w) (hv:0 < v) (h:a*w=b*v∨a*w=-(b*v)):(a.natAbs:Int)*w=(b.natAbs:Int)*v:=by
 have e:(a*w).natAbs=(b*v).natAbs:=by
  rcases h with h | h
  ·rw [h]
  ·rw [h,Int.natAbs_neg]
 rw [Int.natAbs_mul,Int.natAbs_mul] at e
 have e1:((w.natAbs:Nat):Int)=w:=by omega
 have e2:((v.natAbs:Nat):Int)=v:=by omega
 have e3:((a.natAbs*w.natAbs:Nat):Int)=((b.natAbs*v.natAbs:Nat):Int):=by rw [e]
 rw [Int.natCast_mul,Int.natCast_mul,e1,e2] at e3
 exact e3
theorem can2 {v d d' w w':Int} {way:Int} (hv:0 < v) (hway:way=1∨way=-1) (h:d'*(v*v*v*w)=way*v*(way*v)*v*d*w'):d'*w=d*w':=by
 have e:(d'*w)*(v*v*v)=(d*w')*(v*v*v):=by rcases hway with rfl | rfl <;> grind
 exact aiD (Int.mul_pos (Int.mul_pos hv hv) hv) e
theorem can3 {v d d' w w':Int} {way:Int} (hv:0 < v) (hway:way=1∨way=-1) (h:d'*(v*v*v*v*w)=way*v*(way*v)*(way*v)*v*d*w'):d'*w=d*w'∨d'*w=-(d*w'):=by
 have p:=Int.mul_pos (Int.mul_pos (Int.mul_pos hv hv) hv) hv
 rcases hway with rfl | rfl
 ·left
  have e:(d'*w)*(v*v*v*v)=(d*w')*(v*v*v*v):=by grind
  exact aiD p e
 ·right
  have e:(d'*w)*(v*v*v*v)=(-(d*w'))*(v*v*v*v):=by grind
  exact aiD p e
theorem ajK {n k l:Nat} {way:Int} {f:List Int} {uss:List (List Int)} (hway:way=1∨way=-1) (hg:∀ us∈uss,Gu n k us) (g:Gu n l f):∀ us∈uss.map (mvU way f),Gu n (k+l+1) us:=fun us hu=>by
 obtain ⟨u,hm,rfl⟩:=List.mem_map.mp hu
 exact (acO hway (hg u hm) g).1
theorem Gu.lastpos {n k:Nat} {f:List Int} (h:Gu n k f):0 < f.getLastD 0:=by
 obtain ⟨xs,w,rfl,P⟩:=h
 rw [show (xs++[w]).getLastD 0=w by simp]
 exact P.pos
theorem aoj {n k l:Nat} (hn:n=2∨n=3) {way:Int} {f:List Int} {uss:List (List Int)} (hway:way=1∨way=-1) (hl:uss.length=n+1) (hg:∀ us∈uss,Gu n k us) (g:Gu n l f):((dU (uss.map (mvU way f))).natAbs:Int)*wU uss=((dU uss).natAbs:Int)*wU (uss.map (mvU way f)):=by
 have hv:=g.lastpos
 have p1:=ag7 hg
 have p2:=ag7 (ajK hway hg g)
 refine ajO p1 p2 ?_
 rcases hn with rfl | rfl
 ·match uss,hl,hg with
  | [a,b,c],_,hg =>
   have e:=vol2 (acO hway (hg a (by simp)) g).2 (acO hway (hg b (by simp)) g).2 (acO hway (hg c (by simp)) g).2
   exact .inl (can2 hv hway e)
 ·match uss,hl,hg with
  | [a,b,c,d],_,hg =>
   have e:=vol3 (acO hway (hg a (by simp)) g).2 (acO hway (hg b (by simp)) g).2 (acO hway (hg c (by simp)) g).2 (acO hway (hg d (by simp)) g).2
   exact can3 hv hway e
theorem apF {n k l:Nat} (hn:n=2∨n=3) {way:Int} {f:List Int} {uss:List (List Int)} (hway:way=1∨way=-1) (hl:uss.length=n+1) (hg:∀ us∈uss,Gu n k us) (g:Gu n l f) (h:dU uss≠0):dU (uss.map (mvU way f))≠0:=fun z=>by
 have e:=aoj hn hway hl hg g
 rw [z] at e
 have p2:=ag7 (ajK hway hg g)
 have:((dU uss).natAbs:Int)*wU (uss.map (mvU way f))≠0:=Int.mul_ne_zero (by omega) (Int.ne_of_gt p2)
 exact this (by rw [← e]; simp)
theorem adl {G:Gd} {S:Sto} (hG:gOk G S) {me:ME} {tail:Rho} {α:Type} (A B:α→PV):∀ (L:List α) (x:Option AV),(∀ v∈L,me (some (.pv (A v)) :: tail) S=.ok (.pv (B v)) S)→aa5 G (gN 0) me (L.map A) (x :: tail) S=.ok (L.map B) S
 | [],x,_=>aly hG
 | v :: L,x,h=>by
  have e:=h v List.mem_cons_self
  have e':=adl hG A B L (some (.pv (A v))) fun u hu=>h u (List.mem_cons_of_mem _ hu)
  rw [List.map_cons,ann hG]
  simp [gN,e,e']
theorem apH {k:Nat} {x0 y0 w0 x1 y1 w1 x2 y2 w2:Int} (a0:Bd k x0) (b0:Bd k y0) (c0:Bd k w0) (a1:Bd k x1) (b1:Bd k y1) (c1:Bd k w1) (a2:Bd k x2) (b2:Bd k y2) (c2:Bd k w2):Bd (3*k+3) (D2 x0 y0 w0 x1 y1 w1 x2 y2 w2):=by
 have m:∀ {a b:Int},Bd k a→Bd k b→Bd (2*k) (a*b):=fun h g=>(h.mul g).mono (by omega)
 have s:∀ {a b c d:Int},Bd k a→Bd k b→Bd k c→Bd k d→Bd (2*k+1) (a*b - c*d):=fun h g i j=>(m h g).sub (m i j)
 have t:∀ {w e:Int},Bd k w→Bd (2*k+1) e→Bd (3*k+1) (w*e):=fun h g=>(h.mul g).mono (by omega)
 unfold D2
 exact ((t c0 (s a1 b2 b1 a2)).sub (t c1 (s a0 b2 b0 a2))).add ((t c2 (s a0 b1 b0 a1)).mono (by omega))
theorem apm {k:Nat} {x0 y0 z0 w0 x1 y1 z1 w1 x2 y2 z2 w2 x3 y3 z3 w3:Int} (a0:Bd k x0) (b0:Bd k y0) (d0:Bd k z0) (c0:Bd k w0) (a1:Bd k x1) (b1:Bd k y1) (d1:Bd k z1) (c1:Bd k w1) (a2:Bd k x2) (b2:Bd k y2) (d2:Bd k z2) (c2:Bd k w2) (a3:Bd k x3) (b3:Bd k y3) (d3:Bd k z3) (c3:Bd k w3):Bd (4*k+6) (D3 x0 y0 z0 w0 x1 y1 z1 w1 x2 y2 z2 w2 x3 y3 z3 w3):=by
 have m:∀ {a b:Int},Bd k a→Bd k b→Bd (2*k) (a*b):=fun h g=>(h.mul g).mono (by omega)
 have s:∀ {a b c d:Int},Bd k a→Bd k b→Bd k c→Bd k d→Bd (2*k+1) (a*b - c*d):=fun h g i j=>(m h g).sub (m i j)
 have t:∀ {e w:Int},Bd (2*k+1) e→Bd k w→Bd (3*k+1) (e*w):=fun h g=>(h.mul g).mono (by omega)
 have u:∀ {e f g w:Int},Bd (3*k+1) e→Bd (3*k+1) f→Bd (3*k+1) g→Bd k w→Bd (4*k+3) (w*(e+f+g)):=fun h i j l=>(l.mul ((h.add i).add (j.mono (by omega)))).mono (by omega)
 unfold D3
 refine (((u (t (s b1 d2 d1 b2) a3) (t (s d1 a2 a1 d2) b3) (t (s a1 b2 b1 a2) d3) c0).sub (u (t (s b0 d2 d0 b2) a3) (t (s d0 a2 a0 d2) b3) (t (s a0 b2 b0 a2) d3) c1)).add ((u (t (s b0 d1 d0 b1) a3) (t (s d0 a1 a0 d1) b3) (t (s a0 b1 b0 a1) d3) c2).mono (by omega))).sub ((u (t (s b0 d1 d0 b1) a2) (t (s d0 a1 a0 d1) b2) (t (s a0 b1 b0 a1) d2) c3).mono (by omega))
theorem Gu.two' {k:Nat} {us:List Int} (h:Gu 2 k us):∃ x y w,us=[x,y,w]∧0 < w∧Bd k x∧Bd k y∧Bd k w:=by
 obtain ⟨xs,w,rfl,P⟩:=h
 match xs,P.len,P with
 | [x,y],_,P=>exact ⟨x,y,w,rfl,P.pos,P.bx x (by simp),P.bx y (by simp),P.bw⟩
theorem Gu.three' {k:Nat} {us:List Int} (h:Gu 3 k us):∃ x y z w,us=[x,y,z,w]∧0 < w∧Bd k x∧Bd k y∧Bd k z∧Bd k w:=by
 obtain ⟨xs,w,rfl,P⟩:=h
 match xs,P.len,P with
 | [x,y,z],_,P=>exact ⟨x,y,z,w,rfl,P.pos,P.bx x (by simp),P.bx y (by simp),P.bx z (by simp),P.bw⟩
theorem mk {k l:Nat} {a b:Int} (h:Bd k a) (g:Bd l b) (hk:k≤100000) (hl:l≤100000):fMul (.int a) (.int b)=some (.int (a*b)):=acM (.inr ⟨h.mono (by omega),g.mono (by omega)⟩)
abbrev fv (u:Int × Int):PV:=.tup [.int u.1,.int u.2]
structure Fq (k:Nat) (u:Int × Int):Prop where
 pos:0 < u.2
 b1:Bd k u.1
 b2:Bd k u.2
 lo:Int.gcd u.1 u.2=1
theorem Fq.mono {k l:Nat} {u:Int × Int} (h:Fq k u) (hl:k≤l):Fq l u:=⟨h.pos,h.b1.mono hl,h.b2.mono hl,h.lo⟩
abbrev li (xs:List Int):List PV:=xs.map .int
abbrev lv (xs:List Int):PV:=.lst (li xs)
abbrev rawv (xss:List (List Int)):PV:=.lst (xss.map lv)
structure Rw (n:Nat) (xss:List (List Int)):Prop where
 len:xss.length=n+1
 l:∀ xs∈xss,xs.length=n
 b:∀ xs∈xss,∀ x∈xs,-8 < x∧x < 8
 nz:dU (xss.map (·++[1]))≠0
theorem ajg (L:List PV) (p:PV) (h:L≠[]):∃ v∈L,fIx (.lst L) (.int (-1))=some v:=by
 have hl:0 < L.length:=List.length_pos_iff.mpr h
 refine ⟨L[L.length - 1]'(by omega),List.getElem_mem _,?_⟩
 show atI L (-1)=_
 unfold atI
 have e:ixN L.length (-1)=some (L.length - 1):=by
  unfold ixN
  rw [if_neg (by decide),if_pos (by omega)]
  congr 1
  omega
 rw [e]
 exact List.getElem?_eq_getElem _
theorem bd10 {x:Int} (h:-1000 < x) (g:x < 1000):Bd 10 x:=by
 unfold Bd
 have:x.natAbs < 1000:=by omega
 omega
theorem rgn (S:Sto) {n:Nat} (h:n≤9):rng1 [.pv (.int (n:Int))] S=.ok (abi 0 n,[]) S:=by
 have e:rng1 [.pv (.int (n:Int))] S=@ite _ ((n:Int)≤16777216∧-16777216≤(n:Int)) (Classical.propDecidable _) (.ok (abi 0 (n:Int).toNat,[]) S) .fail:=rfl
 rw [e,if_pos ⟨by omega,by omega⟩,Int.toNat_natCast]
theorem alp {S:Sto} {k:Nat} {ns:List Int} (h:Row S k ns):S.set k (.lst (ns.map .int))=S:=List.ext_getElem? fun j=>by
 by_cases q:k=j
 ·subst q
  rw [List.getElem?_set_self h.lt]
  exact h.symm
 ·rw [List.getElem?_set_ne q]
theorem aim {k:Nat} {W:Int} (W0:0≤W) (W1:W≤2):∀ (is:List PV) (S:Sto) (ns:List Int) (x:Option AV),Row S k ns→∃ (xs ns':List Int),aa5 [] (gN 0) (aah aaq [] (aab (mVar 1) (aab (mBin fAdd (mVar 2) (mC (.int 1))) mNil))) is [x,some (.ref k),some (.pv (.int W))] S=.ok (li xs) (S.set k (.lst (li ns')))∧xs.length=is.length∧∀ n∈xs,0≤n∧n≤2
 | [],S,ns,x,h=>by
  refine ⟨[],ns,?_,rfl,fun _ h=>absurd h List.not_mem_nil⟩
  rw [show S.set k (.lst (li ns))=S from alp h]
  exact aay
 | i :: is,S,ns,x,h=>by
  obtain ⟨t,n1,e1,t0,t1,_⟩:=abc (m:=W+1) h (by omega) (sm8 (by omega) (by omega))
  obtain ⟨xs,n2,e2,l2,b2⟩:=aim W0 W1 is _ n1 (some (.pv i)) (h.set n1)
  rw [List.set_set] at e2
  refine ⟨t :: xs,n2,?_,by simp [l2],fun n hn=>?_⟩
  ·rw [aav]
   generalize S.set k (.lst (n1.map .int))=S1 at e1 e2
   simp [gN,EC,fAbs,aal,aak,fIx,atI,ixN,fEq,fNe,eqN,aam,aao,aap,aan,fAdd,aaj,frz,aau,e1,e2]
  ·rcases List.mem_cons.mp hn with rfl | hn
   ·omega
   ·exact b2 n hn
noncomputable abbrev rB:MS:=(aaW (mApp (mVar 3) (aab (aaC ["_law_m"] [(0,"_law_row_here"),(2,"_law_wide")] (aaE (aab (mVar 1) mNil)) (gN 0) (aah aaq [] (aab (mVar 1) (aab (mBin fAdd (mVar 2) (mC (.int 1))) mNil)))) mNil)))
theorem aia {n:Nat} (hn:n≤9) {W:Int} (W0:0≤W) (W1:W≤2) (hl:List PV):∀ (is:List PV) (L:List (List Int)) (ns:List Int) (x4:Option AV),L.length+is.length≤99→∃ (L':List (List Int)) (ns':List Int) (y4:Option AV),
  abQ [] (gN 4) rB is [some (.ref 0),some (.pv (.int (n:Int))),some (.pv (.int W)),some (.ref 2),x4] [.lst (li ns),.lst hl,.lst (L.map lv)]=.nx [some (.ref 0),some (.pv (.int (n:Int))),some (.pv (.int W)),some (.ref 2),y4] [.lst (li ns'),.lst hl,.lst ((L++L').map lv)]
   ∧ L'.length=is.length∧∀ xs∈L',xs.length=n∧∀ x∈xs,0≤x∧x≤2
 | [],L,ns,x4,h9=>⟨[],ns,x4,by rw [List.append_nil]; exact abf,rfl,fun _ h=>absurd h List.not_mem_nil⟩
 | i :: is,L,ns,x4,h9=>by
  have hr:Row [.lst (li ns),.lst hl,.lst (L.map lv)] 0 ns:=rfl
  obtain ⟨xs,n1,e1,l1,b1⟩:=aim W0 W1 (abi 0 n) _ ns none hr
  simp only [List.set_cons_zero] at e1
  have h9:L.length+(is.length+1)≤99:=h9
  obtain ⟨L',n2,y4,e2,l2,b2⟩:=aia hn W0 W1 hl is (L++[xs]) n1 (some (.pv i)) (by rw [List.length_append,List.length_singleton]; omega)
  refine ⟨xs :: L',n2,y4,?_,by simp [l2],fun ys hy=>?_⟩
  ·rw [aaM]
   have es:rB [some (.ref 0),some (.pv (.int (n:Int))),some (.pv (.int W)),some (.ref 2),some (.pv i)] [.lst (li ns),.lst hl,.lst (L.map lv)]=.nx [some (.ref 0),some (.pv (.int (n:Int))),some (.pv (.int W)),some (.ref 2),some (.pv i)] [.lst (li n1),.lst hl,.lst ((L++[xs]).map lv)]:=by
    have el:(L++[xs]).map lv=L.map lv++[lv xs]:=by simp
    rw [el]
    have lz:(L.map lv).length < 16777216:=by rw [List.length_map]; omega
    have rg:=rgn [.lst (li ns),.lst hl,.lst (L.map lv)] hn
    unfold rB
    generalize L.map lv=LL at *
    generalize li ns=NL at *
    generalize abi 0 n=IP at *
    generalize (n:Int)=N at *
    simp [EC,fAbs,aal,aak,fIx,atI,ixN,fEq,fNe,eqN,aam,aao,aap,aan,fAdd,aaj,frz,aau,mApp,acZ,aeV,aaC,cmpR,aaE,rg,e1,lz]
   simp only [gN,List.set_cons_succ,List.set_cons_zero]
   rw [es]
   dsimp only
   rw [e2,List.append_assoc]
   rfl
  ·rcases List.mem_cons.mp hy with rfl | hy
   ·exact ⟨by rw [l1]; unfold abi; simp,b1⟩
   ·exact b2 ys hy
theorem anZ {S:Sto} {a b c d e f:Int} (h:S[2]?=some (.lst [lv [a,b],lv [c,d],lv [e,f]])) (ha:0≤a∧a≤2) (hb:0≤b∧b≤2) (hc:0≤c∧c≤2) (hd:0≤d∧d≤2) (he:0≤e∧e≤2) (hf:0≤f∧f≤2):abH [.ref 2] S=.ok (.pv (.int (D2 a b 1 c d 1 e f 1))) S:=by
 have id:(c - a)*(f - b) - (d - b)*(e - a)=D2 a b 1 c d 1 e f 1:=by
  unfold D2
  grind
 have b1:Bd 10 (c - a):=bd10 (by omega) (by omega)
 have b2:Bd 10 (d - b):=bd10 (by omega) (by omega)
 have b3:Bd 10 (e - a):=bd10 (by omega) (by omega)
 have b4:Bd 10 (f - b):=bd10 (by omega) (by omega)
 have m1:=mBB b1 b4
 have m2:=mBB b2 b3
 generalize D2 a b 1 c d 1 e f 1=D at *
 have s1:=ahp (lv [a,b]) [lv [c,d],lv [e,f]]
 have et:abP [.pv (.lst [.lst [.int (c - a),.int (d - b)],.lst [.int (e - a),.int (f - b)]])] S=.ok (.pv (.int D)) S:=by
  unfold abP fnM adJ
  simp [EC,fAbs,aal,aak,fIx,atI,ixN,fEq,fNe,eqN,aam,aao,aap,aan,fAdd,aaj,frz,aau,m1,m2,id]
 unfold abH fnM adK
 simp only [lv,li,List.map_cons,List.map_nil] at h s1
 simp [EC,fAbs,aal,aak,fIx,atI,ixN,fEq,fNe,eqN,aam,aao,aap,aan,fAdd,aaj,frz,aau,aaC,mIt,aa6,mSl,mO0,mO1,abk,h,s1,cmpR,aav,aay,gN,gT,aa2,acA,mZip,afs,zipP,et]
def dfl (n:Nat):List (List Int):=if n=2 then [[0,0],[1,0],[0,1]] else [[0,0,0],[1,0,0],[0,1,0],[0,0,1]]
theorem anI {n:Nat} (hn:n=2∨n=3):Rw n (dfl n):=by
 rcases hn with rfl | rfl
 ·exact ⟨rfl,by decide,by decide,by decide⟩
 ·exact ⟨rfl,by decide,by decide,by decide⟩
theorem rgm (S:Sto) {n:Nat} (h:n≤9):rng2 [.pv (.int (-1)),.pv (.int (n:Int))] S=.ok (abi (-1) (n+1),[]) S:=by
 have e:rng2 [.pv (.int (-1)),.pv (.int (n:Int))] S=@ite _ ((-4611686018427387904≤(-1:Int)∧(-1:Int) < 4611686018427387904∧-4611686018427387904≤(n:Int)∧(n:Int) < 4611686018427387904)∧(n:Int) - -1≤16777216) (Classical.propDecidable _) (.ok (abi (-1) ((n:Int) - -1).toNat,[]) S) .fail:=rfl
 rw [e,if_pos ⟨⟨by decide,by decide,by omega,by omega⟩,by omega⟩]
 rw [show ((n:Int) - -1).toNat=n+1 by omega]
theorem fz1 {α:Type} {a:α} {S:Sto}:aau (.ok a S)=.ok a S:=rfl
theorem fz2 {n:Nat} {v:PV} {S:Sto}:frz n (.ok (.pv v) S)=.ok (.pv v) S:=rfl
theorem amJ {n:Nat} (hn:n=2∨n=3) (S:Sto) (x0 x2 x3 x4:Option AV):aaC ["_law_k"] [(1,"_law_dims")] (adL (aab (mUn fNeg (mC (.int 1))) (aab (mVar 1) mNil))) (gN 0) (aaC ["_law_m"] [(0,"_law_k")] (aaE (aab (mVar 1) mNil)) (gN 0) (mR fInt (aab (mBin fEq (mVar 0) (mVar 1)) mNil))) [x0,some (.pv (.int (n:Int))),x2,x3,x4] S=.ok (.pv (rawv (dfl n))) S:=by
 have r1:=fun S=>rgn S (n:=n) (by omega)
 have r2:=fun S=>rgm S (n:=n) (by omega)
 rcases hn with rfl | rfl
 ·have c2:((2:Nat):Int)=2:=rfl
  rw [c2] at r1 r2 ⊢
  have i1:abi 0 2=[.int 0,.int 1]:=rfl
  have i2:abi (-1) (2+1)=[.int (-1),.int 0,.int 1]:=rfl
  rw [i1] at r1
  rw [i2] at r2
  simp [aaC,cmpR,aaE,adL,EC,fAbs,aal,aak,fIx,atI,ixN,fEq,fNe,eqN,aam,aao,aap,aan,fAdd,aaj,frz,aau,r1,r2,aav,aay,gN,fInt,dfl]
 ·have c2:((3:Nat):Int)=3:=rfl
  rw [c2] at r1 r2 ⊢
  have i1:abi 0 3=[.int 0,.int 1,.int 2]:=rfl
  have i2:abi (-1) (3+1)=[.int (-1),.int 0,.int 1,.int 2]:=rfl
  rw [i1] at r1
  rw [i2] at r2
  simp [aaC,cmpR,aaE,adL,EC,fAbs,aal,aak,fIx,atI,ixN,fEq,fNe,eqN,aam,aao,aap,aan,fAdd,aaj,frz,aau,r1,r2,aav,aay,gN,fInt,dfl]
noncomputable abbrev hB:MS:=(sSeq (sSet 5 (aah aaq [] (aab (mVar 0) (aab (mC (.int 6)) mNil))))
 (sIf (mAnd (mTst (mBin fEq (mVar 5) (mC (.int 5)))) (mTst (mBin fGt (mR fLen (aab (mVar 3) mNil)) (mC (.int 0))))) (aaW (mApp (mVar 3) (aab (mBin fIx (mVar 3) (mUn fNeg (mC (.int 1)))) mNil))) (sIf (mTst (mBin fEq (mVar 1) (mC (.int 2)))) (aaW (mApp (mVar 3) (aab (aah ada [] (aab (mVar 0) (aab (mC (.int 2)) (aab (mBin fAdd (mC (.int 1)) (mR fInt (aab (mBin fEq (mVar 5) (mC (.int 4))) mNil))) mNil)))) mNil))) (sIf (mTst (mBin fGt (mVar 5) (mC (.int 3)))) (aaW (mApp (mVar 3) (aab (aah ada [] (aab (mVar 0) (aab (mC (.int 3)) (aab (mC (.int 1)) mNil)))) mNil))) (aaW (mApp (mVar 3) (aab (aah aec [] (aab (mVar 0) mNil)) mNil)))))))
theorem agF {n k:Nat} {L:List Int} {b:Int} (hb:0 < b) (hl:L.length=n) (hL:∀ x∈L,Bd k x) (bb:Bd k b):∃ (zs:List Int) (z:Int),low (L++[b])=zs++[z]∧Pq n k zs z∧∀ j,j < n→zs.getD j 0*b=L.getD j 0*z:=by
 obtain ⟨zs,z,g,e,hg,hz,g1,g2,hzl⟩:=aie L hb
 have hlow:=ahO L hb
 have hbd:=ah2 (k:=k) (ns:=L++[b]) fun m hm=>by
  rcases List.mem_append.mp hm with y | y
  ·exact hL m y
  ·have:m=b:=by simpa using y
   rw [this]; exact bb
 rw [e] at hlow hbd
 refine ⟨zs,z,e,⟨hzl.trans hl,hz,hlow,fun x hx=>hbd x (List.mem_append_left _ hx),hbd z (ab4 zs z)⟩,fun j hj=>?_⟩
 have hj':j < zs.length:=by omega
 have e1:L.getD j 0=g*zs.getD j 0:=by
  rw [g1]
  simp [List.getD,hj']
 rw [e1,g2]
 grind
structure Sp (u:Int × Int):Prop where
 p:0 < u.1
 q:0 < u.2
 bp:Bd 30 u.1
 bq:Bd 30 u.2
theorem p9:fPow (.int 10) (.int 9)=some (.int 1000000000):=agr (i:=10) (j:=9) ⟨by decide,by decide,by decide⟩
theorem p6:fPow (.int 10) (.int 6)=some (.int 1000000):=agr (i:=10) (j:=6) ⟨by decide,by decide,by decide⟩
theorem st3 {v:Int} (h0:0≤v) (h1:v < 3):∃ M N:Int,fIx (.lst [.int 1,.int 7,.int 1000000000]) (.int v)=some (.int M)∧fIx (.lst [.int 1,.int 7,.int 1000000]) (.int v)=some (.int N)∧0 < M∧M≤1000000000∧0 < N∧N≤1000000:=by
 have:v=0∨v=1∨v=2:=by omega
 rcases this with rfl | rfl | rfl
 ·exact ⟨1,1,rfl,rfl,by decide,by decide,by decide,by decide⟩
 ·exact ⟨7,7,rfl,rfl,by decide,by decide,by decide,by decide⟩
 ·exact ⟨1000000000,1000000,rfl,rfl,by decide,by decide,by decide,by decide⟩
noncomputable abbrev sB:MS:=(sSeq (sSet 4 (aah aaq [] (aab (mVar 0) (aab (mC (.int 3)) mNil))))
 (aaW (mApp (mVar 2) (aab (aah abD [] (aab (mBin fAdd (mC (.int 1)) (aah aaq [] (aab (mVar 0) (aab (mBin fIx (mN fLst (aab (mC (.int 1)) (aab (mC (.int 7)) (aab (mBin fPow (mC (.int 10)) (mC (.int 9))) mNil)))) (mVar 4)) mNil)))) (aab (mBin fAdd (mC (.int 1)) (aah aaq [] (aab (mVar 0) (aab (mBin fIx (mN fLst (aab (mC (.int 1)) (aab (mC (.int 7)) (aab (mBin fPow (mC (.int 10)) (mC (.int 6))) mNil)))) (mVar 4)) mNil)))) mNil))) mNil))))
theorem apO (ns:List Int) (fs:List (Int × Int)) (hl:fs.length≤9) (x1 x3 x4:Option AV):∃ (u:Int × Int) (ns':List Int) (y4:Option AV),sB [some (.ref 0),x1,some (.ref 1),x3,x4] [.lst (li ns),.lst (fs.map fv)]=.nx [some (.ref 0),x1,some (.ref 1),x3,y4] [.lst (li ns'),.lst ((fs++[u]).map fv)]∧Sp u:=by
 have hr:∀ ms,Row [.lst (li ms),.lst (fs.map fv)] 0 ms:=fun _=>rfl
 obtain ⟨c,n1,e1,c0,c1,_⟩:=abc (m:=3) (hr ns) (by decide) (sm8 (by decide) (by decide))
 obtain ⟨M,N,em,en,M0,M1,N0,N1⟩:=st3 c0 c1
 have bM:Bd 8000 M:=(Bd.of (k:=30) (n:=1000000000) (by omega) (by decide)).mono (by decide)
 have bN:Bd 8000 N:=(Bd.of (k:=30) (n:=1000000000) (by omega) (by decide)).mono (by decide)
 obtain ⟨t,n2,e2,t0,t1,_⟩:=abc (m:=M) (hr n1) M0 bM
 obtain ⟨v,n3,e3,v0,v1,_⟩:=abc (m:=N) (hr n2) N0 bN
 simp only [List.set_cons_zero] at e1 e2 e3
 have bt:Bd 30 (1+t):=Bd.of (n:=1000000000) (by omega) (by decide)
 have bv:Bd 30 (1+v):=Bd.of (n:=1000000000) (by omega) (by decide)
 have nz:1+v≠0:=by omega
 have e4:=ahw (1+t) (1+v) [.lst (li n3),.lst (fs.map fv)] (bt.mono (by decide)) (bv.mono (by decide))
 obtain ⟨p,q,ef,hq,hpq⟩:=anu (t:=1+t) nz
 obtain ⟨b1,b2⟩:=amY bt bv ef
 have hp:0 < p:=by
  have h1:0 < (1+t)*q:=Int.mul_pos (by omega) hq
  rw [← hpq] at h1
  exact Int.pos_of_mul_pos_left h1 (by omega)
 rw [ef] at e4
 simp only [List.map_cons,List.map_nil] at e4
 refine ⟨(p,q),n3,some (.pv (.int c)),?_,⟨hp,hq,b1,b2⟩⟩
 have el:(fs++[(p,q)]).map fv=fs.map fv++[.tup [.int p,.int q]]:=by simp
 rw [el]
 have lz:(fs.map fv).length < 16777216:=by rw [List.length_map]; omega
 have e1:aaq [.ref 0,.pv (.int 3)] [.lst (li ns),.lst (fs.map fv)]=.ok (.pv (.int c)) [.lst (li n1),.lst (fs.map fv)]:=e1
 have e2:aaq [.ref 0,.pv (.int M)] [.lst (li n1),.lst (fs.map fv)]=.ok (.pv (.int t)) [.lst (li n2),.lst (fs.map fv)]:=e2
 have e3:aaq [.ref 0,.pv (.int N)] [.lst (li n2),.lst (fs.map fv)]=.ok (.pv (.int v)) [.lst (li n3),.lst (fs.map fv)]:=e3
 generalize fs.map fv=FL at *
 unfold sB
 simp [EC,fAbs,aal,aak,fEq,fNe,aaX,aam,aao,aap,aan,fAdd,aaj,frz,aau,e1,p9,p6,em,en,e2,e3,e4,mApp,acZ,aeV,lz]
theorem aoS (x1:Option AV):∀ (is:List PV) (fs:List (Int × Int)) (ns:List Int) (x3 x4:Option AV),(∀ u∈fs,Sp u)→fs.length+is.length≤9→∃ (fs':List (Int × Int)) (ns':List Int) (y3 y4:Option AV),
  abQ [] (gN 3) sB is [some (.ref 0),x1,some (.ref 1),x3,x4] [.lst (li ns),.lst (fs.map fv)]=.nx [some (.ref 0),x1,some (.ref 1),y3,y4] [.lst (li ns'),.lst (fs'.map fv)]∧fs'.length=fs.length+is.length∧∀ u∈fs',Sp u
 | [],fs,ns,x3,x4,hw,_=>⟨fs,ns,x3,x4,abf,rfl,hw⟩
 | i :: is,fs,ns,x3,x4,hw,h9=>by
  have h9:fs.length+(is.length+1)≤9:=h9
  obtain ⟨u,n1,y4,e1,r1⟩:=apO ns fs (by omega) x1 (some (.pv i)) x4
  obtain ⟨fs',n2,z3,z4,e2,l2,r2⟩:=aoS x1 is (fs++[u]) n1 (some (.pv i)) y4 (fun y hy=>by
   rcases List.mem_append.mp hy with z | z
   ·exact hw y z
   ·have:y=u:=by simpa using z
    rw [this]; exact r1) (by rw [List.length_append,List.length_singleton]; omega)
  refine ⟨fs',n2,z3,z4,?_,by rw [l2,List.length_append,List.length_singleton]; show _=fs.length+(is.length+1); omega,r2⟩
  rw [aaM]
  simp only [gN,List.set_cons_succ,List.set_cons_zero]
  rw [e1]
  exact e2
theorem aiJ {n:Nat} (hn:n=2∨n=3) (ns:List Int):∃ (fs:List (Int × Int)) (ns':List Int),acg [.ref 0,.pv (.int (n:Int))] [.lst (li ns)]=.ok (.ref 1) [.lst (li ns'),.lst (fs.map fv)]∧fs.length=n∧∀ u∈fs,Sp u:=by
 have hi:(abi 0 n).length=n:=by unfold abi; simp
 have rg:=rgn [.lst (li ns),.lst []] (n:=n) (by omega)
 obtain ⟨fs,n2,y3,y4,e2,l2,r2⟩:=aoS (some (.pv (.int (n:Int)))) (abi 0 n) [] ns none none (fun _ h=>absurd h List.not_mem_nil) (by rw [hi]; show 0+n≤9; omega)
 rw [hi] at l2
 refine ⟨fs,n2,?_,by rw [l2]; show 0+n=n; omega,r2⟩
 simp only [List.map_nil] at e2
 have hb:aeb=(sSeq (sSet 2 (mNew mNil)) (sSeq (sFor (aaE (aab (mVar 1) mNil)) (gN 3) sB) (sRet (mVar 2)))):=rfl
 unfold acg fnM
 rw [hb]
 generalize sB=SB at *
 generalize fs.map fv=FL at *
 generalize abi 0 n=IP at *
 generalize (n:Int)=N at *
 simp [EC,fAbs,aal,aak,fIx,atI,ixN,fEq,fNe,eqN,aam,aao,aap,aan,fAdd,aaj,frz,aau,mNew,afo,sFor,aaE,rg,e2]
def spU:List (Int × Int)→List Int→List Int
 | [u,v],[a,b]=>low ([a*u.1*v.2,b*v.1*u.2]++[1*u.2*v.2])
 | [u,v,t],[a,b,c]=>low ([a*u.1*(v.2*t.2),b*v.1*(u.2*t.2),c*t.1*(u.2*v.2)]++[1*u.2*v.2*t.2])
 | _,_=>[]
def spA:List (Int × Int)→Nat→Int
 | [u,v],0=>u.1*v.2
 | [u,v],1=>v.1*u.2
 | [u,v,t],0=>u.1*(v.2*t.2)
 | [u,v,t],1=>v.1*(u.2*t.2)
 | [u,v,t],2=>t.1*(u.2*v.2)
 | _,_=>1
def spE:List (Int × Int)→Int
 | [u,v]=>1*u.2*v.2
 | [u,v,t]=>1*u.2*v.2*t.2
 | _=>1
theorem aeT {n:Nat} (hn:n=2∨n=3) (S:Sto) {fs:List (Int × Int)} {xs:List Int} (hf:fs.length=n) (h:∀ u∈fs,Sp u) (hx:xs.length=n) (hb:∀ x∈xs,-8 < x∧x < 8):abB [.pv (lv xs),.pv (.lst (fs.map fv))] S=.ok (.pv (tv (spU fs xs))) S∧Gu n 100 (spU fs xs)∧AffU n (spA fs) (fun _=>0) (spE fs) (xs++[1]) (spU fs xs):=by
 have b3:∀ {x:Int},-8 < x∧x < 8→Bd 3 x:=fun h=>by
  unfold Bd
  have:(2:Nat) ^ 3=8:=rfl
  omega
 have o1:Bd 1 (1:Int):=by unfold Bd; decide
 rcases hn with rfl | rfl
 ·match fs,hf,h,xs,hx,hb with
  | [u,v],_,h,[a,b],_,hb =>
   have hu:=h u (by simp)
   have hv:=h v (by simp)
   have ba:=b3 (hb a (by simp))
   have bb:=b3 (hb b (by simp))
   have m1:=mk o1 hu.bq (by decide) (by decide)
   have m2:=mk (o1.mul hu.bq) hv.bq (by decide) (by decide)
   have d1:(1*u.2*v.2).fdiv u.2=v.2:=by rw [Int.one_mul]; exact acp (by have:=hu.q; omega)
   have d2:(1*u.2*v.2).fdiv v.2=u.2:=by rw [Int.one_mul,Int.mul_comm]; exact acp (by have:=hv.q; omega)
   have q1:adg (.int (1*u.2*v.2)) (.int u.2)=some (.int v.2):=by
    have e:=acJ (i:=1*u.2*v.2) (j:=u.2) ⟨by have:=hu.q; omega,hu.bq.mono (by decide)⟩
    rw [d1] at e
    exact e
   have q2:adg (.int (1*u.2*v.2)) (.int v.2)=some (.int u.2):=by
    have e:=acJ (i:=1*u.2*v.2) (j:=v.2) ⟨by have:=hv.q; omega,hv.bq.mono (by decide)⟩
    rw [d2] at e
    exact e
   have m3:=mk ba hu.bp (by decide) (by decide)
   have m4:=mk (ba.mul hu.bp) hv.bq (by decide) (by decide)
   have m5:=mk bb hv.bp (by decide) (by decide)
   have m6:=mk (bb.mul hv.bp) hu.bq (by decide) (by decide)
   have pE:0 < 1*u.2*v.2:=Int.mul_pos (Int.mul_pos (by decide) hu.q) hv.q
   have bL:∀ x∈[a*u.1*v.2,b*v.1*u.2],Bd 100 x:=by
    simp
    exact ⟨((ba.mul hu.bp).mul hv.bq).mono (by decide),((bb.mul hv.bp).mul hu.bq).mono (by decide)⟩
   have bE:Bd 100 (1*u.2*v.2):=((o1.mul hu.bq).mul hv.bq).mono (by decide)
   obtain ⟨zs,z,el,Z,rel⟩:=agF (n:=2) pE rfl bL bE
   have ew:=ab7 ([a*u.1*v.2,b*v.1*u.2]++[1*u.2*v.2]) S (by
    intro x hx
    rcases List.mem_append.mp hx with y | y
    ·exact (bL x y).mono (by decide)
    ·have:x=1*u.2*v.2:=by simpa using y
     rw [this]; exact bE.mono (by decide))
   have es:spU [u,v] [a,b]=zs++[z]:=el
   refine ⟨?_,by rw [es]; exact ⟨zs,z,rfl,Z⟩,[a,b],1,zs,z,rfl,es,rfl,Z.len,by decide,Z.pos,fun j hj=>?_⟩
   ·rw [el] at ew
    rw [es]
    simp only [List.map_cons,List.map_nil,List.cons_append,List.nil_append] at ew
    generalize hQ:1*u.2*v.2=Q at *
    generalize hA:a*u.1*v.2=A at *
    generalize hB:b*v.1*u.2=B at *
    unfold abB fnM agp
    simp only [lv,li,List.map_cons,List.map_nil]
    simp only [tv]
    generalize (zs++[z]).map PV.int=ZL at *
    simp only [Int.one_mul] at m1 m2 hQ
    simp [EC,fAbs,aal,aak,fIx,atI,ixN,fEq,fNe,eqN,aam,aao,aap,aan,fAdd,aaj,frz,aau,sFor,mIt,aa6,aaM,abf,gN,m1,m2,aaC,cmpR,mZip,afs,zipP,aav,aay,gT,aa2,acA,m3,m4,m5,m6,q1,q2,ew]
   ·have r:=rel j hj
    match j,hj with
    | 0,_ =>
     have r:zs.getD 0 0*(1*u.2*v.2)=a*u.1*v.2*z:=r
     show zs.getD 0 0*(1*u.2*v.2*1)=(u.1*v.2*a+0*1)*z
     rw [Int.mul_one,r]
     grind
    | 1,_ =>
     have r:zs.getD 1 0*(1*u.2*v.2)=b*v.1*u.2*z:=r
     show zs.getD 1 0*(1*u.2*v.2*1)=(v.1*u.2*b+0*1)*z
     rw [Int.mul_one,r]
     grind
 ·match fs,hf,h,xs,hx,hb with
  | [u,v,t],_,h,[a,b,c],_,hb =>
   have hu:=h u (by simp)
   have hv:=h v (by simp)
   have ht:=h t (by simp)
   have ba:=b3 (hb a (by simp))
   have bb:=b3 (hb b (by simp))
   have bc:=b3 (hb c (by simp))
   have m1:=mk o1 hu.bq (by decide) (by decide)
   have m2:=mk (o1.mul hu.bq) hv.bq (by decide) (by decide)
   have m2':=mk ((o1.mul hu.bq).mul hv.bq) ht.bq (by decide) (by decide)
   have d1:(1*u.2*v.2*t.2).fdiv u.2=v.2*t.2:=by rw [Int.one_mul,Int.mul_assoc]; exact acp (by have:=hu.q; omega)
   have d2:(1*u.2*v.2*t.2).fdiv v.2=u.2*t.2:=by rw [show 1*u.2*v.2*t.2=v.2*(u.2*t.2) by grind]; exact acp (by have:=hv.q; omega)
   have d3:(1*u.2*v.2*t.2).fdiv t.2=u.2*v.2:=by rw [show 1*u.2*v.2*t.2=t.2*(u.2*v.2) by grind]; exact acp (by have:=ht.q; omega)
   have q1:adg (.int (1*u.2*v.2*t.2)) (.int u.2)=some (.int (v.2*t.2)):=by
    have e:=acJ (i:=1*u.2*v.2*t.2) (j:=u.2) ⟨by have:=hu.q; omega,hu.bq.mono (by decide)⟩
    rw [d1] at e
    exact e
   have q2:adg (.int (1*u.2*v.2*t.2)) (.int v.2)=some (.int (u.2*t.2)):=by
    have e:=acJ (i:=1*u.2*v.2*t.2) (j:=v.2) ⟨by have:=hv.q; omega,hv.bq.mono (by decide)⟩
    rw [d2] at e
    exact e
   have q3:adg (.int (1*u.2*v.2*t.2)) (.int t.2)=some (.int (u.2*v.2)):=by
    have e:=acJ (i:=1*u.2*v.2*t.2) (j:=t.2) ⟨by have:=ht.q; omega,ht.bq.mono (by decide)⟩
    rw [d3] at e
    exact e
   have m3:=mk ba hu.bp (by decide) (by decide)
   have m4:=mk (ba.mul hu.bp) (hv.bq.mul ht.bq) (by decide) (by decide)
   have m5:=mk bb hv.bp (by decide) (by decide)
   have m6:=mk (bb.mul hv.bp) (hu.bq.mul ht.bq) (by decide) (by decide)
   have m7:=mk bc ht.bp (by decide) (by decide)
   have m8:=mk (bc.mul ht.bp) (hu.bq.mul hv.bq) (by decide) (by decide)
   have pE:0 < 1*u.2*v.2*t.2:=Int.mul_pos (Int.mul_pos (Int.mul_pos (by decide) hu.q) hv.q) ht.q
   have bL:∀ x∈[a*u.1*(v.2*t.2),b*v.1*(u.2*t.2),c*t.1*(u.2*v.2)],Bd 100 x:=by
    simp
    exact ⟨((ba.mul hu.bp).mul (hv.bq.mul ht.bq)).mono (by decide),((bb.mul hv.bp).mul (hu.bq.mul ht.bq)).mono (by decide),((bc.mul ht.bp).mul (hu.bq.mul hv.bq)).mono (by decide)⟩
   have bE:Bd 100 (1*u.2*v.2*t.2):=(((o1.mul hu.bq).mul hv.bq).mul ht.bq).mono (by decide)
   obtain ⟨zs,z,el,Z,rel⟩:=agF (n:=3) pE rfl bL bE
   have ew:=ab7 ([a*u.1*(v.2*t.2),b*v.1*(u.2*t.2),c*t.1*(u.2*v.2)]++[1*u.2*v.2*t.2]) S (by
    intro x hx
    rcases List.mem_append.mp hx with y | y
    ·exact (bL x y).mono (by decide)
    ·have:x=1*u.2*v.2*t.2:=by simpa using y
     rw [this]; exact bE.mono (by decide))
   have es:spU [u,v,t] [a,b,c]=zs++[z]:=el
   refine ⟨?_,by rw [es]; exact ⟨zs,z,rfl,Z⟩,[a,b,c],1,zs,z,rfl,es,rfl,Z.len,by decide,Z.pos,fun j hj=>?_⟩
   ·rw [el] at ew
    rw [es]
    simp only [List.map_cons,List.map_nil,List.cons_append,List.nil_append] at ew
    generalize hQ:1*u.2*v.2*t.2=Q at *
    generalize hA:a*u.1*(v.2*t.2)=A at *
    generalize hB:b*v.1*(u.2*t.2)=B at *
    generalize hC:c*t.1*(u.2*v.2)=C at *
    unfold abB fnM agp
    simp only [lv,li,List.map_cons,List.map_nil]
    simp only [tv]
    generalize (zs++[z]).map PV.int=ZL at *
    simp only [Int.one_mul] at m1 m2 m2' hQ
    simp [EC,fAbs,aal,aak,fIx,atI,ixN,fEq,fNe,eqN,aam,aao,aap,aan,fAdd,aaj,frz,aau,sFor,mIt,aa6,aaM,abf,gN,m1,m2,m2',aaC,cmpR,mZip,afs,zipP,aav,aay,gT,aa2,acA,m3,m4,m5,m6,m7,m8,q1,q2,q3,ew]
   ·have r:=rel j hj
    match j,hj with
    | 0,_ =>
     have r:zs.getD 0 0*(1*u.2*v.2*t.2)=a*u.1*(v.2*t.2)*z:=r
     show zs.getD 0 0*(1*u.2*v.2*t.2*1)=(u.1*(v.2*t.2)*a+0*1)*z
     rw [Int.mul_one,r]
     grind
    | 1,_ =>
     have r:zs.getD 1 0*(1*u.2*v.2*t.2)=b*v.1*(u.2*t.2)*z:=r
     show zs.getD 1 0*(1*u.2*v.2*t.2*1)=(v.1*(u.2*t.2)*b+0*1)*z
     rw [Int.mul_one,r]
     grind
    | 2,_ =>
     have r:zs.getD 2 0*(1*u.2*v.2*t.2)=c*t.1*(u.2*v.2)*z:=r
     show zs.getD 2 0*(1*u.2*v.2*t.2*1)=(t.1*(u.2*v.2)*c+0*1)*z
     rw [Int.mul_one,r]
     grind
theorem amO {n:Nat} (hn:n=2∨n=3) {fs:List (Int × Int)} (hf:fs.length=n) (h:∀ u∈fs,Sp u):0 < spE fs∧∀ j,j < n→0 < spA fs j:=by
 rcases hn with rfl | rfl
 ·match fs,hf,h with
  | [u,v],_,h =>
   have hu:=h u (by simp)
   have hv:=h v (by simp)
   refine ⟨Int.mul_pos (Int.mul_pos (by decide) hu.q) hv.q,fun j hj=>?_⟩
   match j,hj with
   | 0,_=>exact Int.mul_pos hu.p hv.q
   | 1,_=>exact Int.mul_pos hv.p hu.q
 ·match fs,hf,h with
  | [u,v,t],_,h =>
   have hu:=h u (by simp)
   have hv:=h v (by simp)
   have ht:=h t (by simp)
   refine ⟨Int.mul_pos (Int.mul_pos (Int.mul_pos (by decide) hu.q) hv.q) ht.q,fun j hj=>?_⟩
   match j,hj with
   | 0,_=>exact Int.mul_pos hu.p (Int.mul_pos hv.q ht.q)
   | 1,_=>exact Int.mul_pos hv.p (Int.mul_pos hu.q ht.q)
   | 2,_=>exact Int.mul_pos ht.p (Int.mul_pos hu.q hv.q)
theorem aiA {n:Nat} (hn:n=2∨n=3) {fs:List (Int × Int)} (hf:fs.length=n) (h:∀ u∈fs,Sp u) {xss:List (List Int)} (w:Rw n xss):dU (xss.map (spU fs))≠0:=fun z=>by
 have af:∀ xs∈xss,AffU n (spA fs) (fun _=>0) (spE fs) (xs++[1]) (spU fs xs):=fun xs hx=>(aeT hn [] hf h (w.l xs hx) (w.b xs hx)).2.2
 have gu:∀ us∈xss.map (spU fs),Gu n 100 us:=fun us hu=>by
  obtain ⟨xs,hx,rfl⟩:=List.mem_map.mp hu
  exact (aeT hn [] hf h (w.l xs hx) (w.b xs hx)).2.1
 have p2:=ag7 gu
 obtain ⟨pe,pa⟩:=amO hn hf h
 have nz:=w.nz
 have wl:=w.len
 clear w
 rcases hn with rfl | rfl
 ·match xss,wl,af,nz,p2,z with
  | [a,b,c],_,af,nz,p2,z =>
   have e:=vol2 (af a (by simp)) (af b (by simp)) (af c (by simp))
   have z:dU [spU fs a,spU fs b,spU fs c]=0:=z
   rw [z,Int.zero_mul] at e
   exact Int.mul_ne_zero (Int.mul_ne_zero (Int.ne_of_gt (Int.mul_pos (Int.mul_pos (pa 0 (by decide)) (pa 1 (by decide))) pe)) nz) (Int.ne_of_gt p2) e.symm
 ·match xss,wl,af,nz,p2,z with
  | [a,b,c,d],_,af,nz,p2,z =>
   have e:=vol3 (af a (by simp)) (af b (by simp)) (af c (by simp)) (af d (by simp))
   have z:dU [spU fs a,spU fs b,spU fs c,spU fs d]=0:=z
   rw [z,Int.zero_mul] at e
   exact Int.mul_ne_zero (Int.mul_ne_zero (Int.ne_of_gt (Int.mul_pos (Int.mul_pos (Int.mul_pos (pa 0 (by decide)) (pa 1 (by decide))) (pa 2 (by decide))) pe)) nz) (Int.ne_of_gt p2) e.symm
noncomputable abbrev lB:MS:=(sSeq (sSet 5 (aah acF [] (aab (mVar 0) (aab (mR fLen (aab (mVar 2) mNil)) mNil))))
 (aaW (mApp (mVar 3) (aab (aah aaU [] (aab (aaC ["_law_corner"] [(5,"_law_far_here"),(2,"_law_stretch_here")] (mIt (mVar 4)) (gN 0) (aah abh [] (aab (aah abB [] (aab (mVar 0) (aab (mVar 2) mNil))) (aab (mVar 1) (aab (mC (.int 1)) mNil))))) mNil)) mNil))))
theorem api {n:Nat} (hn:n=2∨n=3) (ns:List Int) {fs:List (Int × Int)} (hf:fs.length=n) (h:∀ u∈fs,Sp u) (gs:List (List (List Int))) (hg:gs.length≤99) {xss:List (List Int)} (w:Rw n xss) (x1 x5:Option AV):∃ (uss:List (List Int)) (ns':List Int) (y5:Option AV),lB [some (.ref 0),x1,some (.pv (.lst (fs.map fv))),some (.ref 1),some (.pv (rawv xss)),x5] [.lst (li ns),.lst (gs.map px)]=.nx [some (.ref 0),x1,some (.pv (.lst (fs.map fv))),some (.ref 1),some (.pv (rawv xss)),y5] [.lst (li ns'),.lst ((gs++[uss]).map px)]∧Sx n 201 uss:=by
 have hr:Row [.lst (li ns),.lst (gs.map px)] 0 ns:=rfl
 obtain ⟨v,n1,e1,G⟩:=farg n hn hr
 simp only [List.set_cons_zero] at e1
 have e1:acF [.ref 0,.pv (.int (n:Int))] [.lst (li ns),.lst (gs.map px)]=.ok (.pv v) [.lst (li n1),.lst (gs.map px)]:=e1
 obtain ⟨ys,y,rfl,P⟩:=G
 have Gf:Gu n 100 (ys++[y]):=⟨ys,y,rfl,P⟩
 generalize ys++[y]=f at *
 have sp:=fun S xs (hx:xs∈xss)=>aeT hn S hf h (w.l xs hx) (w.b xs hx)
 have gu:∀ us∈xss.map (spU fs),Gu n 100 us:=fun us hu=>by
  obtain ⟨xs,hx,rfl⟩:=List.mem_map.mp hu
  exact (sp [] xs hx).2.1
 have hl:(xss.map (spU fs)).length=n+1:=by rw [List.length_map]; exact w.len
 have nz:=aiA hn hf h w
 have nz2:=apF hn (way:=1) (.inl rfl) hl gu Gf nz
 have gu2:=ajK (way:=1) (.inl rfl) gu Gf
 have l2:((xss.map (spU fs)).map (mvU 1 f)).length=n+1:=by rw [List.length_map]; exact hl
 have S1:=amx hn (k:=100+100+1) (by decide) l2 gu2 nz2
 refine ⟨_,n1,some (.pv (tv f)),?_,S1⟩
 have el:(gs++[cnr ((xss.map (spU fs)).map (mvU 1 f))]).map px=gs.map px++[px (cnr ((xss.map (spU fs)).map (mvU 1 f)))]:=by simp
 rw [el]
 have lz:(gs.map px).length < 16777216:=by rw [List.length_map]; omega
 have ln:((fs.map fv).length:Int)=(n:Int):=by rw [List.length_map,hf]
 have ec:aa5 [] (gN 0) (aah abh [] (aab (aah abB [] (aab (mVar 0) (aab (mVar 2) mNil))) (aab (mVar 1) (aab (mC (.int 1)) mNil)))) (xss.map lv) [none,some (.pv (tv f)),some (.pv (.lst (fs.map fv)))] [.lst (li n1),.lst (gs.map px)]=.ok (xss.map fun xs=>tv (mvU 1 f (spU fs xs))) [.lst (li n1),.lst (gs.map px)]:=by
  refine adl (ado _) lv (fun xs=>tv (mvU 1 f (spU fs xs))) xss none fun xs hx=>?_
  have a1:=(sp [.lst (li n1),.lst (gs.map px)] xs hx).1
  have a2:=akA (way:=1) [.lst (li n1),.lst (gs.map px)] hn (.inl rfl) (sp [] xs hx).2.1 Gf (by decide) (by decide)
  generalize tv (mvU 1 f (spU fs xs))=T1 at *
  generalize tv (spU fs xs)=T2 at *
  generalize lv xs=T3 at *
  generalize tv f=T4 at *
  generalize fs.map fv=FL at *
  generalize gs.map px=GL at *
  simp [EC,fAbs,aal,aak,fIx,atI,ixN,fEq,fNe,eqN,aam,aao,aap,aan,fAdd,aaj,frz,aau,a1,a2]
 have es:=adI (uss:=(xss.map (spU fs)).map (mvU 1 f)) (A:=.lst (((xss.map (spU fs)).map (mvU 1 f)).map tv)) hn [.lst (li n1),.lst (gs.map px)] l2 (fun us hu=>(gu2 us hu).mono (by decide)) (.inl rfl)
 have em:((xss.map (spU fs)).map (mvU 1 f)).map tv=xss.map fun xs=>tv (mvU 1 f (spU fs xs)):=by rw [List.map_map,List.map_map]; rfl
 rw [em] at es
 have hv:rawv xss=.lst (xss.map lv):=rfl
 have hp:∀ L:List (List Int),px L=.tup (L.map tv):=fun _=>rfl
 rw [hv,hp]
 clear S1 nz2 gu2 l2 nz hl gu sp
 generalize (cnr ((xss.map (spU fs)).map (mvU 1 f))).map tv=PX at *
 generalize (xss.map fun xs=>tv (mvU 1 f (spU fs xs)))=TL at *
 generalize xss.map lv=XL at *
 generalize fs.map fv=FL at *
 generalize gs.map px=GL at *
 generalize (n:Int)=N at *
 have e1:acF [.ref 0,.pv (.int N)] [.lst (li ns),.lst GL]=.ok (.pv (tv f)) [.lst (li n1),.lst GL]:=e1
 generalize tv f=TF at *
 unfold lB
 simp [EC,fAbs,aal,aak,fIx,atI,ixN,fEq,fNe,eqN,aam,aao,aap,aan,fAdd,aaj,frz,aau,ln,e1,mApp,acZ,aeV,aaC,cmpR,mIt,aa6,ec,es,lz]
theorem ao8 {n:Nat} (hn:n=2∨n=3) {fs:List (Int × Int)} (hf:fs.length=n) (h:∀ u∈fs,Sp u) (x1:Option AV):∀ (hs:List (List (List Int))) (gs:List (List (List Int))) (ns:List Int) (x4 x5:Option AV),(∀ xss∈hs,Rw n xss)→(∀ uss∈gs,Sx n 201 uss)→gs.length+hs.length≤99→∃ (gs':List (List (List Int))) (ns':List Int) (y4 y5:Option AV),
  abQ [] (gN 4) lB (hs.map rawv) [some (.ref 0),x1,some (.pv (.lst (fs.map fv))),some (.ref 1),x4,x5] [.lst (li ns),.lst (gs.map px)]=.nx [some (.ref 0),x1,some (.pv (.lst (fs.map fv))),some (.ref 1),y4,y5] [.lst (li ns'),.lst (gs'.map px)]∧gs'.length=gs.length+hs.length∧∀ uss∈gs',Sx n 201 uss
 | [],gs,ns,x4,x5,_,hg,_=>⟨gs,ns,x4,x5,abf,rfl,hg⟩
 | xss :: hs,gs,ns,x4,x5,hw,hg,h9=>by
  have h9:gs.length+(hs.length+1)≤99:=h9
  obtain ⟨uss,n1,y5,e1,r1⟩:=api hn ns hf h gs (by omega) (hw xss List.mem_cons_self) x1 x5
  obtain ⟨gs',n2,z4,z5,e2,l2,r2⟩:=ao8 hn hf h x1 hs (gs++[uss]) n1 (some (.pv (rawv xss))) y5 (fun y hy=>hw y (List.mem_cons_of_mem _ hy)) (fun y hy=>by
   rcases List.mem_append.mp hy with z | z
   ·exact hg y z
   ·have:y=uss:=by simpa using z
    rw [this]; exact r1) (by rw [List.length_append,List.length_singleton]; omega)
  refine ⟨gs',n2,z4,z5,?_,by rw [l2,List.length_append,List.length_singleton]; show _=gs.length+(hs.length+1); omega,r2⟩
  rw [List.map_cons,aaM]
  simp only [gN,List.set_cons_succ,List.set_cons_zero]
  rw [e1]
  exact e2
theorem am9 {n:Nat} (hn:n=2∨n=3) (ns:List Int) {fs:List (Int × Int)} (hf:fs.length=n) (h:∀ u∈fs,Sp u) {hs:List (List (List Int))} (hw:∀ xss∈hs,Rw n xss) (h9:hs.length≤90):∃ (gs:List (List (List Int))) (ns':List Int),adS [.ref 0,.pv (.lst (hs.map rawv)),.pv (.lst (fs.map fv))] [.lst (li ns)]=.ok (.ref 1) [.lst (li ns'),.lst (gs.map px)]∧gs.length=hs.length∧∀ uss∈gs,Sx n 201 uss:=by
 obtain ⟨gs,n2,y4,y5,e2,l2,r2⟩:=ao8 hn hf h (some (.pv (.lst (hs.map rawv)))) hs [] ns none none hw (fun _ h=>absurd h List.not_mem_nil) (by show 0+hs.length≤99; omega)
 refine ⟨gs,n2,?_,by rw [l2]; show 0+hs.length=_; omega,r2⟩
 simp only [List.map_nil] at e2
 have hb:ahj=(sSeq (sSet 3 (mNew mNil)) (sSeq (sFor (mIt (mVar 1)) (gN 4) lB) (sRet (mVar 3)))):=rfl
 unfold adS fnM
 rw [hb]
 generalize lB=LB at *
 generalize gs.map px=GL at *
 generalize hs.map rawv=HL at *
 generalize fs.map fv=FL at *
 simp [EC,fAbs,aal,aak,fIx,atI,ixN,fEq,fNe,eqN,aam,aao,aap,aan,fAdd,aaj,frz,aau,mNew,afo,sFor,mIt,aa6,e2]
theorem low1 {L:List Int} (h:gl L 0=1):low L=L:=by
 unfold low
 rw [h,if_neg (by decide)]
 simp
theorem amW {L:List Int} {w:Int} (hw:0 < w) (e:low (L++[w])=L++[w]):gl (L++[w]) 0=1:=by
 have hg:=aj0 (ab4 L w) (by omega)
 rw [ajf (ab4 L w) (by omega),List.map_append] at e
 have e2:=(List.append_inj' e (by simp)).2
 have e3:w / gl (L++[w]) 0=w:=by simpa using e2
 generalize gl (L++[w]) 0=g at *
 have e4:=Int.mul_ediv_self_le (x:=w) (k:=g) (by omega)
 rw [e3] at e4
 by_cases h2:2≤g
 ·have:=Int.mul_le_mul_of_nonneg_right h2 (show 0≤w by omega)
  omega
 ·omega
def ra:List Int→List Int
 | [x,y,w]=>[x,y,0,w]
 | l=>l
theorem aeC {k:Nat} {us:List Int} (h:Gu 2 k us):Gu 3 k (ra us):=by
 obtain ⟨xs,w,rfl,P⟩:=h
 match xs,P.len,P with
 | [x,y],_,P =>
  refine ⟨[x,y,0],w,rfl,⟨rfl,P.pos,?_,fun z hz=>?_,P.bw⟩⟩
  ·have e:=amW P.pos P.low
   refine low1 ?_
   rw [← e]
   simp [gl]
  ·have hz:z=x∨z=y∨z=0:=by simpa using hz
   rcases hz with rfl | rfl | rfl
   ·exact P.bx _ (by simp)
   ·exact P.bx _ (by simp)
   ·unfold Bd
    exact Nat.two_pow_pos k
theorem aeL {k:Nat} {us:List Int} (S:Sto) (h:Gu 2 k us):ab0 [.pv (tv us)] S=.ok (.pv (tv (ra us))) S∧ab3 [.pv (tv us)] S=.ok (.pv (tv (ra us))) S:=by
 obtain ⟨xs,w,rfl,P⟩:=h
 match xs,P.len with
 | [x,y],_ =>
  have s1:fSl (.tup [.int x,.int y,.int w]) none (some 2)=some (.tup [.int x,.int y]):=rfl
  have s2:fSl (.tup [.int x,.int y,.int w]) (some 2) none=some (.tup [.int w]):=rfl
  refine ⟨?_,?_⟩
  ·show ab0 [.pv (.tup [.int x,.int y,.int w])] S=.ok (.pv (.tup [.int x,.int y,.int 0,.int w])) S
   unfold ab0 fnM aee
   simp [EC,fAbs,aal,aak,fIx,atI,ixN,fEq,fNe,eqN,aam,aao,aap,aan,fAdd,aaj,frz,aau,mSl,mO0,mO1,abk,s1,s2,ra]
  ·show ab3 [.pv (.tup [.int x,.int y,.int w])] S=.ok (.pv (.tup [.int x,.int y,.int 0,.int w])) S
   unfold ab3 fnM aeN
   simp [EC,fAbs,aal,aak,fIx,atI,ixN,fEq,fNe,eqN,aam,aao,aap,aan,fAdd,aaj,frz,aau]
theorem anN (x0 y0 w0 x1 y1 w1 x2 y2 w2 a b c t:Int):D3 x0 y0 0 w0 x1 y1 0 w1 x2 y2 0 w2 a b c t=c*D2 x0 y0 w0 x1 y1 w1 x2 y2 w2:=by
 unfold D3 D2
 grind
theorem apB {l:Nat} {top:List Int} (g:Gu 3 l top):fIx (tv top) (.int 2)=some (.int (top.getD 2 0)):=by
 obtain ⟨xs,w,rfl,P⟩:=g
 match xs,P.len with
 | [x,y,z],_=>rfl
theorem am1 {l:Nat} (S:Sto) {top:List Int} (g:Gu 3 l top):abv [.pv (tv top)] S=if top.getD 2 0=0 then .exc "Flat" S else .ok (.pv .non) S:=by
 have e:=apB g
 generalize tv top=T at *
 generalize top.getD 2 0=c at *
 unfold abv fnM ab8
 by_cases h:c=0
 ·subst h
  simp [EC,fAbs,aal,aak,fEq,fNe,aaX,aam,aao,aap,aan,fAdd,aaj,frz,aau,e,aet]
 ·simp [EC,fAbs,aal,aak,fEq,fNe,aaX,aam,aao,aap,aan,fAdd,aaj,frz,aau,e,h]
theorem sh3 {v:Int} (h0:0≤v) (h1:v < 3):∃ M N:Int,fIx (.lst [.int 1,.int 3,.int 1000000000]) (.int v)=some (.int M)∧fIx (.lst [.int 1,.int 4,.int 1000000]) (.int v)=some (.int N)∧0 < M∧M≤1000000000∧0 < N∧N≤1000000:=by
 have:v=0∨v=1∨v=2:=by omega
 rcases this with rfl | rfl | rfl
 ·exact ⟨1,1,rfl,rfl,by decide,by decide,by decide,by decide⟩
 ·exact ⟨3,4,rfl,rfl,by decide,by decide,by decide,by decide⟩
 ·exact ⟨1000000000,1000000,rfl,rfl,by decide,by decide,by decide,by decide⟩
theorem ak7 (ns:List Int):∃ (top ns':List Int),acE [.ref 0,.pv (.int 3)] [.lst (li ns)]=.ok (.pv (tv top)) [.lst (li ns')]∧Gu 3 100 top:=by
 have hr:∀ ms,Row [.lst (li ms)] 0 ms:=fun _=>rfl
 have hr2:∀ ms L,Row [.lst (li ms),.lst L] 0 ms:=fun _ _=>rfl
 obtain ⟨c,n1,e1,c0,c1,_⟩:=abc (m:=3) (hr ns) (by decide) (sm8 (by decide) (by decide))
 obtain ⟨M,_,em,_,M0,M1,_,_⟩:=sh3 c0 c1
 obtain ⟨d,n2,e2,d0,d1,_⟩:=abc (m:=3) (hr n1) (by decide) (sm8 (by decide) (by decide))
 obtain ⟨_,N,_,en,_,_,N0,N1⟩:=sh3 d0 d1
 have bM:Bd 8000 M:=(Bd.of (k:=30) (n:=1000000000) (by omega) (by decide)).mono (by decide)
 have bN:Bd 8000 N:=(Bd.of (k:=30) (n:=1000000000) (by omega) (by decide)).mono (by decide)
 obtain ⟨t,n3,e3,t0,t1,_⟩:=abc (m:=N) (hr n2) N0 bN
 obtain ⟨xs,n4,e4,l4,b4⟩:=agb (W:=M) (by omega) (by omega) (abi 0 3) _ n3 none (hr n3)
 have l3:xs.length=3:=by rw [l4]; rfl
 match xs,l3,b4,e4 with
 | [x,y,z],_,b4,e4 =>
  obtain ⟨p,n5,e5,p0,p1,_⟩:=abc (m:=M) (hr2 n4 [.int x,.int y,.int z]) M0 bM
  obtain ⟨q,n6,e6,q0,q1,_⟩:=abc (m:=2) (hr2 n5 [.int x,.int y,.int z]) (by decide) (sm8 (by decide) (by decide))
  obtain ⟨s,n7,e7,s0,s1,_⟩:=abc (m:=8) (hr2 n6 [.int x,.int y,.int ((1+p)*(1 - 2*q))]) (by decide) (sm8 (by decide) (by decide))
  simp only [List.set_cons_zero] at e1 e2 e3 e4 e5 e6 e7
  have mq:fMul (.int 2) (.int q)=some (.int (2*q)):=acM (.inl (.inl ⟨by decide,by decide⟩))
  have mp:fMul (.int (1+p)) (.int (1 - 2*q))=some (.int ((1+p)*(1 - 2*q))):=acM (.inl (.inl ⟨by omega,by omega⟩))
  have rg:=rgn [.lst (li n3)] (n:=3) (by decide)
  rw [show ((3:Nat):Int)=3 from rfl] at rg
  have bx:Bd 100 x:=(b4 x (by simp)).mono (by decide)
  have by':Bd 100 y:=(b4 y (by simp)).mono (by decide)
  have bv:Bd 100 ((1+p)*(1 - 2*q)):=by
   have hq:1 - 2*q=1∨1 - 2*q=-1:=by omega
   have b0:Bd 100 (1+p):=(Bd.of (k:=31) (n:=1000000001) (by omega) (by decide)).mono (by decide)
   rcases hq with e | e <;> rw [e]
   ·rw [Int.mul_one]; exact b0
   ·rw [Int.mul_neg,Int.mul_one]; exact b0.neg
  have bt:Bd 100 (1+t):=(Bd.of (k:=30) (n:=1000000000) (by omega) (by decide)).mono (by decide)
  have b00:Bd 100 (0:Int):=by unfold Bd; exact Nat.two_pow_pos 100
  have fin:∀ (v:Int),Bd 100 v→∃ top,Gu 3 100 top∧∀ S,aaF [.pv (.lst [.int x,.int y,.int v,.int (1+t)])] S=.ok (.pv (tv top)) S:=fun v hv=>by
   have bL:∀ u∈[x,y,v],Bd 100 u:=by
    simp
    exact ⟨bx,by',hv⟩
   obtain ⟨zs,w,el,Z,_⟩:=agF (n:=3) (L:=[x,y,v]) (b:=1+t) (by omega) rfl bL bt
   refine ⟨zs++[w],⟨zs,w,rfl,Z⟩,fun S=>?_⟩
   have ew:=ab7 ([x,y,v]++[1+t]) S (by
    intro u hu
    rcases List.mem_append.mp hu with a | a
    ·exact (bL u a).mono (by decide)
    ·have:u=1+t:=by simpa using a
     rw [this]; exact bt.mono (by decide))
   rw [el] at ew
   exact ew
  have e1:aaq [.ref 0,.pv (.int 3)] [.lst (li ns)]=.ok (.pv (.int c)) [.lst (li n1)]:=e1
  have e2:aaq [.ref 0,.pv (.int 3)] [.lst (li n1)]=.ok (.pv (.int d)) [.lst (li n2)]:=e2
  have e3:aaq [.ref 0,.pv (.int N)] [.lst (li n2)]=.ok (.pv (.int t)) [.lst (li n3)]:=e3
  have e5:aaq [.ref 0,.pv (.int M)] [.lst (li n4),.lst [.int x,.int y,.int z]]=.ok (.pv (.int p)) [.lst (li n5),.lst [.int x,.int y,.int z]]:=e5
  have e6:aaq [.ref 0,.pv (.int 2)] [.lst (li n5),.lst [.int x,.int y,.int z]]=.ok (.pv (.int q)) [.lst (li n6),.lst [.int x,.int y,.int z]]:=e6
  have i3:ixN 3 (-1)=some 2:=rfl
  generalize (1+p)*(1 - 2*q)=V at *
  have e7:aaq [.ref 0,.pv (.int 8)] [.lst (li n6),.lst [.int x,.int y,.int V]]=.ok (.pv (.int s)) [.lst (li n7),.lst [.int x,.int y,.int V]]:=e7
  have e4:aa5 [] (gN 0) (mBin fSub (aah aaq [] (aab (mVar 2) (aab (mBin fAdd (mBin fMul (mC (.int 2)) (mVar 1)) (mC (.int 1))) mNil))) (mVar 1)) (abi 0 3) [none,some (.pv (.int M)),some (.ref 0)] [.lst (li n3)]=.ok [.int x,.int y,.int z] [.lst (li n4)]:=e4
  generalize hme:(mBin fSub (aah aaq [] (aab (mVar 2) (aab (mBin fAdd (mBin fMul (mC (.int 2)) (mVar 1)) (mC (.int 1))) mNil))) (mVar 1))=ME1 at e4
  have hb:afY=(sSeq (sSet 2 (mBin fIx (mN fLst (aab (mC (.int 1)) (aab (mC (.int 3)) (aab (mBin fPow (mC (.int 10)) (mC (.int 9))) mNil)))) (aah aaq [] (aab (mVar 0) (aab (mC (.int 3)) mNil)))))
 (sSeq (sSet 3 (mBin fIx (mN fLst (aab (mC (.int 1)) (aab (mC (.int 4)) (aab (mBin fPow (mC (.int 10)) (mC (.int 6))) mNil)))) (aah aaq [] (aab (mVar 0) (aab (mC (.int 3)) mNil)))))
 (sSeq (sSet 3 (mBin fAdd (mC (.int 1)) (aah aaq [] (aab (mVar 0) (aab (mVar 3) mNil)))))
 (sSeq (sSet 4 (aht ["_law_k"] [(2,"_law_wide"),(0,"_law_row_here")] (aaE (aab (mVar 1) mNil)) (gN 0) ME1))
 (sSeq (acr (mVar 4) (mUn fNeg (mC (.int 1))) (mBin fMul (mBin fAdd (mC (.int 1)) (aah aaq [] (aab (mVar 0) (aab (mVar 2) mNil)))) (mBin fSub (mC (.int 1)) (mBin fMul (mC (.int 2)) (aah aaq [] (aab (mVar 0) (aab (mC (.int 2)) mNil)))))))
 (sSeq (sIf (mTst (mBin fEq (aah aaq [] (aab (mVar 0) (aab (mC (.int 8)) mNil))) (mC (.int 7)))) (acr (mVar 4) (mUn fNeg (mC (.int 1))) (mC (.int 0))) sNil)
 (sRet (aah aaF [] (aab (mBin fAdd (mVar 4) (mN fLst (aab (mVar 3) mNil))) mNil))))))))):=by rw [← hme]; rfl
  generalize abi 0 3=IP at *
  by_cases h7:s=7
  ·obtain ⟨top,G,el⟩:=fin 0 b00
   refine ⟨top,n7,?_,G⟩
   subst h7
   have el:=el [.lst (li n7),.lst [.int x,.int y,.int 0]]
   generalize tv top=T at *
   unfold acE fnM
   rw [hb]
   simp [EC,fAbs,aal,aak,fEq,fNe,aaX,aam,aao,aap,aan,fAdd,aaj,frz,aau,p9,p6,e1,em,e2,en,e3,aht,cmpR,aaE,rg,e4,acr,af0,acZ,e5,e6,e7,mq,mp,i3,el]
  ·obtain ⟨top,G,el⟩:=fin V bv
   refine ⟨top,n7,?_,G⟩
   have el:=el [.lst (li n7),.lst [.int x,.int y,.int V]]
   generalize tv top=T at *
   unfold acE fnM
   rw [hb]
   simp [EC,fAbs,aal,aak,fEq,fNe,aaX,aam,aao,aap,aan,fAdd,aaj,frz,aau,p9,p6,e1,em,e2,en,e3,aht,cmpR,aaE,rg,e4,acr,af0,acZ,e5,e6,e7,mq,mp,i3,h7,el]
theorem aoI {k:Nat} {x0 y0 w0 x1 y1 w1 x2 y2 w2:Int} (S:Sto) (h:S[k]?=some (.lst [v2 x0 y0 w0,v2 x1 y1 w1,v2 x2 y2 w2])) (p:P2 x0 y0 w0) (q:P2 x1 y1 w1) (r:P2 x2 y2 w2):aca [.ref k] S=.ok (.pv (.int (w0*D2 x0 y0 w0 x1 y1 w1 x2 y2 w2))) S:=by
 have a1:=gap2 S p q
 have a2:=gap2 S p r
 have bu:=sb p.bx p.bw q.bx q.bw
 have bv:=sb p.by_ p.bw q.by_ q.bw
 have bu2:=sb p.bx p.bw r.bx r.bw
 have bv2:=sb p.by_ p.bw r.by_ r.bw
 have id:(x1*w0 - x0*w1)*(y2*w0 - y0*w2) - (y1*w0 - y0*w1)*(x2*w0 - x0*w2)=w0*D2 x0 y0 w0 x1 y1 w1 x2 y2 w2:=by
  unfold D2
  grind
 generalize w0*D2 x0 y0 w0 x1 y1 w1 x2 y2 w2=D at *
 generalize x1*w0 - x0*w1=U0 at *
 generalize y1*w0 - y0*w1=U1 at *
 generalize x2*w0 - x0*w2=V0 at *
 generalize y2*w0 - y0*w2=V1 at *
 have m1:=mBB bu bv2
 have m2:=mBB bv bu2
 generalize v2 x0 y0 w0=P at *
 generalize v2 x1 y1 w1=Q at *
 generalize v2 x2 y2 w2=R at *
 have et:abP [.pv (.lst [.lst [.int U0,.int U1],.lst [.int V0,.int V1]])] S=.ok (.pv (.int D)) S:=by
  unfold abP fnM adJ
  simp [aaV,sSeq,sIf,mTst,mNot,mAnd,mOr,abK,mOrV,mIf,mBin,mUn,mR,mN,aab,mVar,mC,mNil,Res.bind,abL,abo,abA,abV,abb,rd,abw,okO,fLen,fAbs,aal,aak,fTup,fLst,fIx,atI,ixN,fEq,fNe,eqN,aam,aao,aap,aan,fAdd,aaj,fNeg,fNot,tst,SRes.of,sRet,ab2,sNil,aaW,sSet,aaR,abC,aah,abj,aa4,frz,aau,m1,m2,id]
 unfold aca fnM afA
 have s1:=ahp P [Q,R]
 simp [aaV,sSeq,sIf,mTst,mNot,mAnd,mOr,abK,mOrV,mIf,mBin,mUn,mR,mN,aab,mVar,mC,mNil,Res.bind,abL,abo,abA,abV,abb,rd,abw,okO,fLen,fAbs,aal,aak,fTup,fLst,fIx,atI,ixN,fEq,fNe,eqN,aam,aao,aap,aan,fAdd,aaj,fNeg,fNot,tst,SRes.of,sRet,ab2,sNil,aaW,sSet,aaR,abC,aah,abj,aa4,frz,aau,aaC,mIt,aa6,mSl,mO0,mO1,abk,s1,cmpR,aav,aay,gN,a1,a2,et,h]
theorem aoy {k:Nat} {x0 y0 z0 w0 x1 y1 z1 w1 x2 y2 z2 w2 x3 y3 z3 w3:Int} (S:Sto) (h:S[k]?=some (.lst [v3 x0 y0 z0 w0,v3 x1 y1 z1 w1,v3 x2 y2 z2 w2,v3 x3 y3 z3 w3])) (p:P3 x0 y0 z0 w0) (q:P3 x1 y1 z1 w1) (r:P3 x2 y2 z2 w2) (s:P3 x3 y3 z3 w3):aca [.ref k] S=.ok (.pv (.int (w0*w0*D3 x0 y0 z0 w0 x1 y1 z1 w1 x2 y2 z2 w2 x3 y3 z3 w3))) S:=by
 have a1:=gap3 S p q
 have a2:=gap3 S p r
 have a3:=gap3 S p s
 have b1:=sb p.bx p.bw q.bx q.bw
 have b2:=sb p.by_ p.bw q.by_ q.bw
 have b3:=sb p.bz p.bw q.bz q.bw
 have b4:=sb p.bx p.bw r.bx r.bw
 have b5:=sb p.by_ p.bw r.by_ r.bw
 have b6:=sb p.bz p.bw r.bz r.bw
 have b7:=sb p.bx p.bw s.bx s.bw
 have b8:=sb p.by_ p.bw s.by_ s.bw
 have b9:=sb p.bz p.bw s.bz s.bw
 have id:=am4 x0 y0 z0 w0 x1 y1 z1 w1 x2 y2 z2 w2 x3 y3 z3 w3
 generalize w0*w0*D3 x0 y0 z0 w0 x1 y1 z1 w1 x2 y2 z2 w2 x3 y3 z3 w3=D at *
 generalize x1*w0 - x0*w1=U0 at *
 generalize y1*w0 - y0*w1=U1 at *
 generalize z1*w0 - z0*w1=U2 at *
 generalize x2*w0 - x0*w2=V0 at *
 generalize y2*w0 - y0*w2=V1 at *
 generalize z2*w0 - z0*w2=V2 at *
 generalize x3*w0 - x0*w3=T0 at *
 generalize y3*w0 - y0*w3=T1 at *
 generalize z3*w0 - z0*w3=T2 at *
 have hh:∀ {a:Int},Bd 2001 a→Bd 10000 a:=fun h=>h.mono (by decide)
 have h4:∀ {a:Int},Bd 4003 a→Bd 100000 a:=fun h=>h.mono (by decide)
 have h2:∀ {a:Int},Bd 2001 a→Bd 100000 a:=fun h=>h.mono (by decide)
 have en:=aio (A:=.lst [.int U0,.int U1,.int U2]) (B:=.lst [.int V0,.int V1,.int V2]) S (.inl rfl) (.inl rfl) (hh b1) (hh b2) (hh b3) (hh b4) (hh b5) (hh b6)
 have c1:=cb b2 b6 b3 b5
 have c2:=cb b3 b4 b1 b6
 have c3:=cb b1 b5 b2 b4
 have ed:=ajV (A:=.lst [.int (U1*V2 - U2*V1),.int (U2*V0 - U0*V2),.int (U0*V1 - U1*V0)]) (B:=.lst [.int T0,.int T1,.int T2]) (us:=[U1*V2 - U2*V1,U2*V0 - U0*V2,U0*V1 - U1*V0]) (vs:=[T0,T1,T2]) S (.inl rfl) (.inl rfl) (by simp; exact ⟨h4 c1,h4 c2,h4 c3⟩) (by simp; exact ⟨h2 b7,h2 b8,h2 b9⟩)
 rw [id] at ed
 generalize U1*V2 - U2*V1=N0 at *
 generalize U2*V0 - U0*V2=N1 at *
 generalize U0*V1 - U1*V0=N2 at *
 generalize v3 x0 y0 z0 w0=P at *
 generalize v3 x1 y1 z1 w1=Q at *
 generalize v3 x2 y2 z2 w2=R at *
 generalize v3 x3 y3 z3 w3=T at *
 have et:abP [.pv (.lst [.lst [.int U0,.int U1,.int U2],.lst [.int V0,.int V1,.int V2],.lst [.int T0,.int T1,.int T2]])] S=.ok (.pv (.int D)) S:=by
  unfold abP fnM adJ
  simp [aaV,sSeq,sIf,mTst,mNot,mAnd,mOr,abK,mOrV,mIf,mBin,mUn,mR,mN,aab,mVar,mC,mNil,Res.bind,abL,abo,abA,abV,abb,rd,abw,okO,fLen,fAbs,aal,aak,fTup,fLst,fIx,atI,ixN,fEq,fNe,eqN,aam,aao,aap,aan,fAdd,aaj,fNeg,fNot,tst,SRes.of,sRet,ab2,sNil,aaW,sSet,aaR,abC,aah,abj,aa4,frz,aau,en,ed]
 unfold aca fnM afA
 have s1:=ahp P [Q,R,T]
 simp [aaV,sSeq,sIf,mTst,mNot,mAnd,mOr,abK,mOrV,mIf,mBin,mUn,mR,mN,aab,mVar,mC,mNil,Res.bind,abL,abo,abA,abV,abb,rd,abw,okO,fLen,fAbs,aal,aak,fTup,fLst,fIx,atI,ixN,fEq,fNe,eqN,aam,aao,aap,aan,fAdd,aaj,fNeg,fNot,tst,SRes.of,sRet,ab2,sNil,aaW,sSet,aaR,abC,aah,abj,aa4,frz,aau,aaC,mIt,aa6,mSl,mO0,mO1,abk,s1,cmpR,aav,aay,gN,a1,a2,a3,et,h]
theorem apN {n:Nat} (hn:n=2∨n=3) {uss:List (List Int)} (hl:uss.length=n+1) (hg:∀ us∈uss,Gu n 1000 us):∃ d:Int,sg d=sg (dU uss)∧Bd 8000 d∧(∀ S,aca [.pv (px uss)] S=.ok (.pv (.int d)) S)∧∀ (S:Sto) (k:Nat),S[k]?=some (.lst (uss.map tv))→aca [.ref k] S=.ok (.pv (.int d)) S:=by
 rcases hn with rfl | rfl
 ·match uss,hl,hg with
  | [a,b,c],_,hg =>
   obtain ⟨x0,y0,w0,rfl,q0,a0,b0,c0⟩:=(hg a (by simp)).two'
   obtain ⟨x1,y1,w1,rfl,q1,a1,b1,c1⟩:=(hg b (by simp)).two'
   obtain ⟨x2,y2,w2,rfl,q2,a2,b2,c2⟩:=(hg c (by simp)).two'
   refine ⟨w0*D2 x0 y0 w0 x1 y1 w1 x2 y2 w2,ae3 q0,(c0.mul (apH a0 b0 c0 a1 b1 c1 a2 b2 c2)).mono (by decide),fun S=>?_,fun S k h=>?_⟩
   ·exact ah5 S (.inr rfl) ⟨a0,b0,c0,q0⟩ ⟨a1,b1,c1,q1⟩ ⟨a2,b2,c2,q2⟩
   ·exact aoI S h ⟨a0,b0,c0,q0⟩ ⟨a1,b1,c1,q1⟩ ⟨a2,b2,c2,q2⟩
 ·match uss,hl,hg with
  | [a,b,c,d],_,hg =>
   obtain ⟨x0,y0,z0,w0,rfl,q0,a0,b0,d0,c0⟩:=(hg a (by simp)).three'
   obtain ⟨x1,y1,z1,w1,rfl,q1,a1,b1,d1,c1⟩:=(hg b (by simp)).three'
   obtain ⟨x2,y2,z2,w2,rfl,q2,a2,b2,d2,c2⟩:=(hg c (by simp)).three'
   obtain ⟨x3,y3,z3,w3,rfl,q3,a3,b3,d3,c3⟩:=(hg d (by simp)).three'
   refine ⟨w0*w0*D3 x0 y0 z0 w0 x1 y1 z1 w1 x2 y2 z2 w2 x3 y3 z3 w3,ae3 (Int.mul_pos q0 q0),((c0.mul c0).mul (apm a0 b0 d0 c0 a1 b1 d1 c1 a2 b2 d2 c2 a3 b3 d3 c3)).mono (by decide),fun S=>?_,fun S k h=>?_⟩
   ·exact aib S (.inr rfl) ⟨a0,b0,d0,c0,q0⟩ ⟨a1,b1,d1,c1,q1⟩ ⟨a2,b2,d2,c2,q2⟩ ⟨a3,b3,d3,c3,q3⟩
   ·exact aoy S h ⟨a0,b0,d0,c0,q0⟩ ⟨a1,b1,d1,c1,q1⟩ ⟨a2,b2,d2,c2,q2⟩ ⟨a3,b3,d3,c3,q3⟩
def plc:List Int→Int→Int
 | [],f=>f
 | s :: L,f=>if s < 0 then -1 else plc L (if s=0 then 0 else f)
def sgs (uss:List (List Int)) (p:List Int):List Int:=(List.range uss.length).map fun j=>sg (dU (uss.set j p))
def stn (uss:List (List Int)) (p:List Int):Int:=plc (sgs uss p) 1
theorem sg3 (d:Int):sg d=-1∨sg d=0∨sg d=1:=by
 unfold sg
 split
 ·exact .inr (.inr rfl)
 ·split
  ·exact .inl rfl
  ·exact .inr (.inl rfl)
theorem ajL:∀ (L:List Int) (f:Int),(f=-1∨f=0∨f=1)→(∀ s∈L,s=-1∨s=0∨s=1)→(f=-1→L.foldl min f=-1)∧(f≠-1→L.foldl min f=plc L f)
 | [],f,_,_=>⟨fun h=>h,fun _=>rfl⟩
 | s :: L,f,hf,h=>by
  have hs:=h s (by simp)
  have ih:=fun f hf=>ajL L f hf fun x hx=>h x (List.mem_cons_of_mem _ hx)
  refine ⟨fun z=>?_,fun z=>?_⟩
  ·show L.foldl min (min f s)=-1
   have e:min f s=-1:=by rcases hs with rfl | rfl | rfl <;> subst z <;> decide
   rw [e]
   exact (ih (-1) (.inl rfl)).1 rfl
  ·show L.foldl min (min f s)=if s < 0 then -1 else plc L (if s=0 then 0 else f)
   rcases hs with rfl | rfl | rfl
   ·have e:min f (-1)=-1:=by rcases hf with rfl | rfl | rfl <;> decide
    rw [e,if_pos (by decide)]
    exact (ih (-1) (.inl rfl)).1 rfl
   ·have e:min f 0=0:=by rcases hf with rfl | rfl | rfl <;> first | decide | exact absurd rfl z
    rw [e,if_neg (by decide),if_pos rfl]
    exact (ih 0 (.inr (.inl rfl))).2 (by decide)
   ·have e:min f 1=f:=by rcases hf with rfl | rfl | rfl <;> decide
    rw [e,if_neg (by decide),if_neg (by decide)]
    exact (ih f hf).2 z
theorem ahB {L:List Int} (hne:L≠[]) (h:∀ s∈L,s=-1∨s=0∨s=1):L.min?=some (plc L 1):=by
 match L,hne,h with
 | s :: L,_,h =>
  have e:=(ajL (s :: L) 1 (.inr (.inr rfl)) h).2 (by decide)
  have hs:=h s (by simp)
  have e1:min 1 s=s:=by rcases hs with rfl | rfl | rfl <;> decide
  have e2:(s :: L).foldl min 1=L.foldl min s:=by
   show L.foldl min (min 1 s)=_
   rw [e1]
  rw [← e,e2]
  rfl
theorem plc3:∀ (L:List Int) (f:Int),(f=-1∨f=0∨f=1)→(plc L f=-1∨plc L f=0∨plc L f=1)
 | [],f,hf=>hf
 | s :: L,f,hf=>by
  unfold plc
  split
  ·exact .inl rfl
  ·split
   ·exact plc3 L 0 (.inr (.inl rfl))
   ·exact plc3 L f hf
theorem stn3 (uss:List (List Int)) (p:List Int):stn uss p=-1∨stn uss p=0∨stn uss p=1:=plc3 _ 1 (.inr (.inr rfl))
theorem al4 {n k:Nat} {uss:List (List Int)} {p:List Int} (h:∀ us∈uss,Gu n k us) (g:Gu n k p) (j:Nat):∀ us∈uss.set j p,Gu n k us:=fun us hu=>by
 rcases List.mem_or_eq_of_mem_set hu with z | z
 ·exact h us z
 ·rw [z]; exact g
theorem aoF {n:Nat} (hn:n=2∨n=3) {uss:List (List Int)} {p:List Int} (hl:uss.length=n+1) (S:Sto) {j:Nat} (hj:j < n+1):ab1 [.pv (px uss),.pv (.int (j:Int)),.pv (tv p)] S=.ok (.pv (px (uss.set j p))) S:=by
 have go:∀ (L M R:List PV) (a b:Option PV),fSl (px uss) none (some (j:Int))=some (.tup L)→fSl (px uss) (some ((j:Int)+1)) none=some (.tup R)→L.length+1+R.length≤100→px (uss.set j p)=.tup (L++[tv p]++R)→ab1 [.pv (px uss),.pv (.int (j:Int)),.pv (tv p)] S=.ok (.pv (px (uss.set j p))) S:=fun L M R a b h1 h2 hz h3=>by
  have t1:akw (.tup L) (.tup [tv p])=some (.tup (L++[tv p])):=by
   show (if L.length+1≤16777216 then some (PV.tup (L++[tv p])) else none)=_
   rw [if_pos (by omega)]
  have t2:akw (.tup (L++[tv p])) (.tup R)=some (.tup (L++[tv p]++R)):=by
   show (if (L++[tv p]).length+R.length≤16777216 then some (PV.tup (L++[tv p]++R)) else none)=_
   rw [if_pos (by rw [List.length_append,List.length_singleton]; omega)]
  rw [h3]
  generalize L++[tv p]++R=V at *
  generalize L++[tv p]=U at *
  generalize px uss=P at *
  generalize tv p=T at *
  generalize (j:Int)=J at *
  unfold ab1 fnM aen
  simp [EC,fAbs,aal,aak,fIx,atI,ixN,fEq,fNe,eqN,aam,aao,aap,aan,fAdd,aaj,frz,aau,mSl,mO0,mO1,abk,h1,h2,t1,t2]
 rcases hn with rfl | rfl
 ·match uss,hl,j,hj with
  | [a,b,c],_,0,_=>exact go [] [] [tv b,tv c] none none rfl rfl (by simp) rfl
  | [a,b,c],_,1,_=>exact go [tv a] [] [tv c] none none rfl rfl (by simp) rfl
  | [a,b,c],_,2,_=>exact go [tv a,tv b] [] [] none none rfl rfl (by simp) rfl
 ·match uss,hl,j,hj with
  | [a,b,c,d],_,0,_=>exact go [] [] [tv b,tv c,tv d] none none rfl rfl (by simp) rfl
  | [a,b,c,d],_,1,_=>exact go [tv a] [] [tv c,tv d] none none rfl rfl (by simp) rfl
  | [a,b,c,d],_,2,_=>exact go [tv a,tv b] [] [tv d] none none rfl rfl (by simp) rfl
  | [a,b,c,d],_,3,_=>exact go [tv a,tv b,tv c] [] [] none none rfl rfl (by simp) rfl
theorem aid (m:Nat):abi 0 m=(List.range m).map fun j:Nat=>PV.int (j:Int):=by
 unfold abi
 refine List.map_congr_left fun j _=>?_
 simp
theorem alg {n k:Nat} (hn:n=2∨n=3) (hk:k≤1000) {uss:List (List Int)} {p:List Int} (h:Sx n k uss) (g:Gu n 1000 p) (S:Sto):acd [.pv (px uss),.pv (tv p)] S=.ok (.pv (.int (stn uss p))) S:=by
 have hl:=h.len
 have hg:∀ us∈uss,Gu n 1000 us:=fun us hu=>(h.gu us hu).mono hk
 have ec:aa5 [] (gN 0) (aah adc [] (aab (aah ab1 [] (aab (mVar 1) (aab (mVar 0) (aab (mVar 2) mNil)))) mNil)) ((List.range (n+1)).map fun j:Nat=>PV.int (j:Int)) [none,some (.pv (px uss)),some (.pv (tv p))] S=.ok ((List.range (n+1)).map fun j=>.int (sg (dU (uss.set j p)))) S:=by
  refine adl (ado S) (fun j:Nat=>PV.int (j:Int)) (fun j=>.int (sg (dU (uss.set j p)))) (List.range (n+1)) none fun j hj=>?_
  have e1:=aoF hn (p:=p) hl S (j:=j) (by simpa using hj)
  have hl2:(uss.set j p).length=n+1:=by rw [List.length_set]; exact hl
  have hg2:=al4 hg g j
  have e2:=akb (A:=px (uss.set j p)) (L:=(uss.set j p).map tv) hn S (by rw [List.length_map]; exact hl2) (gps hg2) (.inr rfl)
  rw [agC hn (Nat.le_refl 1000) hl2 hg2] at e2
  generalize px (uss.set j p)=P1 at *
  generalize px uss=P0 at *
  generalize tv p=T at *
  generalize (j:Int)=J at *
  simp [EC,fAbs,aal,aak,fIx,atI,ixN,fEq,fNe,eqN,aam,aao,aap,aan,fAdd,aaj,frz,aau,e1,e2]
 have rg:=rgn S (n:=n+1) (by omega)
 rw [aid] at rg
 have es:((List.range (n+1)).map fun j=>sg (dU (uss.set j p)))=sgs uss p:=by
  unfold sgs
  rw [hl]
 have em:((List.range (n+1)).map fun j=>PV.int (sg (dU (uss.set j p))))=(sgs uss p).map .int:=by
  rw [← es,List.map_map]
  rfl
 rw [em] at ec
 have hm:fMin [.lst ((sgs uss p).map .int)]=some (.int (stn uss p)):=by
  show ((adf ((sgs uss p).map .int)).bind fun bs=>bs.min?.map PV.int)=_
  rw [adB]
  show (sgs uss p).min?.map PV.int=_
  rw [ahB (L:=sgs uss p) (by
   unfold sgs
   rw [hl]
   intro z
   have:=congrArg List.length z
   simp at this) (fun s hs=>by
   unfold sgs at hs
   obtain ⟨j,_,rfl⟩:=List.mem_map.mp hs
   exact sg3 _)]
  rfl
 have ln:((uss.map tv).length:Int)=((n+1:Nat):Int):=by rw [List.length_map,hl]
 have hp:px uss=.tup (uss.map tv):=rfl
 rw [hp] at ec ⊢
 generalize (sgs uss p).map PV.int=SL at *
 generalize ((List.range (n+1)).map fun j:Nat=>PV.int (j:Int))=RL at *
 generalize uss.map tv=UL at *
 generalize tv p=T at *
 generalize ((n+1:Nat):Int)=N1 at *
 unfold acd fnM aek
 simp [EC,fAbs,aal,aak,fIx,atI,ixN,fEq,fNe,eqN,aam,aao,aap,aan,fAdd,aaj,frz,aau,ln,aaC,cmpR,aaE,rg,ec,hm]
theorem amm {d:Int}:(sg d < 0↔d < 0)∧(sg d=0↔d=0):=by
 unfold sg
 split
 ·omega
 ·split <;> omega
noncomputable abbrev ctB:MS:=(sSeq (sSet 4 (aah acd [] (aab (mVar 3) (aab (mVar 1) mNil))))
 (sSeq (sIf (mTst (mBin fEq (mVar 4) (mC (.int 0)))) (aet "OnSide") sNil)
 (sIf (mTst (mBin fGt (mVar 4) (mC (.int 0)))) (akq (fun i j=>i+j) 2 (mC (.int 1))) sNil)))
theorem akn {n k:Nat} (hn:n=2∨n=3) (hk:k≤1000) {p:List Int} (g:Gu n 1000 p) (S:Sto) (x0:Option AV):∀ (hs:List (List (List Int))) (c:Int) (x3 x4:Option AV),(∀ uss∈hs,Sx n k uss) →
  ((∃ uss∈hs,stn uss p=0)∧abQ [] (gN 3) ctB (hs.map px) [x0,some (.pv (tv p)),some (.pv (.int c)),x3,x4] S=.exc "OnSide" S) ∨
  ((∀ uss∈hs,stn uss p≠0)∧∃ y3 y4,abQ [] (gN 3) ctB (hs.map px) [x0,some (.pv (tv p)),some (.pv (.int c)),x3,x4] S=.nx [x0,some (.pv (tv p)),some (.pv (.int (c+((hs.map fun uss=>stn uss p).count 1:Nat)))),y3,y4] S)
 | [],c,x3,x4,_=>.inr ⟨fun _ h=>absurd h List.not_mem_nil,x3,x4,by simp [abf]⟩
 | uss :: hs,c,x3,x4,h=>by
  have e:=alg hn hk (h uss (by simp)) g S
  have s3:=stn3 uss p
  by_cases c0:stn uss p=0
  ·left
   refine ⟨⟨uss,by simp,c0⟩,?_⟩
   rw [c0] at e
   have st:ctB [x0,some (.pv (tv p)),some (.pv (.int c)),some (.pv (px uss)),x4] S=.exc "OnSide" S:=by
    generalize px uss=P at *
    generalize tv p=T at *
    unfold ctB
    simp [EC,fAbs,aal,aak,fIx,atI,ixN,fEq,fNe,eqN,aam,aao,aap,aan,fAdd,aaj,frz,aau,e,aet]
   rw [List.map_cons,aaM]
   simp only [gN,List.set_cons_succ,List.set_cons_zero]
   rw [st]
  ·have st:ctB [x0,some (.pv (tv p)),some (.pv (.int c)),some (.pv (px uss)),x4] S=.nx [x0,some (.pv (tv p)),some (.pv (.int (c+if stn uss p=1 then 1 else 0))),some (.pv (px uss)),some (.pv (.int (stn uss p)))] S:=by
    generalize px uss=P at *
    generalize tv p=T at *
    generalize stn uss p=s at *
    unfold ctB
    rcases s3 with rfl | rfl | rfl
    ·simp [EC,fAbs,aal,aak,fIx,atI,ixN,fEq,fNe,eqN,aam,aao,aap,aan,fAdd,aaj,frz,aau,e]
    ·exact absurd rfl c0
    ·simp [EC,fAbs,aal,aak,fIx,atI,ixN,fEq,fNe,eqN,aam,aao,aap,aan,fAdd,aaj,frz,aau,e,akq,augI]
   rcases akn hn hk g S x0 hs (c+if stn uss p=1 then 1 else 0) (some (.pv (px uss))) (some (.pv (.int (stn uss p)))) (fun y hy=>h y (List.mem_cons_of_mem _ hy)) with ⟨⟨y,hy,z⟩,ih⟩ | ⟨z,y3,y4,ih⟩
   ·left
    refine ⟨⟨y,List.mem_cons_of_mem _ hy,z⟩,?_⟩
    rw [List.map_cons,aaM]
    simp only [gN,List.set_cons_succ,List.set_cons_zero]
    rw [st]
    exact ih
   ·right
    refine ⟨fun y hy=>?_,y3,y4,?_⟩
    ·rcases List.mem_cons.mp hy with rfl | hy
     ·exact c0
     ·exact z y hy
    ·rw [List.map_cons,aaM]
     simp only [gN,List.set_cons_succ,List.set_cons_zero]
     rw [st]
     have ec:c+(((uss :: hs).map fun uss=>stn uss p).count 1:Nat)=c+(if stn uss p=1 then 1 else 0)+((hs.map fun uss=>stn uss p).count 1:Nat):=by
      rw [List.map_cons,List.count_cons]
      by_cases c1:stn uss p=1
      ·rw [c1]
       simp
       omega
      ·have:(stn uss p == 1)=false:=by simpa using c1
       rw [this,if_neg c1]
       simp
     rw [ec]
     exact ih
theorem akW {n k:Nat} (hn:n=2∨n=3) (hk:k≤1000) {p:List Int} (g:Gu n 1000 p) (S:Sto) {hs:List (List (List Int))} {A:PV} (hA:Sv A (hs.map px)) (h:∀ uss∈hs,Sx n k uss) :
  ((∃ uss∈hs,stn uss p=0)∧abN [.pv A,.pv (tv p)] S=.exc "OnSide" S)∨((∀ uss∈hs,stn uss p≠0)∧abN [.pv A,.pv (tv p)] S=.ok (.pv (.int ((hs.map fun uss=>stn uss p).count 1:Nat))) S):=by
 have L:=akn hn hk g S (some (.pv A)) hs 0 none none h
 have hb:acW=(sSeq (sSet 2 (mC (.int 0)))
 (sSeq (sFor (mIt (mVar 0)) (gN 3) ctB)
 (sRet (mVar 2)))):=rfl
 have tk:S.take S.length=S:=by simp
 have z0:(0:Int)+((hs.map fun uss=>stn uss p).count 1:Nat)=((hs.map fun uss=>stn uss p).count 1:Nat):=by omega
 rw [z0] at L
 unfold abN fnM
 rw [hb]
 generalize ctB=CB1 at *
 generalize (((hs.map fun uss=>stn uss p).count 1:Nat):Int)=C at *
 generalize tv p=T at *
 rcases L with ⟨a,b⟩ | ⟨a,y3,y4,b⟩
 ·left
  refine ⟨a,?_⟩
  rcases hA with rfl | rfl <;> (generalize hs.map px=HL at *; simp [EC,fAbs,aal,aak,fIx,atI,ixN,fEq,fNe,eqN,aam,aao,aap,aan,fAdd,aaj,frz,aau,sFor,mIt,aa6,b])
 ·right
  refine ⟨a,?_⟩
  rcases hA with rfl | rfl <;> (generalize hs.map px=HL at *; simp [EC,fAbs,aal,aak,fIx,atI,ixN,fEq,fNe,eqN,aam,aao,aap,aan,fAdd,aaj,frz,aau,sFor,mIt,aa6,b])
theorem ahs {b:Nat} {U w:Int} (hU:0 < U) (hw:0 < w) (bU:Bd b U):Bd b (U.fdiv w):=by
 have e:U.fdiv w=U / w:=Int.fdiv_eq_ediv_of_nonneg U (Int.le_of_lt hw)
 rw [e]
 have h1:=Int.ediv_nonneg (Int.le_of_lt hU) (Int.le_of_lt hw)
 have h2:=Int.ediv_le_self w (Int.le_of_lt hU)
 exact Nat.lt_of_le_of_lt (by omega) bU
theorem aje {k:Nat}:∀ (L:List Int),(∀ x∈L,Bd k x)→Bd (k+L.length) L.sum
 | [],_=>by
  show (0:Int).natAbs < 2 ^ _
  exact Nat.two_pow_pos _
 | x :: L,h=>by
  have ih:=aje L fun y hy=>h y (List.mem_cons_of_mem _ hy)
  rw [List.sum_cons]
  exact (((h x (by simp)).mono (show k≤k+L.length by omega)).add ih).mono (by rw [List.length_cons]; omega)
theorem amD {L:List PV} {t:Int} (h0:0≤t) (h1:t < (L.length:Nat)):∃ v∈L,fIx (.lst L) (.int t)=some v∧fIx (.tup L) (.int t)=some v:=by
 have hj:t.toNat < L.length:=by omega
 have e:atI L t=some L[t.toNat]:=by
  unfold atI ixN
  rw [if_pos h0,if_pos h1]
  exact List.getElem?_eq_getElem hj
 exact ⟨L[t.toNat],List.getElem_mem _,e,e⟩
theorem apy {n:Nat} (hn:n=2) {S:Sto} {L:List (List Int)} (h:S[2]?=some (.lst (L.map lv))) (hl:L.length=n+1) (hb:∀ xs∈L,xs.length=n∧∀ x∈xs,0≤x∧x≤2):abH [.ref 2] S=.ok (.pv (.int (dU (L.map (·++[1]))))) S:=by
 subst hn
 ·match L,hl,hb,h with
  | [A,B,C],_,hb,h =>
   have ga:=hb A (by simp)
   have gb:=hb B (by simp)
   have gc:=hb C (by simp)
   clear hb
   match A,ga.1,B,gb.1,C,gc.1 with
   | [a,b],_,[c,d],_,[e,f],_=>exact anZ h (ga.2 a (by simp)) (ga.2 b (by simp)) (gb.2 c (by simp)) (gb.2 d (by simp)) (gc.2 e (by simp)) (gc.2 f (by simp))
theorem aon {n:Nat} (hn:n=2) {W:Int} (W0:0≤W) (W1:W≤2) (ns:List Int) (hl:List PV):∃ (xss:List (List Int)) (ns':List Int),frz 2 (aau (ada [.ref 0,.pv (.int (n:Int)),.pv (.int W)] [.lst (li ns),.lst hl]))=.ok (.pv (rawv xss)) [.lst (li ns'),.lst hl]∧Rw n xss:=by
 obtain ⟨L,n1,y4,e1,l1,b1⟩:=aia (n:=n) (by omega) W0 W1 hl (abi 0 (n+1)) [] ns none (by unfold abi; simp; omega)
 have hi:(abi 0 (n+1)).length=n+1:=by unfold abi; simp
 rw [hi] at l1
 simp only [List.nil_append,List.map_nil] at e1
 have et:=apy (S:=[.lst (li n1),.lst hl,.lst (L.map lv)]) hn rfl l1 b1
 have rg:=rgn [.lst (li ns),.lst hl,.lst []] (n:=n+1) (by omega)
 have cn:((n+1:Nat):Int)=(n:Int)+1:=by omega
 rw [cn] at rg
 have ed:=amJ (.inl hn) [.lst (li n1),.lst hl,.lst (L.map lv)] (some (.ref 0)) (some (.pv (.int W))) (some (.ref 2)) y4
 have hb:aj8=(sSeq (sSet 3 (mNew mNil))
  (sSeq (sFor (aaE (aab (mBin fAdd (mVar 1) (mC (.int 1))) mNil)) (gN 4) rB)
  (sSeq (sIf (mTst (mBin fNe (aah abH [] (aab (mVar 3) mNil)) (mC (.int 0)))) (sRet (mVar 3)) sNil)
  (sRet (aaC ["_law_k"] [(1,"_law_dims")] (adL (aab (mUn fNeg (mC (.int 1))) (aab (mVar 1) mNil))) (gN 0) (aaC ["_law_m"] [(0,"_law_k")] (aaE (aab (mVar 1) mNil)) (gN 0) (mR fInt (aab (mBin fEq (mVar 0) (mVar 1)) mNil)))))))):=rfl
 generalize (aaC ["_law_k"] [(1,"_law_dims")] (adL (aab (mUn fNeg (mC (.int 1))) (aab (mVar 1) mNil))) (gN 0) (aaC ["_law_m"] [(0,"_law_k")] (aaE (aab (mVar 1) mNil)) (gN 0) (mR fInt (aab (mBin fEq (mVar 0) (mVar 1)) mNil))))=CD at ed hb
 generalize rB=RB at e1 hb
 by_cases hd:dU (L.map (·++[1]))=0
 ·refine ⟨dfl n,n1,?_,anI (.inl hn)⟩
  rw [hd] at et
  unfold ada fnM
  rw [hb]
  generalize rawv (dfl n)=RV at *
  generalize L.map lv=LL at *
  generalize li ns=NL at *
  generalize li n1=NL1 at *
  generalize abi 0 (n+1)=IP at *
  generalize (n:Int)=N at *
  simp [EC,fAbs,aal,aak,fIx,atI,ixN,fEq,fNe,eqN,aam,aao,aap,aan,fAdd,aaj,frz,aau,mNew,afo,sFor,aaE,rg,e1,et,ed]
 ·refine ⟨L,n1,?_,⟨l1,fun xs hx=>(b1 xs hx).1,fun xs hx x hh=>by have:=(b1 xs hx).2 x hh; omega,hd⟩⟩
  unfold ada fnM
  rw [hb]
  have hv:rawv L=.lst (L.map lv):=rfl
  rw [hv]
  generalize dU (L.map (·++[1]))=d at *
  generalize L.map lv=LL at *
  generalize li ns=NL at *
  generalize li n1=NL1 at *
  generalize abi 0 (n+1)=IP at *
  generalize (n:Int)=N at *
  simp [EC,fAbs,aal,aak,fIx,atI,ixN,fEq,fNe,eqN,aam,aao,aap,aan,fAdd,aaj,frz,aau,mNew,afo,sFor,aaE,rg,e1,et,hd]
theorem apx {n:Nat} (hn:n=2) (ns:List Int) (hs:List (List (List Int))) (hw:∀ xss∈hs,Rw n xss) (hl:hs.length≤99) (x2 x4 x5:Option AV):∃ (xss:List (List Int)) (ns':List Int) (y5:Option AV),hB [some (.ref 0),some (.pv (.int (n:Int))),x2,some (.ref 1),x4,x5] [.lst (li ns),.lst (hs.map rawv)]=.nx [some (.ref 0),some (.pv (.int (n:Int))),x2,some (.ref 1),x4,y5] [.lst (li ns'),.lst ((hs++[xss]).map rawv)]∧Rw n xss:=by
 have hr:Row [.lst (li ns),.lst (hs.map rawv)] 0 ns:=rfl
 obtain ⟨t,n1,e1,t0,t1,_⟩:=abc (m:=6) hr (by decide) (sm8 (by decide) (by decide))
 simp only [List.set_cons_zero] at e1
 have e1:aaq [.ref 0,.pv (.int 6)] [.lst (li ns),.lst (hs.map rawv)]=.ok (.pv (.int t)) [.lst (li n1),.lst (hs.map rawv)]:=e1
 have lz:(hs.map rawv).length < 16777216:=by rw [List.length_map]; omega
 have lz':hs.length < 16777216:=by omega
 have el:∀ xss,(hs++[xss]).map rawv=hs.map rawv++[rawv xss]:=fun xss=>by simp
 by_cases c1:t=5∧0 < hs.length
 ·obtain ⟨v,hv,e2⟩:=ajg (hs.map rawv) .non (by
   intro z
   have:=congrArg List.length z
   simp at this
   rw [this] at c1
   simp at c1)
  obtain ⟨xss,hx,rfl⟩:=List.mem_map.mp hv
  refine ⟨xss,n1,some (.pv (.int t)),?_,hw xss hx⟩
  rw [el]
  obtain ⟨c1,c2⟩:=c1
  subst c1
  have c3:hs.map rawv≠[]:=fun z=>by
   have:=congrArg List.length z
   simp at this
   rw [this] at c2
   simp at c2
  generalize rawv xss=RV at *
  generalize hs.map rawv=HL at *
  unfold hB
  simp [EC,fAbs,aal,aak,fEq,fNe,aaX,aam,aao,aap,aan,fAdd,aaj,frz,aau,e1,mApp,acZ,aeV,e2,lz,c3]
 ·have c1':t=5→hs.map rawv=[]:=fun z=>by
   have:hs.length=0:=by
    by_cases y:0 < hs.length
    ·exact absurd ⟨z,y⟩ c1
    ·omega
   rw [List.length_eq_zero_iff.mp this]
   rfl
  have cA:∀ (S:Sto) (ρ:Rho),ρ[5]?=some (some (.pv (.int t)))→ρ[3]?=some (some (.ref 1))→S[1]?=some (.lst (hs.map rawv))→mAnd (mTst (mBin fEq (mVar 5) (mC (.int 5)))) (mTst (mBin fGt (mR fLen (aab (mVar 3) mNil)) (mC (.int 0)))) ρ S=.ok false S:=fun S ρ h5 h3 hS=>by
   cases z:t == 5 with
   | false=>simp [EC,fAbs,aal,aak,fEq,fNe,aaX,aam,aao,aap,aan,fAdd,aaj,frz,aau,h5,z]
   | true =>
    rw [c1' (by simpa using z)] at hS
    simp [EC,fAbs,aal,aak,fEq,fNe,aaX,aam,aao,aap,aan,fAdd,aaj,frz,aau,h5,h3,hS,z]
  generalize hA:mAnd (mTst (mBin fEq (mVar 5) (mC (.int 5)))) (mTst (mBin fGt (mR fLen (aab (mVar 3) mNil)) (mC (.int 0))))=MA at cA
  have hBe:hB=(sSeq (sSet 5 (aah aaq [] (aab (mVar 0) (aab (mC (.int 6)) mNil))))
   (sIf MA (aaW (mApp (mVar 3) (aab (mBin fIx (mVar 3) (mUn fNeg (mC (.int 1)))) mNil))) (sIf (mTst (mBin fEq (mVar 1) (mC (.int 2)))) (aaW (mApp (mVar 3) (aab (aah ada [] (aab (mVar 0) (aab (mC (.int 2)) (aab (mBin fAdd (mC (.int 1)) (mR fInt (aab (mBin fEq (mVar 5) (mC (.int 4))) mNil))) mNil)))) mNil))) (sIf (mTst (mBin fGt (mVar 5) (mC (.int 3)))) (aaW (mApp (mVar 3) (aab (aah ada [] (aab (mVar 0) (aab (mC (.int 3)) (aab (mC (.int 1)) mNil)))) mNil))) (aaW (mApp (mVar 3) (aab (aah aec [] (aab (mVar 0) mNil)) mNil))))))):=by rw [← hA]
  rw [hBe]
  subst hn
  ·obtain ⟨xss,n2,e2,hw2⟩:=aon (n:=2) rfl (W:=1+(if t=4 then 1 else 0)) (by split <;> decide) (by split <;> decide) n1 (hs.map rawv)
   refine ⟨xss,n2,some (.pv (.int t)),?_,hw2⟩
   rw [el]
   have c2:((2:Nat):Int)=2:=rfl
   rw [c2] at e2 ⊢
   have cA':=cA [.lst (li n1),.lst (hs.map rawv)] [some (.ref 0),some (.pv (.int 2)),x2,some (.ref 1),x4,some (.pv (.int t))] rfl rfl rfl
   generalize rawv xss=RV at *
   generalize hs.map rawv=HL at *
   by_cases z:t=4
   ·subst z
    simp [EC,fAbs,aal,aak,fEq,fNe,aaX,aam,aao,aap,aan,fAdd,aaj,e1,cA',mApp,acZ,aeV,fInt,fz1,fz2,lz] at e2 ⊢
    simp [e2,lz,Res.bind,SRes.of]
   ·rw [if_neg z] at e2
    have z':(t == 4)=false:=by simpa using z
    simp [EC,fAbs,aal,aak,fEq,fNe,aaX,aam,aao,aap,aan,fAdd,aaj,e1,cA',mApp,acZ,aeV,fInt,fz1,fz2,lz,z'] at e2 ⊢
    simp [e2,lz,Res.bind,SRes.of]
theorem an3 {n:Nat} (hn:n=2) (x2:Option AV):∀ (is:List PV) (hs:List (List (List Int))) (ns:List Int) (x4 x5:Option AV),(∀ xss∈hs,Rw n xss)→hs.length+is.length≤99→∃ (hs':List (List (List Int))) (ns':List Int) (y4 y5:Option AV),
  abQ [] (gN 4) hB is [some (.ref 0),some (.pv (.int (n:Int))),x2,some (.ref 1),x4,x5] [.lst (li ns),.lst (hs.map rawv)]=.nx [some (.ref 0),some (.pv (.int (n:Int))),x2,some (.ref 1),y4,y5] [.lst (li ns'),.lst (hs'.map rawv)]∧hs'.length=hs.length+is.length∧∀ xss∈hs',Rw n xss
 | [],hs,ns,x4,x5,hw,_=>⟨hs,ns,x4,x5,abf,rfl,hw⟩
 | i :: is,hs,ns,x4,x5,hw,h9=>by
  have h9:hs.length+(is.length+1)≤99:=h9
  obtain ⟨xss,n1,y5,e1,r1⟩:=apx hn ns hs hw (by omega) x2 (some (.pv i)) x5
  obtain ⟨hs',n2,z4,z5,e2,l2,r2⟩:=an3 hn x2 is (hs++[xss]) n1 (some (.pv i)) y5 (fun y hy=>by
   rcases List.mem_append.mp hy with z | z
   ·exact hw y z
   ·have:y=xss:=by simpa using z
    rw [this]; exact r1) (by rw [List.length_append,List.length_singleton]; omega)
  refine ⟨hs',n2,z4,z5,?_,by rw [l2,List.length_append,List.length_singleton]; show _=hs.length+(is.length+1); omega,r2⟩
  rw [aaM]
  simp only [gN,List.set_cons_succ,List.set_cons_zero]
  rw [e1]
  exact e2
theorem ahL {n M:Nat} (hn:n=2) (hM:M≤8) (ns:List Int):∃ (hs:List (List (List Int))) (ns':List Int),abZ [.ref 0,.pv (.int (n:Int)),.pv (.int (M:Int))] [.lst (li ns)]=.ok (.ref 1) [.lst (li ns'),.lst (hs.map rawv)]∧hs.length≤M∧∀ xss∈hs,Rw n xss:=by
 have hr:Row [.lst (li ns),.lst []] 0 ns:=rfl
 obtain ⟨t,n1,e1,t0,t1,_⟩:=abc (m:=(M:Int)+1) hr (by omega) (sm8 (by omega) (by omega))
 simp only [List.set_cons_zero] at e1
 have e1:aaq [.ref 0,.pv (.int ((M:Int)+1))] [.lst (li ns),.lst []]=.ok (.pv (.int t)) [.lst (li n1),.lst []]:=e1
 obtain ⟨m,rfl⟩:∃ m:Nat,t=(m:Int):=⟨t.toNat,by omega⟩
 have rg:=rgn [.lst (li n1),.lst []] (n:=m) (by omega)
 have hi:(abi 0 m).length=m:=by unfold abi; simp
 obtain ⟨hs,n2,y4,y5,e2,l2,r2⟩:=an3 hn (some (.pv (.int (M:Int)))) (abi 0 m) [] n1 none none (fun _ h=>absurd h List.not_mem_nil) (by rw [hi]; show 0+m≤99; omega)
 rw [hi] at l2
 refine ⟨hs,n2,?_,by rw [l2]; show 0+m≤M; omega,r2⟩
 simp only [List.map_nil] at e2
 have hb:adT=(sSeq (sSet 3 (mNew mNil))
  (sSeq (sFor (aaE (aab (aah aaq [] (aab (mVar 0) (aab (mBin fAdd (mVar 2) (mC (.int 1))) mNil))) mNil)) (gN 4) hB)
  (sRet (mVar 3)))):=rfl
 unfold abZ fnM
 rw [hb]
 generalize hB=HB at *
 generalize hs.map rawv=HL at *
 generalize abi 0 m=IP at *
 generalize (m:Int)=mm at *
 generalize (n:Int)=N at *
 generalize (M:Int)=MM at *
 simp [EC,fAbs,aal,aak,fIx,atI,ixN,fEq,fNe,eqN,aam,aao,aap,aan,fAdd,aaj,frz,aau,mNew,afo,sFor,aaE,e1,rg,e2]
theorem aiI (ns:List Int) (S:Sto) (hb:∀ n∈ns,Bd 8000 n):aaF [.pv (.tup (ns.map .int))] S=.ok (.pv (.tup ((low ns).map .int))) S:=by
 obtain ⟨v',e⟩:=af9 S none ns 0 (.pv (.tup (ns.map .int)))
 unfold aaF fnM aea
 by_cases h:gl ns 0=0
 ·have el:low ns=ns:=by unfold low; rw [if_pos h]
  simp [EC,fAbs,aal,aak,fIx,atI,ixN,fEq,fNe,eqN,aam,aao,aap,aan,fAdd,aaj,frz,aau,sFor,mIt,aa6,e,h,el]
 ·have el:low ns=ns.map fun n=>n.fdiv (gl ns 0):=by
   unfold low
   rw [if_neg h]
   exact List.map_congr_left fun n hn=>(Int.fdiv_eq_ediv_of_dvd ((adF ns 0).2 n hn)).symm
  have bg:Bd 8000 (gl ns 0):=als (Bd.of (n:=0) (by simp) (Nat.two_pow_pos 8000)) hb
  have ec:=aeJ S (gl ns 0) h bg ns none
  simp [EC,fAbs,aal,aak,fIx,atI,ixN,fEq,fNe,eqN,aam,aao,aap,aan,fAdd,aaj,frz,aau,sFor,mIt,aa6,e,h,el,aaC,cmpR,ec]
noncomputable abbrev wB:MS:=(sSeq (sSet 4 (aiR (aab (mVar 0) mNil)))
 (sSeq (acr (mVar 4) (mVar 3) (mVar 1))
 (sSeq (sSet 5 (aah aca [] (aab (mVar 4) mNil)))
 (sSeq (sIf (mTst (mBin fLt (mVar 5) (mC (.int 0)))) (sRet (mUn fNeg (mC (.int 1)))) sNil)
 (sIf (mTst (mBin fEq (mVar 5) (mC (.int 0)))) (sSet 2 (mC (.int 0))) sNil)))))
theorem aoi {n k:Nat} (hn:n=2∨n=3) (hk:k≤1000) {uss:List (List Int)} {p:List Int} (h:Sx n k uss) (g:Gu n 1000 p) {j:Nat} (hj:j < n+1) (f:Int) (S:Sto) (x4 x5:Option AV) :
  (sg (dU (uss.set j p)) < 0∧wB [some (.pv (px uss)),some (.pv (tv p)),some (.pv (.int f)),some (.pv (.int (j:Int))),x4,x5] S=.rt (.pv (.int (-1))) (S++[.lst ((uss.set j p).map tv)])) ∨
  (¬ sg (dU (uss.set j p)) < 0∧∃ y4 y5,wB [some (.pv (px uss)),some (.pv (tv p)),some (.pv (.int f)),some (.pv (.int (j:Int))),x4,x5] S=.nx [some (.pv (px uss)),some (.pv (tv p)),some (.pv (.int (if sg (dU (uss.set j p))=0 then 0 else f))),some (.pv (.int (j:Int))),y4,y5] (S++[.lst ((uss.set j p).map tv)])):=by
 have hl:=h.len
 have hg:∀ us∈uss,Gu n 1000 us:=fun us hu=>(h.gu us hu).mono hk
 obtain ⟨d,hd,bd,_,ed⟩:=apN hn (uss:=uss.set j p) (by rw [List.length_set]; exact hl) (al4 hg g j)
 have ed:=ed (S++[.lst ((uss.set j p).map tv)]) S.length (by simp)
 have es:(uss.set j p).map tv=(uss.map tv).set j (tv p):=by rw [List.map_set]
 have ij:ixN (uss.map tv).length (j:Int)=some j:=by
  unfold ixN
  rw [List.length_map,hl]
  rcases hn with rfl | rfl
  ·match j,hj with
   | 0,_=>rfl
   | 1,_=>rfl
   | 2,_=>rfl
  ·match j,hj with
   | 0,_=>rfl
   | 1,_=>rfl
   | 2,_=>rfl
   | 3,_=>rfl
 have lz:(uss.map tv).length≤16777216:=by rw [List.length_map,hl]; omega
 have hp:px uss=.tup (uss.map tv):=rfl
 rw [← hd]
 have s0:=@amm d
 rw [hp]
 rw [es] at ed ⊢
 generalize uss.map tv=UL at *
 generalize tv p=T at *
 generalize (j:Int)=J at *
 have g1:(S++[SO.lst UL])[S.length]?=some (.lst UL):=by simp
 have g2:(S++[SO.lst UL]).set S.length (.lst (UL.set j T))=S++[.lst (UL.set j T)]:=by simp
 by_cases c1:d < 0
 ·left
  refine ⟨s0.1.mpr c1,?_⟩
  unfold wB
  simp [EC,fAbs,aal,aak,fEq,fNe,aaX,aam,aao,aap,aan,fAdd,aaj,frz,aau,aiR,newR,lz,acr,af0,acZ,g1,g2,ij,ed,c1]
 ·right
  refine ⟨fun z=>c1 (s0.1.mp z),?_⟩
  by_cases c3:d=0
  ·have c5:sg d=0:=s0.2.mpr c3
   rw [if_pos c5]
   subst c3
   refine ⟨some (.ref S.length),some (.pv (.int 0)),?_⟩
   unfold wB
   simp [EC,fAbs,aal,aak,fEq,fNe,aaX,aam,aao,aap,aan,fAdd,aaj,frz,aau,aiR,newR,lz,acr,af0,acZ,g1,g2,ij,ed]
  ·have c5:¬ sg d=0:=fun z=>c3 (s0.2.mp z)
   rw [if_neg c5]
   refine ⟨some (.ref S.length),some (.pv (.int d)),?_⟩
   unfold wB
   simp [EC,fAbs,aal,aak,fEq,fNe,aaX,aam,aao,aap,aan,fAdd,aaj,frz,aau,aiR,newR,lz,acr,af0,acZ,g1,g2,ij,ed,c1,c3]
theorem al6 {n k:Nat} (hn:n=2∨n=3) (hk:k≤1000) {uss:List (List Int)} {p:List Int} (h:Sx n k uss) (g:Gu n 1000 p):∀ (js:List Nat) (f:Int) (S:Sto) (x3 x4 x5:Option AV),(∀ j∈js,j < n+1)→∃ T:Sto,
  (plc (js.map fun j=>sg (dU (uss.set j p))) f=-1∧abQ [] (gN 3) wB (js.map fun j:Nat=>PV.int (j:Int)) [some (.pv (px uss)),some (.pv (tv p)),some (.pv (.int f)),x3,x4,x5] S=.rt (.pv (.int (-1))) (S++T)) ∨
  ∃ y3 y4 y5,abQ [] (gN 3) wB (js.map fun j:Nat=>PV.int (j:Int)) [some (.pv (px uss)),some (.pv (tv p)),some (.pv (.int f)),x3,x4,x5] S=.nx [some (.pv (px uss)),some (.pv (tv p)),some (.pv (.int (plc (js.map fun j=>sg (dU (uss.set j p))) f))),y3,y4,y5] (S++T)
 | [],f,S,x3,x4,x5,_=>⟨[],.inr ⟨x3,x4,x5,by rw [List.append_nil]; exact abf⟩⟩
 | j :: js,f,S,x3,x4,x5,hj=>by
  have st:=aoi hn hk h g (hj j (by simp)) f S x4 x5
  have e0:plc ((j :: js).map fun j=>sg (dU (uss.set j p))) f=if sg (dU (uss.set j p)) < 0 then -1 else plc (js.map fun j=>sg (dU (uss.set j p))) (if sg (dU (uss.set j p))=0 then 0 else f):=rfl
  rw [e0]
  rcases st with ⟨c,e⟩ | ⟨c,y4,y5,e⟩
  ·refine ⟨[.lst ((uss.set j p).map tv)],.inl ⟨if_pos c,?_⟩⟩
   rw [List.map_cons,aaM]
   simp only [gN,List.set_cons_succ,List.set_cons_zero]
   rw [e]
  ·rw [if_neg c]
   obtain ⟨T,ih⟩:=al6 hn hk h g js (if sg (dU (uss.set j p))=0 then 0 else f) (S++[.lst ((uss.set j p).map tv)]) (some (.pv (.int (j:Int)))) y4 y5 fun i hi=>hj i (List.mem_cons_of_mem _ hi)
   rw [List.append_assoc] at ih
   refine ⟨[.lst ((uss.set j p).map tv)]++T,?_⟩
   rcases ih with ⟨a,b⟩ | ⟨z3,z4,z5,b⟩
   ·refine .inl ⟨a,?_⟩
    rw [List.map_cons,aaM]
    simp only [gN,List.set_cons_succ,List.set_cons_zero]
    rw [e]
    exact b
   ·refine .inr ⟨z3,z4,z5,?_⟩
    rw [List.map_cons,aaM]
    simp only [gN,List.set_cons_succ,List.set_cons_zero]
    rw [e]
    exact b
theorem ajv {n k:Nat} (hn:n=2∨n=3) (hk:k≤1000) {uss:List (List Int)} {p:List Int} (h:Sx n k uss) (g:Gu n 1000 p) (S:Sto):acy [.pv (px uss),.pv (tv p)] S=.ok (.pv (.int (stn uss p))) S:=by
 have hl:=h.len
 obtain ⟨T,hT⟩:=al6 hn hk h g (List.range (n+1)) 1 S none none none fun j hj=>by simpa using hj
 have es:((List.range (n+1)).map fun j=>sg (dU (uss.set j p)))=sgs uss p:=by
  unfold sgs
  rw [hl]
 rw [es] at hT
 have rg:=rgn S (n:=n+1) (by omega)
 rw [aid] at rg
 have ln:((uss.map tv).length:Int)=((n+1:Nat):Int):=by rw [List.length_map,hl]
 have hp:px uss=.tup (uss.map tv):=rfl
 have hb:afg=(sSeq (sSet 2 (mC (.int 1)))
 (sSeq (sFor (aaE (aab (mR fLen (aab (mVar 0) mNil)) mNil)) (gN 3) wB)
 (sRet (mVar 2)))):=rfl
 have e1:plc (sgs uss p) 1=stn uss p:=rfl
 rw [e1] at hT
 rw [hp] at hT ⊢
 generalize ((List.range (n+1)).map fun j:Nat=>PV.int (j:Int))=RL at *
 generalize uss.map tv=UL at *
 generalize tv p=TP at *
 generalize ((n+1:Nat):Int)=N1 at *
 generalize stn uss p=st at *
 generalize wB=PB1 at *
 unfold acy fnM
 rw [hb]
 rcases hT with ⟨a,b⟩ | ⟨y3,y4,y5,b⟩
 ·rw [a]
  simp [EC,fAbs,aal,aak,fIx,atI,ixN,fEq,fNe,eqN,aam,aao,aap,aan,fAdd,aaj,frz,aau,ln,sFor,aaE,rg,b]
 ·simp [EC,fAbs,aal,aak,fIx,atI,ixN,fEq,fNe,eqN,aam,aao,aap,aan,fAdd,aaj,frz,aau,ln,sFor,aaE,rg,b]
def cnt (hs:List (List (List Int))) (p:List Int):Int:=if (hs.map fun uss=>stn uss p).any (· == 0) then -1 else ((hs.map fun uss=>stn uss p).count 1:Nat)
noncomputable abbrev cB:MS:=(sSeq (sSet 4 (aah acy [] (aab (mVar 3) (aab (mVar 1) mNil))))
 (sSeq (sIf (mTst (mBin fEq (mVar 4) (mC (.int 0)))) (sRet (mUn fNeg (mC (.int 1)))) sNil)
 (sIf (mTst (mBin fEq (mVar 4) (mC (.int 1)))) (sSet 2 (mBin fAdd (mVar 2) (mC (.int 1)))) sNil)))
theorem al7 {n k:Nat} (hn:n=2∨n=3) (hk:k≤1000) {p:List Int} (g:Gu n 1000 p) (S:Sto) (x0:Option AV):∀ (hs:List (List (List Int))) (c:Int) (x3 x4:Option AV),(∀ uss∈hs,Sx n k uss) →
  ((∃ uss∈hs,stn uss p=0)∧abQ [] (gN 3) cB (hs.map px) [x0,some (.pv (tv p)),some (.pv (.int c)),x3,x4] S=.rt (.pv (.int (-1))) S) ∨
  ((∀ uss∈hs,stn uss p≠0)∧∃ y3 y4,abQ [] (gN 3) cB (hs.map px) [x0,some (.pv (tv p)),some (.pv (.int c)),x3,x4] S=.nx [x0,some (.pv (tv p)),some (.pv (.int (c+((hs.map fun uss=>stn uss p).count 1:Nat)))),y3,y4] S)
 | [],c,x3,x4,_=>.inr ⟨fun _ h=>absurd h List.not_mem_nil,x3,x4,by simp [abf]⟩
 | uss :: hs,c,x3,x4,h=>by
  have e:=ajv hn hk (h uss (by simp)) g S
  have s3:=stn3 uss p
  by_cases c0:stn uss p=0
  ·left
   refine ⟨⟨uss,by simp,c0⟩,?_⟩
   rw [c0] at e
   have st:cB [x0,some (.pv (tv p)),some (.pv (.int c)),some (.pv (px uss)),x4] S=.rt (.pv (.int (-1))) S:=by
    generalize px uss=P at *
    generalize tv p=T at *
    unfold cB
    simp [EC,fAbs,aal,aak,fIx,atI,ixN,fEq,fNe,eqN,aam,aao,aap,aan,fAdd,aaj,frz,aau,e]
   rw [List.map_cons,aaM]
   simp only [gN,List.set_cons_succ,List.set_cons_zero]
   rw [st]
  ·have st:cB [x0,some (.pv (tv p)),some (.pv (.int c)),some (.pv (px uss)),x4] S=.nx [x0,some (.pv (tv p)),some (.pv (.int (c+if stn uss p=1 then 1 else 0))),some (.pv (px uss)),some (.pv (.int (stn uss p)))] S:=by
    generalize px uss=P at *
    generalize tv p=T at *
    generalize stn uss p=s at *
    unfold cB
    rcases s3 with rfl | rfl | rfl
    ·simp [EC,fAbs,aal,aak,fIx,atI,ixN,fEq,fNe,eqN,aam,aao,aap,aan,fAdd,aaj,frz,aau,e]
    ·exact absurd rfl c0
    ·simp [EC,fAbs,aal,aak,fIx,atI,ixN,fEq,fNe,eqN,aam,aao,aap,aan,fAdd,aaj,frz,aau,e]
   rcases al7 hn hk g S x0 hs (c+if stn uss p=1 then 1 else 0) (some (.pv (px uss))) (some (.pv (.int (stn uss p)))) (fun y hy=>h y (List.mem_cons_of_mem _ hy)) with ⟨⟨y,hy,z⟩,ih⟩ | ⟨z,y3,y4,ih⟩
   ·left
    refine ⟨⟨y,List.mem_cons_of_mem _ hy,z⟩,?_⟩
    rw [List.map_cons,aaM]
    simp only [gN,List.set_cons_succ,List.set_cons_zero]
    rw [st]
    exact ih
   ·right
    refine ⟨fun y hy=>?_,y3,y4,?_⟩
    ·rcases List.mem_cons.mp hy with rfl | hy
     ·exact c0
     ·exact z y hy
    ·rw [List.map_cons,aaM]
     simp only [gN,List.set_cons_succ,List.set_cons_zero]
     rw [st]
     have ec:c+(((uss :: hs).map fun uss=>stn uss p).count 1:Nat)=c+(if stn uss p=1 then 1 else 0)+((hs.map fun uss=>stn uss p).count 1:Nat):=by
      rw [List.map_cons,List.count_cons]
      by_cases c1:stn uss p=1
      ·rw [c1]
       simp
       omega
      ·have:(stn uss p == 1)=false:=by simpa using c1
       rw [this,if_neg c1]
       simp
     rw [ec]
     exact ih
theorem any0 {hs:List (List (List Int))} {p:List Int}:((∃ uss∈hs,stn uss p=0)→(hs.map fun uss=>stn uss p).any (· == 0)=true)∧((∀ uss∈hs,stn uss p≠0)→(hs.map fun uss=>stn uss p).any (· == 0)=false):=by
 refine ⟨fun ⟨u,hu,z⟩=>?_,fun h=>?_⟩
 ·rw [List.any_eq_true]
  exact ⟨stn u p,List.mem_map.mpr ⟨u,hu,rfl⟩,by rw [z]; rfl⟩
 ·rw [List.any_eq_false]
  intro s hs
  obtain ⟨u,hu,rfl⟩:=List.mem_map.mp hs
  simpa using h u hu
theorem agK {n k:Nat} (hn:n=2∨n=3) (hk:k≤1000) {p:List Int} (g:Gu n 1000 p) (S:Sto) {hs:List (List (List Int))} {A:PV} (hA:Sv A (hs.map px)) (h:∀ uss∈hs,Sx n k uss):ab5 [.pv A,.pv (tv p)] S=.ok (.pv (.int (cnt hs p))) S:=by
 have L:=al7 hn hk g S (some (.pv A)) hs 0 none none h
 have hb:af8=(sSeq (sSet 2 (mC (.int 0)))
 (sSeq (sFor (mIt (mVar 0)) (gN 3) cB)
 (sRet (mVar 2)))):=rfl
 have z0:(0:Int)+((hs.map fun uss=>stn uss p).count 1:Nat)=((hs.map fun uss=>stn uss p).count 1:Nat):=by omega
 rw [z0] at L
 have a:=@any0 hs p
 unfold ab5 fnM
 rw [hb]
 rcases L with ⟨b,e⟩ | ⟨b,y3,y4,e⟩
 ·have ec:cnt hs p=-1:=by unfold cnt; rw [a.1 b]; rfl
  rw [ec]
  generalize cB=CB1 at *
  generalize tv p=T at *
  rcases hA with rfl | rfl <;> (generalize hs.map px=HL at *; simp [EC,fAbs,aal,aak,fIx,atI,ixN,fEq,fNe,eqN,aam,aao,aap,aan,fAdd,aaj,frz,aau,sFor,mIt,aa6,e])
 ·have ec:cnt hs p=((hs.map fun uss=>stn uss p).count 1:Nat):=by unfold cnt; rw [a.2 b]; rfl
  rw [ec]
  generalize (((hs.map fun uss=>stn uss p).count 1:Nat):Int)=C at *
  generalize cB=CB1 at *
  generalize tv p=T at *
  rcases hA with rfl | rfl <;> (generalize hs.map px=HL at *; simp [EC,fAbs,aal,aak,fIx,atI,ixN,fEq,fNe,eqN,aam,aao,aap,aan,fAdd,aaj,frz,aau,sFor,mIt,aa6,e])
def Fs (q:List Int) (M:List (List Int)):List Int:=(List.range M.length).map fun j=>sg (dU (M.set j q))*sg (dU M)
theorem l4 {a:List Int} (h:a.length=4):∃ x y z w,a=[x,y,z,w]:=by
 match a,h with
 | [x,y,z,w],_=>exact ⟨x,y,z,w,rfl⟩
theorem aks {a b c d:List Int} (ha:a.length=4) (hb:b.length=4) (hc:c.length=4) (hd:d.length=4):dU [b,a,c,d]=-dU [a,b,c,d]:=by
 obtain ⟨_,_,_,_,rfl⟩:=l4 ha
 obtain ⟨_,_,_,_,rfl⟩:=l4 hb
 obtain ⟨_,_,_,_,rfl⟩:=l4 hc
 obtain ⟨_,_,_,_,rfl⟩:=l4 hd
 show D3 _ _ _ _ _ _ _ _ _ _ _ _ _ _ _ _=-D3 _ _ _ _ _ _ _ _ _ _ _ _ _ _ _ _
 unfold D3
 grind
theorem aji {a b c d:List Int} (ha:a.length=4) (hb:b.length=4) (hc:c.length=4) (hd:d.length=4):dU [a,c,b,d]=-dU [a,b,c,d]:=by
 obtain ⟨_,_,_,_,rfl⟩:=l4 ha
 obtain ⟨_,_,_,_,rfl⟩:=l4 hb
 obtain ⟨_,_,_,_,rfl⟩:=l4 hc
 obtain ⟨_,_,_,_,rfl⟩:=l4 hd
 show D3 _ _ _ _ _ _ _ _ _ _ _ _ _ _ _ _=-D3 _ _ _ _ _ _ _ _ _ _ _ _ _ _ _ _
 unfold D3
 grind
theorem ajC {a b c d:List Int} (ha:a.length=4) (hb:b.length=4) (hc:c.length=4) (hd:d.length=4):dU [a,b,d,c]=-dU [a,b,c,d]:=by
 obtain ⟨_,_,_,_,rfl⟩:=l4 ha
 obtain ⟨_,_,_,_,rfl⟩:=l4 hb
 obtain ⟨_,_,_,_,rfl⟩:=l4 hc
 obtain ⟨_,_,_,_,rfl⟩:=l4 hd
 show D3 _ _ _ _ _ _ _ _ _ _ _ _ _ _ _ _=-D3 _ _ _ _ _ _ _ _ _ _ _ _ _ _ _ _
 unfold D3
 grind
theorem Fs4 (q a b c d:List Int):Fs q [a,b,c,d]=[sg (dU [q,b,c,d])*sg (dU [a,b,c,d]),sg (dU [a,q,c,d])*sg (dU [a,b,c,d]),sg (dU [a,b,q,d])*sg (dU [a,b,c,d]),sg (dU [a,b,c,q])*sg (dU [a,b,c,d])]:=rfl
theorem adb (x y:Int):sg (-x)*sg (-y)=sg x*sg y:=by rw [aku,aku,Int.neg_mul_neg]
theorem amw {q:List Int} (hq:q.length=4) {l1 l2:List (List Int)} (h:l1.Perm l2):∀ pre:List (List Int),(∀ us∈pre++l1,us.length=4)→(pre++l1).length=4→(Fs q (pre++l1)).Perm (Fs q (pre++l2)):=by
 induction h with
 | nil=>intro pre _ _; exact .refl _
 | cons x _ ih =>
  intro pre h4 hl
  have:=ih (pre++[x]) (by simpa using h4) (by simpa using hl)
  simpa using this
 | swap x y l =>
  intro pre h4 hl
  match pre,l,hl,h4 with
  | [],[c,d],_,h4 =>
   have hy:=h4 y (by simp)
   have hx:=h4 x (by simp)
   have hc:=h4 c (by simp)
   have hd:=h4 d (by simp)
   show (Fs q [y,x,c,d]).Perm (Fs q [x,y,c,d])
   rw [Fs4,Fs4,aks hx hy hc hd,aks hx hq hc hd,aks hq hy hc hd,aks hx hy hq hd,aks hx hy hc hq,adb,adb,adb,adb]
   exact .swap _ _ _
  | [a],[d],_,h4 =>
   have ha:=h4 a (by simp)
   have hy:=h4 y (by simp)
   have hx:=h4 x (by simp)
   have hd:=h4 d (by simp)
   show (Fs q [a,y,x,d]).Perm (Fs q [a,x,y,d])
   rw [Fs4,Fs4,aji ha hx hy hd,aji hq hx hy hd,aji ha hx hq hd,aji ha hq hy hd,aji ha hx hy hq,adb,adb,adb,adb]
   exact .cons _ (.swap _ _ _)
  | [a,b],[],_,h4 =>
   have ha:=h4 a (by simp)
   have hb:=h4 b (by simp)
   have hy:=h4 y (by simp)
   have hx:=h4 x (by simp)
   show (Fs q [a,b,y,x]).Perm (Fs q [a,b,x,y])
   rw [Fs4,Fs4,ajC ha hb hx hy,ajC hq hb hx hy,ajC ha hq hx hy,ajC ha hb hx hq,ajC ha hb hq hy,adb,adb,adb,adb]
   exact .cons _ (.cons _ (.swap _ _ _))
  | a :: b :: c :: r,_,hl,_=>simp at hl; omega
  | [],[],hl,_=>simp at hl
  | [],[_],hl,_=>simp at hl
  | [],_ :: _ :: _ :: _,hl,_=>simp at hl
  | [_],[],hl,_=>simp at hl
  | [_],_ :: _ :: _,hl,_=>simp at hl
  | [_,_],_ :: _,hl,_=>simp at hl
 | trans p1 p2 ih1 ih2 =>
  intro pre h4 hl
  refine (ih1 pre h4 hl).trans (ih2 pre (fun us hu=>?_) ?_)
  ·rcases List.mem_append.mp hu with z | z
   ·exact h4 us (List.mem_append_left _ z)
   ·exact h4 us (List.mem_append_right _ (p1.mem_iff.mpr z))
  ·rw [List.length_append,← p1.length_eq,← List.length_append]
   exact hl
theorem Fs3 (q:List Int) (M:List (List Int)):∀ s∈Fs q M,s=-1∨s=0∨s=1:=fun s hs=>by
 unfold Fs at hs
 obtain ⟨j,_,rfl⟩:=List.mem_map.mp hs
 rcases sg3 (dU (M.set j q)) with a | a | a <;> rcases sg3 (dU M) with b | b | b <;> rw [a,b] <;> decide
theorem anT {k:Nat} (hk:k≤1000) {L:List (List Int)} {q:List Int} (hl:L.length=3+1) (hg:∀ us∈L,Gu 3 k us) (hq:Gu 3 1000 q) (nz:dU L≠0):stn (cnr L) q=plc (Fs q L) 1:=by
 have len4:∀ {us:List Int} {k:Nat},Gu 3 k us→us.length=4:=fun h=>by
  obtain ⟨xs,w,rfl,P⟩:=h
  rw [List.length_append,P.len]
  rfl
 have hp:=af6 (akg (.inr rfl) hl)
 have lc:(cnr L).length=4:=by rw [hp.length_eq,hl]
 have e:=ajd (.inr rfl) hk hl hg
 have s1:sg (dU (cnr L))=1:=by
  unfold sg
  rw [if_pos (by omega)]
 have ef:Fs q (cnr L)=sgs (cnr L) q:=by
  unfold Fs sgs
  rw [s1]
  simp
 have pm:(Fs q L).Perm (Fs q (cnr L)):=amw (len4 hq) hp.symm [] (fun us hu=>len4 (hg us (by simpa using hu))) (by simpa using hl)
 rw [ef] at pm
 have ne1:Fs q L≠[]:=fun z=>by
  have:=congrArg List.length z
  unfold Fs at this
  rw [List.length_map,List.length_range,hl] at this
  cases this
 have m1:=ahB ne1 (Fs3 q L)
 have ne2:sgs (cnr L) q≠[]:=fun z=>by
  rw [z] at pm
  exact ne1 pm.eq_nil
 have m2:=ahB ne2 (fun s hs=>by
  unfold sgs at hs
  obtain ⟨j,_,rfl⟩:=List.mem_map.mp hs
  exact sg3 _)
 have m3:(sgs (cnr L) q).min?=some (plc (Fs q L) 1):=by
  rw [List.min?_eq_some_iff] at m1 ⊢
  exact ⟨pm.mem_iff.mp m1.1,fun b hb=>m1.2 b (pm.mem_iff.mpr hb)⟩
 rw [m2] at m3
 exact Option.some.inj m3
theorem aep (x y:Int):sg (x*y)=sg x*sg y:=by
 rcases Int.lt_trichotomy x 0 with a | a | a
 ·rcases Int.lt_trichotomy y 0 with b | b | b
  ·have:=Int.mul_pos_of_neg_of_neg a b
   simp only [sg]
   rw [if_pos this,if_neg (by omega),if_pos a,if_neg (by omega),if_pos b]
   rfl
  ·subst b
   rw [Int.mul_zero]
   show (0:Int)=sg x*0
   rw [Int.mul_zero]
  ·have:=Int.mul_neg_of_neg_of_pos a b
   simp only [sg]
   rw [if_neg (by omega),if_pos this,if_neg (by omega),if_pos a,if_pos b]
   rfl
 ·subst a
  rw [Int.zero_mul]
  show (0:Int)=0*sg y
  rw [Int.zero_mul]
 ·rw [ae3 a]
  have:sg x=1:=by unfold sg; rw [if_pos a]
  rw [this,Int.one_mul]
theorem ahF:∀ (L:List Int) (f:Int),plc L f=1→f=1∧∀ s∈L,0 < s
 | [],f,h=>⟨h,fun _ h=>absurd h List.not_mem_nil⟩
 | s :: L,f,h=>by
  unfold plc at h
  split at h
  ·cases h
  ·rename_i hs
   obtain ⟨a,b⟩:=ahF L _ h
   split at a
   ·cases a
   ·rename_i h0
    refine ⟨a,fun x hx=>?_⟩
    rcases List.mem_cons.mp hx with rfl | hx
    ·omega
    ·exact b x hx
theorem aor (x0 y0 w0 x1 y1 w1 x2 y2 w2 x y w:Int):w0*D2 x y w x1 y1 w1 x2 y2 w2+w1*D2 x0 y0 w0 x y w x2 y2 w2+w2*D2 x0 y0 w0 x1 y1 w1 x y w=w*D2 x0 y0 w0 x1 y1 w1 x2 y2 w2:=by
 unfold D2
 grind
theorem aod (x0 y0 z0 w0 x1 y1 z1 w1 x2 y2 z2 w2 x3 y3 z3 w3 s:Int):D3 (s*x0) (s*y0) (s*z0) (s*w0) x1 y1 z1 w1 x2 y2 z2 w2 x3 y3 z3 w3=s*D3 x0 y0 z0 w0 x1 y1 z1 w1 x2 y2 z2 w2 x3 y3 z3 w3:=by
 unfold D3
 grind
theorem alm (x0 y0 z0 w0 x1 y1 z1 w1 x2 y2 z2 w2 x3 y3 z3 w3 s:Int):D3 x0 y0 z0 w0 (s*x1) (s*y1) (s*z1) (s*w1) x2 y2 z2 w2 x3 y3 z3 w3=s*D3 x0 y0 z0 w0 x1 y1 z1 w1 x2 y2 z2 w2 x3 y3 z3 w3:=by
 unfold D3
 grind
theorem aiO (x0 y0 z0 w0 x1 y1 z1 w1 x2 y2 z2 w2 x3 y3 z3 w3 s:Int):D3 x0 y0 z0 w0 x1 y1 z1 w1 (s*x2) (s*y2) (s*z2) (s*w2) x3 y3 z3 w3=s*D3 x0 y0 z0 w0 x1 y1 z1 w1 x2 y2 z2 w2 x3 y3 z3 w3:=by
 unfold D3
 grind
theorem agL (x0 y0 z0 w0 x1 y1 z1 w1 x2 y2 z2 w2 x3 y3 z3 w3 s:Int):D3 x0 y0 z0 w0 x1 y1 z1 w1 x2 y2 z2 w2 (s*x3) (s*y3) (s*z3) (s*w3)=s*D3 x0 y0 z0 w0 x1 y1 z1 w1 x2 y2 z2 w2 x3 y3 z3 w3:=by
 unfold D3
 grind
theorem sgp {z:Int} (h:0 < z):sg z=1:=by unfold sg; rw [if_pos h]
theorem aj7 {n k l:Nat} {us f:List Int} (S:Sto) (hn:n=2∨n=3) (h:Gu n k us) (g:Gu n l f) (hk:k≤1000) (hl:l≤1000):acu [.pv (tv us),.pv (tv f)] S=.ok (.pv (tv (mvU 1 f us))) S:=by
 obtain ⟨xs,w,rfl,P⟩:=h
 obtain ⟨ys,v,rfl,Q⟩:=g
 rw [ajJ]
 have e2:mv 1 xs w ys v=low (sm xs w ys v++[w*v]):=if_pos rfl
 rw [e2]
 have l1:=P.len
 have l2:=Q.len
 exact alP S (by omega) (by omega) P.pos Q.pos (fun x hx=>(P.bx x hx).mono (by omega)) (fun x hx=>(Q.bx x hx).mono (by omega)) (P.bw.mono (by omega)) (Q.bw.mono (by omega))
theorem apr (x0 y0 w0 x1 y1 w1 x2 y2 w2 a b c e:Int):D3 x1 y1 0 w1 x2 y2 0 w2 (e*x0+a*w0) (e*y0+b*w0) (e*0+c*w0) (e*w0) (e*x1+a*w1) (e*y1+b*w1) (e*0+c*w1) (e*w1)=e*w1*c*D2 x0 y0 w0 x1 y1 w1 x2 y2 w2:=by
 unfold D3 D2
 grind
theorem apg (x0 y0 w0 x1 y1 w1 x2 y2 w2 a b c e:Int):D3 x2 y2 0 w2 (e*x0+a*w0) (e*y0+b*w0) (e*0+c*w0) (e*w0) (e*x1+a*w1) (e*y1+b*w1) (e*0+c*w1) (e*w1) (e*x2+a*w2) (e*y2+b*w2) (e*0+c*w2) (e*w2)=e*e*w2*c*D2 x0 y0 w0 x1 y1 w1 x2 y2 w2:=by
 unfold D3 D2
 grind
def hU (f us:List Int):List Int:=mvU 1 f (ra us)
theorem ahm {k:Nat} {x y w a b c e:Int} (hk:Gu 2 k [x,y,w]) {l:Nat} (g:Gu 3 l [a,b,c,e]):∃ p q r t,hU [a,b,c,e] [x,y,w]=[p,q,r,t]∧0 < t∧p*(e*w)=(e*x+a*w)*t∧q*(e*w)=(e*y+b*w)*t∧r*(e*w)=(e*0+c*w)*t:=by
 have h:=(acO (way:=1) (.inl rfl) (aeC hk) g).2
 obtain ⟨xs,v,xs',t,e1,e2,l1,l2,_,p2,h⟩:=h
 match xs',l2 with
 | [p,q,r],_ =>
  refine ⟨p,q,r,t,e2,p2,?_⟩
  match xs,l1,e1 with
  | [x1,y1,z1],_,e1 =>
   have e1:[x,y,0,w]=[x1,y1,z1,v]:=e1
   cases e1
   have h0:=h 0 (by decide)
   have h1:=h 1 (by decide)
   have h2:=h 2 (by decide)
   simp only [List.getD_cons_zero,List.getD_cons_succ,Int.one_mul] at h0 h1 h2
   have ge:[a,b,c,e].getLastD 0=e:=rfl
   rw [ge] at h0 h1 h2
   exact ⟨h0,h1,h2⟩
theorem acR {a b d:Int} (h:a*b=d) (hd:d≠0):b≠0:=fun z=>hd (by rw [← h,z,Int.mul_zero])
theorem alt {k l:Nat} {x0 y0 w0 x1 y1 w1 x2 y2 w2 a b c e:Int} (h0:Gu 2 k [x0,y0,w0]) (h1:Gu 2 k [x1,y1,w1]) (h2:Gu 2 k [x2,y2,w2]) (q0:0 < w0) (q1:0 < w1) (q2:0 < w2) (he:0 < e) (hc:c≠0) (g:Gu 3 l [a,b,c,e]) (nz:D2 x0 y0 w0 x1 y1 w1 x2 y2 w2≠0) :
  dU [ra [x0,y0,w0],ra [x1,y1,w1],ra [x2,y2,w2],hU [a,b,c,e] [x0,y0,w0]]≠0∧dU [ra [x1,y1,w1],ra [x2,y2,w2],hU [a,b,c,e] [x0,y0,w0],hU [a,b,c,e] [x1,y1,w1]]≠0∧dU [ra [x2,y2,w2],hU [a,b,c,e] [x0,y0,w0],hU [a,b,c,e] [x1,y1,w1],hU [a,b,c,e] [x2,y2,w2]]≠0:=by
 obtain ⟨p0,r0,s0,t0,e0,u0,a0,b0,c0⟩:=ahm h0 g
 obtain ⟨p1,r1,s1,t1,e1,u1,a1,b1,c1⟩:=ahm h1 g
 obtain ⟨p2,r2,s2,t2,e2,u2,a2,b2,c2⟩:=ahm h2 g
 rw [e0,e1,e2]
 have d0:e*w0*t0=t0*(e*w0):=Int.mul_comm _ _
 have d1:e*w1*t1=t1*(e*w1):=Int.mul_comm _ _
 have d2:e*w2*t2=t2*(e*w2):=Int.mul_comm _ _
 rw [Int.mul_comm] at a0 b0 c0 a1 b1 c1 a2 b2 c2
 rw [Int.mul_comm (e*x0+a*w0)] at a0
 rw [Int.mul_comm (e*y0+b*w0)] at b0
 rw [Int.mul_comm (e*0+c*w0)] at c0
 rw [Int.mul_comm (e*x1+a*w1)] at a1
 rw [Int.mul_comm (e*y1+b*w1)] at b1
 rw [Int.mul_comm (e*0+c*w1)] at c1
 rw [Int.mul_comm (e*x2+a*w2)] at a2
 rw [Int.mul_comm (e*y2+b*w2)] at b2
 rw [Int.mul_comm (e*0+c*w2)] at c2
 have n0:e*w0≠0:=Int.ne_of_gt (Int.mul_pos he q0)
 have n1:e*w1≠0:=Int.ne_of_gt (Int.mul_pos he q1)
 have n2:e*w2≠0:=Int.ne_of_gt (Int.mul_pos he q2)
 have m0:=Int.ne_of_gt u0
 have m1:=Int.ne_of_gt u1
 have m2:=Int.ne_of_gt u2
 refine ⟨?_,?_,?_⟩
 ·show D3 x0 y0 0 w0 x1 y1 0 w1 x2 y2 0 w2 p0 r0 s0 t0≠0
  have z:=agL x0 y0 0 w0 x1 y1 0 w1 x2 y2 0 w2 p0 r0 s0 t0 (e*w0)
  rw [a0,b0,c0,d0,agL,anN] at z
  refine acR z.symm (Int.mul_ne_zero m0 (Int.mul_ne_zero ?_ nz))
  have:e*0+c*w0=c*w0:=by omega
  rw [this]
  exact Int.mul_ne_zero hc (Int.ne_of_gt q0)
 ·show D3 x1 y1 0 w1 x2 y2 0 w2 p0 r0 s0 t0 p1 r1 s1 t1≠0
  have z:=agL x1 y1 0 w1 x2 y2 0 w2 p0 r0 s0 t0 p1 r1 s1 t1 (e*w1)
  rw [a1,b1,c1,d1,agL] at z
  have z2:=aiO x1 y1 0 w1 x2 y2 0 w2 p0 r0 s0 t0 (e*x1+a*w1) (e*y1+b*w1) (e*0+c*w1) (e*w1) (e*w0)
  rw [a0,b0,c0,d0,aiO,apr] at z2
  have y1:=acR z2.symm (Int.mul_ne_zero m0 (Int.mul_ne_zero (Int.mul_ne_zero n1 hc) nz))
  exact acR z.symm (Int.mul_ne_zero m1 y1)
 ·show D3 x2 y2 0 w2 p0 r0 s0 t0 p1 r1 s1 t1 p2 r2 s2 t2≠0
  have z:=agL x2 y2 0 w2 p0 r0 s0 t0 p1 r1 s1 t1 p2 r2 s2 t2 (e*w2)
  rw [a2,b2,c2,d2,agL] at z
  have z2:=aiO x2 y2 0 w2 p0 r0 s0 t0 p1 r1 s1 t1 (e*x2+a*w2) (e*y2+b*w2) (e*0+c*w2) (e*w2) (e*w1)
  rw [a1,b1,c1,d1,aiO] at z2
  have z3:=alm x2 y2 0 w2 p0 r0 s0 t0 (e*x1+a*w1) (e*y1+b*w1) (e*0+c*w1) (e*w1) (e*x2+a*w2) (e*y2+b*w2) (e*0+c*w2) (e*w2) (e*w0)
  rw [a0,b0,c0,d0,alm,apg] at z3
  have y1:=acR z3.symm (Int.mul_ne_zero m0 (Int.mul_ne_zero (Int.mul_ne_zero (Int.mul_ne_zero (Int.mul_ne_zero (Int.ne_of_gt he) (Int.ne_of_gt he)) (Int.ne_of_gt q2)) hc) nz))
  have y2:=acR z2.symm (Int.mul_ne_zero m1 y1)
  exact acR z.symm (Int.mul_ne_zero m2 y2)
def prT (f:List Int):List (List Int)→List (List (List Int))
 | [p,q,r]=>[[ra p,ra q,ra r,hU f p],[ra q,ra r,hU f p,hU f q],[ra r,hU f p,hU f q,hU f r]]
 | _=>[]
def prX (f:List Int) (uss:List (List Int)):List (List (List Int)):=(prT f uss).map cnr
theorem ahI {k l:Nat} (hk:k+l+1≤1000) {uss:List (List Int)} (h:Sx 2 k uss) {f:List Int} (g:Gu 3 l f) (hc:f.getD 2 0≠0):∀ t∈prT f uss,t.length=3+1∧(∀ us∈t,Gu 3 1000 us)∧dU t≠0:=by
 have hl:=h.len
 have hg:=h.gu
 have nz:=h.nz
 clear h
 match uss,hl,hg,nz with
 | [p,q,r],_,hg,nz =>
  have g0:=hg p (by simp)
  have g1:=hg q (by simp)
  have g2:=hg r (by simp)
  have r0:=(aeC g0).mono (show k≤1000 by omega)
  have r1:=(aeC g1).mono (show k≤1000 by omega)
  have r2:=(aeC g2).mono (show k≤1000 by omega)
  have u0:=(acO (way:=1) (.inl rfl) (aeC g0) g).1.mono hk
  have u1:=(acO (way:=1) (.inl rfl) (aeC g1) g).1.mono hk
  have u2:=(acO (way:=1) (.inl rfl) (aeC g2) g).1.mono hk
  have key:dU [ra p,ra q,ra r,hU f p]≠0∧dU [ra q,ra r,hU f p,hU f q]≠0∧dU [ra r,hU f p,hU f q,hU f r]≠0:=by
   obtain ⟨x0,y0,w0,rfl,q0,_⟩:=g0.two'
   obtain ⟨x1,y1,w1,rfl,q1,_⟩:=g1.two'
   obtain ⟨x2,y2,w2,rfl,q2,_⟩:=g2.two'
   obtain ⟨a,b,c,e,rfl,he,_⟩:=g.three'
   exact alt g0 g1 g2 q0 q1 q2 he hc g nz
  intro t ht
  have ht:t=[ra p,ra q,ra r,hU f p]∨t=[ra q,ra r,hU f p,hU f q]∨t=[ra r,hU f p,hU f q,hU f r]:=by simpa [prT] using ht
  rcases ht with rfl | rfl | rfl
  ·refine ⟨rfl,fun us hu=>?_,key.1⟩
   have hu:us=ra p∨us=ra q∨us=ra r∨us=hU f p:=by simpa using hu
   rcases hu with rfl | rfl | rfl | rfl
   ·exact r0
   ·exact r1
   ·exact r2
   ·exact u0
  ·refine ⟨rfl,fun us hu=>?_,key.2.1⟩
   have hu:us=ra q∨us=ra r∨us=hU f p∨us=hU f q:=by simpa using hu
   rcases hu with rfl | rfl | rfl | rfl
   ·exact r1
   ·exact r2
   ·exact u0
   ·exact u1
  ·refine ⟨rfl,fun us hu=>?_,key.2.2⟩
   have hu:us=ra r∨us=hU f p∨us=hU f q∨us=hU f r:=by simpa using hu
   rcases hu with rfl | rfl | rfl | rfl
   ·exact r2
   ·exact u0
   ·exact u1
   ·exact u2
theorem aoc {k l:Nat} (hk:k+l+1≤1000) {uss:List (List Int)} (h:Sx 2 k uss) {f:List Int} (g:Gu 3 l f) (hc:f.getD 2 0≠0):∀ t∈prX f uss,Sx 3 1000 t:=fun t ht=>by
 obtain ⟨x,hx,rfl⟩:=List.mem_map.mp ht
 obtain ⟨a,b,c⟩:=ahI hk h g hc x hx
 exact amx (.inr rfl) (Nat.le_refl 1000) a b c
theorem apM {k l:Nat} (hk:k+l+1≤1000) {uss:List (List Int)} (h:Sx 2 k uss) {f:List Int} (g:Gu 3 l f) (hc:f.getD 2 0≠0) (S:Sto):∀ t∈prT f uss,ab9 [.pv (.lst (t.map tv))] S=.ok (.pv (px (cnr t))) S∧aaU [.pv (.lst (t.map tv))] S=.ok (.pv (px (cnr t))) S:=fun t ht=>by
 obtain ⟨a,b,c⟩:=ahI hk h g hc t ht
 exact ⟨ajb (A:=.lst (t.map tv)) (.inr rfl) S a b (.inl rfl) (by
   rw [agC (.inr rfl) (Nat.le_refl 1000) a b]
   exact fun z=>c (amV.mp z)),adI (A:=.lst (t.map tv)) (.inr rfl) S a b (.inl rfl)⟩
theorem r03 (S:Sto):rng1 [.pv (.int 3)] S=.ok ([.int 0,.int 1,.int 2],[]) S:=by
 have rg:=rgn S (n:=3) (by decide)
 rw [show ((3:Nat):Int)=3 from rfl] at rg
 exact rg
noncomputable abbrev pB:MS:=(sSeq (sSet 4 (aaC ["p"] [] (mIt (mVar 3)) (gN 0) (aah ab0 [] (aab (mVar 0) mNil))))
 (sSeq (sSet 5 (mBin fAdd (mVar 4) (aaC ["p"] [(1,"arrow")] (mIt (mVar 4)) (gN 0) (aah acu [] (aab (mVar 0) (aab (mVar 1) mNil))))))
 (ajp 2 (aaC ["k"] [(5,"corners")] (aaE (aab (mC (.int 3)) mNil)) (gN 0) (abj ab9 [] (aab (mSl (mVar 1) (mO1 (mVar 0)) (mO1 (mBin fAdd (mVar 0) (mC (.int 4))))) mNil))))))
theorem apS {k l:Nat} (hk:k+l+1≤1000) (ms:List Int) {f:List Int} (g:Gu 3 l f) (hc:f.getD 2 0≠0) (gs:List (List (List Int))) (hgs:gs.length≤90) {uss:List (List Int)} (h:Sx 2 k uss) (x0 x4 x5:Option AV):∃ y4 y5:Option AV,pB [x0,some (.pv (tv f)),some (.ref 1),some (.pv (px uss)),x4,x5] [.lst (li ms),.lst (gs.map px)]=.nx [x0,some (.pv (tv f)),some (.ref 1),some (.pv (px uss)),y4,y5] [.lst (li ms),.lst ((gs++prX f uss).map px)]:=by
 have sm4:=apM hk h g hc [.lst (li ms),.lst (gs.map px)]
 have lz:(gs.map px).length≤90:=by rw [List.length_map]; exact hgs
 have hl:=h.len
 have hg:=h.gu
 clear h
 match uss,hl,hg,sm4 with
 | [p,q,r],_,hg,sm4 =>
  have g0:=hg p (by simp)
  have g1:=hg q (by simp)
  have g2:=hg r (by simp)
  have i0:=(aeL [.lst (li ms),.lst (gs.map px)] g0).1
  have i1:=(aeL [.lst (li ms),.lst (gs.map px)] g1).1
  have i2:=(aeL [.lst (li ms),.lst (gs.map px)] g2).1
  have j0:acu [.pv (tv (ra p)),.pv (tv f)] [.lst (li ms),.lst (gs.map px)]=.ok (.pv (tv (hU f p))) [.lst (li ms),.lst (gs.map px)]:=aj7 _ (.inr rfl) (aeC g0) g (by omega) (by omega)
  have j1:acu [.pv (tv (ra q)),.pv (tv f)] [.lst (li ms),.lst (gs.map px)]=.ok (.pv (tv (hU f q))) [.lst (li ms),.lst (gs.map px)]:=aj7 _ (.inr rfl) (aeC g1) g (by omega) (by omega)
  have j2:acu [.pv (tv (ra r)),.pv (tv f)] [.lst (li ms),.lst (gs.map px)]=.ok (.pv (tv (hU f r))) [.lst (li ms),.lst (gs.map px)]:=aj7 _ (.inr rfl) (aeC g2) g (by omega) (by omega)
  have k0:=(sm4 [ra p,ra q,ra r,hU f p] (by simp [prT])).1
  have k1:=(sm4 [ra q,ra r,hU f p,hU f q] (by simp [prT])).1
  have k2:=(sm4 [ra r,hU f p,hU f q,hU f r] (by simp [prT])).1
  simp only [List.map_cons,List.map_nil] at k0 k1 k2
  have ep:(gs++prX f [p,q,r]).map px=gs.map px++[px (cnr [ra p,ra q,ra r,hU f p]),px (cnr [ra q,ra r,hU f p,hU f q]),px (cnr [ra r,hU f p,hU f q,hU f r])]:=by simp [prX,prT]
  have hp:px [p,q,r]=.tup [tv p,tv q,tv r]:=rfl
  rw [ep,hp]
  clear sm4 hg g0 g1 g2 hc g ep hp
  generalize px (cnr [ra p,ra q,ra r,hU f p])=P0 at *
  generalize px (cnr [ra q,ra r,hU f p,hU f q])=P1 at *
  generalize px (cnr [ra r,hU f p,hU f q,hU f r])=P2 at *
  generalize tv (hU f p)=H0 at *
  generalize tv (hU f q)=H1 at *
  generalize tv (hU f r)=H2 at *
  generalize tv (ra p)=L0 at *
  generalize tv (ra q)=L1 at *
  generalize tv (ra r)=L2 at *
  generalize tv p=T0 at *
  generalize tv q=T1 at *
  generalize tv r=T2 at *
  generalize tv f=TF at *
  generalize gs.map px=GL at *
  have s0:fSl (.lst [L0,L1,L2,H0,H1,H2]) (some 0) (some 4)=some (.lst [L0,L1,L2,H0]):=rfl
  have s1:fSl (.lst [L0,L1,L2,H0,H1,H2]) (some 1) (some 5)=some (.lst [L1,L2,H0,H1]):=rfl
  have s2:fSl (.lst [L0,L1,L2,H0,H1,H2]) (some 2) (some 6)=some (.lst [L2,H0,H1,H2]):=rfl
  have hz:GL.length+3≤16777216:=by omega
  refine ⟨some (.pv (.lst [L0,L1,L2])),some (.pv (.lst [L0,L1,L2,H0,H1,H2])),?_⟩
  have rg:=r03 [.lst (li ms),.lst GL]
  unfold pB
  simp [EC,fAbs,aal,aak,fIx,atI,ixN,fEq,fNe,eqN,aam,aao,aap,aan,fAdd,aaj,frz,aau,aaC,cmpR,mIt,aa6,aav,aay,gN,i0,i1,i2,j0,j1,j2,aaE,rg,mSl,mO1,abk,s0,s1,s2,k0,k1,k2,ajp,augL,hz]
theorem anO {k l:Nat} (hk:k+l+1≤1000) (ms:List Int) {f:List Int} (g:Gu 3 l f) (hc:f.getD 2 0≠0) (x0:Option AV):∀ (hs gs:List (List (List Int))) (x3 x4 x5:Option AV),(∀ uss∈hs,Sx 2 k uss)→gs.length+3*hs.length≤90→∃ y3 y4 y5:Option AV,abQ [] (gN 3) pB (hs.map px) [x0,some (.pv (tv f)),some (.ref 1),x3,x4,x5] [.lst (li ms),.lst (gs.map px)]=.nx [x0,some (.pv (tv f)),some (.ref 1),y3,y4,y5] [.lst (li ms),.lst ((gs++hs.flatMap (prX f)).map px)]
 | [],gs,x3,x4,x5,_,_=>⟨x3,x4,x5,by simp [abf]⟩
 | uss :: hs,gs,x3,x4,x5,h,hl=>by
  have hl:gs.length+3*(hs.length+1)≤90:=hl
  obtain ⟨y4,y5,e1⟩:=apS hk ms g hc gs (by omega) (h uss (by simp)) x0 x4 x5
  have l3:(prX f uss).length=3:=by
   have:=(h uss (by simp)).len
   match uss,this with
   | [_,_,_],_=>rfl
  obtain ⟨z3,z4,z5,e2⟩:=anO hk ms g hc x0 hs (gs++prX f uss) (some (.pv (px uss))) y4 y5 (fun y hy=>h y (List.mem_cons_of_mem _ hy)) (by rw [List.length_append,l3]; omega)
  refine ⟨z3,z4,z5,?_⟩
  rw [List.append_assoc] at e2
  rw [List.map_cons,aaM,List.flatMap_cons]
  simp only [gN,List.set_cons_succ,List.set_cons_zero]
  rw [e1]
  exact e2
theorem alN {k l:Nat} (ms:List Int) (hk:k+l+1≤1000) {hs:List (List (List Int))} (h9:hs.length≤9) {A:PV} (hA:Sv A (hs.map px)) (h:∀ uss∈hs,Sx 2 k uss) {f:List Int} (g:Gu 3 l f) (hc:f.getD 2 0≠0):adr [.pv A,.pv (tv f)] [.lst (li ms)]=.ok (.pv (.tup ((hs.flatMap (prX f)).map px))) [.lst (li ms)]:=by
 have e0:=am1 [.lst (li ms)] g
 rw [if_neg hc] at e0
 obtain ⟨y3,y4,y5,e⟩:=anO hk ms g hc (some (.pv A)) hs [] none none none h (by simp only [List.length_nil]; omega)
 rw [List.nil_append,List.map_nil] at e
 have hb:aeW=(sSeq (aaW (abj abv [] (aab (mVar 1) mNil)))
 (sSeq (sSet 2 (mNew mNil))
 (sSeq (sFor (mIt (mVar 0)) (gN 3) pB)
 (sRet (mR aal (aab (mVar 2) mNil)))))):=rfl
 unfold adr fnM
 rw [hb]
 generalize pB=PB1 at *
 generalize (hs.flatMap (prX f)).map px=ML at *
 generalize tv f=T at *
 rcases hA with rfl | rfl <;> (generalize hs.map px=HL at *; simp [EC,fAbs,aal,aak,fIx,atI,ixN,fEq,fNe,eqN,aam,aao,aap,aan,fAdd,aaj,frz,aau,e0,mNew,afo,sFor,mIt,aa6,e])
theorem IT0w (x0 y0 w0 x1 y1 w1 x2 y2 w2 x y w a b c e m k:Int):D3 x0 y0 0 w0 x1 y1 0 w1 x2 y2 0 w2 (e*x0+a*w0) (e*y0+b*w0) (e*0+c*w0) (e*w0)=w0*(c*D2 x0 y0 w0 x1 y1 w1 x2 y2 w2):=by
 unfold D3 D2
 grind
theorem IT00 (x0 y0 w0 x1 y1 w1 x2 y2 w2 x y w a b c e m k:Int):D3 (m*x+k*a) (m*y+k*b) (m*0+k*c) (m*w) x1 y1 0 w1 x2 y2 0 w2 (e*x0+a*w0) (e*y0+b*w0) (e*0+c*w0) (e*w0)=1*(c*(m*w0*D2 x y w x1 y1 w1 x2 y2 w2 - k*e*D2 x0 y0 w0 x1 y1 w1 x2 y2 w2)):=by
 unfold D3 D2
 grind
theorem IT01 (x0 y0 w0 x1 y1 w1 x2 y2 w2 x y w a b c e m k:Int):D3 x0 y0 0 w0 (m*x+k*a) (m*y+k*b) (m*0+k*c) (m*w) x2 y2 0 w2 (e*x0+a*w0) (e*y0+b*w0) (e*0+c*w0) (e*w0)=m*w0*(c*D2 x0 y0 w0 x y w x2 y2 w2):=by
 unfold D3 D2
 grind
theorem IT02 (x0 y0 w0 x1 y1 w1 x2 y2 w2 x y w a b c e m k:Int):D3 x0 y0 0 w0 x1 y1 0 w1 (m*x+k*a) (m*y+k*b) (m*0+k*c) (m*w) (e*x0+a*w0) (e*y0+b*w0) (e*0+c*w0) (e*w0)=m*w0*(c*D2 x0 y0 w0 x1 y1 w1 x y w):=by
 unfold D3 D2
 grind
theorem IT03 (x0 y0 w0 x1 y1 w1 x2 y2 w2 x y w a b c e m k:Int):D3 x0 y0 0 w0 x1 y1 0 w1 x2 y2 0 w2 (m*x+k*a) (m*y+k*b) (m*0+k*c) (m*w)=1*(c*(k*D2 x0 y0 w0 x1 y1 w1 x2 y2 w2)):=by
 unfold D3 D2
 grind
theorem IT1w (x0 y0 w0 x1 y1 w1 x2 y2 w2 x y w a b c e m k:Int):D3 x1 y1 0 w1 x2 y2 0 w2 (e*x0+a*w0) (e*y0+b*w0) (e*0+c*w0) (e*w0) (e*x1+a*w1) (e*y1+b*w1) (e*0+c*w1) (e*w1)=e*w1*(c*D2 x0 y0 w0 x1 y1 w1 x2 y2 w2):=by
 unfold D3 D2
 grind
theorem IT10 (x0 y0 w0 x1 y1 w1 x2 y2 w2 x y w a b c e m k:Int):D3 (m*x+k*a) (m*y+k*b) (m*0+k*c) (m*w) x2 y2 0 w2 (e*x0+a*w0) (e*y0+b*w0) (e*0+c*w0) (e*w0) (e*x1+a*w1) (e*y1+b*w1) (e*0+c*w1) (e*w1)=e*(c*(m*(w0*D2 x y w x1 y1 w1 x2 y2 w2+w1*D2 x0 y0 w0 x y w x2 y2 w2) - k*e*D2 x0 y0 w0 x1 y1 w1 x2 y2 w2)):=by
 unfold D3 D2
 grind
theorem IT11 (x0 y0 w0 x1 y1 w1 x2 y2 w2 x y w a b c e m k:Int):D3 x1 y1 0 w1 (m*x+k*a) (m*y+k*b) (m*0+k*c) (m*w) (e*x0+a*w0) (e*y0+b*w0) (e*0+c*w0) (e*w0) (e*x1+a*w1) (e*y1+b*w1) (e*0+c*w1) (e*w1)=m*e*w1*(c*D2 x0 y0 w0 x1 y1 w1 x y w):=by
 unfold D3 D2
 grind
theorem IT12 (x0 y0 w0 x1 y1 w1 x2 y2 w2 x y w a b c e m k:Int):D3 x1 y1 0 w1 x2 y2 0 w2 (m*x+k*a) (m*y+k*b) (m*0+k*c) (m*w) (e*x1+a*w1) (e*y1+b*w1) (e*0+c*w1) (e*w1)=m*w1*(c*D2 x y w x1 y1 w1 x2 y2 w2):=by
 unfold D3 D2
 grind
theorem IT13 (x0 y0 w0 x1 y1 w1 x2 y2 w2 x y w a b c e m k:Int):D3 x1 y1 0 w1 x2 y2 0 w2 (e*x0+a*w0) (e*y0+b*w0) (e*0+c*w0) (e*w0) (m*x+k*a) (m*y+k*b) (m*0+k*c) (m*w)=1*(c*(k*e*D2 x0 y0 w0 x1 y1 w1 x2 y2 w2 - m*w0*D2 x y w x1 y1 w1 x2 y2 w2)):=by
 unfold D3 D2
 grind
theorem IT2w (x0 y0 w0 x1 y1 w1 x2 y2 w2 x y w a b c e m k:Int):D3 x2 y2 0 w2 (e*x0+a*w0) (e*y0+b*w0) (e*0+c*w0) (e*w0) (e*x1+a*w1) (e*y1+b*w1) (e*0+c*w1) (e*w1) (e*x2+a*w2) (e*y2+b*w2) (e*0+c*w2) (e*w2)=e*e*w2*(c*D2 x0 y0 w0 x1 y1 w1 x2 y2 w2):=by
 unfold D3 D2
 grind
theorem IT20 (x0 y0 w0 x1 y1 w1 x2 y2 w2 x y w a b c e m k:Int):D3 (m*x+k*a) (m*y+k*b) (m*0+k*c) (m*w) (e*x0+a*w0) (e*y0+b*w0) (e*0+c*w0) (e*w0) (e*x1+a*w1) (e*y1+b*w1) (e*0+c*w1) (e*w1) (e*x2+a*w2) (e*y2+b*w2) (e*0+c*w2) (e*w2)=e*e*(c*(m*(w0*D2 x y w x1 y1 w1 x2 y2 w2+w1*D2 x0 y0 w0 x y w x2 y2 w2+w2*D2 x0 y0 w0 x1 y1 w1 x y w) - k*e*D2 x0 y0 w0 x1 y1 w1 x2 y2 w2)):=by
 unfold D3 D2
 grind
theorem IT21 (x0 y0 w0 x1 y1 w1 x2 y2 w2 x y w a b c e m k:Int):D3 x2 y2 0 w2 (m*x+k*a) (m*y+k*b) (m*0+k*c) (m*w) (e*x1+a*w1) (e*y1+b*w1) (e*0+c*w1) (e*w1) (e*x2+a*w2) (e*y2+b*w2) (e*0+c*w2) (e*w2)=m*e*w2*(c*D2 x y w x1 y1 w1 x2 y2 w2):=by
 unfold D3 D2
 grind
theorem IT22 (x0 y0 w0 x1 y1 w1 x2 y2 w2 x y w a b c e m k:Int):D3 x2 y2 0 w2 (e*x0+a*w0) (e*y0+b*w0) (e*0+c*w0) (e*w0) (m*x+k*a) (m*y+k*b) (m*0+k*c) (m*w) (e*x2+a*w2) (e*y2+b*w2) (e*0+c*w2) (e*w2)=m*e*w2*(c*D2 x0 y0 w0 x y w x2 y2 w2):=by
 unfold D3 D2
 grind
theorem IT23 (x0 y0 w0 x1 y1 w1 x2 y2 w2 x y w a b c e m k:Int):D3 x2 y2 0 w2 (e*x0+a*w0) (e*y0+b*w0) (e*0+c*w0) (e*w0) (e*x1+a*w1) (e*y1+b*w1) (e*0+c*w1) (e*w1) (m*x+k*a) (m*y+k*b) (m*0+k*c) (m*w)=e*(c*(k*e*D2 x0 y0 w0 x1 y1 w1 x2 y2 w2 - m*(w0*D2 x y w x1 y1 w1 x2 y2 w2+w1*D2 x0 y0 w0 x y w x2 y2 w2))):=by
 unfold D3 D2
 grind
theorem sgR {s t u v:Int} (hs:0 < s) (ht:0 < t) (h:s*u=t*v):sg u=sg v:=by
 have e:=congrArg sg h
 rw [aep,aep,sgp hs,sgp ht,Int.one_mul,Int.one_mul] at e
 exact e
theorem sgP0 {x0 y0 z0 w0 x1 y1 z1 w1 x2 y2 z2 w2 x3 y3 z3 w3 X Y Z W s t:Int} (hs:0 < s) (ht:0 < t) (a:s*x0=t*X) (b:s*y0=t*Y) (c:s*z0=t*Z) (d:s*w0=t*W):sg (D3 x0 y0 z0 w0 x1 y1 z1 w1 x2 y2 z2 w2 x3 y3 z3 w3)=sg (D3 X Y Z W x1 y1 z1 w1 x2 y2 z2 w2 x3 y3 z3 w3) :=
 sgR hs ht (by rw [← aod,← aod,a,b,c,d])
theorem sgP1 {x0 y0 z0 w0 x1 y1 z1 w1 x2 y2 z2 w2 x3 y3 z3 w3 X Y Z W s t:Int} (hs:0 < s) (ht:0 < t) (a:s*x1=t*X) (b:s*y1=t*Y) (c:s*z1=t*Z) (d:s*w1=t*W):sg (D3 x0 y0 z0 w0 x1 y1 z1 w1 x2 y2 z2 w2 x3 y3 z3 w3)=sg (D3 x0 y0 z0 w0 X Y Z W x2 y2 z2 w2 x3 y3 z3 w3) :=
 sgR hs ht (by rw [← alm,← alm,a,b,c,d])
theorem sgP2 {x0 y0 z0 w0 x1 y1 z1 w1 x2 y2 z2 w2 x3 y3 z3 w3 X Y Z W s t:Int} (hs:0 < s) (ht:0 < t) (a:s*x2=t*X) (b:s*y2=t*Y) (c:s*z2=t*Z) (d:s*w2=t*W):sg (D3 x0 y0 z0 w0 x1 y1 z1 w1 x2 y2 z2 w2 x3 y3 z3 w3)=sg (D3 x0 y0 z0 w0 x1 y1 z1 w1 X Y Z W x3 y3 z3 w3) :=
 sgR hs ht (by rw [← aiO,← aiO,a,b,c,d])
theorem sgP3 {x0 y0 z0 w0 x1 y1 z1 w1 x2 y2 z2 w2 x3 y3 z3 w3 X Y Z W s t:Int} (hs:0 < s) (ht:0 < t) (a:s*x3=t*X) (b:s*y3=t*Y) (c:s*z3=t*Z) (d:s*w3=t*W):sg (D3 x0 y0 z0 w0 x1 y1 z1 w1 x2 y2 z2 w2 x3 y3 z3 w3)=sg (D3 x0 y0 z0 w0 x1 y1 z1 w1 x2 y2 z2 w2 X Y Z W) :=
 sgR hs ht (by rw [← agL,← agL,a,b,c,d])
theorem aeF {A B c F G:Int} (hA:0 < A) (hB:0 < B) (hc:c≠0) (hG:0 < G):sg (A*(c*F))*sg (B*(c*G))=sg F:=by
 rw [aep,aep,aep,aep,sgp hA,sgp hB,sgp hG,Int.one_mul,Int.one_mul,Int.mul_one]
 have:sg c*sg c=1:=by
  rcases alC hc with ⟨_,s⟩ | ⟨_,s⟩ <;> rw [s] <;> decide
 calc sg c*sg F*sg c=sg F*(sg c*sg c):=by grind
  _=sg F:=by rw [this,Int.mul_one]
structure Rr (x y z w X Y Z W:Int):Prop where
 h:∃ s t:Int,0 < s∧0 < t∧s*x=t*X∧s*y=t*Y∧s*z=t*Z∧s*w=t*W
theorem prFs {x0 y0 w0 x1 y1 w1 x2 y2 w2 x y w a b c e m k p0 r0 s0 t0 p1 r1 s1 t1 p2 r2 s2 t2 p q r z:Int} (hc:c≠0) (he:0 < e) (hm:0 < m) (q0:0 < w0) (q1:0 < w1) (q2:0 < w2) (hG:0 < D2 x0 y0 w0 x1 y1 w1 x2 y2 w2)
  (R0:Rr p0 r0 s0 t0 (e*x0+a*w0) (e*y0+b*w0) (e*0+c*w0) (e*w0)) (R1:Rr p1 r1 s1 t1 (e*x1+a*w1) (e*y1+b*w1) (e*0+c*w1) (e*w1)) (R2:Rr p2 r2 s2 t2 (e*x2+a*w2) (e*y2+b*w2) (e*0+c*w2) (e*w2)) (R:Rr p q r z (m*x+k*a) (m*y+k*b) (m*0+k*c) (m*w)) :
  Fs [p,q,r,z] [[x0,y0,0,w0],[x1,y1,0,w1],[x2,y2,0,w2],[p0,r0,s0,t0]]=[sg (m*w0*D2 x y w x1 y1 w1 x2 y2 w2 - k*e*D2 x0 y0 w0 x1 y1 w1 x2 y2 w2),sg (D2 x0 y0 w0 x y w x2 y2 w2),sg (D2 x0 y0 w0 x1 y1 w1 x y w),sg (k*D2 x0 y0 w0 x1 y1 w1 x2 y2 w2)] ∧
  Fs [p,q,r,z] [[x1,y1,0,w1],[x2,y2,0,w2],[p0,r0,s0,t0],[p1,r1,s1,t1]]=[sg (m*(w0*D2 x y w x1 y1 w1 x2 y2 w2+w1*D2 x0 y0 w0 x y w x2 y2 w2) - k*e*D2 x0 y0 w0 x1 y1 w1 x2 y2 w2),sg (D2 x0 y0 w0 x1 y1 w1 x y w),sg (D2 x y w x1 y1 w1 x2 y2 w2),sg (k*e*D2 x0 y0 w0 x1 y1 w1 x2 y2 w2 - m*w0*D2 x y w x1 y1 w1 x2 y2 w2)] ∧
  Fs [p,q,r,z] [[x2,y2,0,w2],[p0,r0,s0,t0],[p1,r1,s1,t1],[p2,r2,s2,t2]]=[sg (m*(w0*D2 x y w x1 y1 w1 x2 y2 w2+w1*D2 x0 y0 w0 x y w x2 y2 w2+w2*D2 x0 y0 w0 x1 y1 w1 x y w) - k*e*D2 x0 y0 w0 x1 y1 w1 x2 y2 w2),sg (D2 x y w x1 y1 w1 x2 y2 w2),sg (D2 x0 y0 w0 x y w x2 y2 w2),sg (k*e*D2 x0 y0 w0 x1 y1 w1 x2 y2 w2 - m*(w0*D2 x y w x1 y1 w1 x2 y2 w2+w1*D2 x0 y0 w0 x y w x2 y2 w2))]:=by
 obtain ⟨S,T,hS,hT,i0,i1,i2,i3⟩:=R.h
 obtain ⟨S0,T0,hS0,hT0,j0,j1,j2,j3⟩:=R0.h
 obtain ⟨S1,T1,hS1,hT1,k0,k1,k2,k3⟩:=R1.h
 obtain ⟨S2,T2,hS2,hT2,l0,l1,l2,l3⟩:=R2.h
 have o1:(0:Int) < 1:=by decide
 have ee:=Int.mul_pos he he
 have mw0:=Int.mul_pos hm q0
 have mw1:=Int.mul_pos hm q1
 have ew1:=Int.mul_pos he q1
 have mew1:=Int.mul_pos (Int.mul_pos hm he) q1
 have mew2:=Int.mul_pos (Int.mul_pos hm he) q2
 have eew2:=Int.mul_pos ee q2
 refine ⟨?_,?_,?_⟩
 ·have W:sg (D3 x0 y0 0 w0 x1 y1 0 w1 x2 y2 0 w2 p0 r0 s0 t0)=_:=sgP3 hS0 hT0 j0 j1 j2 j3
  rw [IT0w x0 y0 w0 x1 y1 w1 x2 y2 w2 x y w a b c e m k] at W
  have A0:sg (D3 p q r z x1 y1 0 w1 x2 y2 0 w2 p0 r0 s0 t0)=_:=(sgP0 hS hT i0 i1 i2 i3).trans (sgP3 hS0 hT0 j0 j1 j2 j3)
  rw [IT00] at A0
  have A1:sg (D3 x0 y0 0 w0 p q r z x2 y2 0 w2 p0 r0 s0 t0)=_:=(sgP1 hS hT i0 i1 i2 i3).trans (sgP3 hS0 hT0 j0 j1 j2 j3)
  rw [IT01 x0 y0 w0 x1 y1 w1] at A1
  have A2:sg (D3 x0 y0 0 w0 x1 y1 0 w1 p q r z p0 r0 s0 t0)=_:=(sgP2 hS hT i0 i1 i2 i3).trans (sgP3 hS0 hT0 j0 j1 j2 j3)
  rw [IT02 x0 y0 w0 x1 y1 w1 x2 y2 w2] at A2
  have A3:sg (D3 x0 y0 0 w0 x1 y1 0 w1 x2 y2 0 w2 p q r z)=_:=sgP3 hS hT i0 i1 i2 i3
  rw [IT03 x0 y0 w0 x1 y1 w1 x2 y2 w2 x y w a b c e] at A3
  rw [Fs4]
  show [sg (D3 p q r z x1 y1 0 w1 x2 y2 0 w2 p0 r0 s0 t0)*sg (D3 x0 y0 0 w0 x1 y1 0 w1 x2 y2 0 w2 p0 r0 s0 t0),sg (D3 x0 y0 0 w0 p q r z x2 y2 0 w2 p0 r0 s0 t0)*sg (D3 x0 y0 0 w0 x1 y1 0 w1 x2 y2 0 w2 p0 r0 s0 t0),sg (D3 x0 y0 0 w0 x1 y1 0 w1 p q r z p0 r0 s0 t0)*sg (D3 x0 y0 0 w0 x1 y1 0 w1 x2 y2 0 w2 p0 r0 s0 t0),sg (D3 x0 y0 0 w0 x1 y1 0 w1 x2 y2 0 w2 p q r z)*sg (D3 x0 y0 0 w0 x1 y1 0 w1 x2 y2 0 w2 p0 r0 s0 t0)]=_
  rw [A0,A1,A2,A3,W,aeF o1 q0 hc hG,aeF mw0 q0 hc hG,aeF mw0 q0 hc hG,aeF o1 q0 hc hG]
 ·have W:sg (D3 x1 y1 0 w1 x2 y2 0 w2 p0 r0 s0 t0 p1 r1 s1 t1)=_:=(sgP2 hS0 hT0 j0 j1 j2 j3).trans (sgP3 hS1 hT1 k0 k1 k2 k3)
  rw [IT1w x0 y0 w0 x1 y1 w1 x2 y2 w2 x y w a b c e m k] at W
  have A0:sg (D3 p q r z x2 y2 0 w2 p0 r0 s0 t0 p1 r1 s1 t1)=_:=((sgP0 hS hT i0 i1 i2 i3).trans (sgP2 hS0 hT0 j0 j1 j2 j3)).trans (sgP3 hS1 hT1 k0 k1 k2 k3)
  rw [IT10] at A0
  have A1:sg (D3 x1 y1 0 w1 p q r z p0 r0 s0 t0 p1 r1 s1 t1)=_:=((sgP1 hS hT i0 i1 i2 i3).trans (sgP2 hS0 hT0 j0 j1 j2 j3)).trans (sgP3 hS1 hT1 k0 k1 k2 k3)
  rw [IT11 x0 y0 w0 x1 y1 w1 x2 y2 w2] at A1
  have A2:sg (D3 x1 y1 0 w1 x2 y2 0 w2 p q r z p1 r1 s1 t1)=_:=(sgP2 hS hT i0 i1 i2 i3).trans (sgP3 hS1 hT1 k0 k1 k2 k3)
  rw [IT12 x0 y0 w0 x1 y1 w1 x2 y2 w2] at A2
  have A3:sg (D3 x1 y1 0 w1 x2 y2 0 w2 p0 r0 s0 t0 p q r z)=_:=(sgP2 hS0 hT0 j0 j1 j2 j3).trans (sgP3 hS hT i0 i1 i2 i3)
  rw [IT13 x0 y0 w0 x1 y1 w1 x2 y2 w2] at A3
  rw [Fs4]
  show [sg (D3 p q r z x2 y2 0 w2 p0 r0 s0 t0 p1 r1 s1 t1)*sg (D3 x1 y1 0 w1 x2 y2 0 w2 p0 r0 s0 t0 p1 r1 s1 t1),sg (D3 x1 y1 0 w1 p q r z p0 r0 s0 t0 p1 r1 s1 t1)*sg (D3 x1 y1 0 w1 x2 y2 0 w2 p0 r0 s0 t0 p1 r1 s1 t1),sg (D3 x1 y1 0 w1 x2 y2 0 w2 p q r z p1 r1 s1 t1)*sg (D3 x1 y1 0 w1 x2 y2 0 w2 p0 r0 s0 t0 p1 r1 s1 t1),sg (D3 x1 y1 0 w1 x2 y2 0 w2 p0 r0 s0 t0 p q r z)*sg (D3 x1 y1 0 w1 x2 y2 0 w2 p0 r0 s0 t0 p1 r1 s1 t1)]=_
  rw [A0,A1,A2,A3,W,aeF he ew1 hc hG,aeF mew1 ew1 hc hG,aeF mw1 ew1 hc hG,aeF o1 ew1 hc hG]
 ·have W:sg (D3 x2 y2 0 w2 p0 r0 s0 t0 p1 r1 s1 t1 p2 r2 s2 t2)=_:=((sgP1 hS0 hT0 j0 j1 j2 j3).trans (sgP2 hS1 hT1 k0 k1 k2 k3)).trans (sgP3 hS2 hT2 l0 l1 l2 l3)
  rw [IT2w x0 y0 w0 x1 y1 w1 x2 y2 w2 x y w a b c e m k] at W
  have A0:sg (D3 p q r z p0 r0 s0 t0 p1 r1 s1 t1 p2 r2 s2 t2)=_:=(((sgP0 hS hT i0 i1 i2 i3).trans (sgP1 hS0 hT0 j0 j1 j2 j3)).trans (sgP2 hS1 hT1 k0 k1 k2 k3)).trans (sgP3 hS2 hT2 l0 l1 l2 l3)
  rw [IT20] at A0
  have A1:sg (D3 x2 y2 0 w2 p q r z p1 r1 s1 t1 p2 r2 s2 t2)=_:=((sgP1 hS hT i0 i1 i2 i3).trans (sgP2 hS1 hT1 k0 k1 k2 k3)).trans (sgP3 hS2 hT2 l0 l1 l2 l3)
  rw [IT21 x0 y0 w0 x1 y1 w1 x2 y2 w2] at A1
  have A2:sg (D3 x2 y2 0 w2 p0 r0 s0 t0 p q r z p2 r2 s2 t2)=_:=((sgP1 hS0 hT0 j0 j1 j2 j3).trans (sgP2 hS hT i0 i1 i2 i3)).trans (sgP3 hS2 hT2 l0 l1 l2 l3)
  rw [IT22 x0 y0 w0 x1 y1 w1 x2 y2 w2] at A2
  have A3:sg (D3 x2 y2 0 w2 p0 r0 s0 t0 p1 r1 s1 t1 p q r z)=_:=((sgP1 hS0 hT0 j0 j1 j2 j3).trans (sgP2 hS1 hT1 k0 k1 k2 k3)).trans (sgP3 hS hT i0 i1 i2 i3)
  rw [IT23 x0 y0 w0 x1 y1 w1 x2 y2 w2] at A3
  rw [Fs4]
  show [sg (D3 p q r z p0 r0 s0 t0 p1 r1 s1 t1 p2 r2 s2 t2)*sg (D3 x2 y2 0 w2 p0 r0 s0 t0 p1 r1 s1 t1 p2 r2 s2 t2),sg (D3 x2 y2 0 w2 p q r z p1 r1 s1 t1 p2 r2 s2 t2)*sg (D3 x2 y2 0 w2 p0 r0 s0 t0 p1 r1 s1 t1 p2 r2 s2 t2),sg (D3 x2 y2 0 w2 p0 r0 s0 t0 p q r z p2 r2 s2 t2)*sg (D3 x2 y2 0 w2 p0 r0 s0 t0 p1 r1 s1 t1 p2 r2 s2 t2),sg (D3 x2 y2 0 w2 p0 r0 s0 t0 p1 r1 s1 t1 p q r z)*sg (D3 x2 y2 0 w2 p0 r0 s0 t0 p1 r1 s1 t1 p2 r2 s2 t2)]=_
  rw [A0,A1,A2,A3,W,aeF ee eew2 hc hG,aeF mew2 eew2 hc hG,aeF mew2 eew2 hc hG,aeF he eew2 hc hG]
theorem adh {d:Int}:0 < sg d↔0 < d:=by
 unfold sg
 split
 ·omega
 ·split <;> omega
theorem ahG:∀ (L:List Int),(∀ s∈L,0 < s)→plc L 1=1
 | [],_=>rfl
 | s :: L,h=>by
  have:=h s (by simp)
  unfold plc
  rw [if_neg (by omega),if_neg (by omega)]
  exact ahG L fun x hx=>h x (List.mem_cons_of_mem _ hx)
theorem plc0 {s1 s2 s3 s4:Int} (h:plc [s1,s2,s3,s4] 1≠0) (a:0≤s1) (b:0≤s2) (c:0≤s3) (d:0≤s4):0 < s1∧0 < s2∧0 < s3∧0 < s4:=by
 have key:∀ (L:List Int),(∀ s∈L,0≤s)→plc L 0=0:=fun L=>by
  induction L with
  | nil=>intro _; rfl
  | cons s L ih =>
   intro hL
   have:=hL s (by simp)
   unfold plc
   rw [if_neg (by omega),ite_self]
   exact ih fun x hx=>hL x (List.mem_cons_of_mem _ hx)
 have s0:∀ {s:Int} {L:List Int},0≤s→plc (s :: L) 1=plc L (if s=0 then 0 else 1):=fun hs=>by
  show (if _ then _ else _)=_
  rw [if_neg (by omega)]
 rw [s0 a] at h
 by_cases a0:s1=0
 ·rw [if_pos a0] at h
  exact absurd (key _ (by simp; exact ⟨b,c,d⟩)) h
 rw [if_neg a0,s0 b] at h
 by_cases b0:s2=0
 ·rw [if_pos b0] at h
  exact absurd (key _ (by simp; exact ⟨c,d⟩)) h
 rw [if_neg b0,s0 c] at h
 by_cases c0:s3=0
 ·rw [if_pos c0] at h
  exact absurd (key _ (by simp; exact d)) h
 rw [if_neg c0,s0 d] at h
 by_cases d0:s4=0
 ·rw [if_pos d0] at h
  exact absurd rfl h
 omega
theorem one4 {a b c d:Int}:plc [sg a,sg b,sg c,sg d] 1=1↔0 < a∧0 < b∧0 < c∧0 < d:=by
 constructor
 ·intro h
  have:=(ahF _ _ h).2
  exact ⟨adh.mp (this _ (by simp)),adh.mp (this _ (by simp)),adh.mp (this _ (by simp)),adh.mp (this _ (by simp))⟩
 ·rintro ⟨h1,h2,h3,h4⟩
  refine ahG _ fun s hs=>?_
  have hs:s=sg a∨s=sg b∨s=sg c∨s=sg d:=by simpa using hs
  rcases hs with rfl | rfl | rfl | rfl
  ·exact adh.mpr h1
  ·exact adh.mpr h2
  ·exact adh.mpr h3
  ·exact adh.mpr h4
theorem one3 {a b c:Int}:plc [sg a,sg b,sg c] 1=1↔0 < a∧0 < b∧0 < c:=by
 constructor
 ·intro h
  have:=(ahF _ _ h).2
  exact ⟨adh.mp (this _ (by simp)),adh.mp (this _ (by simp)),adh.mp (this _ (by simp))⟩
 ·rintro ⟨h1,h2,h3⟩
  refine ahG _ fun s hs=>?_
  have hs:s=sg a∨s=sg b∨s=sg c:=by simpa using hs
  rcases hs with rfl | rfl | rfl
  ·exact adh.mpr h1
  ·exact adh.mpr h2
  ·exact adh.mpr h3
theorem nz4 {a b c d:Int} (h:plc [sg a,sg b,sg c,sg d] 1≠0) (ha:0≤a) (hb:0≤b) (hc:0≤c) (hd:0≤d):0 < a∧0 < b∧0 < c∧0 < d:=by
 have g:∀ {x:Int},0≤x→0≤sg x:=fun hx=>by
  unfold sg
  split
  ·decide
  ·split <;> omega
 obtain ⟨h1,h2,h3,h4⟩:=plc0 h (g ha) (g hb) (g hc) (g hd)
 exact ⟨adh.mp h1,adh.mp h2,adh.mp h3,adh.mp h4⟩
theorem tri3 {d0 d1 d2 P0 P1 P2 Z U V k:Int} (p0:0 < P0↔0 < d0) (p1:0 < P1↔0 < d1) (p2:0 < P2↔0 < d2) (hV:P0+P1+P2=V) (hk:0 < k↔0 < Z) (hk2:0 < U↔0 < Z) (hUV:Z < V↔0 < V - Z)
  (n0:plc [sg (P0 - Z),sg d1,sg d2,sg k] 1≠0) (n1:plc [sg (P0+P1 - Z),sg d2,sg d0,sg (Z - P0)] 1≠0) (n2:plc [sg (V - Z),sg d0,sg d1,sg (Z - (P0+P1))] 1≠0) :
  [plc [sg (P0 - Z),sg d1,sg d2,sg k] 1,plc [sg (P0+P1 - Z),sg d2,sg d0,sg (Z - P0)] 1,plc [sg (V - Z),sg d0,sg d1,sg (Z - (P0+P1))] 1].count 1=if (0 < d0∧0 < d1∧0 < d2)∧0 < U∧Z < V then 1 else 0:=by
 have o0:=@one4 (P0 - Z) d1 d2 k
 have o1:=@one4 (P0+P1 - Z) d2 d0 (Z - P0)
 have o2:=@one4 (V - Z) d0 d1 (Z - (P0+P1))
 have m0:=@nz4 (P0 - Z) d1 d2 k n0
 have m1:=@nz4 (P0+P1 - Z) d2 d0 (Z - P0) n1
 have m2:=@nz4 (V - Z) d0 d1 (Z - (P0+P1)) n2
 clear n0 n1 n2
 generalize plc [sg (P0 - Z),sg d1,sg d2,sg k] 1=A at *
 generalize plc [sg (P0+P1 - Z),sg d2,sg d0,sg (Z - P0)] 1=B at *
 generalize plc [sg (V - Z),sg d0,sg d1,sg (Z - (P0+P1))] 1=C at *
 have cc:[A,B,C].count 1=(if A=1 then 1 else 0)+(if B=1 then 1 else 0)+(if C=1 then 1 else 0):=by
  simp only [List.count_cons,List.count_nil,beq_iff_eq]
  omega
 rw [cc]
 by_cases h:(0 < d0∧0 < d1∧0 < d2)∧0 < U∧Z < V
 ·rw [if_pos h]
  obtain ⟨⟨h0,h1,h2⟩,hU,hZ⟩:=h
  have q0:=p0.mpr h0
  have q1:=p1.mpr h1
  have q2:=p2.mpr h2
  have hZ0:=hk2.mp hU
  have hk0:=hk.mpr hZ0
  by_cases c1:Z < P0
  ·have a1:A=1:=o0.mpr ⟨by omega,h1,h2,hk0⟩
   have b1:¬ B=1:=fun z=>by have:=(o1.mp z).2.2.2; omega
   have e1:¬ C=1:=fun z=>by have:=(o2.mp z).2.2.2; omega
   rw [if_pos a1,if_neg b1,if_neg e1]
  ·by_cases c2:Z=P0
   ·have:=(m0 (by omega) (by omega) (by omega) (by omega)).1
    omega
   ·by_cases c3:Z < P0+P1
    ·have a1:¬ A=1:=fun z=>by have:=(o0.mp z).1; omega
     have b1:B=1:=o1.mpr ⟨by omega,h2,h0,by omega⟩
     have e1:¬ C=1:=fun z=>by have:=(o2.mp z).2.2.2; omega
     rw [if_neg a1,if_pos b1,if_neg e1]
    ·by_cases c4:Z=P0+P1
     ·have:=(m1 (by omega) (by omega) (by omega) (by omega)).1
      omega
     ·have a1:¬ A=1:=fun z=>by have:=(o0.mp z).1; omega
      have b1:¬ B=1:=fun z=>by have:=(o1.mp z).1; omega
      have e1:C=1:=o2.mpr ⟨by omega,h0,h1,by omega⟩
      rw [if_neg a1,if_neg b1,if_pos e1]
 ·rw [if_neg h]
  have a1:¬ A=1:=fun z=>by
   obtain ⟨z1,z2,z3,z4⟩:=o0.mp z
   have hz:=hk.mp z4
   have q1:=p1.mpr z2
   have q2:=p2.mpr z3
   exact h ⟨⟨p0.mp (by omega),z2,z3⟩,hk2.mpr hz,by omega⟩
  have b1:¬ B=1:=fun z=>by
   obtain ⟨z1,z2,z3,z4⟩:=o1.mp z
   have q0:=p0.mpr z3
   have q2:=p2.mpr z2
   exact h ⟨⟨z3,p1.mp (by omega),z2⟩,hk2.mpr (by omega),by omega⟩
  have e1:¬ C=1:=fun z=>by
   obtain ⟨z1,z2,z3,z4⟩:=o2.mp z
   have q0:=p0.mpr z2
   have q1:=p1.mpr z3
   exact h ⟨⟨z2,z3,p2.mp (by omega)⟩,hk2.mpr (by omega),by omega⟩
  rw [if_neg a1,if_neg b1,if_neg e1]
theorem aej {s d:Int} (hs:0 < s):0 < s*d↔0 < d:=by
 constructor
 ·intro h
  rcases Int.lt_trichotomy d 0 with z | z | z
  ·have:=Int.mul_neg_of_pos_of_neg hs z
   omega
  ·rw [z,Int.mul_zero] at h
   omega
  ·exact z
 ·exact Int.mul_pos hs
theorem alv {k l:Nat} (hk:k+l+1≤1000) {uss:List (List Int)} (h:Sx 2 k uss) {a b c e:Int} (g:Gu 3 l [a,b,c,e]) (hc:c≠0) (he:0 < e) {x y w u v:Int} (hw:0 < w) (hv:0 < v) {p q r z:Int} (gq:Gu 3 1000 [p,q,r,z]) (R:Rr p q r z (v*e*x+w*u*a) (v*e*y+w*u*b) (v*e*0+w*u*c) (v*e*w))
  (nz3:∀ t∈prX [a,b,c,e] uss,stn t [p,q,r,z]≠0):((prX [a,b,c,e] uss).map fun t=>stn t [p,q,r,z]).count 1=if stn uss [x,y,w]=1∧0 < u∧u < v then 1 else 0:=by
 have hm:0 < v*e:=Int.mul_pos hv he
 have all:=ahI hk h g hc
 have est:∀ t∈prT [a,b,c,e] uss,stn (cnr t) [p,q,r,z]=plc (Fs [p,q,r,z] t) 1:=fun t ht=>anT (Nat.le_refl 1000) (all t ht).1 (all t ht).2.1 gq (all t ht).2.2
 have nn:0 < dU uss:=by
  have e3:=ajd (.inl rfl) (show k≤1000 by omega) h.len h.gu
  rw [h.cn] at e3
  have:=h.nz
  omega
 have hl:=h.len
 have hg:=h.gu
 clear all h
 match uss,hl,hg,nn,nz3,est with
 | [A0,A1,A2],_,hg,nn,nz3,est =>
  have g0:=hg A0 (by simp)
  have g1:=hg A1 (by simp)
  have g2:=hg A2 (by simp)
  obtain ⟨x0,y0,w0,rfl,q0,_⟩:=g0.two'
  obtain ⟨x1,y1,w1,rfl,q1,_⟩:=g1.two'
  obtain ⟨x2,y2,w2,rfl,q2,_⟩:=g2.two'
  have nn:0 < D2 x0 y0 w0 x1 y1 w1 x2 y2 w2:=nn
  obtain ⟨p0,r0,s0,t0,e0,u0,a0,b0,c0⟩:=ahm g0 g
  obtain ⟨p1,r1,s1,t1,e1,u1,a1,b1,c1⟩:=ahm g1 g
  obtain ⟨p2,r2,s2,t2,e2,u2,a2,b2,c2⟩:=ahm g2 g
  have mkR:∀ {x y w p r s t:Int},0 < w→0 < t→p*(e*w)=(e*x+a*w)*t→r*(e*w)=(e*y+b*w)*t→s*(e*w)=(e*0+c*w)*t→Rr p r s t (e*x+a*w) (e*y+b*w) (e*0+c*w) (e*w):=fun {x y w p r s t} h1 h2 h3 h4 h5=>⟨e*w,t,Int.mul_pos he h1,h2,by rw [Int.mul_comm,h3,Int.mul_comm],by rw [Int.mul_comm,h4,Int.mul_comm],by rw [Int.mul_comm,h5,Int.mul_comm],Int.mul_comm _ _⟩
  obtain ⟨f0,f1,f2⟩:=prFs (x:=x) (y:=y) (w:=w) (k:=w*u) hc he hm q0 q1 q2 nn (mkR q0 u0 a0 b0 c0) (mkR q1 u1 a1 b1 c1) (mkR q2 u2 a2 b2 c2) R
  have ep:prX [a,b,c,e] [[x0,y0,w0],[x1,y1,w1],[x2,y2,w2]]=[cnr [[x0,y0,0,w0],[x1,y1,0,w1],[x2,y2,0,w2],[p0,r0,s0,t0]],cnr [[x1,y1,0,w1],[x2,y2,0,w2],[p0,r0,s0,t0],[p1,r1,s1,t1]],cnr [[x2,y2,0,w2],[p0,r0,s0,t0],[p1,r1,s1,t1],[p2,r2,s2,t2]]]:=by
   show [cnr [_,_,_,hU _ _],cnr [_,_,hU _ _,hU _ _],cnr [_,hU _ _,hU _ _,hU _ _]]=_
   rw [e0,e1,e2]
   rfl
  have et:prT [a,b,c,e] [[x0,y0,w0],[x1,y1,w1],[x2,y2,w2]]=[[[x0,y0,0,w0],[x1,y1,0,w1],[x2,y2,0,w2],[p0,r0,s0,t0]],[[x1,y1,0,w1],[x2,y2,0,w2],[p0,r0,s0,t0],[p1,r1,s1,t1]],[[x2,y2,0,w2],[p0,r0,s0,t0],[p1,r1,s1,t1],[p2,r2,s2,t2]]]:=by
   show [[_,_,_,hU _ _],[_,_,hU _ _,hU _ _],[_,hU _ _,hU _ _,hU _ _]]=_
   rw [e0,e1,e2]
   rfl
  rw [et] at est
  rw [ep] at nz3 ⊢
  have k0:=est _ (List.mem_cons_self)
  have k1:=est _ (List.mem_cons_of_mem _ List.mem_cons_self)
  have k2:=est _ (List.mem_cons_of_mem _ (List.mem_cons_of_mem _ List.mem_cons_self))
  rw [f0] at k0
  rw [f1] at k1
  rw [f2] at k2
  have n0:=nz3 _ (List.mem_cons_self)
  have n1:=nz3 _ (List.mem_cons_of_mem _ List.mem_cons_self)
  have n2:=nz3 _ (List.mem_cons_of_mem _ (List.mem_cons_of_mem _ List.mem_cons_self))
  simp only [List.map_cons,List.map_nil]
  rw [k0] at n0
  rw [k1] at n1
  rw [k2] at n2
  rw [k0,k1,k2]
  have en:stn [[x0,y0,w0],[x1,y1,w1],[x2,y2,w2]] [x,y,w]=plc [sg (D2 x y w x1 y1 w1 x2 y2 w2),sg (D2 x0 y0 w0 x y w x2 y2 w2),sg (D2 x0 y0 w0 x1 y1 w1 x y w)] 1:=rfl
  have sum:=aor x0 y0 w0 x1 y1 w1 x2 y2 w2 x y w
  rw [en]
  clear k0 k1 k2 en est nz3 et ep f0 f1 f2 mkR e0 e1 e2 a0 a1 a2 b0 b1 b2 c0 c1 c2 hg g0 g1 g2 R gq g
  generalize D2 x y w x1 y1 w1 x2 y2 w2=d0 at *
  generalize D2 x0 y0 w0 x y w x2 y2 w2=d1 at *
  generalize D2 x0 y0 w0 x1 y1 w1 x y w=d2 at *
  generalize D2 x0 y0 w0 x1 y1 w1 x2 y2 w2=G at *
  have ea:v*e*(w0*d0+w1*d1)=v*e*w0*d0+v*e*w1*d1:=by grind
  have eb:v*e*(w0*d0+w1*d1+w2*d2)=v*e*(w*G):=by rw [sum]
  have ec:v*e*w0*d0+v*e*w1*d1+v*e*w2*d2=v*e*(w*G):=by rw [← sum]; grind
  rw [ea] at n1 n2 ⊢
  rw [eb] at n2 ⊢
  have Q:0 < e*w*G:=Int.mul_pos (Int.mul_pos he hw) nn
  have zz:w*u*e*G=e*w*G*u:=by grind
  have vv:v*e*(w*G)=e*w*G*v:=by grind
  have i1:0 < w*u*G↔0 < w*u*e*G:=by
   rw [zz,aej Q,show w*u*G=w*G*u by grind,aej (Int.mul_pos hw nn)]
  have i2:0 < u↔0 < w*u*e*G:=by rw [zz,aej Q]
  have i3:w*u*e*G < v*e*(w*G)↔u < v:=by
   rw [zz,vv]
   constructor
   ·exact fun h=>Int.lt_of_mul_lt_mul_left h (Int.le_of_lt Q)
   ·exact fun h=>Int.mul_lt_mul_of_pos_left h Q
  have t3:=tri3 (d0:=d0) (d1:=d1) (d2:=d2) (P0:=v*e*w0*d0) (P1:=v*e*w1*d1) (P2:=v*e*w2*d2) (Z:=w*u*e*G) (U:=u) (V:=v*e*(w*G)) (k:=w*u*G) (aej (Int.mul_pos hm q0)) (aej (Int.mul_pos hm q1)) (aej (Int.mul_pos hm q2)) ec i1 i2 (by omega) n0 n1 n2
  rw [t3]
  have o3:=@one3 d0 d1 d2
  by_cases cs:plc [sg d0,sg d1,sg d2] 1=1∧0 < u∧u < v
  ·rw [if_pos cs,if_pos ⟨o3.mp cs.1,cs.2.1,i3.mpr cs.2.2⟩]
  ·rw [if_neg cs,if_neg fun z=>cs ⟨o3.mpr z.1,z.2.1,i3.mp z.2.2⟩]
theorem ajc (a b c:MS):sSeq a (sSeq b c)=sSeq (sSeq a b) c:=by
 funext ρ S
 unfold sSeq
 cases a ρ S <;> rfl
theorem amo (L:List PV) (v:PV) (h:L.length≤100):fAdd (.lst L) (.lst [v])=some (.lst (L++[v])):=by
 show (if L.length+1≤16777216 then some (PV.lst (L++[v])) else none)=_
 rw [if_pos (by omega)]
theorem am7 {n k l:Nat} {uss:List (List Int)} (h:Sx n k uss) (hl:k≤l):Sx n l uss:=⟨h.len,fun us hu=>(h.gu us hu).mono hl,h.nz,h.cn⟩
theorem aoG (S:Sto) {fs:List (Int × Int)} (hf:fs.length=2) (h:∀ u∈fs,Sp u) {hs:List (List (List Int))} (hw:∀ xss∈hs,Rw 2 xss) (ρ:Rho) (h2:ρ[2]?=some (some (.pv (.lst (fs.map fv))))) (h3:ρ[3]?=some (some (.pv (.lst (hs.map rawv))))):(aaC ["_law_corners"] [(2,"_law_stretch_here")] (mIt (mVar 3)) (gN 0) (aah aaU [] (aab (aaC ["_law_corner"] [(1,"_law_stretch_here")] (mIt (mVar 0)) (gN 0) (aah abB [] (aab (mVar 0) (aab (mVar 1) mNil)))) mNil))) ρ S=.ok (.pv (.lst ((hs.map fun xss=>cnr (xss.map (spU fs))).map px))) S∧∀ uss∈hs.map fun xss=>cnr (xss.map (spU fs)),Sx 2 100 uss:=by
 have hn:(2:Nat)=2∨(2:Nat)=3:=.inl rfl
 have gu:∀ xss∈hs,∀ us∈xss.map (spU fs),Gu 2 100 us:=fun xss hx us hu=>by
  obtain ⟨ys,hy,rfl⟩:=List.mem_map.mp hu
  exact (aeT hn [] hf h ((hw xss hx).l ys hy) ((hw xss hx).b ys hy)).2.1
 have hl:∀ xss∈hs,(xss.map (spU fs)).length=2+1:=fun xss hx=>by rw [List.length_map]; exact (hw xss hx).len
 constructor
 ·have ec:aa5 [] (gN 0) (aah aaU [] (aab (aaC ["_law_corner"] [(1,"_law_stretch_here")] (mIt (mVar 0)) (gN 0) (aah abB [] (aab (mVar 0) (aab (mVar 1) mNil)))) mNil)) (hs.map rawv) [none,some (.pv (.lst (fs.map fv)))] S=.ok (hs.map fun xss=>px (cnr (xss.map (spU fs)))) S:=by
   refine adl (ado S) rawv (fun xss=>px (cnr (xss.map (spU fs)))) hs none fun xss hx=>?_
   have e1:aa5 [] (gN 0) (aah abB [] (aab (mVar 0) (aab (mVar 1) mNil))) (xss.map lv) [none,some (.pv (.lst (fs.map fv)))] S=.ok (xss.map fun ys=>tv (spU fs ys)) S:=by
    refine adl (ado S) lv (fun ys=>tv (spU fs ys)) xss none fun ys hy=>?_
    have a1:=(aeT hn S hf h ((hw xss hx).l ys hy) ((hw xss hx).b ys hy)).1
    generalize tv (spU fs ys)=T2 at *
    generalize lv ys=T3 at *
    generalize fs.map fv=FL at *
    simp [EC,fAbs,aal,aak,fIx,atI,ixN,fEq,fNe,eqN,aam,aao,aap,aan,fAdd,aaj,frz,aau,a1]
   have e2:=adI (uss:=xss.map (spU fs)) (A:=.lst ((xss.map (spU fs)).map tv)) hn S (hl xss hx) (fun us hu=>(gu xss hx us hu).mono (by decide)) (.inl rfl)
   have em:(xss.map (spU fs)).map tv=xss.map fun ys=>tv (spU fs ys):=by rw [List.map_map]; rfl
   rw [em] at e2
   have hv:rawv xss=.lst (xss.map lv):=rfl
   have hp:px (cnr (xss.map (spU fs)))=.tup ((cnr (xss.map (spU fs))).map tv):=rfl
   rw [hv,hp]
   generalize (cnr (xss.map (spU fs))).map tv=PX at *
   generalize (xss.map fun ys=>tv (spU fs ys))=TL at *
   generalize xss.map lv=XL at *
   generalize fs.map fv=FL at *
   simp [EC,fAbs,aal,aak,fIx,atI,ixN,fEq,fNe,eqN,aam,aao,aap,aan,fAdd,aaj,frz,aau,aaC,cmpR,mIt,aa6,e1,e2]
  have em:(hs.map fun xss=>cnr (xss.map (spU fs))).map px=hs.map fun xss=>px (cnr (xss.map (spU fs))):=by rw [List.map_map]; rfl
  rw [em]
  generalize (hs.map fun xss=>px (cnr (xss.map (spU fs))))=ML at *
  generalize hs.map rawv=HL at *
  generalize fs.map fv=FL at *
  generalize hme:(aah aaU [] (aab (aaC ["_law_corner"] [(1,"_law_stretch_here")] (mIt (mVar 0)) (gN 0) (aah abB [] (aab (mVar 0) (aab (mVar 1) mNil)))) mNil))=M1 at ec
  simp [aaC,cmpR,mIt,aa6,mVar,h3,h2,Res.bind,ec]
 ·intro uss hu
  obtain ⟨xss,hx,rfl⟩:=List.mem_map.mp hu
  exact amx hn (k:=100) (by decide) (hl xss hx) (gu xss hx) (aiA hn hf h (hw xss hx))
noncomputable abbrev hIF:MS:=(sIf (mTst (mBin fEq (aah aaq [] (aab (mVar 1) (aab (mC (.int 2)) mNil))) (mC (.int 1)))) (sSet 4 (aaC ["_law_corners"] [(2,"_law_stretch_here")] (mIt (mVar 3)) (gN 0) (aah aaU [] (aab (aaC ["_law_corner"] [(1,"_law_stretch_here")] (mIt (mVar 0)) (gN 0) (aah abB [] (aab (mVar 0) (aab (mVar 1) mNil)))) mNil)))) (sSet 4 (aah adS [] (aab (mVar 1) (aab (mVar 3) (aab (mVar 2) mNil))))))
theorem ao7 (ns:List Int) {fs:List (Int × Int)} (hf:fs.length=2) (h:∀ u∈fs,Sp u) {hs:List (List (List Int))} (hw:∀ xss∈hs,Rw 2 xss) (h3:hs.length≤3) (x0 x4 x5 x6 x7 x8 x9 x10 x11 x12 x13:Option AV):∃ (gs:List (List (List Int))) (ns':List Int),hIF [x0,some (.ref 0),some (.pv (.lst (fs.map fv))),some (.pv (.lst (hs.map rawv))),x4,x5,x6,x7,x8,x9,x10,x11,x12,x13] [.lst (li ns)]=.nx [x0,some (.ref 0),some (.pv (.lst (fs.map fv))),some (.pv (.lst (hs.map rawv))),some (.pv (.lst (gs.map px))),x5,x6,x7,x8,x9,x10,x11,x12,x13] [.lst (li ns')]∧gs.length≤3∧∀ uss∈gs,Sx 2 201 uss:=by
 obtain ⟨t,n1,e1,t0,t1,_⟩:=abc (m:=2) (show Row [.lst (li ns)] 0 ns from rfl) (by decide) (sm8 (by decide) (by decide))
 simp only [List.set_cons_zero] at e1
 have e1:aaq [.ref 0,.pv (.int 2)] [.lst (li ns)]=.ok (.pv (.int t)) [.lst (li n1)]:=e1
 by_cases h1:t=1
 ·obtain ⟨a,b⟩:=aoG [.lst (li n1)] hf h hw [x0,some (.ref 0),some (.pv (.lst (fs.map fv))),some (.pv (.lst (hs.map rawv))),x4,x5,x6,x7,x8,x9,x10,x11,x12,x13] rfl rfl
  have lg:(hs.map fun xss=>cnr (xss.map (spU fs))).length≤3:=by rw [List.length_map]; exact h3
  generalize (hs.map fun xss=>cnr (xss.map (spU fs)))=gs at a b lg
  have b2:∀ uss∈gs,Sx 2 201 uss:=fun uss hu=>am7 (l:=201) (b uss hu) (by omega)
  refine ⟨gs,n1,?_,lg,b2⟩
  have q1:fEq (.int t) (.int 1)=some (.bl true):=by rw [h1]; rfl
  generalize gs.map px=GL at *
  generalize hs.map rawv=HL at *
  generalize fs.map fv=FL at *
  unfold hIF
  generalize (aaC ["_law_corners"] [(2,"_law_stretch_here")] (mIt (mVar 3)) (gN 0) (aah aaU [] (aab (aaC ["_law_corner"] [(1,"_law_stretch_here")] (mIt (mVar 0)) (gN 0) (aah abB [] (aab (mVar 0) (aab (mVar 1) mNil)))) mNil)))=HC1 at *
  simp [EC,fAbs,aal,aak,fNe,aam,aao,aap,aan,fAdd,aaj,frz,aau,e1,q1,a]
 ·obtain ⟨gs,n2,e2,l2,r2⟩:=am9 (.inl rfl) n1 hf h hw (by omega)
  refine ⟨gs,n2,?_,by omega,r2⟩
  have q1:fEq (.int t) (.int 1)=some (.bl false):=by
   unfold fEq
   rw [aaX]
   have:(t == 1)=false:=by simpa using h1
   rw [this]
   rfl
  generalize gs.map px=GL at *
  generalize hs.map rawv=HL at *
  generalize fs.map fv=FL at *
  unfold hIF
  generalize (aaC ["_law_corners"] [(2,"_law_stretch_here")] (mIt (mVar 3)) (gN 0) (aah aaU [] (aab (aaC ["_law_corner"] [(1,"_law_stretch_here")] (mIt (mVar 0)) (gN 0) (aah abB [] (aab (mVar 0) (aab (mVar 1) mNil)))) mNil)))=HC1 at *
  simp [EC,fAbs,aal,aak,fNe,aam,aao,aap,aan,fAdd,aaj,frz,aau,e1,q1,e2]
theorem r02 (S:Sto):rng1 [.pv (.int 2)] S=.ok ([.int 0,.int 1],[]) S:=by
 have rg:=rgn S (n:=2) (by decide)
 rw [show ((2:Nat):Int)=2 from rfl] at rg
 exact rg
theorem ahh (R0:SO) {uss:List (List Int)} (h:Sx 2 201 uss) {t0 t1 t2:Int} (b0:0≤t0∧t0 < 4) (b1:0≤t1∧t1 < 4) (b2:0≤t2∧t2 < 4) (hs:0 < [t0,t1,t2].sum):∃ r,abX [.pv (px uss),.pv (.lst [.int t0,.int t1,.int t2])] [R0]=.ok (.pv (tv r)) [R0]∧Gu 2 811 r:=by
 have o1:Bd 1 (1:Int):=by unfold Bd; decide
 have b3:∀ {t:Int},0≤t∧t < 4→Bd 2 t:=fun h=>by
  unfold Bd
  have:(2:Nat) ^ 2=4:=rfl
  omega
 have hl:=h.len
 have hg:=h.gu
 clear h
 match uss,hl,hg with
 | [A0,A1,A2],_,hg =>
  obtain ⟨x0,y0,w0,rfl,q0,a0,c0,d0⟩:=(hg A0 (by simp)).two'
  obtain ⟨x1,y1,w1,rfl,q1,a1,c1,d1⟩:=(hg A1 (by simp)).two'
  obtain ⟨x2,y2,w2,rfl,q2,a2,c2,d2⟩:=(hg A2 (by simp)).two'
  have pU:0 < 1*w0*w1*w2:=Int.mul_pos (Int.mul_pos (Int.mul_pos (by decide) q0) q1) q2
  have bU:Bd 604 (1*w0*w1*w2):=(((o1.mul d0).mul d1).mul d2).mono (by decide)
  have m1:=mk o1 d0 (by decide) (by decide)
  have m2:=mk (o1.mul d0) d1 (by decide) (by decide)
  have m3:=mk ((o1.mul d0).mul d1) d2 (by decide) (by decide)
  generalize hU:1*w0*w1*w2=U at *
  have f:∀ {w:Int},0 < w→Bd 201 w→adg (.int U) (.int w)=some (.int (U.fdiv w)):=fun hw bw=>acJ ⟨by omega,bw.mono (by decide)⟩
  have f0:=f q0 d0
  have f1:=f q1 d1
  have f2:=f q2 d2
  have e0:=ahs pU q0 bU
  have e1:=ahs pU q1 bU
  have e2:=ahs pU q2 bU
  generalize U.fdiv w0=V0 at *
  generalize U.fdiv w1=V1 at *
  generalize U.fdiv w2=V2 at *
  have bs:Bd 4 [t0,t1,t2].sum:=by
   unfold Bd
   have:(2:Nat) ^ 4=16:=rfl
   simp only [List.sum_cons,List.sum_nil]
   omega
  have mT:=mk bU bs (by decide) (by decide)
  have bT:Bd 811 (U*[t0,t1,t2].sum):=(bU.mul bs).mono (by decide)
  have pT:0 < U*[t0,t1,t2].sum:=Int.mul_pos pU hs
  have p2:∀ {t x v:Int},Bd 2 t→Bd 201 x→Bd 604 v→Bd 807 (t*x*v):=fun ht hx hv=>((ht.mul hx).mul hv).mono (by decide)
  have tb0:=b3 b0
  have tb1:=b3 b1
  have tb2:=b3 b2
  have sx:Bd 811 [t0*x0*V0,t1*x1*V1,t2*x2*V2].sum:=(aje (k:=807) _ (by
   simp
   exact ⟨p2 tb0 a0 e0,p2 tb1 a1 e1,p2 tb2 a2 e2⟩)).mono (by simp)
  have sy:Bd 811 [t0*y0*V0,t1*y1*V1,t2*y2*V2].sum:=(aje (k:=807) _ (by
   simp
   exact ⟨p2 tb0 c0 e0,p2 tb1 c1 e1,p2 tb2 c2 e2⟩)).mono (by simp)
  have bL:∀ x∈[[t0*x0*V0,t1*x1*V1,t2*x2*V2].sum,[t0*y0*V0,t1*y1*V1,t2*y2*V2].sum],Bd 811 x:=by
   intro x hx
   have hx:x=[t0*x0*V0,t1*x1*V1,t2*x2*V2].sum∨x=[t0*y0*V0,t1*y1*V1,t2*y2*V2].sum:=by
    rcases List.mem_cons.mp hx with z | z
    ·exact .inl z
    ·rcases List.mem_cons.mp z with z | z
     ·exact .inr z
     ·cases z
   rcases hx with rfl | rfl
   ·exact sx
   ·exact sy
  obtain ⟨zs,z,el,Z,_⟩:=agF (n:=2) (k:=811) pT rfl bL bT
  refine ⟨zs++[z],?_,⟨zs,z,rfl,Z⟩⟩
  have ew:=ab7 ([[t0*x0*V0,t1*x1*V1,t2*x2*V2].sum,[t0*y0*V0,t1*y1*V1,t2*y2*V2].sum]++[U*[t0,t1,t2].sum]) [R0,.lst [.int [t0*x0*V0,t1*x1*V1,t2*x2*V2].sum,.int [t0*y0*V0,t1*y1*V1,t2*y2*V2].sum]] (by
   intro x hx
   rcases List.mem_append.mp hx with y | y
   ·exact (bL x y).mono (by decide)
   ·have:x=U*[t0,t1,t2].sum:=by
     rcases List.mem_cons.mp y with z | z
     ·exact z
     ·cases z
    rw [this]; exact bT.mono (by decide))
  rw [el] at ew
  have ew:aaF [.pv (.lst [.int [t0*x0*V0,t1*x1*V1,t2*x2*V2].sum,.int [t0*y0*V0,t1*y1*V1,t2*y2*V2].sum,.int (U*[t0,t1,t2].sum)])] [R0,.lst [.int [t0*x0*V0,t1*x1*V1,t2*x2*V2].sum,.int [t0*y0*V0,t1*y1*V1,t2*y2*V2].sum]]=.ok (.pv (tv (zs++[z]))) [R0,.lst [.int [t0*x0*V0,t1*x1*V1,t2*x2*V2].sum,.int [t0*y0*V0,t1*y1*V1,t2*y2*V2].sum]]:=ew
  have mm:∀ {t x v:Int},Bd 2 t→Bd 201 x→Bd 604 v→fMul (.int t) (.int x)=some (.int (t*x))∧fMul (.int (t*x)) (.int v)=some (.int (t*x*v)):=fun ht hx hv=>⟨mk ht hx (by decide) (by decide),mk (ht.mul hx) hv (by decide) (by decide)⟩
  obtain ⟨g0,h0⟩:=mm tb0 a0 e0
  obtain ⟨g1,h1⟩:=mm tb1 a1 e1
  obtain ⟨g2,h2⟩:=mm tb2 a2 e2
  obtain ⟨k0,j0⟩:=mm tb0 c0 e0
  obtain ⟨k1,j1⟩:=mm tb1 c1 e1
  obtain ⟨k2,j2⟩:=mm tb2 c2 e2
  have s1:fSum [.lst [.int (t0*x0*V0),.int (t1*x1*V1),.int (t2*x2*V2)]]=some (.int [t0*x0*V0,t1*x1*V1,t2*x2*V2].sum):=rfl
  have s2:fSum [.lst [.int (t0*y0*V0),.int (t1*y1*V1),.int (t2*y2*V2)]]=some (.int [t0*y0*V0,t1*y1*V1,t2*y2*V2].sum):=rfl
  have s3:fSum [.lst [.int t0,.int t1,.int t2]]=some (.int [t0,t1,t2].sum):=rfl
  have rg:=r02 [R0,.lst []]
  clear sx sy bL bT pT el Z bs tb0 tb1 tb2 p2 f mm e0 e1 e2 bU hs hg
  generalize U*[t0,t1,t2].sum=UT at *
  generalize [t0*x0*V0,t1*x1*V1,t2*x2*V2].sum=SX at *
  generalize [t0*y0*V0,t1*y1*V1,t2*y2*V2].sum=SY at *
  generalize [t0,t1,t2].sum=ST at *
  generalize t0*x0*V0=P0 at *
  generalize t1*x1*V1=P1 at *
  generalize t2*x2*V2=P2 at *
  generalize t0*y0*V0=Y0 at *
  generalize t1*y1*V1=Y1 at *
  generalize t2*y2*V2=Y2 at *
  generalize t0*x0=E0' at *
  generalize t1*x1=E1' at *
  generalize t2*x2=E2' at *
  generalize t0*y0=F0' at *
  generalize t1*y1=F1' at *
  generalize t2*y2=F2' at *
  generalize tv (zs++[z])=TZ at *
  generalize 1*w0*w1=W01 at *
  generalize 1*w0=W00 at *
  unfold abX fnM adU
  simp only [px,tv,List.map_cons,List.map_nil]
  simp [EC,fAbs,aal,aak,fIx,atI,ixN,fEq,fNe,eqN,aam,aao,aap,aan,fAdd,aaj,frz,aau,sFor,mIt,aa6,aaM,abf,gN,m1,m2,m3,mNew,afo,aaE,rg,aaC,cmpR,mZip,afs,zipP,aav,aay,gT,aa2,acA,f0,f1,f2,g0,g1,g2,h0,h1,h2,k0,k1,k2,j0,j1,j2,s1,s2,s3,mApp,acZ,aeV,mT,ew]
noncomputable abbrev pIF:MS:=(sIf (mAnd (mTst (mBin fGt (mR fLen (aab (mVar 4) mNil)) (mC (.int 0)))) (mTst (mBin fLt (aah aaq [] (aab (mVar 1) (aab (mC (.int 4)) mNil))) (mC (.int 3))))) (sSeq (sSet 7 (mBin fIx (mVar 4) (aah aaq [] (aab (mVar 1) (aab (mR fLen (aab (mVar 4) mNil)) mNil)))))
 (sSeq (sSet 8 (aaC ["_law_k"] [(1,"_law_row_here")] (aaE (aab (mC (.int 3)) mNil)) (gN 0) (aah aaq [] (aab (mVar 1) (aab (mC (.int 4)) mNil)))))
 (sIf (mTst (mBin fGt (mR fSum (aab (mVar 8) mNil)) (mC (.int 0)))) (sSet 6 (aah abX [] (aab (mVar 7) (aab (mVar 8) mNil)))) sNil))) sNil)
theorem amq (ns:List Int) {gs:List (List (List Int))} (hg:∀ uss∈gs,Sx 2 201 uss) (g3:gs.length≤3) {p0:List Int} (gp:Gu 2 100 p0) (x0 x2 x3 x5 x7 x8 x9 x10 x11 x12 x13:Option AV):∃ (p ns':List Int) (y7 y8:Option AV),pIF [x0,some (.ref 0),x2,x3,some (.pv (.lst (gs.map px))),x5,some (.pv (tv p0)),x7,x8,x9,x10,x11,x12,x13] [.lst (li ns)]=.nx [x0,some (.ref 0),x2,x3,some (.pv (.lst (gs.map px))),x5,some (.pv (tv p)),y7,y8,x9,x10,x11,x12,x13] [.lst (li ns')]∧Gu 2 811 p:=by
 have lg:((gs.map px).length:Int)=(gs.length:Int):=by rw [List.length_map]
 by_cases h0:gs.length=0
 ·refine ⟨p0,ns,x7,x8,?_,gp.mono (by decide)⟩
  rw [h0] at lg
  generalize gs.map px=GL at *
  generalize tv p0=T at *
  unfold pIF
  simp [EC,fAbs,aal,aak,fIx,atI,ixN,fEq,fNe,eqN,aam,aao,aap,aan,fAdd,aaj,frz,aau,lg]
 ·have hlt:decide (0 < (gs.length:Int))=true:=by rw [decide_eq_true_eq]; omega
  obtain ⟨t,n1,e1,t0,t1,_⟩:=abc (m:=4) (show Row [.lst (li ns)] 0 ns from rfl) (by decide) (sm8 (by decide) (by decide))
  simp only [List.set_cons_zero] at e1
  have e1:aaq [.ref 0,.pv (.int 4)] [.lst (li ns)]=.ok (.pv (.int t)) [.lst (li n1)]:=e1
  by_cases ht:t < 3
  ·obtain ⟨s,n2,e2,s0,s1,_⟩:=abc (m:=(gs.length:Int)) (show Row [.lst (li n1)] 0 n1 from rfl) (by omega) (sm8 (by omega) (by omega))
   simp only [List.set_cons_zero] at e2
   have e2:aaq [.ref 0,.pv (.int (gs.length:Int))] [.lst (li n1)]=.ok (.pv (.int s)) [.lst (li n2)]:=e2
   obtain ⟨v,hv,i1,_⟩:=amD (L:=gs.map px) s0 (by rw [List.length_map]; exact s1)
   obtain ⟨uss,hu,rfl⟩:=List.mem_map.mp hv
   have tk:∀ ms,∃ (t:Int) (ms':List Int),aaq [.ref 0,.pv (.int 4)] [.lst (li ms)]=.ok (.pv (.int t)) [.lst (li ms')]∧0≤t∧t < 4:=fun ms=>by
    obtain ⟨t,n1,e1,t0,t1,_⟩:=abc (m:=4) (show Row [.lst (li ms)] 0 ms from rfl) (by decide) (sm8 (by decide) (by decide))
    simp only [List.set_cons_zero] at e1
    exact ⟨t,n1,e1,t0,t1⟩
   obtain ⟨k0,n3,e3,b3⟩:=tk n2
   obtain ⟨k1,n4,e4,b4⟩:=tk n3
   obtain ⟨k2,n5,e5,b5⟩:=tk n4
   have rg:=r03 [.lst (li n2)]
   have s3:fSum [.lst [.int k0,.int k1,.int k2]]=some (.int [k0,k1,k2].sum):=rfl
   by_cases hs:0 < [k0,k1,k2].sum
   ·obtain ⟨r,e6,G6⟩:=ahh (.lst (li n5)) (hg uss hu) b3 b4 b5 hs
    refine ⟨r,n5,some (.pv (px uss)),some (.pv (.lst [.int k0,.int k1,.int k2])),?_,G6⟩
    have hd:decide (0 < [k0,k1,k2].sum)=true:=decide_eq_true hs
    generalize [k0,k1,k2].sum=SM at *
    generalize px uss=PU at *
    generalize gs.map px=GL at *
    generalize tv p0=T at *
    generalize tv r=T2 at *
    generalize (gs.length:Int)=LG at *
    unfold pIF
    simp [EC,fAbs,aal,aak,fNe,aam,aao,aap,aan,fAdd,aaj,frz,aau,lg,hlt,e1,ht,e2,i1,aaC,cmpR,aaE,rg,aav,aay,gN,e3,e4,e5,s3,hd,e6]
   ·refine ⟨p0,n5,some (.pv (px uss)),some (.pv (.lst [.int k0,.int k1,.int k2])),?_,gp.mono (by decide)⟩
    have hd:decide (0 < [k0,k1,k2].sum)=false:=decide_eq_false hs
    generalize [k0,k1,k2].sum=SM at *
    generalize px uss=PU at *
    generalize gs.map px=GL at *
    generalize tv p0=T at *
    generalize (gs.length:Int)=LG at *
    unfold pIF
    simp [EC,fAbs,aal,aak,fNe,aam,aao,aap,aan,fAdd,aaj,frz,aau,lg,hlt,e1,ht,e2,i1,aaC,cmpR,aaE,rg,aav,aay,gN,e3,e4,e5,s3,hd]
  ·refine ⟨p0,n1,x7,x8,?_,gp.mono (by decide)⟩
   generalize gs.map px=GL at *
   generalize tv p0=T at *
   generalize (gs.length:Int)=LG at *
   unfold pIF
   simp [EC,fAbs,aal,aak,fNe,aam,aao,aap,aan,fAdd,aaj,frz,aau,lg,hlt,e1,ht]
noncomputable abbrev shB:MS:=(sSeq (sSet 9 (aah abD [] (aab (mBin fSub (aah aaq [] (aab (mVar 1) (aab (mC (.int 7)) mNil))) (mC (.int 1))) (aab (mC (.int 4)) mNil)))) (sIf (mTst (mBin fEq (aah aaq [] (aab (mVar 1) (aab (mC (.int 2)) mNil))) (mC (.int 1)))) (sSet 9 (aah abD [] (aab (mBin fAdd (mC (.int 1)) (aah aaq [] (aab (mVar 1) (aab (mC (.int 6)) mNil)))) (aab (mBin fAdd (mC (.int 7)) (aah aaq [] (aab (mVar 1) (aab (mBin fPow (mC (.int 10)) (mC (.int 6))) mNil)))) mNil)))) sNil))
theorem ana (ns:List Int) (x0 x2 x3 x4 x5 x6 x7 x8 x10 x11 x12 x13:Option AV):∃ (u v:Int) (ns':List Int),shB [x0,some (.ref 0),x2,x3,x4,x5,x6,x7,x8,none,x10,x11,x12,x13] [.lst (li ns)]=.nx [x0,some (.ref 0),x2,x3,x4,x5,x6,x7,x8,some (.pv (.tup [.int u,.int v])),x10,x11,x12,x13] [.lst (li ns')]∧0 < v∧Bd 22 u∧Bd 22 v:=by
 obtain ⟨t,n1,e1,t0,t1,_⟩:=abc (m:=7) (show Row [.lst (li ns)] 0 ns from rfl) (by decide) (sm8 (by decide) (by decide))
 simp only [List.set_cons_zero] at e1
 have e1:aaq [.ref 0,.pv (.int 7)] [.lst (li ns)]=.ok (.pv (.int t)) [.lst (li n1)]:=e1
 have b1:Bd 22 (t - 1):=Bd.of (n:=7) (by omega) (by decide)
 have b4:Bd 22 (4:Int):=Bd.of (n:=4) (by decide) (by decide)
 have e2:=ahw (t - 1) 4 [.lst (li n1)] (b1.mono (by decide)) (b4.mono (by decide))
 obtain ⟨u,v,ef,hv,_⟩:=anu (t:=t - 1) (show (4:Int)≠0 by decide)
 obtain ⟨bu,bv⟩:=amY b1 b4 ef
 rw [ef] at e2
 simp only [List.map_cons,List.map_nil] at e2
 obtain ⟨s,n2,e3,s0,s1,_⟩:=abc (m:=2) (show Row [.lst (li n1)] 0 n1 from rfl) (by decide) (sm8 (by decide) (by decide))
 simp only [List.set_cons_zero] at e3
 have e3:aaq [.ref 0,.pv (.int 2)] [.lst (li n1)]=.ok (.pv (.int s)) [.lst (li n2)]:=e3
 by_cases hs:s=1
 ·obtain ⟨a,n3,e4,a0,a1,_⟩:=abc (m:=6) (show Row [.lst (li n2)] 0 n2 from rfl) (by decide) (sm8 (by decide) (by decide))
  simp only [List.set_cons_zero] at e4
  have e4:aaq [.ref 0,.pv (.int 6)] [.lst (li n2)]=.ok (.pv (.int a)) [.lst (li n3)]:=e4
  obtain ⟨b,n4,e5,b0,bb1,_⟩:=abc (m:=1000000) (show Row [.lst (li n3)] 0 n3 from rfl) (by decide) ((Bd.of (k:=22) (n:=1000000) (by decide) (by decide)).mono (by decide))
  simp only [List.set_cons_zero] at e5
  have e5:aaq [.ref 0,.pv (.int 1000000)] [.lst (li n3)]=.ok (.pv (.int b)) [.lst (li n4)]:=e5
  have c1:Bd 22 (1+a):=Bd.of (n:=7) (by omega) (by decide)
  have c2:Bd 22 (7+b):=Bd.of (n:=1000007) (by omega) (by decide)
  have e6:=ahw (1+a) (7+b) [.lst (li n4)] (c1.mono (by decide)) (c2.mono (by decide))
  obtain ⟨u2,v2,ef2,hv2,_⟩:=anu (t:=1+a) (show 7+b≠0 by omega)
  obtain ⟨bu2,bv2⟩:=amY c1 c2 ef2
  rw [ef2] at e6
  simp only [List.map_cons,List.map_nil] at e6
  refine ⟨u2,v2,n4,?_,hv2,bu2,bv2⟩
  have q1:fEq (.int s) (.int 1)=some (.bl true):=by rw [hs]; rfl
  unfold shB
  simp [EC,fAbs,aal,aak,fNe,aam,aao,aap,aan,fAdd,aaj,frz,aau,e1,e2,e3,q1,e4,p6,e5,e6]
 ·refine ⟨u,v,n2,?_,hv,bu,bv⟩
  have q1:fEq (.int s) (.int 1)=some (.bl false):=by
   unfold fEq
   rw [aaX]
   have:(s == 1)=false:=by simpa using hs
   rw [this]
   rfl
  unfold shB
  simp [EC,fAbs,aal,aak,fNe,aam,aao,aap,aan,fAdd,aaj,frz,aau,e1,e2,e3,q1]
theorem agi {hs:List (List (List Int))} {p:List Int} (h:¬ cnt hs p < 0):(∀ uss∈hs,stn uss p≠0)∧cnt hs p=((hs.map fun uss=>stn uss p).count 1:Nat):=by
 have key:∀ uss∈hs,stn uss p≠0:=fun uss hu z=>h (by
  unfold cnt
  rw [any0.1 ⟨uss,hu,z⟩,if_pos rfl]
  decide)
 refine ⟨key,?_⟩
 unfold cnt
 rw [any0.2 key]
 rfl
noncomputable abbrev tIF:MS:=(sIf (mTst (mBin fEq (mBin fIx (mVar 5) (mC (.int 2))) (mC (.int 0)))) (sSet 5 (mN fTup (aab (mBin fIx (mVar 5) (mC (.int 0))) (aab (mBin fIx (mVar 5) (mC (.int 1))) (aab (mBin fIx (mVar 5) (mC (.int 3))) (aab (mBin fIx (mVar 5) (mC (.int 3))) mNil)))))) sNil)
theorem apb (S:Sto) {top:List Int} (g:Gu 3 100 top) (x0 x2 x3 x4 x6 x7 x8 x9 x10 x11 x12 x13:Option AV):∃ a b c e,tIF [x0,some (.ref 0),x2,x3,x4,some (.pv (tv top)),x6,x7,x8,x9,x10,x11,x12,x13] S=.nx [x0,some (.ref 0),x2,x3,x4,some (.pv (tv [a,b,c,e])),x6,x7,x8,x9,x10,x11,x12,x13] S∧0 < e∧c≠0∧Bd 100 a∧Bd 100 b∧Bd 100 c∧Bd 100 e:=by
 obtain ⟨a,b,c,e,rfl,he,ba,bb,bc,be⟩:=g.three'
 have i0:fIx (tv [a,b,c,e]) (.int 0)=some (.int a):=rfl
 have i1:fIx (tv [a,b,c,e]) (.int 1)=some (.int b):=rfl
 have i2:fIx (tv [a,b,c,e]) (.int 2)=some (.int c):=rfl
 have i3:fIx (tv [a,b,c,e]) (.int 3)=some (.int e):=rfl
 by_cases hc:c=0
 ·subst hc
  refine ⟨a,b,e,e,?_,he,by omega,ba,bb,be,be⟩
  have q0:fEq (.int 0) (.int 0)=some (.bl true):=rfl
  have et:tv [a,b,e,e]=.tup [.int a,.int b,.int e,.int e]:=rfl
  rw [et]
  generalize tv [a,b,0,e]=T1 at *
  unfold tIF
  simp [EC,fAbs,aal,aak,fNe,aam,aao,aap,aan,fAdd,aaj,frz,aau,i0,i1,i2,i3,q0]
 ·refine ⟨a,b,c,e,?_,he,hc,ba,bb,bc,be⟩
  have q0:fEq (.int c) (.int 0)=some (.bl false):=by
   unfold fEq
   rw [aaX]
   have:(c == 0)=false:=by simpa using hc
   rw [this]
   rfl
  generalize tv [a,b,c,e]=T1 at *
  unfold tIF
  simp [EC,fAbs,aal,aak,fNe,aam,aao,aap,aan,fAdd,aaj,frz,aau,i2,q0]
theorem aoV {k:Nat} (hk:k≤8000) {a b c e:Int} (he:0 < e) (ba:Bd k a) (bb:Bd k b) (bc:Bd k c) (be:Bd k e):∃ A B C E,Gu 3 k [A,B,C,E]∧0 < E∧A*e=a*E∧B*e=b*E∧C*e=c*E∧(∀ S,aaF [.pv (.tup [.int a,.int b,.int c,.int e])] S=.ok (.pv (tv [A,B,C,E])) S)∧∀ S,aaF [.pv (.lst [.int a,.int b,.int c,.int e])] S=.ok (.pv (tv [A,B,C,E])) S:=by
 have bL:∀ x∈[a,b,c],Bd k x:=by
  simp
  exact ⟨ba,bb,bc⟩
 obtain ⟨zs,z,el,Z,rel⟩:=agF (n:=3) (k:=k) (L:=[a,b,c]) (b:=e) he rfl bL be
 have bA:∀ x∈[a,b,c]++[e],Bd 8000 x:=by
  intro x hx
  rcases List.mem_append.mp hx with y | y
  ·exact (bL x y).mono hk
  ·have:x=e:=by simpa using y
   rw [this]; exact be.mono hk
 match zs,Z.len,el,Z,rel with
 | [A,B,C],_,el,Z,rel =>
  refine ⟨A,B,C,z,⟨[A,B,C],z,rfl,Z⟩,Z.pos,rel 0 (by decide),rel 1 (by decide),rel 2 (by decide),fun S=>?_,fun S=>?_⟩
  ·have ew:=aiI ([a,b,c]++[e]) S bA
   rw [el] at ew
   exact ew
  ·have ew:=ab7 ([a,b,c]++[e]) S bA
   rw [el] at ew
   exact ew
theorem ahS {k l:Nat} (hk:k+l+1≤1000) {a b c e:Int} (g:Gu 3 l [a,b,c,e]) (hc:c≠0) (he:0 < e) {x y w u v:Int} (hw:0 < w) (hv:0 < v) {p q r z:Int} (gq:Gu 3 1000 [p,q,r,z]) (R:Rr p q r z (v*e*x+w*u*a) (v*e*y+w*u*b) (v*e*0+w*u*c) (v*e*w)):∀ gs:List (List (List Int)),(∀ uss∈gs,Sx 2 k uss)→(∀ t∈gs.flatMap (prX [a,b,c,e]),stn t [p,q,r,z]≠0)→((gs.flatMap (prX [a,b,c,e])).map fun t=>stn t [p,q,r,z]).count 1=if 0 < u∧u < v then (gs.map fun uss=>stn uss [x,y,w]).count 1 else 0
 | [],_,_=>by
  rw [List.flatMap_nil,List.map_nil,List.map_nil,List.count_nil,ite_self]
 | uss :: gs,h,h0=>by
  rw [List.flatMap_cons] at h0 ⊢
  have e1:=alv hk (h uss List.mem_cons_self) g hc he hw hv gq R fun t ht=>h0 t (List.mem_append.mpr (.inl ht))
  have e2:=ahS hk g hc he hw hv gq R gs (fun y hy=>h y (List.mem_cons_of_mem _ hy)) fun t ht=>h0 t (List.mem_append.mpr (.inr ht))
  rw [List.map_append,List.count_append,e1,e2,List.map_cons,List.count_cons]
  clear e1 e2 h0
  by_cases c1:0 < u∧u < v
  ·rw [if_pos c1,if_pos c1]
   by_cases c2:stn uss [x,y,w]=1
   ·rw [if_pos ⟨c2,c1⟩,c2]
    simp only [beq_self_eq_true,if_true]
    omega
   ·rw [if_neg fun z=>c2 z.1,if_neg (by simpa using c2)]
    omega
  ·rw [if_neg c1,if_neg c1,if_neg fun z=>c1 z.2]
noncomputable abbrev ahA:MS:=(sSeq (sSet 10 (aah ab5 [] (aab (mVar 4) (aab (mVar 6) mNil))))
 (sSeq (sSet 11 (mBin fAdd (aaC ["_law_number"] [(9,"_law_share")] (mIt (mSl (mVar 5) mO0 (mO1 (mC (.int 3))))) (gN 0) (mBin fMul (mBin fIx (mVar 1) (mC (.int 0))) (mVar 0))) (mN fLst (aab (mBin fMul (mBin fIx (mVar 9) (mC (.int 1))) (mBin fIx (mVar 5) (mC (.int 3)))) mNil))))
 (sSeq (sSet 11 (aah abh [] (aab (aah ab3 [] (aab (mVar 6) mNil)) (aab (aah aaF [] (aab (mVar 11) mNil)) (aab (mC (.int 1)) mNil)))))
 (sSeq (sSet 12 (abj adr [] (aab (mR aal (aab (mVar 4) mNil)) (aab (aah aaF [] (aab (mVar 5) mNil)) mNil))))
 (sSeq (sSet 13 (aah ab5 [] (aab (mVar 12) (aab (mVar 11) mNil))))
 (sSeq (sIf (mOr (mTst (mBin fLt (mVar 10) (mC (.int 0)))) (mOr (mTst (mBin fLt (mVar 13) (mC (.int 0)))) (mOr (mTst (mBin fEq (mBin fIx (mVar 9) (mC (.int 0))) (mC (.int 0)))) (mTst (mBin fEq (mBin fIx (mVar 9) (mC (.int 0))) (mBin fIx (mVar 9) (mC (.int 1)))))))) (sRet (mC (.bl true))) sNil)
 (sSeq (sIf (mOr (mTst (mBin fLt (mBin fIx (mVar 9) (mC (.int 0))) (mC (.int 0)))) (mTst (mBin fGt (mBin fIx (mVar 9) (mC (.int 0))) (mBin fIx (mVar 9) (mC (.int 1)))))) (sSet 10 (mC (.int 0))) sNil)
 (sRet (abK (mBin fEq (mVar 13) (mVar 10)) (mBin fEq (abj abN [] (aab (mVar 12) (aab (mVar 11) mNil))) (mVar 10)))))))))))
theorem apk (ns:List Int) {gs:List (List (List Int))} (g9:gs.length≤9) (hg:∀ uss∈gs,Sx 2 201 uss) {x y w a b c e u v:Int} (gp:Gu 2 811 [x,y,w]) (he:0 < e) (hc:c≠0) (ba:Bd 100 a) (bb:Bd 100 b) (bc:Bd 100 c) (be:Bd 100 e) (hv:0 < v) (bu:Bd 22 u) (bv:Bd 22 v) (x0 x2 x3 x7 x8:Option AV):∃ S,aaR 0 (ahA [x0,some (.ref 0),x2,x3,some (.pv (.lst (gs.map px))),some (.pv (tv [a,b,c,e])),some (.pv (tv [x,y,w])),x7,x8,some (.pv (.tup [.int u,.int v])),none,none,none,none] [.lst (li ns)])=.ok (.pv (.bl true)) S:=by
 have hw:0 < w:=by
  obtain ⟨_,_,_,e1,hw,_⟩:=gp.two'
  cases e1
  exact hw
 have gp1:Gu 2 1000 [x,y,w]:=gp.mono (by omega)
 have e1:=agK (.inl rfl) (show 201≤1000 by omega) gp1 [.lst (li ns)] (A:=.lst (gs.map px)) (.inl rfl) hg
 have e2:=(aeL [.lst (li ns)] gp).2
 obtain ⟨fa,fb,fc,fe,gf,hfe,ra0,ra1,ra2,eF,_⟩:=aoV (show 100≤8000 by omega) he ba bb bc be
 obtain ⟨sa,sb,sc,se,gs',hse,rs0,rs1,rs2,_,eS⟩:=aoV (k:=122) (show 122≤8000 by omega) (Int.mul_pos hv he) ((bu.mul ba).mono (by decide)) ((bu.mul bb).mono (by decide)) ((bu.mul bc).mono (by decide)) ((bv.mul be).mono (by decide))
 have hfc:fc≠0:=by
  intro z
  rw [z,Int.zero_mul] at ra2
  rcases Int.mul_eq_zero.mp ra2.symm with y | y
  ·exact hc y
  ·omega
 obtain ⟨p,q,r,z,eh,hz,h0,h1,h2⟩:=ahm gp gs'
 have e3:=akA (way:=1) [.lst (li ns)] (.inr rfl) (.inl rfl) (aeC gp) gs' (show 811≤1000 by omega) (show 122≤1000 by omega)
 have eh2:mvU 1 [sa,sb,sc,se] (ra [x,y,w])=[p,q,r,z]:=eh
 rw [eh2] at e3
 have GT:Gu 3 1000 [p,q,r,z]:=by
  have G:=(acO (way:=1) (.inl rfl) (aeC gp) gs').1
  rw [eh2] at G
  exact G.mono (by omega)
 have can:∀ {t X A s F:Int},A*(v*e)=u*s*se→F*e=s*fe→t*(se*w)=(se*X+A*w)*z→w*v*fe*t=z*(v*fe*X+w*u*F):=fun {t X A s F} a1 a2 a3=>by
  refine Int.eq_of_mul_eq_mul_right (a:=se*e) (by have:=Int.mul_pos hse he; omega) ?_
  clear eS eF e1 e2 e3 gp gp1 hg ra0 ra1 ra2 rs0 rs1 rs2 h0 h1 h2
  grind
 have R:Rr p q r z (v*fe*x+w*u*fa) (v*fe*y+w*u*fb) (v*fe*0+w*u*fc) (v*fe*w):=⟨w*v*fe,z,Int.mul_pos (Int.mul_pos hw hv) hfe,hz,can rs0 ra0 h0,can rs1 ra1 h1,can rs2 ra2 h2,by
  clear can
  grind⟩
 have s0:fIx (.tup [.int u,.int v]) (.int 0)=some (.int u):=rfl
 have s1:fIx (.tup [.int u,.int v]) (.int 1)=some (.int v):=rfl
 have i3:fIx (.tup [.int a,.int b,.int c,.int e]) (.int 3)=some (.int e):=rfl
 have i4:fSl (.tup [.int a,.int b,.int c,.int e]) none (some 3)=some (.tup [.int a,.int b,.int c]):=rfl
 have m0:=mk bu ba (by decide) (by decide)
 have m1:=mk bu bb (by decide) (by decide)
 have m2:=mk bu bc (by decide) (by decide)
 have m3:=mk bv be (by decide) (by decide)
 have Sm:∀ uss∈gs.flatMap (prX [fa,fb,fc,fe]),Sx 3 1000 uss:=fun uss hu=>by
  obtain ⟨t,ht,hu⟩:=List.mem_flatMap.mp hu
  exact aoc (show 201+100+1≤1000 by omega) (hg t ht) gf hfc uss hu
 have fc1:=ahS (show 201+100+1≤1000 by omega) gf hfc hfe hw hv GT R gs hg
 have e5:adr [.pv (.tup (gs.map px)),.pv (tv [fa,fb,fc,fe])] [.lst (li ns)]=.ok (.pv (.tup ((gs.flatMap (prX [fa,fb,fc,fe])).map px))) [.lst (li ns)]:=alN ns (show 201+100+1≤1000 by omega) g9 (.inr rfl) hg gf hfc
 have e6:=agK (.inr rfl) (Nat.le_refl 1000) GT [.lst (li ns)] (A:=.tup ((gs.flatMap (prX [fa,fb,fc,fe])).map px)) (.inr rfl) Sm
 have e7:¬ cnt (gs.flatMap (prX [fa,fb,fc,fe])) [p,q,r,z] < 0→abN [.pv (.tup ((gs.flatMap (prX [fa,fb,fc,fe])).map px)),.pv (tv [p,q,r,z])] [.lst (li ns)]=.ok (.pv (.int (cnt (gs.flatMap (prX [fa,fb,fc,fe])) [p,q,r,z]))) [.lst (li ns)]:=fun hn=>by
  obtain ⟨k1,k2⟩:=agi hn
  rw [k2]
  rcases akW (.inr rfl) (Nat.le_refl 1000) GT [.lst (li ns)] (A:=.tup ((gs.flatMap (prX [fa,fb,fc,fe])).map px)) (.inr rfl) Sm with ⟨⟨t,ht,z0⟩,_⟩ | ⟨_,k3⟩
  ·exact absurd z0 (k1 t ht)
  ·exact k3
 have rel:¬ cnt gs [x,y,w] < 0→¬ cnt (gs.flatMap (prX [fa,fb,fc,fe])) [p,q,r,z] < 0→u≠0→u≠v→cnt (gs.flatMap (prX [fa,fb,fc,fe])) [p,q,r,z]=if u < 0∨v < u then 0 else cnt gs [x,y,w]:=fun n1 n2 u0 uv=>by
  rw [(agi n2).2,fc1 (agi n2).1]
  by_cases c1:u < 0∨v < u
  ·rw [if_pos c1,if_neg (by omega)]
   rfl
  ·rw [if_neg c1,if_pos (by omega),(agi n1).2]
 refine ⟨[],?_⟩
 have fT:aal [.lst (gs.map px)]=some (.tup (gs.map px)):=rfl
 have ET:tv [a,b,c,e]=.tup [.int a,.int b,.int c,.int e]:=rfl
 have hbF:ahA=(sSeq (sSet 10 (aah ab5 [] (aab (mVar 4) (aab (mVar 6) mNil))))
 (sSeq (sSet 11 (mBin fAdd (aaC ["_law_number"] [(9,"_law_share")] (mIt (mSl (mVar 5) mO0 (mO1 (mC (.int 3))))) (gN 0) (mBin fMul (mBin fIx (mVar 1) (mC (.int 0))) (mVar 0))) (mN fLst (aab (mBin fMul (mBin fIx (mVar 9) (mC (.int 1))) (mBin fIx (mVar 5) (mC (.int 3)))) mNil))))
 (sSeq (sSet 11 (aah abh [] (aab (aah ab3 [] (aab (mVar 6) mNil)) (aab (aah aaF [] (aab (mVar 11) mNil)) (aab (mC (.int 1)) mNil)))))
 (sSeq (sSet 12 (abj adr [] (aab (mR aal (aab (mVar 4) mNil)) (aab (aah aaF [] (aab (mVar 5) mNil)) mNil))))
 (sSeq (sSet 13 (aah ab5 [] (aab (mVar 12) (aab (mVar 11) mNil))))
 (sSeq (sIf (mOr (mTst (mBin fLt (mVar 10) (mC (.int 0)))) (mOr (mTst (mBin fLt (mVar 13) (mC (.int 0)))) (mOr (mTst (mBin fEq (mBin fIx (mVar 9) (mC (.int 0))) (mC (.int 0)))) (mTst (mBin fEq (mBin fIx (mVar 9) (mC (.int 0))) (mBin fIx (mVar 9) (mC (.int 1)))))))) (sRet (mC (.bl true))) sNil)
 (sSeq (sIf (mOr (mTst (mBin fLt (mBin fIx (mVar 9) (mC (.int 0))) (mC (.int 0)))) (mTst (mBin fGt (mBin fIx (mVar 9) (mC (.int 0))) (mBin fIx (mVar 9) (mC (.int 1)))))) (sSet 10 (mC (.int 0))) sNil)
 (sRet (abK (mBin fEq (mVar 13) (mVar 10)) (mBin fEq (abj abN [] (aab (mVar 12) (aab (mVar 11) mNil))) (mVar 10))))))))))):=rfl
 have fA:fAdd (.lst [.int (u*a),.int (u*b),.int (u*c)]) (.lst [.int (v*e)])=some (.lst [.int (u*a),.int (u*b),.int (u*c),.int (v*e)]):=amo _ _ (by simp)
 rw [hbF,ET]
 clear fc1 Sm R can GT h0 h1 h2 hz eh eh2 hfc rs0 rs1 rs2 hse gs' ra0 ra1 ra2 hfe gf gp1 hw hg gp he hc ba bb bc be bu bv g9 ET hbF
 have eF:=eF [.lst (li ns)]
 have eS:=eS [.lst (li ns)]
 generalize cnt gs [x,y,w]=CD at *
 generalize cnt (gs.flatMap (prX [fa,fb,fc,fe])) [p,q,r,z]=CS at *
 generalize (gs.flatMap (prX [fa,fb,fc,fe])).map px=ML at *
 generalize gs.map px=GL at *
 generalize tv [p,q,r,z]=TT at *
 generalize tv [fa,fb,fc,fe]=TA at *
 generalize tv [sa,sb,sc,se]=TS at *
 generalize tv (ra [x,y,w])=TR at *
 generalize tv [x,y,w]=TP at *
 generalize u*a=UA at *
 generalize u*b=UB at *
 generalize u*c=UC at *
 generalize v*e=VE at *
 have el:aaR 0 (ahA [x0,some (.ref 0),x2,x3,some (.pv (.lst (gs.map px))),some (.pv (tv [a,b,c,e])),some (.pv (tv [x,y,w])),x7,x8,some (.pv (.tup [.int u,.int v])),none,none,none,none] [.lst (li ns)])=aaR 0 (ahA [x0,some (.ref 0),x2,x3,some (.pv (.lst (gs.map px))),some (.pv (tv [a,b,c,e])),some (.pv (tv [x,y,w])),x7,x8,some (.pv (.tup [.int u,.int v])),none,none,none,none] [.lst (li ns)]):=rfl
 by_cases n1:CD < 0
 ·simp [EC,fAbs,aak,fEq,fNe,aaX,aam,aao,aap,aan,aaj,frz,aau,e1,e2,s0,s1,i3,i4,m0,m1,m2,m3,aaC,cmpR,mIt,aa6,mSl,mO0,mO1,abk,aav,aay,gN,fA,eS,e3,eF,fT,e5,e6,n1]
 ·by_cases n2:CS < 0
  ·simp [EC,fAbs,aak,fEq,fNe,aaX,aam,aao,aap,aan,aaj,frz,aau,e1,e2,s0,s1,i3,i4,m0,m1,m2,m3,aaC,cmpR,mIt,aa6,mSl,mO0,mO1,abk,aav,aay,gN,fA,eS,e3,eF,fT,e5,e6,n1,n2]
  ·by_cases u0:u=0
   ·subst u0
    simp [EC,fAbs,aak,fEq,fNe,aaX,aam,aao,aap,aan,aaj,frz,aau,e1,e2,s0,s1,i3,i4,m0,m1,m2,m3,aaC,cmpR,mIt,aa6,mSl,mO0,mO1,abk,aav,aay,gN,fA,eS,e3,eF,fT,e5,e6,n1,n2]
   ·by_cases uv:u=v
    ·subst uv
     simp [EC,fAbs,aak,fEq,fNe,aaX,aam,aao,aap,aan,aaj,frz,aau,e1,e2,s0,s1,i3,i4,m0,m1,m2,m3,aaC,cmpR,mIt,aa6,mSl,mO0,mO1,abk,aav,aay,gN,fA,eS,e3,eF,fT,e5,e6,n1,n2,u0]
    ·have rl:=rel n1 n2 u0 uv
     have e7:=e7 n2
     by_cases c1:u < 0
     ·rw [if_pos (.inl c1)] at rl
      subst rl
      have c2:¬ v < u:=by omega
      simp [EC,fAbs,aak,fEq,fNe,aaX,aam,aao,aap,aan,aaj,frz,aau,e1,e2,s0,s1,i3,i4,m0,m1,m2,m3,aaC,cmpR,mIt,aa6,mSl,mO0,mO1,abk,aav,aay,gN,fA,eS,e3,eF,fT,e5,e6,e7,n1,u0,uv,c1,c2]
     ·by_cases c2:v < u
      ·rw [if_pos (.inr c2)] at rl
       subst rl
       simp [EC,fAbs,aak,fEq,fNe,aaX,aam,aao,aap,aan,aaj,frz,aau,e1,e2,s0,s1,i3,i4,m0,m1,m2,m3,aaC,cmpR,mIt,aa6,mSl,mO0,mO1,abk,aav,aay,gN,fA,eS,e3,eF,fT,e5,e6,e7,n1,u0,uv,c1,c2]
      ·rw [if_neg (by omega)] at rl
       subst rl
       simp [EC,fAbs,aak,fEq,fNe,aaX,aam,aao,aap,aan,aaj,frz,aau,e1,e2,s0,s1,i3,i4,m0,m1,m2,m3,aaC,cmpR,mIt,aa6,mSl,mO0,mO1,abk,aav,aay,gN,fA,eS,e3,eF,fT,e5,e6,e7,n1,u0,uv,c1,c2]
theorem ak3 (ns:List Int) (h:ns.length≤63):∃ S,am8 [.pv (.lst (ns.map .int))] []=.ok (.pv (.bl true)) S:=by
 obtain ⟨ms,e0,_⟩:=aoo ns [] h
 have e0:aeB [.pv (.lst (ns.map .int))] []=.ok (.ref 0) [.lst (li ms)]:=e0
 have hr:∀ k:List Int,Row [.lst (li k)] 0 k:=fun _=>rfl
 obtain ⟨fs,n1,e1,l1,r1⟩:=aiJ (n:=2) (.inl rfl) ms
 rw [show ((2:Nat):Int)=2 from rfl] at e1
 obtain ⟨hs,n2,e2,l2,r2⟩:=ahL (n:=2) (M:=3) rfl (by decide) n1
 rw [show ((2:Nat):Int)=2 from rfl,show ((3:Nat):Int)=3 from rfl] at e2
 obtain ⟨gs,n3,e3,l3,r3⟩:=ao7 n2 l1 r1 r2 l2 (some (.pv (.lst (ns.map .int)))) none none none none none none none none none none
 obtain ⟨top,n4,e4,G4⟩:=ak7 n3
 obtain ⟨a,b,c,e,e5,he,hc,ba,bb,bc,be⟩:=apb [.lst (li n4)] G4 (some (.pv (.lst (ns.map .int)))) (some (.pv (.lst (fs.map fv)))) (some (.pv (.lst (hs.map rawv)))) (some (.pv (.lst (gs.map px)))) none none none none none none none none
 obtain ⟨v,n5,e6,G⟩:=farg 2 (.inl rfl) (hr n4)
 simp only [List.set_cons_zero] at e6
 obtain ⟨ys,y,rfl,P⟩:=G
 have Gf:Gu 2 100 (ys++[y]):=⟨ys,y,rfl,P⟩
 have e6:acF [.ref 0,.pv (.int 2)] [.lst (li n4)]=.ok (.pv (tv (ys++[y]))) [.lst (li n5)]:=e6
 generalize ys++[y]=f at *
 obtain ⟨p,n6,y7,y8,e7,Gp⟩:=amq n5 r3 l3 Gf (some (.pv (.lst (ns.map .int)))) (some (.pv (.lst (fs.map fv)))) (some (.pv (.lst (hs.map rawv)))) (some (.pv (tv [a,b,c,e]))) none none none none none none none
 obtain ⟨u,v,n7,e8,hv,bu,bv⟩:=ana n6 (some (.pv (.lst (ns.map .int)))) (some (.pv (.lst (fs.map fv)))) (some (.pv (.lst (hs.map rawv)))) (some (.pv (.lst (gs.map px)))) (some (.pv (tv [a,b,c,e]))) (some (.pv (tv p))) (y7) (y8) none none none none
 obtain ⟨x,y,w,rfl,_⟩:=Gp.two'
 obtain ⟨S,e9⟩:=apk n7 (Nat.le_trans l3 (by decide)) r3 Gp he hc ba bb bc be hv bu bv (some (.pv (.lst (ns.map .int)))) (some (.pv (.lst (fs.map fv)))) (some (.pv (.lst (hs.map rawv)))) (y7) (y8)
 refine ⟨S,?_⟩
 rw [← e9]
 have hb:amB=(sSeq (sSet 1 (aa4 aeB [] (aab (mVar 0) mNil)))
 (sSeq (sSet 2 (aah acg [] (aab (mVar 1) (aab (mC (.int 2)) mNil))))
 (sSeq (sSet 3 (aah abZ [] (aab (mVar 1) (aab (mC (.int 2)) (aab (mC (.int 3)) mNil)))))
 (sSeq hIF
 (sSeq (sSet 5 (aah acE [] (aab (mVar 1) (aab (mC (.int 3)) mNil))))
 (sSeq tIF
 (sSeq (sSet 6 (aah acF [] (aab (mVar 1) (aab (mC (.int 2)) mNil))))
 (sSeq pIF
 (sSeq (sSet 9 (aah abD [] (aab (mBin fSub (aah aaq [] (aab (mVar 1) (aab (mC (.int 7)) mNil))) (mC (.int 1))) (aab (mC (.int 4)) mNil))))
 (sSeq (sIf (mTst (mBin fEq (aah aaq [] (aab (mVar 1) (aab (mC (.int 2)) mNil))) (mC (.int 1)))) (sSet 9 (aah abD [] (aab (mBin fAdd (mC (.int 1)) (aah aaq [] (aab (mVar 1) (aab (mC (.int 6)) mNil)))) (aab (mBin fAdd (mC (.int 7)) (aah aaq [] (aab (mVar 1) (aab (mBin fPow (mC (.int 10)) (mC (.int 6))) mNil)))) mNil)))) sNil)
 ahA)))))))))):=rfl
 clear e9 r3 r2 r1 Gp G4 Gf P bu bv hv hc ba bb bc be he
 unfold am8 fnM
 have hsh:sSeq (sSet 9 (aah abD [] (aab (mBin fSub (aah aaq [] (aab (mVar 1) (aab (mC (.int 7)) mNil))) (mC (.int 1))) (aab (mC (.int 4)) mNil)))) (sIf (mTst (mBin fEq (aah aaq [] (aab (mVar 1) (aab (mC (.int 2)) mNil))) (mC (.int 1)))) (sSet 9 (aah abD [] (aab (mBin fAdd (mC (.int 1)) (aah aaq [] (aab (mVar 1) (aab (mC (.int 6)) mNil)))) (aab (mBin fAdd (mC (.int 7)) (aah aaq [] (aab (mVar 1) (aab (mBin fPow (mC (.int 10)) (mC (.int 6))) mNil)))) mNil)))) sNil)=shB:=rfl
 rw [hb,ajc (sSet 9 (aah abD [] (aab (mBin fSub (aah aaq [] (aab (mVar 1) (aab (mC (.int 7)) mNil))) (mC (.int 1))) (aab (mC (.int 4)) mNil)))) (sIf (mTst (mBin fEq (aah aaq [] (aab (mVar 1) (aab (mC (.int 2)) mNil))) (mC (.int 1)))) (sSet 9 (aah abD [] (aab (mBin fAdd (mC (.int 1)) (aah aaq [] (aab (mVar 1) (aab (mC (.int 6)) mNil)))) (aab (mBin fAdd (mC (.int 7)) (aah aaq [] (aab (mVar 1) (aab (mBin fPow (mC (.int 10)) (mC (.int 6))) mNil)))) mNil)))) sNil) ahA,hsh]
 clear hsh
 generalize hIF=B1 at *
 generalize tIF=B2 at *
 generalize pIF=B3 at *
 generalize fs.map fv=FL at *
 generalize hs.map rawv=HL at *
 generalize gs.map px=GL at *
 generalize tv top=T1 at *
 generalize tv [a,b,c,e]=T2 at *
 generalize tv f=T3 at *
 generalize tv [x,y,w]=T4 at *
 generalize ns.map PV.int=NL at *
 generalize ahA=FN at *
 generalize shB=SB1 at *
 simp [EC,fAbs,aal,aak,fIx,atI,ixN,fEq,fNe,eqN,aam,aao,aap,aan,fAdd,aaj,frz,aau,e0,e1,e2,e3,e4,e5,e6,e7,e8]
theorem all_mk {l:PySem.W.OpenLaw} {w:World} {K:PySem.W.Frag} {h:Heap} {mg:Str→Option Value} {fa:Addr} (X:K.In h) (G:h.Ns mainGlobals mg) (hfa:mg "law"=some (.ref fa))
  {f28:Addr} {od28 an28:Option Addr} {sl28:Array (Option Value)} {oc28 kV28 dc28 pm28 cd28 ct28:Value}
  (a28:PySem.W.nsIn K mainGlobals "_law_row"=some (some (.ref f28))) (l28:K.lookup f28=some ⟨oc28,od28,.func (PySem.W.fnOf "_law_row" "_law_row" (aaz afM) (aaw afM) (aaf afM) .none kV28 dc28 pm28 an28 cd28 ct28),sl28⟩) (c28:PySem.W.codeIn K cd28 "_law_row"=true) (k28:PySem.W.keepIn K (.ref f28)=true)
  {f29:Addr} {od29 an29:Option Addr} {sl29:Array (Option Value)} {oc29 kV29 dc29 pm29 cd29 ct29:Value}
  (a29:PySem.W.nsIn K mainGlobals "_law_take"=some (some (.ref f29))) (l29:K.lookup f29=some ⟨oc29,od29,.func (PySem.W.fnOf "_law_take" "_law_take" (aaz aeh) (aaw aeh) (aaf aeh) .none kV29 dc29 pm29 an29 cd29 ct29),sl29⟩) (c29:PySem.W.codeIn K cd29 "_law_take"=true) (k29:PySem.W.keepIn K (.ref f29)=true)
  {f30:Addr} {od30 an30:Option Addr} {sl30:Array (Option Value)} {oc30 kV30 dc30 pm30 cd30 ct30:Value}
  (a30:PySem.W.nsIn K mainGlobals "_law_gcd"=some (some (.ref f30))) (l30:K.lookup f30=some ⟨oc30,od30,.func (PySem.W.fnOf "_law_gcd" "_law_gcd" (aaz afK) (aaw afK) (aaf afK) .none kV30 dc30 pm30 an30 cd30 ct30),sl30⟩) (c30:PySem.W.codeIn K cd30 "_law_gcd"=true) (k30:PySem.W.keepIn K (.ref f30)=true)
  {f31:Addr} {od31 an31:Option Addr} {sl31:Array (Option Value)} {oc31 kV31 dc31 pm31 cd31 ct31:Value}
  (a31:PySem.W.nsIn K mainGlobals "_law_lowest"=some (some (.ref f31))) (l31:K.lookup f31=some ⟨oc31,od31,.func (PySem.W.fnOf "_law_lowest" "_law_lowest" (aaz acv) (aaw acv) (aaf acv) .none kV31 dc31 pm31 an31 cd31 ct31),sl31⟩) (c31:PySem.W.codeIn K cd31 "_law_lowest"=true) (k31:PySem.W.keepIn K (.ref f31)=true)
  {f32:Addr} {od32 an32:Option Addr} {sl32:Array (Option Value)} {oc32 kV32 dc32 pm32 cd32 ct32:Value}
  (a32:PySem.W.nsIn K mainGlobals "_law_frac"=some (some (.ref f32))) (l32:K.lookup f32=some ⟨oc32,od32,.func (PySem.W.fnOf "_law_frac" "_law_frac" (aaz aed) (aaw aed) (aaf aed) .none kV32 dc32 pm32 an32 cd32 ct32),sl32⟩) (c32:PySem.W.codeIn K cd32 "_law_frac"=true) (k32:PySem.W.keepIn K (.ref f32)=true)
  {f45:Addr} {od45 an45:Option Addr} {sl45:Array (Option Value)} {oc45 kV45 dc45 pm45 cd45 ct45:Value}
  (a45:PySem.W.nsIn K mainGlobals "_law_stretch"=some (some (.ref f45))) (l45:K.lookup f45=some ⟨oc45,od45,.func (PySem.W.fnOf "_law_stretch" "_law_stretch" (aaz acm) (aaw acm) (aaf acm) .none kV45 dc45 pm45 an45 cd45 ct45),sl45⟩) (c45:PySem.W.codeIn K cd45 "_law_stretch"=true) (k45:PySem.W.keepIn K (.ref f45)=true)
  {f36:Addr} {od36 an36:Option Addr} {sl36:Array (Option Value)} {oc36 kV36 dc36 pm36 cd36 ct36:Value}
  (a36:PySem.W.nsIn K mainGlobals "_law_dot"=some (some (.ref f36))) (l36:K.lookup f36=some ⟨oc36,od36,.func (PySem.W.fnOf "_law_dot" "_law_dot" (aaz afn) (aaw afn) (aaf afn) .none kV36 dc36 pm36 an36 cd36 ct36),sl36⟩) (c36:PySem.W.codeIn K cd36 "_law_dot"=true) (k36:PySem.W.keepIn K (.ref f36)=true)
  {f35:Addr} {od35 an35:Option Addr} {sl35:Array (Option Value)} {oc35 kV35 dc35 pm35 cd35 ct35:Value}
  (a35:PySem.W.nsIn K mainGlobals "_law_cross"=some (some (.ref f35))) (l35:K.lookup f35=some ⟨oc35,od35,.func (PySem.W.fnOf "_law_cross" "_law_cross" (aaz adA) (aaw adA) (aaf adA) .none kV35 dc35 pm35 an35 cd35 ct35),sl35⟩) (c35:PySem.W.codeIn K cd35 "_law_cross"=true) (k35:PySem.W.keepIn K (.ref f35)=true)
  {f37:Addr} {od37 an37:Option Addr} {sl37:Array (Option Value)} {oc37 kV37 dc37 pm37 cd37 ct37:Value}
  (a37:PySem.W.nsIn K mainGlobals "_law_turn"=some (some (.ref f37))) (l37:K.lookup f37=some ⟨oc37,od37,.func (PySem.W.fnOf "_law_turn" "_law_turn" (aaz aef) (aaw aef) (aaf aef) .none kV37 dc37 pm37 an37 cd37 ct37),sl37⟩) (c37:PySem.W.codeIn K cd37 "_law_turn"=true) (k37:PySem.W.keepIn K (.ref f37)=true)
  {f41:Addr} {od41 an41:Option Addr} {sl41:Array (Option Value)} {oc41 kV41 dc41 pm41 cd41 ct41:Value}
  (a41:PySem.W.nsIn K mainGlobals "_law_raw_turn"=some (some (.ref f41))) (l41:K.lookup f41=some ⟨oc41,od41,.func (PySem.W.fnOf "_law_raw_turn" "_law_raw_turn" (aaz abG) (aaw abG) (aaf abG) .none kV41 dc41 pm41 an41 cd41 ct41),sl41⟩) (c41:PySem.W.codeIn K cd41 "_law_raw_turn"=true) (k41:PySem.W.keepIn K (.ref f41)=true)
  {f40:Addr} {od40 an40:Option Addr} {sl40:Array (Option Value)} {oc40 kV40 dc40 pm40 cd40 ct40:Value}
  (a40:PySem.W.nsIn K mainGlobals "_law_raw"=some (some (.ref f40))) (l40:K.lookup f40=some ⟨oc40,od40,.func (PySem.W.fnOf "_law_raw" "_law_raw" (aaz ad6) (aaw ad6) (aaf ad6) .none kV40 dc40 pm40 an40 cd40 ct40),sl40⟩) (c40:PySem.W.codeIn K cd40 "_law_raw"=true) (k40:PySem.W.keepIn K (.ref f40)=true)
  {f42:Addr} {od42 an42:Option Addr} {sl42:Array (Option Value)} {oc42 kV42 dc42 pm42 cd42 ct42:Value}
  (a42:PySem.W.nsIn K mainGlobals "_law_kuhn"=some (some (.ref f42))) (l42:K.lookup f42=some ⟨oc42,od42,.func (PySem.W.fnOf "_law_kuhn" "_law_kuhn" (aaz aei) (aaw aei) (aaf aei) .none kV42 dc42 pm42 an42 cd42 ct42),sl42⟩) (c42:PySem.W.codeIn K cd42 "_law_kuhn"=true) (k42:PySem.W.keepIn K (.ref f42)=true)
  {f43:Addr} {od43 an43:Option Addr} {sl43:Array (Option Value)} {oc43 kV43 dc43 pm43 cd43 ct43:Value}
  (a43:PySem.W.nsIn K mainGlobals "_law_raw_heap"=some (some (.ref f43))) (l43:K.lookup f43=some ⟨oc43,od43,.func (PySem.W.fnOf "_law_raw_heap" "_law_raw_heap" (aaz acf) (aaw acf) (aaf acf) .none kV43 dc43 pm43 an43 cd43 ct43),sl43⟩) (c43:PySem.W.codeIn K cd43 "_law_raw_heap"=true) (k43:PySem.W.keepIn K (.ref f43)=true)
  {f34:Addr} {od34 an34:Option Addr} {sl34:Array (Option Value)} {oc34 kV34 dc34 pm34 cd34 ct34:Value}
  (a34:PySem.W.nsIn K mainGlobals "_law_gap"=some (some (.ref f34))) (l34:K.lookup f34=some ⟨oc34,od34,.func (PySem.W.fnOf "_law_gap" "_law_gap" (aaz afc) (aaw afc) (aaf afc) .none kV34 dc34 pm34 an34 cd34 ct34),sl34⟩) (c34:PySem.W.codeIn K cd34 "_law_gap"=true) (k34:PySem.W.keepIn K (.ref f34)=true)
  {f38:Addr} {od38 an38:Option Addr} {sl38:Array (Option Value)} {oc38 kV38 dc38 pm38 cd38 ct38:Value}
  (a38:PySem.W.nsIn K mainGlobals "_law_det"=some (some (.ref f38))) (l38:K.lookup f38=some ⟨oc38,od38,.func (PySem.W.fnOf "_law_det" "_law_det" (aaz aeO) (aaw aeO) (aaf aeO) .none kV38 dc38 pm38 an38 cd38 ct38),sl38⟩) (c38:PySem.W.codeIn K cd38 "_law_det"=true) (k38:PySem.W.keepIn K (.ref f38)=true)
  {f39:Addr} {od39 an39:Option Addr} {sl39:Array (Option Value)} {oc39 kV39 dc39 pm39 cd39 ct39:Value}
  (a39:PySem.W.nsIn K mainGlobals "_law_simplex"=some (some (.ref f39))) (l39:K.lookup f39=some ⟨oc39,od39,.func (PySem.W.fnOf "_law_simplex" "_law_simplex" (aaz aco) (aaw aco) (aaf aco) .none kV39 dc39 pm39 an39 cd39 ct39),sl39⟩) (c39:PySem.W.codeIn K cd39 "_law_simplex"=true) (k39:PySem.W.keepIn K (.ref f39)=true)
  {f46:Addr} {od46 an46:Option Addr} {sl46:Array (Option Value)} {oc46 kV46 dc46 pm46 cd46 ct46:Value}
  (a46:PySem.W.nsIn K mainGlobals "_law_spot"=some (some (.ref f46))) (l46:K.lookup f46=some ⟨oc46,od46,.func (PySem.W.fnOf "_law_spot" "_law_spot" (aaz adO) (aaw adO) (aaf adO) .none kV46 dc46 pm46 an46 cd46 ct46),sl46⟩) (c46:PySem.W.codeIn K cd46 "_law_spot"=true) (k46:PySem.W.keepIn K (.ref f46)=true)
  {f44:Addr} {od44 an44:Option Addr} {sl44:Array (Option Value)} {oc44 kV44 dc44 pm44 cd44 ct44:Value}
  (a44:PySem.W.nsIn K mainGlobals "_law_far"=some (some (.ref f44))) (l44:K.lookup f44=some ⟨oc44,od44,.func (PySem.W.fnOf "_law_far" "_law_far" (aaz aff) (aaw aff) (aaf aff) .none kV44 dc44 pm44 an44 cd44 ct44),sl44⟩) (c44:PySem.W.codeIn K cd44 "_law_far"=true) (k44:PySem.W.keepIn K (.ref f44)=true)
  {f33:Addr} {od33 an33:Option Addr} {sl33:Array (Option Value)} {oc33 kV33 dc33 pm33 cd33 ct33:Value}
  (a33:PySem.W.nsIn K mainGlobals "_law_joined"=some (some (.ref f33))) (l33:K.lookup f33=some ⟨oc33,od33,.func (PySem.W.fnOf "_law_joined" "_law_joined" (aaz acw) (aaw acw) (aaf acw) .none kV33 dc33 pm33 an33 cd33 ct33),sl33⟩) (c33:PySem.W.codeIn K cd33 "_law_joined"=true) (k33:PySem.W.keepIn K (.ref f33)=true)
  {f47:Addr} {od47 an47:Option Addr} {sl47:Array (Option Value)} {oc47 kV47 dc47 pm47 cd47 ct47:Value}
  (a47:PySem.W.nsIn K mainGlobals "_law_laid"=some (some (.ref f47))) (l47:K.lookup f47=some ⟨oc47,od47,.func (PySem.W.fnOf "_law_laid" "_law_laid" (aaz adR) (aaw adR) (aaf adR) .none kV47 dc47 pm47 an47 cd47 ct47),sl47⟩) (c47:PySem.W.codeIn K cd47 "_law_laid"=true) (k47:PySem.W.keepIn K (.ref f47)=true)
  {f51:Addr} {od51 an51:Option Addr} {sl51:Array (Option Value)} {oc51 kV51 dc51 pm51 cd51 ct51:Value}
  (a51:PySem.W.nsIn K mainGlobals "_law_shift"=some (some (.ref f51))) (l51:K.lookup f51=some ⟨oc51,od51,.func (PySem.W.fnOf "_law_shift" "_law_shift" (aaz ac4) (aaw ac4) (aaf ac4) .none kV51 dc51 pm51 an51 cd51 ct51),sl51⟩) (c51:PySem.W.codeIn K cd51 "_law_shift"=true) (k51:PySem.W.keepIn K (.ref f51)=true)
  {f52:Addr} {od52 an52:Option Addr} {sl52:Array (Option Value)} {oc52 kV52 dc52 pm52 cd52 ct52:Value}
  (a52:PySem.W.nsIn K mainGlobals "_law_weighted"=some (some (.ref f52))) (l52:K.lookup f52=some ⟨oc52,od52,.func (PySem.W.fnOf "_law_weighted" "_law_weighted" (aaz abW) (aaw abW) (aaf abW) .none kV52 dc52 pm52 an52 cd52 ct52),sl52⟩) (c52:PySem.W.codeIn K cd52 "_law_weighted"=true) (k52:PySem.W.keepIn K (.ref f52)=true)
  {f48:Addr} {od48 an48:Option Addr} {sl48:Array (Option Value)} {oc48 kV48 dc48 pm48 cd48 ct48:Value}
  (a48:PySem.W.nsIn K mainGlobals "_law_within"=some (some (.ref f48))) (l48:K.lookup f48=some ⟨oc48,od48,.func (PySem.W.fnOf "_law_within" "_law_within" (aaz acT) (aaw acT) (aaf acT) .none kV48 dc48 pm48 an48 cd48 ct48),sl48⟩) (c48:PySem.W.codeIn K cd48 "_law_within"=true) (k48:PySem.W.keepIn K (.ref f48)=true)
  {f49:Addr} {od49 an49:Option Addr} {sl49:Array (Option Value)} {oc49 kV49 dc49 pm49 cd49 ct49:Value}
  (a49:PySem.W.nsIn K mainGlobals "_law_count"=some (some (.ref f49))) (l49:K.lookup f49=some ⟨oc49,od49,.func (PySem.W.fnOf "_law_count" "_law_count" (aaz ads) (aaw ads) (aaf ads) .none kV49 dc49 pm49 an49 cd49 ct49),sl49⟩) (c49:PySem.W.codeIn K cd49 "_law_count"=true) (k49:PySem.W.keepIn K (.ref f49)=true)
  {f50:Addr} {od50 an50:Option Addr} {sl50:Array (Option Value)} {oc50 kV50 dc50 pm50 cd50 ct50:Value}
  (a50:PySem.W.nsIn K mainGlobals "_law_raised"=some (some (.ref f50))) (l50:K.lookup f50=some ⟨oc50,od50,.func (PySem.W.fnOf "_law_raised" "_law_raised" (aaz acV) (aaw acV) (aaf acV) .none kV50 dc50 pm50 an50 cd50 ct50),sl50⟩) (c50:PySem.W.codeIn K cd50 "_law_raised"=true) (k50:PySem.W.keepIn K (.ref f50)=true)
  {f23:Addr} {od23 an23:Option Addr} {sl23:Array (Option Value)} {oc23 kV23 dc23 pm23 cd23 ct23:Value}
  (a23:PySem.W.nsIn K mainGlobals "refuse_flat"=some (some (.ref f23))) (l23:K.lookup f23=some ⟨oc23,od23,.func (PySem.W.fnOf "refuse_flat" "refuse_flat" (aaz abO) (aaw abO) (aaf abO) .none kV23 dc23 pm23 an23 cd23 ct23),sl23⟩) (c23:PySem.W.codeIn K cd23 "refuse_flat"=true) (k23:PySem.W.keepIn K (.ref f23)=true)
  {f22:Addr} {od22 an22:Option Addr} {sl22:Array (Option Value)} {oc22 kV22 dc22 pm22 cd22 ct22:Value}
  (a22:PySem.W.nsIn K mainGlobals "in_space"=some (some (.ref f22))) (l22:K.lookup f22=some ⟨oc22,od22,.func (PySem.W.fnOf "in_space" "in_space" (aaz ack) (aaw ack) (aaf ack) .none kV22 dc22 pm22 an22 cd22 ct22),sl22⟩) (c22:PySem.W.codeIn K cd22 "in_space"=true) (k22:PySem.W.keepIn K (.ref f22)=true)
  {f7:Addr} {od7 an7:Option Addr} {sl7:Array (Option Value)} {oc7 kV7 dc7 pm7 cd7 ct7:Value}
  (a7:PySem.W.nsIn K mainGlobals "divisor"=some (some (.ref f7))) (l7:K.lookup f7=some ⟨oc7,od7,.func (PySem.W.fnOf "divisor" "divisor" (aaz acX) (aaw acX) (aaf acX) .none kV7 dc7 pm7 an7 cd7 ct7),sl7⟩) (c7:PySem.W.codeIn K cd7 "divisor"=true) (k7:PySem.W.keepIn K (.ref f7)=true)
  {f8:Addr} {od8 an8:Option Addr} {sl8:Array (Option Value)} {oc8 kV8 dc8 pm8 cd8 ct8:Value}
  (a8:PySem.W.nsIn K mainGlobals "reduced"=some (some (.ref f8))) (l8:K.lookup f8=some ⟨oc8,od8,.func (PySem.W.fnOf "reduced" "reduced" (aaz acx) (aaw acx) (aaf acx) .none kV8 dc8 pm8 an8 cd8 ct8),sl8⟩) (c8:PySem.W.codeIn K cd8 "reduced"=true) (k8:PySem.W.keepIn K (.ref f8)=true)
  {f6:Addr} {od6 an6:Option Addr} {sl6:Array (Option Value)} {oc6 kV6 dc6 pm6 cd6 ct6:Value}
  (a6:PySem.W.nsIn K mainGlobals "sign"=some (some (.ref f6))) (l6:K.lookup f6=some ⟨oc6,od6,.func (PySem.W.fnOf "sign" "sign" (aaz afN) (aaw afN) (aaf afN) .none kV6 dc6 pm6 an6 cd6 ct6),sl6⟩) (c6:PySem.W.codeIn K cd6 "sign"=true) (k6:PySem.W.keepIn K (.ref f6)=true)
  {f10:Addr} {od10 an10:Option Addr} {sl10:Array (Option Value)} {oc10 kV10 dc10 pm10 cd10 ct10:Value}
  {T10:Addr} {tc10:Value} {td10:Option Addr} {tl10:Array (Option Value)} {tt10:Tok} {tn10:Nat}
  (a10:PySem.W.nsIn K mainGlobals "point"=some (some (.ref f10))) (l10:K.lookup f10=some ⟨oc10,od10,.func (PySem.W.fnOf "point" "point" (aaz adN) (aaw adN) (aaf adN) (.ref T10) kV10 dc10 pm10 an10 cd10 ct10),sl10⟩) (c10:PySem.W.codeIn K cd10 "point"=true) (k10:PySem.W.keepIn K (.ref f10)=true)
  (t10:K.lookup T10=some ⟨tc10,td10,.seq #[.int 1 tt10] tn10,tl10⟩)
  {f11:Addr} {od11 an11:Option Addr} {sl11:Array (Option Value)} {oc11 kV11 dc11 pm11 cd11 ct11:Value}
  (a11:PySem.W.nsIn K mainGlobals "added"=some (some (.ref f11))) (l11:K.lookup f11=some ⟨oc11,od11,.func (PySem.W.fnOf "added" "added" (aaz adM) (aaw adM) (aaf adM) .none kV11 dc11 pm11 an11 cd11 ct11),sl11⟩) (c11:PySem.W.codeIn K cd11 "added"=true) (k11:PySem.W.keepIn K (.ref f11)=true)
  {f12:Addr} {od12 an12:Option Addr} {sl12:Array (Option Value)} {oc12 kV12 dc12 pm12 cd12 ct12:Value}
  (a12:PySem.W.nsIn K mainGlobals "whole_arrow"=some (some (.ref f12))) (l12:K.lookup f12=some ⟨oc12,od12,.func (PySem.W.fnOf "whole_arrow" "whole_arrow" (aaz abq) (aaw abq) (aaf abq) .none kV12 dc12 pm12 an12 cd12 ct12),sl12⟩) (c12:PySem.W.codeIn K cd12 "whole_arrow"=true) (k12:PySem.W.keepIn K (.ref f12)=true)
  {f13:Addr} {od13 an13:Option Addr} {sl13:Array (Option Value)} {oc13 kV13 dc13 pm13 cd13 ct13:Value}
  (a13:PySem.W.nsIn K mainGlobals "dot"=some (some (.ref f13))) (l13:K.lookup f13=some ⟨oc13,od13,.func (PySem.W.fnOf "dot" "dot" (aaz ahC) (aaw ahC) (aaf ahC) .none kV13 dc13 pm13 an13 cd13 ct13),sl13⟩) (c13:PySem.W.codeIn K cd13 "dot"=true) (k13:PySem.W.keepIn K (.ref f13)=true)
  {f14:Addr} {od14 an14:Option Addr} {sl14:Array (Option Value)} {oc14 kV14 dc14 pm14 cd14 ct14:Value}
  (a14:PySem.W.nsIn K mainGlobals "normal"=some (some (.ref f14))) (l14:K.lookup f14=some ⟨oc14,od14,.func (PySem.W.fnOf "normal" "normal" (aaz ady) (aaw ady) (aaf ady) .none kV14 dc14 pm14 an14 cd14 ct14),sl14⟩) (c14:PySem.W.codeIn K cd14 "normal"=true) (k14:PySem.W.keepIn K (.ref f14)=true)
  {f15:Addr} {od15 an15:Option Addr} {sl15:Array (Option Value)} {oc15 kV15 dc15 pm15 cd15 ct15:Value}
  (a15:PySem.W.nsIn K mainGlobals "determinant"=some (some (.ref f15))) (l15:K.lookup f15=some ⟨oc15,od15,.func (PySem.W.fnOf "determinant" "determinant" (aaz abr) (aaw abr) (aaf abr) .none kV15 dc15 pm15 an15 cd15 ct15),sl15⟩) (c15:PySem.W.codeIn K cd15 "determinant"=true) (k15:PySem.W.keepIn K (.ref f15)=true)
  {f16:Addr} {od16 an16:Option Addr} {sl16:Array (Option Value)} {oc16 kV16 dc16 pm16 cd16 ct16:Value}
  (a16:PySem.W.nsIn K mainGlobals "side"=some (some (.ref f16))) (l16:K.lookup f16=some ⟨oc16,od16,.func (PySem.W.fnOf "side" "side" (aaz afE) (aaw afE) (aaf afE) .none kV16 dc16 pm16 an16 cd16 ct16),sl16⟩) (c16:PySem.W.codeIn K cd16 "side"=true) (k16:PySem.W.keepIn K (.ref f16)=true)
  {f18:Addr} {od18 an18:Option Addr} {sl18:Array (Option Value)} {oc18 kV18 dc18 pm18 cd18 ct18:Value}
  (a18:PySem.W.nsIn K mainGlobals "simplex"=some (some (.ref f18))) (l18:K.lookup f18=some ⟨oc18,od18,.func (PySem.W.fnOf "simplex" "simplex" (aaz acU) (aaw acU) (aaf acU) .none kV18 dc18 pm18 an18 cd18 ct18),sl18⟩) (c18:PySem.W.codeIn K cd18 "simplex"=true) (k18:PySem.W.keepIn K (.ref f18)=true)
  {f24:Addr} {od24 an24:Option Addr} {sl24:Array (Option Value)} {oc24 kV24 dc24 pm24 cd24 ct24:Value}
  (a24:PySem.W.nsIn K mainGlobals "prism"=some (some (.ref f24))) (l24:K.lookup f24=some ⟨oc24,od24,.func (PySem.W.fnOf "prism" "prism" (aaz ac7) (aaw ac7) (aaf ac7) .none kV24 dc24 pm24 an24 cd24 ct24),sl24⟩) (c24:PySem.W.codeIn K cd24 "prism"=true) (k24:PySem.W.keepIn K (.ref f24)=true)
  {f19:Addr} {od19 an19:Option Addr} {sl19:Array (Option Value)} {oc19 kV19 dc19 pm19 cd19 ct19:Value}
  (a19:PySem.W.nsIn K mainGlobals "replaced"=some (some (.ref f19))) (l19:K.lookup f19=some ⟨oc19,od19,.func (PySem.W.fnOf "replaced" "replaced" (aaz acn) (aaw acn) (aaf acn) .none kV19 dc19 pm19 an19 cd19 ct19),sl19⟩) (c19:PySem.W.codeIn K cd19 "replaced"=true) (k19:PySem.W.keepIn K (.ref f19)=true)
  {f20:Addr} {od20 an20:Option Addr} {sl20:Array (Option Value)} {oc20 kV20 dc20 pm20 cd20 ct20:Value}
  (a20:PySem.W.nsIn K mainGlobals "standing"=some (some (.ref f20))) (l20:K.lookup f20=some ⟨oc20,od20,.func (PySem.W.fnOf "standing" "standing" (aaz ace) (aaw ace) (aaf ace) .none kV20 dc20 pm20 an20 cd20 ct20),sl20⟩) (c20:PySem.W.codeIn K cd20 "standing"=true) (k20:PySem.W.keepIn K (.ref f20)=true)
  {f26:Addr} {od26 an26:Option Addr} {sl26:Array (Option Value)} {oc26 kV26 dc26 pm26 cd26 ct26:Value}
  (a26:PySem.W.nsIn K mainGlobals "count_at"=some (some (.ref f26))) (l26:K.lookup f26=some ⟨oc26,od26,.func (PySem.W.fnOf "count_at" "count_at" (aaz acl) (aaw acl) (aaf acl) .none kV26 dc26 pm26 an26 cd26 ct26),sl26⟩) (c26:PySem.W.codeIn K cd26 "count_at"=true) (k26:PySem.W.keepIn K (.ref f26)=true)
  {f53:Addr} {od53 an53:Option Addr} {sl53:Array (Option Value)} {oc53 kV53 dc53 pm53 cd53 ct53:Value}
  (a53:PySem.W.nsIn K mainGlobals "law"=some (some (.ref f53))) (l53:K.lookup f53=some ⟨oc53,od53,.func (PySem.W.fnOf "law" "law" (aaz aeo) (aaw aeo) (aaf aeo) .none kV53 dc53 pm53 an53 cd53 ct53),sl53⟩) (c53:PySem.W.codeIn K cd53 "law"=true) (k53:PySem.W.keepIn K (.ref f53)=true)
  (z1:PySem.W.nsIn K mainGlobals "abs"=some none)
  (z2:PySem.W.nsIn K mainGlobals "enumerate"=some none)
  (z3:PySem.W.nsIn K mainGlobals "int"=some none)
  (z4:PySem.W.nsIn K mainGlobals "len"=some none)
  (z5:PySem.W.nsIn K mainGlobals "list"=some none)
  (z6:PySem.W.nsIn K mainGlobals "min"=some none)
  (z7:PySem.W.nsIn K mainGlobals "range"=some none)
  (z8:PySem.W.nsIn K mainGlobals "sorted"=some none)
  (z9:PySem.W.nsIn K mainGlobals "sum"=some none)
  (z10:PySem.W.nsIn K mainGlobals "tuple"=some none)
  (z11:PySem.W.nsIn K mainGlobals "zip"=some none)
  {C1 C2 C3:Addr}
  (y1:PySem.W.nsIn K mainGlobals "Flat"=some (some (.ref C1))) (x1:PySem.W.excIn K C1 ade "ValueError.__new__"=true)
  (y2:PySem.W.nsIn K mainGlobals "NoPoint"=some (some (.ref C2))) (x2:PySem.W.excIn K C2 ade "ValueError.__new__"=true)
  (y3:PySem.W.nsIn K mainGlobals "OnSide"=some (some (.ref C3))) (x3:PySem.W.excIn K C3 ade "ValueError.__new__"=true)
  : ∃ fd:FuncData,(∀ (s:Shared) (v:Value),BindsTo s fd ⟨[v],[]⟩ [("_law_script",v)])∧∀ base:Heap,K.In base→base.Ns mainGlobals mg→FnOk l.prog w K mg base CX0 6 fa fd ["_law_script"] (alr K):=by
 let cl:Str→Addr:=fun n=>if n="Flat" then C1 else if n="NoPoint" then C2 else if n="OnSide" then C3 else 0
 have e:=hfa.symm.trans (PySem.W.mg_of X G a53)
 cases e
 have F28:=aaT (st:=afM) l28 c28 k28
 have F29:=aaT (st:=aeh) l29 c29 k29
 have F30:=aaT (st:=afK) l30 c30 k30
 have F31:=aaT (st:=acv) l31 c31 k31
 have F32:=aaT (st:=aed) l32 c32 k32
 have F45:=aaT (st:=acm) l45 c45 k45
 have F36:=aaT (st:=afn) l36 c36 k36
 have F35:=aaT (st:=adA) l35 c35 k35
 have F37:=aaT (st:=aef) l37 c37 k37
 have F41:=aaT (st:=abG) l41 c41 k41
 have F40:=aaT (st:=ad6) l40 c40 k40
 have F42:=aaT (st:=aei) l42 c42 k42
 have F43:=aaT (st:=acf) l43 c43 k43
 have F34:=aaT (st:=afc) l34 c34 k34
 have F38:=aaT (st:=aeO) l38 c38 k38
 have F39:=aaT (st:=aco) l39 c39 k39
 have F46:=aaT (st:=adO) l46 c46 k46
 have F44:=aaT (st:=aff) l44 c44 k44
 have F33:=aaT (st:=acw) l33 c33 k33
 have F47:=aaT (st:=adR) l47 c47 k47
 have F51:=aaT (st:=ac4) l51 c51 k51
 have F52:=aaT (st:=abW) l52 c52 k52
 have F48:=aaT (st:=acT) l48 c48 k48
 have F49:=aaT (st:=ads) l49 c49 k49
 have F50:=aaT (st:=acV) l50 c50 k50
 have F23:=aaT (st:=abO) l23 c23 k23
 have F22:=aaT (st:=ack) l22 c22 k22
 have F7:=aaT (st:=acX) l7 c7 k7
 have F8:=aaT (st:=acx) l8 c8 k8
 have F6:=aaT (st:=afN) l6 c6 k6
 have F10:=am3 (st:=adN) l10 c10 k10 t10 rfl
 have F11:=aaT (st:=adM) l11 c11 k11
 have F12:=aaT (st:=abq) l12 c12 k12
 have F13:=aaT (st:=ahC) l13 c13 k13
 have F14:=aaT (st:=ady) l14 c14 k14
 have F15:=aaT (st:=abr) l15 c15 k15
 have F16:=aaT (st:=afE) l16 c16 k16
 have F18:=aaT (st:=acU) l18 c18 k18
 have F24:=aaT (st:=ac7) l24 c24 k24
 have F19:=aaT (st:=acn) l19 c19 k19
 have F20:=aaT (st:=ace) l20 c20 k20
 have F26:=aaT (st:=acl) l26 c26 k26
 have F53:=aaT (st:=aeo) l53 c53 k53
 have b28:=F28.binds (ps:=["_law_script"]) fun _ _ _ _ _ _ us hl=>match us,hl with | [_],_=>rfl
 have b29:=F29.binds (ps:=["_law_row_here","_law_many"]) fun _ _ _ _ _ _ us hl=>match us,hl with | [_,_],_=>rfl
 have b30:=F30.binds (ps:=["_law_one","_law_other"]) fun _ _ _ _ _ _ us hl=>match us,hl with | [_,_],_=>rfl
 have b31:=F31.binds (ps:=["_law_numbers"]) fun _ _ _ _ _ _ us hl=>match us,hl with | [_],_=>rfl
 have b32:=F32.binds (ps:=["_law_top","_law_bottom"]) fun _ _ _ _ _ _ us hl=>match us,hl with | [_,_],_=>rfl
 have b45:=F45.binds (ps:=["_law_row_here","_law_dims"]) fun _ _ _ _ _ _ us hl=>match us,hl with | [_,_],_=>rfl
 have b36:=F36.binds (ps:=["_law_u","_law_v"]) fun _ _ _ _ _ _ us hl=>match us,hl with | [_,_],_=>rfl
 have b35:=F35.binds (ps:=["_law_u","_law_v"]) fun _ _ _ _ _ _ us hl=>match us,hl with | [_,_],_=>rfl
 have b37:=F37.binds (ps:=["_law_ways"]) fun _ _ _ _ _ _ us hl=>match us,hl with | [_],_=>rfl
 have b41:=F41.binds (ps:=["_law_corners"]) fun _ _ _ _ _ _ us hl=>match us,hl with | [_],_=>rfl
 have b40:=F40.binds (ps:=["_law_row_here","_law_dims","_law_wide"]) fun _ _ _ _ _ _ us hl=>match us,hl with | [_,_,_],_=>rfl
 have b42:=F42.binds (ps:=["_law_row_here"]) fun _ _ _ _ _ _ us hl=>match us,hl with | [_],_=>rfl
 have b43:=F43.binds (ps:=["_law_row_here","_law_dims","_law_many"]) fun _ _ _ _ _ _ us hl=>match us,hl with | [_,_,_],_=>rfl
 have b34:=F34.binds (ps:=["_law_p","_law_q"]) fun _ _ _ _ _ _ us hl=>match us,hl with | [_,_],_=>rfl
 have b38:=F38.binds (ps:=["_law_points"]) fun _ _ _ _ _ _ us hl=>match us,hl with | [_],_=>rfl
 have b39:=F39.binds (ps:=["_law_points"]) fun _ _ _ _ _ _ us hl=>match us,hl with | [_],_=>rfl
 have b46:=F46.binds (ps:=["_law_corner","_law_stretch_here"]) fun _ _ _ _ _ _ us hl=>match us,hl with | [_,_],_=>rfl
 have b44:=F44.binds (ps:=["_law_row_here","_law_dims"]) fun _ _ _ _ _ _ us hl=>match us,hl with | [_,_],_=>rfl
 have b33:=F33.binds (ps:=["_law_p","_law_q","_law_way"]) fun _ _ _ _ _ _ us hl=>match us,hl with | [_,_,_],_=>rfl
 have b47:=F47.binds (ps:=["_law_row_here","_law_heap","_law_stretch_here"]) fun _ _ _ _ _ _ us hl=>match us,hl with | [_,_,_],_=>rfl
 have b51:=F51.binds (ps:=["_law_row_here","_law_dims"]) fun _ _ _ _ _ _ us hl=>match us,hl with | [_,_],_=>rfl
 have b52:=F52.binds (ps:=["_law_points","_law_weights"]) fun _ _ _ _ _ _ us hl=>match us,hl with | [_,_],_=>rfl
 have b48:=F48.binds (ps:=["_law_points","_law_p"]) fun _ _ _ _ _ _ us hl=>match us,hl with | [_,_],_=>rfl
 have b49:=F49.binds (ps:=["_law_heap","_law_p"]) fun _ _ _ _ _ _ us hl=>match us,hl with | [_,_],_=>rfl
 have b50:=F50.binds (ps:=["_law_p"]) fun _ _ _ _ _ _ us hl=>match us,hl with | [_],_=>rfl
 have b23:=F23.binds (ps:=["arrow"]) fun _ _ _ _ _ _ us hl=>match us,hl with | [_],_=>rfl
 have b22:=F22.binds (ps:=["p"]) fun _ _ _ _ _ _ us hl=>match us,hl with | [_],_=>rfl
 have b7:=F7.binds (ps:=["one","other"]) fun _ _ _ _ _ _ us hl=>match us,hl with | [_,_],_=>rfl
 have b8:=F8.binds (ps:=["numbers"]) fun _ _ _ _ _ _ us hl=>match us,hl with | [_],_=>rfl
 have b6:=F6.binds (ps:=["number"]) fun _ _ _ _ _ _ us hl=>match us,hl with | [_],_=>rfl
 have b10:=F10.binds (ps:=["numbers","bottom"]) (dd:=[]) fun _ _ _ _ _ _ _ us hl=>match us,hl with | [_,_],_=>⟨_,rfl,rfl⟩
 have bD10:=F10.binds (ps:=["numbers","bottom"]) (dd:=[.int 1 tt10]) fun _ _ _ _ _ _ _ us hl=>match us,(show us.length=1 by simpa using hl) with | [_],_=>⟨_,rfl,rfl⟩
 have b11:=F11.binds (ps:=["p","q"]) fun _ _ _ _ _ _ us hl=>match us,hl with | [_,_],_=>rfl
 have b12:=F12.binds (ps:=["start","end"]) fun _ _ _ _ _ _ us hl=>match us,hl with | [_,_],_=>rfl
 have b13:=F13.binds (ps:=["u","v"]) fun _ _ _ _ _ _ us hl=>match us,hl with | [_,_],_=>rfl
 have b14:=F14.binds (ps:=["arrows"]) fun _ _ _ _ _ _ us hl=>match us,hl with | [_],_=>rfl
 have b15:=F15.binds (ps:=["points"]) fun _ _ _ _ _ _ us hl=>match us,hl with | [_],_=>rfl
 have b16:=F16.binds (ps:=["points"]) fun _ _ _ _ _ _ us hl=>match us,hl with | [_],_=>rfl
 have b18:=F18.binds (ps:=["points"]) fun _ _ _ _ _ _ us hl=>match us,hl with | [_],_=>rfl
 have b24:=F24.binds (ps:=["heap","arrow"]) fun _ _ _ _ _ _ us hl=>match us,hl with | [_,_],_=>rfl
 have b19:=F19.binds (ps:=["row","place","value"]) fun _ _ _ _ _ _ us hl=>match us,hl with | [_,_,_],_=>rfl
 have b20:=F20.binds (ps:=["piece","p"]) fun _ _ _ _ _ _ us hl=>match us,hl with | [_,_],_=>rfl
 have b26:=F26.binds (ps:=["heap","p"]) fun _ _ _ _ _ _ us hl=>match us,hl with | [_,_],_=>rfl
 have m_abs:=PySem.W.mg_none_of X G z1
 have m_enumerate:=PySem.W.mg_none_of X G z2
 have m_int:=PySem.W.mg_none_of X G z3
 have m_len:=PySem.W.mg_none_of X G z4
 have m_list:=PySem.W.mg_none_of X G z5
 have m_min:=PySem.W.mg_none_of X G z6
 have m_range:=PySem.W.mg_none_of X G z7
 have m_sorted:=PySem.W.mg_none_of X G z8
 have m_sum:=PySem.W.mg_none_of X G z9
 have m_tuple:=PySem.W.mg_none_of X G z10
 have m_zip:=PySem.W.mg_none_of X G z11
 have q_Flat:mg "Flat"=some (.ref (cl "Flat")):=PySem.W.mg_of X G y1
 have x_Flat:PySem.W.excIn K (cl "Flat") ade "ValueError.__new__"=true:=x1
 have q_NoPoint:mg "NoPoint"=some (.ref (cl "NoPoint")):=PySem.W.mg_of X G y2
 have x_NoPoint:PySem.W.excIn K (cl "NoPoint") ade "ValueError.__new__"=true:=x2
 have q_OnSide:mg "OnSide"=some (.ref (cl "OnSide")):=PySem.W.mg_of X G y3
 have x_OnSide:PySem.W.excIn K (cl "OnSide") ade "ValueError.__new__"=true:=x3
 have n28:=PySem.W.mg_of X G a28
 have n29:=PySem.W.mg_of X G a29
 have n30:=PySem.W.mg_of X G a30
 have n31:=PySem.W.mg_of X G a31
 have n32:=PySem.W.mg_of X G a32
 have n45:=PySem.W.mg_of X G a45
 have n36:=PySem.W.mg_of X G a36
 have n35:=PySem.W.mg_of X G a35
 have n37:=PySem.W.mg_of X G a37
 have n41:=PySem.W.mg_of X G a41
 have n40:=PySem.W.mg_of X G a40
 have n42:=PySem.W.mg_of X G a42
 have n43:=PySem.W.mg_of X G a43
 have n34:=PySem.W.mg_of X G a34
 have n38:=PySem.W.mg_of X G a38
 have n39:=PySem.W.mg_of X G a39
 have n46:=PySem.W.mg_of X G a46
 have n44:=PySem.W.mg_of X G a44
 have n33:=PySem.W.mg_of X G a33
 have n47:=PySem.W.mg_of X G a47
 have n51:=PySem.W.mg_of X G a51
 have n52:=PySem.W.mg_of X G a52
 have n48:=PySem.W.mg_of X G a48
 have n49:=PySem.W.mg_of X G a49
 have n50:=PySem.W.mg_of X G a50
 have n23:=PySem.W.mg_of X G a23
 have n22:=PySem.W.mg_of X G a22
 have n7:=PySem.W.mg_of X G a7
 have n8:=PySem.W.mg_of X G a8
 have n6:=PySem.W.mg_of X G a6
 have n10:=PySem.W.mg_of X G a10
 have n11:=PySem.W.mg_of X G a11
 have n12:=PySem.W.mg_of X G a12
 have n13:=PySem.W.mg_of X G a13
 have n14:=PySem.W.mg_of X G a14
 have n15:=PySem.W.mg_of X G a15
 have n16:=PySem.W.mg_of X G a16
 have n18:=PySem.W.mg_of X G a18
 have n24:=PySem.W.mg_of X G a24
 have n19:=PySem.W.mg_of X G a19
 have n20:=PySem.W.mg_of X G a20
 have n26:=PySem.W.mg_of X G a26
 have n53:=PySem.W.mg_of X G a53
 refine ⟨PySem.W.fnOf "law" "law" (aaz aeo) (aaw aeo) (aaf aeo) .none kV53 dc53 pm53 an53 cd53 ct53,fun s v=>.of_eq rfl,fun base _ _=>?_⟩
 have G28:=amj (P:=l.prog) (w:=w) (mg:=mg) (base:=base) (cl:=cl) F28 m_enumerate
 have C28:Cal l.prog w K mg base cl "_law_row" 1 ["_law_script"] aeB:=⟨_,_,G28,b28,k28,n28⟩
 have G29:=alu (P:=l.prog) (w:=w) (mg:=mg) (base:=base) (cl:=cl) F29 m_len
 have C29:Cal l.prog w K mg base cl "_law_take" 1 ["_law_row_here","_law_many"] aaq:=⟨_,_,G29,b29,k29,n29⟩
 have G30:=amU (P:=l.prog) (w:=w) (mg:=mg) (base:=base) (cl:=cl) F30 m_abs
 have C30:Cal l.prog w K mg base cl "_law_gcd" 1 ["_law_one","_law_other"] afm:=⟨_,_,G30,b30,k30,n30⟩
 have G31:=ai9 (P:=l.prog) (w:=w) (mg:=mg) (base:=base) (cl:=cl) F31 C30 m_tuple
 have C31:Cal l.prog w K mg base cl "_law_lowest" 2 ["_law_numbers"] aaF:=⟨_,_,G31,b31,k31,n31⟩
 have G32:=akM (P:=l.prog) (w:=w) (mg:=mg) (base:=base) (cl:=cl) F32 C31
 have C32:Cal l.prog w K mg base cl "_law_frac" 3 ["_law_top","_law_bottom"] abD:=⟨_,_,G32,b32,k32,n32⟩
 have G45:=ahu (P:=l.prog) (w:=w) (mg:=mg) (base:=base) (cl:=cl) F45 C29 C32 m_range
 have C45:Cal l.prog w K mg base cl "_law_stretch" 4 ["_law_row_here","_law_dims"] acg:=⟨_,_,G45,b45,k45,n45⟩
 have G36:=amK (P:=l.prog) (w:=w) (mg:=mg) (base:=base) (cl:=cl) F36 m_sum m_zip
 have C36:Cal l.prog w K mg base cl "_law_dot" 1 ["_law_u","_law_v"] afU:=⟨_,_,G36,b36,k36,n36⟩
 have G35:=aj4 (P:=l.prog) (w:=w) (mg:=mg) (base:=base) (cl:=cl) F35
 have C35:Cal l.prog w K mg base cl "_law_cross" 1 ["_law_u","_law_v"] adv:=⟨_,_,G35,b35,k35,n35⟩
 have G37:=akR (P:=l.prog) (w:=w) (mg:=mg) (base:=base) (cl:=cl) F37 C36 C35 m_len
 have C37:Cal l.prog w K mg base cl "_law_turn" 2 ["_law_ways"] abP:=⟨_,_,G37,b37,k37,n37⟩
 have G41:=ag3 (P:=l.prog) (w:=w) (mg:=mg) (base:=base) (cl:=cl) F41 C37 m_zip
 have C41:Cal l.prog w K mg base cl "_law_raw_turn" 3 ["_law_corners"] abH:=⟨_,_,G41,b41,k41,n41⟩
 have G40:=anF (P:=l.prog) (w:=w) (mg:=mg) (base:=base) (cl:=cl) F40 C29 C41 m_int m_range
 have C40:Cal l.prog w K mg base cl "_law_raw" 4 ["_law_row_here","_law_dims","_law_wide"] ada:=⟨_,_,G40,b40,k40,n40⟩
 have G42:=ale (P:=l.prog) (w:=w) (mg:=mg) (base:=base) (cl:=cl) F42 C29 m_len m_list m_range
 have C42:Cal l.prog w K mg base cl "_law_kuhn" 2 ["_law_row_here"] aec:=⟨_,_,G42,b42,k42,n42⟩
 have G43:=agP (P:=l.prog) (w:=w) (mg:=mg) (base:=base) (cl:=cl) F43 C29 C40 C42 m_int m_len m_range
 have C43:Cal l.prog w K mg base cl "_law_raw_heap" 5 ["_law_row_here","_law_dims","_law_many"] abZ:=⟨_,_,G43,b43,k43,n43⟩
 have G34:=anq (P:=l.prog) (w:=w) (mg:=mg) (base:=base) (cl:=cl) F34 m_len m_range
 have C34:Cal l.prog w K mg base cl "_law_gap" 1 ["_law_p","_law_q"] aez:=⟨_,_,G34,b34,k34,n34⟩
 have G38:=amp (P:=l.prog) (w:=w) (mg:=mg) (base:=base) (cl:=cl) F38 C37 C34
 have C38:Cal l.prog w K mg base cl "_law_det" 3 ["_law_points"] aca:=⟨_,_,G38,b38,k38,n38⟩
 have G39:=ahx (P:=l.prog) (w:=w) (mg:=mg) (base:=base) (cl:=cl) F39 C38 m_sorted m_tuple
 have C39:Cal l.prog w K mg base cl "_law_simplex" 4 ["_law_points"] aaU:=⟨_,_,G39,b39,k39,n39⟩
 have G46:=alw (P:=l.prog) (w:=w) (mg:=mg) (base:=base) (cl:=cl) F46 C31 m_zip
 have C46:Cal l.prog w K mg base cl "_law_spot" 3 ["_law_corner","_law_stretch_here"] abB:=⟨_,_,G46,b46,k46,n46⟩
 have G44:=amQ (P:=l.prog) (w:=w) (mg:=mg) (base:=base) (cl:=cl) F44 C29 C31 m_range
 have C44:Cal l.prog w K mg base cl "_law_far" 3 ["_law_row_here","_law_dims"] acF:=⟨_,_,G44,b44,k44,n44⟩
 have G33:=aiY (P:=l.prog) (w:=w) (mg:=mg) (base:=base) (cl:=cl) F33 C31 m_len m_range
 have C33:Cal l.prog w K mg base cl "_law_joined" 3 ["_law_p","_law_q","_law_way"] abh:=⟨_,_,G33,b33,k33,n33⟩
 have G47:=ak0 (P:=l.prog) (w:=w) (mg:=mg) (base:=base) (cl:=cl) F47 C44 C39 C33 C46 m_len
 have C47:Cal l.prog w K mg base cl "_law_laid" 5 ["_law_row_here","_law_heap","_law_stretch_here"] adS:=⟨_,_,G47,b47,k47,n47⟩
 have G51:=akx (P:=l.prog) (w:=w) (mg:=mg) (base:=base) (cl:=cl) F51 C29 C31 m_range
 have C51:Cal l.prog w K mg base cl "_law_shift" 3 ["_law_row_here","_law_dims"] acE:=⟨_,_,G51,b51,k51,n51⟩
 have G52:=agv (P:=l.prog) (w:=w) (mg:=mg) (base:=base) (cl:=cl) F52 C31 m_len m_range m_sum m_zip
 have C52:Cal l.prog w K mg base cl "_law_weighted" 3 ["_law_points","_law_weights"] abX:=⟨_,_,G52,b52,k52,n52⟩
 have G48:=aiF (P:=l.prog) (w:=w) (mg:=mg) (base:=base) (cl:=cl) F48 C38 m_len m_list m_range
 have C48:Cal l.prog w K mg base cl "_law_within" 4 ["_law_points","_law_p"] acy:=⟨_,_,G48,b48,k48,n48⟩
 have G49:=akd (P:=l.prog) (w:=w) (mg:=mg) (base:=base) (cl:=cl) F49 C48
 have C49:Cal l.prog w K mg base cl "_law_count" 5 ["_law_heap","_law_p"] ab5:=⟨_,_,G49,b49,k49,n49⟩
 have G50:=ai7 (P:=l.prog) (w:=w) (mg:=mg) (base:=base) (cl:=cl) F50
 have C50:Cal l.prog w K mg base cl "_law_raised" 1 ["_law_p"] ab3:=⟨_,_,G50,b50,k50,n50⟩
 have GX23:=afu (P:=l.prog) (w:=w) (mg:=mg) (base:=base) (cl:=cl) F23 q_Flat x_Flat
 have G23:=x0 GX23
 have G22:=ahJ (P:=l.prog) (w:=w) (mg:=mg) (base:=base) (cl:=cl) F22
 have C22:Cal l.prog w K mg base cl "in_space" 1 ["p"] ab0:=⟨_,_,G22,b22,k22,n22⟩
 have G7:=aiG (P:=l.prog) (w:=w) (mg:=mg) (base:=base) (cl:=cl) F7 m_abs
 have C7:Cal l.prog w K mg base cl "divisor" 1 ["one","other"] acz:=⟨_,_,G7,b7,k7,n7⟩
 have G8:=aiU (P:=l.prog) (w:=w) (mg:=mg) (base:=base) (cl:=cl) F8 C7
 have C8:Cal l.prog w K mg base cl "reduced" 2 ["numbers"] acY:=⟨_,_,G8,b8,k8,n8⟩
 have G6:=anf (P:=l.prog) (w:=w) (mg:=mg) (base:=base) (cl:=cl) F6
 have C6:Cal l.prog w K mg base cl "sign" 1 ["number"] ad9:=⟨_,_,G6,b6,k6,n6⟩
 have GX10:=akL (P:=l.prog) (w:=w) (mg:=mg) (base:=base) (cl:=cl) F10 C8 C6 m_list m_tuple q_NoPoint x_NoPoint
 have G10:=x0 GX10
 have G11:=alk (P:=l.prog) (w:=w) (mg:=mg) (base:=base) (cl:=cl) F11 G10 b10 k10 n10 m_zip
 have C11:Cal l.prog w K mg base cl "added" 4 ["p","q"] acu:=⟨_,_,G11,b11,k11,n11⟩
 have G12:=afp (P:=l.prog) (w:=w) (mg:=mg) (base:=base) (cl:=cl) F12 m_zip
 have C12:Cal l.prog w K mg base cl "whole_arrow" 1 ["start","end"] abe:=⟨_,_,G12,b12,k12,n12⟩
 have G13:=aoU (P:=l.prog) (w:=w) (mg:=mg) (base:=base) (cl:=cl) F13 m_sum m_zip
 have C13:Cal l.prog w K mg base cl "dot" 1 ["u","v"] aiP:=⟨_,_,G13,b13,k13,n13⟩
 have G14:=akD (P:=l.prog) (w:=w) (mg:=mg) (base:=base) (cl:=cl) F14 m_len
 have C14:Cal l.prog w K mg base cl "normal" 1 ["arrows"] acI:=⟨_,_,G14,b14,k14,n14⟩
 have G15:=afq (P:=l.prog) (w:=w) (mg:=mg) (base:=base) (cl:=cl) F15 C12 C13 C14
 have C15:Cal l.prog w K mg base cl "determinant" 2 ["points"] abg:=⟨_,_,G15,b15,k15,n15⟩
 have G16:=ans (P:=l.prog) (w:=w) (mg:=mg) (base:=base) (cl:=cl) F16 C6 C15
 have C16:Cal l.prog w K mg base cl "side" 3 ["points"] adc:=⟨_,_,G16,b16,k16,n16⟩
 have GX18:=ai1 (P:=l.prog) (w:=w) (mg:=mg) (base:=base) (cl:=cl) F18 C16 m_sorted m_tuple q_Flat x_Flat
 have G18:=x0 GX18
 have GX24:=akS (P:=l.prog) (w:=w) (mg:=mg) (base:=base) (cl:=cl) F24 GX23 G23 b23 k23 n23 C22 C11 GX18 G18 b18 k18 n18 m_range m_tuple
 have G24:=x0 GX24
 have G19:=ahq (P:=l.prog) (w:=w) (mg:=mg) (base:=base) (cl:=cl) F19
 have C19:Cal l.prog w K mg base cl "replaced" 1 ["row","place","value"] ab1:=⟨_,_,G19,b19,k19,n19⟩
 have G20:=aho (P:=l.prog) (w:=w) (mg:=mg) (base:=base) (cl:=cl) F20 C16 C19 m_len m_min m_range
 have C20:Cal l.prog w K mg base cl "standing" 4 ["piece","p"] acd:=⟨_,_,G20,b20,k20,n20⟩
 have GX26:=ahl (P:=l.prog) (w:=w) (mg:=mg) (base:=base) (cl:=cl) F26 C20 q_OnSide x_OnSide
 have G26:=x0 GX26
 exact (aoN (P:=l.prog) (w:=w) (mg:=mg) (base:=base) (cl:=cl) F53 C28 C45 C43 C29 C39 C46 C47 C51 C44 C52 C32 C49 C33 C31 C50 G24 b24 k24 n24 G26 b26 k26 n26 m_len m_range m_sum m_tuple).imp fun vs H Q E h=>amS ak3 h
theorem walk {l:PySem.W.OpenLaw} {q:Program} {loose:List Str} {XP:(Str→Option Value)→Heap→Prop} {YP:World→Heap→Prop} {d:DefRec} {K:Params→PySem.W.Frag} (hn:l.most=some 63) (hdf:d.params.defaults=[])
  (hY:∀ (w:World) (h:Heap),YP w h→(K w.params).In h)
  (F:∀ (w:World) (mg:Str→Option Value) (fa:Addr) (h:Heap),(K w.params).In h→h.Ns mainGlobals mg→mg d.name=some (.ref fa) →
   ∃ fd:FuncData,(∀ (s:Shared) (u:Value),BindsTo s fd ⟨[u],[]⟩ [("_law_script",u)])∧∀ base:Heap,(K w.params).In base→base.Ns mainGlobals mg→FnOk l.prog w (K w.params) mg base CX0 6 fa fd ["_law_script"] (alr (K w.params))) :
  PySem.W.WalkO q loose XP YP l.row.toRowW d [] (fun f vs=>PySem.call f vs) :=
 L2.walk_of (n:=63) (k:=6) (x:="_law_script") (CX:=fun _=>CX0) (sp:=fun w=>alr (K w.params)) hn (by decide) hdf ⟨rfl,by decide,by decide⟩ hY F (fun _ _ a ns hl _ hS=>⟨a,ns,rfl,hS,hl,fun _=>rfl⟩) fun _ _ _ _ _ z=>z
end Sc
open PySem PySem.W PyProof.Rows
set_option maxRecDepth 100000 in
set_option maxHeartbeats 0 in
theorem PySem.Challenge.cw_scissorhall_k63_prisms_by_points_holds : PySem.Challenge.rw_scissorhall_k63_prisms_by_points.Holds := by
 w_on; o_law
 refine holds_open (q:=Sc.VW) (loose:=[PySem.Str.ofString "point"]) (Xt:=fun s=>xlAt Sc.VW [] s && recOk (RowW.records (OpenRow.toRowW (OpenLaw.row PySem.Challenge.rw_scissorhall_k63_prisms_by_points))) s) (XP:=XL Sc.VW []) (Yf:=Hook.obs (kHook Sc.KK Sc.KA Sc.KE)) (Ya:=Hook.val (kHook Sc.KK Sc.KA Sc.KE)) (YP:=Hook.says (kHook Sc.KK Sc.KA Sc.KE)) (N:=4374) Sc.left (Hook.of (kHook Sc.KK Sc.KA Sc.KE)) (Hook.keeps (kHook Sc.KK Sc.KA Sc.KE)) (fun s e=>xl_of s (Bool.and_eq_true_iff.mp e).1) XL.keeps (by rfl) (by rfl) (by rfl) (fun s e=>recFacts_of (Bool.and_eq_true_iff.mp e).2) (by rfl) (by first | assumption | decide +kernel) (by decide +kernel) ⟨rfl,rfl,rfl,rfl,rfl,by decide +kernel⟩ ?hw ?hc
 case hw=>w_witness2
 k_fill
 refine Sc.walk (l:=PySem.Challenge.rw_scissorhall_k63_prisms_by_points) rfl rfl (fun w h Y=>PySem.W.kIn_of Y) ?F
 case F =>
  intro w mg fa h KX G hmg
  refine' Sc.all_mk KX G hmg ?a28 ?l28 ?c28 ?k28 ?a29 ?l29 ?c29 ?k29 ?a30 ?l30 ?c30 ?k30 ?a31 ?l31 ?c31 ?k31 ?a32 ?l32 ?c32 ?k32 ?a45 ?l45 ?c45 ?k45 ?a36 ?l36 ?c36 ?k36 ?a35 ?l35 ?c35 ?k35 ?a37 ?l37 ?c37 ?k37 ?a41 ?l41 ?c41 ?k41 ?a40 ?l40 ?c40 ?k40 ?a42 ?l42 ?c42 ?k42 ?a43 ?l43 ?c43 ?k43 ?a34 ?l34 ?c34 ?k34 ?a38 ?l38 ?c38 ?k38 ?a39 ?l39 ?c39 ?k39 ?a46 ?l46 ?c46 ?k46 ?a44 ?l44 ?c44 ?k44 ?a33 ?l33 ?c33 ?k33 ?a47 ?l47 ?c47 ?k47 ?a51 ?l51 ?c51 ?k51 ?a52 ?l52 ?c52 ?k52 ?a48 ?l48 ?c48 ?k48 ?a49 ?l49 ?c49 ?k49 ?a50 ?l50 ?c50 ?k50 ?a23 ?l23 ?c23 ?k23 ?a22 ?l22 ?c22 ?k22 ?a7 ?l7 ?c7 ?k7 ?a8 ?l8 ?c8 ?k8 ?a6 ?l6 ?c6 ?k6 ?a10 ?l10 ?c10 ?k10 ?t10 ?a11 ?l11 ?c11 ?k11 ?a12 ?l12 ?c12 ?k12 ?a13 ?l13 ?c13 ?k13 ?a14 ?l14 ?c14 ?k14 ?a15 ?l15 ?c15 ?k15 ?a16 ?l16 ?c16 ?k16 ?a18 ?l18 ?c18 ?k18 ?a24 ?l24 ?c24 ?k24 ?a19 ?l19 ?c19 ?k19 ?a20 ?l20 ?c20 ?k20 ?a26 ?l26 ?c26 ?k26 ?a53 ?l53 ?c53 ?k53 ?z1 ?z2 ?z3 ?z4 ?z5 ?z6 ?z7 ?z8 ?z9 ?z10 ?z11 ?y1 ?x1 ?y2 ?x2 ?y3 ?x3
  (case a28=>k_is)
  (case l28=>k_is)
  (case c28=>k_is)
  (case k28=>k_is)
  (case a29=>k_is)
  (case l29=>k_is)
  (case c29=>k_is)
  (case k29=>k_is)
  (case a30=>k_is)
  (case l30=>k_is)
  (case c30=>k_is)
  (case k30=>k_is)
  (case a31=>k_is)
  (case l31=>k_is)
  (case c31=>k_is)
  (case k31=>k_is)
  (case a32=>k_is)
  (case l32=>k_is)
  (case c32=>k_is)
  (case k32=>k_is)
  (case a45=>k_is)
  (case l45=>k_is)
  (case c45=>k_is)
  (case k45=>k_is)
  (case a36=>k_is)
  (case l36=>k_is)
  (case c36=>k_is)
  (case k36=>k_is)
  (case a35=>k_is)
  (case l35=>k_is)
  (case c35=>k_is)
  (case k35=>k_is)
  (case a37=>k_is)
  (case l37=>k_is)
  (case c37=>k_is)
  (case k37=>k_is)
  (case a41=>k_is)
  (case l41=>k_is)
  (case c41=>k_is)
  (case k41=>k_is)
  (case a40=>k_is)
  (case l40=>k_is)
  (case c40=>k_is)
  (case k40=>k_is)
  (case a42=>k_is)
  (case l42=>k_is)
  (case c42=>k_is)
  (case k42=>k_is)
  (case a43=>k_is)
  (case l43=>k_is)
  (case c43=>k_is)
  (case k43=>k_is)
  (case a34=>k_is)
  (case l34=>k_is)
  (case c34=>k_is)
  (case k34=>k_is)
  (case a38=>k_is)
  (case l38=>k_is)
  (case c38=>k_is)
  (case k38=>k_is)
  (case a39=>k_is)
  (case l39=>k_is)
  (case c39=>k_is)
  (case k39=>k_is)
  (case a46=>k_is)
  (case l46=>k_is)
  (case c46=>k_is)
  (case k46=>k_is)
  (case a44=>k_is)
  (case l44=>k_is)
  (case c44=>k_is)
  (case k44=>k_is)
  (case a33=>k_is)
  (case l33=>k_is)
  (case c33=>k_is)
  (case k33=>k_is)
  (case a47=>k_is)
  (case l47=>k_is)
  (case c47=>k_is)
  (case k47=>k_is)
  (case a51=>k_is)
  (case l51=>k_is)
  (case c51=>k_is)
  (case k51=>k_is)
  (case a52=>k_is)
  (case l52=>k_is)
  (case c52=>k_is)
  (case k52=>k_is)
  (case a48=>k_is)
  (case l48=>k_is)
  (case c48=>k_is)
  (case k48=>k_is)
  (case a49=>k_is)
  (case l49=>k_is)
  (case c49=>k_is)
  (case k49=>k_is)
  (case a50=>k_is)
  (case l50=>k_is)
  (case c50=>k_is)
  (case k50=>k_is)
  (case a23=>k_is)
  (case l23=>k_is)
  (case c23=>k_is)
  (case k23=>k_is)
  (case a22=>k_is)
  (case l22=>k_is)
  (case c22=>k_is)
  (case k22=>k_is)
  (case a7=>k_is)
  (case l7=>k_is)
  (case c7=>k_is)
  (case k7=>k_is)
  (case a8=>k_is)
  (case l8=>k_is)
  (case c8=>k_is)
  (case k8=>k_is)
  (case a6=>k_is)
  (case l6=>k_is)
  (case c6=>k_is)
  (case k6=>k_is)
  (case a10=>k_is)
  (case l10=>k_is)
  (case c10=>k_is)
  (case k10=>k_is)
  (case t10=>k_is)
  (case a11=>k_is)
  (case l11=>k_is)
  (case c11=>k_is)
  (case k11=>k_is)
  (case a12=>k_is)
  (case l12=>k_is)
  (case c12=>k_is)
  (case k12=>k_is)
  (case a13=>k_is)
  (case l13=>k_is)
  (case c13=>k_is)
  (case k13=>k_is)
  (case a14=>k_is)
  (case l14=>k_is)
  (case c14=>k_is)
  (case k14=>k_is)
  (case a15=>k_is)
  (case l15=>k_is)
  (case c15=>k_is)
  (case k15=>k_is)
  (case a16=>k_is)
  (case l16=>k_is)
  (case c16=>k_is)
  (case k16=>k_is)
  (case a18=>k_is)
  (case l18=>k_is)
  (case c18=>k_is)
  (case k18=>k_is)
  (case a24=>k_is)
  (case l24=>k_is)
  (case c24=>k_is)
  (case k24=>k_is)
  (case a19=>k_is)
  (case l19=>k_is)
  (case c19=>k_is)
  (case k19=>k_is)
  (case a20=>k_is)
  (case l20=>k_is)
  (case c20=>k_is)
  (case k20=>k_is)
  (case a26=>k_is)
  (case l26=>k_is)
  (case c26=>k_is)
  (case k26=>k_is)
  (case a53=>k_is)
  (case l53=>k_is)
  (case c53=>k_is)
  (case k53=>k_is)
  (case z1=>k_is)
  (case z2=>k_is)
  (case z3=>k_is)
  (case z4=>k_is)
  (case z5=>k_is)
  (case z6=>k_is)
  (case z7=>k_is)
  (case z8=>k_is)
  (case z9=>k_is)
  (case z10=>k_is)
  (case z11=>k_is)
  (case y1=>k_is)
  (case x1=>k_exc)
  (case y2=>k_is)
  (case x2=>k_exc)
  (case y3=>k_is)
  (case x3=>k_exc)
#print axioms PySem.Challenge.cw_scissorhall_k63_prisms_by_points_holds
