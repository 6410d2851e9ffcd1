import PyProof.Rows.All
import Wide.All
import OpenK.AllK
import Wide.FinOn
import Lean
import PyProof.EqAt
import PyProof.EqKinds
import PyProof.TupleCall
import PyProof.ZipIter
import PyProof.Draws
import PyProof.CompFree
import PyProof.NeKinds
import PyProof.NsDelKeeps
import PyProof.ExcArgsOwn
import PyProof.ExcAttrAll.ValueError
import KE.KSortTup
import KE.KIntText
import PyProof.FitsReplace
import PyProof.StrWalks
import PySem.Challenge.RW_scissorhall_k82_points_written
set_option Elab.async false
set_option maxRecDepth 100000
set_option maxHeartbeats 0
namespace L2
open PySem
def aaz (s:Stmt):Arguments:=match s with
 | .FunctionDef _ a _ _ _ _ _ _ _ _=>a
 | _=>{ posonlyargs:=[],args:=[],vararg:=none,kwonlyargs:=[],kw_defaults:=[],kwarg:=none,defaults:=[] }
def aaw (s:Stmt):List Stmt:=match s with
 | .FunctionDef _ _ b _ _ _ _ _ _ _=>b
 | _=>[]
def aae (s:Stmt):Scope:=match s with
 | .FunctionDef _ _ _ _ _ _ sc _ _ _=>sc
 | _=>{ kind:=.function,names:=[],isGenerator:=false,isCoroutine:=false }
end L2
namespace Sc
open PySem L2
def top (i:Nat):Stmt:=PySem.Challenge.pw_scissorhall_k82_points_written.main.body.getD i (.Pass ⟨0,0,0,0⟩)
abbrev vs (s:String) (t:Nat):Value:=.str (Str.ofString s) t
abbrev vi (i:Int):Value:=.int i 0
abbrev vr (a:Nat):Value:=.ref a
abbrev fo (n:String) (i:Nat) (dV dc pm cd ct:Value):Obj:=⟨.type "function",none,.func (PySem.W.fnOf (Str.ofString n) (Str.ofString n) (aaz (top i)) (aaw (top i)) (aae (top i)) dV .none dc pm none cd ct),#[]⟩
abbrev fc (l:List Value):Obj:=⟨.type "code",none,.fields l.toArray,#[]⟩
abbrev fd (P:Params) (n:Nat) (l:List (String × Nat × Value)):Obj:=⟨.type "dict",none,.dict (l.map fun e=>⟨PyData.keyHash P (Str.ofString e.1),.str (Str.ofString e.1) e.2.1,e.2.2⟩).toArray n,#[]⟩
noncomputable def KK (P:Params):PySem.W.Frag :=
 (nat_lit 3,fd P 50 [("__name__",165,vs "law_scissorhall_k82_points_written" 383),("__doc__",166,.none),("__package__",167,.none),("__loader__",168,(.builtin "__main__.__loader__#opaque")),("__spec__",169,.none),("__annotations__",170,vr 6),("__builtins__",171,vr 4),("__file__",173,vs "/claim/cut.py" 172),("__cached__",174,.none),("HallError",206,vr 24),("NoNumber",222,vr 37),("NoPoint",238,vr 49),("NoText",254,vr 61),("TooGreat",270,vr 73),("sign",279,vr 82),("divisor",288,vr 89),("reduced",294,vr 94),("fraction",304,vr 102),("point",313,vr 108),("measures",319,vr 113),("point_at",325,vr 118),("FIGURES",329,vs "0123456789" 328),("MOST_FIGURES",331,(.int 60 330)),("shown_whole",338,vr 125),("shown_number",346,vr 132),("shown_point",352,vr 137),("refuse_unless",359,vr 144),("read_whole",365,vr 149),("read_number",376,vr 156),("read_point",382,vr 161),("_law_row",397,vr 168),("_law_take",406,vr 175),("_law_gcd",414,vr 182),("_law_lowest",420,vr 187),("_law_whole",427,vr 194),("_law_wholes",433,vr 199),("_law_frac",441,vr 206),("_law_written",449,vr 213),("_law_point_text",455,vr 218),("_law_figures",461,vr 223),("_law_number_of",471,vr 230),("_law_point_of",477,vr 235),("_law_sign_at",486,vr 242),("_law_spoilt",497,vr 249),("_law_tens",506,vr 256),("_law_word_of",514,vr 263),("_law_number_word",523,vr 270),("_law_asked",531,vr 277),("_law_once",537,vr 282),("law",545,vr 289)]) ::
 (nat_lit 23,fd P 3 [("__module__",196,vs "scissorhall.errors" 187),("__firstlineno__",200,(.int 2 199)),("__static_attributes__",201,vr 22),("__weakref__",203,vr 25),("__doc__",204,.none)]) ::
 (nat_lit 24,⟨(.type "type"),none,.cls { name:="HallError",bases:=[(.type "ValueError")],mro:=[vr 24,(.type "ValueError"),(.type "Exception"),(.type "BaseException"),(.type "object")],ns:=23,qualname:="HallError",hasDict:=true,subclasses:=[vr 37,vr 49,vr 61,vr 73] },#[some (vr 15),none,some (vs "HallError" 189),some (vs "HallError" 197),some (.builtin "ValueError.__new__"),some (.bool true)]⟩) ::
 (nat_lit 36,fd P 2 [("__module__",214,vs "scissorhall.errors" 187),("__firstlineno__",218,(.int 4 217)),("__static_attributes__",219,vr 35),("__doc__",220,.none)]) ::
 (nat_lit 37,⟨(.type "type"),none,.cls { name:="NoNumber",bases:=[vr 24],mro:=[vr 37,vr 24,(.type "ValueError"),(.type "Exception"),(.type "BaseException"),(.type "object")],ns:=36,qualname:="NoNumber",hasDict:=true,subclasses:=[] },#[some (vr 28),none,some (vs "NoNumber" 207),some (vs "NoNumber" 215),some (.builtin "ValueError.__new__"),some (.bool true)]⟩) ::
 (nat_lit 48,fd P 2 [("__module__",230,vs "scissorhall.errors" 187),("__firstlineno__",234,(.int 6 233)),("__static_attributes__",235,vr 47),("__doc__",236,.none)]) ::
 (nat_lit 49,⟨(.type "type"),none,.cls { name:="NoPoint",bases:=[vr 24],mro:=[vr 49,vr 24,(.type "ValueError"),(.type "Exception"),(.type "BaseException"),(.type "object")],ns:=48,qualname:="NoPoint",hasDict:=true,subclasses:=[] },#[some (vr 40),none,some (vs "NoPoint" 223),some (vs "NoPoint" 231),some (.builtin "ValueError.__new__"),some (.bool true)]⟩) ::
 (nat_lit 60,fd P 2 [("__module__",246,vs "scissorhall.errors" 187),("__firstlineno__",250,(.int 8 249)),("__static_attributes__",251,vr 59),("__doc__",252,.none)]) ::
 (nat_lit 61,⟨(.type "type"),none,.cls { name:="NoText",bases:=[vr 24],mro:=[vr 61,vr 24,(.type "ValueError"),(.type "Exception"),(.type "BaseException"),(.type "object")],ns:=60,qualname:="NoText",hasDict:=true,subclasses:=[] },#[some (vr 52),none,some (vs "NoText" 239),some (vs "NoText" 247),some (.builtin "ValueError.__new__"),some (.bool true)]⟩) ::
 (nat_lit 72,fd P 2 [("__module__",262,vs "scissorhall.errors" 187),("__firstlineno__",266,(.int 10 265)),("__static_attributes__",267,vr 71),("__doc__",268,.none)]) ::
 (nat_lit 73,⟨(.type "type"),none,.cls { name:="TooGreat",bases:=[vr 24],mro:=[vr 73,vr 24,(.type "ValueError"),(.type "Exception"),(.type "BaseException"),(.type "object")],ns:=72,qualname:="TooGreat",hasDict:=true,subclasses:=[] },#[some (vr 64),none,some (vs "TooGreat" 255),some (vs "TooGreat" 263),some (.builtin "ValueError.__new__"),some (.bool true)]⟩) ::
 (nat_lit 81,fc [vs "sign" 273,vs "sign" 274,vs "/claim/cut.py" 275,vi 13,vi 1,vi 0,vi 0,vi 3,vr 76,(.bool true),vi 181,vr 77,.none,vr 78,vr 79,vr 80,vi 277,vi 13,vs "/claim/cut.py" 278]) ::
 (nat_lit 82,fo "sign" 7 .none .none (vs "scissorhall.lowest" 271) (vr 81) .none) ::
 (nat_lit 88,fc [vs "divisor" 280,vs "divisor" 281,vs "/claim/cut.py" 282,vi 19,vi 2,vi 0,vi 0,vi 3,vr 83,(.bool true),vi 181,vr 84,.none,vr 85,vr 86,vr 87,vi 286,vi 19,vs "/claim/cut.py" 287]) ::
 (nat_lit 89,fo "divisor" 8 .none .none (vs "scissorhall.lowest" 271) (vr 88) .none) ::
 (nat_lit 93,fc [vs "reduced" 289,vs "reduced" 290,vs "/claim/cut.py" 291,vi 25,vi 1,vi 0,vi 0,vi 3,vr 90,(.bool true),vi 181,vr 91,.none,.none,.none,vr 92,vi 292,vi 25,vs "/claim/cut.py" 293]) ::
 (nat_lit 94,fo "reduced" 9 .none .none (vs "scissorhall.lowest" 271) (vr 93) .none) ::
 (nat_lit 95,⟨.type "tuple",none,.seq #[(.int 1 295)] 0,#[]⟩) ::
 (nat_lit 101,fc [vs "fraction" 296,vs "fraction" 297,vs "/claim/cut.py" 298,vi 30,vi 2,vi 0,vi 0,vi 3,vr 96,(.bool true),vi 181,vr 97,.none,vr 98,vr 99,vr 100,vi 302,vi 30,vs "/claim/cut.py" 303]) ::
 (nat_lit 102,fo "fraction" 10 (vr 95) .none (vs "scissorhall.lowest" 271) (vr 101) .none) ::
 (nat_lit 103,⟨.type "tuple",none,.seq #[(.int 1 307)] 0,#[]⟩) ::
 (nat_lit 107,fc [vs "point" 308,vs "point" 309,vs "/claim/cut.py" 310,vi 36,vi 2,vi 0,vi 0,vi 3,vr 104,(.bool true),vi 181,vr 105,.none,.none,.none,vr 106,vi 311,vi 36,vs "/claim/cut.py" 312]) ::
 (nat_lit 108,fo "point" 12 (vr 103) .none (vs "scissorhall.points" 305) (vr 107) .none) ::
 (nat_lit 112,fc [vs "measures" 314,vs "measures" 315,vs "/claim/cut.py" 316,vi 40,vi 1,vi 0,vi 0,vi 3,vr 109,(.bool true),vi 181,vr 110,.none,.none,.none,vr 111,vi 317,vi 40,vs "/claim/cut.py" 318]) ::
 (nat_lit 113,fo "measures" 13 .none .none (vs "scissorhall.points" 305) (vr 112) .none) ::
 (nat_lit 117,fc [vs "point_at" 320,vs "point_at" 321,vs "/claim/cut.py" 322,vi 42,vi 1,vi 0,vi 0,vi 3,vr 114,(.bool true),vi 181,vr 115,.none,.none,.none,vr 116,vi 323,vi 42,vs "/claim/cut.py" 324]) ::
 (nat_lit 118,fo "point_at" 14 .none .none (vs "scissorhall.points" 305) (vr 117) .none) ::
 (nat_lit 124,fc [vs "shown_whole" 332,vs "shown_whole" 333,vs "/claim/cut.py" 334,vi 50,vi 1,vi 0,vi 0,vi 3,vr 119,(.bool true),vi 181,vr 120,.none,vr 121,vr 122,vr 123,vi 336,vi 50,vs "/claim/cut.py" 337]) ::
 (nat_lit 125,fo "shown_whole" 18 .none .none (vs "scissorhall.texts" 326) (vr 124) .none) ::
 (nat_lit 131,fc [vs "shown_number" 339,vs "shown_number" 340,vs "/claim/cut.py" 341,vi 54,vi 1,vi 0,vi 0,vi 3,vr 126,(.bool true),vi 181,vr 127,.none,vr 128,vr 129,vr 130,vi 344,vi 54,vs "/claim/cut.py" 345]) ::
 (nat_lit 132,fo "shown_number" 19 .none .none (vs "scissorhall.texts" 326) (vr 131) .none) ::
 (nat_lit 136,fc [vs "shown_point" 347,vs "shown_point" 348,vs "/claim/cut.py" 349,vi 61,vi 1,vi 0,vi 0,vi 3,vr 133,(.bool true),vi 181,vr 134,.none,.none,.none,vr 135,vi 350,vi 61,vs "/claim/cut.py" 351]) ::
 (nat_lit 137,fo "shown_point" 20 .none .none (vs "scissorhall.texts" 326) (vr 136) .none) ::
 (nat_lit 143,fc [vs "refuse_unless" 353,vs "refuse_unless" 354,vs "/claim/cut.py" 355,vi 63,vi 1,vi 0,vi 0,vi 3,vr 138,(.bool true),vi 181,vr 139,.none,vr 140,vr 141,vr 142,vi 357,vi 63,vs "/claim/cut.py" 358]) ::
 (nat_lit 144,fo "refuse_unless" 21 .none .none (vs "scissorhall.texts" 326) (vr 143) .none) ::
 (nat_lit 148,fc [vs "read_whole" 360,vs "read_whole" 361,vs "/claim/cut.py" 362,vi 66,vi 1,vi 0,vi 0,vi 3,vr 145,(.bool true),vi 181,vr 146,.none,.none,.none,vr 147,vi 363,vi 66,vs "/claim/cut.py" 364]) ::
 (nat_lit 149,fo "read_whole" 22 .none .none (vs "scissorhall.texts" 326) (vr 148) .none) ::
 (nat_lit 155,fc [vs "read_number" 366,vs "read_number" 367,vs "/claim/cut.py" 368,vi 69,vi 1,vi 0,vi 0,vi 3,vr 150,(.bool true),vi 181,vr 151,.none,vr 152,vr 153,vr 154,vi 374,vi 69,vs "/claim/cut.py" 375]) ::
 (nat_lit 156,fo "read_number" 23 .none .none (vs "scissorhall.texts" 326) (vr 155) .none) ::
 (nat_lit 160,fc [vs "read_point" 377,vs "read_point" 378,vs "/claim/cut.py" 379,vi 77,vi 1,vi 0,vi 0,vi 3,vr 157,(.bool true),vi 181,vr 158,.none,.none,.none,vr 159,vi 380,vi 77,vs "/claim/cut.py" 381]) ::
 (nat_lit 161,fo "read_point" 24 .none .none (vs "scissorhall.texts" 326) (vr 160) .none) ::
 (nat_lit 167,fc [vs "_law_row" 385,vs "_law_row" 386,vs "/claim/cut.py" 387,vi 82,vi 1,vi 0,vi 0,vi 3,vr 162,(.bool true),vi 181,vr 163,.none,vr 164,vr 165,vr 166,vi 395,vi 82,vs "/claim/cut.py" 396]) ::
 (nat_lit 168,fo "_law_row" 26 .none .none (vs "law_scissorhall_k82_points_written" 383) (vr 167) .none) ::
 (nat_lit 174,fc [vs "_law_take" 398,vs "_law_take" 399,vs "/claim/cut.py" 400,vi 96,vi 2,vi 0,vi 0,vi 3,vr 169,(.bool true),vi 181,vr 170,.none,vr 171,vr 172,vr 173,vi 404,vi 96,vs "/claim/cut.py" 405]) ::
 (nat_lit 175,fo "_law_take" 27 .none .none (vs "law_scissorhall_k82_points_written" 383) (vr 174) .none) ::
 (nat_lit 181,fc [vs "_law_gcd" 407,vs "_law_gcd" 408,vs "/claim/cut.py" 409,vi 104,vi 2,vi 0,vi 0,vi 3,vr 176,(.bool true),vi 181,vr 177,.none,vr 178,vr 179,vr 180,vi 412,vi 104,vs "/claim/cut.py" 413]) ::
 (nat_lit 182,fo "_law_gcd" 28 .none .none (vs "law_scissorhall_k82_points_written" 383) (vr 181) .none) ::
 (nat_lit 186,fc [vs "_law_lowest" 415,vs "_law_lowest" 416,vs "/claim/cut.py" 417,vi 110,vi 1,vi 0,vi 0,vi 3,vr 183,(.bool true),vi 181,vr 184,.none,.none,.none,vr 185,vi 418,vi 110,vs "/claim/cut.py" 419]) ::
 (nat_lit 187,fo "_law_lowest" 29 .none .none (vs "law_scissorhall_k82_points_written" 383) (vr 186) .none) ::
 (nat_lit 193,fc [vs "_law_whole" 421,vs "_law_whole" 422,vs "/claim/cut.py" 423,vi 117,vi 1,vi 0,vi 0,vi 3,vr 188,(.bool true),vi 181,vr 189,.none,vr 190,vr 191,vr 192,vi 425,vi 117,vs "/claim/cut.py" 426]) ::
 (nat_lit 194,fo "_law_whole" 30 .none .none (vs "law_scissorhall_k82_points_written" 383) (vr 193) .none) ::
 (nat_lit 198,fc [vs "_law_wholes" 428,vs "_law_wholes" 429,vs "/claim/cut.py" 430,vi 119,vi 2,vi 0,vi 0,vi 3,vr 195,(.bool true),vi 181,vr 196,.none,.none,.none,vr 197,vi 431,vi 119,vs "/claim/cut.py" 432]) ::
 (nat_lit 199,fo "_law_wholes" 31 .none .none (vs "law_scissorhall_k82_points_written" 383) (vr 198) .none) ::
 (nat_lit 205,fc [vs "_law_frac" 434,vs "_law_frac" 435,vs "/claim/cut.py" 436,vi 123,vi 2,vi 0,vi 0,vi 3,vr 200,(.bool true),vi 181,vr 201,.none,vr 202,vr 203,vr 204,vi 439,vi 123,vs "/claim/cut.py" 440]) ::
 (nat_lit 206,fo "_law_frac" 32 .none .none (vs "law_scissorhall_k82_points_written" 383) (vr 205) .none) ::
 (nat_lit 212,fc [vs "_law_written" 442,vs "_law_written" 443,vs "/claim/cut.py" 444,vi 127,vi 2,vi 0,vi 0,vi 3,vr 207,(.bool true),vi 181,vr 208,.none,vr 209,vr 210,vr 211,vi 447,vi 127,vs "/claim/cut.py" 448]) ::
 (nat_lit 213,fo "_law_written" 33 .none .none (vs "law_scissorhall_k82_points_written" 383) (vr 212) .none) ::
 (nat_lit 217,fc [vs "_law_point_text" 450,vs "_law_point_text" 451,vs "/claim/cut.py" 452,vi 134,vi 1,vi 0,vi 0,vi 3,vr 214,(.bool true),vi 181,vr 215,.none,.none,.none,vr 216,vi 453,vi 134,vs "/claim/cut.py" 454]) ::
 (nat_lit 218,fo "_law_point_text" 34 .none .none (vs "law_scissorhall_k82_points_written" 383) (vr 217) .none) ::
 (nat_lit 222,fc [vs "_law_figures" 456,vs "_law_figures" 457,vs "/claim/cut.py" 458,vi 139,vi 1,vi 0,vi 0,vi 3,vr 219,(.bool true),vi 181,vr 220,.none,.none,.none,vr 221,vi 459,vi 139,vs "/claim/cut.py" 460]) ::
 (nat_lit 223,fo "_law_figures" 35 .none .none (vs "law_scissorhall_k82_points_written" 383) (vr 222) .none) ::
 (nat_lit 229,fc [vs "_law_number_of" 462,vs "_law_number_of" 463,vs "/claim/cut.py" 464,vi 143,vi 1,vi 0,vi 0,vi 3,vr 224,(.bool true),vi 181,vr 225,.none,vr 226,vr 227,vr 228,vi 469,vi 143,vs "/claim/cut.py" 470]) ::
 (nat_lit 230,fo "_law_number_of" 36 .none .none (vs "law_scissorhall_k82_points_written" 383) (vr 229) .none) ::
 (nat_lit 234,fc [vs "_law_point_of" 472,vs "_law_point_of" 473,vs "/claim/cut.py" 474,vi 158,vi 1,vi 0,vi 0,vi 3,vr 231,(.bool true),vi 181,vr 232,.none,.none,.none,vr 233,vi 475,vi 158,vs "/claim/cut.py" 476]) ::
 (nat_lit 235,fo "_law_point_of" 37 .none .none (vs "law_scissorhall_k82_points_written" 383) (vr 234) .none) ::
 (nat_lit 241,fc [vs "_law_sign_at" 478,vs "_law_sign_at" 479,vs "/claim/cut.py" 480,vi 169,vi 1,vi 0,vi 0,vi 3,vr 236,(.bool true),vi 181,vr 237,.none,vr 238,vr 239,vr 240,vi 484,vi 169,vs "/claim/cut.py" 485]) ::
 (nat_lit 242,fo "_law_sign_at" 38 .none .none (vs "law_scissorhall_k82_points_written" 383) (vr 241) .none) ::
 (nat_lit 248,fc [vs "_law_spoilt" 487,vs "_law_spoilt" 488,vs "/claim/cut.py" 489,vi 175,vi 2,vi 0,vi 0,vi 3,vr 243,(.bool true),vi 181,vr 244,.none,vr 245,vr 246,vr 247,vi 495,vi 175,vs "/claim/cut.py" 496]) ::
 (nat_lit 249,fo "_law_spoilt" 39 .none .none (vs "law_scissorhall_k82_points_written" 383) (vr 248) .none) ::
 (nat_lit 255,fc [vs "_law_tens" 498,vs "_law_tens" 499,vs "/claim/cut.py" 500,vi 186,vi 1,vi 0,vi 0,vi 3,vr 250,(.bool true),vi 181,vr 251,.none,vr 252,vr 253,vr 254,vi 504,vi 186,vs "/claim/cut.py" 505]) ::
 (nat_lit 256,fo "_law_tens" 40 .none .none (vs "law_scissorhall_k82_points_written" 383) (vr 255) .none) ::
 (nat_lit 262,fc [vs "_law_word_of" 507,vs "_law_word_of" 508,vs "/claim/cut.py" 509,vi 191,vi 1,vi 0,vi 0,vi 3,vr 257,(.bool true),vi 181,vr 258,.none,vr 259,vr 260,vr 261,vi 512,vi 191,vs "/claim/cut.py" 513]) ::
 (nat_lit 263,fo "_law_word_of" 41 .none .none (vs "law_scissorhall_k82_points_written" 383) (vr 262) .none) ::
 (nat_lit 269,fc [vs "_law_number_word" 515,vs "_law_number_word" 516,vs "/claim/cut.py" 517,vi 196,vi 1,vi 0,vi 0,vi 3,vr 264,(.bool true),vi 181,vr 265,.none,vr 266,vr 267,vr 268,vi 521,vi 196,vs "/claim/cut.py" 522]) ::
 (nat_lit 270,fo "_law_number_word" 42 .none .none (vs "law_scissorhall_k82_points_written" 383) (vr 269) .none) ::
 (nat_lit 276,fc [vs "_law_asked" 524,vs "_law_asked" 525,vs "/claim/cut.py" 526,vi 206,vi 1,vi 0,vi 0,vi 3,vr 271,(.bool true),vi 181,vr 272,.none,vr 273,vr 274,vr 275,vi 529,vi 206,vs "/claim/cut.py" 530]) ::
 (nat_lit 277,fo "_law_asked" 43 .none .none (vs "law_scissorhall_k82_points_written" 383) (vr 276) .none) ::
 (nat_lit 281,fc [vs "_law_once" 532,vs "_law_once" 533,vs "/claim/cut.py" 534,vi 213,vi 1,vi 0,vi 0,vi 3,vr 278,(.bool true),vi 181,vr 279,.none,.none,.none,vr 280,vi 535,vi 213,vs "/claim/cut.py" 536]) ::
 (nat_lit 282,fo "_law_once" 44 .none .none (vs "law_scissorhall_k82_points_written" 383) (vr 281) .none) ::
 (nat_lit 288,fc [vs "law" 538,vs "law" 539,vs "/claim/cut.py" 540,vi 239,vi 1,vi 0,vi 0,vi 3,vr 283,(.bool true),vi 181,vr 284,.none,vr 285,vr 286,vr 287,vi 543,vi 239,vs "/claim/cut.py" 544]) ::
 (nat_lit 289,fo "law" 45 .none .none (vs "law_scissorhall_k82_points_written" 383) (vr 288) .none) :: []
noncomputable def KA:List Nat:=[3,23,24,36,37,48,49,60,61,72,73,81,82,88,89,93,94,95,101,102,103,107,108,112,113,117,118,124,125,131,132,136,137,143,144,148,149,155,156,160,161,167,168,174,175,181,182,186,187,193,194,198,199,205,206,212,213,217,218,222,223,229,230,234,235,241,242,248,249,255,256,262,263,269,270,276,277,281,282,288,289]
noncomputable def VW:Program:={ PySem.Challenge.pw_scissorhall_k82_points_written with main:={ PySem.Challenge.pw_scissorhall_k82_points_written.main with body:=[top 1,top 2,top 3,top 4,top 5,top 7,top 8,top 9,top 13,top 14,top 16,top 17,top 18,top 19,top 20,top 21,top 22,top 23,top 24,top 26,top 27,top 28,top 29,top 30,top 31,top 32,top 33,top 34,top 35,top 36,top 37,top 38,top 39,top 40,top 41,top 42,top 43,top 44,top 45] } }
theorem KE:∀ P,KA=(KK P).map (·.1):=fun _=>by kernel_rfl
theorem left:PySem.W.LeftO PySem.Challenge.pw_scissorhall_k82_points_written VW [PySem.Str.ofString "fraction",PySem.Str.ofString "point"] (fun s=>PySem.W.xlAt VW [] s && PySem.W.recOk (PySem.W.RowW.records (PySem.W.OpenRow.toRowW (PySem.W.OpenLaw.row PySem.Challenge.rw_scissorhall_k82_points_written))) s) (PySem.W.Hook.obs (PySem.W.kHook KK KA KE)) (PySem.W.Hook.val (PySem.W.kHook KK KA KE)) 4302:=by
 intro w
 kernel_rfl
end Sc
set_option maxHeartbeats 200000
set_option Elab.async false
set_option linter.all false
set_option maxRecDepth 100000
namespace L2
open PySem PySem.Spec PyProof.Rows
abbrev Key:=Sum Int Str
def anK:Key→Value→Bool
 | .inl k,v=>Value.isInt k v
 | .inr x,v=>Value.isStrOf x v
def keyH (w:World):Key→Int
 | .inl k=>hashInt k
 | .inr x=>hashStr w x
theorem abu:∀ {k:Key} {v:Value},anK k v=true→(∃ i t,k=Sum.inl i∧v=Value.int i t)∨(∃ x t,k=Sum.inr x∧v=Value.str x t)
 | .inl i,v,h=>by
  obtain ⟨t,e⟩:=Value.isInt_shape (k:=i) (v:=v) h
  exact .inl ⟨i,t,rfl,e⟩
 | .inr x,v,h=>by
  obtain ⟨t,e⟩:=Value.isStrOf_shape (x:=x) (v:=v) h
  exact .inr ⟨x,t,rfl,e⟩
theorem anJ (a b:Int):decide ((Sum.inl a:Key)=Sum.inl b)=(a == b):=by
 by_cases e:a=b
 ·subst e; simp
 ·have h:¬ (Sum.inl a:Key)=Sum.inl b:=fun q=>e (Sum.inl.inj q)
  rw [decide_eq_false h]
  exact (beq_eq_false_iff_ne.mpr e).symm
theorem anj (a b:Str):decide ((Sum.inr a:Key)=Sum.inr b)=decide (a=b):=by
 by_cases e:a=b
 ·subst e; simp
 ·have h:¬ (Sum.inr a:Key)=Sum.inr b:=fun q=>e (Sum.inr.inj q)
  rw [decide_eq_false h,decide_eq_false e]
theorem am7 (a:Int) (b:Str):decide ((Sum.inl a:Key)=Sum.inr b)=false:=decide_eq_false (fun q=>nomatch q)
theorem aoe (a:Str) (b:Int):decide ((Sum.inr a:Key)=Sum.inl b)=false:=decide_eq_false (fun q=>nomatch q)
def akh (prog:Program) (w:World):PySem.KeyKind prog w Key where
 is:=anK
 hash:=keyH w
 inj:=fun v a b ha hb=>by
  rcases abu ha with ⟨i,t,rfl,rfl⟩ | ⟨x,t,rfl,rfl⟩
  ·rcases abu hb with ⟨j,u,rfl,e⟩ | ⟨y,u,rfl,e⟩
   ·injection e with e1 _; rw [e1]
   ·exact nomatch e
  ·rcases abu hb with ⟨j,u,rfl,e⟩ | ⟨y,u,rfl,e⟩
   ·exact nomatch e
   ·injection e with e1 _; rw [e1]
 byValue:=fun k v h=>by
  rcases abu h with ⟨i,t,rfl,rfl⟩ | ⟨x,t,rfl,rfl⟩ <;> rfl
 pyHash:=fun hv h=>by
  rcases abu hv with ⟨i,t,rfl,rfl⟩ | ⟨x,t,rfl,rfl⟩
  ·exact wpAny_pyHash_int h
  ·exact wpAny_pyHash_str h
 eqBool:=fun hu hv h=>by
  rcases abu hu with ⟨i,t,rfl,rfl⟩ | ⟨x,t,rfl,rfl⟩
  ·rcases abu hv with ⟨j,u,rfl,rfl⟩ | ⟨y,u,rfl,rfl⟩
   ·rw [anJ] at h; exact wpAny_eqBool_int h
   ·rw [am7] at h; exact SeqAt.EqAt.int_str i t y u _ _ _ _ h
  ·rcases abu hv with ⟨j,u,rfl,rfl⟩ | ⟨y,u,rfl,rfl⟩
   ·rw [aoe] at h; exact SeqAt.EqAt.str_int x t j u _ _ _ _ h
   ·rw [anj] at h; exact wpAny_eqBool_str h
 «strs»:=fun k x t v h=>by
  rcases abu h with ⟨i,u,rfl,e⟩ | ⟨y,u,rfl,e⟩
  ·exact nomatch e
  ·injection e with e1 _
   subst e1
   cases v <;> rfl
end L2
namespace L2
open PySem PySem.Spec PyProof.Rows
inductive V where
 | non | bl (b:Bool) | int (i:Int) | str (x:Str) | byt (b:Array UInt8) | flt (b:UInt64) | ref (a:Addr) | ty (n:String)
 deriving DecidableEq
def RelV:V→Value→Prop
 | .non,u=>u=Value.none
 | .bl b,u=>u=Value.bool b
 | .int i,u=>∃ t,u=Value.int i t
 | .str x,u=>∃ t,u=Value.str x t
 | .byt b,u=>∃ t,u=Value.bytes b t
 | .flt b,u=>∃ t,u=Value.float b t
 | .ref a,u=>u=Value.ref a
 | .ty n,u=>u=Value.type n
abbrev Vals:List V→List Value→Prop:=Paired RelV
theorem Vals.length {xs:List V} {us:List Value} (r:Vals xs us):xs.length=us.length:=Paired.length r
theorem Vals.get:∀ {xs:List V} {us:List Value} {i:Nat} {x:V},Vals xs us→xs[i]?=some x→∃ u,us[i]?=some u∧RelV x u
 | _,_,_,_,.nil,e=>by simp at e
 | _,_,0,_,.cons r _,e=>by simp at e; subst e; exact ⟨_,rfl,r⟩
 | _,_,i+1,x,.cons _ t,e=>by
  obtain ⟨u,h1,h2⟩:=Vals.get (i:=i) (x:=x) t (by simpa using e)
  exact ⟨u,by simpa using h1,h2⟩
theorem Vals.set {x:V} {u:Value} (r:RelV x u):∀ {xs:List V} {us:List Value} (i:Nat),Vals xs us→Vals (xs.set i x) (us.set i u)
 | _,_,_,.nil=>.nil
 | _,_,0,.cons _ t=>.cons r t
 | _,_,i+1,.cons q t=>.cons q (Vals.set r i t)
theorem Vals.append:∀ {xs ys:List V} {us ws:List Value},Vals xs us→Vals ys ws→Vals (xs++ys) (us++ws)
 | _,_,_,_,.nil,s=>s
 | _,_,_,_,.cons r t,s=>.cons r (Vals.append t s)
theorem Vals.take:∀ {xs:List V} {us:List Value} (n:Nat),Vals xs us→Vals (xs.take n) (us.take n)
 | _,_,0,_=>.nil
 | _,_,_+1,.nil=>.nil
 | _,_,n+1,.cons r t=>.cons r (Vals.take n t)
theorem Vals.drop:∀ {xs:List V} {us:List Value} (n:Nat),Vals xs us→Vals (xs.drop n) (us.drop n)
 | _,_,0,r=>r
 | _,_,_+1,.nil=>.nil
 | _,_,n+1,.cons _ t=>Vals.drop n t
def RelO:Option V→Option Value→Prop
 | some v,some u=>RelV v u
 | none,none=>True
 | _,_=>False
def KV {κ:Type}:List (κ × V)→List (κ × Value)→Prop:=Paired fun (p:κ × V) (q:κ × Value)=>p.1=q.1∧RelV p.2 q.2
def kV:Key→V
 | .inl i=>.int i
 | .inr x=>.str x
inductive HO where
 /-- a list -/
 | lst (xs:List V)
 /-- a tuple (never changes) -/
 | tup (xs:List V)
 /-- a dict whose keys are ints and texts; one whose keys are tuples of ints and texts (the empty one is both) -/
 | dK (kvs:List (Key × V)) | dT (kvs:List (List Key × V))
 /-- a set of ints: its members,its size -/
 | set (S:Int→Bool) (n:Nat)
 /-- an instance of the class at C,its dict at dx,its attributes -/
 | ins (C dx:Addr) (fs:List (Str × V))
 /-- the dict of the instance at x -/
 | own (x:Addr)
 /-- the dict of an exception -/
 | xd (fs:List (Str × V))
 /-- a bound method,f of x -/
 | met (f x:Addr)
 /-- a range object lo,lo+1,.. below hi -/
 | rng (lo hi:Int)
 /-- a thing that is known to the object (the script; a dict while a loop walks it): read,never written while it is so -/
 | frz (o:Obj) (u:HO)
 /-- a code object's table -/
 | tbl (ps:Array Value)
 /-- any other thing,by what is true of its one object (a def of one's own: SetO a S n:=HO.ext fun h=>..) -/
 | ext (φ:Heap→Prop)
abbrev Hp:=Addr→Option HO
def upd (H:Hp) (a:Addr) (o:HO):Hp:=fun b=>if b=a then some o else H b
theorem abB {H:Hp} {a:Addr} {o:HO}:upd H a o a=some o:=by unfold upd; rw [if_pos rfl]
theorem aaI {H:Hp} {a b:Addr} {o:HO} (h:b≠a):upd H a o b=H b:=by unfold upd; rw [if_neg h]
theorem aaV {H:Hp} {a b:Addr} {o:HO} (h:H a=some o) (h':H b=none):a≠b:=by
 intro e; subst e; rw [h] at h'; cases h'
section
variable (P:Program) (w:World)
def acH (H:Hp) (h:Heap) (a:Addr):HO→Prop
 | .lst xs=>xs.length≤sizeLine∧∃ (its:List Value) (n:Nat),Vals xs its∧h.get? a=some { cls:=.type "list",data:=.seq its.toArray n }
 | .tup xs=>xs.length≤sizeLine∧∃ its:List Value,Vals xs its∧IsTup h a its.toArray
 | .dK kvs=>kvs.length≤sizeLine∧(a == sysModules)=false∧∃ vs,KV kvs vs∧h.DictOf (akh P w) a vs
 | .dT kvs=>kvs.length≤sizeLine∧(a == sysModules)=false∧∃ xs:List (List Key × Addr × Value),
   Paired (fun (p:List Key × V) (q:List Key × Addr × Value)=>p.1=q.1∧H q.2.1=some (.tup (p.1.map kV))∧RelV p.2 q.2.2) kvs xs ∧
   ∃ o es ep,h.get? a=some o∧o.ExactDict∧o.data=.dict es ep∧es.toList=xs.map (entryOfKey (tupleKind (akh P w)))∧(xs.map (·.1)).Nodup
 | .set S n=>h.SetOf (intKind P w) a S n
 | .ins C dx fs=>H dx=some (.own a)∧fs.length≤1000∧dx≠a∧h.get? a=some (PySem.W.instObj C dx) ∧
   ∃ mA,h.Ns1 dx mA∧(∀ f,RelO (fs.lookup f) (mA f))∧PySem.Within mA (fs.map (·.1))
 | .own _=>∃ o,h.get? a=some o
 | .xd fs=>∃ mA,h.Ns1 a mA∧∀ f,RelO (fs.lookup f) (mA f)
 | .rng lo hi=>∃ t u v,h.get? a=some { cls:=.type "range",data:=.fields #[.int lo t,.int hi u,.int 1 v] }
 | .frz o u=>h.get? a=some o∧acH H h a u
 | .tbl ps=>h.get? a=some { cls:=.none,data:=.fields ps }
 | .met f x=>h.get? a=some (PySem.W.methodObj (.ref f) (.ref x))
 | .ext φ=>φ h∧(∃ o,h.get? a=some o)∧∀ h1 h2:Heap,φ h1→(∀ o,h1.get? a=some o→h2.get? a=some o)→φ h2
def HOk (H:Hp) (h:Heap):Prop:=∀ a o,H a=some o→acH P w H h a o
end
section
variable {P:Program} {w:World} {H H':Hp} {h h':Heap} {a:Addr} {o:HO}
theorem acH.lt (x:acH P w H h a o):a < h.objs.size:=by
 cases o with
 | lst xs=>obtain ⟨_,_,_,_,e⟩:=x; exact Heap.lt_size e
 | tup xs=>obtain ⟨_,_,_,p⟩:=x; exact p.lt
 | dK kvs=>obtain ⟨_,_,_,_,o,_,_,e,_⟩:=x; exact Heap.lt_size e
 | dT kvs=>obtain ⟨_,_,_,_,o,_,_,e,_⟩:=x; exact Heap.lt_size e
 | set S n=>obtain ⟨o,_,_,_,e,_⟩:=x; exact Heap.lt_size e
 | ins C dx fs=>obtain ⟨_,_,_,e,_⟩:=x; exact Heap.lt_size e
 | own y=>obtain ⟨_,e⟩:=x; exact Heap.lt_size e
 | xd fs=>obtain ⟨_,⟨_,_,_,e,_⟩,_⟩:=x; exact Heap.lt_size e
 | rng lo hi=>obtain ⟨_,_,_,e⟩:=x; exact Heap.lt_size e
 | frz ob u=>obtain ⟨e,_⟩:=x; exact Heap.lt_size e
 | tbl ps=>exact Heap.lt_size (show h.get? a=some _ from x)
 | met f y=>exact Heap.lt_size (show h.get? a=some _ from x)
 | ext φ=>obtain ⟨_,⟨_,e⟩,_⟩:=x; exact Heap.lt_size e
theorem Paired.mapP {α β:Type} {F G:α→β→Prop}:∀ {l₁:List α} {l₂:List β},Paired F l₁ l₂→(∀ a b,F a b→G a b)→Paired G l₁ l₂
 | _,_,.nil,_=>.nil
 | _,_,.cons r t,f=>.cons (f _ _ r) (Paired.mapP t f)
theorem acH.stay (x:acH P w H h a o) (k:∀ b u,(b=a∨H b=some (.own a))→h.get? b=some u→h'.get? b=some u)
  (ho:∀ b,H b=some (.own a)→H' b=some (.own a)) (ht:∀ b xs,H b=some (.tup xs)→H' b=some (.tup xs)):acH P w H' h' a o:=by
 induction o with
 | lst xs=>obtain ⟨z,its,n,r,e⟩:=x; exact ⟨z,its,n,r,k _ _ (.inl rfl) e⟩
 | tup xs=>obtain ⟨z,its,r,ob,e,c⟩:=x; exact ⟨z,its,r,ob,k _ _ (.inl rfl) e,c⟩
 | dK kvs=>obtain ⟨z,y,vs,r,ob,es,ep,e,c⟩:=x; exact ⟨z,y,vs,r,ob,es,ep,k _ _ (.inl rfl) e,c⟩
 | dT kvs =>
  obtain ⟨z,y,xs,r,ob,es,ep,e,c⟩:=x
  exact ⟨z,y,xs,Paired.mapP r fun p q z=>⟨z.1,ht _ _ z.2.1,z.2.2⟩,ob,es,ep,k _ _ (.inl rfl) e,c⟩
 | set S n=>obtain ⟨ob,es,ep,t,e,c⟩:=x; exact ⟨ob,es,ep,t,k _ _ (.inl rfl) e,c⟩
 | ins C dx fs =>
  obtain ⟨d,z,ne,e,mA,⟨od,es,ep,e2,c⟩,r⟩:=x
  exact ⟨ho _ d,z,ne,k _ _ (.inl rfl) e,mA,⟨od,es,ep,k _ _ (.inr d) e2,c⟩,r⟩
 | own y=>obtain ⟨ob,e⟩:=x; exact ⟨ob,k _ _ (.inl rfl) e⟩
 | xd fs=>obtain ⟨mA,⟨od,es,ep,e,c⟩,r⟩:=x; exact ⟨mA,⟨od,es,ep,k _ _ (.inl rfl) e,c⟩,r⟩
 | rng lo hi=>obtain ⟨t,u,v,e⟩:=x; exact ⟨t,u,v,k _ _ (.inl rfl) e⟩
 | frz ob u ih=>obtain ⟨e,q⟩:=x; exact ⟨k _ _ (.inl rfl) e,ih q⟩
 | tbl ps =>
  have e:h.get? a=some { cls:=.none,data:=.fields ps }:=x
  show h'.get? a=some { cls:=.none,data:=.fields ps }
  exact k a _ (.inl rfl) e
 | met f y =>
  have e:h.get? a=some (PySem.W.methodObj (.ref f) (.ref y)):=x
  show h'.get? a=some (PySem.W.methodObj (.ref f) (.ref y))
  exact k a _ (.inl rfl) e
 | ext φ=>obtain ⟨p,⟨o,e⟩,st⟩:=x; exact ⟨st _ _ p fun o q=>k _ _ (.inl rfl) q,⟨o,k _ _ (.inl rfl) e⟩,st⟩
theorem HOk.lt (x:HOk P w H h) (e:H a=some o):a < h.objs.size:=(x a o e).lt
theorem HOk.fresh (x:HOk P w H h) (e:h.objs.size≤a):H a=none:=by
 cases q:H a with
 | none=>rfl
 | some u=>exact absurd (Nat.lt_of_lt_of_le (x.lt q) e) (Nat.lt_irrefl _)
theorem HOk.kept (x:HOk P w H h) (k:∀ b u,h.get? b=some u→h'.get? b=some u):HOk P w H h':=fun a o e =>
 (x a o e).stay (fun b u _ q=>k b u q) (fun _ q=>q) fun _ _ q=>q
theorem HOk.laid (x:HOk P w H h) (k:∀ b u,h.get? b=some u→h'.get? b=some u) (hp:h.objs.size≤a) (new:acH P w (upd H a o) h' a o):HOk P w (upd H a o) h':=fun b u e=>by
 have hn:=x.fresh hp
 by_cases hb:b=a
 ·subst hb; rw [abB] at e; cases e; exact new
 ·rw [aaI hb] at e
  exact (x b u e).stay (fun c v _ q=>k c v q) (fun c q=>by rw [aaI (aaV q hn)]; exact q) fun c xs q=>by rw [aaI (aaV q hn)]; exact q
end
def Rd (H:Hp) (a:Addr) (u:HO):Prop:=H a=some u∨∃ o,H a=some (.frz o u)
theorem Rd.ok {P:Program} {w:World} {H:Hp} {h:Heap} {a:Addr} {u:HO} (r:Rd H a u) (x:HOk P w H h):acH P w H h a u:=by
 rcases r with r | ⟨o,r⟩
 ·exact x a u r
 ·obtain ⟨_,q⟩:=x a _ r
  exact q
def Mut:Option HO→Prop
 | some (.lst _)=>True
 | some (.dK _)=>True
 | some (.dT _)=>True
 | some (.set _ _)=>True
 | some (.ins _ _ _)=>True
 | some (.ext _)=>True
 | _=>False
section
variable {P:Program} {w:World} {H:Hp} {h h':Heap} {x e:Addr} {o':HO}
theorem HOk.write (ok:HOk P w H h) (mu:Mut (H x)) (he:e=x∨H e=some (.own x)) (k:∀ b u,b≠e→h.get? b=some u→h'.get? b=some u) (heo:∃ u,h'.get? e=some u)
  (new:acH P w (upd H x o') h' x o'):HOk P w (upd H x o') h':=fun b u q=>by
 have nown:∀ c y,H c=some (.own y)→c≠x:=fun c y r z=>by subst z; rw [r] at mu; exact mu
 have ntup:∀ c xs,H c=some (.tup xs)→c≠x:=fun c xs r z=>by subst z; rw [r] at mu; exact mu
 by_cases hb:b=x
 ·subst hb; rw [abB] at q; cases q; exact new
 ·rw [aaI hb] at q
  by_cases hbe:b=e
  ·have q':H b=some (.own x):=by
    rcases he with z | z
    ·exact absurd (hbe.trans z) hb
    ·rw [hbe]; exact z
   rw [q] at q'; cases q'
   obtain ⟨v,hv⟩:=heo
   exact ⟨v,by rw [hbe]; exact hv⟩
  ·refine (ok b u q).stay (fun c v hc r=>k c v ?_ r) (fun c r=>by rw [aaI (nown c b r)]; exact r) fun c xs r=>by rw [aaI (ntup c xs r)]; exact r
   rcases hc with rfl | hc
   ·exact hbe
   ·rintro rfl
    rcases he with z | z
    ·exact nown c b hc z
    ·rw [hc] at z; cases z; exact hb rfl
end
structure Un (fs ex:List Addr) (H H':Hp) (h h':Heap):Prop where
 keep:∀ b o,h.get? b=some o→H b=none→b ∉ fs→b ∉ ex→h'.get? b=some o
 slot:∀ b o,h.get? b=some o→H b=none→b∈fs→b ∉ ex→∃ sl,h'.get? b=some { o with slots:=sl }
 free:∀ b o,h.get? b=some o→H b=none→b ∉ ex→H' b=none
 there:∀ b o,h.get? b=some o→b ∉ ex→∃ o',h'.get? b=some o'
 tups:∀ b xs,H b=some (.tup xs)→H' b=some (.tup xs)
 frzs:∀ b o u,H b=some (.frz o u)→H' b=some (.frz o u)
 tbls:∀ b ps,H b=some (.tbl ps)→∃ more,H' b=some (.tbl (ps++more))
section
variable {fs fs' ex ex':List Addr} {H H1 H2:Hp} {h h1 h2 h':Heap} {a x e:Addr} {o:HO}
theorem Un.any (u:Un fs ex H H1 h h1) {b:Addr} {ob:Obj} (q:h.get? b=some ob) (n:H b=none) (hx:b ∉ ex):∃ sl,h1.get? b=some { ob with slots:=sl }:=by
 by_cases hb:b∈fs
 ·exact u.slot b ob q n hb hx
 ·exact ⟨ob.slots,u.keep b ob q n hb hx⟩
theorem Un.trans (a:Un fs ex H H1 h h1) (b:Un fs ex H1 H2 h1 h2):Un fs ex H H2 h h2 where
 keep:=fun c ob q n hc hx=>b.keep c ob (a.keep c ob q n hc hx) (a.free c ob q n hx) hc hx
 slot:=fun c ob q n hc hx=>by
  obtain ⟨sl,e1⟩:=a.slot c ob q n hc hx
  obtain ⟨sl',e2⟩:=b.slot c _ e1 (a.free c ob q n hx) hc hx
  exact ⟨sl',e2⟩
 free:=fun c ob q n hx=>by
  obtain ⟨o',e1⟩:=a.there c ob q hx
  exact b.free c o' e1 (a.free c ob q n hx) hx
 there:=fun c ob q hx=>by
  obtain ⟨o',e1⟩:=a.there c ob q hx
  exact b.there c o' e1 hx
 tups:=fun c xs q=>b.tups c xs (a.tups c xs q)
 frzs:=fun c ob xs q=>b.frzs c ob xs (a.frzs c ob xs q)
 tbls:=fun c ps q=>by
  obtain ⟨m1,e1⟩:=a.tbls c ps q
  obtain ⟨m2,e2⟩:=b.tbls c _ e1
  exact ⟨m1++m2,by rw [e2,Array.append_assoc]⟩
theorem Un.kept (k:∀ b u,h.get? b=some u→h'.get? b=some u):Un fs ex H H h h' :=
 ⟨fun b ob q _ _ _=>k b ob q,fun b ob q _ _ _=>⟨ob.slots,k b ob q⟩,fun _ _ _ n _=>n,fun b ob q _=>⟨ob,k b ob q⟩,fun _ _ q=>q,fun _ _ _ q=>q,fun _ ps q=>⟨#[],by rw [q]; simp⟩⟩
theorem Un.refl:Un fs ex H H h h:=Un.kept fun _ _ q=>q
theorem Un.laid (k:∀ b u,h.get? b=some u→h'.get? b=some u) (hp:h.objs.size≤a) (hn:H a=none):Un fs ex H (upd H a o) h h' where
 keep:=fun b u q _ _ _=>k b u q
 slot:=fun b u q _ _ _=>⟨u.slots,k b u q⟩
 free:=fun b u q n _=>by rw [aaI (Nat.ne_of_lt (Nat.lt_of_lt_of_le (Heap.lt_size q) hp))]; exact n
 there:=fun b u q _=>⟨u,k b u q⟩
 tups:=fun b xs q=>by rw [aaI (aaV q hn)]; exact q
 frzs:=fun b u xs q=>by rw [aaI (aaV q hn)]; exact q
 tbls:=fun b ps q=>⟨#[],by rw [aaI (aaV q hn),q]; simp⟩
theorem Un.write (mu:Mut (H x)) (he:e=x∨H e=some (.own x)) (k:∀ b u,b≠e→h.get? b=some u→h'.get? b=some u) (heo:∃ u,h'.get? e=some u):Un fs ex H (upd H x o) h h':=by
 have hx:∀ b,H b=none→b≠x:=fun b n z=>by subst z; rw [n] at mu; exact mu
 have hb:∀ b,H b=none→b≠e:=fun b n z=>by
  subst z
  rcases he with r | r
  ·exact hx b n r
  ·rw [n] at r; cases r
 have hm:∀ b u,H b=some u→¬ Mut (some u)→b≠x:=fun b u q nm z=>by subst z; rw [q] at mu; exact nm mu
 refine ⟨fun b u q n _ _=>k b u (hb b n) q,fun b u q n _ _=>⟨u.slots,k b u (hb b n) q⟩,fun b u q n _=>by rw [aaI (hx b n)]; exact n,fun b u q _=>?_,
  fun b xs q=>by rw [aaI (hm b _ q fun z=>z)]; exact q,fun b u xs q=>by rw [aaI (hm b _ q fun z=>z)]; exact q,fun b ps q=>⟨#[],by rw [aaI (hm b _ q fun z=>z),q]; simp⟩⟩
 by_cases hbe:b=e
 ·subst hbe; exact heo
 ·exact ⟨u,k b u hbe q⟩
end
def trk (h:Heap) (H:Hp):List Addr:=(List.range h.objs.size).filter fun a=>(H a).isSome
def hidT (h:Heap) (H:Hp):Heap:=PySem.W.hideAll h (trk h H)
theorem ajY (h:Heap) (H:Hp):(hidT h H).objs.size=h.objs.size:=PySem.W.hideAll_size _ _
theorem akF {h:Heap} {H:Hp} {b:Addr} {o:Obj} (e:h.get? b=some o) (n:H b=none):(hidT h H).get? b=some o :=
 PySem.W.hideAll_get _ e fun hm=>by
  have q:(H b).isSome=true:=(List.mem_filter.mp hm).2
  rw [n] at q; simp at q
theorem amy {h:Heap} {H:Hp} {b:Addr} {o:Obj} (e:(hidT h H).get? b=some o):h.get? b=some o∧H b=none:=by
 have e':h.get? b=some o:=PySem.W.of_hideAll (trk h H) e
 refine ⟨e',?_⟩
 cases q:H b with
 | none=>rfl
 | some x =>
  have hm:b∈trk h H:=List.mem_filter.mpr ⟨List.mem_range.mpr (Heap.lt_size e'),by simp [q]⟩
  have z:(hidT h H).get? b=none:=PySem.W.hideAll_none (trk h H) hm
  rw [z] at e; cases e
def alU (g h:Heap) (L:Addr):List (Addr × Obj):=(List.range h.objs.size).filterMap fun a=>if a=L∨(g.get? a).isSome=true then none else (h.get? a).map fun o=>(a,o)
def rest (g h:Heap) (L d:Addr):List (Addr × Obj):=(alU g h L).filter fun p=>decide (p.1≠d)
end L2
namespace L2
open PySem PySem.Spec PyProof.Rows
structure Mod (K:PySem.W.Frag) (mg:Str→Option Value) (base:Heap):Prop where
 kin:K.In base
 glob:base.Ns mainGlobals mg
 blt:∃ mb,base.Ns builtinsNs mb∧∀ x:Str,x≠"__name__"→mb x=bootBuiltins x
 nolimit:base.NoLimit
structure Cx where
 prog:Program
 w:World
 K:PySem.W.Frag
 mg:Str→Option Value
 base:Heap
 A:Around
 N:List Str
 s₀:Shared
 H₀:Hp
 env:Env
 outer:List Env
 stack:List Env
 ex:List Addr
 fn:Str→Bool
 calm:Bool
 pn:List (Addr × Obj)
 xe:Value→Shared→Prop
def frs (l:List Env):List Addr:=l.filterMap (·.frame)
abbrev Cx.fs (X:Cx):List Addr:=frs X.outer
def Vis (sc:Scope) (x:Str):Prop:=sc.names.lookup x=some .local∨sc.names.lookup x=some .cell∨sc.names.lookup x=some .free
def Loc (sc:Scope) (x:Str):Prop:=sc.names.lookup x=some .local∨sc.names.lookup x=some .cell
def Look (env:Env) (h:Heap) (m:Str→Option Value) (x:Str) (u:Value):Prop :=
 (env.kindOf x=some .local∧m x=some u)∨((env.kindOf x=some .cell∨env.kindOf x=some .free)∧∃ c,env.cells.lookup x=some c∧h.IsCell c (some u))
structure Cx.Ok (X:Cx):Prop where
 mod:Mod X.K X.mg X.base
 kind:X.env.scope.kind=.function
 glob:X.env.globals=mainGlobals
 blt:X.env.builtins=builtinsNs
 above:X.s₀.heap.objs.size≤X.env.locals
 inj:∀ x y c,X.env.cells.lookup x=some c→X.env.cells.lookup y=some c→x=y
 has:∀ x,(X.env.kindOf x=some .cell∨X.env.kindOf x=some .free)→∃ c,X.env.cells.lookup x=some c
 cab:∀ x c,X.fn x=true→X.env.cells.lookup x=some c→X.s₀.heap.objs.size≤c
 hd:X.calm=true→X.A.handled=none
 frames:X.A.frames=some X.stack
 stk:X.stack=X.outer∨(X.stack=X.env :: X.outer∧X.env.frame=some X.env.locals)
 exf:∀ b∈X.ex,b≠X.env.locals∧∀ x c,X.env.cells.lookup x=some c→c≠b
 bs:∀ b o,X.base.get? b=some o→X.s₀.heap.get? b=some o∧X.H₀ b=none
 bsz:X.base.objs.size≤X.s₀.heap.objs.size
 noex:∀ b o,X.base.get? b=some o→b ∉ X.ex
 exfs:∀ b∈X.ex,b ∉ X.fs
 funs:X.s₀.heap.FunFrames X.base X.outer
 frf:∀ b∈X.fs,X.H₀ b=none
structure Inv (X:Cx) (pins:List (Addr × Obj)) (σ:List (Option V)) (H:Hp) (s:Shared):Prop where
 ok:X.Ok
 os:s.os=X.s₀.os
 bare:AllBare s.gens
 base:Un X.fs X.ex X.H₀ H X.s₀.heap s.heap
 loc:∃ m,s.heap.Ns X.env.locals m∧∀ (i:Nat) (x:Str) (v:V),X.N[i]?=some x→σ[i]?=some (some v)→Vis X.env.scope x→∃ u,RelV v u∧Look X.env s.heap m x u
 cell:∀ x c,X.env.cells.lookup x=some c→∃ v,s.heap.IsCell c v
 free:H X.env.locals=none
 freeC:∀ x c,X.env.cells.lookup x=some c→H c=none
 pin:∀ p∈X.pn++pins,s.heap.get? p.1=some p.2∧H p.1=none∧p.1≠X.env.locals∧p.1 ∉ X.fs∧∀ v,p.2.data≠.cell v
 hok:HOk X.prog X.w H s.heap
 len:σ.length=X.N.length
section
variable {X:Cx} {pins:List (Addr × Obj)} {σ:List (Option V)} {H H':Hp} {s:Shared} {h':Heap}
theorem Cx.Ok.nofr (ok:X.Ok) {b:Addr} {o:Obj} (e:X.base.get? b=some o):b ∉ X.fs:=fun hb=>by
 have:=(ok.funs.mem hb).1
 rw [e] at this; cases this
theorem Inv.bs (I:Inv X pins σ H s):∀ b o,X.base.get? b=some o→s.heap.get? b=some o∧H b=none:=fun b o e =>
 ⟨I.base.keep b o (I.ok.bs b o e).1 (I.ok.bs b o e).2 (I.ok.nofr e) (I.ok.noex b o e),I.base.free b o (I.ok.bs b o e).1 (I.ok.bs b o e).2 (I.ok.noex b o e)⟩
theorem Inv.bk (I:Inv X pins σ H s):∀ b o,X.base.get? b=some o→s.heap.get? b=some o:=fun b o e=>(I.bs b o e).1
theorem Inv.mod (I:Inv X pins σ H s):Mod X.K X.mg X.base:=I.ok.mod
theorem Inv.kIn (I:Inv X pins σ H s):X.K.In s.heap:=I.ok.mod.kin.keeps I.bk
theorem Inv.lt (I:Inv X pins σ H s):X.env.locals < s.heap.objs.size:=let ⟨_,hn,_⟩:=I.loc; hn.lt
theorem Inv.sz (I:Inv X pins σ H s):X.s₀.heap.objs.size≤s.heap.objs.size:=Nat.le_trans I.ok.above (Nat.le_of_lt I.lt)
theorem Inv.nofs (I:Inv X pins σ H s) {a:Addr} (h:s.heap.objs.size≤a):a ∉ X.fs:=fun hb=>by
 obtain ⟨_,o,ho,_⟩:=I.ok.funs.mem hb
 exact absurd (Nat.lt_of_lt_of_le (Heap.lt_size ho) (Nat.le_trans I.sz h)) (Nat.lt_irrefl _)
theorem Inv.cne (I:Inv X pins σ H s):∀ x c,X.env.cells.lookup x=some c→c≠X.env.locals:=fun x c e z=>by
 obtain ⟨v,o,ho,hd⟩:=I.cell x c e
 obtain ⟨m,⟨o',es,ep,ho',hd',_⟩,_⟩:=I.loc
 rw [z,ho'] at ho; cases ho; rw [hd'] at hd; cases hd
theorem Inv.funs (I:Inv X pins σ H s):s.heap.FunFrames X.base X.outer:=by
 have all:∀ (l:List Env),(∀ b∈frs l,b∈X.fs)→X.s₀.heap.FunFrames X.base l→s.heap.FunFrames X.base l:=by
  intro l
  induction l with
  | nil=>intro _ _; trivial
  | cons env r ih =>
   intro hs hl
   obtain ⟨hk,⟨L,o,hf,hn,ho,hd⟩,hr⟩:=hl
   have hL:L∈X.fs:=hs L (by unfold frs; rw [List.filterMap_cons,hf]; exact List.mem_cons_self)
   obtain ⟨sl,e⟩:=I.base.slot L o ho (I.ok.frf L hL) hL fun z=>I.ok.exfs L z hL
   exact ⟨hk,⟨L,_,hf,hn,e,hd⟩,ih (fun b hb=>hs b (by unfold frs; rw [List.filterMap_cons,hf]; exact List.mem_cons_of_mem _ hb)) hr⟩
 exact all X.outer (fun _ hb=>hb) I.ok.funs
theorem Inv.stack (I:Inv X pins σ H s):s.heap.FunFrames X.base X.stack:=by
 rcases I.ok.stk with e | ⟨e,hf⟩
 ·rw [e]; exact I.funs
 ·rw [e]
  obtain ⟨m,hn,_⟩:=I.loc
  refine .cons (by rw [I.ok.kind]; decide) hf hn ?_ I.funs
  exact Heap.get?_none_of_le (Nat.le_trans I.ok.bsz I.ok.above)
theorem Inv.stkSub (I:Inv X pins σ H s):∀ b∈frs X.stack,b∈X.env.locals :: X.fs:=fun b hb=>by
 rcases I.ok.stk with e | ⟨e,hf⟩
 ·rw [e] at hb; exact List.mem_cons_of_mem _ hb
 ·rw [e] at hb
  unfold frs at hb
  rw [List.filterMap_cons,hf] at hb
  exact hb
theorem Inv.stkFree (I:Inv X pins σ H s):∀ b∈frs X.stack,H b=none:=fun b hb=>by
 rcases List.mem_cons.mp (I.stkSub b hb) with e | hb
 ·rw [e]; exact I.free
 ·obtain ⟨_,o,ho,_⟩:=I.ok.funs.mem hb
  exact I.base.free b o ho (I.ok.frf b hb) fun z=>I.ok.exfs b z hb
theorem Inv.step {g':Array GenState} {t':Nat} {d':Drawn} {ch:List Addr} (I:Inv X pins σ H s)
  (hch:∀ b∈ch,(b∈X.ex∨X.s₀.heap.objs.size≤b)∧b≠X.env.locals∧(∀ x c,X.env.cells.lookup x=some c→c≠b)∧∀ p∈X.pn++pins,p.1≠b)
  (keep:∀ b o,b≠X.env.locals→b ∉ X.fs→b ∉ ch→s.heap.get? b=some o→H b=none→h'.get? b=some o)
  (slot:∀ b o,b≠X.env.locals→b∈X.fs→b ∉ ch→s.heap.get? b=some o→H b=none→∃ sl,h'.get? b=some { o with slots:=sl }) (free:∀ b o,b ∉ ch→s.heap.get? b=some o→H b=none→H' b=none)
  (there:∀ b o,b ∉ ch→s.heap.get? b=some o→∃ o',h'.get? b=some o')
  (tups:∀ b xs,H b=some (.tup xs)→H' b=some (.tup xs)) (frzs:∀ b o u,H b=some (.frz o u)→H' b=some (.frz o u)) (tbls:∀ b ps,H b=some (.tbl ps)→∃ more,H' b=some (.tbl (ps++more)))
  (ns:∀ m,s.heap.Ns X.env.locals m→h'.Ns X.env.locals m) (hok:HOk X.prog X.w H' h') (hg:AllBare g') :
  Inv X pins σ H' { s with heap:=h',gens:=g',drawn:=d',toks:=t' }:=by
 have neL:∀ b o,X.s₀.heap.get? b=some o→b≠X.env.locals:=fun b o e=>Nat.ne_of_lt (Nat.lt_of_lt_of_le (Heap.lt_size e) I.ok.above)
 have neC:∀ b o,X.s₀.heap.get? b=some o→b ∉ X.ex→b ∉ ch:=fun b o e hx hb=>by
  rcases (hch b hb).1 with z | z
  ·exact hx z
  ·exact absurd (Nat.lt_of_lt_of_le (Heap.lt_size e) z) (Nat.lt_irrefl _)
 have cellK:∀ x c,X.env.cells.lookup x=some c→∀ v,s.heap.IsCell c v→h'.IsCell c v:=fun x c e v ⟨o,ho,hd⟩=>by
  have nch:c ∉ ch:=fun z=>(hch c z).2.2.1 x c e rfl
  by_cases hc:c∈X.fs
  ·obtain ⟨sl,q⟩:=slot c o (I.cne x c e) hc nch ho (I.freeC x c e)
   exact ⟨_,q,hd⟩
  ·exact ⟨o,keep c o (I.cne x c e) hc nch ho (I.freeC x c e),hd⟩
 refine ⟨I.ok,I.os,hg,⟨fun b o e n hb hx=>?_,fun b o e n hb hx=>?_,fun b o e n hx=>?_,fun b o e hx=>?_,fun b xs e=>tups b xs (I.base.tups b xs e),fun b o xs e=>frzs b o xs (I.base.frzs b o xs e),fun b ps e=>?_⟩,?_,fun x c e=>?_,?_,fun x c e=>?_,fun p hp=>?_,hok,I.len⟩
 ·exact keep b o (neL b o e) hb (neC b o e hx) (I.base.keep b o e n hb hx) (I.base.free b o e n hx)
 ·obtain ⟨sl,e1⟩:=I.base.slot b o e n hb hx
  obtain ⟨sl',e2⟩:=slot b _ (neL b o e) hb (neC b o e hx) e1 (I.base.free b o e n hx)
  exact ⟨sl',e2⟩
 ·obtain ⟨o',e1⟩:=I.base.there b o e hx
  exact free b o' (neC b o e hx) e1 (I.base.free b o e n hx)
 ·obtain ⟨o',e1⟩:=I.base.there b o e hx
  exact there b o' (neC b o e hx) e1
 ·obtain ⟨m1,e1⟩:=I.base.tbls b ps e
  obtain ⟨m2,e2⟩:=tbls b _ e1
  exact ⟨m1++m2,by rw [e2,Array.append_assoc]⟩
 ·obtain ⟨m,hn,hl⟩:=I.loc
  refine ⟨m,ns m hn,fun i x v e1 e2 e3=>?_⟩
  obtain ⟨u,r,l⟩:=hl i x v e1 e2 e3
  refine ⟨u,r,?_⟩
  rcases l with l | ⟨k,c,e,z⟩
  ·exact .inl l
  ·exact .inr ⟨k,c,e,cellK x c e _ z⟩
 ·obtain ⟨v,z⟩:=I.cell x c e
  exact ⟨v,cellK x c e v z⟩
 ·obtain ⟨m,⟨o,_,_,ho,_⟩,_⟩:=I.loc
  exact free _ o (fun z=>(hch _ z).2.1 rfl) ho I.free
 ·obtain ⟨v,o,ho,hd⟩:=I.cell x c e
  exact free c o (fun z=>(hch c z).2.2.1 x c e rfl) ho (I.freeC x c e)
 ·obtain ⟨e,n,ne,nf,d⟩:=I.pin p hp
  have nch:p.1 ∉ ch:=fun z=>(hch p.1 z).2.2.2 p hp rfl
  exact ⟨keep p.1 p.2 ne nf nch e n,free p.1 p.2 nch e n,ne,nf,d⟩
theorem Inv.un {t':Nat} (I:Inv X pins σ H s) (u:Un X.fs [] H H' s.heap h') (hok:HOk X.prog X.w H' h'):Inv X pins σ H' { s with heap:=h',toks:=t' }:=by
 obtain ⟨m,⟨o,es,ep,ho,r⟩,_⟩:=id I.loc
 obtain ⟨sl,hL⟩:=u.any ho I.free (by simp)
 exact I.step (g':=s.gens) (d':=s.drawn) (ch:=[]) (fun _ z=>nomatch z) (fun b o _ hb _ e n=>u.keep b o e n hb (by simp)) (fun b o _ hb _ e n=>u.slot b o e n hb (by simp)) (fun b o _ e n=>u.free b o e n (by simp)) (fun b o _ e=>u.there b o e (by simp)) u.tups u.frzs u.tbls (fun m' hm=>by
  obtain ⟨o',es',ep',ho',r'⟩:=hm
  rw [ho] at ho'; cases ho'
  exact ⟨_,es',ep',hL,r'⟩) hok I.bare
theorem Inv.call {g':Array GenState} {t':Nat} {d':Drawn} {ch:List Addr} (I:Inv X pins σ H s) (u:Un (frs X.stack) ch H H' s.heap h') (hok:HOk X.prog X.w H' h') (hg:AllBare g')
  (hch:∀ b∈ch,(b∈X.ex∨X.s₀.heap.objs.size≤b)∧b≠X.env.locals∧(∀ x c,X.env.cells.lookup x=some c→c≠b)∧∀ p∈X.pn++pins,p.1≠b) :
  Inv X pins σ H' { s with heap:=h',gens:=g',drawn:=d',toks:=t' }:=by
 obtain ⟨m,⟨o,es,ep,ho,r⟩,_⟩:=id I.loc
 obtain ⟨sl,hL⟩:=u.any ho I.free fun z=>(hch _ z).2.1 rfl
 exact I.step (ch:=ch) hch (fun b o hL hb hc e n=>u.keep b o e n (fun z=>(List.mem_cons.mp (I.stkSub b z)).elim hL hb) hc) (fun b o _ _ hc e n=>u.any e n hc) (fun b o hc e n=>u.free b o e n hc) (fun b o hc e=>u.there b o e hc) u.tups u.frzs u.tbls (fun m' hm=>by
  obtain ⟨o',es',ep',ho',r'⟩:=hm
  rw [ho] at ho'; cases ho'
  exact ⟨_,es',ep',hL,r'⟩) hok hg
theorem Inv.turned {t':Nat} {it:Addr} (I:Inv X pins σ H s) (k:∀ b o,b≠it→s.heap.get? b=some o→h'.get? b=some o) (hn:H it=none) (hL:it≠X.env.locals)
  (h1:it∈X.ex∨X.s₀.heap.objs.size≤it) (h2:∀ x c,X.env.cells.lookup x=some c→c≠it) (h3:∀ p∈X.pn++pins,p.1≠it):Inv X pins σ H { s with heap:=h',toks:=t' }:=by
 have nit:∀ b u,H b=some u→b≠it:=fun b u e z=>by rw [z,hn] at e; cases e
 refine I.step (g':=s.gens) (d':=s.drawn) (ch:=[it]) (fun b hb=>?_) (fun b o _ _ hc e _=>k b o (fun z=>hc (by simp [z])) e) (fun b o _ _ hc e _=>⟨o.slots,k b o (fun z=>hc (by simp [z])) e⟩) (fun _ _ _ _ n=>n)
  (fun b o hc e=>⟨o,k b o (fun z=>hc (by simp [z])) e⟩) (fun _ _ e=>e) (fun _ _ _ e=>e) (fun b ps e=>⟨#[],by rw [e]; simp⟩) (fun m hm=>?_) (fun b u e=>?_) I.bare
 ·have e:b=it:=by simpa using hb
  subst e
  exact ⟨h1,hL,h2,h3⟩
 ·obtain ⟨o,es,ep,ho,r⟩:=hm
  exact ⟨o,es,ep,k _ o (Ne.symm hL) ho,r⟩
 ·refine (I.hok b u e).stay (fun c v hc q=>k c v ?_ q) (fun _ q=>q) fun _ _ q=>q
  rcases hc with z | z
  ·rw [z]; exact nit b u e
  ·exact nit c _ z
theorem Inv.tok (I:Inv X pins σ H s) (t:Nat):Inv X pins σ H { s with toks:=t }:=I.un (h':=s.heap) (t':=t) Un.refl I.hok
theorem Inv.kept {t':Nat} (I:Inv X pins σ H s) (k:∀ b u,s.heap.get? b=some u→h'.get? b=some u):Inv X pins σ H { s with heap:=h',toks:=t' }:=I.un (Un.kept k) (I.hok.kept k)
theorem Inv.laid {a:Addr} {o:HO} {t':Nat} (I:Inv X pins σ H s) (k:∀ b u,s.heap.get? b=some u→h'.get? b=some u) (hp:s.heap.objs.size≤a) (new:acH X.prog X.w (upd H a o) h' a o) :
  Inv X pins σ (upd H a o) { s with heap:=h',toks:=t' }:=I.un (Un.laid k hp (I.hok.fresh hp)) (I.hok.laid k hp new)
theorem Inv.write {x e:Addr} {o:HO} {t':Nat} (I:Inv X pins σ H s) (mu:Mut (H x)) (he:e=x∨H e=some (.own x)) (k:∀ b u,b≠e→s.heap.get? b=some u→h'.get? b=some u) (heo:∃ u,h'.get? e=some u)
  (new:acH X.prog X.w (upd H x o) h' x o):Inv X pins σ (upd H x o) { s with heap:=h',toks:=t' }:=I.un (Un.write mu he k heo) (I.hok.write mu he k heo new)
theorem Inv.pins_of {pins':List (Addr × Obj)} (I:Inv X pins σ H s) (h:∀ p∈pins',s.heap.get? p.1=some p.2∧H p.1=none∧p.1≠X.env.locals∧p.1 ∉ X.fs∧∀ v,p.2.data≠.cell v):Inv X pins' σ H s :=
 ⟨I.ok,I.os,I.bare,I.base,I.loc,I.cell,I.free,I.freeC,fun p hp=>(List.mem_append.mp hp).elim (fun z=>I.pin p (List.mem_append_left _ z)) (h p),I.hok,I.len⟩
theorem ahT {N:List Str} (hN:N.Nodup) {i j:Nat} {x:Str} (a:N[i]?=some x) (b:N[j]?=some x):i=j:=by
 obtain ⟨h1,e1⟩:=List.getElem?_eq_some_iff.mp a
 obtain ⟨h2,e2⟩:=List.getElem?_eq_some_iff.mp b
 exact (List.getElem_inj hN).mp (e1.trans e2.symm)
theorem ai5 {M:Model} {A:Around} {E:Value→Shared→Prop} {i:Nat} {x:Str} {v:V} {u:Value} {Q:Unit→Shared→Prop} (I:Inv X pins σ H s) (hN:X.N.Nodup) (hi:X.N[i]?=some x) (hx:Loc X.env.scope x) (r:RelV v u)
  (h:∀ s',Inv X pins (σ.set i (some v)) H s'→(∃ a,Heap.SameBut a s.heap s'.heap∧(a=X.env.locals∨X.env.cells.lookup x=some a))→Q () s') (hf:X.fn x=true∨X.env.scope.names.lookup x=some .local:=by first | exact .inl rfl | exact .inr rfl | assumption):wpAny M A (storeName X.env x u) Q E s:=by
 obtain ⟨m,hn,hl⟩:=id I.loc
 have hcls:(X.env.scope.kind == .class || (X.env.scope.kind == .module && X.env.locals != X.env.globals))=false:=by rw [I.ok.kind]; rfl
 have hiσ:i < σ.length:=by rw [I.len]; exact (List.getElem?_eq_some_iff.mp hi).1
 have cne:=I.cne
 have tracked:∀ {a:Addr} {h':Heap},(∃ o,s.heap.get? a=some o∧H a=none)→Heap.SameBut a s.heap h'→HOk X.prog X.w H h':=fun {a h'} ha hs b ob e=>by
  obtain ⟨_,_,hfree⟩:=ha
  refine (I.hok b ob e).stay (fun c w' hc q=>(hs.2 c ?_).trans q) (fun _ q=>q) fun _ _ q=>q
  rintro rfl
  rcases hc with rfl | hc
  ·rw [hfree] at e; cases e
  ·rw [hfree] at hc; cases hc
 rcases hx with hk | hk
 ·refine wpAny_storeName_local hk hn (fun h' hn' hs=>?_) hcls
  obtain ⟨oL,_,_,hoL,_⟩:=id hn
  refine h _ ⟨I.ok,I.os,I.bare,⟨fun b o e n hb hx=>?_,fun b o e n hb hx=>?_,I.base.free,fun b o e hx=>?_,I.base.tups,I.base.frzs,I.base.tbls⟩,⟨_,hn',fun j y v' e1 e2 e3=>?_⟩,fun y c e=>?_,I.free,I.freeC,fun p hp=>?_,tracked ⟨oL,hoL,I.free⟩ hs,by simpa using I.len⟩ ⟨_,hs,.inl rfl⟩
  ·exact (hs.2 b (Nat.ne_of_lt (Nat.lt_of_lt_of_le (Heap.lt_size e) I.ok.above))).trans (I.base.keep b o e n hb hx)
  ·obtain ⟨sl,e1⟩:=I.base.slot b o e n hb hx
   exact ⟨sl,(hs.2 b (Nat.ne_of_lt (Nat.lt_of_lt_of_le (Heap.lt_size e) I.ok.above))).trans e1⟩
  ·obtain ⟨o',e1⟩:=I.base.there b o e hx
   exact ⟨o',(hs.2 b (Nat.ne_of_lt (Nat.lt_of_lt_of_le (Heap.lt_size e) I.ok.above))).trans e1⟩
  ·by_cases hj:j=i
   ·subst hj
    rw [hi] at e1; cases e1
    rw [List.getElem?_set_self hiσ] at e2
    cases e2
    exact ⟨u,r,.inl ⟨hk,by simp⟩⟩
   ·rw [List.getElem?_set_ne (Ne.symm hj)] at e2
    obtain ⟨u',r',q⟩:=hl j y v' e1 e2 e3
    refine ⟨u',r',?_⟩
    rcases q with ⟨k,e⟩ | ⟨k,c,e,z⟩
    ·refine .inl ⟨k,?_⟩
     have:y≠x:=fun e=>hj (ahT hN e1 (e ▸ hi))
     simp [this,e]
    ·exact .inr ⟨k,c,e,z.sameBut hs (cne y c e)⟩
  ·obtain ⟨w',z⟩:=I.cell y c e
   exact ⟨w',z.sameBut hs (cne y c e)⟩
  ·obtain ⟨e,n,ne,nf,d⟩:=I.pin p hp
   exact ⟨(hs.2 p.1 ne).trans e,n,ne,nf,d⟩
 ·have hfn:X.fn x=true:=by
   rcases hf with z | z
   ·exact z
   ·rw [z] at hk; cases hk
  obtain ⟨c,hc⟩:=I.ok.has x (.inl hk)
  obtain ⟨w',z⟩:=I.cell x c hc
  refine wpAny_storeName_cell I.ok.kind hk hc z (fun h' hc' hs=>?_)
  obtain ⟨oc,hoc,hocd⟩:=id z
  refine h { s with heap:=h' } ⟨I.ok,I.os,I.bare,⟨fun b o e n hb hx=>?_,fun b o e n hb hx=>?_,I.base.free,fun b o e hx=>?_,I.base.tups,I.base.frzs,I.base.tbls⟩,⟨m,hn.sameBut hs (Ne.symm (cne x c hc)),fun j y v' e1 e2 e3=>?_⟩,fun y c' e=>?_,I.free,I.freeC,fun p hp=>?_,tracked ⟨oc,hoc,I.freeC x c hc⟩ hs,by simpa using I.len⟩ ⟨c,hs,.inr hc⟩
  ·exact (hs.2 b (Nat.ne_of_lt (Nat.lt_of_lt_of_le (Heap.lt_size e) (I.ok.cab x c hfn hc)))).trans (I.base.keep b o e n hb hx)
  ·obtain ⟨sl,e1⟩:=I.base.slot b o e n hb hx
   exact ⟨sl,(hs.2 b (Nat.ne_of_lt (Nat.lt_of_lt_of_le (Heap.lt_size e) (I.ok.cab x c hfn hc)))).trans e1⟩
  ·obtain ⟨o',e1⟩:=I.base.there b o e hx
   exact ⟨o',(hs.2 b (Nat.ne_of_lt (Nat.lt_of_lt_of_le (Heap.lt_size e) (I.ok.cab x c hfn hc)))).trans e1⟩
  ·by_cases hj:j=i
   ·subst hj
    rw [hi] at e1; cases e1
    rw [List.getElem?_set_self hiσ] at e2
    cases e2
    exact ⟨u,r,.inr ⟨.inl hk,c,hc,hc'⟩⟩
   ·rw [List.getElem?_set_ne (Ne.symm hj)] at e2
    obtain ⟨u',r',q⟩:=hl j y v' e1 e2 e3
    refine ⟨u',r',?_⟩
    rcases q with q | ⟨k,c',e,z'⟩
    ·exact .inl q
    ·refine .inr ⟨k,c',e,z'.sameBut hs ?_⟩
     rintro rfl
     exact hj (ahT hN e1 (I.ok.inj _ _ _ e hc ▸ hi))
  ·by_cases hcc:c'=c
   ·subst hcc; exact ⟨_,hc'⟩
   ·obtain ⟨w2,z2⟩:=I.cell y c' e
    exact ⟨w2,z2.sameBut hs hcc⟩
  ·obtain ⟨e,n,ne,nf,d⟩:=I.pin p hp
   refine ⟨(hs.2 p.1 ?_).trans e,n,ne,nf,d⟩
   intro q
   rw [q,hoc] at e
   have q':oc=p.2:=Option.some.inj e
   exact d w' (by rw [← q']; exact hocd)
theorem ac1 {M:Model} {A:Around} {E:Value→Shared→Prop} {i:Nat} {x:Str} {v:V} {u:Value} {Q:Unit→Shared→Prop} (I:Inv X pins σ H s) (hN:X.N.Nodup) (hi:X.N[i]?=some x) (hx:Loc X.env.scope x) (r:RelV v u)
  (h:∀ s',Inv X pins (σ.set i (some v)) H s'→Q () s') (hf:X.fn x=true∨X.env.scope.names.lookup x=some .local:=by first | exact .inl rfl | exact .inr rfl | assumption):wpAny M A (storeName X.env x u) Q E s :=
 ai5 I hN hi hx r (fun s' I' _=>h s' I') hf
theorem Inv.call' {s':Shared} {ch:List Addr} (I:Inv X pins σ H s) (ho:s'.os=s.os) (u:Un (frs X.stack) ch H H' s.heap s'.heap) (hok:HOk X.prog X.w H' s'.heap) (hg:AllBare s'.gens)
  (hch:∀ b∈ch,(b∈X.ex∨X.s₀.heap.objs.size≤b)∧b≠X.env.locals∧(∀ x c,X.env.cells.lookup x=some c→c≠b)∧∀ p∈X.pn++pins,p.1≠b):Inv X pins σ H' s':=by
 obtain ⟨h',g',d',t',o'⟩:=s'
 have e:o'=s.os:=ho
 subst e
 exact I.call (g':=g') (t':=t') (d':=d') u hok hg hch
end
abbrev XK:=Value→Option Addr→Hp→Prop
abbrev St:=List (Option V)
abbrev VK:=V→Hp→Prop
abbrev TE:=St→Hp→VK→Prop
abbrev TT:=St→Hp→(Bool→Hp→Prop)→Prop
abbrev TA:=St→Hp→(List V→Hp→Prop)→Prop
structure Ends where
 nx:St→Hp→Prop
 rt:VK
 bk:St→Hp→Prop:=fun _ _=>False
 ct:St→Hp→Prop:=fun _ _=>False
abbrev TS:=Ends→St→Hp→Prop
def EP (X:Cx) (pins:List (Addr × Obj)) (σ:St) (Q:VK) (u:Value) (s':Shared):Prop:=∃ v H',Inv X pins σ H' s'∧RelV v u∧Q v H'
def TP (X:Cx) (pins:List (Addr × Obj)) (σ:St) (Q:Bool→Hp→Prop) (b:Bool) (s':Shared):Prop:=∃ H',Inv X pins σ H' s'∧Q b H'
def AP (X:Cx) (pins:List (Addr × Obj)) (σ:St) (Q:List V→Hp→Prop) (us:List Value) (s':Shared):Prop:=∃ vs H',Inv X pins σ H' s'∧Vals vs us∧Q vs H'
def SP (X:Cx) (pins:List (Addr × Obj)) (D:Ends) (f:Flow) (s':Shared):Prop :=
 match f with
 | .next=>∃ σ' H',Inv X pins σ' H' s'∧D.nx σ' H'
 | .brk=>∃ σ' H',Inv X pins σ' H' s'∧D.bk σ' H'
 | .cont=>∃ σ' H',Inv X pins σ' H' s'∧D.ct σ' H'
 | .ret u=>∃ v σ' H',Inv X pins σ' H' s'∧RelV v u∧D.rt v H'
def PE (X:Cx) (e:Expr) (t:TE):Prop :=
 ∀ (pins:List (Addr × Obj)) (s:Shared) (σ:St) (H:Hp) (Q:VK),Inv X pins σ H s→t σ H Q→wpAny (model X.prog X.w) X.A (eval e X.env) (EP X pins σ Q) X.xe s
def PT (X:Cx) (e:Expr) (t:TT):Prop :=
 ∀ (pins:List (Addr × Obj)) (s:Shared) (σ:St) (H:Hp) (Q:Bool→Hp→Prop),Inv X pins σ H s→t σ H Q→wpAny (model X.prog X.w) X.A (isTrue e X.env (eval e X.env)) (TP X pins σ Q) X.xe s
def PW (X:Cx) (e:Expr) (t:TT):Prop :=
 ∀ (whole:Sem Value) (pins:List (Addr × Obj)) (s:Shared) (σ:St) (H:Hp) (Q:Bool→Hp→Prop),Inv X pins σ H s→t σ H Q→wpAny (model X.prog X.w) X.A (isTrue e X.env whole) (TP X pins σ Q) X.xe s
theorem PW.pt {X:Cx} {e:Expr} {t:TT} (h:PW X e t):PT X e t:=h _
def PA (X:Cx) (es:List Expr) (t:TA):Prop :=
 ∀ (pos:Pos) (pins:List (Addr × Obj)) (s:Shared) (σ:St) (H:Hp) (Q:List V→Hp→Prop),Inv X pins σ H s→t σ H Q→wpAny (model X.prog X.w) X.A (spliced (backTo pos (starEach es X.env))) (AP X pins σ Q) X.xe s
def PS (X:Cx) (st:Stmt) (t:TS):Prop :=
 ∀ (pins:List (Addr × Obj)) (s:Shared) (σ:St) (H:Hp) (D:Ends),Inv X pins σ H s→t D σ H→wpAny (model X.prog X.w) X.A (exec st X.env) (SP X pins D) X.xe s
def PSs (X:Cx) (st:List Stmt) (t:TS):Prop :=
 ∀ (pins:List (Addr × Obj)) (s:Shared) (σ:St) (H:Hp) (D:Ends),Inv X pins σ H s→t D σ H→wpAny (model X.prog X.w) X.A (execs st X.env) (SP X pins D) X.xe s
theorem thn {α:Type} {t:Sem α} {Q Q':α→Shared→Prop} {M:Model} {A:Around} {E:Value→Shared→Prop} {s:Shared} (h:wpAny M A t Q E s) (hQ:∀ a s,Q a s→Q' a s):wpAny M A t Q' E s:=wpAny_mono h hQ fun _ _ x=>x
end L2
namespace L2
open PySem PySem.Spec PyProof.Rows
section
variable {X:Cx}
theorem bin {a b:Expr} {ta tb:TE} (ha:PE X a ta) (hb:PE X b tb) {pins:List (Addr × Obj)} {s:Shared} {σ:St} {H:Hp} {R:V→V→Hp→Prop} (I:Inv X pins σ H s) (h:ta σ H fun x H1=>tb σ H1 fun y H2=>R x y H2)
  {α:Type} {Q:α→Shared→Prop} {f:Value→Value→Sem α}
  (hf:∀ v u s2 x y H2,Inv X pins σ H2 s2→RelV x v→RelV y u→R x y H2→wpAny (model X.prog X.w) X.A (f v u) Q X.xe s2) :
  wpAny (model X.prog X.w) X.A (eval a X.env) (fun v s₁=>wpAny (model X.prog X.w) X.A (eval b X.env) (fun u s₂=>wpAny (model X.prog X.w) X.A (f v u) Q X.xe s₂) X.xe s₁) X.xe s:=by
 refine thn (ha pins s σ H _ I h) fun v s1 ⟨x,H1,I1,r1,q1⟩=>?_
 refine thn (hb pins s1 σ H1 _ I1 q1) fun u s2 ⟨y,H2,I2,r2,q2⟩=>?_
 exact hf v u s2 x y H2 I2 r1 r2 q2
def tVar (i:Nat):TE:=fun σ H Q=>∃ v,σ[i]?=some (some v)∧Q v H
def tC (v:V):TE:=fun _ H Q=>Q v H
theorem alq {i:Nat} {x:Str} {pos:Pos} (hN:X.N[i]?=some x) (hv:Vis X.env.scope x) (hd:(x == ("__debug__":Str))=false:=by decide) (hcd:(x == ("__classdict__":Str))=false:=by decide):PE X (.Name x pos) (tVar i):=by
 intro pins s σ H Q I h
 obtain ⟨v,e,h⟩:=h
 obtain ⟨m,hn,hl⟩:=I.loc
 obtain ⟨u,r,l⟩:=hl i x v hN e hv
 have fin:EP X pins σ Q u s:=⟨v,H,I,r,h⟩
 rcases l with ⟨hk,hm⟩ | ⟨hk,c,hc,hcell⟩
 ·exact wpAny_Name (wpAny_loadName_local I.ok.kind hk hn hm fin) hd
 ·rcases hk with hk | hk
  ·exact wpAny_Name (wpAny_loadName_cell I.ok.kind hk hc hcell fin) hd
  ·exact wpAny_Name (wpAny_loadName_free I.ok.kind hk hc hcell fin hcd) hd
theorem ani {i j pos}:PE X (.Constant (.int i) j pos) (tC (.int i)):=fun _ _ _ H _ I h=>wpAny_Constant_int ⟨.int i,H,I.tok _,⟨_,rfl⟩,h⟩
theorem aoH {b j pos}:PE X (.Constant (.bool b) j pos) (tC (.bl b)):=fun _ _ _ H _ I h=>Constant_bool ⟨.bl b,H,I,rfl,h⟩
theorem ajH {j pos}:PE X (.Constant .none j pos) (tC .non):=fun _ _ _ H _ I h=>Constant_none ⟨.non,H,I,rfl,h⟩
theorem ahN {x j pos}:PE X (.Constant (.str x) j pos) (tC (.str x)):=fun _ _ _ H _ I h=>Calls.Constant_str ⟨.str x,H,I.tok _,⟨_,rfl⟩,h⟩
def Gl (X:Cx) (x:Str):Prop:=X.env.kindOf x=some .globalImplicit
theorem afe {E:Value→Shared→Prop} {pins:List (Addr × Obj)} {s:Shared} {σ:St} {H:Hp} {x:Str} {u:Value} {pos:Pos} {Q:Value→Shared→Prop} (I:Inv X pins σ H s) (hg:Gl X x) (hm:X.mg x=some u) (h:Q u s)
  (hd:(x == ("__debug__":Str))=false:=by decide):wpAny (model X.prog X.w) X.A (eval (.Name x pos) X.env) Q E s :=
 Calls.Name_function_global I.ok.kind hg (Calls.loadGlobal_global (by rw [I.ok.glob]; exact I.mod.glob.keeps I.bk) hm h) hd
theorem agX {E:Value→Shared→Prop} {pins:List (Addr × Obj)} {s:Shared} {σ:St} {H:Hp} {x:Str} {u:Value} {pos:Pos} {Q:Value→Shared→Prop} (I:Inv X pins σ H s) (hg:Gl X x) (hm:X.mg x=none) (hv:bootBuiltins x=some u) (h:Q u s)
  (hn:x≠"__name__":=by decide) (hd:(x == ("__debug__":Str))=false:=by decide):wpAny (model X.prog X.w) X.A (eval (.Name x pos) X.env) Q E s:=by
 obtain ⟨mb,h1,h2⟩:=I.mod.blt
 exact Calls.Name_function_global I.ok.kind hg (Calls.loadGlobal_builtin (by rw [I.ok.glob]; exact I.mod.glob.keeps I.bk) hm (by rw [I.ok.blt]; exact h1.keeps I.bk) ((h2 x hn).trans hv) h) hd
theorem amu {x:Str} {v:V} {u:Value} {pos:Pos} (hg:Gl X x) (hm:X.mg x=some u) (r:RelV v u) (hd:(x == ("__debug__":Str))=false:=by decide):PE X (.Name x pos) (tC v) :=
 fun _ _ _ H _ I h=>afe I hg hm ⟨v,H,I,r,h⟩ hd
theorem amP {x:Str} {v:V} {u:Value} {pos:Pos} (hg:Gl X x) (hm:X.mg x=none) (hv:bootBuiltins x=some u) (r:RelV v u) (hn:x≠"__name__":=by decide) (hd:(x == ("__debug__":Str))=false:=by decide):PE X (.Name x pos) (tC v) :=
 fun _ _ _ H _ I h=>agX I hg hm hv ⟨v,H,I,r,h⟩ hn hd
variable {a b:Expr} {ta tb:TE} {pos:Pos}
def PC (X:Cx) (op:CmpOp) (a b:Expr) (t:TE):Prop :=
 ∀ (pins:List (Addr × Obj)) (s:Shared) (σ:St) (H:Hp) (Q:VK),Inv X pins σ H s→t σ H Q →
  wpAny (model X.prog X.w) X.A (eval a X.env) (fun v s₁=>wpAny (model X.prog X.w) X.A (eval b X.env) (fun u s₂=>wpAny (model X.prog X.w) X.A (compareOp op v u) (EP X pins σ Q) X.xe s₂) X.xe s₁) X.xe s
theorem ako (b:Expr) {op:CmpOp} (h:op≠.In) (h2:op≠.NotIn):behindInMarks op b=false:=by
 have e1:(op == CmpOp.In)=false:=by cases op <;> first | rfl | exact absurd rfl h
 have e2:(op == CmpOp.NotIn)=false:=by cases op <;> first | rfl | exact absurd rfl h2
 cases b <;> simp [behindInMarks,e1,e2]
def tIsN (ta:TE):TE:=fun σ H Q=>ta σ H fun x H1=>Q (.bl (decide (x=.non))) H1
def anN (ta:TE):TE:=fun σ H Q=>ta σ H fun x H1=>Q (.bl (!decide (x=.non))) H1
theorem RelV.none_iff {x:V} {v:Value} (r:RelV x v):(v == Value.none)=decide (x=.non):=by
 cases x with
 | non=>cases r; rfl
 | bl _=>cases r; rfl
 | int _=>obtain ⟨t,rfl⟩:=r; rfl
 | str _=>obtain ⟨t,rfl⟩:=r; rfl
 | byt _=>obtain ⟨t,rfl⟩:=r; rfl
 | flt _=>obtain ⟨t,rfl⟩:=r; rfl
 | ref _=>cases r; rfl
 | ty _=>cases r; rfl
theorem anl {j pos'} (ha:PE X a ta):PC X .Is a (.Constant .none j pos') (tIsN ta):=by
 intro pins s σ H Q I h
 refine thn (ha pins s σ H _ I h) fun v s1 ⟨x,H1,I1,r1,q1⟩=>?_
 exact Constant_none (is_none_gen ⟨.bl _,H1,I1,by rw [r1.none_iff]; rfl,q1⟩)
theorem amc {j pos'} (ha:PE X a ta):PC X .IsNot a (.Constant .none j pos') (anN ta):=by
 intro pins s σ H Q I h
 refine thn (ha pins s σ H _ I h) fun v s1 ⟨x,H1,I1,r1,q1⟩=>?_
 exact Constant_none (isnot_none_gen ⟨.bl _,H1,I1,by rw [r1.none_iff]; rfl,q1⟩)
def tB (t:TE):TT:=fun σ H Q=>t σ H fun x H1=>∃ c,x=.bl c∧Q c H1
theorem alw {op:CmpOp} {t:TE} (h:PC X op a b t) (h1:behindInMarks op b=false:=by first | exact ako _ (by decide) (by decide) | rfl):PT X (.Compare a [op] [b] pos) (tB t):=by
 intro pins s σ H Q I hw
 refine wpAny_isTrue_Compare1 (thn (h pins s σ H _ I hw) fun v s1 h1=>thn h1 fun u s2 h2=>thn h2 fun c s3 ⟨x,H1,I1,r1,q1⟩=>?_) h1
 obtain ⟨d,rfl,q⟩:=q1
 cases r1
 exact wpAny_truthy_bool ⟨H1,I1,q⟩
theorem anp {e:Expr} {t:TE} (h:PE X e t) (he:∀ whole,isTrue e X.env whole=(do let v ← whole; standAt e.pos; holding [v] (truthy v)):=by intro _; rfl):PT X e (tB t):=by
 intro pins s σ H Q I hw
 refine isTrue_plain (thn (h pins s σ H _ I hw) fun v s1 ⟨x,H1,I1,r1,q1⟩=>?_) (he _)
 obtain ⟨d,rfl,q⟩:=q1
 cases r1
 exact wpAny_truthy_bool ⟨H1,I1,q⟩
variable {tA tB':TT} {rest:List Expr}
def tAnd (t u:TT):TT:=fun σ H Q=>t σ H fun c H1=>if c=true then u σ H1 Q else Q false H1
def tOr (t u:TT):TT:=fun σ H Q=>t σ H fun c H1=>if c=true then Q true H1 else u σ H1 Q
def tNot (t:TT):TT:=fun σ H Q=>t σ H fun c H1=>Q (!c) H1
theorem amN (ha:PT X a tA):PW X (.BoolOp .And [a] pos) tA:=by
 intro wh pins s σ H Q I h
 refine isTrue_and (thn (ha pins s σ H Q I h) fun c s1 e=>?_)
 cases c with
 | true=>exact isTrue_and_nil e
 | false=>exact e
theorem anB (ha:PT X a tA):PW X (.BoolOp .Or [a] pos) tA:=by
 intro wh pins s σ H Q I h
 refine isTrue_or (thn (ha pins s σ H Q I h) fun c s1 e=>?_)
 cases c with
 | false=>exact isTrue_or_nil e
 | true=>exact e
theorem anT (ha:PT X a tA) (hb:PW X (.BoolOp .And (b :: rest) pos) tB'):PW X (.BoolOp .And (a :: b :: rest) pos) (tAnd tA tB'):=by
 intro wh pins s σ H Q I h
 refine isTrue_and (thn (ha pins s σ H _ I h) fun c s1 ⟨H1,I1,q1⟩=>?_)
 cases c with
 | true=>exact hb wh pins s1 σ H1 Q I1 q1
 | false=>exact ⟨H1,I1,q1⟩
theorem aoB (ha:PT X a tA) (hb:PW X (.BoolOp .Or (b :: rest) pos) tB'):PW X (.BoolOp .Or (a :: b :: rest) pos) (tOr tA tB'):=by
 intro wh pins s σ H Q I h
 refine isTrue_or (thn (ha pins s σ H _ I h) fun c s1 ⟨H1,I1,q1⟩=>?_)
 cases c with
 | true=>exact ⟨H1,I1,q1⟩
 | false=>exact hb wh pins s1 σ H1 Q I1 q1
theorem anZ (ha:PT X a tA):PT X (.UnaryOp .Not a pos) (tNot tA):=by
 intro pins s σ H Q I h
 exact isTrue_not (ha pins s σ H (fun c H1=>Q (!c) H1) I h)
def aoL (ta tb:TE):TE:=fun σ H Q=>ta σ H fun x H1=>∃ c,x=.bl c∧if c=true then tb σ H1 Q else Q (.bl false) H1
def tOrV (ta tb:TE):TE:=fun σ H Q=>ta σ H fun x H1=>∃ c,x=.bl c∧if c=true then Q (.bl true) H1 else tb σ H1 Q
def aoK (ta:TE):TE:=fun σ H Q=>ta σ H fun x H1=>∃ c,x=.bl c∧Q (.bl (!c)) H1
theorem amY {op} {t:TE} (h:PE X a t):PE X (.BoolOp op [a] pos) t:=fun pins s σ H Q I hw=>BoolOp_one (h pins s σ H Q I hw)
theorem anU (ha:PE X a ta) (hb:PE X (.BoolOp .And (b :: rest) pos) tb):PE X (.BoolOp .And (a :: b :: rest) pos) (aoL ta tb):=by
 intro pins s σ H Q I h
 refine BoolOp_and (thn (ha pins s σ H _ I h) fun v s1 ⟨x,H1,I1,r1,q1⟩=>?_)
 obtain ⟨c,rfl,q1⟩:=q1
 cases r1
 refine wpAny_truthy_bool ?_
 cases c with
 | true=>exact hb pins s1 σ H1 Q I1 q1
 | false=>exact ⟨.bl false,H1,I1,rfl,q1⟩
theorem aow (ha:PE X a ta) (hb:PE X (.BoolOp .Or (b :: rest) pos) tb):PE X (.BoolOp .Or (a :: b :: rest) pos) (tOrV ta tb):=by
 intro pins s σ H Q I h
 refine BoolOp_or (thn (ha pins s σ H _ I h) fun v s1 ⟨x,H1,I1,r1,q1⟩=>?_)
 obtain ⟨c,rfl,q1⟩:=q1
 cases r1
 refine wpAny_truthy_bool ?_
 cases c with
 | false=>exact hb pins s1 σ H1 Q I1 q1
 | true=>exact ⟨.bl true,H1,I1,rfl,q1⟩
theorem ang (ha:PE X a ta):PE X (.UnaryOp .Not a pos) (aoK ta):=by
 intro pins s σ H Q I h
 refine UnaryOp_ (thn (ha pins s σ H _ I h) fun v s1 ⟨x,H1,I1,r1,q1⟩=>?_)
 obtain ⟨c,rfl,q1⟩:=q1
 cases r1
 exact not_of (wpAny_truthy_bool ⟨.bl (!c),H1,I1,rfl,q1⟩)
def tIf (t:TT) (ta tb:TE):TE:=fun σ H Q=>t σ H fun c H1=>if c=true then ta σ H1 Q else tb σ H1 Q
theorem alg {c:Expr} (hc:PT X c tA) (ha:PE X a ta) (hb:PE X b tb):PE X (.IfExp c a b pos) (tIf tA ta tb):=by
 intro pins s σ H Q I h
 refine wpAny_IfExp (thn (hc pins s σ H _ I h) fun d s1 ⟨H1,I1,q1⟩=>?_)
 cases d with
 | true=>exact ha pins s1 σ H1 Q I1 q1
 | false=>exact hb pins s1 σ H1 Q I1 q1
end
end L2
namespace L2
open PySem PySem.Spec PyProof.Rows
def SqL (K:PySem.W.Frag) (H:Hp) (a:Addr) (xs:List V):Prop :=
 Rd H a (.lst xs) ∨
  ∃ (o:Obj) (its:Array Value) (n:Nat),K.lookup a=some o∧o.cls=.type "list"∧o.dict=none∧o.data=.seq its n∧its.size≤sizeLine∧Vals xs its.toList
def SqT (K:PySem.W.Frag) (H:Hp) (a:Addr) (xs:List V):Prop :=
 Rd H a (.tup xs) ∨
  ∃ (o:Obj) (its:Array Value) (n:Nat),K.lookup a=some o∧o.cls=.type "tuple"∧o.data=.seq its n∧its.size≤sizeLine∧Vals xs its.toList
def absV:Value→Option V
 | .none=>some .non
 | .bool b=>some (.bl b)
 | .int i _=>some (.int i)
 | .str x _=>some (.str x)
 | .bytes b _=>some (.byt b)
 | .float b _=>some (.flt b)
 | .ref a=>some (.ref a)
 | .type n=>some (.ty n)
 | _=>none
theorem RelV.abs {x:V} {u:Value} (r:RelV x u):absV u=some x:=by
 cases x with
 | non=>cases r; rfl
 | bl _=>cases r; rfl
 | int _=>obtain ⟨t,rfl⟩:=r; rfl
 | str _=>obtain ⟨t,rfl⟩:=r; rfl
 | byt _=>obtain ⟨t,rfl⟩:=r; rfl
 | flt _=>obtain ⟨t,rfl⟩:=r; rfl
 | ref _=>cases r; rfl
 | ty _=>cases r; rfl
theorem RelV.inj {x y:V} {u:Value} (r:RelV x u) (q:RelV y u):x=y:=Option.some.inj (r.abs.symm.trans q.abs)
theorem Vals.inj:∀ {xs ys:List V} {us:List Value},Vals xs us→Vals ys us→xs=ys
 | _,_,_,.nil,.nil=>rfl
 | _,_,_,.cons r t,.cons r' t'=>by rw [r.inj r',Vals.inj t t']
section
variable {X:Cx} {pins:List (Addr × Obj)} {σ:St} {H:Hp} {s:Shared} {a:Addr} {xs ys:List V}
theorem SqL.of {K:PySem.W.Frag} (h:H a=some (.lst xs)):SqL K H a xs:=.inl (.inl h)
theorem SqT.of {K:PySem.W.Frag} (h:H a=some (.tup xs)):SqT K H a xs:=.inl (.inl h)
theorem Inv.list (I:Inv X pins σ H s) (h:SqL X.K H a xs):∃ its:List Value,Vals xs its∧PlainL s.heap a its.toArray∧xs.length≤sizeLine:=by
 rcases h with h | ⟨o,its,n,hk,hc,hd,hs,hz,r⟩
 ·obtain ⟨z,its,n,r,e⟩:=h.ok I.hok
  exact ⟨its,r,⟨_,n,e,rfl,rfl,rfl⟩,z⟩
 ·refine ⟨its.toList,r,⟨o,n,I.kIn a o hk,hc,hd,by simpa using hs⟩,?_⟩
  have e:=r.length
  simp only [Array.length_toList] at e
  omega
theorem Inv.tuple (I:Inv X pins σ H s) (h:SqT X.K H a xs):∃ its:List Value,Vals xs its∧IsTup s.heap a its.toArray∧xs.length≤sizeLine:=by
 rcases h with h | ⟨o,its,n,hk,hc,hs,hz,r⟩
 ·obtain ⟨z,its,r,p⟩:=h.ok I.hok
  exact ⟨its,r,p,z⟩
 ·refine ⟨its.toList,r,⟨o,I.kIn a o hk,hc,n,by simpa using hs⟩,?_⟩
  have e:=r.length
  simp only [Array.length_toList] at e
  omega
theorem Inv.list_inj (I:Inv X pins σ H s) (h:SqL X.K H a xs) (h':SqL X.K H a ys):xs=ys:=by
 obtain ⟨its,r,⟨o,n,e,_,_,d⟩,_⟩:=I.list h
 obtain ⟨its',r',⟨o',n',e',_,_,d'⟩,_⟩:=I.list h'
 rw [e] at e'; cases e'
 rw [d] at d'
 injection d' with d1 _
 have:its=its':=by simpa using congrArg Array.toList d1
 subst this
 exact r.inj r'
theorem Inv.tuple_inj (I:Inv X pins σ H s) (h:SqT X.K H a xs) (h':SqT X.K H a ys):xs=ys:=by
 obtain ⟨its,r,⟨o,e,_,n,d⟩,_⟩:=I.tuple h
 obtain ⟨its',r',⟨o',e',_,n',d'⟩,_⟩:=I.tuple h'
 rw [e] at e'; cases e'
 rw [d] at d'
 injection d' with d1 _
 have:its=its':=by simpa using congrArg Array.toList d1
 subst this
 exact r.inj r'
end
abbrev Cx.wish (X:Cx) (E:Value→Shared→Prop):Cx:={ X with xe:=E }
abbrev Cx.nox (X:Cx):Cx:=X.wish fun _ _=>False
theorem Cx.Ok.wish {X:Cx} (ok:X.Ok) (E:Value→Shared→Prop):(X.wish E).Ok :=
 ⟨ok.mod,ok.kind,ok.glob,ok.blt,ok.above,ok.inj,ok.has,ok.cab,ok.hd,ok.frames,ok.stk,ok.exf,ok.bs,ok.bsz,ok.noex,ok.exfs,ok.funs,ok.frf⟩
theorem Cx.Ok.unwish {X:Cx} {E:Value→Shared→Prop} (ok:(X.wish E).Ok):X.Ok :=
 ⟨ok.mod,ok.kind,ok.glob,ok.blt,ok.above,ok.inj,ok.has,ok.cab,ok.hd,ok.frames,ok.stk,ok.exf,ok.bs,ok.bsz,ok.noex,ok.exfs,ok.funs,ok.frf⟩
section
variable {X:Cx} {pins:List (Addr × Obj)} {σ:St} {H:Hp} {s:Shared} {E:Value→Shared→Prop}
theorem Inv.wish (I:Inv X pins σ H s) (E:Value→Shared→Prop):Inv (X.wish E) pins σ H s:=⟨I.ok.wish E,I.os,I.bare,I.base,I.loc,I.cell,I.free,I.freeC,I.pin,I.hok,I.len⟩
theorem Inv.unwish (I:Inv (X.wish E) pins σ H s):Inv X pins σ H s:=⟨I.ok.unwish,I.os,I.bare,I.base,I.loc,I.cell,I.free,I.freeC,I.pin,I.hok,I.len⟩
theorem SP.unwish {D:Ends} {f:Flow} {s':Shared} (h:SP (X.wish E) pins D f s'):SP X pins D f s':=by
 cases f with
 | next=>obtain ⟨σ',H',I,q⟩:=h; exact ⟨σ',H',I.unwish,q⟩
 | brk=>obtain ⟨σ',H',I,q⟩:=h; exact ⟨σ',H',I.unwish,q⟩
 | cont=>obtain ⟨σ',H',I,q⟩:=h; exact ⟨σ',H',I.unwish,q⟩
 | ret u=>obtain ⟨v,σ',H',I,r,q⟩:=h; exact ⟨v,σ',H',I.unwish,r,q⟩
theorem PSs.nox {st:List Stmt} {t:TS} (h:PSs X.nox st t):PSs X st t:=fun pins s σ H D I hw =>
 wpAny_mono (h pins s σ H D (I.wish _) hw) (fun _ _ q=>q.unwish) fun _ _ z=>False.elim z
end
section
variable {X:Cx} {st:Stmt} {rest:List Stmt} {t u:TS} {e:Expr} {te:TE} {pos:Pos}
def aoE:TS:=fun D σ H=>D.nx σ H
def tSeq (t u:TS):TS:=fun D σ H=>t { D with nx:=u D } σ H
theorem amD:PSs X [] aoE:=fun _ _ σ H _ I h=>wpAny_execs_nil ⟨σ,H,I,h⟩
theorem akU (h1:PS X st t) (h2:PSs X rest u):PSs X (st :: rest) (tSeq t u):=by
 intro pins s σ H D I h
 refine wpAny_execs_cons (thn (h1 pins s σ H { D with nx:=u D } I h) fun f s1 q=>?_)
 cases f with
 | next =>
  obtain ⟨σ',H',I',q⟩:=q
  exact h2 pins s1 σ' H' D I' q
 | ret v=>exact q
 | brk=>exact q
 | cont=>exact q
theorem ahf (h1:PS X st t):PSs X [st] t:=by
 intro pins s σ H D I h
 refine wpAny_execs_cons (thn (h1 pins s σ H D I h) fun f s1 q=>?_)
 cases f with
 | next=>exact wpAny_execs_nil q
 | ret v=>exact q
 | brk=>exact q
 | cont=>exact q
theorem Inv.quiet {pins:List (Addr × Obj)} {σ:St} {H:Hp} {s:Shared} (I:Inv X pins σ H s):interactive X.env=false:=by simp [interactive,I.ok.kind]
def aos (te:TE):TS:=fun D σ H=>te σ H fun _ H1=>D.nx σ H1
theorem alT (he:PE X e te) (hs:swapsWith e none pos.line X.env=pure false:=by rfl):PS X (.Expr e pos) (aos te):=by
 intro pins s σ H D I h
 exact wpAny_Expr_any (thn (he pins s σ H _ I h) fun v s1 ⟨x,H1,I1,r1,q1⟩=>⟨σ,H1,I1,q1⟩) I.quiet hs
def tRet (te:TE):TS:=fun D σ H=>te σ H D.rt
theorem anb (he:PE X e te):PS X (.Return (some e) pos) (tRet te):=by
 intro pins s σ H D I h
 exact wpAny_Return_some (thn (he pins s σ H _ I h) fun v s1 ⟨x,H1,I1,r1,q1⟩=>⟨x,σ,H1,I1,r1,q1⟩)
def tIfS (c:TT) (t u:TS):TS:=fun D σ H=>c σ H fun b H1=>if b=true then t D σ H1 else u D σ H1
theorem aou {c:Expr} {a b:List Stmt} {tc:TT} (hc:PT X c tc) (ha:PSs X a t) (hb:PSs X b u):PS X (.If c a b pos) (tIfS tc t u):=by
 intro pins s σ H D I h
 refine wpAny_If (thn (hc pins s σ H _ I h) fun d s1 ⟨H1,I1,q1⟩=>?_)
 cases d with
 | true=>exact ha pins s1 σ H1 D I1 q1
 | false=>exact hb pins s1 σ H1 D I1 q1
end
abbrev TG:=V→St→Hp→(St→Hp→Prop)→Prop
abbrev TGs:=List V→St→Hp→(St→Hp→Prop)→Prop
def PG (X:Cx) (target:Expr) (t:TG):Prop :=
 ∀ (pins:List (Addr × Obj)) (s:Shared) (σ:St) (H:Hp) (v:V) (u:Value) (Q:St→Hp→Prop),Inv X pins σ H s→RelV v u→t v σ H Q →
  wpAny (model X.prog X.w) X.A (assign target X.env u) (fun _ s'=>∃ σ' H',Inv X pins σ' H' s'∧Q σ' H') X.xe s
def PGs (X:Cx) (ts:List Expr) (t:TGs):Prop :=
 ∀ (pins:List (Addr × Obj)) (s:Shared) (σ:St) (H:Hp) (vs:List V) (us:List Value) (Q:St→Hp→Prop),Inv X pins σ H s→Vals vs us→t vs σ H Q →
  wpAny (model X.prog X.w) X.A (assignInOrder ((assignEach ts X.env).map (·.2)) us) (fun _ s'=>∃ σ' H',Inv X pins σ' H' s'∧Q σ' H') X.xe s
abbrev TSet:=V→V→V→Hp→(Hp→Prop)→Prop
def PSet (X:Cx) (t:TSet):Prop :=
 ∀ (pins:List (Addr × Obj)) (s:Shared) (σ:St) (H:Hp) (o i v:V) (ov iv u:Value) (Q:Hp→Prop),Inv X pins σ H s→RelV o ov→RelV i iv→RelV v u→t o i v H Q →
  wpAny (model X.prog X.w) X.A (setItem ov iv u) (fun _ s'=>∃ H',Inv X pins σ H' s'∧Q H') X.xe s
abbrev TIp:=V→V→Hp→VK→Prop
def PIp (X:Cx) (op:Operator) (t:TIp):Prop :=
 ∀ (pins:List (Addr × Obj)) (s:Shared) (σ:St) (H:Hp) (x y:V) (v u:Value) (Q:VK),Inv X pins σ H s→RelV x v→RelV y u→t x y H Q →
  wpAny (model X.prog X.w) X.A (inplaceOp op v u) (EP X pins σ Q) X.xe s
section
variable {X:Cx} {pos:Pos}
def aks (i:Nat):TG:=fun v σ H Q=>Q (σ.set i (some v)) H
theorem amV {i:Nat} {x:Str} (hN:X.N.Nodup) (hi:X.N[i]?=some x) (hx:Loc X.env.scope x) (hf:X.fn x=true∨X.env.scope.names.lookup x=some .local:=by first | exact .inl rfl | exact .inr rfl | assumption):PG X (.Name x pos) (aks i):=by
 intro pins s σ H v u Q I r h
 exact wpAny_assign_Name (ac1 I hN hi hx r (fun s' I'=>⟨_,H,I',h⟩) hf)
def gNil:TGs:=fun vs σ H Q=>vs=[]∧Q σ H
def aoD (t:TG) (u:TGs):TGs:=fun vs σ H Q=>∃ v r,vs=v :: r∧t v σ H fun σ' H'=>u r σ' H' Q
theorem amQ:PGs X [] gNil:=by
 intro pins s σ H vs us Q I r h
 obtain ⟨e,h⟩:=h
 subst e
 cases r
 exact assignInOrder_nil ⟨σ,H,I,h⟩
theorem ak6 {e:Expr} {es:List Expr} {t:TG} {u:TGs} (h1:PG X e t) (h2:PGs X es u)
  (hs:(assignEach (e :: es) X.env).map (·.2)=assign e X.env :: (assignEach es X.env).map (·.2):=by rfl):PGs X (e :: es) (aoD t u):=by
 intro pins s σ H vs us Q I r h
 obtain ⟨v,vr,e1,h⟩:=h
 subst e1
 cases r with
 | cons r rr =>
  rw [hs]
  refine assignInOrder_cons (thn (h1 pins s σ H _ _ _ I r h) fun _ s1 ⟨σ1,H1,I1,q1⟩=>?_)
  exact h2 pins s1 σ1 H1 _ _ Q I1 rr q1
def gTup (K:PySem.W.Frag) (n:Nat) (t:TGs):TG:=fun v σ H Q=>∃ a xs,v=.ref a∧SqT K H a xs∧xs.length=n∧t xs σ H Q
theorem anh {es:List Expr} {k:Nat} {t:TGs} {n:Nat} (hc:X.calm=true) (h:PGs X es t)
  (hn:(assignEach es X.env).length=n:=by rfl) (hst:(assignEach es X.env).findIdx? (·.1)=none:=by rfl):PG X (.Tuple es k pos) (gTup X.K n t):=by
 intro pins s σ H v u Q I r hw
 obtain ⟨a,xs,e1,hq,hl,hw⟩:=hw
 subst e1
 cases r
 obtain ⟨its,rv,ht,hz⟩:=I.tuple hq
 refine assign_Tuple_tuple (I.ok.hd hc) ht (by simp [hn,← hl,rv.length]) hst fun h' hx=>?_
 have I1:Inv X pins σ H { s with heap:=h' }:=I.kept (t':=s.toks) fun b o e=>hx b o (Nat.ne_of_lt (Heap.lt_size e)) e
 exact h pins _ σ H xs _ Q I1 (by simpa using rv) hw
def gSub (to ti:TE) (t:TSet):TG:=fun v σ H Q=>to σ H fun o H1=>ti σ H1 fun i H2=>t o i v H2 fun H3=>Q σ H3
theorem anr {o i:Expr} {to ti:TE} {t:TSet} (ho:PE X o to) (hi:PE X i ti) (hs:PSet X t)
  (ha:∀ v,assign (.Subscript o i pos) X.env v=(do
   let ov ← holding [v] (eval o X.env)
   let iv ← holding [v,ov] (eval i X.env)
   standAt pos
   holding [v,ov,iv] (setItem ov iv v)
   release [v,ov,iv] []):=by intro _; rfl):PG X (.Subscript o i pos) (gSub to ti t):=by
 intro pins s σ H v u Q I r h
 rw [ha]
 refine wpAny_bind (wpAny_holding (thn (ho pins s σ H _ I h) fun ov s1 ⟨x,H1,I1,r1,q1⟩=>?_))
 refine wpAny_bind (wpAny_holding (thn (hi pins s1 σ H1 _ I1 q1) fun iv s2 ⟨y,H2,I2,r2,q2⟩=>?_))
 refine wpAny_bind (wpAny_standAt (wpAny_bind (wpAny_holding (thn (hs pins s2 σ H2 x y v ov iv u _ I2 r1 r2 r q2) fun _ s3 ⟨H3,I3,q3⟩=>?_))))
 exact wpAny_release ⟨σ,H3,I3,q3⟩
def tAsg (te:TE) (g:TG):TS:=fun D σ H=>te σ H fun x H1=>g x σ H1 D.nx
theorem alA {tg e:Expr} {te:TE} {g:TG} (he:PE X e te) (hg:PG X tg g) (hs:swapsWithSole [tg] e pos.line X.env=pure false:=by rfl) (hw:swappedStores [tg] e X.env=pure none:=by rfl)
  (h1:(assignEach [tg] X.env).map (·.2)=[assign tg X.env]:=by rfl):PS X (.Assign [tg] e pos) (tAsg te g):=by
 intro pins s σ H D I h
 refine wpAny_Assign_stores (thn (he pins s σ H _ I h) fun v s1 ⟨x,H1,I1,r1,q1⟩=>?_) hs hw
 rw [h1]
 exact thn (hg pins s1 σ H1 x v _ I1 r1 q1) fun _ s2 q=>q
theorem ai7 {i:Nat} {x:Str} {e:Expr} {te:TE} {pos':Pos} (hN:X.N.Nodup) (hi:X.N[i]?=some x) (hx:Loc X.env.scope x) (he:PE X e te) (hs:swapsWith e (some (.Name x pos')) pos.line X.env=pure false:=by rfl) (hf:X.fn x=true∨X.env.scope.names.lookup x=some .local:=by first | exact .inl rfl | exact .inr rfl | assumption) :
  PS X (.Assign [.Name x pos'] e pos) (tAsg te (aks i)):=by
 intro pins s σ H D I h
 refine wpAny_Assign_Name (thn (he pins s σ H _ I h) fun v s1 ⟨y,H1,I1,r1,q1⟩=>?_) hs
 exact ac1 I1 hN hi hx r1 (fun s2 I2=>⟨_,H1,I2,q1⟩) hf
def tPar (i j:Nat) (ta:TA):TS:=fun D σ H=>ta σ H fun vs H1=>∃ v w,vs=[v,w]∧D.nx ((σ.set i (some v)).set j (some w)) H1
theorem ans {i j:Nat} {x y:Str} {a b:Expr} {ta:TA} {px py pt:Pos} {kt k2 pt2} (hc:X.calm=true) (hN:X.N.Nodup) (hi:X.N[i]?=some x) (hj:X.N[j]?=some y) (hij:i≠j)
  (hx:X.env.scope.names.lookup x=some .local) (hy:X.env.scope.names.lookup y=some .local) (ha:PA X [a,b] ta)
  (hw:swappedStores [.Tuple [.Name x px,.Name y py] kt pt] (.Tuple [a,b] k2 pt2) X.env=pure (some [x,y]))
  (hs:swapsWithSole [.Tuple [.Name x px,.Name y py] kt pt] (.Tuple [a,b] k2 pt2) pos.line X.env=pure false:=by rfl) :
  PS X (.Assign [.Tuple [.Name x px,.Name y py] kt pt] (.Tuple [a,b] k2 pt2) pos) (tPar i j ta):=by
 intro pins s σ H D I h
 rw [exec_Assign_arm]
 refine wpAny_bind (wpAny_standAt ?_)
 rw [hs]
 refine wpAny_bind (wpAny_pure ?_)
 rw [if_neg (by decide)]
 refine wpAny_bind (Tuple_ (thn (ha _ pins s σ H _ I h) fun us s1 ⟨vs,H1,I1,r1,q1⟩=>?_))
 obtain ⟨v,w,e1,q1⟩:=q1
 subst e1
 obtain ⟨u1,u2,rfl,rv,rw'⟩:∃ u1 u2,us=[u1,u2]∧RelV v u1∧RelV w u2:=by
  cases r1 with
  | cons p q =>
   cases q with
   | cons p' q' =>
    cases q'
    exact ⟨_,_,rfl,p,p'⟩
 refine wpAny_newObj_type ?_ (by show 2≤sizeLine; decide)
 have I2:Inv X pins σ H1 { s1 with heap:=s1.heap.push { cls:=.type "tuple",data:=.seq [u1,u2].toArray } }:=I1.kept (t':=s1.toks) fun b o e=>Heap.get?_push_of_some _ e
 rw [hw]
 refine wpAny_bind (wpAny_pure ?_)
 show wpAny (model X.prog X.w) X.A (do rule "assign.swapped-stores"; let items ← unpackItems (.ref s1.heap.objs.size) 2 none; assignInOrder [fun v=>bindName X.env y v,fun v=>bindName X.env x v] items.reverse; pure Flow.next) _ _ _
 refine wpAny_bind (wpAny_rule (wpAny_bind (unpackItems_tuple (items:=#[u1,u2]) (I.ok.hd hc) (IsTup.new s1.heap _) fun h' hx'=>?_)))
 have I3:=I2.kept (h':=h') (t':=s1.toks) fun b o e=>hx' b o (Nat.ne_of_lt (Heap.lt_size e)) e
 show wpAny _ _ (assignInOrder [fun v=>bindName X.env y v,fun v=>bindName X.env x v] [u2,u1] >>= fun _=>pure Flow.next) _ _ _
 refine wpAny_bind (assignInOrder_cons (wpAny_bindName (ac1 I3 hN hj (.inl hy) rw' (fun s2 I4=>?_) (.inr hy))))
 refine assignInOrder_cons (wpAny_bindName (ac1 I4 hN hi (.inl hx) rv (fun s3 I5=>assignInOrder_nil (wpAny_pure ?_)) (.inr hx)))
 rw [List.set_comm _ _ (Ne.symm hij)] at I5
 exact ⟨_,H1,I5,q1⟩
end
section
variable {X:Cx} {pos:Pos}
def anI (c:TT) (tb:TS):TS:=fun D σ H=>∃ W:Nat→St→Hp→Prop,(∃ m,W m σ H)∧∀ m σ H,W m σ H →
 c σ H fun b H1=>if b=true then ∃ N:St→Hp→Prop,(∀ σ' H',N σ' H'→∃ m',m' < m∧W m' σ' H')∧tb { D with nx:=N,ct:=N,bk:=D.nx } σ H1 else D.nx σ H1
theorem alh {c:Expr} {body:List Stmt} {tc:TT} {tb:TS} (hp:PassesOwn (model X.prog X.w) X.A X.env X.xe) (hc:PT X c tc) (hb:PSs X body tb):PS X (.While c body [] pos) (anI tc tb):=by
 intro pins s σ H D I h
 obtain ⟨W,⟨m0,w0⟩,turn⟩:=h
 refine wpAny_While (codeAny_whileLoop (fun n s'=>∃ σ' H',Inv X pins σ' H' s'∧W n σ' H') ?_ m0 ⟨σ,H,I,w0⟩)
 rintro n s1 ⟨σ1,H1,I1,w1⟩
 refine wpAny_passesOwn hp (thn (hc pins s1 σ1 H1 _ I1 (turn n σ1 H1 w1)) fun b s2 ⟨H2,I2,q2⟩=>?_)
 cases b with
 | true =>
  obtain ⟨N,hN,q2⟩:=q2
  rw [if_pos rfl]
  refine wpAny_passesOwn hp (thn (hb pins s2 σ1 H2 _ I2 q2) fun f s3 q3=>?_)
  cases f with
  | next =>
   obtain ⟨σ3,H3,I3,n3⟩:=q3
   obtain ⟨m',hm,w3⟩:=hN σ3 H3 n3
   exact ⟨m',hm,σ3,H3,I3,w3⟩
  | cont =>
   obtain ⟨σ3,H3,I3,n3⟩:=q3
   obtain ⟨m',hm,w3⟩:=hN σ3 H3 n3
   exact ⟨m',hm,σ3,H3,I3,w3⟩
  | brk=>exact q3
  | ret v=>exact q3
 | false =>
  rw [if_neg Bool.false_ne_true]
  exact wpAny_execs_nil ⟨σ1,H2,I2,q2⟩
end
structure It where
 go:Nat→Hp→Prop
 yld:Nat→Hp→V→Hp→Prop
 stop:Nat→Hp→Prop
def FpOk (X:Cx) (pins:List (Addr × Obj)) (H:Hp) (b:Addr):Prop :=
 H b=none∧b≠X.env.locals∧b ∉ X.fs∧(b∈X.ex∨X.s₀.heap.objs.size≤b)∧(∀ x c,X.env.cells.lookup x=some c→c≠b)∧∀ p∈X.pn++pins,p.1≠b
theorem Inv.fpOk {X:Cx} {pins:List (Addr × Obj)} {σ:St} {H H':Hp} {s:Shared} {b:Addr} (I:Inv X pins σ H s) (hb:s.heap.objs.size≤b) (hn:H' b=none):FpOk X pins H' b:=by
 refine ⟨hn,Nat.ne_of_gt (Nat.lt_of_lt_of_le I.lt hb),I.nofs hb,.inr (Nat.le_trans I.sz hb),fun x c e z=>?_,fun p hp z=>?_⟩
 ·obtain ⟨v,q⟩:=I.cell x c e
  exact absurd (Nat.lt_of_lt_of_le q.lt (by rw [z]; exact hb)) (Nat.lt_irrefl _)
 ·exact absurd (Nat.lt_of_lt_of_le (Heap.lt_size (I.pin p hp).1) (by rw [z]; exact hb)) (Nat.lt_irrefl _)
structure Turn (P:Program) (w:World) (K:PySem.W.Frag) (tg:Expr) (J:It) (fp:List Addr) (it:Addr) (tn:Nat→Heap→Prop):Prop where
 mem:it∈fp
 obj:∀ i h,tn i h→∀ b∈fp,∃ o,h.get? b=some o∧∀ v,o.data≠.cell v
 keep:∀ i h h',tn i h→(∀ b∈fp,∀ o,h.get? b=some o→h'.get? b=some o)→tn i h'
 item:∀ (X:Cx),X.prog=P→X.w=w→X.K=K→X.calm=true→∀ (i:Nat) (pins:List (Addr × Obj)) (s:Shared) (σ:St) (H:Hp) (E:Value→Shared→Prop),Inv X pins σ H s→(∀ b∈fp,FpOk X pins H b)→tn i s.heap→J.go i H →
  wpAny (model P w) X.A (pyNext (.ref it)) (fun r s1=>∃ u,r=some u ∧
   wpAny (model P w) X.A (letOwnedTupleGo tg (.ref it) u) (fun _ s2=>∃ x H',Inv X pins σ H' s2∧RelV x u∧J.yld i H x H'∧tn (i+1) s2.heap∧∀ b∈fp,H' b=none) E s1) E s
 done:∀ (X:Cx),X.prog=P→X.w=w→X.K=K→X.calm=true→∀ (i:Nat) (pins:List (Addr × Obj)) (s:Shared) (σ:St) (H:Hp) (E:Value→Shared→Prop),Inv X pins σ H s→(∀ b∈fp,FpOk X pins H b)→tn i s.heap→J.stop i H →
  wpAny (model P w) X.A (pyNext (.ref it)) (fun r s1=>r=none∧Inv X pins σ H s1) E s
 self:∀ (A:Around) (i:Nat) (s:Shared) (Q:Value→Shared→Prop) (E:Value→Shared→Prop),tn i s.heap→Q (.ref it) s→wpAny (model P w) A (pyIter (.ref it)) Q E s
abbrev TI:=St→Hp→(It→Hp→Prop)→Prop
def PIE (X:Cx) (pins:List (Addr × Obj)) (σ:St) (tg:Expr) (R:It→Hp→Prop) (itv:Value) (s2:Shared):Prop :=
 ∃ (it:Addr) (fp:List Addr) (tn:Nat→Heap→Prop) (J:It) (H':Hp),itv=.ref it∧Inv X pins σ H' s2∧Turn X.prog X.w X.K tg J fp it tn∧tn 0 s2.heap∧(∀ b∈fp,FpOk X pins H' b)∧R J H'
def PI (X:Cx) (tg iter:Expr) (wi:TI):Prop :=
 ∀ (pins:List (Addr × Obj)) (s:Shared) (σ:St) (H:Hp) (R:It→Hp→Prop),Inv X pins σ H s→wi σ H R →
  wpAny (model X.prog X.w) X.A (eval iter X.env) (fun v s1=>wpAny (model X.prog X.w) X.A (pyIter v) (PIE X pins σ tg R) X.xe s1) X.xe s
theorem ali {M : Model} {A : Around} {E : Value → Shared → Prop} {s : Shared} {tg : Expr} {it : Addr} {u : Value} {o : Obj} {n : String} {vs : Array Value} {Q : Unit → Shared → Prop} (ho : s.heap.get? it = some o) (hc : o.cls = .type n) (hd : o.data = .fields vs)
    (hn : ["enumerate", "zip", "dict_itemiterator", "dict_reverseitemiterator", "odict_iterator", "itertools.zip_longest", "itertools.pairwise"].contains n = false) (hQ : Q () s) : wpAny M A (letOwnedTupleGo tg (.ref it) u) Q E s := by
  unfold letOwnedTupleGo
  cases tg <;> first
    | exact wpAny_pure hQ
    | (cases u <;> first
        | exact wpAny_pure hQ
        | (refine wpAny_bind (wpAny_load ho ?_)
           rw [hc, hd]
           show wpAny M A (if (["enumerate", "zip", "dict_itemiterator", "dict_reverseitemiterator", "odict_iterator", "itertools.zip_longest", "itertools.pairwise"].contains n && vs[0]? == some (rawInt _)) = true then _ else _) Q E s
           rw [if_neg (by intro h; rw [hn, Bool.false_and] at h; cases h)]
           exact wpAny_pure hQ))
def Itl (K:PySem.W.Frag) (a:Addr):It :=
 ⟨fun i H=>∃ xs x,SqL K H a xs∧xs[i]?=some x,fun i H x H'=>H'=H∧∀ xs,SqL K H a xs→xs[i]?=some x,fun i H=>∃ xs,SqL K H a xs∧xs.length≤i⟩
def Itt (K:PySem.W.Frag) (a:Addr):It :=
 ⟨fun i H=>∃ xs x,SqT K H a xs∧xs[i]?=some x,fun i H x H'=>H'=H∧∀ xs,SqT K H a xs→xs[i]?=some x,fun i H=>∃ xs,SqT K H a xs∧xs.length≤i⟩
def Itr (lo:Int) (n:Nat):It:=⟨fun i _=>i < n,fun i H x H'=>H'=H∧x=.int (lo+i),fun i _=>n≤i⟩
theorem ajk {P:Program} {w:World} {K:PySem.W.Frag} {tg:Expr} (a it:Addr):Turn P w K tg (Itl K a) [it] it (fun i h=>h.IsListIter it a i) where
 mem:=by simp
 obj:=fun i h st b hb=>by
  have e:b=it:=by simpa using hb
  subst e
  obtain ⟨o,e,c,d⟩:=st
  exact ⟨o,e,fun v z=>by rw [d] at z; cases z⟩
 keep:=fun i h h' st k=>st.at fun o e=>k it (by simp) o e
 item:=by
  intro X hP hw hK hc i pins s σ H E I hf st hg
  subst hP hw hK
  obtain ⟨xs,x,hq,hx⟩:=hg
  obtain ⟨its,rv,p,hz⟩:=I.list hq
  obtain ⟨u,hu,ru⟩:=rv.get hx
  obtain ⟨f0,f1,f2,f3,f4,f5⟩:=hf it (by simp)
  refine wpAny_pyNext_list_item st p.isList (x:=u) (by simpa using hu) fun h' st' sb=>?_
  have I1:Inv X pins σ H { s with heap:=h' }:=I.turned (t':=s.toks) (fun b o hb e=>(sb.2 b hb).trans e) f0 f1 f3 f4 f5
  obtain ⟨o,e,c,d⟩:=id st'
  exact ⟨u,rfl,ali (s:={ s with heap:=h' }) e c d (by decide) ⟨x,H,I1,ru,⟨rfl,fun ys hy=>by rw [I.list_inj hy hq]; exact hx⟩,st',fun b hb=>(hf b hb).1⟩⟩
 done:=by
  intro X hP hw hK hc i pins s σ H E I hf st hg
  subst hP hw hK
  obtain ⟨xs,hq,hx⟩:=hg
  obtain ⟨its,rv,p,hz⟩:=I.list hq
  obtain ⟨f0,f1,f2,f3,f4,f5⟩:=hf it (by simp)
  have hl:=rv.length
  exact wpAny_pyNext_list_end (I.ok.hd hc) st p.isList (by simp; omega) fun h' eb=>⟨rfl,I.turned (t':=s.toks) (fun b o hb e=>eb b o hb e) f0 f1 f3 f4 f5⟩
 self:=fun _ _ _ _ _ st h=>wpAny_pyIter_listiter st h
theorem aiK {P:Program} {w:World} {K:PySem.W.Frag} {tg:Expr} (a it:Addr):Turn P w K tg (Itt K a) [it] it (fun i h=>h.IsTupleIter it a i) where
 mem:=by simp
 obj:=fun i h st b hb=>by
  have e:b=it:=by simpa using hb
  subst e
  obtain ⟨o,e,c,d⟩:=st
  exact ⟨o,e,fun v z=>by rw [d] at z; cases z⟩
 keep:=fun i h h' st k=>st.at fun o e=>k it (by simp) o e
 item:=by
  intro X hP hw hK hc i pins s σ H E I hf st hg
  subst hP hw hK
  obtain ⟨xs,x,hq,hx⟩:=hg
  obtain ⟨its,rv,p,hz⟩:=I.tuple hq
  obtain ⟨u,hu,ru⟩:=rv.get hx
  obtain ⟨f0,f1,f2,f3,f4,f5⟩:=hf it (by simp)
  refine wpAny_pyNext_tuple_item st (show s.heap.IsTuple a its.toArray from p) (x:=u) (by simpa using hu) fun h' st' sb=>?_
  have I1:Inv X pins σ H { s with heap:=h' }:=I.turned (t':=s.toks) (fun b o hb e=>(sb.2 b hb).trans e) f0 f1 f3 f4 f5
  obtain ⟨o,e,c,d⟩:=id st'
  exact ⟨u,rfl,ali (s:={ s with heap:=h' }) e c d (by decide) ⟨x,H,I1,ru,⟨rfl,fun ys hy=>by rw [I.tuple_inj hy hq]; exact hx⟩,st',fun b hb=>(hf b hb).1⟩⟩
 done:=by
  intro X hP hw hK hc i pins s σ H E I hf st hg
  subst hP hw hK
  obtain ⟨xs,hq,hx⟩:=hg
  obtain ⟨its,rv,p,hz⟩:=I.tuple hq
  obtain ⟨f0,f1,f2,f3,f4,f5⟩:=hf it (by simp)
  have hl:=rv.length
  exact wpAny_pyNext_tuple_end (I.ok.hd hc) st (show s.heap.IsTuple a its.toArray from p) (by simp; omega) fun h' eb=>⟨rfl,I.turned (t':=s.toks) (fun b o hb e=>eb b o hb e) f0 f1 f3 f4 f5⟩
 self:=fun _ _ _ _ _ st h=>wpAny_pyIter_tupleiter st h
theorem aiD {P:Program} {w:World} {K:PySem.W.Frag} {tg:Expr} (it:Addr) (lo:Int) (n:Nat):Turn P w K tg (Itr lo n) [it] it (fun i h=>IsRangeIter h it (lo+(i:Nat)*1) ((n:Int) - (i:Nat)) 1) where
 mem:=by simp
 obj:=fun i h st b hb=>by
  have e:b=it:=by simpa using hb
  subst e
  exact ⟨_,st,fun v z=>by
   have z':Data.fields _=Data.cell v:=z
   cases z'⟩
 keep:=fun i h h' st k=>k it (by simp) _ st
 item:=by
  intro X hP hw hK hc i pins s σ H E I hf st hg
  subst hP hw hK
  obtain ⟨f0,f1,f2,f3,f4,f5⟩:=hf it (by simp)
  have W:=Walks.range (prog:=X.prog) (w:=X.w) (I.ok.hd hc) it lo 1 n
  refine W.item i s _ _ hg st fun v h' tk hv st' kk=>?_
  obtain ⟨t,rfl⟩:=hv
  have I1:Inv X pins σ H { s with heap:=h',toks:=tk }:=I.turned (fun b o hb e=>kk b o (by simpa using hb) e) f0 f1 f3 f4 f5
  refine ⟨_,rfl,ali (s:={ s with heap:=h',toks:=tk }) (n:="range_iterator") st' rfl rfl (by decide) ⟨.int (lo+i),H,I1,⟨t,?_⟩,⟨rfl,rfl⟩,st',fun b hb=>(hf b hb).1⟩⟩
  rw [Int.mul_one]
 done:=by
  intro X hP hw hK hc i pins s σ H E I hf st hg
  subst hP hw hK
  obtain ⟨f0,f1,f2,f3,f4,f5⟩:=hf it (by simp)
  exact wpAny_pyNext_range_end (I.ok.hd hc) st (by have:n≤i:=hg; omega) fun h' eb=>⟨rfl,I.turned (t':=s.toks) (fun b o hb e=>eb b o hb e) f0 f1 f3 f4 f5⟩
 self:=fun _ _ _ _ _ st h=>wpAny_pyIter_rangeiter st h
end L2
namespace L2
open PySem PySem.Spec PyProof.Rows
section
variable {X:Cx} {tg:Expr}
theorem akq {pins:List (Addr × Obj)} {σ:St} {H:Hp} {s:Shared} {R:It→Hp→Prop} {E:Value→Shared→Prop} {lo hi:Int} {t u v:Tok} {tk:Nat} (I:Inv X pins σ H s) (h1:-(2 ^ 62)≤lo) (h2:lo < 2 ^ 62) (h3:-(2 ^ 62)≤hi) (h4:hi < 2 ^ 62)
  (q:R (Itr lo (hi - lo).toNat) H):wpAny (model X.prog X.w) X.A (pyIter (.ref s.heap.objs.size)) (PIE X pins σ tg R) E { s with heap:=s.heap.push { cls:=.type "range",data:=.fields #[.int lo t,.int hi u,.int 1 v] },toks:=tk }:=by
 refine wpAny_pyIter_range (IsRange.new ..) (small_one h1 h2 h3 h4) ?_
 have I1:Inv X pins σ H { s with heap:=s.heap.push { cls:=.type "range",data:=.fields #[.int lo t,.int hi u,.int 1 v] },toks:=tk }:=I.kept fun b o e=>Heap.get?_push_of_some _ e
 refine ⟨(s.heap.push { cls:=.type "range",data:=.fields #[.int lo t,.int hi u,.int 1 v] }).objs.size,[(s.heap.push { cls:=.type "range",data:=.fields #[.int lo t,.int hi u,.int 1 v] }).objs.size],_,_,H,rfl,
  I1.kept (t':=tk) fun b o e=>Heap.get?_push_of_some _ e,aiD _ lo (hi - lo).toNat,?_,fun b hb=>?_,q⟩
 ·have e1:lo+((0:Nat):Int)*1=lo:=by simp
  have e2:(((hi - lo).toNat:Nat):Int) - ((0:Nat):Int)=Builtin.Range.rangeSize lo hi 1:=by rw [rangeSize_one]; split <;> omega
  show IsRangeIter _ _ (lo+((0:Nat):Int)*1) ((((hi - lo).toNat:Nat):Int) - ((0:Nat):Int)) 1
  rw [e1,e2]
  exact Heap.get?_push_size _ rfl
 ·have e:b=(s.heap.push { cls:=.type "range",data:=.fields #[.int lo t,.int hi u,.int 1 v] }).objs.size:=by simpa using hb
  subst e
  exact I1.fpOk (Nat.le_refl _) (I1.hok.fresh (Nat.le_refl _))
def aox (ta:TA):TI:=fun σ H R=>ta σ H fun vs H1=>∃ j:Int,vs=[.int j]∧-(2 ^ 62)≤j∧j < 2 ^ 62∧R (Itr 0 j.toNat) H1
theorem aiS {a:Expr} {ta:TA} {p pos:Pos} (hg:Gl X "range") (hm:X.mg "range"=none) (ha:PA X [a] ta) (hs:starEach [a] X.env=[(false,eval a X.env)]:=by rfl):PI X tg (.Call (.Name "range" p) [a] [] pos) (aox ta):=by
 intro pins s σ H R I h
 refine Call_ (agX I hg hm boot_range (PyProof.Rows.callWith_type1 (thn (ha pos pins s σ H _ I h) fun us s1 ⟨vs,H1,I1,r1,q1⟩=>?_) hs rfl))
 obtain ⟨j,e,q1,q2,q⟩:=q1
 subst e
 cases r1 with
 | cons r rr =>
  cases rr
  obtain ⟨t,rfl⟩:=r
  exact call_range_1 (akq I1 (by omega) (by omega) q1 q2 (by simpa using q))
def tFor (wi:TI) (g:TG) (tb:TS):TS:=fun D σ H=>wi σ H fun J H1=>∃ W:Nat→Nat→St→Hp→Prop,(∃ m,W 0 m σ H1)∧∀ i m σ H,W i m σ H →
 (J.stop i H∧D.nx σ H)∨(J.go i H∧∃ N:St→Hp→Prop,(∀ σ' H',N σ' H'→∃ m',m' < m∧W (i+1) m' σ' H')∧∀ x H',J.yld i H x H'→g x σ H' fun σ2 H2=>tb { D with nx:=N,ct:=N,bk:=D.nx } σ2 H2)
def aid (fp:List Addr) (h:Heap):List (Addr × Obj):=fp.filterMap fun b=>(h.get? b).map fun o=>(b,o)
theorem ab1 {fp:List Addr} {h:Heap} {b:Addr} {o:Obj} (hb:b∈fp) (e:h.get? b=some o):(b,o)∈aid fp h:=List.mem_filterMap.mpr ⟨b,hb,by rw [e]; rfl⟩
theorem aji {fp:List Addr} {h:Heap} {p:Addr × Obj} (hp:p∈aid fp h):p.1∈fp∧h.get? p.1=some p.2:=by
 obtain ⟨b,hb,e⟩:=List.mem_filterMap.mp hp
 cases q:h.get? b with
 | none=>rw [q] at e; cases e
 | some o =>
  rw [q] at e
  have e':(b,o)=p:=Option.some.inj e
  subst e'
  exact ⟨hb,q⟩
theorem Inv.pinned {pins:List (Addr × Obj)} {σ:St} {H:Hp} {s:Shared} {fp:List Addr} (I:Inv X pins σ H s) (hf:∀ b∈fp,FpOk X pins H b) (ho:∀ b∈fp,∃ o,s.heap.get? b=some o∧∀ v,o.data≠.cell v):Inv X (pins++aid fp s.heap) σ H s :=
 I.pins_of fun p hp=>(List.mem_append.mp hp).elim (fun z=>I.pin p (List.mem_append_right _ z)) fun z=>by
  obtain ⟨hb,e⟩:=aji z
  obtain ⟨f0,f1,f2,_⟩:=hf p.1 hb
  obtain ⟨o,e',d⟩:=ho p.1 hb
  rw [e] at e'; cases e'
  exact ⟨e,f0,f1,f2,d⟩
theorem Inv.unpinned {pins pl:List (Addr × Obj)} {σ:St} {H:Hp} {s:Shared} (I:Inv X (pins++pl) σ H s):Inv X pins σ H s:=I.pins_of fun p hp=>I.pin p (List.mem_append_right _ (List.mem_append_left _ hp))
theorem aol {iter:Expr} {body:List Stmt} {wi:TI} {g:TG} {tb:TS} {pos:Pos} (hp:PassesOwn (model X.prog X.w) X.A X.env X.xe) (hc:X.calm=true) (hi:PI X tg iter wi) (hg:PG X tg g) (hb:PSs X body tb)
  (hs:∀ x,foldedSetIterable iter X.env x=pure x:=by intro _; rfl):PS X (.For tg iter body [] pos) (tFor wi g tb):=by
 intro pins s σ H D I h
 refine wpAny_For (thn (hi pins s σ H _ I h) fun v s1 h1=>thn h1 fun itv s2 h2=>?_) hs
 obtain ⟨it,fp,tn,J,H2,e,I2,T,st2,f2,W,⟨m0,w0⟩,turn⟩:=h2
 subst e
 -- what stays true of the iterator's objects through the loop
 have stat:∀ {H':Hp},(∀ b∈fp,H' b=none)→∀ b∈fp,FpOk X pins H' b:=fun hn b hb=>⟨hn b hb,(f2 b hb).2⟩
 refine codeAny_forLoop_any (fun n s'=>∃ i σ' H',Inv X pins σ' H' s'∧tn i s'.heap∧(∀ b∈fp,H' b=none)∧W i n σ' H') ?_ m0 ⟨0,σ,H2,I2,st2,fun b hb=>(f2 b hb).1,w0⟩
 rintro n s3 ⟨i,σ3,H3,I3,st3,fr3,w3⟩
 rcases turn i n σ3 H3 w3 with ⟨stop,qn⟩ | ⟨go,N,hN,step⟩
 ·refine wpAny_passesOwn hp (thn (T.done X rfl rfl rfl hc i pins s3 σ3 H3 X.xe I3 (stat fr3) st3 stop) fun r s4 ⟨hr,I4⟩=>?_)
  subst hr
  exact wpAny_execs_nil ⟨σ3,H3,I4,qn⟩
 ·refine wpAny_passesOwn hp (thn (T.item X rfl rfl rfl hc i pins s3 σ3 H3 X.xe I3 (stat fr3) st3 go) fun r s4 ⟨u,hr,h4⟩=>?_)
  subst hr
  refine wpAny_passesOwn hp (thn h4 fun _ s5 ⟨x,H5,I5,r5,y5,st5,fr5⟩=>?_)
  have I5':=I5.pinned (stat fr5) (T.obj _ _ st5)
  refine wpAny_passesOwn hp (thn (hg _ s5 σ3 H5 x u _ I5' r5 (step x H5 y5)) fun _ s6 ⟨σ6,H6,I6,q6⟩=>?_)
  refine wpAny_passesOwn hp (thn (hb _ s6 σ6 H6 _ I6 q6) fun f s7 q7=>?_)
  have again:∀ {σ7:St} {H7:Hp},Inv X (pins++aid fp s5.heap) σ7 H7 s7→N σ7 H7→∃ m,m < n∧∃ i σ' H',Inv X pins σ' H' s7∧tn i s7.heap∧(∀ b∈fp,H' b=none)∧W i m σ' H':=fun {σ7 H7} I7 n7=>by
   obtain ⟨m',hm,w7⟩:=hN σ7 H7 n7
   refine ⟨m',hm,i+1,σ7,H7,I7.unpinned,T.keep _ _ _ st5 fun b hb o e=>(I7.pin (b,o) (List.mem_append_right _ (List.mem_append_right _ (ab1 hb e)))).1,fun b hb=>?_,w7⟩
   obtain ⟨o,e,d⟩:=T.obj _ _ st5 b hb
   exact (I7.pin (b,o) (List.mem_append_right _ (List.mem_append_right _ (ab1 hb e)))).2.1
  cases f with
  | next=>obtain ⟨σ7,H7,I7,n7⟩:=q7; exact again I7 n7
  | cont=>obtain ⟨σ7,H7,I7,n7⟩:=q7; exact again I7 n7
  | brk=>obtain ⟨σ7,H7,I7,q7⟩:=q7; exact ⟨σ7,H7,I7.unpinned,q7⟩
  | ret v=>obtain ⟨x7,σ7,H7,I7,r7,q7⟩:=q7; exact ⟨x7,σ7,H7,I7.unpinned,r7,q7⟩
end
end L2
namespace L2
open PySem PySem.Spec PyProof.Rows
abbrev R2:=V→V→Hp→VK→Prop
def OpR (X:Cx) (f:Value→Value→Sem Value) (r:R2):Prop :=
 ∀ (pins:List (Addr × Obj)) (s:Shared) (σ:St) (H:Hp) (x y:V) (v u:Value) (Q:VK),Inv X pins σ H s→RelV x v→RelV y u→r x y H Q →
  wpAny (model X.prog X.w) X.A (f v u) (EP X pins σ Q) X.xe s
def UnR (X:Cx) (f:Value→Sem Value) (r:V→Hp→VK→Prop):Prop :=
 ∀ (pins:List (Addr × Obj)) (s:Shared) (σ:St) (H:Hp) (x:V) (v:Value) (Q:VK),Inv X pins σ H s→RelV x v→r x H Q →
  wpAny (model X.prog X.w) X.A (f v) (EP X pins σ Q) X.xe s
def aeo (X:Cx) (f:Value) (r:List V→Hp→VK→Prop):Prop :=
 ∀ (pins:List (Addr × Obj)) (s:Shared) (σ:St) (H:Hp) (xs:List V) (us:List Value) (Q:VK),Inv X pins σ H s→Vals xs us→r xs H Q →
  wpAny (model X.prog X.w) X.A (call f us) (EP X pins σ Q) X.xe s
def tOp (r:R2) (ta tb:TE):TE:=fun σ H Q=>ta σ H fun x H1=>tb σ H1 fun y H2=>r x y H2 Q
def tUn (r:V→Hp→VK→Prop) (ta:TE):TE:=fun σ H Q=>ta σ H fun x H1=>r x H1 Q
def rI (C:Int→Int→Prop) (g:Int→Int→V):R2:=fun x y H Q=>∃ i j,x=.int i∧y=.int j∧C i j∧Q (g i j) H
def rI0 (g:Int→Int→V):R2:=fun x y H Q=>∃ i j,x=.int i∧y=.int j∧Q (g i j) H
def rU (g:Int→V):V→Hp→VK→Prop:=fun x H Q=>∃ i,x=.int i∧Q (g i) H
section
variable {X:Cx} {a b c:Expr} {ta tb tc:TE} {pos:Pos}
theorem binT (ha:PE X a ta) (hb:PE X b tb) {pins:List (Addr × Obj)} {s:Shared} {σ:St} {H:Hp} {R:V→V→Hp→Prop} (I:Inv X pins σ H s)
  (h:ta σ H fun x H1=>tb σ H1 fun y H2=>R x y H2) {Q:Value→Shared→Prop} {f:Value→Value→Sem Value}
  (hf:∀ v u s2 x y H2,Inv X pins σ H2 s2→RelV x v→RelV y u→R x y H2→wpAny (model X.prog X.w) X.A (f v u) Q X.xe s2) :
  wpAny (model X.prog X.w) X.A (eval a X.env) (fun v s₁=>wpAny (model X.prog X.w) X.A (eval b X.env) (fun u s₂=>wpAny (model X.prog X.w) X.A (f v u) Q X.xe s₂) X.xe s₁) X.xe s:=by
 refine thn (ha pins s σ H _ I h) fun v s1 ⟨x,H1,I1,r1,q1⟩=>?_
 refine thn (hb pins s1 σ H1 _ I1 q1) fun u s2 ⟨y,H2,I2,r2,q2⟩=>?_
 exact hf v u s2 x y H2 I2 r1 r2 q2
theorem aor {op:Operator} {r:R2} (ho:OpR X (binaryOp op) r) (ha:PE X a ta) (hb:PE X b tb):PE X (.BinOp a op b pos) (tOp r ta tb):=by
 intro pins s σ H Q I h
 exact wpAny_BinOp (binT ha hb I h fun v u s2 x y H2 I2 rx ry q=>ho pins s2 σ H2 x y v u Q I2 rx ry q)
theorem aoy {op:UnaryOp} {r:V→Hp→VK→Prop} (ho:UnR X (unaryOp op) r) (ha:PE X a ta):PE X (.UnaryOp op a pos) (tUn r ta):=by
 intro pins s σ H Q I h
 exact UnaryOp_ (thn (ha pins s σ H _ I h) fun v s1 ⟨x,H1,I1,r1,q1⟩=>ho pins s1 σ H1 x v Q I1 r1 q1)
theorem opI {f:Value→Value→Sem Value} {C:Int→Int→Prop} {g:Int→Int→Int}
  (rule:∀ (i j:Int) (t u:Tok) (s:Shared) (Q:Value→Shared→Prop) (E:Value→Shared→Prop),C i j→Q (.int (g i j) s.toks) { s with toks:=s.toks+1 }→wpAny (model X.prog X.w) X.A (f (.int i t) (.int j u)) Q E s) :
  OpR X f (rI C fun i j=>.int (g i j)):=by
 intro pins s σ H x y v u Q I rx ry h
 obtain ⟨i,j,rfl,rfl,hc,q⟩:=h
 obtain ⟨t,rfl⟩:=rx
 obtain ⟨t',rfl⟩:=ry
 exact rule i j t t' s _ _ hc ⟨.int (g i j),H,I.tok _,⟨_,rfl⟩,q⟩
theorem opI0 {f:Value→Value→Sem Value} {g:Int→Int→Int}
  (rule:∀ (i j:Int) (t u:Tok) (s:Shared) (Q:Value→Shared→Prop) (E:Value→Shared→Prop),Q (.int (g i j) s.toks) { s with toks:=s.toks+1 }→wpAny (model X.prog X.w) X.A (f (.int i t) (.int j u)) Q E s) :
  OpR X f (rI0 fun i j=>.int (g i j)):=by
 intro pins s σ H x y v u Q I rx ry h
 obtain ⟨i,j,rfl,rfl,q⟩:=h
 obtain ⟨t,rfl⟩:=rx
 obtain ⟨t',rfl⟩:=ry
 exact rule i j t t' s _ _ ⟨.int (g i j),H,I.tok _,⟨_,rfl⟩,q⟩
theorem opB0 {f:Value→Value→Sem Value} {g:Int→Int→Bool}
  (rule:∀ (i j:Int) (t u:Tok) (s:Shared) (Q:Value→Shared→Prop) (E:Value→Shared→Prop),Q (.bool (g i j)) s→wpAny (model X.prog X.w) X.A (f (.int i t) (.int j u)) Q E s) :
  OpR X f (rI0 fun i j=>.bl (g i j)):=by
 intro pins s σ H x y v u Q I rx ry h
 obtain ⟨i,j,rfl,rfl,q⟩:=h
 obtain ⟨t,rfl⟩:=rx
 obtain ⟨t',rfl⟩:=ry
 exact rule i j t t' s _ _ ⟨.bl (g i j),H,I,rfl,q⟩
def CPow (i j:Int):Prop:=0≤j∧j≤1000000∧i.natAbs < 2 ^ 64
def CMul (i j:Int):Prop:=(-(2 ^ 64) < i∧i < 2 ^ 64)∨(-(2 ^ 64) < j∧j < 2 ^ 64)
theorem CMul.ok {i j:Int} (h:CMul i j):IntMulOk i j:=by
 rcases h with ⟨h1,h2⟩ | ⟨h1,h2⟩
 ·exact .of_left (intBits_le_64 h1 h2)
 ·exact .of_right (intBits_le_64 h1 h2)
theorem ant:OpR X (binaryOp .Add) (rI0 fun i j=>.int (i+j)):=opI0 fun _ _ _ _ _ _ _ q=>add_int q
theorem aig:OpR X (binaryOp .Sub) (rI0 fun i j=>.int (i - j)):=opI0 fun _ _ _ _ _ _ _ q=>sub_int q
theorem ac3:OpR X (binaryOp .Mod) (rI (fun _ j=>j≠0) fun i j=>.int (i.fmod j)):=opI fun _ _ _ _ _ _ _ hc q=>mod_int' hc q
theorem aey:OpR X (binaryOp .Pow) (rI CPow fun i j=>.int (i ^ j.toNat)):=opI fun _ _ _ _ _ _ _ hc q=>pow_int_small hc.1 hc.2.1 hc.2.2 q
theorem unI {f:Value→Sem Value} {g:Int→Int}
  (rule:∀ (i:Int) (t:Tok) (s:Shared) (Q:Value→Shared→Prop) (E:Value→Shared→Prop),Q (.int (g i) s.toks) { s with toks:=s.toks+1 }→wpAny (model X.prog X.w) X.A (f (.int i t)) Q E s) :
  UnR X f (rU fun i=>.int (g i)):=by
 intro pins s σ H x v Q I rx h
 obtain ⟨i,rfl,q⟩:=h
 obtain ⟨t,rfl⟩:=rx
 exact rule i t s _ _ ⟨.int (g i),H,I.tok _,⟨_,rfl⟩,q⟩
theorem ae1:UnR X (unaryOp .USub) (rU fun i=>.int (-i)):=unI fun _ _ _ _ _ q=>neg_int q
end
section
variable {X:Cx} {a b c:Expr} {ta tb tc:TE} {pos:Pos}
theorem aoi {pins:List (Addr × Obj)} {σ:St} {H:Hp} {s:Shared} {Q:VK} {k k':Bool} (I:Inv X pins σ H s) (q:Q (.bl k) H) (e:k=k'):EP X pins σ Q (.bool k') s:=by
 subst e
 exact ⟨.bl k,H,I,rfl,q⟩
theorem akT:OpR X (compareOp .Lt) (rI0 fun i j=>.bl (decide (i < j))):=opB0 fun _ _ _ _ _ _ _ q=>lt_int q
theorem amO:OpR X (compareOp .LtE) (rI0 fun i j=>.bl (decide (i≤j))):=opB0 fun _ _ _ _ _ _ _ q=>le_int q
theorem ai6:OpR X (compareOp .Gt) (rI0 fun i j=>.bl (decide (j < i))):=opB0 fun _ _ _ _ _ _ _ q=>gt_int q
theorem aka:OpR X (compareOp .GtE) (rI0 fun i j=>.bl (decide (j≤i))):=opB0 fun _ _ _ _ _ _ _ q=>ge_int q
theorem agz:OpR X (compareOp .In) (fun x y H Q=>∃ i j,x=.str i∧y=.str j∧Q (.bl (!(Builtin.Str.occurrences j i 0 j.length 1).isEmpty)) H):=by
 intro pins s σ H x y v u Q I rx ry h
 obtain ⟨i,j,rfl,rfl,q⟩:=h
 obtain ⟨t,rfl⟩:=rx
 obtain ⟨t',rfl⟩:=ry
 exact in_str (aoi I q rfl)
theorem OpR.or {f:Value→Value→Sem Value} {r r':R2} (h:OpR X f r) (h':OpR X f r'):OpR X f (fun x y H Q=>r x y H Q∨r' x y H Q):=by
 intro pins s σ H x y v u Q I rx ry q
 rcases q with q | q
 ·exact h pins s σ H x y v u Q I rx ry q
 ·exact h' pins s σ H x y v u Q I rx ry q
theorem aaH (b:Expr) {op:CmpOp} (h:op≠.In:=by decide) (h2:op≠.NotIn:=by decide):behindInMarks op b=false:=by
 have e1:(op == CmpOp.In)=false:=by cases op <;> first | rfl | exact absurd rfl h
 have e2:(op == CmpOp.NotIn)=false:=by cases op <;> first | rfl | exact absurd rfl h2
 cases b <;> simp [behindInMarks,e1,e2]
theorem al0 {op:CmpOp} {r:R2} (ho:OpR X (compareOp op) r) (ha:PE X a ta) (hb:PE X b tb) (hm:behindInMarks op b=false):PE X (.Compare a [op] [b] pos) (tOp r ta tb):=by
 intro pins s σ H Q I h
 exact wpAny_Compare1 (binT ha hb I h fun v u s2 x y H2 I2 rx ry q=>ho pins s2 σ H2 x y v u Q I2 rx ry q) hm
def aon (t:TE):TT:=fun σ H Q=>t σ H fun x H'=>∃ k,x=.bl k∧Q k H'
theorem alR {op:CmpOp} {r:R2} (ho:OpR X (compareOp op) r) (ha:PE X a ta) (hb:PE X b tb) (hm:behindInMarks op b=false):PT X (.Compare a [op] [b] pos) (aon (tOp r ta tb)):=by
 intro pins s σ H Q I h
 refine wpAny_isTrue_Compare1 (thn (ha pins s σ H _ I h) fun v s1 ⟨x,H1,I1,r1,q1⟩=>thn (hb pins s1 σ H1 _ I1 q1) fun u s2 ⟨y,H2,I2,r2,q2⟩ =>
  thn (ho pins s2 σ H2 x y v u _ I2 r1 r2 q2) fun c s3 ⟨z,H3,I3,r3,k,e,q3⟩=>?_) hm
 subst e
 cases r3
 exact wpAny_truthy_bool ⟨H3,I3,q3⟩
def an4 (r r':R2) (ta tb tc:TE):TE:=fun σ H Q=>ta σ H fun x H1=>tb σ H1 fun y H2=>r x y H2 fun z H3=>∃ k,z=.bl k ∧
 (if k=true then tc σ H3 fun w' H4=>r' y w' H4 Q else Q (.bl false) H3)
theorem akN {op op':CmpOp} {r r':R2} (ho:OpR X (compareOp op) r) (ho':OpR X (compareOp op') r') (ha:PE X a ta) (hb:PE X b tb) (hc:PE X c tc)
  (hm:lastMarks [op,op'] [b,c]=false:=by with_unfolding_all rfl):PE X (.Compare a [op,op'] [b,c] pos) (an4 r r' ta tb tc):=by
 intro pins s σ H Q I h
 refine Compare_chain (thn (ha pins s σ H _ I h) fun v s1 ⟨x,H1,I1,r1,q1⟩=>chain_link (thn (hb pins s1 σ H1 _ I1 q1) fun u s2 ⟨y,H2,I2,r2,q2⟩ =>
  thn (ho pins s2 σ H2 x y v u _ I2 r1 r2 q2) fun d s3 ⟨z,H3,I3,r3,k,e,q3⟩=>?_)) hm
 subst e
 cases r3
 refine wpAny_truthy_bool ?_
 cases k with
 | false=>exact ite_ff ⟨.bl false,H3,I3,rfl,q3⟩
 | true=>exact ite_tt (chain_last (thn (hc pins s3 σ H3 _ I3 q3) fun w' s4 ⟨z',H4,I4,r4,q4⟩=>ho' pins s4 σ H4 y z' u w' Q I4 r2 r4 q4))
theorem afO:(sizeLine:Nat) < 2 ^ 63:=by rw [sizeLine_eq]; decide
theorem aaP:OpR X (binaryOp .Add) (fun x y H Q=>∃ i j,x=.str i∧y=.str j∧i.length+j.length≤sizeLine∧Q (.str (i++j)) H):=by
 intro pins s σ H x y v u Q I rx ry h
 obtain ⟨i,j,rfl,rfl,hz,q⟩:=h
 obtain ⟨t,rfl⟩:=rx
 obtain ⟨t',rfl⟩:=ry
 exact add_str (fun t' tk=>⟨.str (i++j),H,I.tok _,⟨_,rfl⟩,q⟩) hz
theorem aev {x:V} {us:List Value} (r:Vals [x] us):∃ u,us=[u]∧RelV x u:=by
 cases r with
 | cons r1 r2=>cases r2; exact ⟨_,rfl,r1⟩
theorem aoF {x y:V} {us:List Value} (r:Vals [x,y] us):∃ u w',us=[u,w']∧RelV x u∧RelV y w':=by
 cases r with
 | cons r1 r2 =>
  cases r2 with
  | cons r3 r4=>cases r4; exact ⟨_,_,rfl,r1,r3⟩
theorem adl:aeo X (.builtin "abs") (fun xs H Q=>∃ i,xs=[.int i]∧Q (.int (if i < 0 then -i else i)) H):=by
 intro pins s σ H xs us Q I r h
 obtain ⟨i,rfl,q⟩:=h
 obtain ⟨u,rfl,t,rfl⟩:=aev r
 exact call_abs_int fun u tk=>⟨.int (if i < 0 then -i else i),H,I.tok _,⟨_,rfl⟩,q⟩
theorem abU:aeo X (.type "str") (fun xs H Q=>∃ i,xs=[.int i]∧i.natAbs.log2 < 1920∧Q (.str (toString i)) H):=by
 intro pins s σ H xs us Q I r h
 obtain ⟨i,rfl,hz,q⟩:=h
 obtain ⟨u,rfl,t,rfl⟩:=aev r
 exact PySem.P.str_of_int hz ⟨.str _,H,I.tok _,⟨_,rfl⟩,q⟩
end
end L2
namespace L2
open PySem PySem.Spec PyProof.Rows
structure ObjM (h:Heap) (x dx C:Addr) (mA:Str→Option Value):Prop where
 obj:h.get? x=some (PySem.W.instObj C dx)
 ns:h.Ns1 dx mA
 ne:dx≠x
theorem ajg {h:Heap} {dx:Addr} {mA:Str→Option Value} (n:h.Ns1 dx mA):∃ od,h.get? dx=some od∧∀ name,PySem.W.lookIn name od=some (mA name):=by
 obtain ⟨o,es,ep,ho,hd,hk,_,hm⟩:=n
 refine ⟨o,ho,fun name=>?_⟩
 have e:=hm name
 unfold nsFind findBy at e
 rw [← Array.find?_toList] at e
 unfold PySem.W.lookIn
 rw [hd]
 dsimp only
 split
 ·rename_i y q
  rw [q] at e
  exact congrArg some e
 ·rename_i q
  rw [q] at e
  have a:es.toList.any (·.refKey)=false:=by
   rw [List.any_eq_false]
   intro y hy
   obtain ⟨z,t,hkey⟩:=hk y (Array.mem_toList_iff.mp hy)
   simp [DictEntry.refKey,hkey]
  have a':¬ es.toList.any (·.refKey)=true:=by rw [a]; exact Bool.false_ne_true
  rw [if_neg a']
  exact congrArg some e
theorem ObjM.look {h:Heap} {x dx C:Addr} {mA:Str→Option Value} (I:ObjM h x dx C mA):∃ od,PySem.W.InstAt h x (PySem.W.instObj C dx) C (some od)∧∀ name,PySem.W.lookIn name od=some (mA name) :=
 let ⟨od,ho,hl⟩:=ajg I.ns
 ⟨od,⟨I.obj,rfl,rfl,ho⟩,hl⟩
section
variable {prog:Program} {w:World} {A:Around} {E:Value→Shared→Prop} {s:Shared} {K:PySem.W.Frag} {x dx C f:Addr} {mA:Str→Option Value} {name:Str} {v:Value}
end
section
variable {P:Program} {w:World} {H H':Hp} {h h':Heap} {a C dx:Addr} {fs fs':List (Str × V)}
theorem amv (hok:HOk P w H h) (e:H a=some (.ins C dx fs)):∃ mA,ObjM h a dx C mA∧(∀ f,RelO (fs.lookup f) (mA f))∧PySem.Within mA (fs.map (·.1))∧fs.length≤1000∧H dx=some (.own a):=by
 obtain ⟨d,z,ne,ob,mA,n,r,q⟩:=(show acH P w H h a (.ins C dx fs) from hok a _ e)
 exact ⟨mA,⟨ob,n,ne⟩,r,q,z,d⟩
end
structure Cls (K:PySem.W.Frag) (C:Addr):Prop where
 pg:PySem.W.plainGet K C Str.empty=true
 hd:PySem.W.hasDictIn K C=true
 po:PySem.W.plainOver K C=true
 sa:PySem.W.findIn K (.ref C) "__setattr__"=some (some (.builtin "object.__setattr__"))
theorem Cls.get {K:PySem.W.Frag} {C:Addr} (c:Cls K C) (f:Str):PySem.W.plainGet K C f=true:=c.pg
section
variable {X:Cx} {pins:List (Addr × Obj)} {σ:St} {H:Hp} {s:Shared} {a C dx:Addr} {fs:List (Str × V)} {f:Str} {v:V} {A:Around} {E:Value→Shared→Prop}
end
section
variable {X:Cx} {o e value:Expr} {f:Str} {pos pos' tpos:Pos} {ta tv:TE}
end
section
variable {X:Cx} {pins:List (Addr × Obj)} {σ:St} {H:Hp} {s:Shared} {A:Around} {E:Value→Shared→Prop} {Q:Value→Shared→Prop} {c:Value} {b:Bool}
inductive TyOf (K:PySem.W.Frag) (H:Hp):V→Value→Prop where
 | non:TyOf K H .non (.type "NoneType")
 | bl (x:Bool):TyOf K H (.bl x) (.type "bool")
 | int (i:Int):TyOf K H (.int i) (.type "int")
 | str (x:Str):TyOf K H (.str x) (.type "str")
 | flt (x:UInt64):TyOf K H (.flt x) (.type "float")
 | lst {a:Addr} {xs:List V} (e:H a=some (.lst xs)):TyOf K H (.ref a) (.type "list")
 | frz {a:Addr} {o:Obj} {xs:List V} (e:H a=some (.frz o (.lst xs))):TyOf K H (.ref a) (.type "list")
 | tup {a:Addr} {xs:List V} (e:H a=some (.tup xs)):TyOf K H (.ref a) (.type "tuple")
 | dK {a:Addr} {kvs:List (Key × V)} (e:H a=some (.dK kvs)):TyOf K H (.ref a) (.type "dict")
 | dT {a:Addr} {kvs:List (List Key × V)} (e:H a=some (.dT kvs)):TyOf K H (.ref a) (.type "dict")
 | ins {a C dx:Addr} {fs:List (Str × V)} (e:H a=some (.ins C dx fs)) (cl:Cls K C) (ha:PySem.W.findIn K (.ref C) "__class__"=some (some (.builtin "object.__class__")))
   (hn:PySem.W.specialIn K (.builtin "object.__class__") "__get__"=some (some (.builtin "getset_descriptor.__get__"))) (htk:PySem.W.takesIn K (.builtin "object.__class__")=some true)
   (hm:PySem.W.mroIn K C (.type "object")=some true):TyOf K H (.ref a) (.ref C)
theorem ajD {x:V} {u t:Value} (I:Inv X pins σ H s) (rx:RelV x u) (ty:TyOf X.K H x t) (e:PySem.W.kitOne X.K t c=some b) (h:∀ tk,Q (.bool b) { s with toks:=tk }) :
  wpAny (model X.prog X.w) A (call (.builtin "isinstance") [u,c]) Q E s:=by
 cases ty with
 | non=>cases (show u=Value.none from rx); exact PySem.W.kia_one PySem.W.kitx_none I.kIn True.intro e (fun z=>nomatch z) h
 | bl y=>cases (show u=Value.bool y from rx); exact PySem.W.kia_one PySem.W.kitx_bool I.kIn True.intro e (fun z=>nomatch z) h
 | int i=>obtain ⟨t,q⟩:=(show ∃ t,u=Value.int i t from rx); cases q; exact PySem.W.kia_one PySem.W.kitx_int I.kIn True.intro e (fun z=>nomatch z) h
 | str y=>obtain ⟨t,q⟩:=(show ∃ t,u=Value.str y t from rx); cases q; exact PySem.W.kia_one PySem.W.kitx_str I.kIn True.intro e (fun z=>nomatch z) h
 | flt y=>obtain ⟨t,q⟩:=(show ∃ t,u=Value.float y t from rx); cases q; exact PySem.W.kia_one PySem.W.kitx_float I.kIn True.intro e (fun z=>nomatch z) h
 | @lst a xs ea =>
  cases (show u=Value.ref a from rx)
  obtain ⟨_,_,n,_,h1⟩:=(show acH X.prog X.w H s.heap a (.lst xs) from I.hok a _ ea)
  exact PySem.W.kia_one PySem.W.kitx_list I.kIn ⟨_,h1,rfl⟩ e (fun z=>nomatch z) h
 | @frz a ob xs ea =>
  cases (show u=Value.ref a from rx)
  obtain ⟨_,_,_,n,_,h1⟩:=(show acH X.prog X.w H s.heap a (.frz ob (.lst xs)) from I.hok a _ ea)
  exact PySem.W.kia_one PySem.W.kitx_list I.kIn ⟨_,h1,rfl⟩ e (fun z=>nomatch z) h
 | @tup a xs ea =>
  cases (show u=Value.ref a from rx)
  obtain ⟨_,_,_,p⟩:=(show acH X.prog X.w H s.heap a (.tup xs) from I.hok a _ ea)
  obtain ⟨o,h1,h2,_⟩:=p
  exact PySem.W.kia_one PySem.W.kitx_tuple I.kIn ⟨o,h1,h2⟩ e (fun z=>nomatch z) h
 | @dK a kvs ea =>
  cases (show u=Value.ref a from rx)
  obtain ⟨_,_,vs,_,p⟩:=(show acH X.prog X.w H s.heap a (.dK kvs) from I.hok a _ ea)
  obtain ⟨o,es,ep,h1,h2,_⟩:=p
  exact PySem.W.kia_one PySem.W.kitx_dict I.kIn ⟨o,h1,h2.1⟩ e (fun z=>nomatch z) h
 | @dT a kvs ea =>
  cases (show u=Value.ref a from rx)
  obtain ⟨_,_,xs,_,o,es,ep,h1,h2,_⟩:=(show acH X.prog X.w H s.heap a (.dT kvs) from I.hok a _ ea)
  exact PySem.W.kia_one PySem.W.kitx_dict I.kIn ⟨o,h1,h2.1⟩ e (fun z=>nomatch z) h
 | @ins a C dx fs ea cl ha hn htk hm =>
  cases (show u=Value.ref a from rx)
  obtain ⟨mA,O,_⟩:=amv I.hok ea
  obtain ⟨od,J,_⟩:=O.look
  exact PySem.W.kia_one (PySem.W.kitx_own (cl.get _) cl.hd ha hn htk hm) I.kIn J e (fun z=>nomatch z) h
end
end L2
namespace L2
open PySem PySem.Spec PyProof.Rows
structure Room (k:Nat) (A:Around):Prop where
 hd:A.handled=none
 dp:A.depth+3*k+5 < recursionLimit
 un:A.units+16*k+200 < cLine
theorem Room.mono {j k:Nat} {A:Around} (r:Room k A) (h:j≤k):Room j A:=⟨r.hd,by have:=r.dp; omega,by have:=r.un; omega⟩
theorem Room.deeper {k:Nat} {A:Around} (r:Room (k+1) A) (env:Env):Room k (A.deeper env) :=
 ⟨r.hd,by have:=r.dp; show A.depth+1+3*k+5 < _; omega,by have:=r.un; show A.units+3+16*k+200 < _; omega⟩
theorem Room.depth {k:Nat} {A:Around} (r:Room k A):A.depth < recursionLimit:=by have:=r.dp; omega
theorem Room.units {k:Nat} {A:Around} (r:Room k A):A.units+64 < cLine:=by have:=r.un; omega
def tNil:TA:=fun _ H Q=>Q [] H
def aop (ta:TE) (tr:TA):TA:=fun σ H Q=>ta σ H fun x H1=>tr σ H1 fun xs H2=>Q (x :: xs) H2
section
variable {X:Cx} {e:Expr} {es:List Expr} {te:TE} {t:TA} {pos:Pos}
theorem agS:PA X [] tNil:=fun _ _ _ _ H Q I h=>Calls.spliced_nil ⟨[],H,I,.nil,h⟩
theorem adb (ha:PE X e te) (hr:PA X es t) (hs:starEach (e :: es) X.env=(false,eval e X.env) :: starEach es X.env:=by rfl):PA X (e :: es) (aop te t):=by
 intro pos pins s σ H Q I h
 rw [hs]
 show wpAny _ _ (spliced ((false,eval e X.env) :: backTo pos (starEach es X.env))) _ _ s
 refine Calls.spliced_cons (thn (ha pins s σ H _ I h) fun u s1 ⟨x,H1,I1,r1,q1⟩=>?_)
 exact thn (hr pos pins s1 σ H1 _ I1 q1) fun us s2 ⟨xs,H2,I2,r2,q2⟩=>⟨x :: xs,H2,I2,.cons r1 r2,q2⟩
def tTup (t:TA):TE:=fun σ H Q=>t σ H fun xs H1=>xs.length≤sizeLine∧∀ p,H1 p=none→Q (.ref p) (upd H1 p (.tup xs))
def tLst (t:TA):TE:=fun σ H Q=>t σ H fun xs H1=>xs.length≤sizeLine∧∀ p,H1 p=none→Q (.ref p) (upd H1 p (.lst xs))
theorem ajz {x1} (h:PA X es t):PE X (.Tuple es x1 pos) (tTup t):=by
 intro pins s σ H Q I hq
 refine wpAny_Tuple_spliced (thn (h pos pins s σ H _ I hq) fun us s1 ⟨xs,H1,I1,r,z,q⟩=>⟨by rw [← r.length]; exact z,?_⟩)
 have hf:H1 s1.heap.objs.size=none:=I1.hok.fresh (Nat.le_refl _)
 refine ⟨.ref s1.heap.objs.size,upd H1 s1.heap.objs.size (.tup xs),I1.laid (t':=s1.toks) (fun b u e=>Heap.get?_push_of_some _ e) (Nat.le_refl _) ?_,rfl,q _ hf⟩
 exact ⟨z,us,r,⟨_,Heap.get?_push_size _ rfl,rfl,_,rfl⟩⟩
theorem alF (h:PA X es t):PE X (.List es pos) (tLst t):=by
 intro pins s σ H Q I hq
 refine wpAny_List_spliced (thn (h pos pins s σ H _ I hq) fun us s1 ⟨xs,H1,I1,r,z,q⟩=>⟨by rw [← r.length]; exact z,?_⟩)
 have hf:H1 s1.heap.objs.size=none:=I1.hok.fresh (Nat.le_refl _)
 refine ⟨.ref s1.heap.objs.size,upd H1 s1.heap.objs.size (.lst xs),I1.laid (t':=s1.toks) (fun b u e=>Heap.get?_push_of_some _ e) (Nat.le_refl _) ?_,rfl,q _ hf⟩
 exact ⟨z,us,0,r,Heap.get?_push_size _ rfl⟩
end
abbrev Sp:=List V→Hp→VK→XK→Prop
abbrev CXT:=List Env→Hp→Shared→XK→Value→Shared→Prop
structure Env0 (P:Program) (w:World) (K:PySem.W.Frag) (mg:Str→Option Value) (base:Heap) (A:Around) (outer:List Env) (s:Shared) (H:Hp):Prop where
 frames:A.frames=some outer
 mod:Mod K mg base
 bs:∀ b o,base.get? b=some o→s.heap.get? b=some o∧H b=none
 bsz:base.objs.size≤s.heap.objs.size
 funs:s.heap.FunFrames base outer
 frf:∀ b∈frs outer,H b=none
 hok:HOk P w H s.heap
 bare:AllBare s.gens
def CE (outer:List Env) (P:Program) (w:World) (H:Hp) (s:Shared) (Q:VK) (u:Value) (s':Shared):Prop :=
 ∃ v H',s'.os=s.os∧AllBare s'.gens∧Un (frs outer) [] H H' s.heap s'.heap∧HOk P w H' s'.heap∧RelV v u∧Q v H'
def CR (CX:CXT) (outer:List Env) (P:Program) (w:World) (H:Hp) (s:Shared) (Q:VK) (E:XK) (r:Result) (s':Shared):Prop :=
 match r with
 | .ok (.ret u)=>CE outer P w H s Q u s'
 | .ok _=>False
 | .error e=>CX outer H s E e s'
structure FnOk (P:Program) (w:World) (K:PySem.W.Frag) (mg:Str→Option Value) (base:Heap) (CX:CXT) (k:Nat) (f:Addr) (fd:FuncData) (ps:List Str) (sp:Sp):Prop where
 len:∀ vs H Q E,sp vs H Q E→vs.length=ps.length
 run:∀ (A:Around) (outer:List Env) (s:Shared) (H:Hp) (args:Args) (us:List Value) (vs:List V) (Q:VK) (E:XK),Room k A→Env0 P w K mg base A outer s H→BindsTo s fd args (ps.zip us)→Vals vs us→sp vs H Q E →
  codeAny (model P w) A (.call (.ref f) args) (CR CX outer P w H s Q E) s
theorem FnOk.imp {P:Program} {w:World} {K:PySem.W.Frag} {mg:Str→Option Value} {base:Heap} {CX:CXT} {k:Nat} {f:Addr} {fd:FuncData} {ps:List Str} {sp sp':Sp} (F:FnOk P w K mg base CX k f fd ps sp)
  (h:∀ vs H Q E,sp' vs H Q E→sp vs H Q E):FnOk P w K mg base CX k f fd ps sp' :=
 ⟨fun vs H Q E q=>F.len vs H Q E (h _ _ _ _ q),fun A outer s H args us vs Q E hr he hb hv hs=>F.run A outer s H args us vs Q E hr he hb hv (h _ _ _ _ hs)⟩
section
variable {X:Cx} {pins:List (Addr × Obj)} {σ:St} {H:Hp} {s s':Shared}
theorem Inv.env0 (I:Inv X pins σ H s):Env0 X.prog X.w X.K X.mg X.base X.A X.stack s H :=
 ⟨I.ok.frames,I.ok.mod,I.bs,Nat.le_trans I.ok.bsz I.sz,I.stack,I.stkFree,I.hok,I.bare⟩
theorem Inv.after {Q:VK} {u:Value} (I:Inv X pins σ H s) (h:CE X.stack X.prog X.w H s Q u s'):EP X pins σ Q u s':=by
 obtain ⟨v,H',os,bare,un,hok,r,q⟩:=h
 obtain ⟨hh,g,d,t,os'⟩:=s'
 obtain rfl:os'=s.os:=os
 exact ⟨v,H',I.call (h':=hh) (g':=g) (d':=d) (t':=t) (ch:=[]) un hok bare (fun b z=>absurd z (by simp)),r,q⟩
end
def aoG (sp:Sp) (dvs:List V) (E:XK) (t:TA):TE:=fun σ H Q=>t σ H fun vs H1=>sp (vs++dvs) H1 Q E
def ab9 (K:PySem.W.Frag) (fd:FuncData) (ps:List Str) (ds:List Value):Prop :=
 ∀ (s:Shared) (us:List Value),K.In s.heap→(us++ds).length=ps.length→BindsTo s fd ⟨us,[]⟩ (ps.zip (us++ds))
theorem ab9.all {K:PySem.W.Frag} {fd:FuncData} {ps:List Str} (h:∀ us:List Value,us.length=ps.length→bindArgs fd ⟨us,[]⟩=pure (ps.zip us)):ab9 K fd ps []:=fun s us _ hl=>by
 rw [List.append_nil] at hl ⊢
 exact .of_eq (h us hl)
def ac7 (CX:CXT) (X:Cx) (E:XK):Prop:=∀ (pins:List (Addr × Obj)) (σ:St) (H:Hp) (s:Shared) (e:Value) (s':Shared),Inv X pins σ H s→CX X.stack H s E e s'→X.xe e s'
section
variable {X:Cx} {CX:CXT} {k:Nat} {f C:Addr} {fd:FuncData} {ps:List Str} {sp:Sp} {dvs:List V} {ds:List Value} {E:XK} {x m:Str} {p pos apos:Pos} {e o:Expr} {es:List Expr} {ta:TE} {t:TA}
theorem ann {pins:List (Addr × Obj)} {σ:St} {H:Hp} {s:Shared} {Q:VK} {us:List Value} {vs:List V} (F:FnOk X.prog X.w X.K X.mg X.base CX k f fd ps sp) (hr:Room k X.A) (hb:ab9 X.K fd ps ds) (hd:Vals dvs ds) (hx:ac7 CX X E)
  (I:Inv X pins σ H s) (r:Vals vs us) (h:sp (vs++dvs) H Q E):wpAny (model X.prog X.w) X.A (call (.ref f) us) (EP X pins σ Q) X.xe s:=by
 have r2:Vals (vs++dvs) (us++ds):=r.append hd
 have hl:(us++ds).length=ps.length:=by rw [← r2.length]; exact F.len _ _ _ _ h
 refine wpAny_call (codeAny_mono (F.run X.A X.stack s H ⟨us,[]⟩ (us++ds) (vs++dvs) Q E hr I.env0 (hb s us I.kIn hl) r2 h) fun r s' hq=>?_)
 cases r with
 | error e=>exact hx pins σ H s e s' I hq
 | ok fl =>
  cases fl with
  | ret u=>exact I.after hq
  | next=>exact False.elim hq
  | brk=>exact False.elim hq
  | cont=>exact False.elim hq
theorem afb (F:FnOk X.prog X.w X.K X.mg X.base CX k f fd ps sp) (hr:Room k X.A) (hg:Gl X x) (hm:X.mg x=some (.ref f)) (hk:PySem.W.keepIn X.K (.ref f)=true) (hb:ab9 X.K fd ps ds) (hd:Vals dvs ds) (hx:ac7 CX X E)
  (ha:PA X (e :: es) t) (hdb:(x == ("__debug__":Str))=false:=by decide) (he:starEach (e :: es) X.env=(false,eval e X.env) :: starEach es X.env:=by rfl) (hpl:(backTo pos (starEach es X.env)).any (·.1)=false:=by rfl) :
  PE X (.Call (.Name x p) (e :: es) [] pos) (aoG sp dvs E t):=by
 intro pins s σ H Q I h
 refine wpAny_Call_Name_kw (afe I hg hm ?_ hdb)
 refine PySem.W.callWith_K (h₀:=X.base) I.ok.mod.kin hk (thn (ha pos pins s σ H _ I h) fun us s1 ⟨vs,H1,I1,r,q⟩=>⟨I1.kIn,?_⟩) he hpl
 exact ann F hr hb hd hx I1 r q
end
section
variable {X:Cx} {CX:CXT} {k:Nat} {f C:Addr} {fd:FuncData} {ps ks:List Str} {sp:Sp} {E:XK} {x m:Str} {p pos apos kpos:Pos} {e o:Expr} {es:List Expr} {kws:List Keyword} {te ta:TE} {t tk:TA} {nm:Option Str}
variable {g:List Value→List Value→List Value} {gV:List V→List V→List V}
end
structure aaD (N P:List Str) (sc:Scope):Prop where
 kind:sc.kind=.function
 co:sc.isCoroutine=false
 gen:sc.isGenerator=false
 nd:N.Nodup
 pre:N.take P.length=P
 par:∀ x∈P,sc.names.lookup x=some .local∨sc.names.lookup x=some .cell
 nofree:∀ y∈sc.names,y.2≠.free
theorem agw {kindOf:Str→Option NameKind} {x:Str}:∀ {binds:List (Str × Value)} {m:Str→Option Value},(∀ v,(x,v) ∉ binds)→bindL kindOf binds m x=m x
 | [],_,_=>rfl
 | (n,v) :: r,m,h=>by
  unfold bindL
  rw [agw fun w hw=>h w (List.mem_cons_of_mem _ hw)]
  split
  ·have:x≠n:=by rintro rfl; exact h v List.mem_cons_self
   simp [this]
  ·rfl
theorem ag6 {kindOf:Str→Option NameKind} {x:Str}:∀ {binds:List (Str × Value)} {m:Str→Option Value},(∀ v,(x,v) ∉ binds)→bindC kindOf binds m x=m x
 | [],_,_=>rfl
 | (n,v) :: r,m,h=>by
  unfold bindC
  rw [ag6 fun w hw=>h w (List.mem_cons_of_mem _ hw)]
  split
  ·rfl
  ·have:x≠n:=by rintro rfl; exact h v List.mem_cons_self
   simp [this]
theorem agt {kindOf:Str→Option NameKind} {x:Str} {v:Value}:∀ {P:List Str} {vs:List Value} {i:Nat} {m:Str→Option Value},P.Nodup→P[i]?=some x→vs[i]?=some v→kindOf x=some .local →
  bindL kindOf (P.zip vs) m x=some v
 | [],_,_,_,_,h,_,_=>by simp at h
 | _ :: _,[],_,_,_,_,h,_=>by simp at h
 | p :: P,w :: vs,0,m,nd,h1,h2,hk=>by
  simp at h1 h2; subst h1; subst h2
  show bindL kindOf ((p,w) :: P.zip vs) m p=_
  unfold bindL
  rw [agw fun v hv=>(List.nodup_cons.mp nd).1 (List.of_mem_zip hv).1,if_pos hk]
  simp
 | p :: P,w :: vs,i+1,m,nd,h1,h2,hk=>by
  show bindL kindOf ((p,w) :: P.zip vs) m x=_
  unfold bindL
  exact agt (i:=i) (List.nodup_cons.mp nd).2 (by simpa using h1) (by simpa using h2) hk
theorem agR {kindOf:Str→Option NameKind} {x:Str} {v:Value}:∀ {P:List Str} {vs:List Value} {i:Nat} {m:Str→Option Value},P.Nodup→P[i]?=some x→vs[i]?=some v→kindOf x≠some .local →
  bindC kindOf (P.zip vs) m x=some v
 | [],_,_,_,_,h,_,_=>by simp at h
 | _ :: _,[],_,_,_,_,h,_=>by simp at h
 | p :: P,w :: vs,0,m,nd,h1,h2,hk=>by
  simp at h1 h2; subst h1; subst h2
  show bindC kindOf ((p,w) :: P.zip vs) m p=_
  unfold bindC
  rw [ag6 fun v hv=>(List.nodup_cons.mp nd).1 (List.of_mem_zip hv).1,if_neg hk]
  simp
 | p :: P,w :: vs,i+1,m,nd,h1,h2,hk=>by
  show bindC kindOf ((p,w) :: P.zip vs) m x=_
  unfold bindC
  exact agR (i:=i) (List.nodup_cons.mp nd).2 (by simpa using h1) (by simpa using h2) hk
def start (N:List Str) (vs:List V):St:=vs.map some++List.replicate (N.length - vs.length) none
def cxOf (CX:CXT) (P:Program) (w:World) (K:PySem.W.Frag) (mg:Str→Option Value) (base:Heap) (N:List Str) (qual:Str) (scope:Scope) (f:Addr) (cd:Value) (A:Around) (outer:List Env) (s:Shared) (H:Hp) (E:XK):Cx where
 prog:=P
 w:=w
 K:=K
 mg:=mg
 base:=base
 A:=A.deeper (envOfC qual scope s.heap.objs.size f cd)
 N:=N
 s₀:=s
 H₀:=H
 env:=envOfC qual scope s.heap.objs.size f cd
 outer:=outer
 stack:=envOfC qual scope s.heap.objs.size f cd :: outer
 ex:=[]
 calm:=true
 fn:=fun _=>true
 pn:=[]
 xe:=fun e s'=>wpAny (model P w) (A.deeper (envOfC qual scope s.heap.objs.size f cd)) (leaving (envOfC qual scope s.heap.objs.size f cd) e) (fun _ s''=>CX outer H s E e s'') (fun e' s''=>CX outer H s E e' s'') s'
theorem aic {sc:Scope} {n:Nat} {x:Str} (h:sc.names.lookup x=some .cell):∃ c,(cellsFrom n sc.names []).lookup x=some c:=by
 have q:=PySem.W.cellsFrom_some sc.names n [] (.inl h)
 exact Option.isSome_iff_exists.mp q
theorem ajG {CX:CXT} {P:Program} {w:World} {K:PySem.W.Frag} {mg:Str→Option Value} {base:Heap} {N ps:List Str} {qual:Str} {scope:Scope} {f:Addr} {cd:Value} {A:Around} {outer:List Env} {s s1:Shared} {H:Hp} {E:XK} {us:List Value} {vs:List V}
  (S:aaD N ps scope) (hd:A.handled=none) (e0:Env0 P w K mg base A outer s H) (hl:vs.length=ps.length) (r:Vals vs us)
  (x:InCallC s s.heap.objs.size (bindL (envOfC qual scope s.heap.objs.size f cd).kindOf (ps.zip us) fun _=>none) (cellsFrom (s.heap.objs.size+1) scope.names []) (bindC (envOfC qual scope s.heap.objs.size f cd).kindOf (ps.zip us) fun _=>none) s1) :
  Inv (cxOf CX P w K mg base N qual scope f cd A outer s H E) [] (start N vs) H s1:=by
 have hpl:ps.length≤N.length:=by have:=congrArg List.length S.pre; rw [List.length_take] at this; omega
 obtain ⟨h1,tk,rfl,hk⟩:=x.done
 have noA:∀ b:Addr,b ∉ (cxOf CX P w K mg base N qual scope f cd A outer s H E).ex:=fun b z=>absurd (show b∈([]:List Addr) from z) (by simp)
 refine ⟨⟨e0.mod,S.kind,rfl,rfl,Nat.le_refl _,fun y z c h1 h2=>?_,fun y hy=>?_,fun y c _ h=>?_,fun _=>hd,Around.frames_deeper e0.frames,.inr ⟨rfl,rfl⟩,fun b z=>absurd z (noA b),e0.bs,e0.bsz,fun b _ _=>noA b,fun b z=>absurd z (noA b),e0.funs,e0.frf⟩,
  rfl,e0.bare,Un.kept hk,⟨_,x.toInCall.ns,fun i y v h1 h2 h3=>?_⟩,fun y c h=>⟨_,x.cell y c h⟩,e0.hok.fresh (Nat.le_refl _),fun y c h=>?_,fun p hp=>absurd (show p∈([]:List (Addr × Obj)) from hp) (by simp),e0.hok.kept hk,?_⟩
 ·exact name_of_addr x.apart (PySem.mem_of_lookup h1) (PySem.mem_of_lookup h2)
 ·have hy:scope.names.lookup y=some .cell∨scope.names.lookup y=some .free:=hy
  rcases hy with hy | hy
  ·exact aic hy
  ·exact absurd rfl (S.nofree _ (PySem.mem_of_lookup hy))
 ·exact Nat.le_of_lt (x.above y c (PySem.mem_of_lookup h))
 ·have hi:i < vs.length:=by
   unfold start at h2
   by_cases hi:i < vs.length
   ·exact hi
   ·rw [List.getElem?_append_right (by simpa using hi)] at h2
    rw [List.getElem?_replicate] at h2
    split at h2 <;> cases h2
  have ha:vs[i]?=some v:=by
   unfold start at h2
   rw [List.getElem?_append_left (by simpa using hi),List.getElem?_map] at h2
   cases e:vs[i]? with
   | none=>rw [e] at h2; cases h2
   | some a=>rw [e] at h2; cases h2; rfl
  obtain ⟨u,hu,rv⟩:=r.get ha
  have hp:ps[i]?=some y:=by
   rw [← S.pre,List.getElem?_take_of_lt (by omega)]; exact h1
  have ndP:ps.Nodup:=by rw [← S.pre]; exact S.nd.sublist (List.take_sublist _ _)
  refine ⟨u,rv,?_⟩
  rcases S.par y (List.mem_of_getElem? hp) with k | k
  ·exact .inl ⟨k,agt ndP hp hu k⟩
  ·obtain ⟨c,e⟩:=aic (n:=s.heap.objs.size+1) k
   refine .inr ⟨.inl k,c,e,?_⟩
   have q:=x.cell y c e
   rw [agR ndP hp hu (by show scope.names.lookup y≠_; rw [k]; decide)] at q
   exact q
 ·exact e0.hok.fresh (Nat.le_of_lt (x.above y c (PySem.mem_of_lookup h)))
 ·unfold start
  show _=N.length
  rw [List.length_append,List.length_map,List.length_replicate]
  omega
theorem amr {CX:CXT} {P:Program} {w:World} {K:PySem.W.Frag} {mg:Str→Option Value} {base:Heap} {k:Nat} {f:Addr} {name qual:Str} {params:Arguments} {body:List Stmt} {scope:Scope} {dV kV doc pm cdv ct oc:Value} {an od:Option Addr}
  {osl:Array (Option Value)} {N ps:List Str} {sp:Sp} (lk:K.lookup f=some ⟨oc,od,.func (PySem.W.fnOf name qual params body scope dV kV doc pm an cdv ct),osl⟩) (hcd:PySem.W.codeIn K cdv qual=true) (S:aaD N ps scope)
  (len:∀ vs H Q E,sp vs H Q E→vs.length=ps.length)
  (hbody:∀ (A:Around) (outer:List Env) (s:Shared) (H:Hp) (vs:List V) (Q:VK) (E:XK),Room k (A.deeper (envOfC qual scope s.heap.objs.size f cdv))→sp vs H Q E →
   ∃ t,PSs (cxOf CX P w K mg base N qual scope f cdv A outer s H E) body t∧t { nx:=fun _ H'=>Q .non H',rt:=Q } (start N vs) H) :
  FnOk P w K mg base CX (k+1) f (PySem.W.fnOf name qual params body scope dV kV doc pm an cdv ct) ps sp:=by
 refine ⟨len,fun A outer s H args us vs Q E hr e0 hb r hsp=>?_⟩
 have hl:=len _ _ _ _ hsp
 have KX:K.In s.heap:=e0.mod.kin.keeps fun b o e=>(e0.bs b o e).1
 have lim:s.heap.NoLimit:=e0.mod.nolimit.keeps fun b o e=>(e0.bs b o e).1
 have hkind:∀ y∈ps.zip us,scope.names.lookup y.1=some .local∨(scope.names.lookup y.1=some .cell∧((cellsFrom (s.heap.objs.size+1) scope.names []).lookup y.1).isSome=true):=fun ⟨n,v⟩ hy=>by
  rcases S.par n (List.of_mem_zip hy).1 with q | q
  ·exact .inl q
  ·exact .inr ⟨q,PySem.W.cellsFrom_some _ _ _ (.inl q)⟩
 refine codeAny_call_function hr.depth (KX _ _ lk) rfl S.co S.gen rfl (PySem.W.codeRec_of KX hcd) (hb _ _ _ _ ?_)
 refine wpAny_newFunctionEnv_cells S.kind hkind fun env he s1 x=>?_
 subst he
 refine ⟨lim.keeps x.toInCall.keep,codeAny_func ?_⟩
 obtain ⟨t,ht,hq⟩:=hbody A outer s H vs Q E (hr.deeper _) hsp
 have I:Inv (cxOf CX P w K mg base N qual scope f cdv A outer s H E) [] (start N vs) H s1:=ajG S hr.hd e0 hl r x
 refine wpAny_mono (ht [] s1 (start N vs) H _ I hq) (fun fl s' hs=>?_) fun e s' hs=>hs
 have fin:∀ {σ':St} {H':Hp} {v:V} {u:Value},Inv (cxOf CX P w K mg base N qual scope f cdv A outer s H E) [] σ' H' s'→RelV v u→Q v H'→CE outer P w H s Q u s' :=
  fun {σ' H' v u} J rv q=>⟨v,H',J.os,J.bare,J.base,J.hok,rv,q⟩
 cases fl with
 | ret u =>
  obtain ⟨v,σ',H',J,rv,q⟩:=hs
  exact fin J rv q
 | next =>
  obtain ⟨σ',H',J,q⟩:=hs
  exact fin (v:=V.non) (u:=Value.none) J rfl q
 | brk =>
  obtain ⟨_,_,_,q⟩:=hs
  exact False.elim q
 | cont =>
  obtain ⟨_,_,_,q⟩:=hs
  exact False.elim q
end L2
namespace L2
open PySem PySem.Spec PyProof.Rows
section
variable {X:Cx} {x:Str} {p pos:Pos} {e:Expr} {es:List Expr} {t:TA} {id T:String} {r:List V→Hp→VK→Prop}
def tCB (r:List V→Hp→VK→Prop) (t:TA):TE:=fun σ H Q=>t σ H fun vs H1=>r vs H1 Q
theorem aie (hc:aeo X (.builtin id) r) (hg:Gl X x) (hm:X.mg x=none) (hv:bootBuiltins x=some (.builtin id)) (ha:PA X (e :: es) t) (hn:x≠"__name__":=by decide) (hdb:(x == ("__debug__":Str))=false:=by decide)
  (he:starEach (e :: es) X.env=(false,eval e X.env) :: starEach es X.env:=by rfl) (hpl:(backTo pos (starEach es X.env)).any (·.1)=false:=by rfl):PE X (.Call (.Name x p) (e :: es) [] pos) (tCB r t):=by
 intro pins s σ H Q I h
 refine wpAny_Call_Name_kw (agX I hg hm hv ?_ hn hdb)
 exact PyProof.Rows.callWith_builtin1 (thn (ha pos pins s σ H _ I h) fun us s1 ⟨vs,H1,I1,r1,q1⟩=>hc pins s1 σ H1 vs us Q I1 r1 q1) he hpl
theorem ai4 (hc:aeo X (.type T) r) (hg:Gl X x) (hm:X.mg x=none) (hv:bootBuiltins x=some (.type T)) (ha:PA X (e :: es) t) (hn:x≠"__name__":=by decide) (hdb:(x == ("__debug__":Str))=false:=by decide)
  (he:starEach (e :: es) X.env=(false,eval e X.env) :: starEach es X.env:=by rfl) (hpl:(backTo pos (starEach es X.env)).any (·.1)=false:=by rfl):PE X (.Call (.Name x p) (e :: es) [] pos) (tCB r t):=by
 intro pins s σ H Q I h
 refine wpAny_Call_Name_kw (agX I hg hm hv ?_ hn hdb)
 exact PyProof.Rows.callWith_type1 (thn (ha pos pins s σ H _ I h) fun us s1 ⟨vs,H1,I1,r1,q1⟩=>hc pins s1 σ H1 vs us Q I1 r1 q1) he hpl
end
end L2
namespace HT
open PySem PyProof.Rows
section
open PySem.SeqAt
open PySem.AutoSeq1 (wpAny_loadPart')
open PySem.MeetsSeq PySem.MeetsSeq2 PySem.MeetsSeq3
end
section
variable {prog:Program} {w:World} {A:Around} {E:Value→Shared→Prop} {s:Shared}
theorem cat_tup {t b:Addr} {vs ws:List Value} {Q:Value→Shared→Prop} (ht:IsTup s.heap t vs.toArray) (hb:IsTup s.heap b ws.toArray) (hv:vs≠[])
  (h1:ws=[]→Q (.ref t) s) (h2:ws≠[]→Q (.ref s.heap.objs.size) { s with heap:=s.heap.push { cls:=.type "tuple",data:=.seq (vs++ws).toArray } })
  (hsz:vs.length+ws.length≤sizeLine):wpAny (model prog w) A (binaryOp .Add (.ref t) (.ref b)) Q E s:=by
 obtain ⟨⟨cls,dd,data,sl⟩,ho,hc,n,hd⟩:=id ht
 obtain ⟨⟨cls2,dd2,data2,sl2⟩,ho2,hc2,n2,hd2⟩:=id hb
 simp only at hc hd hc2 hd2
 subst hc hd hc2 hd2
 have e:vs.toArray++ws.toArray=(vs++ws).toArray:=by simp
 by_cases hw:ws=[]
 ·exact concat_meets ⟨_,ho,rfl⟩ ⟨_,ho2,rfl⟩ noFill_tuple_add seq_tuple_add PySem.F.slot_tuple_add PySem.F.entry_tuple_add (PySem.F.args_tuple_add_2 _ _)
   (tuple_addW1 t b vs.toArray ws.toArray n n2 dd dd2 sl sl2 (by simpa using hv) (by simp [hw])) ⟨ho,ho2,h1 hw⟩
 ·refine concat_meets ⟨_,ho,rfl⟩ ⟨_,ho2,rfl⟩ noFill_tuple_add seq_tuple_add PySem.F.slot_tuple_add PySem.F.entry_tuple_add (PySem.F.args_tuple_add_2 _ _)
   (tuple_addW2 t b vs.toArray ws.toArray n n2 dd dd2 sl sl2 (by simpa using hv) (by simpa using hw) (by rw [List.size_toArray,List.size_toArray]; exact hsz)) ⟨ho,ho2,?_⟩
  rw [e]
  exact h2 hw
def sIx (n d:Nat):Option Int→Nat
 | none=>d
 | some v=>if v < 0 then (v+(n:Int)).toNat else min v.toNat n
theorem sIx_nat (n d k:Nat):sIx n d (some (k:Int))=min k n:=by
 show (if (k:Int) < 0 then ((k:Int)+(n:Int)).toNat else min (k:Int).toNat n)=min k n
 rw [if_neg (by omega),Int.toNat_natCast]
theorem anG (n d:Nat) (hd:d≤n) (o:Option Int):sIx n d o≤n:=by
 cases o with
 | none=>exact hd
 | some v =>
  show (if v < 0 then (v+(n:Int)).toNat else min v.toNat n)≤n
  by_cases hv:v < 0
  ·rw [if_pos hv]; omega
  ·rw [if_neg hv]; exact Nat.min_le_right _ _
theorem aj1 (v:Int) (n d:Nat):(if v < 0 then max (v+(n:Int)) 0 else min v (n:Int))=((sIx n d (some v):Nat):Int):=by
 show (if v < 0 then max (v+(n:Int)) 0 else min v (n:Int))=(((if v < 0 then (v+(n:Int)).toNat else min v.toNat n):Nat):Int)
 by_cases hv:v < 0
 ·simp only [if_pos hv]; omega
 ·simp only [if_neg hv]; omega
theorem aiF (lo hi:Option Int) (n:Nat):Builtin.Slice.sliceAdjust lo hi 1 (n:Int)=(((sIx n 0 lo:Nat):Int),((sIx n n hi:Nat):Int)):=by
 have h1:¬ ((1:Int) < 0):=by omega
 unfold Builtin.Slice.sliceAdjust
 simp only [h1,if_false]
 refine Prod.ext ?_ ?_
 ·cases lo with
  | none=>rfl
  | some v=>exact aj1 v n 0
 ·cases hi with
  | none=>rfl
  | some v=>exact aj1 v n n
theorem aiy (i j:Nat):Builtin.Slice.slicePlaces (i:Int) (j:Int) 1=j - i:=by
 unfold Builtin.Slice.slicePlaces
 have h1:(1:Int) > 0:=by omega
 simp only [h1,if_true,Int.ediv_one]
 split <;> omega
theorem afT {v:Value} {o:Option Int} {Q:Option Int→Shared→Prop} (p:IsPart v o) (h:Q o s):wpAny (model prog w) A (Builtin.Slice.slicePartIndex v) Q E s:=by
 cases p with
 | none=>exact slicePart_none h
 | int i t=>exact slicePart_int h
theorem aeE {sl:Addr} {vl vu:Value} {lo hi:Option Int} {n:Nat} {Q:Int × Int × Nat→Shared→Prop} (hs:s.heap.IsSliceOf sl vl vu .none) (pl:IsPart vl lo) (pu:IsPart vu hi)
  (h:Q (((sIx n 0 lo:Nat):Int),1,sIx n n hi - sIx n 0 lo) s):wpAny (model prog w) A (Builtin.Slice.sliceApplied (.ref sl) (pure (n:Int))) Q E s:=by
 obtain ⟨os,hos,hcs,hds⟩:=id hs
 unfold Builtin.Slice.sliceApplied Builtin.Slice.sliceFields
 refine wpAny_bind (wpAny_bind (wpAny_field hos hds (x:=vl) rfl (wpAny_bind (wpAny_field hos hds (x:=vu) rfl (wpAny_bind (wpAny_field hos hds (x:=.none) rfl (wpAny_pure ?_)))))))
 refine wpAny_bind (slicePart_none ?_)
 show wpAny _ _ (if ((1:Int) == 0)=true then _ else _) _ _ s
 rw [if_neg (by decide)]
 refine wpAny_bind (afT pl (wpAny_bind (afT pu (wpAny_bind (wpAny_pure ?_)))))
 show wpAny _ _ (match Builtin.Slice.sliceAdjust lo hi 1 (n:Int) with | (lo,hi)=>pure (lo,(1:Int),Builtin.Slice.slicePlaces lo hi 1)) _ _ s
 rw [aiF lo hi n]
 show wpAny _ _ (pure (((sIx n 0 lo:Nat):Int),(1:Int),Builtin.Slice.slicePlaces ((sIx n 0 lo:Nat):Int) ((sIx n n hi:Nat):Int) 1)) _ _ s
 rw [aiy]
 exact wpAny_pure h
theorem akH (xs:Array Value) (i k:Nat):((List.range k).filterMap fun (m:Nat)=>xs[((i:Int)+(m:Int)*1).toNat]?).toArray=((xs.toList.drop i).take k).toArray:=by
 have e:(fun (m:Nat)=>xs[((i:Int)+(m:Int)*1).toNat]?)=fun m=>xs[i+m]?:=by
  funext m
  have:((i:Int)+(m:Int)*1).toNat=i+m:=by omega
  rw [this]
 rw [e]
 have:=pick_run xs i k
 rw [List.filterMap_map] at this
 have e2:((fun x=>xs[x]?) ∘ fun x=>i+x)=fun m=>xs[i+m]?:=rfl
 rw [e2] at this
 rw [this]
theorem getItem_tuple_cut {t sl:Addr} {items:Array Value} {vl vu:Value} {lo hi:Option Int} {Q:Value→Shared→Prop} (ht:IsTup s.heap t items) (hs:s.heap.IsSliceOf sl vl vu .none) (pl:IsPart vl lo) (pu:IsPart vu hi)
  (hw:¬ (sIx items.size 0 lo=0∧sIx items.size items.size hi=items.size))
  (h:Q (.ref s.heap.objs.size) { s with heap:=s.heap.push { cls:=.type "tuple",data:=.seq ((items.toList.drop (sIx items.size 0 lo)).take (sIx items.size items.size hi - sIx items.size 0 lo)).toArray } })
  (hsz:items.size≤sizeLine):wpAny (model prog w) A (getItem (.ref t) (.ref sl)) Q E s:=by
 have htake:sizeOk (.seq ((items.toList.drop (sIx items.size 0 lo)).take (sIx items.size items.size hi - sIx items.size 0 lo)).toArray):=by
  show ((items.toList.drop (sIx items.size 0 lo)).take (sIx items.size items.size hi - sIx items.size 0 lo)).toArray.size≤sizeLine
  rw [List.size_toArray,List.length_take,List.length_drop,Array.length_toList]
  omega
 have hj:sIx items.size items.size hi≤items.size:=anG _ _ (Nat.le_refl _) hi
 obtain ⟨os,hos,hcs,hds⟩:=id hs
 have hTs:s.TypeIs (.ref sl) "slice":=⟨os,hos,hcs⟩
 unfold getItem
 try with_reducible refine wpAny_holding ?_
 first | refine wpAny_bind (wpAny_pure ?_) | skip
 refine wpAny_bind (wpAny_sequenceKey ht.typeIs (by decide) ?_)
 refine wpAny_bind (wpAny_callSpecial?_slot (name:=Str.ofString "__getitem__") ht.typeIs PyProof.Rows.slot_tuple_getitem
  (wpAny_call_entry PyProof.Rows.slot_tuple_getitem ht.typeIs entry_tuple_getitem ?_ (args_tuple_getitem _ _)))
 show wpAny _ _ (Builtin.Tuple.tupleItemsOf (.ref t) >>= _) _ _ s
 refine wpAny_bind (tupleItemsOf_ ht ?_)
 refine wpAny_bind (wpAny_typeOf hTs ?_)
 rw [if_pos (by decide)]
 refine wpAny_bind (aeE hs pl pu ?_)
 have hno:¬ ((((sIx items.size 0 lo:Nat):Int) == 0 && (1:Int) == 1 && (sIx items.size items.size hi - sIx items.size 0 lo) == items.size)=true):=by
  intro q
  rw [Bool.and_eq_true,Bool.and_eq_true] at q
  have q1:((sIx items.size 0 lo:Nat):Int)=0:=eq_of_beq q.1.1
  have q2:sIx items.size items.size hi - sIx items.size 0 lo=items.size:=eq_of_beq q.2
  exact hw ⟨by omega,by omega⟩
 show wpAny _ _ (if (((sIx items.size 0 lo:Nat):Int) == 0 && (1:Int) == 1 && (sIx items.size items.size hi - sIx items.size 0 lo) == items.size)=true then _ else _) _ _ s
 rw [if_neg hno,akH]
 first
  | exact wpAny_bind (m:=Builtin.Tuple.tupleExact _) (wpAny_newObj_type (wpAny_pure ⟨_,rfl,wpAny_pure h⟩) htake)
  | exact wpAny_bind (m:=Builtin.Tuple.tupleExact _) (wpAny_newObj_type (wpAny_bind (wpAny_pure (wpAny_pure ⟨_,rfl,wpAny_pure h⟩))) htake)
  | exact wpAny_bind (wpAny_bind (m:=Builtin.Tuple.tupleExact _) (wpAny_newObj_type (wpAny_pure (wpAny_pure ⟨_,rfl,wpAny_pure h⟩)) htake))
  | exact wpAny_bind (wpAny_bind (m:=Builtin.Tuple.tupleExact _) (wpAny_newObj_type (wpAny_pure ⟨_,rfl,wpAny_pure h⟩) htake))
end
end HT
namespace L2
open PySem PySem.Spec PyProof.Rows
abbrev TO:=St→Hp→(Option Int→Hp→Prop)→Prop
def PO (X:Cx) (e:Option Expr) (t:TO):Prop :=
 ∀ (pins:List (Addr × Obj)) (s:Shared) (σ:St) (H:Hp) (Q:Option Int→Hp→Prop),Inv X pins σ H s→t σ H Q →
  wpAny (model X.prog X.w) X.A (evalPart e X.env) (fun u s'=>∃ o H',Inv X pins σ H' s'∧IsPart u o∧Q o H') X.xe s
def amF:TO:=fun _ H Q=>Q none H
def aoC (t:TE):TO:=fun σ H Q=>t σ H fun x H1=>∃ i,x=.int i∧Q (some i) H1
section
variable {X:Cx} {e:Expr} {te:TE} {lo hi:Option Expr} {tl th:TO} {pos p2:Pos}
theorem al5:PO X none amF:=by
 intro pins s σ H Q I h
 rw [evalPart_none]
 exact wpAny_pure ⟨none,H,I,.none,h⟩
theorem amS (h:PE X e te):PO X (some e) (aoC te):=by
 intro pins s σ H Q I hw
 rw [evalPart_some]
 refine thn (h pins s σ H _ I hw) fun u s1 ⟨x,H1,I1,r1,q1⟩=>?_
 obtain ⟨i,rfl,q⟩:=q1
 obtain ⟨t,rfl⟩:=r1
 exact ⟨some i,H1,I1,.int i t,q⟩
def SlR (X:Cx) (r:V→Option Int→Option Int→Hp→VK→Prop):Prop :=
 ∀ (pins:List (Addr × Obj)) (s:Shared) (σ:St) (H:Hp) (x:V) (v vl vu:Value) (lo hi:Option Int) (sl:Addr) (Q:VK),Inv X pins σ H s→RelV x v→s.heap.IsSliceOf sl vl vu .none→IsPart vl lo→IsPart vu hi→r x lo hi H Q →
  ∃ T id,typeLookup (.type T) "__getitem__"=pure (some (.builtin id))∧s.TypeIs v T∧wpAny (model X.prog X.w) X.A (getItem v (.ref sl)) (EP X pins σ Q) X.xe s
theorem SlR.or {r r':V→Option Int→Option Int→Hp→VK→Prop} (h:SlR X r) (h':SlR X r'):SlR X (fun x lo hi H Q=>r x lo hi H Q∨r' x lo hi H Q):=by
 intro pins s σ H x v vl vu lo hi sl Q I rx hs pl pu q
 rcases q with q | q
 ·exact h pins s σ H x v vl vu lo hi sl Q I rx hs pl pu q
 ·exact h' pins s σ H x v vl vu lo hi sl Q I rx hs pl pu q
def tSl (r:V→Option Int→Option Int→Hp→VK→Prop) (te:TE) (tl th:TO):TE:=fun σ H Q=>te σ H fun x H1=>tl σ H1 fun l H2=>th σ H2 fun u H3=>r x l u H3 Q
theorem ah1 {r:V→Option Int→Option Int→Hp→VK→Prop} (hr:SlR X r) (he:PE X e te) (hl:PO X lo tl) (hu:PO X hi th):PE X (.Subscript e (.Slice lo hi none p2) pos) (tSl r te tl th):=by
 intro pins s σ H Q I h
 refine Subscript_ (thn (he pins s σ H _ I h) fun v s1 ⟨x,H1,I1,r1,q1⟩=>?_)
 refine wpAny_Slice (thn (hl pins s1 σ H1 _ I1 q1) fun vl s2 ⟨l,H2,I2,pl,q2⟩=>thn (hu pins s2 σ H2 _ I2 q2) fun vu s3 ⟨u,H3,I3,pu,q3⟩=>?_)
 rw [evalPart_none]
 refine wpAny_pure ?_
 have I4:Inv X pins σ H3 { s3 with heap:=s3.heap.push { cls:=.type "slice",data:=.fields #[vl,vu,.none] } }:=I3.kept (t':=s3.toks) fun b ob q=>Heap.get?_push_of_some _ q
 obtain ⟨T,id,hT,ht,hg⟩:=hr pins { s3 with heap:=s3.heap.push { cls:=.type "slice",data:=.fields #[vl,vu,.none] } } σ H3 x v vl vu l u s3.heap.objs.size Q I4 r1 (Heap.IsSliceOf.new ..) pl pu q3
 show wpAny (model X.prog X.w) X.A (subscriptTail e (.Slice lo hi none p2) v (.ref s3.heap.objs.size)) (EP X pins σ Q) X.xe { s3 with heap:=s3.heap.push { cls:=.type "slice",data:=.fields #[vl,vu,.none] } }
 exact tail_any (ops:=[.ref s3.heap.objs.size,v]) ht hT hg (by with_unfolding_all rfl)
def cutV (xs:List V) (lo hi:Option Int):List V:=(xs.drop (HT.sIx xs.length 0 lo)).take (HT.sIx xs.length xs.length hi - HT.sIx xs.length 0 lo)
theorem acY (xs:List V) (lo hi:Option Int):(cutV xs lo hi).length≤xs.length:=by
 unfold cutV
 rw [List.length_take,List.length_drop]
 omega
def rSlT (K:PySem.W.Frag):V→Option Int→Option Int→Hp→VK→Prop:=fun x lo hi H Q=>∃ a xs,x=.ref a∧SqT K H a xs ∧
 ¬ (HT.sIx xs.length 0 lo=0∧HT.sIx xs.length xs.length hi=xs.length)∧∀ p,H p=none→Q (.ref p) (upd H p (.tup (cutV xs lo hi)))
theorem anS:SlR X (rSlT X.K):=by
 intro pins s σ H x v vl vu lo hi sl Q I rx hs pl pu h
 obtain ⟨a,xs,rfl,hx,hw,q⟩:=h
 cases rx
 obtain ⟨its,r,ht,hz⟩:=I.tuple hx
 have hlen:its.toArray.size=xs.length:=by rw [List.size_toArray]; exact r.length.symm
 refine ⟨"tuple",_,PyProof.Rows.slot_tuple_getitem.lookup,ht.typeIs,?_⟩
 refine HT.getItem_tuple_cut ht hs pl pu (by rw [hlen]; exact hw) ?_ (by rw [hlen]; exact hz)
 rw [hlen]
 refine ⟨.ref s.heap.objs.size,_,I.laid (t':=s.toks) (o:=.tup (cutV xs lo hi)) (fun b ob q=>Heap.get?_push_of_some _ q) (Nat.le_refl _) ?_,rfl,q _ (I.hok.fresh (Nat.le_refl _))⟩
 exact ⟨Nat.le_trans (acY xs lo hi) hz,_,(r.drop (HT.sIx xs.length 0 lo)).take (HT.sIx xs.length xs.length hi - HT.sIx xs.length 0 lo),IsTup.new _ _⟩
def anv (K:PySem.W.Frag):R2:=fun x y H Q=>∃ a b xs ys,x=.ref a∧y=.ref b∧SqT K H a xs∧SqT K H b ys∧xs≠[]∧xs.length+ys.length≤sizeLine ∧
 (ys=[]→Q (.ref a) H)∧(ys≠[]→∀ p,H p=none→Q (.ref p) (upd H p (.tup (xs++ys))))
theorem Vals.nil_iff {xs:List V} {us:List Value} (r:Vals xs us):us=[]↔xs=[]:=by
 cases r with
 | nil=>simp
 | cons _ _=>simp
theorem al7:OpR X (binaryOp .Add) (anv X.K):=by
 intro pins s σ H x y v u Q I rx ry h
 obtain ⟨a,b,xs,ys,rfl,rfl,ha,hb,hx,hz,q1,q2⟩:=h
 cases rx
 cases ry
 obtain ⟨its,r1,p1,_⟩:=I.tuple ha
 obtain ⟨its2,r2,p2,_⟩:=I.tuple hb
 refine HT.cat_tup p1 p2 (fun z=>hx (r1.nil_iff.mp z)) (fun z=>⟨.ref a,H,I,rfl,q1 (r2.nil_iff.mp z)⟩) (fun z=>?_) (by rw [← r1.length,← r2.length]; exact hz)
 refine ⟨.ref s.heap.objs.size,_,I.laid (t':=s.toks) (o:=.tup (xs++ys)) (fun b ob q=>Heap.get?_push_of_some _ q) (Nat.le_refl _) ?_,rfl,q2 (fun w=>z (r2.nil_iff.mpr w)) _ (I.hok.fresh (Nat.le_refl _))⟩
 exact ⟨by rw [List.length_append]; exact hz,_,r1.append r2,IsTup.new _ _⟩
end
end L2
namespace L2
open PySem PySem.Spec PyProof.Rows
def ixN (n:Nat) (i:Int):Option Nat:=if 0≤i then (if i < n then some i.toNat else none) else if -(n:Int)≤i then some (i+n).toNat else none
def atI {α:Type} (xs:List α) (i:Int):Option α:=(ixN xs.length i).bind fun j=>xs[j]?
theorem ajF {n:Nat} {i:Int} {j:Nat} (h:ixN n i=some j):seqIndex? i n=some j∧j < n∧-(n:Int)≤i∧i < n:=by
 unfold ixN at h
 by_cases h0:0≤i
 ·rw [if_pos h0] at h
  by_cases h1:i < n
  ·rw [if_pos h1] at h
   have e:i.toNat=j:=Option.some.inj h
   exact ⟨by rw [seqIndex_of h0 h1,e],by omega,by omega,h1⟩
  ·rw [if_neg h1] at h; cases h
 ·rw [if_neg h0] at h
  by_cases h1:-(n:Int)≤i
  ·rw [if_pos h1] at h
   have e:(i+n).toNat=j:=Option.some.inj h
   exact ⟨by rw [seqIndex_neg (by omega) h1,e],by omega,h1,by omega⟩
  ·rw [if_neg h1] at h; cases h
theorem ahC {α:Type} {xs:List α} {i:Int} {v:α} (h:atI xs i=some v):∃ j,seqIndex? i xs.length=some j∧xs[j]?=some v∧j < xs.length∧-(xs.length:Int)≤i∧i < xs.length:=by
 unfold atI at h
 cases e:ixN xs.length i with
 | none=>rw [e] at h; cases h
 | some j =>
  rw [e] at h
  obtain ⟨h1,h2,h3,h4⟩:=ajF e
  exact ⟨j,h1,h,h2,h3,h4⟩
theorem amz {α:Type} {xs:List α} {j:Nat} {v:α} (h:xs[j]?=some v):atI xs (j:Int)=some v:=by
 have hj:j < xs.length:=(List.getElem?_eq_some_iff.mp h).1
 have e:ixN xs.length (j:Int)=some j:=by
  unfold ixN
  rw [if_pos (by omega),if_pos (by omega)]; simp
 unfold atI; rw [e]; exact h
theorem akz {α:Type} (xs:List α) (v:α):atI (xs++[v]) (-1)=some v:=by
 have hl:(xs++[v]).length=xs.length+1:=by simp
 have e:ixN (xs++[v]).length (-1)=some xs.length:=by
  unfold ixN
  rw [hl,if_neg (by decide),if_pos (by omega)]
  congr 1
  omega
 unfold atI
 rw [e]
 show (xs++[v])[xs.length]?=some v
 simp
def ag9 (b:Expr):Prop:=∀ o i,subscripted b false o i=operate [o,i] (getItem o i)
def IxR (X:Cx) (r:R2):Prop :=
 ∀ (value slice:Expr) (pins:List (Addr × Obj)) (s:Shared) (σ:St) (H:Hp) (x y:V) (v u:Value) (Q:VK),Inv X pins σ H s→RelV x v→RelV y u→r x y H Q →
  subscripted slice false v u=operate [v,u] (getItem v u)→wpAny (model X.prog X.w) X.A (subscriptTail value slice v u) (EP X pins σ Q) X.xe s
def MtR (X:Cx) (id:String) (r:V→List V→Hp→VK→Prop):Prop :=
 ∀ (pins:List (Addr × Obj)) (s:Shared) (σ:St) (H:Hp) (x:V) (xs:List V) (v:Value) (us:List Value) (Q:VK),Inv X pins σ H s→RelV x v→Vals xs us→r x xs H Q →
  wpAny (model X.prog X.w) X.A (call (.builtin id) (v :: us)) (EP X pins σ Q) X.xe s
section
variable {X:Cx} {a b:Expr} {ta tb:TE} {pos:Pos}
theorem IxR.or {r r':R2} (h:IxR X r) (h':IxR X r'):IxR X (fun x y H Q=>r x y H Q∨r' x y H Q):=by
 intro value slice pins s σ H x y v u Q I rx ry q hs
 rcases q with q | q
 ·exact h value slice pins s σ H x y v u Q I rx ry q hs
 ·exact h' value slice pins s σ H x y v u Q I rx ry q hs
theorem anq {r:R2} (hr:IxR X r) (ha:PE X a ta) (hb:PE X b tb) (hs:ag9 b):PE X (.Subscript a b pos) (tOp r ta tb):=by
 intro pins s σ H Q I h
 exact Subscript_ (binT ha hb I h fun v u s2 x y H2 I2 rx ry q=>hr a b pins s2 σ H2 x y v u Q I2 rx ry q (hs _ _))
def rIxL (K:PySem.W.Frag):R2:=fun x y H Q=>∃ p xs i v,x=.ref p∧y=.int i∧SqL K H p xs∧atI xs i=some v∧Q v H
def rIxT (K:PySem.W.Frag):R2:=fun x y H Q=>∃ p xs i v,x=.ref p∧y=.int i∧SqT K H p xs∧atI xs i=some v∧Q v H
def rIxS:R2:=fun x y H Q=>∃ z i c,x=.str z∧y=.int i∧z.length≤sizeLine∧atI z.cps.toList i=some c∧Q (.str ⟨#[c]⟩) H
theorem ami:IxR X (rIxL X.K):=by
 intro value slice pins s σ H x y v u Q I rx ry h hs
 obtain ⟨p,xs,i,z,rfl,rfl,hq,he,q⟩:=h
 cases rx
 obtain ⟨t,rfl⟩:=ry
 obtain ⟨its,r,pl,hz⟩:=I.list hq
 obtain ⟨j,h1,h2,h3,h4,h5⟩:=ahC he
 obtain ⟨w,ew,rw'⟩:=r.get h2
 have hl:=r.length
 have hn:=afO
 have fin:EP X pins σ Q w s:=⟨z,H,I,rw',q⟩
 by_cases h0:0≤i
 ·have hj:i.toNat=j:=by
   rw [seqIndex_of h0 h5] at h1
   exact Option.some.inj h1
  exact item_listR pl.isList h0 (by omega) (by rw [hj]; simpa using ew) fin hs
 ·have hj:(i+(its.toArray.size:Int)).toNat=j:=by
   rw [seqIndex_neg (by omega) h4] at h1
   rw [List.size_toArray,← hl]
   exact Option.some.inj h1
  exact subscriptTail_builtinR (x:=w) pl.isList.typeIs slot_list_getitem.lookup
   (wpAny_getItem_list_neg (Q:=fun r s'=>r=w∧EP X pins σ Q r s') pl.isList (by omega) (by rw [List.size_toArray] <;> omega) (by omega) (by rw [hj]; simpa using ew) ⟨rfl,fin⟩) hs
theorem anM:IxR X (rIxT X.K):=by
 intro value slice pins s σ H x y v u Q I rx ry h hs
 obtain ⟨p,xs,i,z,rfl,rfl,hq,he,q⟩:=h
 cases rx
 obtain ⟨t,rfl⟩:=ry
 obtain ⟨its,r,pl,hz⟩:=I.tuple hq
 obtain ⟨j,h1,h2,h3,h4,h5⟩:=ahC he
 obtain ⟨w,ew,rw'⟩:=r.get h2
 have hl:=r.length
 have hn:=afO
 have fin:EP X pins σ Q w s:=⟨z,H,I,rw',q⟩
 exact subscriptTail_builtinR (x:=w) pl.typeIs slot_tuple_getitem.lookup
  (getItem_tuple (j:=j) (Q:=fun r s'=>r=w∧EP X pins σ Q r s') pl (by omega) (by omega) (by rw [List.size_toArray,← hl]; exact h1) (by simpa using ew) ⟨rfl,fin⟩) hs
theorem aly:IxR X rIxS:=by
 intro value slice pins s σ H x y v u Q I rx ry h hs
 obtain ⟨z,i,c,rfl,rfl,hz,he,q⟩:=h
 obtain ⟨t,rfl⟩:=rx
 obtain ⟨t',rfl⟩:=ry
 obtain ⟨j,h1,h2,h3,h4,h5⟩:=ahC he
 have hl:z.cps.toList.length=z.length:=by simp [Str.length]
 rw [hl] at h1 h4 h5
 have hn:=afO
 exact tail_any (typeIs_str s z t) slot_str_getitem.lookup (getItem_str (c:=c) (by
  have e1:decide (i < -(2 ^ 63:Int))=false:=decide_eq_false (by omega)
  have e2:decide (i ≥ 2 ^ 63)=false:=decide_eq_false (by omega)
  rw [e1,e2,Bool.or_false]) (by rw [h1]; simpa using h2) ⟨.str ⟨#[c]⟩,H,I.tok _,⟨_,rfl⟩,q⟩) hs
def rIx (K:PySem.W.Frag):R2:=fun x y H Q=>rIxL K x y H Q∨rIxT K x y H Q∨rIxS x y H Q
theorem aob:IxR X (rIx X.K):=ami.or (anM.or aly)
theorem aiC (its:List Value) (n j:Nat) (u:Value):Obj.mapSeq (·.setIfInBounds j u) { cls:=.type "list",data:=.seq its.toArray n }={ cls:=.type "list",data:=.seq (its.set j u).toArray n }:=by
 simp [Obj.mapSeq]
theorem Inv.lst {pins:List (Addr × Obj)} {σ:St} {H:Hp} {s:Shared} {p:Addr} {xs:List V} (I:Inv X pins σ H s) (h:H p=some (.lst xs)) :
  ∃ (its:List Value) (n:Nat),Vals xs its∧s.heap.get? p=some { cls:=.type "list",data:=.seq its.toArray n }∧xs.length≤sizeLine:=by
 obtain ⟨z,its,n,r,e⟩:=I.hok p _ h
 exact ⟨its,n,r,e,z⟩
theorem Inv.lstUpd {pins:List (Addr × Obj)} {σ:St} {H:Hp} {s:Shared} {p:Addr} {xs ys:List V} {its its':List Value} {n n':Nat} {f:Obj→Obj} (I:Inv X pins σ H s) (h:H p=some (.lst xs))
  (ho:s.heap.get? p=some { cls:=.type "list",data:=.seq its.toArray n }) (hf:f { cls:=.type "list",data:=.seq its.toArray n }={ cls:=.type "list",data:=.seq its'.toArray n' }) (r:Vals ys its') (hz:ys.length≤sizeLine) (t:Nat) :
  Inv X pins σ (upd H p (.lst ys)) { s with heap:=s.heap.update p f,toks:=t }:=by
 have e:(s.heap.update p f).get? p=some { cls:=.type "list",data:=.seq its'.toArray n' }:=by
  rw [Heap.get?_update_self f ho (by rw [hf] <;> rfl),hf]
 refine I.write (x:=p) (e:=p) (by rw [h]; trivial) (.inl rfl) (fun b u hb q=>(Heap.get?_update_other _ _ (Ne.symm hb)).trans q) ⟨_,e⟩ ?_
 exact ⟨hz,its',n',r,e⟩
def aom:V→V→V→Hp→(Hp→Prop)→Prop:=fun o i v H Q=>∃ p xs k j,o=.ref p∧i=.int k∧H p=some (.lst xs)∧ixN xs.length k=some j∧Q (upd H p (.lst (xs.set j v)))
theorem akQ:PSet X aom:=by
 intro pins s σ H o i v ov iv u Q I ro ri rv h
 obtain ⟨p,xs,k,j,rfl,rfl,hp,hj,q⟩:=h
 cases ro
 obtain ⟨t,rfl⟩:=ri
 obtain ⟨its,n,r,ho,hz⟩:=I.lst hp
 obtain ⟨h1,h2,h3,h4⟩:=ajF hj
 have hl:=r.length
 have hn:=afO
 have I':Inv X pins σ (upd H p (.lst (xs.set j v))) { s with heap:=s.heap.update p (Obj.mapSeq (·.setIfInBounds j u)) } :=
  I.lstUpd hp ho (aiC its n j u) (r.set rv j) (by rw [List.length_set]; exact hz) s.toks
 by_cases h0:0≤k
 ·have hk:k.toNat=j:=by
   rw [seqIndex_of h0 h4] at h1
   exact Option.some.inj h1
  exact PySem.W.ki_setAt ho h0 (by omega) (by rw [List.size_toArray,← hl]; exact h4) (by rw [hk]; exact ⟨_,I',q⟩)
 ·have hk:(k+(its.toArray.size:Int)).toNat=j:=by
   rw [seqIndex_neg (by omega) h3] at h1
   rw [List.size_toArray,← hl]
   exact Option.some.inj h1
  exact PySem.W.ki_setBack ho (by omega) (by rw [List.size_toArray,← hl]; exact h3) (by omega) (by rw [hk]; exact ⟨_,I',q⟩)
theorem agD (lo hi:Option Int) (n:Nat):(sliceBounds lo hi none n).1=((HT.sIx n 0 lo:Nat):Int)∧(sliceBounds lo hi none n).2.1=((HT.sIx n n hi:Nat):Int)∧(sliceBounds lo hi none n).2.2=1:=by
 refine ⟨?_,?_,rfl⟩
 ·cases lo with
  | none=>simp [sliceBounds,HT.sIx]
  | some i =>
   simp only [sliceBounds,HT.sIx,Option.getD_none,show (1:Int) > 0 by decide,if_true]
   by_cases h:i < 0
   ·simp only [h,if_true] <;> omega
   ·simp only [h,if_false] <;> omega
 ·cases hi with
  | none=>simp [sliceBounds,HT.sIx]
  | some i =>
   simp only [sliceBounds,HT.sIx,Option.getD_none,show (1:Int) > 0 by decide,if_true]
   by_cases h:i < 0
   ·simp only [h,if_true] <;> omega
   ·simp only [h,if_false] <;> omega
theorem aga (its:List Value) (lo hi:Option Int):slicePick its.toArray lo hi none=((its.drop (HT.sIx its.length 0 lo)).take (HT.sIx its.length its.length hi - HT.sIx its.length 0 lo)).toArray:=by
 obtain ⟨h1,h2,h3⟩:=agD lo hi its.toArray.size
 unfold slicePick
 rw [h1,h2,h3]
 simp only [sliceRange_one,pick_run,List.size_toArray] <;> rfl
def rSlL (K:PySem.W.Frag):V→Option Int→Option Int→Hp→VK→Prop:=fun x lo hi H Q=>∃ a xs,x=.ref a∧SqL K H a xs∧∀ p,H p=none→Q (.ref p) (upd H p (.lst (cutV xs lo hi)))
theorem amR:SlR X (rSlL X.K):=by
 intro pins s σ H x v vl vu lo hi sl Q I rx hs pl pu h
 obtain ⟨a,xs,rfl,hx,q⟩:=h
 cases rx
 obtain ⟨its,r,ht,hz⟩:=I.list hx
 have hlen:=r.length
 refine ⟨"list",_,slot_list_getitem.lookup,ht.isList.typeIs,?_⟩
 refine wpAny_getItem_list_slice ht.isList hs pl pu .none (by simp) ?_ (by rw [List.size_toArray] <;> omega)
 rw [aga,← hlen]
 refine ⟨.ref s.heap.objs.size,_,I.laid (t':=s.toks) (o:=.lst (cutV xs lo hi)) (fun b ob q=>Heap.get?_push_of_some _ q) (Nat.le_refl _) ?_,rfl,q _ (I.hok.fresh (Nat.le_refl _))⟩
 exact ⟨Nat.le_trans (acY xs lo hi) hz,_,0,(r.drop (HT.sIx xs.length 0 lo)).take (HT.sIx xs.length xs.length hi - HT.sIx xs.length 0 lo),Heap.get?_push_size _ rfl⟩
theorem aa3:aeo X (.builtin "len") (fun xs H Q=>∃ p ys,xs=[.ref p]∧(SqL X.K H p ys∨SqT X.K H p ys)∧Q (.int ys.length) H):=by
 intro pins s σ H xs us Q I r h
 obtain ⟨p,ys,rfl,hq,q⟩:=h
 obtain ⟨u,rfl,rx⟩:=aev r
 cases rx
 have hn:=afO
 rcases hq with hq | hq
 ·obtain ⟨its,r',pl,hz⟩:=I.list hq
  have hlen:=r'.length
  exact Calls.call_len_list pl.isList (by simp only [List.size_toArray] <;> omega) ⟨.int ys.length,H,I.tok _,⟨s.toks+1,by rw [List.size_toArray,hlen]⟩,q⟩
 ·obtain ⟨its,r',pl,hz⟩:=I.tuple hq
  have hlen:=r'.length
  exact len_tuple pl (by simp only [List.size_toArray] <;> omega) ⟨.int ys.length,H,I.tok _,⟨s.toks+1,by rw [List.size_toArray,hlen]⟩,q⟩
theorem ab0:aeo X (.builtin "len") (fun xs H Q=>∃ z,xs=[.str z]∧z.length≤sizeLine∧Q (.int z.length) H):=by
 intro pins s σ H xs us Q I r h
 obtain ⟨z,rfl,hz,q⟩:=h
 obtain ⟨u,rfl,t,rfl⟩:=aev r
 have hn:=afO
 exact len_str (by omega) ⟨.int z.length,H,I.tok _,⟨_,rfl⟩,q⟩
theorem agp:aeo X (.type "list") (fun xs H Q=>∃ p ys,xs=[.ref p]∧(SqL X.K H p ys∨SqT X.K H p ys)∧∀ l,H l=none→Q (.ref l) (upd H l (.lst ys))):=by
 intro pins s σ H xs us Q I r h
 obtain ⟨p,ys,rfl,hq,q⟩:=h
 obtain ⟨u,rfl,rx⟩:=aev r
 cases rx
 have fin:∀ (its:List Value),Vals ys its→ys.length≤sizeLine→∀ (h':Heap) (c':Nat),(∀ b o',s.heap.get? b=some o'→h'.get? b=some o') →
   h'.get? s.heap.objs.size=some { cls:=.type "list",dict:=none,data:=.seq its.toArray c',slots:=#[] }→EP X pins σ Q (.ref s.heap.objs.size) { s with heap:=h' }:=fun its r' hz h' c' kp e =>
  ⟨.ref s.heap.objs.size,_,I.laid (t':=s.toks) kp (Nat.le_refl _) (show acH X.prog X.w _ h' _ (.lst ys) from ⟨hz,its,c',r',e⟩),rfl,q _ (I.hok.fresh (Nat.le_refl _))⟩
 rcases hq with hq | hq
 ·obtain ⟨its,r',pl,hz⟩:=I.list hq
  have hlen:=r'.length
  obtain ⟨o,ho,hc,n,hd⟩:=pl.isList
  exact call_list_seq p (.inl rfl) ho hc hd (fun h' c' kp e=>fin its r' hz h' c' kp e) (by simp only [List.size_toArray] <;> omega)
 ·obtain ⟨its,r',pl,hz⟩:=I.tuple hq
  have hlen:=r'.length
  obtain ⟨o,ho,hc,n,hd⟩:=pl
  exact call_list_seq p (.inr rfl) ho hc hd (fun h' c' kp e=>fin its r' hz h' c' kp e) (by simp only [List.size_toArray] <;> omega)
theorem acq:aeo X (.type "tuple") (fun xs H Q=>∃ p ys,xs=[.ref p]∧((SqL X.K H p ys∧∀ l,H l=none→Q (.ref l) (upd H l (.tup ys)))∨(SqT X.K H p ys∧Q (.ref p) H))):=by
 intro pins s σ H xs us Q I r h
 obtain ⟨p,ys,rfl,h⟩:=h
 obtain ⟨u,rfl,rx⟩:=aev r
 cases rx
 rcases h with ⟨hq,q⟩ | ⟨hq,q⟩
 ·obtain ⟨its,r',pl,hz⟩:=I.list hq
  have hlen:=r'.length
  refine call_tuple_list pl.isList (fun h' kp=>?_) (by simp only [List.size_toArray] <;> omega)
  have I1:Inv X pins σ H { s with heap:=h' }:=I.kept (t':=s.toks) kp
  have I2:Inv X pins σ (upd H h'.objs.size (.tup ys)) { s with heap:=h'.push { cls:=.type "tuple",data:=.seq its.toArray } } :=
   I1.laid (t':=s.toks) (fun b o e=>Heap.get?_push_of_some _ e) (Nat.le_refl _) (show acH X.prog X.w _ _ _ (.tup ys) from ⟨hz,its,r',IsTup.new _ _⟩)
  exact ⟨.ref h'.objs.size,_,I2,rfl,q _ (I1.hok.fresh (Nat.le_refl _))⟩
 ·obtain ⟨its,r',pl,hz⟩:=I.tuple hq
  exact call_tuple_same pl ⟨.ref p,H,I,rfl,q⟩
def tyV (K:PySem.W.Frag) (T:String) (x:V) (H:Hp):Prop:=match x with
 | .str _=>T="str"
 | .int _=>T="int"
 | .ref p=>(T="list"∧∃ xs,SqL K H p xs)∨(T="tuple"∧∃ o,K.lookup p=some o∧o.cls=.type "tuple"∧o.dict=none) ∨
   (T="dict"∧((∃ kvs,H p=some (.dK kvs))∨∃ kvs,H p=some (.dT kvs)))∨(T="set"∧∃ S n,H p=some (.set S n))
 | _=>False
theorem am8 {pins:List (Addr × Obj)} {σ:St} {H:Hp} {s:Shared} {T:String} {x:V} {v:Value} (I:Inv X pins σ H s) (r:RelV x v) (ty:tyV X.K T x H) :
  s.TypeIs v T∧∀ a,v=.ref a→∃ ob,s.heap.get? a=some ob∧ob.dict=none:=by
 cases x with
 | str z =>
  obtain ⟨t,rfl⟩:=r
  cases (show T="str" from ty)
  exact ⟨typeIs_str s z t,fun _ e=>nomatch e⟩
 | int i =>
  obtain ⟨t,rfl⟩:=r
  cases (show T="int" from ty)
  exact ⟨typeIs_int s i t,fun _ e=>nomatch e⟩
 | ref p =>
  cases r
  rcases ty with ⟨rfl,xs,hq⟩ | ⟨rfl,o,hk,hc,hd⟩ | ⟨rfl,hk⟩ | ⟨rfl,S,n,hk⟩
  ·obtain ⟨its,_,pl,_⟩:=I.list hq
   refine ⟨pl.isList.typeIs,fun a e=>?_⟩
   cases e
   obtain ⟨o,n,e,c,hd,_⟩:=pl
   exact ⟨o,e,hd⟩
  ·refine ⟨⟨o,I.kIn p o hk,hc⟩,fun a e=>?_⟩
   cases e
   exact ⟨o,I.kIn _ o hk,hd⟩
  ·have z:∃ o,s.heap.get? p=some o∧o.ExactDict:=by
    rcases hk with ⟨kvs,hk⟩ | ⟨kvs,hk⟩
    ·obtain ⟨_,_,_,_,o,_,_,e,ex,_⟩:=I.hok p _ hk
     exact ⟨o,e,ex⟩
    ·obtain ⟨_,_,_,_,o,_,_,e,ex,_⟩:=I.hok p _ hk
     exact ⟨o,e,ex⟩
   obtain ⟨o,e,ex⟩:=z
   refine ⟨⟨o,e,ex.1⟩,fun a e2=>?_⟩
   cases e2
   exact ⟨o,e,ex.2.1⟩
  ·obtain ⟨o,_,_,_,e,ex,_⟩:=I.hok p _ hk
   refine ⟨⟨o,e,ex.1⟩,fun a e2=>?_⟩
   cases e2
   exact ⟨o,e,ex.2.1⟩
 | _=>exact False.elim ty
def tBM (K:PySem.W.Frag) (T:String) (r:V→List V→Hp→VK→Prop) (to:TE) (t:TA):TE:=fun σ H Q=>to σ H fun x H1=>tyV K T x H1∧t σ H1 fun xs H2=>r x xs H2 Q
variable {o e:Expr} {es:List Expr} {to:TE} {t:TA} {name:Str} {apos cpos:Pos} {T id:String} {r:V→List V→Hp→VK→Prop}
theorem ak4 (pa:PlainAttrs T) (slot:Slot T name id) (hty:typeOf (.builtin id)=pure (.type "method_descriptor")) (hm:MtR X id r) (ho:PE X o to) (ha:PA X (e :: es) t)
  (hbase:attributeBase o name X.env (eval o X.env)=eval o X.env:=by rfl)
  (hfew:((backTo cpos (starEach (e :: es) X.env)).all (fun x=>!x.1) && (backToKw cpos (keywordEach [] X.env)).all (fun x=>x.1.isSome)
   && decide ((e :: es).length+([]:List Keyword).length+(if ([]:List Keyword).isEmpty then 0 else 1) < 30))=true:=by rfl)
  (hline:(apos.endLine == cpos.line)=true:=by rfl) (hs:starEach (e :: es) X.env=(false,eval e X.env) :: starEach es X.env:=by rfl) (hplain:(backTo cpos (starEach es X.env)).any (·.1)=false:=by rfl) :
  PE X (.Call (.Attribute o name apos) (e :: es) [] cpos) (tBM X.K T r to t):=by
 intro pins s σ H Q I h
 refine wpAny_Call_method_late hbase hfew hline rfl (thn (ho pins s σ H _ I h) fun v s1 ⟨x,H1,I1,r1,ty,q1⟩=>?_)
 obtain ⟨h1,h2⟩:=am8 I1 r1 ty
 refine ⟨T,id,pa,slot,hty,h1,h2,?_⟩
 have hA:=ha cpos pins s1 σ H1 _ I1 q1
 rw [hs] at hA ⊢
 refine Calls.callWith_builtin (by show (false || (backTo cpos (starEach es X.env)).any (·.1))=false; rw [hplain] <;> rfl) (Calls.evalArgs_plain ?_)
 exact thn hA fun us s2 ⟨vs,H2,I2,r2,q2⟩=>hm pins s2 σ H2 x vs v us Q I2 r1 r2 q2
end
end L2
namespace L2
open PySem PySem.Spec PyProof.Rows
def MtM (X:Cx) (id:String) (r:V→List V→Hp→VK→Prop):Prop :=
 ∀ (pins:List (Addr × Obj)) (s:Shared) (σ:St) (H:Hp) (x:V) (xs:List V) (v:Value) (us:List Value) (Q:VK),Inv X pins σ H s→RelV x v→Vals xs us→r x xs H Q →
  wpAny (model X.prog X.w) X.A (call (.builtin id) (v :: us)) (EP X pins σ Q) X.xe s
theorem Vals.one:∀ {x:V} {us:List Value},Vals [x] us→∃ u,us=[u]∧RelV x u
 | _,_,.cons r .nil=>⟨_,rfl,r⟩
theorem Vals.eraseIdx:∀ {xs:List V} {us:List Value} (i:Nat),Vals xs us→Vals (xs.eraseIdx i) (us.eraseIdx i)
 | _,_,_,.nil=>.nil
 | _,_,0,.cons _ t=>t
 | _,_,i+1,.cons r t=>.cons r (Vals.eraseIdx i t)
theorem aeT {α:Type}:∀ (l:List α) (i:Nat),(l.eraseIdx i).length≤l.length
 | [],_=>Nat.le_refl _
 | _ :: _,0=>Nat.le_succ _
 | _ :: r,i+1=>Nat.succ_le_succ (aeT r i)
section
variable {X:Cx} {pins:List (Addr × Obj)} {σ:St} {H:Hp} {s:Shared} {l b:Addr} {xs ys zs:List V}
theorem Inv.lset {its its':List Value} {n:Nat} {f:Array Value→Array Value} {t':Nat} (I:Inv X pins σ H s) (hH:H l=some (.lst xs))
  (e:s.heap.get? l=some { cls:=.type "list",data:=.seq its.toArray n }) (hf:f its.toArray=its'.toArray) (hv:Vals ys its') (hz:ys.length≤sizeLine) :
  Inv X pins σ (upd H l (.lst ys)) { s with heap:=s.heap.update l (Obj.mapSeq f),toks:=t' }:=by
 have q:=PySem.IsL.update e f
 rw [hf] at q
 refine I.write (x:=l) (e:=l) (by rw [hH]; exact trivial) (.inl rfl) (fun b' u hb hu=>(Heap.get?_update_other s.heap (Obj.mapSeq f) (Ne.symm hb)).trans hu) ⟨_,q⟩ ?_
 exact ⟨hz,its',_,hv,q⟩
theorem Inv.lnew {its:List Value} {t':Nat} (I:Inv X pins σ H s) (hv:Vals ys its) (hz:ys.length≤sizeLine) :
  Inv X pins σ (upd H s.heap.objs.size (.lst ys)) { s with heap:=s.heap.push { cls:=.type "list",data:=.seq its.toArray },toks:=t' } :=
 I.laid (fun _ _ q=>Heap.get?_push_of_some _ q) (Nat.le_refl _) ⟨hz,its,0,hv,Heap.get?_push_size _ rfl⟩
theorem Inv.fresh (I:Inv X pins σ H s):H s.heap.objs.size=none:=I.hok.fresh (Nat.le_refl _)
theorem Inv.lstM (I:Inv X pins σ H s) (hH:H l=some (.lst xs)):xs.length≤sizeLine∧∃ (its:List Value) (n:Nat),Vals xs its∧xs.length=its.length∧s.heap.get? l=some { cls:=.type "list",data:=.seq its.toArray n }:=by
 obtain ⟨z,its,n,r,e⟩:=I.hok l _ hH
 exact ⟨z,its,n,r,r.length,e⟩
end
section
variable {X:Cx}
def amd:V→List V→Hp→VK→Prop:=fun x vs H Q=>∃ l xs y,x=.ref l∧vs=[y]∧H l=some (.lst xs)∧xs.length < sizeLine∧Q .non (upd H l (.lst (xs++[y])))
theorem adZ:MtM X "list.append" amd:=by
 intro pins s σ H x vs v us Q I rx rv h
 obtain ⟨l,xs,y,rfl,rfl,hH,hz,q⟩:=h
 cases rx
 obtain ⟨u,rfl,ru⟩:=rv.one
 obtain ⟨z,its,n,r,hl,e⟩:=I.lstM hH
 refine call_meets F.slot_list_append ⟨_,e,rfl⟩ F.entry_list_append (F.args_list_append_2 _ _) (PySem.list_append l its.toArray n u (by rw [List.size_toArray]; omega)) ⟨e,?_⟩
 refine ⟨.non,_,I.lset (its':=its++[u]) hH e (by simp) (r.append (.cons ru .nil)) ?_,rfl,q⟩
 rw [List.length_append,List.length_singleton]
 omega
def amZ:V→List V→Hp→VK→Prop:=fun x vs H Q=>∃ l xs i k y,x=.ref l∧vs=[.int i]∧H l=some (.lst xs)∧-(2 ^ 63)≤i∧i < 2 ^ 63∧seqIndex? i xs.length=some k∧xs[k]?=some y∧Q y (upd H l (.lst (xs.eraseIdx k)))
theorem akX:MtM X "list.pop" amZ:=by
 intro pins s σ H x vs v us Q I rx rv h
 obtain ⟨l,xs,i,k,y,rfl,rfl,hH,h1,h2,hk,hy,q⟩:=h
 cases rx
 obtain ⟨u,rfl,ru⟩:=rv.one
 obtain ⟨t,rfl⟩:=ru
 obtain ⟨z,its,n,r,hl,e⟩:=I.lstM hH
 obtain ⟨w,hw,rw'⟩:=r.get hy
 refine call_meets F.slot_list_pop ⟨_,e,rfl⟩ F.entry_list_pop (F.args_list_pop_2 _ _)
  (MeetsSeq.list_pop_at l its.toArray n i t k w (fitsIndex_both h1 h2) (by rw [List.size_toArray,← hl]; exact hk) (by rw [← Array.getElem?_toList]; exact hw) (by rw [List.size_toArray]; omega)) ⟨e,?_⟩
 refine ⟨y,_,I.lset (its':=its.eraseIdx k) hH e ?_ (r.eraseIdx k) ?_,rw',q⟩
 ·show its.toArray.eraseIdxIfInBounds k=(its.eraseIdx k).toArray
  rw [List.eraseIdxIfInBounds_toArray]
 ·have:=aeT xs k
  omega
end
section
variable {prog:Program} {w:World} {A:Around} {E:Value→Shared→Prop} {s:Shared}
end
section
variable {X:Cx}
end
end L2
namespace Att
open PySem PySem.W PySem.Calls PyProof.Rows
theorem ae6 {P:Params} {h:Heap}:∀ (ns:List Int) (vs:List Value),WellAll P h vs (ns.map WData.int)→IntsAre vs ns:=by
 intro ns
 induction ns with
 | nil =>
  intro vs w
  rw [List.map_nil] at w
  cases w
  exact .nil
 | cons n ns ih =>
  intro vs w
  rw [List.map_cons] at w
  cases w with
  | cons a b =>
   cases a
   exact .cons _ _ (ih _ b)
theorem ajj {l:OpenLaw} {n:Nat} (hn:l.most=some n) {P:Params} {h:Heap} {args:List WData} {vals:List Value}
  (hpre:l.row.toRowW.claim.pre args=true) (hwl:WellAll P h vals args) :
  ∃ a vs ns,vals=[Value.ref a]∧args=[WData.list (ns.map WData.int)]∧h.get? a=some { cls:=.type "list",data:=.seq vs.toArray }∧IntsAre vs ns∧ns.length≤n:=by
 have hsh:WShape.hasAll [] args [.list .int]=true:=(pre_splitW hpre).1
 have hc:l.pre.holds [] { args:=args }=true:=(pre_splitW hpre).2
 obtain ⟨d,r,rfl,h1,h2⟩:=hasAllW_cons hsh
 obtain rfl:=hasAllW_nil h2
 obtain ⟨xs,rfl,h3⟩:=hasW_list h1
 obtain ⟨ns,rfl⟩:=items_int h3
 have hlen:ns.length≤n:=by
  unfold OpenLaw.pre at hc
  have h4:(WTm.not (.lt (.lit (.int (n:Int))) (.len (.arg 0)))).holds [] { args:=[.list (ns.map .int)] }=true:=by
   have h4:=(holds_andW hc).1
   rw [hn] at h4
   exact h4
  have h5:=condW_of h4 (w_not (w_lt w_lit (w_len_list (w_arg rfl))))
  rw [List.length_map] at h5
  refine Nat.le_of_not_lt fun q=>?_
  have q':(n:Int) < ((ns.length:Nat):Int):=by omega
  first
   | (rw [decide_eq_true q'] at h5; exact absurd h5 (by decide))
   | (simp at h5; omega)
 cases hwl with
 | cons w1 w2 =>
  cases w2
  cases w1 with
  | list ho hall=>exact ⟨_,_,ns,rfl,rfl,ho,ae6 ns _ hall,hlen⟩
theorem aiR (l:OpenLaw) (args:List WData):l.row.toRowW.claim.post args (.bool true) args=true :=
 postW_of (r:=l.row.toRowW) (X:=(true == true))
  (show WShape.has [] (.bool true) .bool=true by first | rfl | decide | simp [WShape.has,WShape.arms,WShape.armsAll])
  (show (WTm.eq .res (.lit (.bool true))).value [] { args:=args,res:=some (.bool true),after:=args }=some (.bool (true == true)) from w_eq_bool (w_res rfl) w_lit) rfl
theorem attach_call {l:OpenLaw} {n:Nat} {q:Program} {loose:List Str} {XP:(Str→Option Value)→Heap→Prop} {YP:World→Heap→Prop} {d:DefRec}
  (hn:l.most=some n) (hdf:d.params.defaults=[])
  (call:∀ (w:World) (s₀ s₁:Shared) (mg mb:Str→Option Value) (fa:Addr) (o:Obj) (pm cd doc:Value) (a:Addr) (vs:List Value) (ns:List Int),
   Ground q loose [] XP w s₀ mg mb s₁.heap→YP w s₁.heap →
   s₁.heap.get? fa=some o→o.data=.func (docDef d.name d.params d.body d.scope pm cd doc)→s₁.heap.CodeRec cd d.name→mg d.name=some (.ref fa) →
   s₁.heap.get? a=some { cls:=.type "list",data:=.seq vs.toArray }→IntsAre vs ns→ns.length≤n→s₁.gens=#[] →
   codeAny (model l.prog w) callerA (.call (.ref fa) ⟨[.ref a],[]⟩) (fun r s'=>r=.ok (.ret (.bool true))∧OldK s₁.heap s'.heap∧s'.os=s₁.os∧AllBare s'.gens) s₁) :
  WalkO q loose XP YP l.row.toRowW d [] (fun f vs=>PySem.call f vs):=by
 intro w s₀ s₁ mg mb G Y fa o pm cd doc dV kV ho hd hcd hD hmg hg args vals as hpre hlay hrd hwl hlo
 obtain rfl:dV=.none:=Dflts.none hD hdf
 obtain rfl:kV=.none:=Dflts.noKw hD
 obtain ⟨a,vs,ns,rfl,rfl,hobj,hints,hlen⟩:=ajj hn hpre hwl
 refine enter_call (codeAny_mono (call w s₀ s₁ mg mb fa o pm cd doc a vs ns G Y ho (fd_plain hd) hcd hmg hobj hints hlen hg) fun r s' hq=>?_)
 obtain ⟨rfl,h2,h3,h4⟩:=hq
 exact ⟨.inl ⟨.bool true,.bool true,[],rfl,fun _=>rfl,.bool true,aiR l _,fun _=>⟨List.Pairwise.nil,fun _ hm=>(nomatch hm)⟩⟩,h2,h3,h4⟩
section
variable {prog:Program} {w:World} {A:Around} {E:Value→Shared→Prop} {s:Shared} {K:Frag}
end
end Att
namespace L2
open PySem PySem.Spec PyProof.Rows
theorem ag0:∀ {vs:List Value} {ns:List Int},IntsAre vs ns→Vals (ns.map V.int) vs
 | _,_,.nil=>.nil
 | _,_,.cons n t h=>.cons ⟨t,rfl⟩ (ag0 h)
def Only (H:Hp):Prop:=∀ b,H b=none∨∃ o xs,H b=some (.frz o (.lst xs))
theorem alk {P:Program} {w:World} {K:PySem.W.Frag} {mg mb:Str→Option Value} {CX:CXT} {k:Nat} {fa a:Addr} {fd:FuncData} {x:Str} {sp:Sp} {s₁:Shared} {vs:List Value} {ns:List Int}
  (KX:K.In s₁.heap) (hns:s₁.heap.Ns mainGlobals mg) (hb:s₁.heap.Ns builtinsNs mb) (hbb:∀ x:Str,x≠"__name__"→mb x=bootBuiltins x) (hlim:s₁.heap.NoLimit) (hg:s₁.gens=#[])
  (ha:s₁.heap.get? a=some { cls:=.type "list",data:=.seq vs.toArray }) (hi:IntsAre vs ns) (hl:ns.length≤sizeLine) (hr:Room k callerA)
  (F:∀ base:Heap,K.In base→base.Ns mainGlobals mg→FnOk P w K mg base CX k fa fd [x] sp) (hbind:∀ (s:Shared) (u:Value),BindsTo s fd ⟨[u],[]⟩ [(x,u)])
  (hsp:∀ H:Hp,Only H→SqL K H a (ns.map V.int)→sp [.ref a] H (fun v _=>v=.bl true) fun _ _ _=>False)
  (hCX:∀ H e s',CX [] H s₁ (fun _ _ _=>False) e s'→False) :
  codeAny (model P w) callerA (.call (.ref fa) ⟨[.ref a],[]⟩) (fun r s'=>r=.ok (.ret (.bool true))∧OldK s₁.heap s'.heap∧s'.os=s₁.os∧AllBare s'.gens) s₁:=by
 have rv:=ag0 hi
 have lenV:=hi.length
 -- from an abstract heap in which nothing but the script may be tracked
 have core:∀ H:Hp,Only H→SqL K H a (ns.map V.int)→HOk P w H s₁.heap→(∀ b,H b≠none→b=a)→(H a≠none→K.lookup a=none) →
   codeAny (model P w) callerA (.call (.ref fa) ⟨[.ref a],[]⟩) (fun r s'=>r=.ok (.ret (.bool true))∧OldK s₁.heap s'.heap∧s'.os=s₁.os∧AllBare s'.gens) s₁:=by
  intro H hO hS hok hA hK
  have base_of:∀ {b:Addr} {o:Obj},s₁.heap.get? b=some o→H b=none→(hidT s₁.heap H).get? b=some o:=fun e n=>akF e n
  have noA:∀ {b:Addr} {o:Obj} {es:Array DictEntry} {ep:Nat},s₁.heap.get? b=some o→o.data=.dict es ep→H b=none:=fun {b o es ep} e d=>by
   cases q:H b with
   | none=>rfl
   | some u =>
    have e':b=a:=hA b (by rw [q]; simp)
    subst e'
    rw [ha] at e; cases e
    have d':Data.seq vs.toArray _=Data.dict es ep:=d
    cases d'
  have nsK:∀ {b:Addr} {m:Str→Option Value},s₁.heap.Ns b m→(hidT s₁.heap H).Ns b m:=fun {b m} ⟨o,es,ep,e,d,r⟩=>⟨o,es,ep,base_of e (noA e d),d,r⟩
  have hKb:K.In (hidT s₁.heap H):=fun b o e=>base_of (KX b o e) (by
   cases q:H b with
   | none=>rfl
   | some u =>
    have e':b=a:=hA b (by rw [q]; simp)
    subst e'
    rw [hK (by rw [q]; simp)] at e; cases e)
  have hM:Mod K mg (hidT s₁.heap H):=⟨hKb,nsK hns,⟨mb,nsK hb,hbb⟩,let ⟨mc,h1,h2⟩:=hlim; ⟨mc,nsK h1,h2⟩⟩
  have e0:Env0 P w K mg (hidT s₁.heap H) callerA [] s₁ H:=⟨rfl,hM,fun b o e=>amy e,Nat.le_of_eq (ajY _ _),trivial,fun b hb=>absurd (show b∈([]:List Addr) from hb) (by simp),hok,.of_eq hg⟩
  refine codeAny_mono ((F _ hKb (nsK hns)).run callerA [] s₁ H ⟨[.ref a],[]⟩ [.ref a] [.ref a] _ _ hr e0 (hbind s₁ (.ref a)) (.cons rfl .nil) (hsp H hO hS)) fun r s' h=>?_
  cases r with
  | error e=>exact (hCX H e s' h).elim
  | ok fl =>
   cases fl with
   | next=>exact False.elim h
   | brk=>exact False.elim h
   | cont=>exact False.elim h
   | ret u =>
    obtain ⟨v,H',os,bare,un,hok',r',q⟩:=h
    have q':v=.bl true:=q
    subst q'
    obtain rfl:u=Value.bool true:=r'
    refine ⟨rfl,OldK.of_keep fun b o e=>?_,os,bare⟩
    cases q:H b with
    | none=>exact un.keep b o e q (by intro z; exact absurd (show b∈([]:List Addr) from z) (by simp)) (by simp)
    | some u =>
     rcases hO b with z | ⟨ob,xs,z⟩
     ·rw [q] at z; cases z
     ·have z2:=un.frzs b ob _ z
      obtain ⟨e1,_⟩:=hok b _ z
      obtain ⟨e2,_⟩:=hok' b _ z2
      rw [e] at e1; cases e1
      exact e2
 cases hk:K.lookup a with
 | some o =>
  -- the script is one of the module's own objects
  have e:=KX a o hk
  rw [ha] at e
  cases e
  refine core (fun _=>none) (fun _=>.inl rfl) (.inr ⟨_,vs.toArray,_,hk,rfl,rfl,rfl,by rw [List.size_toArray,lenV]; exact hl,by simpa using rv⟩) (fun b u z=>by have z':(none:Option HO)=some u:=z; cases z') (fun b z=>absurd rfl z) fun z=>absurd rfl z
 | none =>
  refine core (fun b=>if b=a then some (.frz { cls:=.type "list",data:=.seq vs.toArray } (.lst (ns.map V.int))) else none) (fun b=>?_) (.inl (.inr ⟨{ cls:=.type "list",data:=.seq vs.toArray },if_pos rfl⟩)) (fun b u z=>?_) (fun b z=>?_) fun _=>hk
  ·by_cases hb:b=a
   ·exact .inr ⟨_,_,if_pos hb⟩
   ·exact .inl (if_neg hb)
  ·by_cases hb:b=a
   ·have z':=(if_pos hb).symm.trans z
    cases z'
    subst hb
    exact ⟨ha,by rw [List.length_map]; exact hl,vs,_,rv,ha⟩
   ·have z':=(if_neg hb).symm.trans z
    cases z'
  ·by_cases hb:b=a
   ·exact hb
   ·exact absurd (if_neg hb) z
end L2
namespace L2
open PySem PySem.Spec PyProof.Rows
theorem walk_of {l:PySem.W.OpenLaw} {n k:Nat} {q:Program} {loose:List Str} {XP:(Str→Option Value)→Heap→Prop} {YP:World→Heap→Prop} {d:DefRec} {K:Params→PySem.W.Frag} {CX:World→CXT} {sp:World→Sp} {x:Str}
  (hn:l.most=some n) (hn2:n≤sizeLine) (hdf:d.params.defaults=[]) (hr:Room k callerA)
  (hY:∀ (w:World) (h:Heap),YP w h→(K w.params).In h)
  (F:∀ (w:World) (mg:Str→Option Value) (fa:Addr) (h:Heap),(K w.params).In h→h.Ns mainGlobals mg→mg d.name=some (.ref fa) →
   ∃ fd:FuncData,(∀ (s:Shared) (u:Value),BindsTo s fd ⟨[u],[]⟩ [(x,u)]) ∧
    ∀ base:Heap,(K w.params).In base→base.Ns mainGlobals mg→FnOk l.prog w (K w.params) mg base (CX w) k fa fd [x] (sp w))
  (hsp:∀ (w:World) (H:Hp) (a:Addr) (ns:List Int),ns.length≤n→Only H→SqL (K w.params) H a (ns.map V.int)→sp w [.ref a] H (fun v _=>v=.bl true) fun _ _ _=>False)
  (hCX:∀ (w:World) (H:Hp) (s:Shared) (e:Value) (s':Shared),CX w [] H s (fun _ _ _=>False) e s'→False) :
  PySem.W.WalkO q loose XP YP l.row.toRowW d [] (fun f vs=>PySem.call f vs):=by
 refine Att.attach_call hn hdf fun w s₀ s₁ mg mb fa o pm cd doc a vs ns G Y ho hd hcd hmg hobj hints hlen hg=>?_
 have KX:=hY w _ Y
 obtain ⟨fd,hb,hF⟩:=F w mg fa _ KX G.T.g hmg
 exact alk KX G.T.g G.T.b G.T.builtins G.T.nolimit hg hobj hints (Nat.le_trans hlen hn2) hr hF hb (fun H hO hS=>hsp w H a ns hlen hO hS) fun H e s'=>hCX w H s₁ e s'
end L2
namespace L2
open PySem PySem.Spec PyProof.Rows
abbrev CX0:CXT:=fun _ _ _ _ _ _=>False
abbrev E0:XK:=fun _ _ _=>False
theorem amj {X:Cx}:ac7 CX0 X E0:=fun _ _ _ _ _ _ _ h=>h.elim
structure Fun (K:PySem.W.Frag) (x qual:Str) (st:Stmt) (f:Addr) (fd:FuncData):Prop where
 ex:∃ (oc:Value) (od:Option Addr) (kV doc pm:Value) (an:Option Addr) (cdv ct:Value) (osl:Array (Option Value)),
  fd=PySem.W.fnOf x qual (aaz st) (aaw st) (aae st) .none kV doc pm an cdv ct∧K.lookup f=some ⟨oc,od,.func fd,osl⟩∧PySem.W.codeIn K cdv qual=true
 kp:PySem.W.keepIn K (.ref f)=true
section
variable {P:Program} {w:World} {K:PySem.W.Frag} {mg:Str→Option Value} {base:Heap}
theorem Fun.ok {x qual:Str} {st:Stmt} {f:Addr} {fd:FuncData} {N ps:List Str} {k:Nat} {sp:Sp} (F:Fun K x qual st f fd) (S:aaD N ps (aae st)) (len:∀ vs H Q E,sp vs H Q E→vs.length=ps.length)
  (hbody:∀ (cdv:Value) (A:Around) (outer:List Env) (s:Shared) (H:Hp) (vs:List V) (Q:VK) (E:XK),Room k (A.deeper (envOfC qual (aae st) s.heap.objs.size f cdv))→sp vs H Q E →
   ∃ t,PSs (cxOf CX0 P w K mg base N qual (aae st) f cdv A outer s H E).nox (aaw st) t∧t { nx:=fun _ H'=>Q .non H',rt:=Q } (start N vs) H):FnOk P w K mg base CX0 (k+1) f fd ps sp:=by
 obtain ⟨oc,od,kV,doc,pm,an,cdv,ct,osl,rfl,lk,hcd⟩:=F.ex
 refine amr lk hcd S len fun A outer s H vs Q E hr hsp=>?_
 obtain ⟨t,h,q⟩:=hbody cdv A outer s H vs Q E hr hsp
 exact ⟨t,h.nox,q⟩
theorem Fun.binds {x qual:Str} {st:Stmt} {f:Addr} {fd:FuncData} {ps:List Str} (F:Fun K x qual st f fd)
  (h:∀ (kV doc pm:Value) (an:Option Addr) (cdv ct:Value) (us:List Value),us.length=ps.length→bindArgs (PySem.W.fnOf x qual (aaz st) (aaw st) (aae st) .none kV doc pm an cdv ct) ⟨us,[]⟩=pure (ps.zip us)):ab9 K fd ps []:=by
 obtain ⟨oc,od,kV,doc,pm,an,cdv,ct,osl,rfl,lk,hcd⟩:=F.ex
 exact .all (h kV doc pm an cdv ct)
theorem aa4 {x qual:Str} {st:Stmt} {f:Addr} {oc:Value} {od an:Option Addr} {osl:Array (Option Value)} {kV doc pm cdv ct:Value} (l:K.lookup f=some ⟨oc,od,.func (PySem.W.fnOf x qual (aaz st) (aaw st) (aae st) .none kV doc pm an cdv ct),osl⟩)
  (c:PySem.W.codeIn K cdv qual=true) (k:PySem.W.keepIn K (.ref f)=true):Fun K x qual st f (PySem.W.fnOf x qual (aaz st) (aaw st) (aae st) .none kV doc pm an cdv ct):=⟨⟨oc,od,kV,doc,pm,an,cdv,ct,osl,rfl,l,c⟩,k⟩
end
section
variable {X:Cx}
theorem pv (i:Nat) {x:Str} {pos:Pos} (hN:X.N[i]?=some x:=by rfl) (hv:Vis X.env.scope x:=by first | exact Or.inl rfl | exact Or.inr (Or.inl rfl) | exact Or.inr (Or.inr rfl)) (hd:(x == ("__debug__":Str))=false:=by decide)
  (hcd:(x == ("__classdict__":Str))=false:=by decide):PE X (.Name x pos) (tVar i):=alq hN hv hd hcd
end
def Same (H H':Hp):Prop:=∀ b o,H b=some o→H' b=some o
theorem Same.refl (H:Hp):Same H H:=fun _ _ h=>h
end L2
namespace Bn
def Bd (k:Nat) (i:Int):Prop:=i.natAbs < 2 ^ k
theorem Bd.mono {j k:Nat} {i:Int} (h:Bd j i) (l:j≤k):Bd k i:=Nat.lt_of_lt_of_le h (Nat.pow_le_pow_right (by decide) l)
theorem Bd.mul {j k:Nat} {a b:Int} (h:Bd j a) (g:Bd k b):Bd (j+k) (a*b):=by
 unfold Bd at *
 rw [Int.natAbs_mul,Nat.pow_add]
 exact Nat.mul_lt_mul'' h g
theorem Bd.neg {k:Nat} {a:Int} (h:Bd k a):Bd k (-a):=by
 unfold Bd at *
 rw [Int.natAbs_neg]
 exact h
theorem Bd.le {k:Nat} {a b:Int} (h:Bd k b) (l:a.natAbs≤b.natAbs):Bd k a:=Nat.lt_of_le_of_lt l h
theorem Bd.of {k n:Nat} {a:Int} (l:a.natAbs≤n) (h:n < 2 ^ k):Bd k a:=Nat.lt_of_le_of_lt l h
theorem Bd.log {k:Nat} {a:Int} (h:Bd k a) (hk:0 < k):a.natAbs.log2 < k:=by
 rcases Nat.eq_zero_or_pos a.natAbs with z | z
 ·rw [z]
  exact Nat.lt_of_le_of_lt (Nat.le_of_eq (by decide)) hk
 ·exact (Nat.log2_lt (Nat.ne_of_gt z)).mpr h
theorem agY (a:Int) {b:Int} (h:b≠0):(a.fmod b).natAbs < b.natAbs:=by
 rw [Int.fmod_eq_emod]
 have h1:=Int.emod_nonneg a h
 have h2:a % b < (b.natAbs:Int):=Int.emod_lt a h
 by_cases c:0≤b∨b ∣ a
 ·rw [if_pos c]
  omega
 ·rw [if_neg c]
  have hb:b < 0:=by omega
  have h3:a % b≠0:=fun z=>c (.inr (Int.dvd_of_emod_eq_zero z))
  have h4:b.natAbs=(-b).toNat:=by omega
  omega
theorem aij (a b:Int):Int.gcd b (a.fmod b)=Int.gcd a b:=by
 rw [Int.fmod_def,Int.mul_comm,Int.gcd_sub_mul_right_right,Int.gcd_comm]
theorem ajO (x:Int):(if x < 0 then -x else x)=(x.natAbs:Int):=by
 split <;> omega
end Bn
namespace Bn
def gl:List Int→Int→Int
 | [],g=>g
 | n :: r,g=>gl r (Int.gcd g n:Nat)
def low (ns:List Int):List Int:=if gl ns 0=0 then ns else ns.map (· / gl ns 0)
theorem anE:∀ (ns:List Int) (g:Int),0≤g→0≤gl ns g
 | [],_,h=>h
 | _ :: r,_,_=>anE r _ (Int.natCast_nonneg _)
theorem alG (k:Int):∀ (ns:List Int) (g:Int),0≤g→gl (ns.map (k*·)) ((k.natAbs:Int)*g)=(k.natAbs:Int)*gl ns g
 | [],_,_=>rfl
 | n :: r,g,h=>by
  show gl (r.map (k*·)) ((Int.gcd ((k.natAbs:Int)*g) (k*n):Nat):Int)=(k.natAbs:Int)*gl r _
  have e:((Int.gcd ((k.natAbs:Int)*g) (k*n):Nat):Int)=(k.natAbs:Int)*((Int.gcd g n:Nat):Int):=by
   rcases Int.natAbs_eq k with q | q
   ·rw [← q,Int.gcd_mul_left]
    have:(k.natAbs:Int)=k:=q.symm
    push_cast
    rw [this]
   ·have e2:k*n=(k.natAbs:Int)*(-n):=by rw [Int.mul_neg,← Int.neg_mul,← q]
    rw [e2,Int.gcd_mul_left,Int.gcd_neg]
    push_cast
    simp
  rw [e]
  exact alG k r _ (Int.natCast_nonneg _)
theorem agb (k:Int) (ns:List Int):gl (ns.map (k*·)) 0=(k.natAbs:Int)*gl ns 0:=by
 have:=alG k ns 0 (Int.le_refl 0)
 rwa [Int.mul_zero] at this
theorem agB {k:Int} (h:0 < k) (ns:List Int):gl ns 0≠0→low (ns.map (k*·))=low ns:=fun z=>by
 have hk:(k.natAbs:Int)=k:=by omega
 have e:=agb k ns
 rw [hk] at e
 have nz:k*gl ns 0≠0:=Int.mul_ne_zero (by omega) z
 unfold low
 rw [e,if_neg nz,if_neg z,List.map_map]
 refine List.map_congr_left fun n _=>?_
 show k*n / (k*gl ns 0)=n / gl ns 0
 exact Int.mul_ediv_mul_of_pos _ _ h
theorem ad7:∀ (ns:List Int) (g:Int),gl ns g ∣ g∧∀ n∈ns,gl ns g ∣ n
 | [],g=>⟨Int.dvd_refl g,fun _ h=>nomatch h⟩
 | m :: r,g=>by
  obtain ⟨h1,h2⟩:=ad7 r ((Int.gcd g m:Nat):Int)
  refine ⟨Int.dvd_trans h1 (Int.gcd_dvd_left ..),fun n hn=>?_⟩
  rcases List.mem_cons.mp hn with q | q
  ·subst q
   exact Int.dvd_trans h1 (Int.gcd_dvd_right ..)
  ·exact h2 n q
theorem amw {ns:List Int} (h:gl ns 0=0):∀ n∈ns,n=0:=fun n hn=>by
 have:=(ad7 ns 0).2 n hn
 rw [h] at this
 exact Int.zero_dvd.mp this
theorem ajS {ns:List Int} {n:Int} (hn:n∈ns) (h:n≠0):gl ns 0≠0:=fun z=>h (amw z n hn)
theorem aim {ns:List Int} {n:Int} (hn:n∈ns) (h:n≠0):0 < gl ns 0:=by
 have h1:=anE ns 0 (Int.le_refl 0)
 have h2:=ajS hn h
 omega
theorem ahM {ns:List Int} {n:Int} (hn:n∈ns) (h:n≠0):low ns=ns.map (· / gl ns 0):=by
 unfold low
 rw [if_neg (ajS hn h)]
theorem Bd.gcd {k:Nat} {a b:Int} (h:Bd k a) (g:Bd k b):Bd k (Int.gcd a b:Nat):=by
 unfold Bd at *
 rw [Int.natAbs_natCast]
 rcases Nat.eq_zero_or_pos a.natAbs with z | z
 ·have:a=0:=by omega
  subst this
  rw [Int.gcd_zero_left]
  exact g
 ·exact Nat.lt_of_le_of_lt (Nat.gcd_le_left _ z) h
theorem amq {k:Nat}:∀ {ns:List Int} {g:Int},Bd k g→(∀ n∈ns,Bd k n)→Bd k (gl ns g)
 | [],_,h,_=>h
 | n :: r,g,h,hn=>by
  show Bd k (gl r _)
  exact amq (ns:=r) (h.gcd (hn n List.mem_cons_self)) fun m hm=>hn m (List.mem_cons_of_mem _ hm)
theorem am2 {k:Nat} {ns:List Int} (h:∀ n∈ns,Bd k n):∀ n∈low ns,Bd k n:=fun n hn=>by
 unfold low at hn
 by_cases c:gl ns 0=0
 ·rw [if_pos c] at hn
  exact h n hn
 ·rw [if_neg c] at hn
  obtain ⟨m,hm,rfl⟩:=List.mem_map.mp hn
  refine (h m hm).le ?_
  have d:=(ad7 ns 0).2 m hm
  obtain ⟨q,e⟩:=d
  rw [e,Int.mul_ediv_cancel_left _ c,Int.natAbs_mul]
  exact Nat.le_mul_of_pos_left _ (by omega)
def fr (t b:Int):List Int:=if b < 0 then low [0 - t,0 - b] else low [t,b]
theorem mem2 (a b:Int):b∈[a,b]:=List.mem_cons_of_mem _ List.mem_cons_self
theorem am3 {t b:Int} (h:b≠0):∃ p q:Int,fr t b=[p,q]∧0 < q∧p*b=t*q:=by
 have go:∀ {t b:Int},0 < b→∃ p q:Int,low [t,b]=[p,q]∧0 < q∧p*b=t*q:=fun {t b} hb=>by
  have nz:b≠0:=by omega
  have gp:=aim (mem2 t b) nz
  refine ⟨t / gl [t,b] 0,b / gl [t,b] 0,ahM (mem2 t b) nz,?_,?_⟩
  ·obtain ⟨m,e⟩:=(ad7 [t,b] 0).2 b (mem2 t b)
   have:b / gl [t,b] 0=m:=by
    conv=>lhs; lhs; rw [e]
    exact Int.mul_ediv_cancel_left _ (by omega)
   rw [this]
   have hm:0 < m*gl [t,b] 0:=by rw [Int.mul_comm,← e]; exact hb
   exact Int.pos_of_mul_pos_left hm gp
  ·obtain ⟨m,e⟩:=(ad7 [t,b] 0).2 b (mem2 t b)
   obtain ⟨n,f⟩:=(ad7 [t,b] 0).2 t List.mem_cons_self
   have e1:b / gl [t,b] 0=m:=by
    conv=>lhs; lhs; rw [e]
    exact Int.mul_ediv_cancel_left _ (by omega)
   have e2:t / gl [t,b] 0=n:=by
    conv=>lhs; lhs; rw [f]
    exact Int.mul_ediv_cancel_left _ (by omega)
   rw [e1,e2]
   conv=>lhs; rhs; rw [e]
   conv=>rhs; lhs; rw [f]
   rw [Int.mul_left_comm,Int.mul_assoc]
 unfold fr
 by_cases c:b < 0
 ·rw [if_pos c]
  obtain ⟨p,q,e1,e2,e3⟩:=go (t:=0 - t) (b:=0 - b) (by omega)
  refine ⟨p,q,e1,e2,?_⟩
  rw [Int.zero_sub,Int.zero_sub,Int.mul_neg,Int.neg_mul] at e3
  omega
 ·rw [if_neg c]
  exact go (by omega)
def sg (n:Int):Int:=if 0 < n then 1 else if n < 0 then -1 else 0
theorem ahX {b:Int} (h:b≠0):(0 < b∧sg b=1)∨(b < 0∧sg b=-1):=by
 unfold sg
 by_cases c:0 < b
 ·exact .inl ⟨c,if_pos c⟩
 ·have d:b < 0:=by omega
  exact .inr ⟨d,by rw [if_neg c,if_pos d]⟩
theorem ak5 (b:Int):-(2 ^ 64) < sg b∧sg b < 2 ^ 64:=by
 unfold sg
 split
 ·decide
 ·split <;> decide
theorem ah8 (t b:Int):gl [t,b] 0=(Int.gcd t b:Nat):=by
 show ((Int.gcd ((Int.gcd 0 t:Nat):Int) b:Nat):Int)=_
 rw [Int.gcd_zero_left]
 congr 1
theorem afJ {g n:Int} (h:g≠0):(g*n).fdiv g=n:=by
 rw [Int.fdiv_eq_ediv_of_dvd ⟨n,rfl⟩,Int.mul_ediv_cancel_left _ h]
theorem adz {g n:Int} (h:g≠0):(g*n).fdiv (-1*g)=-n:=by
 have e:g*n=(-1*g)*(-n):=by
  rw [Int.neg_mul,Int.one_mul,Int.neg_mul_neg]
 rw [e]
 exact afJ (by omega)
theorem ajn {t b:Int} (h:b≠0):[t.fdiv (sg b*(Int.gcd t b:Nat)),b.fdiv (sg b*(Int.gcd t b:Nat))]=fr t b:=by
 have gp:=aim (mem2 t b) h
 rw [ah8] at gp
 have gn:((Int.gcd t b:Nat):Int)≠0:=by omega
 obtain ⟨n,en⟩:=Int.gcd_dvd_left (a:=t) (b:=b)
 obtain ⟨m,em⟩:=Int.gcd_dvd_right (a:=t) (b:=b)
 have ht:t=((Int.gcd t b:Nat):Int)*n:=en
 have hb:b=((Int.gcd t b:Nat):Int)*m:=em
 generalize hg:((Int.gcd t b:Nat):Int)=g at *
 rcases ahX h with ⟨c,s⟩ | ⟨c,s⟩
 ·rw [s,Int.one_mul]
  have e1:fr t b=[t / g,b / g]:=by
   unfold fr
   rw [if_neg (by omega),ahM (mem2 t b) h,ah8,hg]
   rfl
  have e2:t.fdiv g=t / g:=Int.fdiv_eq_ediv_of_dvd ⟨n,ht⟩
  have e3:b.fdiv g=b / g:=Int.fdiv_eq_ediv_of_dvd ⟨m,hb⟩
  rw [e1,e2,e3]
 ·rw [s]
  have e1:fr t b=[(0 - t) / g,(0 - b) / g]:=by
   unfold fr
   rw [if_pos c,ahM (mem2 (0 - t) (0 - b)) (by omega),ah8,Int.zero_sub,Int.zero_sub,Int.neg_gcd,Int.gcd_neg,hg]
   rfl
  have e2:t.fdiv (-1*g)=-n:=by
   conv=>lhs; lhs; rw [ht]
   exact adz gn
  have e3:b.fdiv (-1*g)=-m:=by
   conv=>lhs; lhs; rw [hb]
   exact adz gn
  have e4:(0 - t) / g=-n:=by
   rw [ht,Int.zero_sub,← Int.mul_neg,Int.mul_ediv_cancel_left _ gn]
  have e5:(0 - b) / g=-m:=by
   rw [hb,Int.zero_sub,← Int.mul_neg,Int.mul_ediv_cancel_left _ gn]
  rw [e1,e2,e3,e4,e5]
theorem ajy (n:Int):∀ (l:List Int) (g:Int),gl (l++[n]) g=(Int.gcd (gl l g) n:Nat)
 | [],g=>rfl
 | m :: r,g=>ajy n r _
theorem ahJ {k m:Int} (hk:0 < k) (hm:0 < m) {A B:List Int} (hA:gl A 0≠0) (e:A.map (k*·)=B.map (m*·)):low A=low B:=by
 have hB:gl B 0≠0:=fun z=>by
  have h:=agb k A
  rw [e,agb m B,z,Int.mul_zero] at h
  have:(k.natAbs:Int)*gl A 0≠0:=Int.mul_ne_zero (by omega) hA
  exact this h.symm
 rw [← agB hk A hA,e,agB hm B hB]
theorem alt (b:Int):∀ (ns:List Int) (g:Int),gl ns (Int.gcd g b:Nat)=(Int.gcd (gl ns g) b:Nat)
 | [],_=>rfl
 | n :: r,g=>by
  show gl r ((Int.gcd ((Int.gcd g b:Nat):Int) n:Nat):Int)=((Int.gcd (gl r _) b:Nat):Int)
  rw [← alt b r,Int.gcd_assoc,Int.gcd_comm b n,← Int.gcd_assoc]
theorem ahy {ns:List Int} {b:Int} (hb:0 < b):gl (ns++[b]) 0=gl ns b:=by
 rw [ajy,← alt,Int.gcd_zero_left]
 congr 1
 omega
theorem acP (ns:List Int) (b:Int):b∈ns++[b]:=List.mem_append_right _ List.mem_cons_self
theorem anO {ns:List Int} {b:Int} (hb:0 < b):low (ns++[b])=(ns.map fun n=>n.fdiv (gl ns b))++[b.fdiv (gl ns b)]∧0 < gl ns b:=by
 have gp:=aim (acP ns b) (by omega)
 rw [ahy hb] at gp
 refine ⟨?_,gp⟩
 rw [ahM (acP ns b) (by omega),ahy hb,List.map_append]
 have e:∀ n:Int,n / gl ns b=n.fdiv (gl ns b):=fun n=>(Int.fdiv_eq_ediv_of_nonneg n (Int.le_of_lt gp)).symm
 simp only [e,List.map_cons,List.map_nil]
theorem alu (ns:List Int) {b:Int} (hb:0 < b):∃ (zs:List Int) (z g:Int),low (ns++[b])=zs++[z]∧0 < g∧0 < z∧ns=zs.map (g*·)∧b=g*z∧zs.length=ns.length:=by
 obtain ⟨e,gp⟩:=anO (ns:=ns) hb
 have dv:=ad7 (ns++[b]) 0
 rw [ahy hb] at dv
 have ex:∀ n∈ns++[b],gl ns b*n.fdiv (gl ns b)=n:=fun n hn=>by
  obtain ⟨q,e⟩:=dv.2 n hn
  conv=>lhs; rhs; rw [e]
  rw [afJ (by omega)]
  exact e.symm
 refine ⟨_,_,gl ns b,e,gp,?_,?_,(ex b (acP ns b)).symm,List.length_map _⟩
 ·have h:=ex b (acP ns b)
  have:0 < b.fdiv (gl ns b)*gl ns b:=by rw [Int.mul_comm,h]; exact hb
  exact Int.pos_of_mul_pos_left this gp
 ·rw [List.map_map]
  conv=>lhs; rw [← List.map_id ns]
  refine List.map_congr_left fun n hn=>?_
  exact (ex n (List.mem_append_left _ hn)).symm
theorem amk (ns:List Int) {b:Int} (hb:0 < b):low (low (ns++[b]))=low (ns++[b]):=by
 obtain ⟨zs,z,g,e,hg,hz,e1,e2,_⟩:=alu ns hb
 rw [e]
 refine ahJ (k:=g) (m:=1) hg (by decide) (ajS (acP zs z) (by omega)) ?_ |>.trans e
 rw [List.map_append,← e1]
 show ns++[g*z]=(ns++[b]).map (1*·)
 rw [← e2]
 conv=>lhs; rw [← List.map_id (ns++[b])]
 refine List.map_congr_left fun n _=>?_
 exact (Int.one_mul n).symm
end Bn
namespace Bn
def sm (xs:List Int) (w:Int) (ys:List Int) (v:Int):List Int:=List.zipWith (fun x y=>x*v+y*w) xs ys
end Bn
namespace L2
open PySem PySem.Spec PyProof.Rows Bn
section
variable {X:Cx}
theorem ajq {k:Nat} {i:Int} (h:Bd k i):Builtin.Int.intBits i≤k:=by
 unfold Builtin.Int.intBits
 split
 ·exact Nat.zero_le _
 ·rename_i c
  have z:i.natAbs≠0:=by
   intro q
   have:i=0:=by omega
   subst this
   exact c rfl
  have:=(Nat.log2_lt z).mpr h
  omega
def ahi (_ j:Int):Prop:=j≠0∧Bd 8000 j
theorem ac4:OpR X (binaryOp .FloorDiv) (rI ahi fun i j=>.int (i.fdiv j)) :=
 opI fun _ _ _ _ _ _ _ hc q=>floordiv_int hc.1 q (.inl (PyProof.noPylong_of_log2 (Nat.lt_trans (hc.2.log (by decide)) (by decide))))
theorem PS.imp {st:Stmt} {t t':TS} (h:PS X st t) (i:∀ D σ H,t' D σ H→t D σ H):PS X st t':=fun pins s σ H D I q=>h pins s σ H D I (i D σ H q)
theorem PSs.imp {st:List Stmt} {t t':TS} (h:PSs X st t) (i:∀ D σ H,t' D σ H→t D σ H):PSs X st t':=fun pins s σ H D I q=>h pins s σ H D I (i D σ H q)
theorem PE.imp {e:Expr} {t t':TE} (h:PE X e t) (i:∀ σ H Q,t' σ H Q→t σ H Q):PE X e t':=fun pins s σ H Q I q=>h pins s σ H Q I (i σ H Q q)
theorem PT.imp {e:Expr} {t t':TT} (h:PT X e t) (i:∀ σ H Q,t' σ H Q→t σ H Q):PT X e t':=fun pins s σ H Q I q=>h pins s σ H Q I (i σ H Q q)
theorem Inv.turnedNew {pins:List (Addr × Obj)} {σ:St} {H:Hp} {s:Shared} {h':Heap} {t':Nat} {ch:List Addr} {a:Addr} {o:HO} (I:Inv X pins σ H s) (hf:∀ b∈ch,FpOk X pins H b)
  (k:∀ b u,b ∉ ch→s.heap.get? b=some u→h'.get? b=some u) (hp:s.heap.objs.size≤a) (new:acH X.prog X.w (upd H a o) h' a o) :
  Inv X pins σ (upd H a o) { s with heap:=h',toks:=t' }:=by
 have hn:H a=none:=I.hok.fresh hp
 have nch:∀ b u,H b=some u→b ∉ ch:=fun b u e z=>by
  rw [(hf b z).1] at e
  cases e
 have nea:∀ b u,H b=some u→b≠a:=fun b u e=>aaV e hn
 refine I.step (g':=s.gens) (d':=s.drawn) (ch:=ch) (fun b hb=>?_) (fun b u _ _ hc e _=>k b u hc e) (fun b u _ _ hc e _=>⟨u.slots,k b u hc e⟩) (fun b u _ e n=>?_)
  (fun b u hc e=>⟨u,k b u hc e⟩) (fun b xs e=>?_) (fun b u v e=>?_) (fun b ps e=>⟨#[],?_⟩) (fun m hm=>?_) (fun b u e=>?_) I.bare
 ·obtain ⟨_,f1,_,f3,f4,f5⟩:=hf b hb
  exact ⟨f3,f1,f4,f5⟩
 ·rw [aaI (Nat.ne_of_lt (Nat.lt_of_lt_of_le (Heap.lt_size e) hp))]
  exact n
 ·rw [aaI (nea b _ e)]
  exact e
 ·rw [aaI (nea b _ e)]
  exact e
 ·rw [aaI (nea b _ e),e]
  simp
 ·obtain ⟨ob,es,ep,ho,r⟩:=hm
  exact ⟨ob,es,ep,k _ ob (fun z=>(hf _ z).2.1 rfl) ho,r⟩
 ·by_cases hb:b=a
  ·subst hb
   rw [abB] at e
   cases e
   exact new
  ·rw [aaI hb] at e
   refine (I.hok b u e).stay (fun c v hc q=>k c v ?_ q) (fun c q=>?_) fun c xs q=>?_
   ·rcases hc with z | z
    ·rw [z]
     exact nch b u e
    ·exact nch c _ z
   ·rw [aaI (nea c _ q)]
    exact q
   ·rw [aaI (nea c _ q)]
    exact q
theorem Inv.turnedL {pins:List (Addr × Obj)} {σ:St} {H:Hp} {s:Shared} {h':Heap} {t':Nat} {ch:List Addr} (I:Inv X pins σ H s) (hf:∀ b∈ch,FpOk X pins H b)
  (k:∀ b u,b ∉ ch→s.heap.get? b=some u→h'.get? b=some u):Inv X pins σ H { s with heap:=h',toks:=t' }:=by
 have nch:∀ b u,H b=some u→b ∉ ch:=fun b u e z=>by
  rw [(hf b z).1] at e
  cases e
 refine I.step (g':=s.gens) (d':=s.drawn) (ch:=ch) (fun b hb=>?_) (fun b u _ _ hc e _=>k b u hc e) (fun b u _ _ hc e _=>⟨u.slots,k b u hc e⟩) (fun b u _ e n=>n)
  (fun b u hc e=>⟨u,k b u hc e⟩) (fun b xs e=>e) (fun b u v e=>e) (fun b ps e=>⟨#[],?_⟩) (fun m hm=>?_) (fun b u e=>?_) I.bare
 ·obtain ⟨_,f1,_,f3,f4,f5⟩:=hf b hb
  exact ⟨f3,f1,f4,f5⟩
 ·rw [e]
  simp
 ·obtain ⟨ob,es,ep,ho,r⟩:=hm
  exact ⟨ob,es,ep,k _ ob (fun z=>(hf _ z).2.1 rfl) ho,r⟩
 ·refine (I.hok b u e).stay (fun c v hc q=>k c v ?_ q) (fun c q=>q) fun c xs q=>q
  rcases hc with z | z
  ·rw [z]
   exact nch b u e
  ·exact nch c _ z
end
def Ite (K : PySem.W.Frag) (a : Addr) : It :=
  ⟨fun i H => ∃ xs x, SqL K H a xs ∧ xs[i]? = some x,
   fun i H x H' => ∃ p y, H p = none ∧ x = .ref p ∧ H' = upd H p (.tup [.int i, y]) ∧ ∀ xs, SqL K H a xs → xs[i]? = some y,
   fun i H => ∃ xs, SqL K H a xs ∧ xs.length ≤ i⟩
theorem ajp {P:Program} {w:World} {K:PySem.W.Frag} {elts:List Expr} {x1:Nat} {tp:Pos} (a e it:Addr) (hne:e≠it) :
  Turn P w K (.Tuple elts x1 tp) (Ite K a) [e,it] e (fun i h=>(∃ old,IsEnum h e it (i:Int) old)∧h.IsListIter it a i) where
 mem:=by simp
 obj:=fun i h st b hb=>by
  obtain ⟨⟨old,q⟩,o,e1,c,d⟩:=st
  rcases List.mem_cons.mp hb with z | z
  ·subst z
   exact ⟨_,q,fun v z=>nomatch z⟩
  ·have z':b=it:=by simpa using z
   subst z'
   exact ⟨o,e1,fun v z=>by rw [d] at z; cases z⟩
 keep:=fun i h h' st k=>⟨let ⟨old,q⟩:=st.1; ⟨old,k e (by simp) _ q⟩,st.2.at fun o q=>k it (by simp) o q⟩
 item:=by
  intro X hP hw hK hc i pins s σ H E I hf st hg
  subst hP hw hK
  obtain ⟨xs,x,hq,hx⟩:=hg
  obtain ⟨its,rv,pl,hz⟩:=I.list hq
  obtain ⟨u,hu,ru⟩:=rv.get hx
  obtain ⟨⟨old,he⟩,hit⟩:=st
  refine wpAny_pyNext_enum_item he hit pl.isList (x:=u) (by simpa using hu) hne fun h1 ho1 hit1 ht1 hs1 hk1=>⟨_,rfl,?_⟩
  have lt1:e < s.heap.objs.size:=Heap.lt_size he
  refine wpAny_letOwnedTupleGo_enum (s:={ s with heap:=h1,toks:=s.toks+1 }) ho1 fun h2 he2 sb2=>?_
  have ht2:h2.get? s.heap.objs.size=some { cls:=.type "tuple",data:=.seq #[.int i s.toks,u] }:=(sb2.2 _ (Nat.ne_of_gt lt1)).trans ht1
  have I2:Inv X pins σ (upd H s.heap.objs.size (.tup [.int i,x])) { s with heap:=h2,toks:=s.toks+1 } :=
   I.turnedNew hf (fun b o hb q=>(sb2.2 b (fun z=>hb (by simp [z]))).trans (hk1 b o (fun z=>hb (by simp [z])) (fun z=>hb (by simp [z])) q)) (Nat.le_refl _)
    ⟨by show 2≤sizeLine; decide,[.int i s.toks,u],.cons ⟨_,rfl⟩ (.cons ru .nil),⟨_,ht2,rfl,_,rfl⟩⟩
  refine ⟨.ref s.heap.objs.size,_,I2,rfl,⟨_,x,I.hok.fresh (Nat.le_refl _),rfl,rfl,fun ys hy=>by rw [I.list_inj hy hq]; exact hx⟩,⟨⟨_,by simpa using he2⟩,hit1.at fun o q=>(sb2.2 it hne.symm).trans q⟩,fun b hb=>?_⟩
  have hb':=(hf b hb).1
  have lt:b≠s.heap.objs.size:=by
   rcases List.mem_cons.mp hb with z | z
   ·subst z
    exact Nat.ne_of_lt lt1
   ·have z':b=it:=by simpa using z
    subst z'
    obtain ⟨o,q,_⟩:=hit
    exact Nat.ne_of_lt (Heap.lt_size q)
  rw [aaI lt]
  exact hb'
 done:=by
  intro X hP hw hK hc i pins s σ H E I hf st hg
  subst hP hw hK
  obtain ⟨xs,hq,hx⟩:=hg
  obtain ⟨its,rv,pl,hz⟩:=I.list hq
  obtain ⟨⟨old,he⟩,hit⟩:=st
  have hl:=rv.length
  exact wpAny_pyNext_enum_end (I.ok.hd hc) he hit pl.isList (by simp; omega) fun h' eb=>⟨rfl,I.turnedL (t':=s.toks) hf fun b o hb q=>eb b o (fun z=>hb (by simp [z])) q⟩
 self:=fun _ _ _ _ _ st h=>let ⟨_,q⟩:=st.1; wpAny_pyIter_enum q h
section
variable {X:Cx} {elts:List Expr} {x1:Nat} {tp:Pos}
def aov (K:PySem.W.Frag) (tl:TA):TI:=fun σ H R=>tl σ H fun vs H1=>∃ a,vs=[.ref a]∧(∃ xs,SqL K H1 a xs)∧R (Ite K a) H1
theorem amp {l:Expr} {tl:TA} {p pos:Pos} (hg:Gl X "enumerate") (hm:X.mg "enumerate"=none) (hl:PA X [l] tl) (hs:starEach [l] X.env=[(false,eval l X.env)]:=by rfl) :
  PI X (.Tuple elts x1 tp) (.Call (.Name "enumerate" p) [l] [] pos) (aov X.K tl):=by
 intro pins s σ H R I h
 refine Call_ (agX I hg hm boot_enumerate (PyProof.Rows.callWith_type1 (thn (hl pos pins s σ H _ I h) fun us s1 ⟨vs,H1,I1,r1,q1⟩=>?_) hs rfl))
 obtain ⟨a,rfl,⟨xs,hq⟩,q⟩:=q1
 obtain ⟨u,rfl,ru⟩:=aev r1
 cases ru
 obtain ⟨its,rv,pl,hz⟩:=I1.list hq
 refine call_enumerate_list pl.isList fun h' he hit hsz k=>?_
 have I2:Inv X pins σ H1 { s1 with heap:=h' }:=I1.kept (t':=s1.toks) k
 refine wpAny_pyIter_enum (s:={ s1 with heap:=h' }) he ?_
 refine ⟨s1.heap.objs.size+1,[s1.heap.objs.size+1,s1.heap.objs.size],_,_,H1,rfl,I2,ajp a _ _ (Nat.succ_ne_self _),⟨⟨_,he⟩,hit⟩,fun b hb=>?_,q⟩
 have hb':s1.heap.objs.size≤b:=by
  rcases List.mem_cons.mp hb with z | z
  ·rw [z]
   exact Nat.le_succ _
  ·have z':b=s1.heap.objs.size:=by simpa using z
   rw [z']
   exact Nat.le_refl _
 exact I1.fpOk hb' (I1.hok.fresh hb')
end
end L2
namespace L2
open PySem PySem.Spec PyProof.Rows Bn
def adI (env:Env):List (Str × NameKind)→List (Str × Addr)→List (Str × Addr)
 | [],acc=>acc
 | p :: r,acc=>if (p.2 == .free)=true then adI env r ((p.1,(env.cells.lookup p.1).getD 0) :: acc) else adI env r acc
theorem ahs {sc:Scope} {env:Env} (h:∀ p∈sc.names,p.2=.free→∃ c,env.cells.lookup p.1=some c):closureFor sc env=pure (adI env sc.names []):=by
 unfold closureFor
 have go:∀ (l:List (Str × NameKind)) (acc:List (Str × Addr)),(∀ p∈l,p.2=.free→∃ c,env.cells.lookup p.1=some c) →
   (forIn l acc (fun x r=>if (x.2 == NameKind.free)=true then do let a ← cellOf env x.1; pure (ForInStep.yield ((x.1,a) :: r)) else pure (ForInStep.yield r)):Sem _)=pure (adI env l acc):=by
  intro l
  induction l with
  | nil=>intro acc _; rfl
  | cons p r ih =>
   intro acc hp
   rw [List.forIn_cons]
   have hr:=fun acc'=>ih acc' fun q hq=>hp q (List.mem_cons_of_mem _ hq)
   by_cases c:(p.2 == NameKind.free)=true
   ·obtain ⟨a,ea⟩:=hp p List.mem_cons_self (by simpa using c)
    have e1:cellOf env p.1=pure a:=by unfold cellOf; rw [ea]
    rw [if_pos c,e1]
    simp only [pure_bind]
    rw [hr]
    show _=pure (if (p.2 == .free)=true then _ else _)
    rw [if_pos c,ea]
    rfl
   ·rw [if_neg c]
    simp only [pure_bind]
    rw [hr]
    show _=pure (if (p.2 == .free)=true then _ else _)
    rw [if_neg c]
 have e:=go sc.names [] h
 show (forIn sc.names [] _ >>= fun r=>pure r)=_
 rw [bind_pure]
 exact e
theorem aem {env:Env}:∀ (l:List (Str × NameKind)) (acc:List (Str × Addr)),(∀ p∈l,p.2=.free→∃ c,env.cells.lookup p.1=some c) →
  ∀ y c,(adI env l acc).lookup y=some c→acc.lookup y=some c∨env.cells.lookup y=some c
 | [],acc,_,y,c,e=>.inl e
 | p :: r,acc,h,y,c,e=>by
  have hr:∀ q∈r,q.2=.free→∃ c,env.cells.lookup q.1=some c:=fun q hq=>h q (List.mem_cons_of_mem _ hq)
  unfold adI at e
  by_cases k:(p.2 == NameKind.free)=true
  ·rw [if_pos k] at e
   obtain ⟨a,ea⟩:=h p List.mem_cons_self (by simpa using k)
   rcases aem r _ hr y c e with z | z
   ·rw [List.lookup_cons] at z
    cases w:y == p.1 with
    | true =>
     rw [w,ea] at z
     have hy:y=p.1:=by simpa using w
     rw [hy,ea]
     exact .inr z
    | false =>
     rw [w] at z
     exact .inl z
   ·exact .inr z
  ·rw [if_neg k] at e
   exact aem r acc hr y c e
theorem adX {env:Env}:∀ (l:List (Str × NameKind)) (acc:List (Str × Addr)) (y:Str),((∃ c,acc.lookup y=some c)∨(y,NameKind.free)∈l)→∃ c,(adI env l acc).lookup y=some c
 | [],acc,y,h=>by
  rcases h with h | h
  ·exact h
  ·cases h
 | p :: r,acc,y,h=>by
  unfold adI
  by_cases k:(p.2 == NameKind.free)=true
  ·rw [if_pos k]
   refine adX r _ y ?_
   cases w:y == p.1 with
   | true=>exact .inl ⟨_,by rw [List.lookup_cons,w]⟩
   | false =>
    rcases h with ⟨c,h⟩ | h
    ·exact .inl ⟨c,by rw [List.lookup_cons,w]; exact h⟩
    ·rcases List.mem_cons.mp h with z | z
     ·rw [← z] at w
      simp at w
     ·exact .inr z
  ·rw [if_neg k]
   refine adX r _ y ?_
   rcases h with h | h
   ·exact .inl h
   ·rcases List.mem_cons.mp h with z | z
    ·rw [← z] at k
     simp at k
    ·exact .inr z
theorem aez {env:Env}:∀ {names:List (Str × NameKind)} {x:Str},(∀ y∈names,y.2≠.cell) →
  (let l:=(names.map fun (n,k)=>if (k == NameKind.free && env.scope.kind == .function && env.kindOf n == some .cell) then (n,NameKind.cell) else (n,k)).lookup x; l=some .cell∨l=some .free)→(x,NameKind.free)∈names
 | [],x,_,h=>by
  rcases h with h | h <;> cases h
 | (n,k) :: r,x,hc,h=>by
  dsimp only at h
  rw [List.map_cons] at h
  have ih:=@aez env r x fun y hy=>hc y (List.mem_cons_of_mem _ hy)
  have nk:k≠.cell:=hc (n,k) List.mem_cons_self
  by_cases c:(k == NameKind.free && env.scope.kind == .function && env.kindOf n == some .cell)=true
  ·have kf:k=.free:=by
    simp only [Bool.and_eq_true,beq_iff_eq] at c
    exact c.1.1
   dsimp only at h
   rw [if_pos c,List.lookup_cons] at h
   cases w:x == n with
   | true =>
    have hx:x=n:=by simpa using w
    rw [hx,← kf]
    exact List.mem_cons_self
   | false =>
    rw [w] at h
    exact List.mem_cons_of_mem _ (ih h)
  ·dsimp only at h
   rw [if_neg c,List.lookup_cons] at h
   cases w:x == n with
   | true =>
    rw [w] at h
    have hx:x=n:=by simpa using w
    have kf:k=.free:=by
     rcases h with h | h
     ·exact absurd (Option.some.inj h) nk
     ·exact Option.some.inj h
    rw [hx,← kf]
    exact List.mem_cons_self
   | false =>
    rw [w] at h
    exact List.mem_cons_of_mem _ (ih h)
def aba (X:Cx) (sc:Scope) (N:List Str) (C:Addr) (s₀:Shared) (H₀:Hp) (ex:List Addr):Cx where
 prog:=X.prog
 w:=X.w
 K:=X.K
 mg:=X.mg
 base:=X.base
 A:=X.A
 N:=N
 s₀:=s₀
 H₀:=H₀
 env:=compEnvC sc (adI X.env sc.names []) C X.env
 outer:=X.stack
 stack:=X.stack
 ex:=ex
 fn:=fun _=>false
 calm:=X.calm
 pn:=[]
 xe:=fun _ _=>False
def aeL (own:List Str) (cap:List (Nat × Str)) (σ:St):St:=own.map (fun _=>none)++cap.map fun p=>(σ[p.1]?).join
def cmpN (own:List Str) (cap:List (Nat × Str)):List Str:=own++cap.map (·.2)
def cmpW (J:It) (g:TG) (te:TE) (σ₀:St) (H1:Hp) (D:Addr) (Q:VK):Prop :=
 ∃ W:Nat→Nat→St→Hp→List V→Prop,(∃ m,W 0 m σ₀ (upd H1 D (.lst [])) [])∧∀ i m σ H ys,W i m σ H ys→H D=some (.lst ys) ∧
  ((J.stop i H∧Q (.ref D) H)∨(J.go i H∧ys.length < sizeLine∧∀ x H2,J.yld i H x H2→g x σ H2 fun σ3 H3=>te σ3 H3 fun y H4=>H4 D=some (.lst ys)∧∃ m',m' < m∧W (i+1) m' σ3 (upd H4 D (.lst (ys++[y]))) (ys++[y])))
def ahB (own:List Str) (cap:List (Nat × Str)) (wi:TI) (g:TG) (te:TE):TE:=fun σ H Q=>wi σ H fun J H1=>∀ D,H1 D=none→cmpW J g te (aeL own cap σ) H1 D Q
def Nx (n:Nat) (Pv:Nat→St→Hp→List V→Prop) (D:Addr) (i:Nat) (ys:List V) (σ:St) (y:V) (H:Hp):Prop :=
 H D=some (.lst ys)∧∃ m,m < n - i∧(m=n - (i+1)∧i+1≤n∧Pv (i+1) σ (upd H D (.lst (ys++[y]))) (ys++[y]))
theorem an1 {n:Nat} {Pv:Nat→St→Hp→List V→Prop} {D:Addr} {i:Nat} {ys:List V} {σ:St} {y:V} {H:Hp} (h:i < n) (hD:H D=some (.lst ys)) (p:Pv (i+1) σ (upd H D (.lst (ys++[y]))) (ys++[y])):Nx n Pv D i ys σ y H :=
 ⟨hD,n - (i+1),by omega,rfl,h,p⟩
theorem ajm {J:It} {g:TG} {te:TE} {σ₀:St} {H1:Hp} {D:Addr} {Q:VK} (n:Nat) (hn:n≤sizeLine) (Pv:Nat→St→Hp→List V→Prop) (h0:Pv 0 σ₀ (upd H1 D (.lst [])) [])
  (hl:∀ i σ H ys,Pv i σ H ys→ys.length=i∧H D=some (.lst ys)) (hgo:∀ i σ H ys,i < n→Pv i σ H ys→J.go i H)
  (hs:∀ i σ H ys x H2,i < n→Pv i σ H ys→J.yld i H x H2→g x σ H2 fun σ3 H3=>te σ3 H3 fun y H4=>Nx n Pv D i ys σ3 y H4)
  (hd:∀ σ H ys,Pv n σ H ys→J.stop n H∧Q (.ref D) H):cmpW J g te σ₀ H1 D Q:=by
 refine ⟨fun i m σ H ys=>m=n - i∧i≤n∧Pv i σ H ys,⟨n,rfl,Nat.zero_le _,h0⟩,?_⟩
 rintro i m σ H ys ⟨rfl,hi,p⟩
 obtain ⟨l1,l2⟩:=hl i σ H ys p
 refine ⟨l2,?_⟩
 by_cases hlt:i < n
 ·exact .inr ⟨hgo i σ H ys hlt p,by omega,fun x H2 y=>hs i σ H ys x H2 hlt p y⟩
 ·have e:i=n:=by omega
  subst e
  exact .inl (hd σ H ys p)
section
variable {prog:Program} {w:World} {A:Around} {R:Result→Shared→Prop} {s:Shared}
theorem ai3 {elt target iter:Expr} {sc:Scope} {pos:Pos} {it acc:Value} {env:Env} (I:Nat→Shared→Prop)
  (turn:∀ n s,I n s→wpAny (model prog w) A (pyNext it) (fun r s1=>match r with
   | none=>R (.ok .next) s1
   | some v=>wpAny (model prog w) A (letOwnedTupleGo target it v) (fun _ s2=>wpAny (model prog w) A (assign target env v) (fun _ s3=>wpAny (model prog w) A (eval elt env)
     (fun x s4=>wpAny (model prog w) A (call (.builtin "list.append") [acc,x]) (fun _ s5=>∃ m,m < n∧I m s5) (fun _ _=>False) s4) (fun _ _=>False) s3) (fun _ _=>False) s2) (fun _ _=>False) s1) (fun _ _=>False) s)
  (n:Nat) (h:I n s):codeAny (model prog w) A (.compLoop (.ListComp elt [⟨target,iter,[],0⟩] sc pos) 0 it acc env) R s:=by
 refine codeAny_loop rfl I (fun n s hI=>?_) n h
 show wpAny _ _ ((compTurn (.ListComp elt [⟨target,iter,[],0⟩] sc pos) 0 it acc env).onRaise (fun x=>do noteFrame x env; theTreesLotGoes x)) _ _ s
 refine wpAny_noted ?_
 rw [compTurn_list1]
 refine wpAny_bind (wpAny_standAt (wpAny_bind ?_))
 refine wpAny_mono (turn n s hI) (fun r s1 h1=>?_) fun _ _ z=>z.elim
 cases r with
 | none=>exact wpAny_pure h1
 | some v =>
  refine wpAny_bind (wpAny_mono h1 (fun _ s2 h2=>?_) fun _ _ z=>z.elim)
  refine wpAny_bind (wpAny_mono h2 (fun _ s3 h3=>?_) fun _ _ z=>z.elim)
  refine wpAny_bind (wpAny_bind (wpAny_mono h3 (fun x s4 h4=>?_) fun _ _ z=>z.elim))
  refine wpAny_bind (wpAny_mono h4 (fun _ s5 h5=>?_) fun _ _ z=>z.elim)
  exact wpAny_pure (wpAny_pure ⟨rfl,h5⟩)
end
structure adH (X:Cx) (sc:Scope) (own:List Str) (cap:List (Nat × Str)):Prop where
 kind:sc.kind=.function
 names:∀ y∈sc.names,y.2=.local→sc.names.lookup y.1=some .local
 nocell:∀ y∈sc.names,y.2≠.cell
 free:∀ y∈sc.names,y.2=.free→X.env.kindOf y.1=some .cell
 at':∀ p∈cap,X.N[p.1]?=some p.2
 cap:∀ p∈cap,sc.names.lookup p.2=some .free
section
variable {X:Cx} {sc:Scope} {own:List Str} {cap:List (Nat × Str)} {pins:List (Addr × Obj)} {σ:St} {H:Hp} {s:Shared}
theorem adH.has (k:adH X sc own cap) (ok:X.Ok):∀ p∈sc.names,p.2=.free→∃ c,X.env.cells.lookup p.1=some c:=fun p hp e=>ok.has p.1 (.inl (k.free p hp e))
theorem ae5 {env:Env}:∀ {names:List (Str × NameKind)} {x:Str},env.scope.kind=.function→names.lookup x=some .free→env.kindOf x=some .cell →
  (names.map fun (n,k)=>if (k == NameKind.free && env.scope.kind == .function && env.kindOf n == some .cell) then (n,NameKind.cell) else (n,k)).lookup x=some .cell
 | [],x,_,h,_=>by cases h
 | (n,k) :: r,x,hk,h,hx=>by
  rw [List.map_cons]
  dsimp only
  rw [List.lookup_cons] at h
  cases w:x == n with
  | true =>
   rw [w] at h
   have e:x=n:=by simpa using w
   have kf:k=.free:=Option.some.inj h
   have c:(k == NameKind.free && env.scope.kind == .function && env.kindOf n == some .cell)=true:=by
    rw [kf,hk,← e,hx]
    decide
   rw [if_pos c,List.lookup_cons,w]
  | false =>
   rw [w] at h
   have ih:=@ae5 env r x hk h hx
   by_cases c:(k == NameKind.free && env.scope.kind == .function && env.kindOf n == some .cell)=true
   ·rw [if_pos c,List.lookup_cons,w]
    exact ih
   ·rw [if_neg c,List.lookup_cons,w]
    exact ih
theorem Inv.cmp (k:adH X sc own cap) {h4:Heap} {fp:List Addr} {m:Str→Option Value} {t':Nat} (I:Inv X pins σ H s) (hf:∀ b∈fp,FpOk X pins H b) (hlt:∀ b∈fp,b < s.heap.objs.size) (hns:h4.Ns s.heap.objs.size m)
  (kp:∀ b o,s.heap.get? b=some o→h4.get? b=some o):Inv (aba X sc (cmpN own cap) s.heap.objs.size s H fp) [] (aeL own cap σ) H { s with heap:=h4,toks:=t' }:=by
 have hcl:∀ y c,(adI X.env sc.names []).lookup y=some c→X.env.cells.lookup y=some c:=fun y c e=>by
  rcases aem sc.names [] (k.has I.ok) y c e with z | z
  ·cases z
  ·exact z
 have nst:∀ b∈fp,b ∉ frs X.stack:=fun b hb z=>by
  rcases List.mem_cons.mp (I.stkSub b z) with e | e
  ·exact (hf b hb).2.1 e
  ·exact (hf b hb).2.2.1 e
 refine ⟨⟨I.ok.mod,k.kind,I.ok.glob,I.ok.blt,Nat.le_refl _,fun x y c h1 h2=>I.ok.inj x y c (hcl x c h1) (hcl y c h2),fun x hx=>?_,fun x c e=>(nomatch e),I.ok.hd,I.ok.frames,.inl rfl,fun b hb=>⟨Nat.ne_of_lt (hlt b hb),fun x c e=>(hf b hb).2.2.2.2.1 x c (hcl x c e)⟩,
  I.bs,Nat.le_trans I.ok.bsz I.sz,fun b o e hb=>?_,nst,I.stack,I.stkFree⟩,rfl,I.bare,Un.kept kp,⟨m,hns,fun i x v h1 h2 h3=>?_⟩,fun x c e=>?_,I.hok.fresh (Nat.le_refl _),fun x c e=>I.freeC x c (hcl x c e),fun p hp=>absurd (show p∈([]:List (Addr × Obj)) from hp) (by simp),I.hok.kept kp,?_⟩
 ·exact adX sc.names [] x (.inr (aez k.nocell hx))
 ·rcases (hf b hb).2.2.2.1 with z | z
  ·exact I.ok.noex b o e z
  ·exact absurd (Nat.lt_of_lt_of_le (Heap.lt_size (I.ok.bs b o e).1) z) (Nat.lt_irrefl _)
 ·have hN:(cmpN own cap)[i]?=some x:=h1
  unfold cmpN at hN
  unfold aeL at h2
  by_cases hi:i < own.length
  ·rw [List.getElem?_append_left (by simpa using hi),List.getElem?_map] at h2
   cases e:own[i]? with
   | none=>rw [e] at h2; cases h2
   | some z=>rw [e] at h2; cases h2
  ·rw [List.getElem?_append_right (by simpa using hi),List.getElem?_map,List.length_map] at h2
   rw [List.getElem?_append_right (by omega),List.getElem?_map] at hN
   cases e:cap[i - own.length]? with
   | none=>rw [e] at h2; cases h2
   | some p =>
    rw [e] at h2 hN
    have hp:p∈cap:=List.mem_of_getElem? e
    have hx:p.2=x:=Option.some.inj hN
    have hv:(σ[p.1]?).join=some v:=Option.some.inj h2
    have hv':σ[p.1]?=some (some v):=by
     cases e2:σ[p.1]? with
     | none=>rw [e2] at hv; cases hv
     | some z=>rw [e2] at hv; exact congrArg some hv
    have fr:=k.cap p hp
    have kc:X.env.kindOf p.2=some .cell:=k.free (p.2,.free) (PySem.mem_of_lookup fr) rfl
    obtain ⟨m0,_,hl⟩:=I.loc
    obtain ⟨u,ru,lk⟩:=hl p.1 p.2 v (k.at' p hp) hv' (.inr (.inl kc))
    refine ⟨u,ru,?_⟩
    rcases lk with ⟨k1,_⟩ | ⟨_,c,ec,cell⟩
    ·rw [kc] at k1
     cases k1
    ·rw [← hx]
     obtain ⟨c',ec'⟩:=adX (env:=X.env) sc.names [] p.2 (.inr (PySem.mem_of_lookup fr))
     have:=(hcl _ _ ec').symm.trans ec
     cases this
     obtain ⟨o,ho,hd⟩:=cell
     exact .inr ⟨.inl (ae5 I.ok.kind fr kc),c,ec',o,kp c o ho,hd⟩
 ·obtain ⟨v,o,ho,hd⟩:=I.cell x c (hcl x c e)
  exact ⟨v,o,kp c o ho,hd⟩
 ·unfold aeL
  show _=(cmpN own cap).length
  unfold cmpN
  rw [List.length_append,List.length_append,List.length_map,List.length_map,List.length_map]
theorem Inv.uncmp {s3 s':Shared} {H3 H':Hp} {N:List Str} {σ':St} {C:Addr} {fp:List Addr} {pl:List (Addr × Obj)} (I:Inv X pins σ H s) (hf:∀ b∈fp,FpOk X pins H b) (u:Un (frs X.stack) fp H H3 s.heap s3.heap) (os:s3.os=s.os)
  (J:Inv (aba X sc N C s3 H3 fp) pl σ' H' s'):Inv X pins σ H' s':=by
 have os':s'.os=s.os:=(show s'.os=s3.os from J.os).trans os
 refine I.call' (ch:=fp) os' (u.trans J.base) J.hok J.bare fun b hb=>?_
 obtain ⟨_,f1,_,f3,f4,f5⟩:=hf b hb
 exact ⟨f3,f1,f4,f5⟩
end
end L2
namespace L2
open PySem PySem.Spec PyProof.Rows Bn
section
variable {X:Cx} {sc:Scope} {own:List Str} {cap:List (Nat × Str)} {pins:List (Addr × Obj)} {σ:St} {H:Hp} {s:Shared} {elt target iter:Expr} {pos pos':Pos} {wi:TI} {g:TG} {te:TE} {Q:VK}
theorem agC {use:Option (Value→Sem Unit)} {Qf:Value→Shared→Prop} (k:adH X sc own cap) (hi:PI X target iter wi) (hc:X.calm=true)
  (hg:∀ C s₀ H₀ ex,PG (aba X sc (cmpN own cap) C s₀ H₀ ex) target g) (he:∀ C s₀ H₀ ex,PE (aba X sc (cmpN own cap) C s₀ H₀ ex) elt te) (I:Inv X pins σ H s) (h:ahB own cap wi g te σ H Q)
  (fin:∀ D C s' H' m,Inv X pins σ H' s'→FpOk X pins H' C→s'.heap.Ns C m→Q (.ref D) H'→compPost (model X.prog X.w) X.A X.xe use Qf (.ref D) C (.ok .next) s')
  (hs:∀ x,foldedSetIterable iter X.env x=pure x) :
  wpAny (model X.prog X.w) X.A (comprehension (.ListComp elt [⟨target,iter,[],0⟩] sc pos) sc X.env pos' (newList []) false (eval iter X.env) use) Qf X.xe s:=by
 refine wpAny_comprehension_free (use:=use) rfl hs (ahs (k.has I.ok)) k.kind k.names ?_
 refine thn (hi pins s σ H _ I h) fun v s1 h1=>thn h1 fun itv s2 h2=>?_
 obtain ⟨it,fp,tn,J,H2,e,I2,T,st2,f2,hW⟩:=h2
 subst e
 refine wpAny_newObj_type (wpAny_newFunctionEnv k.nocell (fun y hy=>nomatch hy) (fun h4 hns hsb=>?_) k.kind)
 have I3:Inv X pins σ (upd H2 s2.heap.objs.size (.lst [])) { s2 with heap:=s2.heap.push { cls:=.type "list",data:=.seq ([]:List Value).toArray },toks:=s2.toks }:=I2.lnew (ys:=[]) (its:=[]) .nil (Nat.zero_le _)
 have hD:H2 s2.heap.objs.size=none:=I2.fresh
 have ltf:∀ b∈fp,b < s2.heap.objs.size:=fun b hb=>by
  obtain ⟨o,ho,_⟩:=T.obj _ _ st2 b hb
  exact Heap.lt_size ho
 have f3:∀ b∈fp,FpOk X pins (upd H2 s2.heap.objs.size (.lst [])) b:=fun b hb=>⟨by rw [aaI (Nat.ne_of_lt (ltf b hb))]; exact (f2 b hb).1,(f2 b hb).2⟩
 have un:Un (frs X.stack) fp H2 (upd H2 s2.heap.objs.size (.lst [])) s2.heap (s2.heap.push { cls:=.type "list",data:=.seq ([]:List Value).toArray }):=Un.laid (fun b u q=>Heap.get?_push_of_some _ q) (Nat.le_refl _) hD
 have kp:∀ b o,(s2.heap.push { cls:=.type "list",data:=.seq ([]:List Value).toArray }).get? b=some o→h4.get? b=some o:=fun b o q=>hsb.extBut b o (Nat.ne_of_lt (Heap.lt_size q)) (Heap.get?_push_of_some _ q)
 have J0:=I3.cmp (t':=s2.toks+([]:List (Str × Value)).length) k f3 (fun b hb=>Nat.lt_of_lt_of_le (ltf b hb) (by rw [Heap.size_push]; exact Nat.le_succ _)) hns kp
 have stat:∀ {H':Hp},(∀ b∈fp,H' b=none)→∀ b∈fp,FpOk (aba X sc (cmpN own cap) (s2.heap.push { cls:=.type "list",data:=.seq ([]:List Value).toArray }).objs.size { s2 with heap:=s2.heap.push { cls:=.type "list",data:=.seq ([]:List Value).toArray },toks:=s2.toks } (upd H2 s2.heap.objs.size (.lst [])) fp) [] H' b:=fun hn b hb =>
  ⟨hn b hb,(J0.ok.exf b hb).1,J0.ok.exfs b hb,.inl hb,(J0.ok.exf b hb).2,fun p hp=>absurd (show p∈([]:List (Addr × Obj)) from hp) (by simp)⟩
 have st4:tn 0 h4:=T.keep _ _ _ st2 fun b hb o q=>kp b o (Heap.get?_push_of_some _ q)
 have fr0:∀ b∈fp,(upd H2 s2.heap.objs.size (.lst [])) b=none:=fun b hb=>(f3 b hb).1
 have loop:codeAny (model X.prog X.w) X.A (.compLoop (.ListComp elt [⟨target,iter,[],0⟩] sc pos) 0 (.ref it) (.ref s2.heap.objs.size) (compEnvC sc (adI X.env sc.names []) (s2.heap.push { cls:=.type "list",data:=.seq ([]:List Value).toArray }).objs.size X.env))
   (compPost (model X.prog X.w) X.A X.xe use Qf (.ref s2.heap.objs.size) (s2.heap.push { cls:=.type "list",data:=.seq ([]:List Value).toArray }).objs.size) { s2 with heap:=h4,toks:=s2.toks+([]:List (Str × Value)).length }:=by
  obtain ⟨W,⟨m0,w0⟩,turn⟩:=hW s2.heap.objs.size hD
  refine ai3 (fun n s'=>∃ i σ' H' ys,Inv (aba X sc (cmpN own cap) (s2.heap.push { cls:=.type "list",data:=.seq ([]:List Value).toArray }).objs.size { s2 with heap:=s2.heap.push { cls:=.type "list",data:=.seq ([]:List Value).toArray },toks:=s2.toks } (upd H2 s2.heap.objs.size (.lst [])) fp) [] σ' H' s'∧tn i s'.heap∧(∀ b∈fp,H' b=none)∧W i n σ' H' ys) ?_ m0
   ⟨0,_,_,[],J0,st4,fr0,w0⟩
  rintro n s5 ⟨i,σ5,H5,ys,I5,st5,fr5,w5⟩
  obtain ⟨hD5,w5⟩:=turn i n σ5 H5 ys w5
  rcases w5 with ⟨stop,qn⟩ | ⟨go,hlt,step⟩
  ·refine thn (T.done (aba X sc (cmpN own cap) (s2.heap.push { cls:=.type "list",data:=.seq ([]:List Value).toArray }).objs.size { s2 with heap:=s2.heap.push { cls:=.type "list",data:=.seq ([]:List Value).toArray },toks:=s2.toks } (upd H2 s2.heap.objs.size (.lst [])) fp) rfl rfl rfl hc i [] s5 σ5 H5 _ I5 (stat fr5) st5 stop) fun r s6 ⟨hr,I6⟩=>?_
   subst hr
   obtain ⟨m,hn,_⟩:=id I6.loc
   exact fin _ _ s6 H5 m (I2.uncmp (s3:={ s2 with heap:=s2.heap.push { cls:=.type "list",data:=.seq ([]:List Value).toArray },toks:=s2.toks }) f2 un rfl I6) (I3.fpOk (Nat.le_refl _) I6.free) hn qn
  ·refine thn (T.item (aba X sc (cmpN own cap) (s2.heap.push { cls:=.type "list",data:=.seq ([]:List Value).toArray }).objs.size { s2 with heap:=s2.heap.push { cls:=.type "list",data:=.seq ([]:List Value).toArray },toks:=s2.toks } (upd H2 s2.heap.objs.size (.lst [])) fp) rfl rfl rfl hc i [] s5 σ5 H5 _ I5 (stat fr5) st5 go) fun r s6 ⟨u,hr,h6⟩=>?_
   subst hr
   refine thn h6 fun _ s7 ⟨x,H7,I7,r7,y7,st7,fr7⟩=>?_
   have I7':=I7.pinned (stat fr7) (T.obj _ _ st7)
   refine thn (hg _ _ _ _ _ s7 σ5 H7 x u _ I7' r7 (step x H7 y7)) fun _ s8 ⟨σ8,H8,I8,q8⟩=>?_
   refine thn (he _ _ _ _ _ s8 σ8 H8 _ I8 q8) fun v9 s9 ⟨y,H9,I9,r9,hD9,m',hm,w9⟩=>?_
   refine thn (adZ _ s9 σ8 H9 (.ref s2.heap.objs.size) [y] (.ref s2.heap.objs.size) [v9] (fun _ H'=>H'=upd H9 s2.heap.objs.size (.lst (ys++[y]))) I9 rfl (.cons r9 .nil) ⟨_,ys,y,rfl,rfl,hD9,hlt,rfl⟩) fun _ s10 ⟨_,H10,I10,_,q10⟩=>?_
   subst q10
   refine ⟨m',hm,i+1,σ8,_,_,I10.unpinned,T.keep _ _ _ st7 fun b hb o q=>(I10.pin (b,o) (List.mem_append_right _ (List.mem_append_right _ (ab1 hb q)))).1,fun b hb=>?_,w9⟩
   obtain ⟨o,q,d⟩:=T.obj _ _ st7 b hb
   exact (I10.pin (b,o) (List.mem_append_right _ (List.mem_append_right _ (ab1 hb q)))).2.1
 exact codeAny_compStart_list loop (T.self _ 0 _ _ _ st4 loop)
theorem al8 (k:adH X sc own cap) (hi:PI X target iter wi) (hc:X.calm=true)
  (hg:∀ C s₀ H₀ ex,PG (aba X sc (cmpN own cap) C s₀ H₀ ex) target g) (he:∀ C s₀ H₀ ex,PE (aba X sc (cmpN own cap) C s₀ H₀ ex) elt te)
  (hs:∀ x,foldedSetIterable iter X.env x=pure x:=by intro _; rfl):PE X (.ListComp elt [⟨target,iter,[],0⟩] sc pos) (ahB own cap wi g te):=by
 intro pins s σ H Q I h
 rw [eval_ListComp]
 refine agC (use:=none) k hi hc hg he I h (fun D C s' H' m I' fC hn q=>?_) hs
 refine ⟨m,hn,fun h' sb=>⟨.ref D,H',?_,rfl,q⟩⟩
 obtain ⟨f0,f1,f2,f3,f4,f5⟩:=fC
 exact I'.turned (t':=s'.toks) (fun b o hb e=>(sb.2 b hb).trans e) f0 f1 f3 f4 f5
theorem al6 {i:Nat} {x:Str} {py spos:Pos} (hN:X.N.Nodup) (hx:X.N[i]?=some x) (hl:Loc X.env.scope x) (k:adH X sc own cap) (hi:PI X target iter wi) (hc:X.calm=true)
  (hg:∀ C s₀ H₀ ex,PG (aba X sc (cmpN own cap) C s₀ H₀ ex) target g) (he:∀ C s₀ H₀ ex,PE (aba X sc (cmpN own cap) C s₀ H₀ ex) elt te)
  (hs:∀ x,foldedSetIterable iter X.env x=pure x:=by intro _; rfl) (hsw:swapsWith (.ListComp elt [⟨target,iter,[],0⟩] sc pos) (some (.Name x py)) spos.line X.env=pure true:=by rfl)
  (hf:X.fn x=true∨X.env.scope.names.lookup x=some .local:=by first | exact .inl rfl | exact .inr rfl | assumption) :
  PS X (.Assign [.Name x py] (.ListComp elt [⟨target,iter,[],0⟩] sc pos) spos) (tAsg (ahB own cap wi g te) (aks i)):=by
 intro pins s σ H D I h
 rw [exec_Assign_Name_used _ _ _ _ hsw]
 refine wpAny_bind (wpAny_standAt (wpAny_bind ?_))
 show wpAny _ X.A (comprehension (.ListComp elt [⟨target,iter,[],0⟩] sc pos) sc X.env _ (newList []) false (eval iter X.env) (some (assign (.Name x py) X.env)) >>= fun _=>pure ()) _ _ s
 refine wpAny_bind (thn (agC (use:=some (assign (.Name x py) X.env)) (Qf:=fun _ s'=>SP X pins D .next s') k hi hc hg he I h (fun B C s' H' m I' fC hn q=>?_) hs) fun _ s' hq=>wpAny_pure (wpAny_pure hq))
 show wpAny _ _ (assign (.Name x py) X.env (.ref B)) _ _ s'
 obtain ⟨o,es,ep,ho,hd,r⟩:=hn
 obtain ⟨f0,f1,f2,f3,f4,f5⟩:=fC
 have I'':Inv X (pins++[(C,o)]) σ H' s':=I'.pins_of fun p hp=>(List.mem_append.mp hp).elim (fun z=>I'.pin p (List.mem_append_right _ z)) fun z=>by
  have e:p=(C,o):=by simpa using z
  subst e
  exact ⟨ho,f0,f1,f2,fun v z=>by rw [hd] at z; cases z⟩
 refine wpAny_assign_Name (ac1 I'' hN hx hl (v:=.ref B) rfl (fun s2 I2=>?_) hf)
 have pC:=I2.pin (C,o) (by simp)
 refine ⟨m,⟨o,es,ep,pC.1,hd,r⟩,fun h' sb=>⟨_,H',?_,q⟩⟩
 exact (I2.unpinned).turned (t':=s2.toks) (fun b o hb e=>(sb.2 b hb).trans e) f0 f1 f3 f4 f5
end
section
variable {X:Cx}
theorem agh (hc:X.calm=true):aeo X (.builtin "all") (fun xs H Q=>∃ (a:Addr) (bs:List Bool),xs=[.ref a]∧SqL X.K H a (bs.map V.bl)∧Q (.bl (bs.all id)) H):=by
 intro pins s σ H xs us Q I r h
 obtain ⟨a,bs,rfl,hq,q⟩:=h
 obtain ⟨u,rfl,ru⟩:=aev r
 cases ru
 obtain ⟨its,rv,pl,hz⟩:=I.list hq
 have hl:bs.length=its.length:=by
  have:=rv.length
  rwa [List.length_map] at this
 refine call_all_walk (wpAny_pyIter_list pl.isList ?_)
 have ha:a < s.heap.objs.size:=by
  obtain ⟨o,ho,_⟩:=pl.isList
  exact Heap.lt_size ho
 refine ⟨_,_,_,_,_,_,fun i=>bs.getD i true,rfl,Walks.list (prog:=X.prog) (w:=X.w) (A:=X.A.in1) (show X.A.in1.handled=none from I.ok.hd hc) s.heap.objs.size a (Nat.ne_of_lt ha) its.toArray,⟨⟨_,Heap.get?_push_size _ rfl,rfl,rfl⟩,Heap.IsList.at pl.isList fun o e=>Heap.get?_push_of_some _ e⟩,fun i v s' Q' E' hv hQ=>?_,fun h' tk kp=>?_⟩
 ·have hv':its[i]?=some v:=by simpa using hv
  have hi:i < bs.length:=by
   have:=(List.getElem?_eq_some_iff.mp hv').1
   omega
  obtain ⟨u,hu,ru⟩:=rv.get (i:=i) (x:=.bl bs[i]) (by rw [List.getElem?_map,List.getElem?_eq_getElem hi]; rfl)
  rw [hv'] at hu
  cases hu
  cases (show v=Value.bool bs[i] from ru)
  have e:bs.getD i true=bs[i]:=by simp [List.getD,hi]
  have hQ':Q' (bs.getD i true) s':=hQ
  rw [e] at hQ'
  exact wpAny_truthy_bool hQ'
 ·have e:(List.range its.toArray.size).all (fun i=>bs.getD i true)=bs.all id:=by
   rw [List.size_toArray,← hl,Bool.eq_iff_iff,List.all_eq_true,List.all_eq_true]
   constructor
   ·intro z b hb
    obtain ⟨i,hi,rfl⟩:=List.mem_iff_getElem.mp hb
    have:=z i (by simpa using hi)
    simpa [List.getD,hi] using this
   ·intro z i hi
    have hi':i < bs.length:=by simpa using hi
    have:=z bs[i] (List.getElem_mem hi')
    simpa [List.getD,hi'] using this
  show EP X pins σ Q (.bool ((List.range its.toArray.size).all fun i=>bs.getD i true)) _
  rw [e]
  have I1:Inv X pins σ H { s with heap:=s.heap.push { cls:=.type "list_iterator",data:=.fields #[.ref a,.int 0 0] },toks:=s.toks }:=I.kept fun b o z=>Heap.get?_push_of_some _ z
  have fp:FpOk X pins H s.heap.objs.size:=I.fpOk (Nat.le_refl _) (I.hok.fresh (Nat.le_refl _))
  obtain ⟨f0,f1,f2,f3,f4,f5⟩:=fp
  exact ⟨.bl (bs.all id),H,I1.turned (fun b o hb z=>kp b o (by simpa using hb) z) f0 f1 f3 f4 f5,rfl,q⟩
end
end L2
namespace L2
open PySem Bn
section
variable {prog:Program} {w:World} {A:Around} {E:Value→Shared→Prop} {s:Shared}
end
section
variable {prog:Program} {w:World} {A:Around} {E:Value→Shared→Prop} {s:Shared} {z TI TO i1 i2:Addr} {fp1 fp2:List Addr} {n1 n2 i:Nat} {P1 P2:Nat→Value→Prop} {S1 S2:Nat→Heap→Prop} {a b:Value}
end
end L2
namespace L2
open PySem Bn
end L2
namespace L2
open PySem PySem.Spec PyProof.Rows Bn
section
variable {X:Cx} {pins:List (Addr × Obj)} {σ:St} {H:Hp} {s:Shared} {a:Addr} {xs ys:List V} {f:Bool}
end
section
variable {X:Cx} {elts:List Expr} {x1:Nat} {tp:Pos}
end
end L2
namespace L2
open PySem PySem.Spec PyProof.Rows Bn
theorem amW (K:PySem.W.Frag):PySem.W.kitOne K (.type "int") (.type "bool")=some false:=by
 unfold PySem.W.kitOne PySem.W.kitCls
 rw [if_neg (by decide)]
 show (if PySem.W.kitMeta "bool"=true then PySem.W.subIn K (.type "int") (.type "bool") else none)=some false
 rw [if_pos (by decide +kernel)]
 show (fastBuiltinMro "int").map (·.contains (.type "bool"))=some false
 decide +kernel
structure FunD (K:PySem.W.Frag) (x qual:Str) (st:Stmt) (f:Addr) (fd:FuncData) (ds:Array Value):Prop where
 ex:∃ (oc:Value) (od:Option Addr) (T:Addr) (oT:Obj) (n:Nat) (kV doc pm:Value) (an:Option Addr) (cdv ct:Value) (osl:Array (Option Value)),
  fd=PySem.W.fnOf x qual (aaz st) (aaw st) (aae st) (.ref T) kV doc pm an cdv ct∧K.lookup f=some ⟨oc,od,.func fd,osl⟩∧PySem.W.codeIn K cdv qual=true∧K.lookup T=some oT∧oT.data=.seq ds n
 kp:PySem.W.keepIn K (.ref f)=true
section
variable {P:Program} {w:World} {K:PySem.W.Frag} {mg:Str→Option Value} {base:Heap}
theorem FunD.binds {x qual:Str} {st:Stmt} {f:Addr} {fd:FuncData} {ds:Array Value} {ps:List Str} {dd:List Value} (F:FunD K x qual st f fd ds)
  (h:∀ (T:Addr) (kV doc pm:Value) (an:Option Addr) (cdv ct:Value) (us:List Value),(us++dd).length=ps.length →
   ∃ k,bindArgs (PySem.W.fnOf x qual (aaz st) (aaw st) (aae st) (.ref T) kV doc pm an cdv ct) ⟨us,[]⟩=seqItems? (.ref T) >>= k∧k (some ds)=pure (ps.zip (us++dd))):ab9 K fd ps dd:=by
 obtain ⟨oc,od,T,oT,n,kV,doc,pm,an,cdv,ct,osl,rfl,lk,hcd,lT,hT⟩:=F.ex
 intro s us hK hl
 obtain ⟨k,h1,h2⟩:=h T kV doc pm an cdv ct us hl
 exact PySem.W.binds_K hK rfl lT hT h1 h2
theorem aju {x qual:Str} {st:Stmt} {f T:Addr} {oT:Obj} {n:Nat} {ds:Array Value} {oc:Value} {od an:Option Addr} {osl:Array (Option Value)} {kV doc pm cdv ct:Value} (l:K.lookup f=some ⟨oc,od,.func (PySem.W.fnOf x qual (aaz st) (aaw st) (aae st) (.ref T) kV doc pm an cdv ct),osl⟩)
  (c:PySem.W.codeIn K cdv qual=true) (k:PySem.W.keepIn K (.ref f)=true) (lT:K.lookup T=some oT) (hT:oT.data=.seq ds n):FunD K x qual st f (PySem.W.fnOf x qual (aaz st) (aaw st) (aae st) (.ref T) kV doc pm an cdv ct) ds :=
 ⟨⟨oc,od,T,oT,n,kV,doc,pm,an,cdv,ct,osl,rfl,l,c,lT,hT⟩,k⟩
end
theorem acz {X:Cx} {sc:Scope} {own:List Str} {cap:List (Nat × Str)} (so:Scope) (N:List Str) (hso:X.env.scope=so) (hN:X.N=N) (kind:sc.kind=.function) (names:∀ y∈sc.names,y.2=.local→sc.names.lookup y.1=some .local)
  (nocell:∀ y∈sc.names,y.2≠.cell) (free:∀ y∈sc.names,y.2=.free→so.names.lookup y.1=some .cell) (at':∀ p∈cap,N[p.1]?=some p.2) (hcap:∀ p∈cap,sc.names.lookup p.2=some .free):adH X sc own cap :=
 ⟨kind,names,nocell,fun y hy e=>by show X.env.scope.names.lookup y.1=_; rw [hso]; exact free y hy e,fun p hp=>by rw [hN]; exact at' p hp,hcap⟩
end L2
namespace L2
open PySem PySem.Spec PyProof.Rows Bn
theorem ahW (n d:Nat):HT.sIx (n+1) d (some (-1))=n:=by
 unfold HT.sIx
 simp
 omega
end L2
namespace L2
open PySem PySem.Spec PyProof.Rows Bn
section
variable {X:Cx}
end
end L2
namespace L2
open PySem PySem.Spec PyProof.Rows Bn
theorem acH.has {P:Program} {w:World} {H:Hp} {h:Heap} {a:Addr} {o:HO} (x:acH P w H h a o):∃ u,h.get? a=some u:=by
 cases o with
 | lst xs=>obtain ⟨_,_,_,_,e⟩:=x; exact ⟨_,e⟩
 | tup xs=>obtain ⟨_,_,_,u,e,_⟩:=x; exact ⟨u,e⟩
 | dK kvs=>obtain ⟨_,_,_,_,o,_,_,e,_⟩:=x; exact ⟨_,e⟩
 | dT kvs=>obtain ⟨_,_,_,_,o,_,_,e,_⟩:=x; exact ⟨_,e⟩
 | set S n=>obtain ⟨o,_,_,_,e,_⟩:=x; exact ⟨_,e⟩
 | ins C dx fs=>obtain ⟨_,_,_,e,_⟩:=x; exact ⟨_,e⟩
 | own y=>exact x
 | xd fs=>obtain ⟨_,⟨_,_,_,e,_⟩,_⟩:=x; exact ⟨_,e⟩
 | rng lo hi=>obtain ⟨_,_,_,e⟩:=x; exact ⟨_,e⟩
 | frz ob u=>obtain ⟨e,_⟩:=x; exact ⟨_,e⟩
 | tbl ps=>exact ⟨_,show h.get? a=some _ from x⟩
 | met f y=>exact ⟨_,show h.get? a=some _ from x⟩
 | ext φ=>exact x.2.1
abbrev acb:List Value:=[.type "ValueError",.type "Exception",.type "BaseException",.type "object"]
theorem ajU {K:PySem.W.Frag} {h:Heap} {C:Addr} {bmB:List Value} {newId:String} (X:K.In h) (q:PySem.W.excIn K C bmB newId=true) :
  ∃ bm N nm qn bs hdct sn sub ab col dd k0 k1 k2 k3 k5 mN,h.get? C=some (excClassObj nm qn C N bs bm hdct sn sub ab col dd k0 k1 k2 k3 k5 newId)∧h.Ns N mN∧mN "__init__"=none∧OwnTail h bmB bm:=by
 unfold PySem.W.excIn at q
 split at q
 ·rename_i dd cd sl ho
  split at q
  ·rename_i C' bm k0 k1 k2 k3 n k5 hm hs
   simp only [Bool.and_eq_true,beq_iff_eq,Bool.not_eq_true'] at q
   obtain ⟨⟨⟨⟨⟨z1,z2⟩,hdel⟩,ht⟩,hok⟩,hni⟩:=q
   subst z1 z2
   obtain ⟨nm,bs,mro,ns,qn,hd,sn,sub,ab,col,del⟩:=cd
   dsimp only at hm hdel hok hni
   subst hm hdel
   have hsl:sl=#[k0,k1,k2,k3,some (.builtin n),k5]:=by
    obtain ⟨l⟩:=sl
    simp only at hs
    rw [hs]
   subst hsl
   refine ⟨bm,ns,nm,qn,bs,hd,sn,sub,ab,col,dd,k0,k1,k2,k3,k5,_,X _ _ ho,.of_isNs (PySem.W.isNs_of_in X hok),PySem.W.nsMap_none_of_in X hok hni,PySem.W.tail_of_in X ht⟩
  ·cases q
 ·cases q
def CX1 (P:Program) (w:World):CXT:=fun outer H s E e s'=>∃ (x C t:Addr) (B:Heap) (H':Hp),e=.ref x∧s'.os=s.os∧AllBare s'.gens∧Un (frs outer) [] H H' s.heap s'.heap∧HOk P w H' s'.heap ∧
 Heap.FlyingW B outer x (.ref C) (.ref t) s'.heap∧(∀ b o,s'.heap.get? b=some o→(∃ u,H' b=some u)∨(∃ o',s.heap.get? b=some o'∧b ∉ frs outer)→B.get? b=some o)∧E (.ref C) none H'
theorem akK {P:Program} {w:World} {K:PySem.W.Frag} {mg:Str→Option Value} {base:Heap} {N:List Str} {qual:Str} {scope:Scope} {f:Addr} {cd:Value} {A:Around} {outer:List Env} {s₀:Shared} {H₀:Hp} {E:XK}
  {x:Str} {C:Addr} {txt:Str} {j:Nat} {np p1 cpos pos:Pos} (hg:Gl (cxOf (CX1 P w) P w K mg base N qual scope f cd A outer s₀ H₀ E) x) (hm:mg x=some (.ref C)) (hx:PySem.W.excIn K C acb "ValueError.__new__"=true)
  (hd:(x == ("__debug__":Str))=false:=by decide) :
  PS (cxOf (CX1 P w) P w K mg base N qual scope f cd A outer s₀ H₀ E) (.Raise (some (.Call (.Name x np) [.Constant (.str txt) j p1] [] cpos)) none pos) (fun _ _ H=>E (.ref C) none H):=by
 intro pins s σ H D I h
 obtain ⟨bm,Nn,nm,qn,bs,hdct,sn,sub,ab,col,dd,k0,k1,k2,k3,k5,mN,hC,hN,hni,T⟩:=ajU I.ok.mod.kin hx
 refine wpAny_Raise_call_subT (C:=C) (nm:=nm) (q:=qn) (N:=Nn) (bs:=bs) (bm:=bm) (hdct:=hdct) (sn:=sn) (sub:=sub) (ab:=ab) (col:=col) (dd:=dd) (k0:=k0) (k1:=k1) (k2:=k2) (k3:=k3) (k5:=k5)
  PySem.F.excBase_ValueError (mN:=mN) (T.hasType (by decide)) (I.ok.hd rfl) rfl hni (afe I hg hm ⟨rfl,?_⟩ hd)
 refine Calls.evalArgs_plain (thn ((adb ahN agS) cpos pins s σ H (fun vs H1=>vs=[.str txt]∧H1=H) I ⟨rfl,rfl⟩) fun us s2 q2=>?_)
 obtain ⟨vs,H2,I2,r2,rfl,rfl⟩:=q2
 have l2:=r2.length
 refine ⟨rfl,by rw [← l2]; show 1≤sizeLine; decide,I2.bk _ _ hC,hN.keeps I2.bk,T.keeps I2.bk,fun h' e made=>?_⟩
 -- the frame is left
 have stk:(cxOf (CX1 P w) P w K mg base N qual scope f cd A outer s₀ H₀ E).stack=envOfC qual scope s₀.heap.objs.size f cd :: outer:=rfl
 have nfr:∀ {b u},H2 b=some u→b ∉ frs (envOfC qual scope s₀.heap.objs.size f cd :: outer):=fun {b u} q z=>by
  rw [I2.stkFree b z] at q
  cases q
 have nL:∀ {b o},s₀.heap.get? b=some o→b ∉ frs outer→b ∉ frs (envOfC qual scope s₀.heap.objs.size f cd :: outer):=fun {b o} q z y=>by
  rcases List.mem_cons.mp (I2.stkSub b y) with g | g
  ·exact absurd (Nat.lt_of_lt_of_le (Heap.lt_size q) I2.ok.above) (by rw [g]; exact Nat.lt_irrefl _)
  ·exact z g
 refine wpAny_leaves_madeW (base:=PySem.W.hideAll s2.heap (frs (envOfC qual scope s₀.heap.objs.size f cd :: outer))) (h:=s2.heap) (s:={ s2 with heap:=h' }) I2.ok.frames rfl (fun b o q=>PySem.W.of_hideAll _ q)
  (PySem.W.funFrames_hide I2.stack fun env he b hb=>List.mem_filterMap.mpr ⟨env,he,hb⟩) made fun h'' t fl tup nb ups=>?_
 have keepB:∀ b o,s2.heap.get? b=some o→b ∉ frs (envOfC qual scope s₀.heap.objs.size f cd :: outer)→h''.get? b=some o:=fun b o q z=>fl.1 b o (PySem.W.hideAll_get _ q z)
 have upS:∀ b o,s2.heap.get? b=some o→(∀ vs,o.data≠.fields vs)→∃ sl,h''.get? b=some { o with slots:=sl }:=fun b o q z=>ups b o (made.keeps b o q) z
 refine ⟨e,C,t,_,H2,rfl,I2.os,I2.bare,⟨fun b o q n hb _=>?_,fun b o q n hb _=>?_,fun b o q n _=>I2.base.free b o q n (by intro z; cases z),fun b o q _=>?_,I2.base.tups,I2.base.frzs,I2.base.tbls⟩,fun b u q=>?_,fl,fun b o q z=>?_,h⟩
 ·exact keepB b o (I2.base.keep b o q n hb (by intro z; cases z)) (nL q hb)
 ·obtain ⟨sl,g⟩:=I2.base.slot b o q n hb (by intro z; cases z)
  obtain ⟨_,o',ho',hd'⟩:=I2.ok.funs.mem hb
  have eo:o'=o:=by
   have ho2:s₀.heap.get? b=some o':=ho'
   rw [q] at ho2
   exact (Option.some.inj ho2).symm
  subst eo
  obtain ⟨sl',g'⟩:=upS b _ g hd'
  exact ⟨sl',g'⟩
 ·obtain ⟨o',g⟩:=I2.base.there b o q (by intro z; cases z)
  by_cases c:b∈frs (envOfC qual scope s₀.heap.objs.size f cd :: outer)
  ·obtain ⟨_,o2,ho2,hd2⟩:=I2.stack.mem c
   obtain ⟨sl,g'⟩:=upS b o2 ho2 hd2
   exact ⟨_,g'⟩
  ·exact ⟨o',keepB b o' g c⟩
 ·refine (I2.hok b u q).stay (fun c v hc g=>keepB c v g ?_) (fun _ g=>g) fun _ _ g=>g
  rcases hc with z | z
  ·rw [z]
   exact nfr q
  ·exact nfr z
 ·have go:∀ {o2},s2.heap.get? b=some o2→b ∉ frs (envOfC qual scope s₀.heap.objs.size f cd :: outer)→(PySem.W.hideAll s2.heap (frs (envOfC qual scope s₀.heap.objs.size f cd :: outer))).get? b=some o:=fun {o2} g n=>by
   have:=keepB b o2 g n
   have q':h''.get? b=some o:=q
   rw [q'] at this
   cases this
   exact PySem.W.hideAll_get _ g n
  rcases z with ⟨u,z⟩ | ⟨o',z,nz⟩
  ·obtain ⟨o2,g⟩:=(I2.hok b u z).has
   exact go g (nfr z)
  ·obtain ⟨o2,g⟩:=I2.base.there b o' z (by intro z; cases z)
   exact go g (nL z nz)
end L2
namespace L2
open PySem PySem.Spec PyProof.Rows Bn
section
variable {X:Cx} {pins:List (Addr × Obj)} {σ:St} {H H':Hp} {s s':Shared}
theorem Inv.flown {B h5:Heap} (I:Inv X pins σ H s) (os:s'.os=s.os) (bare:AllBare s'.gens) (un:Un (frs X.stack) [] H H' s.heap s'.heap) (hok:HOk X.prog X.w H' s'.heap)
  (cov:∀ b o,s'.heap.get? b=some o→(∃ u,H' b=some u)∨(∃ o',s.heap.get? b=some o'∧b ∉ frs X.stack)→B.get? b=some o) (fr:∀ b∈frs X.stack,H' b=none)
  (st:B.StaysIn h5) (up:s'.heap.UpToSlots h5):Inv X pins σ H' { s' with heap:=h5 }:=by
 have nofr:∀ {b u},H' b=some u→b ∉ frs X.stack:=fun {b u} q z=>by
  rw [fr b z] at q
  cases q
 have frame:∀ b∈frs X.stack,∃ o sl,s.heap.get? b=some o∧H b=none∧h5.get? b=some { o with slots:=sl }:=fun b hb=>by
  obtain ⟨_,o,ho,hd⟩:=I.stack.mem hb
  have hn:=I.stkFree b hb
  obtain ⟨sl,g⟩:=un.slot b o ho hn hb (by intro z; cases z)
  obtain ⟨sl',g'⟩:=up b _ g hd
  exact ⟨o,sl',ho,hn,g'⟩
 refine I.call' (s':={ s' with heap:=h5 }) (ch:=[]) os ⟨fun b o q n hb _=>?_,fun b o q n hb _=>?_,un.free,fun b o q _=>?_,un.tups,un.frzs,un.tbls⟩ (fun b u q=>?_) bare fun b z=>nomatch z
 ·exact st b o (cov b o (un.keep b o q n hb (by intro z; cases z)) (.inr ⟨o,q,hb⟩))
 ·obtain ⟨o',sl,g1,_,g2⟩:=frame b hb
  rw [q] at g1
  cases g1
  exact ⟨sl,g2⟩
 ·by_cases c:b∈frs X.stack
  ·obtain ⟨o',sl,_,_,g2⟩:=frame b c
   exact ⟨_,g2⟩
  ·obtain ⟨o',g⟩:=un.there b o q (by intro z; cases z)
   exact ⟨o',st b o' (cov b o' g (.inr ⟨o,q,c⟩))⟩
 ·refine (hok b u q).stay (fun c v hc g=>st c v (cov c v g (.inl ?_))) (fun _ g=>g) fun _ _ g=>g
  rcases hc with z | z
  ·exact ⟨u,by rw [z]; exact q⟩
  ·exact ⟨_,z⟩
end
section
variable {X:Cx} {k:Nat} {f:Addr} {fd:FuncData} {ps:List Str} {sp:Sp} {dvs:List V} {ds:List Value} {E:XK} {x:Str} {p pos:Pos} {e:Expr} {es:List Expr} {t:TA}
theorem ame {pins:List (Addr × Obj)} {σ:St} {H:Hp} {s:Shared} {Q:VK} {us:List Value} {vs:List V} {Ex:Value→Shared→Prop} (F:FnOk X.prog X.w X.K X.mg X.base (CX1 X.prog X.w) k f fd ps sp) (hr:Room k X.A) (hb:ab9 X.K fd ps ds) (hd:Vals dvs ds)
  (I:Inv X pins σ H s) (r:Vals vs us) (h:sp (vs++dvs) H Q E) (hx:∀ e s',CX1 X.prog X.w X.stack H s E e s'→Ex e s'):wpAny (model X.prog X.w) X.A (call (.ref f) us) (EP X pins σ Q) Ex s:=by
 have r2:Vals (vs++dvs) (us++ds):=r.append hd
 have hl:(us++ds).length=ps.length:=by rw [← r2.length]; exact F.len _ _ _ _ h
 refine wpAny_call (codeAny_mono (F.run X.A X.stack s H ⟨us,[]⟩ (us++ds) (vs++dvs) Q E hr I.env0 (hb s us I.kIn hl) r2 h) fun rr s' hq=>?_)
 cases rr with
 | error e=>exact hx e s' hq
 | ok fl =>
  cases fl with
  | ret u=>exact I.after hq
  | next=>exact False.elim hq
  | brk=>exact False.elim hq
  | cont=>exact False.elim hq
theorem akY {pins:List (Addr × Obj)} {σ:St} {H:Hp} {s:Shared} {Q:VK} {Ex:Value→Shared→Prop} (hxe:X.xe=fun _ _=>False) (F:FnOk X.prog X.w X.K X.mg X.base (CX1 X.prog X.w) k f fd ps sp) (hr:Room k X.A) (hg:Gl X x) (hm:X.mg x=some (.ref f)) (hk:PySem.W.keepIn X.K (.ref f)=true)
  (hb:ab9 X.K fd ps ds) (hd:Vals dvs ds) (ha:PA X (e :: es) t) (I:Inv X pins σ H s) (h:t σ H fun vs H1=>sp (vs++dvs) H1 Q E)
  (hx:∀ s1 H1 e s',Inv X pins σ H1 s1→CX1 X.prog X.w X.stack H1 s1 E e s'→Ex e s')
  (hdb:(x == ("__debug__":Str))=false:=by decide) (he:starEach (e :: es) X.env=(false,eval e X.env) :: starEach es X.env:=by rfl) (hpl:(backTo pos (starEach es X.env)).any (·.1)=false:=by rfl) :
  wpAny (model X.prog X.w) X.A (eval (.Call (.Name x p) (e :: es) [] pos) X.env) (EP X pins σ Q) Ex s:=by
 refine wpAny_Call_Name_kw (afe I hg hm ?_ hdb)
 refine PySem.W.callWith_K (h₀:=X.base) I.ok.mod.kin hk (wpAny_mono (ha pos pins s σ H _ I h) (fun us s1 q1=>?_) fun _ _ z=>?_) he hpl
 ·obtain ⟨vs,H1,I1,r,q⟩:=q1
  exact ⟨I1.kIn,ame F hr hb hd I1 r q fun e s' c=>hx s1 H1 e s' I1 c⟩
 ·rw [hxe] at z
  exact z.elim
end
end L2
namespace L2
open PySem PySem.Spec PyProof.Rows Bn
section
variable {P:Program} {w:World} {K:PySem.W.Frag} {mg:Str→Option Value} {base:Heap} {CX:CXT}
theorem Fun.okX {x qual:Str} {st:Stmt} {f:Addr} {fd:FuncData} {N ps:List Str} {k:Nat} {sp:Sp} (F:Fun K x qual st f fd) (S:aaD N ps (aae st)) (len:∀ vs H Q E,sp vs H Q E→vs.length=ps.length)
  (hbody:∀ (cdv:Value) (A:Around) (outer:List Env) (s:Shared) (H:Hp) (vs:List V) (Q:VK) (E:XK),Room k (A.deeper (envOfC qual (aae st) s.heap.objs.size f cdv))→sp vs H Q E →
   ∃ t,PSs (cxOf CX P w K mg base N qual (aae st) f cdv A outer s H E) (aaw st) t∧t { nx:=fun _ H'=>Q .non H',rt:=Q } (start N vs) H):FnOk P w K mg base CX (k+1) f fd ps sp:=by
 obtain ⟨oc,od,kV,doc,pm,an,cdv,ct,osl,rfl,lk,hcd⟩:=F.ex
 exact amr lk hcd S len fun A outer s H vs Q E hr hsp=>hbody cdv A outer s H vs Q E hr hsp
theorem FunD.okX {x qual:Str} {st:Stmt} {f:Addr} {fd:FuncData} {ds:Array Value} {N ps:List Str} {k:Nat} {sp:Sp} (F:FunD K x qual st f fd ds) (S:aaD N ps (aae st)) (len:∀ vs H Q E,sp vs H Q E→vs.length=ps.length)
  (hbody:∀ (cdv:Value) (A:Around) (outer:List Env) (s:Shared) (H:Hp) (vs:List V) (Q:VK) (E:XK),Room k (A.deeper (envOfC qual (aae st) s.heap.objs.size f cdv))→sp vs H Q E →
   ∃ t,PSs (cxOf CX P w K mg base N qual (aae st) f cdv A outer s H E) (aaw st) t∧t { nx:=fun _ H'=>Q .non H',rt:=Q } (start N vs) H):FnOk P w K mg base CX (k+1) f fd ps sp:=by
 obtain ⟨oc,od,T,oT,n,kV,doc,pm,an,cdv,ct,osl,rfl,lk,hcd,_,_⟩:=F.ex
 exact amr lk hcd S len fun A outer s H vs Q E hr hsp=>hbody cdv A outer s H vs Q E hr hsp
end
theorem aot {P:Program} {w:World} {K:PySem.W.Frag} {mg:Str→Option Value} {base:Heap} {N:List Str} {qual:Str} {scope:Scope} {f:Addr} {cd:Value} {A:Around} {outer:List Env} {s₀:Shared} {H₀:Hp} {E:XK} :
  ac7 (CX1 P w) (cxOf (CX1 P w) P w K mg base N qual scope f cd A outer s₀ H₀ E) E:=by
 intro pins σ H s e s' I c
 obtain ⟨x,C,t,B,H',rfl,os,bare,un,hok,fl,cov,hE⟩:=c
 have fr:∀ b∈frs (cxOf (CX1 P w) P w K mg base N qual scope f cd A outer s₀ H₀ E).stack,H' b=none:=fun b hb=>by
  obtain ⟨_,o,ho,hd⟩:=I.stack.mem hb
  exact un.free b o ho (I.stkFree b hb) (by intro z; cases z)
 have nL:∀ {b o},s₀.heap.get? b=some o→b ∉ frs outer→b ∉ frs (envOfC qual scope s₀.heap.objs.size f cd :: outer):=fun {b o} q z y=>by
  rcases List.mem_cons.mp (I.stkSub b y) with g | g
  ·exact absurd (Nat.lt_of_lt_of_le (Heap.lt_size q) I.ok.above) (by rw [g]; exact Nat.lt_irrefl _)
  ·exact z g
 refine wpAny_leaves_onW (base:=B) I.ok.frames rfl fl fun h' fl' up=>?_
 have I5:=I.flown os bare un hok cov fr fl'.1 up
 refine ⟨x,C,t,B,H',rfl,os.trans I.os,bare,I5.base,I5.hok,fl',fun b o q z=>?_,hE⟩
 have go:∀ {o2},B.get? b=some o2→B.get? b=some o:=fun {o2} g=>by
  have:=fl'.1 b o2 g
  have q':h'.get? b=some o:=q
  rw [q'] at this
  cases this
  exact g
 rcases z with ⟨u,z⟩ | ⟨o',z,nz⟩
 ·obtain ⟨o2,g⟩:=(hok b u z).has
  exact go (cov b o2 g (.inl ⟨u,z⟩))
 ·obtain ⟨o2,g⟩:=I.base.there b o' z (by intro z; cases z)
  obtain ⟨o3,g3⟩:=un.there b o2 g (by intro z; cases z)
  exact go (cov b o3 g3 (.inr ⟨o2,g,nL z nz⟩))
end L2
namespace L2
open PySem PySem.Spec PyProof.Rows Bn
section
variable {X:Cx} {pins:List (Addr × Obj)} {σ:St} {H:Hp} {s:Shared}
end
abbrev Cx.mk1 (X:Cx) (x:Addr) (l:List (Addr × Obj)):Cx:={ X with A:=X.A.mark (some (.ref x)),calm:=false,pn:=l++X.pn,xe:=fun _ _=>False }
section
variable {X:Cx} {pins:List (Addr × Obj)} {σ:St} {H:Hp} {s:Shared}
theorem Cx.Ok.mk1 (ok:X.Ok) (x:Addr) (l:List (Addr × Obj)):(X.mk1 x l).Ok :=
 ⟨ok.mod,ok.kind,ok.glob,ok.blt,ok.above,ok.inj,ok.has,ok.cab,fun z=>(by cases z),ok.frames,ok.stk,ok.exf,ok.bs,ok.bsz,ok.noex,ok.exfs,ok.funs,ok.frf⟩
theorem Inv.mk1 (I:Inv X pins σ H s) (x:Addr) (l:List (Addr × Obj)) (h:∀ p∈l,s.heap.get? p.1=some p.2∧H p.1=none∧p.1≠X.env.locals∧p.1 ∉ X.fs∧∀ v,p.2.data≠.cell v):Inv (X.mk1 x l) pins σ H s :=
 ⟨I.ok.mk1 x l,I.os,I.bare,I.base,I.loc,I.cell,I.free,I.freeC,fun p hp=>by
  rw [List.append_assoc] at hp
  exact (List.mem_append.mp hp).elim (h p) (I.pin p),I.hok,I.len⟩
theorem Inv.unmk1 {x:Addr} {l:List (Addr × Obj)} (ok:X.Ok) (I:Inv (X.mk1 x l) pins σ H s):Inv X pins σ H s :=
 ⟨ok,I.os,I.bare,I.base,I.loc,I.cell,I.free,I.freeC,fun p hp=>I.pin p (by rw [List.append_assoc]; exact List.mem_append_right _ hp),I.hok,I.len⟩
end
end L2
namespace L2
open PySem PySem.Spec PyProof.Rows Bn
theorem ajW {a b c:Heap} (h1:a.UpToSlots b) (h2:b.UpToSlots c):a.UpToSlots c:=fun x o q d=>by
 obtain ⟨sl,g⟩:=h1 x o q d
 obtain ⟨sl',g'⟩:=h2 x _ g d
 exact ⟨sl',g'⟩
section
variable {X:Cx} {k:Nat} {f:Addr} {fd:FuncData} {ps:List Str} {sp:Sp} {dvs:List V} {ds:List Value} {x:Str} {p pos pos1 pos2 pos3 pc:Pos} {e:Expr} {es:List Expr} {t:TA} {c n:Str} {C:Addr} {i:Nat} {b₀:Stmt} {body:List Stmt} {newId:String}
end
end L2
namespace L2
open PySem PySem.Spec PySem.W PySem.Calls PySem.Builtin PySem.Builtin.Getset_descriptor PyProof.Rows Bn
section
variable {prog:Program} {w:World} {A:Around} {E:Value→Shared→Prop} {s:Shared} {K:PySem.W.Frag} {x D:Addr} {B:String} {R:Result→Shared→Prop}
end
end L2
namespace L2
open PySem PySem.Spec PyProof.Rows Bn
section
variable {X:Cx} {y D:Addr} {oe:Obj}
end
end L2
namespace L2.Pp
open PySem PySem.Spec PyProof.Rows Bn
inductive PV where
 | non | bl (b:Bool) | int (i:Int) | str (x:Str) | tup (xs:List PV) | lst (xs:List PV)
inductive SO where
 | lst (xs:List PV)
 | lol (xss:List (List PV))
abbrev Sto:=List SO
inductive AV where
 | pv (v:PV) | ref (k:Nat)
abbrev Rho:=List (Option AV)
inductive Res (α:Type) where
 | ok (a:α) (S:Sto) | exc (n:Str) (S:Sto) | fail
def Res.bind {α β:Type} (r:Res α) (k:α→Sto→Res β):Res β:=match r with
 | .ok a S=>k a S
 | .exc n S=>.exc n S
 | .fail=>.fail
inductive SRes where
 | nx (ρ:Rho) (S:Sto) | rt (v:AV) (S:Sto) | bk (ρ:Rho) (S:Sto) | ct (ρ:Rho) (S:Sto) | exc (n:Str) (S:Sto) | fail
def LAt (K:PySem.W.Frag) (c:Addr→Prop) (H:Hp) (a:Addr) (vs:List V):Prop :=
 (H a=some (.lst vs)∧¬ c a)∨(∃ o,H a=some (.frz o (.lst vs))) ∨
  ∃ (o:Obj) (its:Array Value) (n:Nat),K.lookup a=some o∧o.cls=.type "list"∧o.dict=none∧o.data=.seq its n∧its.size≤sizeLine∧Vals vs its.toList
theorem LAt.sq {K:PySem.W.Frag} {c:Addr→Prop} {H:Hp} {a:Addr} {vs:List V} (h:LAt K c H a vs):SqL K H a vs:=by
 rcases h with h | h | h
 ·exact .inl (.inl h.1)
 ·exact .inl (.inr h)
 ·exact .inr h
mutual
def Rep (K:PySem.W.Frag) (c:Addr→Prop) (H:Hp):PV→V→Prop
 | .non,x=>x=.non
 | .bl b,x=>x=.bl b
 | .int i,x=>x=.int i
 | .str s,x=>x=.str s
 | .tup xs,x=>∃ a vs,x=.ref a∧SqT K H a vs∧vs.length≤sizeLine∧Reps K c H xs vs
 | .lst xs,x=>∃ a vs,x=.ref a∧LAt K c H a vs∧vs.length≤sizeLine∧Reps K c H xs vs
def Reps (K:PySem.W.Frag) (c:Addr→Prop) (H:Hp):List PV→List V→Prop
 | [],vs=>vs=[]
 | p :: ps,vs=>∃ v r,vs=v :: r∧Rep K c H p v∧Reps K c H ps r
end
section
variable {K:PySem.W.Frag} {c c':Addr→Prop} {H H':Hp}
mutual
theorem Rep.mono (hT:∀ a vs,SqT K H a vs→SqT K H' a vs) (hL:∀ a vs,LAt K c H a vs→LAt K c' H' a vs):∀ (v:PV) (x:V),Rep K c H v x→Rep K c' H' v x
 | .non,x,h=>h
 | .bl b,x,h=>h
 | .int i,x,h=>h
 | .str s,x,h=>h
 | .tup xs,x,h=>by
  unfold Rep at h ⊢
  obtain ⟨a,vs,e,t,z,r⟩:=h
  exact ⟨a,vs,e,hT a vs t,z,Reps.mono hT hL xs vs r⟩
 | .lst xs,x,h=>by
  unfold Rep at h ⊢
  obtain ⟨a,vs,e,t,z,r⟩:=h
  exact ⟨a,vs,e,hL a vs t,z,Reps.mono hT hL xs vs r⟩
theorem Reps.mono (hT:∀ a vs,SqT K H a vs→SqT K H' a vs) (hL:∀ a vs,LAt K c H a vs→LAt K c' H' a vs):∀ (v:List PV) (x:List V),Reps K c H v x→Reps K c' H' v x
 | [],vs,h=>by
  unfold Reps at h ⊢
  exact h
 | p :: ps,vs,h=>by
  unfold Reps at h ⊢
  obtain ⟨v,r,e,h1,h2⟩:=h
  exact ⟨v,r,e,Rep.mono hT hL p v h1,Reps.mono hT hL ps r h2⟩
end
theorem Reps.length:∀ {xs:List PV} {vs:List V},Reps K c H xs vs→xs.length=vs.length
 | [],vs,h=>by
  unfold Reps at h
  rw [h]
  rfl
 | p :: ps,vs,h=>by
  unfold Reps at h
  obtain ⟨v,r,rfl,_,h2⟩:=h
  rw [List.length_cons,List.length_cons,Reps.length h2]
theorem Reps.get:∀ {xs:List PV} {vs:List V} {i:Nat} {p:PV},Reps K c H xs vs→xs[i]?=some p→∃ v,vs[i]?=some v∧Rep K c H p v
 | [],vs,i,p,h,e=>by simp at e
 | q :: ps,vs,0,p,h,e=>by
  unfold Reps at h
  obtain ⟨v,r,rfl,h1,_⟩:=h
  simp at e
  subst e
  exact ⟨v,rfl,h1⟩
 | q :: ps,vs,i+1,p,h,e=>by
  unfold Reps at h
  obtain ⟨v,r,rfl,_,h2⟩:=h
  obtain ⟨u,e1,e2⟩:=Reps.get (i:=i) h2 (by simpa using e)
  exact ⟨u,by simpa using e1,e2⟩
theorem Reps.nil:Reps K c H [] []:=by
 unfold Reps
 rfl
theorem Reps.cons {p:PV} {v:V} {ps:List PV} {vs:List V} (h:Rep K c H p v) (t:Reps K c H ps vs):Reps K c H (p :: ps) (v :: vs):=by
 unfold Reps
 exact ⟨v,vs,rfl,h,t⟩
theorem Reps.append:∀ {xs ys:List PV} {vs ws:List V},Reps K c H xs vs→Reps K c H ys ws→Reps K c H (xs++ys) (vs++ws)
 | [],ys,vs,ws,h,g=>by
  unfold Reps at h
  subst h
  exact g
 | p :: ps,ys,vs,ws,h,g=>by
  unfold Reps at h
  obtain ⟨v,r,rfl,h1,h2⟩:=h
  exact .cons h1 (h2.append g)
theorem Reps.drop:∀ {xs:List PV} {vs:List V} (n:Nat),Reps K c H xs vs→Reps K c H (xs.drop n) (vs.drop n)
 | xs,vs,0,h=>by simpa using h
 | [],vs,n+1,h=>by
  unfold Reps at h
  subst h
  simpa using Reps.nil
 | p :: ps,vs,n+1,h=>by
  unfold Reps at h
  obtain ⟨v,r,rfl,_,h2⟩:=h
  simpa using h2.drop n
theorem Reps.take:∀ {xs:List PV} {vs:List V} (n:Nat),Reps K c H xs vs→Reps K c H (xs.take n) (vs.take n)
 | xs,vs,0,h=>by simpa using Reps.nil
 | [],vs,n+1,h=>by
  unfold Reps at h
  subst h
  simpa using Reps.nil
 | p :: ps,vs,n+1,h=>by
  unfold Reps at h
  obtain ⟨v,r,rfl,h1,h2⟩:=h
  simpa using Reps.cons h1 (h2.take n)
theorem Reps.eraseIdx:∀ {xs:List PV} {vs:List V} (n:Nat),Reps K c H xs vs→Reps K c H (xs.eraseIdx n) (vs.eraseIdx n)
 | [],vs,n,h=>by
  unfold Reps at h
  subst h
  simpa using Reps.nil
 | p :: ps,vs,0,h=>by
  unfold Reps at h
  obtain ⟨v,r,rfl,h1,h2⟩:=h
  simpa using h2
 | p :: ps,vs,n+1,h=>by
  unfold Reps at h
  obtain ⟨v,r,rfl,h1,h2⟩:=h
  simpa using Reps.cons h1 (h2.eraseIdx n)
theorem Reps.set {p:PV} {v:V} (g:Rep K c H p v):∀ {xs:List PV} {vs:List V} (n:Nat),Reps K c H xs vs→Reps K c H (xs.set n p) (vs.set n v)
 | [],vs,n,h=>by
  unfold Reps at h
  subst h
  simpa using Reps.nil
 | q :: ps,vs,0,h=>by
  unfold Reps at h
  obtain ⟨v,r,rfl,h1,h2⟩:=h
  simpa using Reps.cons g h2
 | q :: ps,vs,n+1,h=>by
  unfold Reps at h
  obtain ⟨v,r,rfl,h1,h2⟩:=h
  simpa using Reps.cons h1 (Reps.set g n h2)
end
structure Ph where
 f:List Addr
 w:Addr→Prop
 c:Addr→Prop
def aoI (K:PySem.W.Frag) (c:Addr→Prop) (H:Hp) (xss:List (List PV)) (bs:List Addr):Prop :=
 xss.length=bs.length∧∀ (i:Nat) (xs:List PV) (b:Addr),xss[i]?=some xs→bs[i]?=some b→∃ vs,H b=some (.lst vs)∧vs.length≤sizeLine∧Reps K c H xs vs
def SObj (K:PySem.W.Frag) (p:Ph) (H:Hp) (a:Addr):SO→Prop
 | .lst xs=>∃ vs,H a=some (.lst vs)∧vs.length≤sizeLine∧Reps K p.c H xs vs
 | .lol xss=>∃ bs:List Addr,H a=some (.lst (bs.map V.ref))∧bs.length≤sizeLine∧bs.Nodup∧(∀ b∈bs,p.w b∧b ∉ p.f)∧aoI K p.c H xss bs
theorem SObj.mono {K:PySem.W.Frag} {p p':Ph} {H H':Hp} {a:Addr} {o:SO} (h:SObj K p H a o) (ha:∀ vs,H a=some (.lst vs)→H' a=some (.lst vs))
  (hb:∀ b,p.w b→b ∉ p.f→(p'.w b∧b ∉ p'.f)∧∀ vs,H b=some (.lst vs)→H' b=some (.lst vs)) (hR:∀ xs vs,Reps K p.c H xs vs→Reps K p'.c H' xs vs):SObj K p' H' a o:=by
 cases o with
 | lst xs =>
  obtain ⟨vs,e,l,r⟩:=h
  exact ⟨vs,ha vs e,l,hR xs vs r⟩
 | lol xss =>
  obtain ⟨bs,e,l,nd,wf,z,at_⟩:=h
  refine ⟨bs,ha _ e,l,nd,fun b m=>(hb b (wf b m).1 (wf b m).2).1,z,fun i xs b e1 e2=>?_⟩
  obtain ⟨vs,g1,g2,g3⟩:=at_ i xs b e1 e2
  have m:=wf b (List.mem_of_getElem? e2)
  exact ⟨vs,(hb b m.1 m.2).2 vs g1,g2,hR xs vs g3⟩
def Mb:HO→Prop
 | .lst _=>True
 | .dK _=>True
 | .dT _=>True
 | .ins _ _ _=>True
 | _=>False
structure Sim (K:PySem.W.Frag) (p:Ph) (S:Sto) (H:Hp):Prop where
 nd:p.f.Nodup
 len:p.f.length=S.length
 sub:∀ a∈p.f,p.w a
 wc:∀ a,p.w a→p.c a
 mu:∀ a,p.c a→∃ o,H a=some o∧Mb o
 obj:∀ (k:Nat) (a:Addr) (o:SO),p.f[k]?=some a→S[k]?=some o→SObj K p H a o
structure Step (p:Ph) (H:Hp) (q:Ph) (H':Hp):Prop where
 wc:∀ a,p.w a→p.c a
 mu:∀ a,p.c a→∃ o,H a=some o∧Mb o
 pre:p.f <+: q.f
 mw:∀ a,p.w a→q.w a
 mono:∀ a,p.c a→q.c a
 nf:∀ a∈q.f,a ∉ p.f→H a=none
 nw:∀ a,q.w a→¬ p.w a→H a=none
 nc:∀ a,q.c a→¬ p.c a→H a=none
 keep:∀ a o,H a=some o→¬ p.w a→H' a=some o
def RepA (K:PySem.W.Frag) (p:Ph) (H:Hp):AV→V→Prop
 | .pv v,x=>Rep K p.c H v x
 | .ref k,x=>∃ a,p.f[k]?=some a∧x=.ref a
abbrev ads (K:PySem.W.Frag) (p:Ph) (H:Hp):List AV→List V→Prop:=Paired (RepA K p H)
structure RepE (K:PySem.W.Frag) (p:Ph) (H:Hp) (ρ:Rho) (σ:St):Prop where
 len:ρ.length=σ.length
 at_:∀ (i:Nat) (v:AV),ρ[i]?=some (some v)→∃ x,σ[i]?=some (some x)∧RepA K p H v x
section
variable {K:PySem.W.Frag} {p q r:Ph} {H H' H'':Hp} {S:Sto}
theorem Sim.step (s:Sim K p S H):Step p H p H:=⟨s.wc,s.mu,List.prefix_rfl,fun _ h=>h,fun _ h=>h,fun _ h g=>absurd h g,fun _ h g=>absurd h g,fun _ h g=>absurd h g,fun _ _ h _=>h⟩
theorem Step.trans (a:Step p H q H') (b:Step q H' r H''):Step p H r H'':=by
 have back:∀ x,H' x=none→¬ p.w x→H x=none:=fun x h n=>by
  cases e:H x with
  | none=>rfl
  | some o=>rw [a.keep x o e n] at h; cases h
 refine ⟨a.wc,a.mu,a.pre.trans b.pre,fun x h=>b.mw x (a.mw x h),fun x h=>b.mono x (a.mono x h),fun x h n=>?_,fun x h n=>?_,fun x h n=>?_,fun x o e n=>?_⟩
 ·by_cases m:x∈q.f
  ·exact a.nf x m n
  ·have hn:=b.nf x h m
   refine back x hn fun z=>?_
   obtain ⟨o,ho,_⟩:=b.mu x (a.mono x (a.wc x z))
   rw [hn] at ho
   cases ho
 ·by_cases m:q.w x
  ·exact a.nw x m n
  ·exact back x (b.nw x h m) n
 ·by_cases m:q.c x
  ·exact a.nc x m n
  ·exact back x (b.nc x h m) fun z=>n (a.wc x z)
 ·refine b.keep x o (a.keep x o e n) fun z=>?_
  rw [a.nw x z n] at e
  cases e
theorem Step.tup (s:Step p H q H') {a:Addr} {vs:List V} (h:SqT K H a vs):SqT K H' a vs:=by
 have go:∀ o,H a=some o→¬ Mb o→H' a=some o:=fun o e n=>s.keep a o e fun z=>by
  obtain ⟨u,e',m⟩:=s.mu a (s.wc a z)
  rw [e] at e'
  cases e'
  exact n m
 rcases h with (h | ⟨o,h⟩) | h
 ·exact .inl (.inl (go _ h (fun z=>z)))
 ·exact .inl (.inr ⟨o,go _ h (fun z=>z)⟩)
 ·exact .inr h
theorem Step.lat (s:Step p H q H') {a:Addr} {vs:List V} (h:LAt K p.c H a vs):LAt K q.c H' a vs:=by
 rcases h with ⟨h,n⟩ | ⟨o,h⟩ | h
 ·refine .inl ⟨s.keep a _ h fun z=>n (s.wc a z),fun z=>?_⟩
  rw [s.nc a z n] at h
  cases h
 ·refine .inr (.inl ⟨o,s.keep a _ h fun z=>?_⟩)
  obtain ⟨u,e',m⟩:=s.mu a (s.wc a z)
  rw [h] at e'
  cases e'
  exact m
 ·exact .inr (.inr h)
theorem Step.rep (s:Step p H q H') {v:PV} {x:V} (h:Rep K p.c H v x):Rep K q.c H' v x:=Rep.mono (fun _ _=>s.tup) (fun _ _=>s.lat) v x h
theorem Step.reps (s:Step p H q H') {v:List PV} {x:List V} (h:Reps K p.c H v x):Reps K q.c H' v x:=Reps.mono (fun _ _=>s.tup) (fun _ _=>s.lat) v x h
theorem Step.at_ (s:Step p H q H') {k:Nat} {a:Addr} (h:p.f[k]?=some a):q.f[k]?=some a:=by
 obtain ⟨t,e⟩:=s.pre
 rw [← e,List.getElem?_append_left (by
  have:=List.getElem?_eq_some_iff.mp h
  exact this.1)]
 exact h
theorem Step.repA (s:Step p H q H') {v:AV} {x:V} (h:RepA K p H v x):RepA K q H' v x:=by
 cases v with
 | pv v=>exact s.rep h
 | ref k =>
  obtain ⟨a,e,f⟩:=h
  exact ⟨a,s.at_ e,f⟩
theorem Step.repE (s:Step p H q H') {ρ:Rho} {σ:St} (h:RepE K p H ρ σ):RepE K q H' ρ σ :=
 ⟨h.len,fun i v e=>let ⟨x,e1,e2⟩:=h.at_ i v e; ⟨x,e1,s.repA e2⟩⟩
theorem Sim.same (s:Sim K p S H) (h:Same H H'):Step p H p H':=⟨s.wc,s.mu,List.prefix_rfl,fun _ h=>h,fun _ h=>h,fun _ h g=>absurd h g,fun _ h g=>absurd h g,fun _ h g=>absurd h g,fun a o e _=>h a o e⟩
theorem Sim.ofSame (s:Sim K p S H) (h:Same H H'):Sim K p S H' :=
 ⟨s.nd,s.len,s.sub,s.wc,fun a m=>let ⟨o,e,m⟩:=s.mu a m; ⟨o,h a o e,m⟩,fun k a o e1 e2=>by
  exact (s.obj k a o e1 e2).mono (fun vs e=>h _ _ e) (fun b w f=>⟨⟨w,f⟩,fun vs e=>h _ _ e⟩) fun xs vs=>(s.same h).reps⟩
theorem abf {a:Addr} {o:HO} (h:H a=none):Same H (upd H a o):=fun b u e=>by
 rw [aaI (aaV e h)]
 exact e
end
section
variable {α β γ δ:Type}
def aaO (K:PySem.W.Frag) (cl:Str→Addr) (R:Ph→Hp→α→β→Prop) (p:Ph) (H:Hp) (r:Res α) (Q:β→Hp→Prop) (E:XK):Prop:=match r with
 | .ok a S=>∀ q H' x,Step p H q H'→Sim K q S H'→R q H' a x→Q x H'
 | .exc n S=>∀ q H',Step p H q H'→Sim K q S H'→E (.ref (cl n)) none H'
 | .fail=>False
def ab5 (K:PySem.W.Frag) (cl:Str→Addr) (p:Ph) (H:Hp) (r:SRes) (D:Ends) (E:XK):Prop:=match r with
 | .nx ρ S=>∀ q H' σ,Step p H q H'→Sim K q S H'→RepE K q H' ρ σ→D.nx σ H'
 | .bk ρ S=>∀ q H' σ,Step p H q H'→Sim K q S H'→RepE K q H' ρ σ→D.bk σ H'
 | .ct ρ S=>∀ q H' σ,Step p H q H'→Sim K q S H'→RepE K q H' ρ σ→D.ct σ H'
 | .rt v S=>∀ q H' x,Step p H q H'→Sim K q S H'→RepA K q H' v x→D.rt x H'
 | .exc n S=>∀ q H',Step p H q H'→Sim K q S H'→E (.ref (cl n)) none H'
 | .fail=>False
variable {K:PySem.W.Frag} {cl:Str→Addr} {p q:Ph} {H H':Hp} {S:Sto} {E:XK} {R:Ph→Hp→α→β→Prop} {R':Ph→Hp→γ→δ→Prop}
theorem aaO.mono {r:Res α} {Q:β→Hp→Prop} (h:aaO K cl R p H r Q E) (s:Step p H q H'):aaO K cl R q H' r Q E:=by
 cases r with
 | ok a S=>exact fun q' H'' x s'=>h q' H'' x (s.trans s')
 | exc n S=>exact fun q' H'' s'=>h q' H'' (s.trans s')
 | fail=>exact h
theorem ab5.mono {r:SRes} {D:Ends} (h:ab5 K cl p H r D E) (s:Step p H q H'):ab5 K cl q H' r D E:=by
 cases r with
 | nx ρ S=>exact fun q' H'' x s'=>h q' H'' x (s.trans s')
 | bk ρ S=>exact fun q' H'' x s'=>h q' H'' x (s.trans s')
 | ct ρ S=>exact fun q' H'' x s'=>h q' H'' x (s.trans s')
 | rt v S=>exact fun q' H'' x s'=>h q' H'' x (s.trans s')
 | exc n S=>exact fun q' H'' s'=>h q' H'' (s.trans s')
 | fail=>exact h
theorem aaO.ret {a:α} {x:β} {Q:β→Hp→Prop} (h:aaO K cl R p H (.ok a S) Q E) (s:Sim K p S H) (r:R p H a x):Q x H:=h p H x s.step s r
theorem aaO.same {a:α} {x:β} {Q:β→Hp→Prop} (h:aaO K cl R p H (.ok a S) Q E) (s:Sim K p S H) (e:Same H H') (r:R p H' a x):Q x H':=h p H' x (s.same e) (s.ofSame e) r
def tP (K:PySem.W.Frag) (cl:Str→Addr) (E:XK) (R:Ph→Hp→α→β→Prop) (m:Rho→Sto→Res α) (σ:St) (H:Hp) (Q:β→Hp→Prop):Prop :=
 ∃ p S ρ,Sim K p S H∧RepE K p H ρ σ∧aaO K cl R p H (m ρ S) Q E
def tS (K:PySem.W.Frag) (cl:Str→Addr) (E:XK) (m:Rho→Sto→SRes):TS:=fun D σ H =>
 ∃ p S ρ,Sim K p S H∧RepE K p H ρ σ∧ab5 K cl p H (m ρ S) D E
theorem aat {m:Rho→Sto→Res α} {k:α→Sto→Res γ} {ρ:Rho} {σ:St} {Q:δ→Hp→Prop} {T:β→Hp→Prop} (s:Sim K p S H) (e:RepE K p H ρ σ) (h:aaO K cl R' p H ((m ρ S).bind k) Q E)
  (g:∀ q H' a b S',Step p H q H'→Sim K q S' H'→RepE K q H' ρ σ→R q H' a b→aaO K cl R' q H' (k a S') Q E→T b H'):tP K cl E R m σ H T:=by
 refine ⟨p,S,ρ,s,e,?_⟩
 cases z:m ρ S with
 | ok a S1 =>
  rw [z] at h
  exact fun q H' b st sm r=>g q H' a b S1 st sm (st.repE e) r (aaO.mono (r:=k a S1) h st)
 | exc n S1 =>
  rw [z] at h
  exact h
 | fail =>
  rw [z] at h
  exact h
def SRes.of {α:Type} (r:Res α) (k:α→Sto→SRes):SRes:=match r with
 | .ok a S=>k a S
 | .exc n S=>.exc n S
 | .fail=>.fail
theorem acL {m:Rho→Sto→Res α} {k:α→Sto→SRes} {ρ:Rho} {σ:St} {D:Ends} {T:β→Hp→Prop} (s:Sim K p S H) (e:RepE K p H ρ σ) (h:ab5 K cl p H (SRes.of (m ρ S) k) D E)
  (g:∀ q H' a b S',Step p H q H'→Sim K q S' H'→RepE K q H' ρ σ→R q H' a b→ab5 K cl q H' (k a S') D E→T b H'):tP K cl E R m σ H T:=by
 refine ⟨p,S,ρ,s,e,?_⟩
 cases z:m ρ S with
 | ok a S1 =>
  rw [z] at h
  exact fun q H' b st sm r=>g q H' a b S1 st sm (st.repE e) r (ab5.mono (r:=k a S1) h st)
 | exc n S1 =>
  rw [z] at h
  exact h
 | fail =>
  rw [z] at h
  exact h
end
end L2.Pp
namespace L2.Pp
open PySem PySem.Spec PyProof.Rows Bn
abbrev RB:Ph→Hp→Bool→Bool→Prop:=fun _ _ a b=>a=b
abbrev ME:=Rho→Sto→Res AV
abbrev MT:=Rho→Sto→Res Bool
abbrev MA:=Rho→Sto→Res (List AV)
abbrev MS:=Rho→Sto→SRes
section
variable (K:PySem.W.Frag) (cl:Str→Addr) (E:XK) (X:Cx)
def PEp (e:Expr) (m:ME):Prop:=X.K=K→PE X e (tP K cl E (RepA K) m)
def PTp (e:Expr) (m:MT):Prop:=X.K=K→PT X e (tP K cl E RB m)
def PWp (e:Expr) (m:MT):Prop:=X.K=K→PW X e (tP K cl E RB m)
def PAp (es:List Expr) (m:MA):Prop:=X.K=K→PA X es (tP K cl E (ads K) m)
def PSp (st:Stmt) (m:MS):Prop:=X.K=K→PS X st (tS K cl E m)
def PSsp (st:List Stmt) (m:MS):Prop:=X.K=K→PSs X st (tS K cl E m)
end
theorem PA.imp {X:Cx} {es:List Expr} {t t':TA} (h:PA X es t) (i:∀ σ H Q,t' σ H Q→t σ H Q):PA X es t':=fun pos pins s σ H Q I q=>h pos pins s σ H Q I (i σ H Q q)
theorem PW.imp {X:Cx} {e:Expr} {t t':TT} (h:PW X e t) (i:∀ σ H Q,t' σ H Q→t σ H Q):PW X e t':=fun wh pins s σ H Q I q=>h wh pins s σ H Q I (i σ H Q q)
def mVar (i:Nat):ME:=fun ρ S=>match ρ[i]? with
 | some (some v)=>.ok v S
 | _=>.fail
def mC (v:PV):ME:=fun _ S=>.ok (.pv v) S
def rd (S:Sto):AV→Option PV
 | .pv v=>some v
 | .ref k=>match S[k]? with
  | some (.lst xs)=>some (.lst xs)
  | _=>none
def abA (S:Sto):List AV→Option (List PV)
 | []=>some []
 | a :: r=>match rd S a with
  | some v=>match abA S r with
   | some vs=>some (v :: vs)
   | none=>none
  | none=>none
def okO (o:Option PV) (S:Sto):Res AV:=match o with
 | some r=>.ok (.pv r) S
 | none=>.fail
def acj (f:PV→Option PV) (a:AV) (S:Sto):Res AV:=okO ((rd S a).bind f) S
def abn (f:PV→PV→Option PV) (a b:AV) (S:Sto):Res AV:=okO ((rd S a).bind fun x=>(rd S b).bind fun y=>f x y) S
def mUn (f:PV→Option PV) (ma:ME):ME:=fun ρ S=>(ma ρ S).bind fun x S1=>acj f x S1
def mBin (f:PV→PV→Option PV) (ma mb:ME):ME:=fun ρ S=>(ma ρ S).bind fun x S1=>(mb ρ S1).bind fun y S2=>abn f x y S2
def mNil:MA:=fun _ S=>.ok [] S
def aac (ma:ME) (mr:MA):MA:=fun ρ S=>(ma ρ S).bind fun x S1=>(mr ρ S1).bind fun xs S2=>.ok (x :: xs) S2
def abN:List AV→Option (List PV)
 | []=>some []
 | .pv v :: r=>match abN r with
  | some vs=>some (v :: vs)
  | none=>none
 | .ref _ :: _=>none
def aca (f:List PV→Option PV) (xs:List AV) (S:Sto):Res AV:=okO ((abN xs).bind f) S
def ab4 (f:List PV→Option PV) (xs:List AV) (S:Sto):Res AV:=okO ((abA S xs).bind f) S
def mR (f:List PV→Option PV) (ma:MA):ME:=fun ρ S=>(ma ρ S).bind fun xs S1=>ab4 f xs S1
def mN (f:List PV→Option PV) (ma:MA):ME:=fun ρ S=>(ma ρ S).bind fun xs S1=>aca f xs S1
def fTup (vs:List PV):Option PV:=if vs.length≤16777216 then some (.tup vs) else none
def fLst (vs:List PV):Option PV:=if vs.length≤16777216 then some (.lst vs) else none
def tst:AV→Sto→Res Bool
 | .pv (.bl b),S=>.ok b S
 | _,_=>.fail
def mTst (m:ME):MT:=fun ρ S=>(m ρ S).bind tst
def mNot (m:MT):MT:=fun ρ S=>(m ρ S).bind fun b S1=>.ok (!b) S1
def mAnd (m n:MT):MT:=fun ρ S=>(m ρ S).bind fun b S1=>if b=true then n ρ S1 else .ok false S1
def mOr (m n:MT):MT:=fun ρ S=>(m ρ S).bind fun b S1=>if b=true then .ok true S1 else n ρ S1
def abR (m n:ME):ME:=fun ρ S=>(m ρ S).bind fun x S1=>match x with
 | .pv (.bl true)=>n ρ S1
 | .pv (.bl false)=>.ok (.pv (.bl false)) S1
 | _=>.fail
def mOrV (m n:ME):ME:=fun ρ S=>(m ρ S).bind fun x S1=>match x with
 | .pv (.bl false)=>n ρ S1
 | .pv (.bl true)=>.ok (.pv (.bl true)) S1
 | _=>.fail
def fNot:PV→Option PV
 | .bl b=>some (.bl (!b))
 | _=>none
def mIf (c:MT) (a b:ME):ME:=fun ρ S=>(c ρ S).bind fun t S1=>if t=true then a ρ S1 else b ρ S1
section
variable {K:PySem.W.Frag} {cl:Str→Addr} {E:XK} {X:Cx} {a b c e:Expr} {es:List Expr} {ma mb mc m:ME} {mt nt:MT} {ms:MA} {pos:Pos}
theorem aab (i:Nat) {x:Str} (hN:X.N[i]?=some x:=by rfl) (hv:Vis X.env.scope x:=by first | exact Or.inl rfl | exact Or.inr (Or.inl rfl) | exact Or.inr (Or.inr rfl)) (hd:(x == ("__debug__":Str))=false:=by decide)
  (hcd:(x == ("__classdict__":Str))=false:=by decide):PEp K cl E X (.Name x pos) (mVar i):=fun _=>(alq hN hv hd hcd).imp fun σ H Q ⟨p,S,ρ,s,e,h⟩=>by
 unfold mVar at h
 cases z:ρ[i]? with
 | none=>rw [z] at h; exact h.elim
 | some o =>
  cases o with
  | none=>rw [z] at h; exact h.elim
  | some v =>
   rw [z] at h
   obtain ⟨x,e1,e2⟩:=e.at_ i v z
   exact ⟨x,e1,aaO.ret h s e2⟩
theorem aah {i:Int} {j}:PEp K cl E X (.Constant (.int i) j pos) (mC (.int i)):=fun _=>ani.imp fun σ H Q ⟨p,S,ρ,s,e,h⟩=>aaO.ret (R:=RepA K) (x:=.int i) h s (by show Rep K p.c H (.int i) (.int i); unfold Rep; rfl)
theorem ake {i:Bool} {j}:PEp K cl E X (.Constant (.bool i) j pos) (mC (.bl i)):=fun _=>aoH.imp fun σ H Q ⟨p,S,ρ,s,e,h⟩=>aaO.ret (R:=RepA K) (x:=.bl i) h s (by show Rep K p.c H (.bl i) (.bl i); unfold Rep; rfl)
theorem abp {i:Str} {j}:PEp K cl E X (.Constant (.str i) j pos) (mC (.str i)):=fun _=>ahN.imp fun σ H Q ⟨p,S,ρ,s,e,h⟩=>aaO.ret (R:=RepA K) (x:=.str i) h s (by show Rep K p.c H (.str i) (.str i); unfold Rep; rfl)
theorem ac8 {j}:PEp K cl E X (.Constant .none j pos) (mC .non):=fun _=>ajH.imp fun σ H Q ⟨p,S,ρ,s,e,h⟩=>aaO.ret (R:=RepA K) (x:=.non) h s (by show Rep K p.c H .non .non; unfold Rep; rfl)
def RepR (K:PySem.W.Frag) (p:Ph) (H:Hp) (v:PV) (x:V):Prop:=Rep K p.c H v x∨∃ xs a vs,v=.lst xs∧x=.ref a∧H a=some (.lst vs)∧vs.length≤sizeLine∧Reps K p.c H xs vs
theorem RepR.int {p:Ph} {H:Hp} {i:Int} {x:V} (h:RepR K p H (.int i) x):x=.int i:=by
 rcases h with h | ⟨_,_,_,e,_⟩
 ·unfold Rep at h; exact h
 ·cases e
theorem RepR.bl {p:Ph} {H:Hp} {i:Bool} {x:V} (h:RepR K p H (.bl i) x):x=.bl i:=by
 rcases h with h | ⟨_,_,_,e,_⟩
 ·unfold Rep at h; exact h
 ·cases e
theorem RepR.str {p:Ph} {H:Hp} {i:Str} {x:V} (h:RepR K p H (.str i) x):x=.str i:=by
 rcases h with h | ⟨_,_,_,e,_⟩
 ·unfold Rep at h; exact h
 ·cases e
theorem RepR.non {p:Ph} {H:Hp} {x:V} (h:RepR K p H .non x):x=.non:=by
 rcases h with h | ⟨_,_,_,e,_⟩
 ·unfold Rep at h; exact h
 ·cases e
theorem RepR.tup {p:Ph} {H:Hp} {xs:List PV} {x:V} (h:RepR K p H (.tup xs) x):∃ a vs,x=.ref a∧SqT K H a vs∧vs.length≤sizeLine∧Reps K p.c H xs vs:=by
 rcases h with h | ⟨_,_,_,e,_⟩
 ·unfold Rep at h; exact h
 ·cases e
theorem RepR.lst {p:Ph} {H:Hp} {xs:List PV} {x:V} (h:RepR K p H (.lst xs) x):∃ a vs,x=.ref a∧SqL K H a vs∧vs.length≤sizeLine∧Reps K p.c H xs vs:=by
 rcases h with h | ⟨ys,a,vs,e,e2,h,z,r⟩
 ·unfold Rep at h
  obtain ⟨a,vs,e,l,z,r⟩:=h
  exact ⟨a,vs,e,l.sq,z,r⟩
 ·cases e
  exact ⟨a,vs,e2,SqL.of h,z,r⟩
theorem afz {p:Ph} {S:Sto} {H:Hp} {a:AV} {v:PV} {x:V} (s:Sim K p S H) (r:RepA K p H a x) (e:rd S a=some v):RepR K p H v x:=by
 cases a with
 | pv u=>cases e; exact .inl r
 | ref k =>
  obtain ⟨a,e1,rfl⟩:=r
  unfold rd at e
  cases z:S[k]? with
  | none=>simp only [z] at e; cases e
  | some o =>
   cases o with
   | lst xs =>
    simp only [z] at e
    cases e
    obtain ⟨vs,h,l,r⟩:=s.obj k a _ e1 z
    exact .inr ⟨xs,a,vs,rfl,rfl,h,l,r⟩
   | lol xss=>simp only [z] at e; cases e
abbrev anX (K:PySem.W.Frag) (p:Ph) (H:Hp):List PV→List V→Prop:=Paired (RepR K p H)
theorem aff {p:Ph} {S:Sto} {H:Hp} (s:Sim K p S H):∀ {as:List AV} {vs:List PV} {xs:List V},ads K p H as xs→abA S as=some vs→anX K p H vs xs
 | [],vs,_,.nil,e=>by
  cases e
  exact .nil
 | a :: r,vs,_,.cons h t,e=>by
  unfold abA at e
  cases z:rd S a with
  | none=>simp only [z] at e; cases e
  | some v =>
   simp only [z] at e
   cases y:abA S r with
   | none=>simp only [y] at e; cases e
   | some us =>
    simp only [y] at e
    cases e
    exact .cons (afz s h z) (aff s t y)
def OpS (K:PySem.W.Frag) (r:R2) (f:PV→PV→Option PV):Prop:=∀ {p:Ph} {S:Sto} {H:Hp} {a b c:PV} {x y:V} {Q:VK},Sim K p S H→RepR K p H a x→RepR K p H b y→f a b=some c →
 (∀ H' z,Same H H'→Rep K p.c H' c z→Q z H')→r x y H Q
def UnS (K:PySem.W.Frag) (r:V→Hp→VK→Prop) (f:PV→Option PV):Prop:=∀ {p:Ph} {S:Sto} {H:Hp} {a c:PV} {x:V} {Q:VK},Sim K p S H→RepR K p H a x→f a=some c →
 (∀ H' z,Same H H'→Rep K p.c H' c z→Q z H')→r x H Q
def CaS (K:PySem.W.Frag) (r:List V→Hp→VK→Prop) (f:List PV→Option PV):Prop:=∀ {p:Ph} {S:Sto} {H:Hp} {as:List PV} {c:PV} {xs:List V} {Q:VK},Sim K p S H→Reps K p.c H as xs→f as=some c →
 (∀ H' z,Same H H'→Rep K p.c H' c z→Q z H')→r xs H Q
def CaR (K:PySem.W.Frag) (r:List V→Hp→VK→Prop) (f:List PV→Option PV):Prop:=∀ {p:Ph} {S:Sto} {H:Hp} {as:List PV} {c:PV} {xs:List V} {Q:VK},Sim K p S H→anX K p H as xs→f as=some c →
 (∀ H' z,Same H H'→Rep K p.c H' c z→Q z H')→r xs H Q
theorem adg {p:Ph} {S:Sto} {H:Hp} {o:Option PV} {Q:VK} (s:Sim K p S H) (h:aaO K cl (RepA K) p H (okO o S) Q E):∃ c,o=some c∧∀ H' z,Same H H'→Rep K p.c H' c z→Q z H':=by
 cases o with
 | none=>exact h.elim
 | some c=>exact ⟨c,rfl,fun H' z sm rz=>aaO.same (R:=RepA K) h s sm rz⟩
theorem acB {r:R2} {f:PV→PV→Option PV} (hf:OpS K r f) {p:Ph} {S:Sto} {H:Hp} {a b:AV} {x y:V} {Q:VK} (s:Sim K p S H) (ra:RepA K p H a x) (rb:RepA K p H b y) (h:aaO K cl (RepA K) p H (abn f a b S) Q E):r x y H Q:=by
 obtain ⟨c,e,k⟩:=adg s h
 cases z:rd S a with
 | none=>rw [z] at e; cases e
 | some v =>
  cases y:rd S b with
  | none=>rw [z,y] at e; cases e
  | some w =>
   rw [z,y] at e
   exact hf s (afz s ra z) (afz s rb y) e k
theorem ac9 {r:V→Hp→VK→Prop} {f:PV→Option PV} (hf:UnS K r f) {p:Ph} {S:Sto} {H:Hp} {a:AV} {x:V} {Q:VK} (s:Sim K p S H) (ra:RepA K p H a x) (h:aaO K cl (RepA K) p H (acj f a S) Q E):r x H Q:=by
 obtain ⟨c,e,k⟩:=adg s h
 cases z:rd S a with
 | none=>rw [z] at e; cases e
 | some v =>
  rw [z] at e
  exact hf s (afz s ra z) e k
theorem agT {r:List V→Hp→VK→Prop} {f:List PV→Option PV} (hf:CaR K r f) {p:Ph} {S:Sto} {H:Hp} {as:List AV} {xs:List V} {Q:VK} (s:Sim K p S H) (ra:ads K p H as xs) (h:aaO K cl (RepA K) p H (ab4 f as S) Q E):r xs H Q:=by
 obtain ⟨c,e,k⟩:=adg s h
 cases z:abA S as with
 | none=>rw [z] at e; cases e
 | some v =>
  rw [z] at e
  exact hf s (aff s ra z) e k
theorem adp {p:Ph} {H:Hp}:∀ {as:List AV} {vs:List PV} {xs:List V},abN as=some vs→ads K p H as xs→Reps K p.c H vs xs
 | [],vs,_,e,.nil=>by
  cases e
  exact .nil
 | .pv v :: r,vs,_,e,.cons h t=>by
  unfold abN at e
  cases z:abN r with
  | none=>simp only [z] at e; cases e
  | some us =>
   simp only [z] at e
   cases e
   exact .cons h (adp z t)
 | .ref k :: r,vs,_,e,.cons h t=>by
  cases e
theorem aeQ {r:List V→Hp→VK→Prop} {f:List PV→Option PV} (hf:CaS K r f) {p:Ph} {S:Sto} {H:Hp} {as:List AV} {xs:List V} {Q:VK} (s:Sim K p S H) (ra:ads K p H as xs) (h:aaO K cl (RepA K) p H (aca f as S) Q E):r xs H Q:=by
 obtain ⟨c,e,k⟩:=adg s h
 cases z:abN as with
 | none=>rw [z] at e; cases e
 | some v =>
  rw [z] at e
  exact hf s (adp z ra) e k
theorem aay {op:Operator} {r:R2} {f:PV→PV→Option PV} (ho:OpR X (binaryOp op) r) (hf:OpS X.K r f) (ha:PEp K cl E X a ma) (hb:PEp K cl E X b mb):PEp K cl E X (.BinOp a op b pos) (mBin f ma mb):=by
 intro hK
 subst hK
 refine (aor ho (ha rfl) (hb rfl)).imp fun σ H Q ⟨p,S,ρ,s,e,h⟩=>?_
 exact aat s e h fun q H1 a x S1 st s1 e1 r1 h1=>aat s1 e1 h1 fun q2 H2 b y S2 st2 s2 e2 r2 h2=>acB hf s2 (st2.repA r1) r2 h2
theorem ahD {op:UnaryOp} {r:V→Hp→VK→Prop} {f:PV→Option PV} (ho:UnR X (unaryOp op) r) (hf:UnS X.K r f) (ha:PEp K cl E X a ma):PEp K cl E X (.UnaryOp op a pos) (mUn f ma):=by
 intro hK
 subst hK
 refine (aoy ho (ha rfl)).imp fun σ H Q ⟨p,S,ρ,s,e,h⟩=>?_
 exact aat s e h fun q H1 a x S1 st s1 e1 r1 h1=>ac9 hf s1 r1 h1
theorem aea {op:CmpOp} {r:R2} {f:PV→PV→Option PV} (ho:OpR X (compareOp op) r) (hf:OpS X.K r f) (ha:PEp K cl E X a ma) (hb:PEp K cl E X b mb) (hm:behindInMarks op b=false):PEp K cl E X (.Compare a [op] [b] pos) (mBin f ma mb):=by
 intro hK
 subst hK
 refine (al0 ho (ha rfl) (hb rfl) hm).imp fun σ H Q ⟨p,S,ρ,s,e,h⟩=>?_
 exact aat s e h fun q H1 a x S1 st s1 e1 r1 h1=>aat s1 e1 h1 fun q2 H2 b y S2 st2 s2 e2 r2 h2=>acB hf s2 (st2.repA r1) r2 h2
theorem ajd {p:Ph} {H:Hp} {v:AV} {x:V} (r:RepA K p H v x) {b:Bool} (e:v=.pv (.bl b)):x=.bl b:=by
 subst e
 unfold RepA Rep at r
 exact r
theorem aeF {p:Ph} {S:Sto} {H:Hp} {v:AV} {x:V} {Q:Bool→Hp→Prop} (s:Sim K p S H) (r:RepA K p H v x)
  (h:aaO K cl RB p H (tst v S) Q E):∃ k,x=.bl k∧Q k H:=by
 cases v with
 | ref k=>exact h.elim
 | pv v =>
  cases v with
  | bl b=>exact ⟨b,ajd r rfl,aaO.ret (R:=RB) h s rfl⟩
  | _=>exact h.elim
theorem aaB {op:CmpOp} {r:R2} {f:PV→PV→Option PV} (ho:OpR X (compareOp op) r) (hf:OpS X.K r f) (ha:PEp K cl E X a ma) (hb:PEp K cl E X b mb) (hm:behindInMarks op b=false):PTp K cl E X (.Compare a [op] [b] pos) (mTst (mBin f ma mb)):=by
 intro hK
 subst hK
 refine (alR ho (ha rfl) (hb rfl) hm).imp fun σ H Q ⟨p,S,ρ,s,e,h⟩=>?_
 have z:tP X.K cl E (RepA X.K) (mBin f ma mb) σ H fun x H'=>∃ k,x=.bl k∧Q k H':=aat s e h fun q H1 a x S1 st s1 e1 r1 h1=>aeF s1 r1 h1
 obtain ⟨p',S',ρ',s',e',h'⟩:=z
 exact aat s' e' h' fun q H1 a x S1 st s1 e1 r1 h1=>aat s1 e1 h1 fun q2 H2 b y S2 st2 s2 e2 r2 h2=>acB hf s2 (st2.repA r1) r2 h2
theorem adi (ha:PEp K cl E X a ma) (he:∀ whole,isTrue a X.env whole=(do let v ← whole; standAt a.pos; holding [v] (truthy v)):=by intro _; rfl):PTp K cl E X a (mTst ma):=by
 intro hK
 subst hK
 refine (anp (ha rfl) he).imp fun σ H Q ⟨p,S,ρ,s,e,h⟩=>?_
 exact aat s e h fun q H1 a x S1 st s1 e1 r1 h1=>aeF s1 r1 h1
theorem aew (ha:PTp K cl E X a mt):PTp K cl E X (.UnaryOp .Not a pos) (mNot mt):=by
 intro hK
 subst hK
 refine (anZ (ha rfl)).imp fun σ H Q ⟨p,S,ρ,s,e,h⟩=>?_
 exact aat s e h fun q H1 a x S1 st s1 e1 r1 h1=>by
  cases r1
  exact aaO.ret (R:=RB) h1 s1 rfl
theorem af9 (ha:PTp K cl E X a mt):PWp K cl E X (.BoolOp .And [a] pos) mt:=fun hK=>amN (ha hK)
theorem adJ (ha:PTp K cl E X a mt):PWp K cl E X (.BoolOp .Or [a] pos) mt:=fun hK=>anB (ha hK)
theorem PWp.pt (h:PWp K cl E X a mt):PTp K cl E X a mt:=fun hK=>PW.pt (h hK)
theorem ahH {rest:List Expr} (ha:PTp K cl E X a mt) (hb:PWp K cl E X (.BoolOp .And (b :: rest) pos) nt):PWp K cl E X (.BoolOp .And (a :: b :: rest) pos) (mAnd mt nt):=by
 intro hK
 subst hK
 refine PW.imp (anT (ha rfl) (hb rfl)) fun σ H Q ⟨p,S,ρ,s,e,h⟩=>?_
 refine aat s e h fun q H1 a x S1 st s1 e1 r1 h1=>?_
 cases r1
 cases a with
 | true=>exact ⟨q,S1,ρ,s1,e1,h1⟩
 | false=>exact aaO.ret (R:=RB) h1 s1 rfl
theorem ad6 {rest:List Expr} (ha:PTp K cl E X a mt) (hb:PWp K cl E X (.BoolOp .Or (b :: rest) pos) nt):PWp K cl E X (.BoolOp .Or (a :: b :: rest) pos) (mOr mt nt):=by
 intro hK
 subst hK
 refine PW.imp (aoB (ha rfl) (hb rfl)) fun σ H Q ⟨p,S,ρ,s,e,h⟩=>?_
 refine aat s e h fun q H1 a x S1 st s1 e1 r1 h1=>?_
 cases r1
 cases a with
 | true=>exact aaO.ret (R:=RB) h1 s1 rfl
 | false=>exact ⟨q,S1,ρ,s1,e1,h1⟩
theorem ag3 {op} (h:PEp K cl E X a ma):PEp K cl E X (.BoolOp op [a] pos) ma:=fun hK=>amY (h hK)
theorem agH {rest:List Expr} (ha:PEp K cl E X a ma) (hb:PEp K cl E X (.BoolOp .And (b :: rest) pos) mb):PEp K cl E X (.BoolOp .And (a :: b :: rest) pos) (abR ma mb):=by
 intro hK
 subst hK
 refine (anU (ha rfl) (hb rfl)).imp fun σ H Q ⟨p,S,ρ,s,e,h⟩=>?_
 refine aat s e h fun q H1 a x S1 st s1 e1 r1 h1=>?_
 cases a with
 | ref k=>exact h1.elim
 | pv v =>
  cases v with
  | bl b =>
   refine ⟨b,ajd r1 rfl,?_⟩
   cases b with
   | true=>exact ⟨q,S1,ρ,s1,e1,h1⟩
   | false=>exact aaO.ret (R:=RepA X.K) h1 s1 (by show Rep X.K q.c H1 _ _; unfold Rep; rfl)
  | _=>exact h1.elim
theorem aoJ {rest:List Expr} (ha:PEp K cl E X a ma) (hb:PEp K cl E X (.BoolOp .Or (b :: rest) pos) mb):PEp K cl E X (.BoolOp .Or (a :: b :: rest) pos) (mOrV ma mb):=by
 intro hK
 subst hK
 refine (aow (ha rfl) (hb rfl)).imp fun σ H Q ⟨p,S,ρ,s,e,h⟩=>?_
 refine aat s e h fun q H1 a x S1 st s1 e1 r1 h1=>?_
 cases a with
 | ref k=>exact h1.elim
 | pv v =>
  cases v with
  | bl b =>
   refine ⟨b,ajd r1 rfl,?_⟩
   cases b with
   | true=>exact aaO.ret (R:=RepA X.K) h1 s1 (by show Rep X.K q.c H1 _ _; unfold Rep; rfl)
   | false=>exact ⟨q,S1,ρ,s1,e1,h1⟩
  | _=>exact h1.elim
theorem aok (ha:PEp K cl E X a ma):PEp K cl E X (.UnaryOp .Not a pos) (mUn fNot ma):=by
 intro hK
 subst hK
 refine (ang (ha rfl)).imp fun σ H Q ⟨p,S,ρ,s,e,h⟩=>?_
 refine aat s e h fun q H1 a x S1 st s1 e1 r1 h1=>?_
 refine ac9 (r:=fun x H Q=>∃ c,x=.bl c∧Q (.bl (!c)) H) (f:=fNot) (fun {p S H a c x Q} s r e k=>?_) s1 r1 h1
 cases a with
 | bl b =>
  cases e
  exact ⟨b,r.bl,k H _ (Same.refl H) (by unfold Rep; rfl)⟩
 | _=>cases e
theorem amG (hc:PTp K cl E X c mt) (ha:PEp K cl E X a ma) (hb:PEp K cl E X b mb):PEp K cl E X (.IfExp c a b pos) (mIf mt ma mb):=by
 intro hK
 subst hK
 refine (alg (hc rfl) (ha rfl) (hb rfl)).imp fun σ H Q ⟨p,S,ρ,s,e,h⟩=>?_
 refine aat s e h fun q H1 a x S1 st s1 e1 r1 h1=>?_
 cases r1
 cases a with
 | true=>exact ⟨q,S1,ρ,s1,e1,h1⟩
 | false=>exact ⟨q,S1,ρ,s1,e1,h1⟩
theorem aaf:PAp K cl E X [] mNil:=fun _=>(PA.imp agS fun σ H Q ⟨p,S,ρ,s,e,h⟩=>aaO.ret (R:=ads K) h s .nil)
theorem aaa (ha:PEp K cl E X e m) (hr:PAp K cl E X es ms) (hs:starEach (e :: es) X.env=(false,eval e X.env) :: starEach es X.env:=by rfl):PAp K cl E X (e :: es) (aac m ms):=by
 intro hK
 subst hK
 refine PA.imp (adb (ha rfl) (hr rfl) hs) fun σ H Q ⟨p,S,ρ,s,e,h⟩=>?_
 exact aat s e h fun q H1 a x S1 st s1 e1 r1 h1=>aat s1 e1 h1 fun q2 H2 b y S2 st2 s2 e2 r2 h2=>aaO.ret (R:=ads X.K) h2 s2 (.cons (st2.repA r1) r2)
theorem adD {p:Ph} {S:Sto} {H:Hp} {vs:List PV} {xs:List V} {t:Addr} (s:Sim K p S H) (r:Reps K p.c H vs xs) (z:xs.length≤sizeLine) (ht:H t=none):Rep K p.c (upd H t (.tup xs)) (.tup vs) (.ref t):=by
 unfold Rep
 exact ⟨t,xs,rfl,SqT.of abB,z,(s.same (abf ht)).reps r⟩
theorem aer {p:Ph} {S:Sto} {H:Hp} {vs:List PV} {xs:List V} {t:Addr} (s:Sim K p S H) (r:Reps K p.c H vs xs) (z:xs.length≤sizeLine) (ht:H t=none):Rep K p.c (upd H t (.lst xs)) (.lst vs) (.ref t):=by
 unfold Rep
 refine ⟨t,xs,rfl,.inl ⟨abB,fun c=>?_⟩,z,(s.same (abf ht)).reps r⟩
 obtain ⟨o,e,_⟩:=s.mu t c
 rw [ht] at e
 cases e
theorem aaG:sizeLine=16777216:=sizeLine_eq
theorem akg {x1} (h:PAp K cl E X es ms):PEp K cl E X (.Tuple es x1 pos) (mN fTup ms):=by
 intro hK
 subst hK
 refine (ajz (h rfl)).imp fun σ H Q ⟨p,S,ρ,s,e,h⟩=>?_
 refine aat s e h fun q H1 as xs S1 st s1 e1 r1 h1=>?_
 refine aeQ (r:=fun xs H Q=>xs.length≤sizeLine∧∀ t,H t=none→Q (.ref t) (upd H t (.tup xs))) (f:=fTup) (fun {p S H as c xs Q} s r e k=>?_) s1 r1 h1
 unfold fTup at e
 split at e
 ·rename_i hl
  cases e
  rw [r.length,← aaG] at hl
  exact ⟨hl,fun t ht=>k _ _ (abf ht) (adD s r hl ht)⟩
 ·cases e
theorem aex (h:PAp K cl E X es ms):PEp K cl E X (.List es pos) (mN fLst ms):=by
 intro hK
 subst hK
 refine (alF (h rfl)).imp fun σ H Q ⟨p,S,ρ,s,e,h⟩=>?_
 refine aat s e h fun q H1 as xs S1 st s1 e1 r1 h1=>?_
 refine aeQ (r:=fun xs H Q=>xs.length≤sizeLine∧∀ t,H t=none→Q (.ref t) (upd H t (.lst xs))) (f:=fLst) (fun {p S H as c xs Q} s r e k=>?_) s1 r1 h1
 unfold fLst at e
 split at e
 ·rename_i hl
  cases e
  rw [r.length,← aaG] at hl
  exact ⟨hl,fun t ht=>k _ _ (abf ht) (aer s r hl ht)⟩
 ·cases e
end
end L2.Pp
namespace L2.Pp
open PySem PySem.Spec PyProof.Rows Bn
def sNil:MS:=fun ρ S=>.nx ρ S
def sSeq (a b:MS):MS:=fun ρ S=>match a ρ S with
 | .nx ρ1 S1=>b ρ1 S1
 | r=>r
def abx (m:ME):MS:=fun ρ S=>SRes.of (m ρ S) fun _ S1=>.nx ρ S1
def sRet (m:ME):MS:=fun ρ S=>SRes.of (m ρ S) fun v S1=>.rt v S1
def acD:MS:=fun _ S=>.rt (.pv .non) S
def sIf (c:MT) (a b:MS):MS:=fun ρ S=>SRes.of (c ρ S) fun t S1=>if t=true then a ρ S1 else b ρ S1
def sSet (i:Nat) (m:ME):MS:=fun ρ S=>SRes.of (m ρ S) fun v S1=>.nx (ρ.set i (some v)) S1
def sPar (i j:Nat) (m:MA):MS:=fun ρ S=>SRes.of (m ρ S) fun vs S1=>match vs with
 | [v,w]=>.nx ((ρ.set i (some v)).set j (some w)) S1
 | _=>.fail
abbrev GM:=PV→Rho→Option Rho
abbrev GMs:=List PV→Rho→Option Rho
def gN (i:Nat):GM:=fun v ρ=>some (ρ.set i (some (.pv v)))
def ae0:GMs:=fun vs ρ=>match vs with
 | []=>some ρ
 | _=>none
def aco (g:GM) (gs:GMs):GMs:=fun vs ρ=>match vs with
 | []=>none
 | v :: r=>match g v ρ with
  | some ρ1=>gs r ρ1
  | none=>none
def gT (n:Nat) (gs:GMs):GM:=fun v ρ=>match v with
 | .tup vs=>if vs.length=n then gs vs ρ else none
 | _=>none
def sAsg (g:GM) (m:ME):MS:=fun ρ S=>SRes.of (m ρ S) fun v S1=>match v with
 | .pv v=>match g v ρ with
  | some ρ1=>.nx ρ1 S1
  | none=>.fail
 | _=>.fail
abbrev Gd:=List (Nat × List PV)
def gOk (G:Gd) (S:Sto):Prop:=∀ g∈G,S[g.1]?=some (.lst g.2)
theorem acS (S:Sto):gOk [] S:=fun _ h=>nomatch h
abbrev MI:=Rho→Sto→Res (List PV × Gd)
open Classical in
noncomputable def acA (G:Gd) (g:GM) (mb:MS):List PV→Rho→Sto→SRes
 | [],ρ,S=>if gOk G S then .nx ρ S else .fail
 | x :: r,ρ,S=>if gOk G S then (match g x ρ with
  | none=>.fail
  | some ρ1=>match mb ρ1 S with
   | .nx ρ2 S2=>acA G g mb r ρ2 S2
   | .ct ρ2 S2=>acA G g mb r ρ2 S2
   | .bk ρ2 S2=>.nx ρ2 S2
   | .rt v S2=>.rt v S2
   | .exc n S2=>.exc n S2
   | .fail=>.fail) else .fail
noncomputable def sFor (mi:MI) (g:GM) (mb:MS):MS:=fun ρ S=>SRes.of (mi ρ S) fun xs S1=>acA xs.2 g mb xs.1 ρ S1
theorem abP {g:GM} {mb:MS} {ρ:Rho} {S:Sto}:acA [] g mb [] ρ S=.nx ρ S:=by
 unfold acA
 rw [if_pos (acS S)]
theorem abj {g:GM} {mb:MS} {x:PV} {r:List PV} {ρ:Rho} {S:Sto}:acA [] g mb (x :: r) ρ S=(match g x ρ with
  | none=>.fail
  | some ρ1=>match mb ρ1 S with
   | .nx ρ2 S2=>acA [] g mb r ρ2 S2
   | .ct ρ2 S2=>acA [] g mb r ρ2 S2
   | .bk ρ2 S2=>.nx ρ2 S2
   | .rt v S2=>.rt v S2
   | .exc n S2=>.exc n S2
   | .fail=>.fail):=by
 rw [acA,if_pos (acS S)]
def aa6 (c:MT) (mb:MS):Nat→Rho→Sto→SRes
 | 0,_,_=>.fail
 | n+1,ρ,S=>SRes.of (c ρ S) fun t S1=>if t=true then (match mb ρ S1 with
   | .nx ρ2 S2=>aa6 c mb n ρ2 S2
   | .ct ρ2 S2=>aa6 c mb n ρ2 S2
   | .bk ρ2 S2=>.nx ρ2 S2
   | .rt v S2=>.rt v S2
   | .exc n S2=>.exc n S2
   | .fail=>.fail) else .nx ρ S1
open Classical in
noncomputable def afi (c:MT) (mb:MS):MS:=fun ρ S=>if h:∃ n,aa6 c mb n ρ S≠.fail then aa6 c mb h.choose ρ S else .fail
theorem SRes.of_ok {α:Type} {r:Res α} {k k':α→Sto→SRes} (h:∀ a S,k a S≠.fail→k' a S=k a S) (n:SRes.of r k≠.fail):SRes.of r k'=SRes.of r k:=by
 cases r with
 | ok a S=>exact h a S n
 | exc=>rfl
 | fail=>rfl
theorem adC {c:MT} {mb:MS}:∀ {n:Nat} {ρ:Rho} {S:Sto},aa6 c mb n ρ S≠.fail→aa6 c mb (n+1) ρ S=aa6 c mb n ρ S
 | 0,_,_,h=>absurd rfl h
 | n+1,ρ,S,h=>by
  unfold aa6 at h
  rw [aa6]
  conv=>rhs; rw [aa6]
  refine SRes.of_ok (fun t S1 h1=>?_) h
  by_cases ht:t=true
  ·simp only [if_pos ht] at h1 ⊢
   cases z:mb ρ S1 with
   | nx ρ2 S2=>rw [z] at h1; exact adC h1
   | ct ρ2 S2=>rw [z] at h1; exact adC h1
   | _=>rfl
  ·simp only [if_neg ht] at h1 ⊢
theorem aeb {c:MT} {mb:MS} {n:Nat} {ρ:Rho} {S:Sto} (h:aa6 c mb n ρ S≠.fail):∀ k,aa6 c mb (n+k) ρ S=aa6 c mb n ρ S
 | 0=>rfl
 | k+1=>by
  have ih:=aeb h k
  rw [← Nat.add_assoc,adC (by rw [ih]; exact h),ih]
theorem afa {c:MT} {mb:MS} {n:Nat} {ρ:Rho} {S:Sto} {r:SRes} (e:aa6 c mb n ρ S=r) (h:r≠.fail):afi c mb ρ S=r:=by
 have h':∃ n,aa6 c mb n ρ S≠.fail:=⟨n,by rw [e]; exact h⟩
 unfold afi
 rw [dif_pos h']
 have e2:=h'.choose_spec
 rcases Nat.le_total n h'.choose with l | l
 ·obtain ⟨k,q⟩:=Nat.exists_eq_add_of_le l
  rw [q,aeb (by rw [e]; exact h),e]
 ·obtain ⟨k,q⟩:=Nat.exists_eq_add_of_le l
  have z:=aeb e2 k
  rw [← q,e] at z
  exact z.symm
section
variable {K:PySem.W.Frag} {cl:Str→Addr} {E:XK} {X:Cx} {a b c e tg:Expr} {es:List Expr} {m:ME} {mt:MT} {ms:MA} {b1 b2:MS} {st:Stmt} {sts sts':List Stmt} {pos:Pos}
theorem RepE.set {p:Ph} {H:Hp} {ρ:Rho} {σ:St} {v:AV} {x:V} (h:RepE K p H ρ σ) (r:RepA K p H v x) (i:Nat):RepE K p H (ρ.set i (some v)) (σ.set i (some x)):=by
 refine ⟨by rw [List.length_set,List.length_set,h.len],fun j u e=>?_⟩
 by_cases q:i=j
 ·subst q
  by_cases l:i < ρ.length
  ·rw [List.getElem?_set_self l] at e
   cases e
   exact ⟨x,List.getElem?_set_self (by rw [← h.len]; exact l),r⟩
  ·rw [List.getElem?_eq_none (by rw [List.length_set]; omega)] at e
   cases e
 ·rw [List.getElem?_set_ne q] at e ⊢
  exact h.at_ j u e
theorem aaA:PSsp K cl E X [] sNil:=fun _=>PSs.imp amD fun D σ H ⟨p,S,ρ,s,e,h⟩=>h p H σ s.step s e
theorem ab5.nxD {p:Ph} {H:Hp} {ρ:Rho} {S:Sto} {D:Ends} (h:ab5 K cl p H (.nx ρ S) D E) {σ:St} (s:Sim K p S H) (e:RepE K p H ρ σ):D.nx σ H:=h p H σ s.step s e
theorem aad (h1:PSp K cl E X st b1) (h2:PSsp K cl E X sts b2):PSsp K cl E X (st :: sts) (sSeq b1 b2):=by
 intro hK
 subst hK
 refine PSs.imp (akU (h1 rfl) (h2 rfl)) fun D σ H ⟨p,S,ρ,s,e,h⟩=>⟨p,S,ρ,s,e,?_⟩
 unfold sSeq at h
 cases z:b1 ρ S with
 | nx ρ1 S1 =>
  rw [z] at h
  exact fun q H' σ' stp sm ev=>⟨q,S1,ρ1,sm,ev,ab5.mono (r:=b2 ρ1 S1) h stp⟩
 | bk ρ1 S1=>rw [z] at h; exact h
 | ct ρ1 S1=>rw [z] at h; exact h
 | rt v S1=>rw [z] at h; exact h
 | exc n S1=>rw [z] at h; exact h
 | fail=>rw [z] at h; exact h
theorem aai (h1:PSp K cl E X st b1):PSsp K cl E X [st] b1:=fun hK=>ahf (h1 hK)
theorem acZ (he:PEp K cl E X e m) (hs:swapsWith e none pos.line X.env=pure false:=by rfl):PSp K cl E X (.Expr e pos) (abx m):=by
 intro hK
 subst hK
 refine PS.imp (alT (he rfl) hs) fun D σ H ⟨p,S,ρ,s,e,h⟩=>?_
 exact acL s e h fun q H' a b S' stp sm ev r k=>ab5.nxD k sm ev
theorem aau (he:PEp K cl E X e m):PSp K cl E X (.Return (some e) pos) (sRet m):=by
 intro hK
 subst hK
 refine PS.imp (anb (he rfl)) fun D σ H ⟨p,S,ρ,s,e,h⟩=>?_
 exact acL s e h fun q H' a b S' stp sm ev r k=>k q H' b sm.step sm r
theorem aaQ (hc:PTp K cl E X c mt) (ha:PSsp K cl E X sts b1) (hb:PSsp K cl E X sts' b2):PSp K cl E X (.If c sts sts' pos) (sIf mt b1 b2):=by
 intro hK
 subst hK
 refine PS.imp (aou (hc rfl) (ha rfl) (hb rfl)) fun D σ H ⟨p,S,ρ,s,e,h⟩=>?_
 refine acL s e h fun q H' a b S' stp sm ev r k=>?_
 cases r
 cases a with
 | true=>exact ⟨q,S',ρ,sm,ev,k⟩
 | false=>exact ⟨q,S',ρ,sm,ev,k⟩
theorem aas {i:Nat} {x:Str} {pos':Pos} (hN:X.N.Nodup) (hi:X.N[i]?=some x) (hx:Loc X.env.scope x) (he:PEp K cl E X e m) (hs:swapsWith e (some (.Name x pos')) pos.line X.env=pure false:=by rfl)
  (hf:X.fn x=true∨X.env.scope.names.lookup x=some .local:=by first | exact .inl rfl | exact .inr rfl | assumption):PSp K cl E X (.Assign [.Name x pos'] e pos) (sSet i m):=by
 intro hK
 subst hK
 refine PS.imp (ai7 hN hi hx (he rfl) hs hf) fun D σ H ⟨p,S,ρ,s,e,h⟩=>?_
 exact acL s e h fun q H' a b S' stp sm ev r k=>ab5.nxD k sm (ev.set r i)
theorem al4 {i j:Nat} {x y:Str} {px py pt:Pos} {kt k2 pt2} (hc:X.calm=true) (hN:X.N.Nodup) (hi:X.N[i]?=some x) (hj:X.N[j]?=some y) (hij:i≠j)
  (hx:X.env.scope.names.lookup x=some .local) (hy:X.env.scope.names.lookup y=some .local) (ha:PAp K cl E X [a,b] ms)
  (hw:swappedStores [.Tuple [.Name x px,.Name y py] kt pt] (.Tuple [a,b] k2 pt2) X.env=pure (some [x,y]))
  (hs:swapsWithSole [.Tuple [.Name x px,.Name y py] kt pt] (.Tuple [a,b] k2 pt2) pos.line X.env=pure false:=by rfl) :
  PSp K cl E X (.Assign [.Tuple [.Name x px,.Name y py] kt pt] (.Tuple [a,b] k2 pt2) pos) (sPar i j ms):=by
 intro hK
 subst hK
 refine PS.imp (ans hc hN hi hj hij hx hy (ha rfl) hw hs) fun D σ H ⟨p,S,ρ,s,e,h⟩=>?_
 refine acL s e h fun q H' vs xs S' stp sm ev r k=>?_
 match vs,xs,r with
 | [],_,.nil=>exact k.elim
 | [v],_,.cons _ .nil=>exact k.elim
 | [v,w],_,.cons (b:=x1) r1 (.cons (b:=x2) r2 .nil)=>exact ⟨x1,x2,rfl,ab5.nxD k sm ((ev.set r1 i).set r2 j)⟩
 | _ :: _ :: _ :: _,_,.cons _ (.cons _ (.cons _ _))=>exact k.elim
def gP (K:PySem.W.Frag) (g:GM):TG:=fun x σ H Q=>∃ p S ρ v ρ',Sim K p S H∧RepE K p H ρ σ∧Rep K p.c H v x∧g v ρ=some ρ'∧∀ σ',RepE K p H ρ' σ'→Q σ' H
def gPs (K:PySem.W.Frag) (g:GMs):TGs:=fun xs σ H Q=>∃ p S ρ vs ρ',Sim K p S H∧RepE K p H ρ σ∧Reps K p.c H vs xs∧g vs ρ=some ρ'∧∀ σ',RepE K p H ρ' σ'→Q σ' H
variable (K X)
def PGp (tg:Expr) (g:GM):Prop:=X.K=K→PG X tg (gP K g)
def PGsp (ts:List Expr) (g:GMs):Prop:=X.K=K→PGs X ts (gPs K g)
variable {K X}
theorem PG.imp {tg:Expr} {t t':TG} (h:PG X tg t) (i:∀ x σ H Q,t' x σ H Q→t x σ H Q):PG X tg t':=fun pins s σ H v u Q I r q=>h pins s σ H v u Q I r (i v σ H Q q)
theorem PGs.imp {ts:List Expr} {t t':TGs} (h:PGs X ts t) (i:∀ x σ H Q,t' x σ H Q→t x σ H Q):PGs X ts t':=fun pins s σ H v u Q I r q=>h pins s σ H v u Q I r (i v σ H Q q)
theorem aaL {i:Nat} {x:Str} (hN:X.N.Nodup) (hi:X.N[i]?=some x) (hx:Loc X.env.scope x) (hf:X.fn x=true∨X.env.scope.names.lookup x=some .local:=by first | exact .inl rfl | exact .inr rfl | assumption):PGp K X (.Name x pos) (gN i) :=
 fun _=>PG.imp (amV hN hi hx hf) fun x σ H Q ⟨p,S,ρ,v,ρ',s,ev,r,g,k⟩=>by
  cases g
  exact k _ (ev.set (v:=.pv v) r i)
theorem ah5:PGsp K X [] ae0:=fun _=>PGs.imp amQ fun xs σ H Q ⟨p,S,ρ,vs,ρ',s,ev,r,g,k⟩=>by
 cases vs with
 | nil =>
  cases g
  unfold Reps at r
  exact ⟨r,k _ ev⟩
 | cons _ _=>cases g
theorem adV {g:GM} {gs:GMs} (h1:PGp K X e g) (h2:PGsp K X es gs) (hs:(assignEach (e :: es) X.env).map (·.2)=assign e X.env :: (assignEach es X.env).map (·.2):=by rfl):PGsp K X (e :: es) (aco g gs):=by
 intro hK
 subst hK
 refine PGs.imp (ak6 (h1 rfl) (h2 rfl) hs) fun xs σ H Q ⟨p,S,ρ,vs,ρ',s,ev,r,g1,k⟩=>?_
 cases vs with
 | nil=>cases g1
 | cons v vr =>
  unfold Reps at r
  obtain ⟨x,xr,rfl,r1,r2⟩:=r
  unfold aco at g1
  cases z:g v ρ with
  | none=>simp only [z] at g1; cases g1
  | some ρ1 =>
   simp only [z] at g1
   exact ⟨x,xr,rfl,p,S,ρ,v,ρ1,s,ev,r1,z,fun σ' ev'=>⟨p,S,ρ1,vr,ρ',s,ev',r2,g1,k⟩⟩
theorem ajA {k:Nat} {gs:GMs} {n:Nat} (hc:X.calm=true) (h:PGsp K X es gs) (hn:(assignEach es X.env).length=n:=by rfl) (hst:(assignEach es X.env).findIdx? (·.1)=none:=by rfl):PGp K X (.Tuple es k pos) (gT n gs):=by
 intro hK
 subst hK
 refine PG.imp (anh hc (h rfl) hn hst) fun x σ H Q ⟨p,S,ρ,v,ρ',s,ev,r,g1,k⟩=>?_
 cases v with
 | tup vs =>
  unfold Rep at r
  obtain ⟨a,xs,rfl,t,z,r⟩:=r
  unfold gT at g1
  dsimp only at g1
  split at g1
  ·rename_i hl
   exact ⟨a,xs,rfl,t,r.length.symm.trans hl,p,S,ρ,vs,ρ',s,ev,r,g1,k⟩
  ·cases g1
 | _=>cases g1
theorem amf {g:GM} (he:PEp K cl E X e m) (hg:PGp K X tg g) (hs:swapsWithSole [tg] e pos.line X.env=pure false:=by rfl) (hw:swappedStores [tg] e X.env=pure none:=by rfl)
  (h1:(assignEach [tg] X.env).map (·.2)=[assign tg X.env]:=by rfl):PSp K cl E X (.Assign [tg] e pos) (sAsg g m):=by
 intro hK
 subst hK
 refine PS.imp (alA (he rfl) (hg rfl) hs hw h1) fun D σ H ⟨p,S,ρ,s,e,h⟩=>?_
 refine acL s e h fun q H' a b S' stp sm ev r k=>?_
 cases a with
 | ref k'=>exact k.elim
 | pv v =>
  dsimp only at k
  cases z:g v ρ with
  | none=>simp only [z] at k; exact k.elim
  | some ρ1 =>
   simp only [z] at k
   exact ⟨q,S',ρ,v,ρ1,sm,ev,r,z,fun σ' ev'=>ab5.nxD k sm ev'⟩
def ItOk (K:PySem.W.Frag) (p:Ph) (H:Hp) (xs:List PV × Gd) (J:It):Prop:=xs.1.length≤sizeLine∧∀ q H1 S1,Step p H q H1→Sim K q S1 H1→gOk xs.2 S1 →
 (∀ (i:Nat) (v:PV),xs.1[i]?=some v→J.go i H1∧∀ x H2,J.yld i H1 x H2→Same H1 H2∧Rep K q.c H2 v x)∧J.stop xs.1.length H1
theorem ItOk.step {p q:Ph} {H H':Hp} {xs:List PV × Gd} {J:It} (h:ItOk K p H xs J) (s:Step p H q H'):ItOk K q H' xs J:=⟨h.1,fun r H1 S1 t=>h.2 r H1 S1 (s.trans t)⟩
variable (K cl E X)
def PIp (tg iter:Expr) (m:MI):Prop:=X.K=K→PI X tg iter (tP K cl E (ItOk K) m)
variable {K cl E X}
theorem PI.imp {tg iter:Expr} {t t':TI} (h:PI X tg iter t) (i:∀ σ H Q,t' σ H Q→t σ H Q):PI X tg iter t':=fun pins s σ H R I q=>h pins s σ H R I (i σ H R q)
def iAny (K:PySem.W.Frag) (tl:TE):TI:=fun σ H R=>tl σ H fun x H1=>∃ a,x=.ref a∧(((∃ xs,SqL K H1 a xs)∧R (Itl K a) H1)∨((∃ xs,SqT K H1 a xs)∧R (Itt K a) H1))
theorem am0 {l:Expr} {tl:TE} (hl:PE X l tl):PI X tg l (iAny X.K tl):=by
 intro pins s σ H R I h
 refine thn (hl pins s σ H _ I h) fun v s1 ⟨x,H1,I1,r1,q1⟩=>?_
 obtain ⟨a,e,q⟩:=q1
 subst e
 cases r1
 rcases q with ⟨⟨xs,hq⟩,q⟩ | ⟨⟨xs,hq⟩,q⟩
 ·obtain ⟨its,rv,p,hz⟩:=I1.list hq
  refine wpAny_pyIter_list p.isList ?_
  refine ⟨s1.heap.objs.size,[s1.heap.objs.size],_,_,H1,rfl,I1.kept (t':=s1.toks) fun b o e=>Heap.get?_push_of_some _ e,ajk a _,⟨_,Heap.get?_push_size _ rfl,rfl,rfl⟩,fun b hb=>?_,q⟩
  have e:b=s1.heap.objs.size:=by simpa using hb
  subst e
  exact I1.fpOk (Nat.le_refl _) (I1.hok.fresh (Nat.le_refl _))
 ·obtain ⟨its,rv,p,hz⟩:=I1.tuple hq
  refine wpAny_pyIter_tuple (show s1.heap.IsTuple a its.toArray from p) ?_
  refine ⟨s1.heap.objs.size,[s1.heap.objs.size],_,_,H1,rfl,I1.kept (t':=s1.toks) fun b o e=>Heap.get?_push_of_some _ e,aiK a _,⟨_,Heap.get?_push_size _ rfl,rfl,rfl⟩,fun b hb=>?_,q⟩
  have e:b=s1.heap.objs.size:=by simpa using hb
  subst e
  exact I1.fpOk (Nat.le_refl _) (I1.hok.fresh (Nat.le_refl _))
def ab2:AV→Sto→Res (List PV × Gd)
 | .pv (.lst xs),S=>.ok (xs,[]) S
 | .pv (.tup xs),S=>.ok (xs,[]) S
 | .ref k,S=>match S[k]? with
  | some (.lst xs)=>.ok (xs,[(k,xs)]) S
  | _=>.fail
 | _,_=>.fail
def mIt (m:ME):MI:=fun ρ S=>(m ρ S).bind ab2
theorem aoj {p:Ph} {H:Hp} {xs:List PV} {a:Addr} {vs:List V} (l:LAt K p.c H a vs) (z:vs.length≤sizeLine) (r:Reps K p.c H xs vs):ItOk K p H (xs,[]) (Itl K a):=by
 refine ⟨by rw [r.length]; exact z,fun q H1 S1 st _ _=>⟨fun i v e=>?_,?_⟩⟩
 ·have l1:=(st.lat l).sq
  obtain ⟨x,e1,r1⟩:=(st.reps r).get e
  refine ⟨⟨vs,x,l1,e1⟩,fun y H2 hy=>?_⟩
  obtain ⟨rfl,hy⟩:=hy
  have:=(hy vs l1).symm.trans e1
  cases this
  exact ⟨Same.refl _,r1⟩
 ·exact ⟨vs,(st.lat l).sq,by rw [r.length]; exact Nat.le_refl _⟩
theorem am4 {p:Ph} {H:Hp} {xs:List PV} {a:Addr} {vs:List V} (l:SqT K H a vs) (z:vs.length≤sizeLine) (r:Reps K p.c H xs vs):ItOk K p H (xs,[]) (Itt K a):=by
 refine ⟨by rw [r.length]; exact z,fun q H1 S1 st _ _=>⟨fun i v e=>?_,?_⟩⟩
 ·have l1:=st.tup l
  obtain ⟨x,e1,r1⟩:=(st.reps r).get e
  refine ⟨⟨vs,x,l1,e1⟩,fun y H2 hy=>?_⟩
  obtain ⟨rfl,hy⟩:=hy
  have:=(hy vs l1).symm.trans e1
  cases this
  exact ⟨Same.refl _,r1⟩
 ·exact ⟨vs,st.tup l,by rw [r.length]; exact Nat.le_refl _⟩
theorem anW {p:Ph} {H:Hp} {xs:List PV} {a:Addr} {k:Nat} {n:xs.length≤sizeLine} (hf:p.f[k]?=some a):ItOk K p H (xs,[(k,xs)]) (Itl K a):=by
 refine ⟨n,fun q H1 S1 st sm g=>?_⟩
 have e0:S1[k]?=some (.lst xs):=g (k,xs) List.mem_cons_self
 obtain ⟨vs,h1,l1,r1⟩:=sm.obj k a _ (st.at_ hf) e0
 refine ⟨fun i v e=>?_,?_⟩
 ·obtain ⟨x,e1,r2⟩:=r1.get e
  refine ⟨⟨vs,x,SqL.of h1,e1⟩,fun y H2 hy=>?_⟩
  obtain ⟨rfl,hy⟩:=hy
  have:=(hy vs (SqL.of h1)).symm.trans e1
  cases this
  exact ⟨Same.refl _,r2⟩
 ·exact ⟨vs,SqL.of h1,by rw [r1.length]; exact Nat.le_refl _⟩
theorem abS (h:PEp K cl E X e m):PIp K cl E X tg e (mIt m):=by
 intro hK
 subst hK
 refine PI.imp (am0 (h rfl)) fun σ H R ⟨p,S,ρ,s,ev,h⟩=>?_
 refine aat s ev h fun q H' v x S' stp sm ev r k=>?_
 cases v with
 | ref j =>
  obtain ⟨a,e,rfl⟩:=r
  unfold ab2 at k
  dsimp only at k
  cases z:S'[j]? with
  | none=>rw [z] at k; exact k.elim
  | some o =>
   cases o with
   | lst xs =>
    rw [z] at k
    obtain ⟨vs,h1,l1,r1⟩:=sm.obj j a _ e z
    exact ⟨a,rfl,.inl ⟨⟨vs,SqL.of h1⟩,aaO.ret (R:=ItOk X.K) k sm (anW (n:=by rw [r1.length]; exact l1) e)⟩⟩
   | lol xss=>rw [z] at k; exact k.elim
 | pv v =>
  cases v with
  | lst xs =>
   have r:Rep X.K q.c H' (.lst xs) x:=r
   unfold Rep at r
   obtain ⟨a,vs,rfl,l,z,r⟩:=r
   exact ⟨a,rfl,.inl ⟨⟨vs,l.sq⟩,aaO.ret (R:=ItOk X.K) k sm (aoj l z r)⟩⟩
  | tup xs =>
   have r:Rep X.K q.c H' (.tup xs) x:=r
   unfold Rep at r
   obtain ⟨a,vs,rfl,l,z,r⟩:=r
   exact ⟨a,rfl,.inr ⟨⟨vs,l⟩,aaO.ret (R:=ItOk X.K) k sm (am4 l z r)⟩⟩
  | _=>exact k.elim
def acn (lo:Int) (n:Nat):List PV:=(List.range n).map fun i=>.int (lo+(i:Nat))
noncomputable def rng1:List AV→Sto→Res (List PV × Gd)
 | [.pv (.int j)],S1=>@ite _ (j≤16777216∧-16777216≤j) (Classical.propDecidable _) (.ok (acn 0 j.toNat,[]) S1) .fail
 | _,_=>.fail
noncomputable def acJ (ms:MA):MI:=fun ρ S=>(ms ρ S).bind rng1
theorem aof {p:Ph} {H:Hp} {lo:Int} {n:Nat} (h:n≤sizeLine):ItOk K p H (acn lo n,[]) (Itr lo n):=by
 have hl:(acn lo n).length=n:=by unfold acn; rw [List.length_map,List.length_range]
 refine ⟨by show (acn lo n).length≤_; rw [hl]; exact h,fun q H1 S1 st _ _=>⟨fun i v e=>?_,?_⟩⟩
 ·have hi:i < n:=by
   have:=(List.getElem?_eq_some_iff.mp (show (acn lo n)[i]?=some v from e)).1
   omega
  refine ⟨hi,fun x H2 hy=>?_⟩
  obtain ⟨rfl,rfl⟩:=hy
  have e:(acn lo n)[i]?=some v:=e
  unfold acn at e
  rw [List.getElem?_map,List.getElem?_range hi] at e
  cases e
  refine ⟨Same.refl _,?_⟩
  unfold Rep
  rfl
 ·show n≤(acn lo n).length
  rw [hl]
  exact Nat.le_refl n
theorem aej {p:Pos} (hg:Gl X "range") (hm:X.mg "range"=none) (ha:PAp K cl E X [a] ms) (hs:starEach [a] X.env=[(false,eval a X.env)]:=by rfl):PIp K cl E X tg (.Call (.Name "range" p) [a] [] pos) (acJ ms):=by
 intro hK
 subst hK
 refine PI.imp (aiS hg hm (ha rfl) hs) fun σ H R ⟨p,S,ρ,s,ev,h⟩=>?_
 refine aat s ev h fun q H' vs xs S' stp sm ev r k=>?_
 unfold rng1 at k
 split at k
 ·rename_i j
  cases r with
  | cons r1 r2 =>
   cases r2
   rename_i x
   have e:x=.int j:=by
    have r1:Rep X.K q.c H' (.int j) x:=r1
    unfold Rep at r1
    exact r1
   subst e
   split at k
   ·rename_i hj
    have hz:=aaG
    exact ⟨j,rfl,by omega,by omega,aaO.ret (R:=ItOk X.K) k sm (aof (by omega))⟩
   ·exact k.elim
 ·exact k.elim
theorem aec {mi:MI} {g:GM} (hp:PassesOwn (model X.prog X.w) X.A X.env X.xe) (hc:X.calm=true) (hi:PIp K cl E X tg e mi) (hg:PGp K X tg g) (hb:PSsp K cl E X sts b1)
  (hs:∀ x,foldedSetIterable e X.env x=pure x:=by intro _; rfl):PSp K cl E X (.For tg e sts [] pos) (sFor mi g b1):=by
 intro hK
 subst hK
 refine PS.imp (aol hp hc (hi rfl) (hg rfl) (hb rfl) hs) fun D σ H ⟨p,S,ρ,s,ev,h⟩=>?_
 refine acL s ev h fun q H' xg J S' stp sm ev it k=>?_
 obtain ⟨xs,G⟩:=xg
 refine ⟨fun i n σ H=>n=xs.length - i∧i≤xs.length∧∃ p S ρ,Sim X.K p S H∧RepE X.K p H ρ σ∧ItOk X.K p H (xs,G) J∧ab5 X.K cl p H (acA G g b1 (xs.drop i) ρ S) D E,⟨xs.length,by simp,Nat.zero_le _,q,S',ρ,sm,ev,it,by simpa using k⟩,?_⟩
 rintro i n σ1 H1 ⟨rfl,hi,p1,S1,ρ1,sm1,ev1,it1,k1⟩
 by_cases hlt:i < xs.length
 ·have hx:xs[i]?=some xs[i]:=List.getElem?_eq_getElem hlt
  rw [List.drop_eq_getElem_cons hlt] at k1
  unfold acA at k1
  split at k1
  ·rename_i gk
   obtain ⟨g1,y1⟩:=(it1.2 p1 H1 S1 sm1.step sm1 gk).1 i _ hx
   cases z:g xs[i] ρ1 with
   | none=>simp only [z] at k1; exact k1.elim
   | some ρ2 =>
    simp only [z] at k1
    refine .inr ⟨g1,fun σ' H'=>i+1≤xs.length∧∃ p S ρ,Sim X.K p S H'∧RepE X.K p H' ρ σ'∧ItOk X.K p H' (xs,G) J∧ab5 X.K cl p H' (acA G g b1 (xs.drop (i+1)) ρ S) D E,fun σ' H' hN=>⟨xs.length - (i+1),by omega,rfl,hN⟩,fun x H2 hy=>?_⟩
    obtain ⟨same,rx⟩:=y1 x H2 hy
    have st2:=sm1.same same
    have sm2:=sm1.ofSame same
    refine ⟨p1,S1,ρ1,xs[i],ρ2,sm2,st2.repE ev1,rx,z,fun σ3 ev3=>⟨p1,S1,ρ2,sm2,ev3,?_⟩⟩
    have it2:=it1.step st2
    cases y:b1 ρ2 S1 with
    | nx ρ4 S4 =>
     rw [y] at k1
     exact fun q5 H5 σ5 st5 sm5 ev5=>⟨hlt,q5,S4,ρ4,sm5,ev5,it2.step st5,ab5.mono (r:=acA G g b1 (xs.drop (i+1)) ρ4 S4) k1 (st2.trans st5)⟩
    | ct ρ4 S4 =>
     rw [y] at k1
     exact fun q5 H5 σ5 st5 sm5 ev5=>⟨hlt,q5,S4,ρ4,sm5,ev5,it2.step st5,ab5.mono (r:=acA G g b1 (xs.drop (i+1)) ρ4 S4) k1 (st2.trans st5)⟩
    | bk ρ4 S4=>rw [y] at k1; exact ab5.mono (r:=.nx ρ4 S4) k1 st2
    | rt v S4=>rw [y] at k1; exact ab5.mono (r:=.rt v S4) k1 st2
    | exc v S4=>rw [y] at k1; exact ab5.mono (r:=.exc v S4) k1 st2
    | fail=>rw [y] at k1; exact k1.elim
  ·exact k1.elim
 ·have e:i=xs.length:=by omega
  subst e
  rw [List.drop_length] at k1
  unfold acA at k1
  split at k1
  ·rename_i gk
   exact .inl ⟨(it1.2 p1 H1 S1 sm1.step sm1 gk).2,ab5.nxD k1 sm1 ev1⟩
  ·exact k1.elim
theorem aeX (hp:PassesOwn (model X.prog X.w) X.A X.env X.xe) (hc:PTp K cl E X c mt) (hb:PSsp K cl E X sts b1):PSp K cl E X (.While c sts [] pos) (afi mt b1):=by
 intro hK
 subst hK
 refine PS.imp (alh hp (hc rfl) (hb rfl)) fun D σ H ⟨p,S,ρ,s,ev,h⟩=>?_
 unfold afi at h
 split at h
 ·rename_i hh
  refine ⟨fun n σ H=>∃ p S ρ,Sim X.K p S H∧RepE X.K p H ρ σ∧ab5 X.K cl p H (aa6 mt b1 n ρ S) D E,⟨_,p,S,ρ,s,ev,h⟩,?_⟩
  rintro n σ1 H1 ⟨p1,S1,ρ1,sm1,ev1,k1⟩
  cases n with
  | zero=>exact k1.elim
  | succ n =>
   unfold aa6 at k1
   refine acL sm1 ev1 k1 fun q H2 t t' S2 stp sm2 ev2 r k2=>?_
   cases r
   cases t with
   | true =>
    rw [if_pos rfl] at k2 ⊢
    refine ⟨fun σ' H'=>∃ p S ρ,Sim X.K p S H'∧RepE X.K p H' ρ σ'∧ab5 X.K cl p H' (aa6 mt b1 n ρ S) D E,fun σ' H' hN=>⟨n,Nat.lt_succ_self n,hN⟩,q,S2,ρ1,sm2,ev2,?_⟩
    cases y:b1 ρ1 S2 with
    | nx ρ4 S4 =>
     rw [y] at k2
     exact fun q5 H5 σ5 st5 sm5 ev5=>⟨q5,S4,ρ4,sm5,ev5,ab5.mono (r:=aa6 mt b1 n ρ4 S4) k2 st5⟩
    | ct ρ4 S4 =>
     rw [y] at k2
     exact fun q5 H5 σ5 st5 sm5 ev5=>⟨q5,S4,ρ4,sm5,ev5,ab5.mono (r:=aa6 mt b1 n ρ4 S4) k2 st5⟩
    | bk ρ4 S4=>rw [y] at k2; exact k2
    | rt v S4=>rw [y] at k2; exact k2
    | exc v S4=>rw [y] at k2; exact k2
    | fail=>rw [y] at k2; exact k2.elim
   | false =>
    rw [if_neg Bool.false_ne_true] at k2 ⊢
    exact ab5.nxD k2 sm2 ev2
 ·exact h.elim
end
end L2.Pp
namespace L2.Pp
open PySem PySem.Spec PyProof.Rows Bn
def aa5 (n:Nat) (xs:List AV):Rho:=xs.map some++List.replicate (n - xs.length) none
def ab3 (n:Nat):AV→Sto→Res AV
 | .pv v,S=>.ok (.pv v) (S.take n)
 | .ref k,S=>if k < n then .ok (.ref k) (S.take n) else match S[k]? with
  | some (.lst xs)=>.ok (.ref n) (S.take n++[.lst xs])
  | _=>.fail
def frz (n:Nat):Res AV→Res AV
 | .ok (.ref k) S=>if k < n then .ok (.ref k) S else match S[k]? with
  | some (.lst xs)=>.ok (.pv (.lst xs)) (S.take n)
  | _=>.fail
 | r=>r
def aa0 (n:Nat):SRes→Res AV
 | .rt v S=>ab3 n v S
 | .nx _ S=>.ok (.pv .non) (S.take n)
 | .exc e S=>.exc e (S.take n)
 | _=>.fail
def fnM (np n:Nat) (b:MS) (xs:List AV) (S:Sto):Res AV:=if xs.length=np then aa0 S.length (b (aa5 n xs) S) else .fail
def aar {α:Type}:Res α→Res α
 | .ok a S=>.ok a S
 | _=>.fail
abbrev FM:=List AV→Sto→Res AV
def aaN (f:FM) (ds:List PV) (ms:MA):ME:=fun ρ S=>(ms ρ S).bind fun xs S1=>frz S1.length (f (xs++ds.map .pv) S1)
def aak (f:FM) (ds:List PV) (ms:MA):ME:=fun ρ S=>(ms ρ S).bind fun xs S1=>frz S1.length (aar (f (xs++ds.map .pv) S1))
def abo (f:FM) (ds:List PV) (ms:MA):ME:=fun ρ S=>(ms ρ S).bind fun xs S1=>aar (f (xs++ds.map .pv) S1)
def spP (K:PySem.W.Frag) (cl:Str→Addr) (f:FM):Sp:=fun vs H Q E=>∃ p S xs,Sim K p S H∧ads K p H xs vs∧aaO K cl (RepA K) p H (f xs S) Q E
def spP0 (K:PySem.W.Frag) (cl:Str→Addr) (f:FM):Sp:=fun vs H Q _=>spP K cl f vs H Q E0
section
variable {K:PySem.W.Frag} {cl:Str→Addr} {p q:Ph} {H H':Hp} {S S':Sto}
theorem afR {c c':Addr→Prop} (h:∀ a,c a→c' a) {a:Addr} {vs:List V} (l:LAt K c' H a vs):LAt K c H a vs:=by
 rcases l with ⟨l,n⟩ | l | l
 ·exact .inl ⟨l,fun z=>n (h a z)⟩
 ·exact .inr (.inl l)
 ·exact .inr (.inr l)
theorem acI {c c':Addr→Prop} (h:∀ a,c a→c' a) {ps:List PV} {vs:List V} (r:Reps K c' H ps vs):Reps K c H ps vs:=Reps.mono (fun _ _ t=>t) (fun _ _ l=>afR h l) ps vs r
theorem aiL {c c':Addr→Prop} (h:∀ a,c a→c' a) {v:PV} {x:V} (r:Rep K c' H v x):Rep K c H v x:=Rep.mono (fun _ _ t=>t) (fun _ _ l=>afR h l) v x r
theorem ahj {f g:List Addr} (h:f <+: g):g.take f.length=f:=by
 obtain ⟨t,e⟩:=h
 rw [← e,List.take_left]
theorem ae3 {α:Type}:∀ {l:List α} {i j:Nat} {a:α},l.Nodup→l[i]?=some a→l[j]?=some a→i=j
 | [],i,j,a,_,e,_=>by simp at e
 | b :: l,0,0,a,_,_,_=>rfl
 | b :: l,0,j+1,a,n,e,f=>by
  simp at e f
  subst e
  exact absurd (List.mem_of_getElem? f) (List.nodup_cons.mp n).1
 | b :: l,i+1,0,a,n,e,f=>by
  simp at e f
  subst f
  exact absurd (List.mem_of_getElem? e) (List.nodup_cons.mp n).1
 | b :: l,i+1,j+1,a,n,e,f=>by
  exact congrArg (·+1) (ae3 (l:=l) (a:=a) (List.nodup_cons.mp n).2 (by simpa using e) (by simpa using f))
theorem Sim.cutX (D:Addr→Prop) (s:Sim K p S H) (st:Step p H q H') (s':Sim K q S' H') (hD:∀ b,D b→H b=none) (hq:(∀ b,D b→b∈q.f)∨∀ k xss,S'[k]?=some (.lol xss)→¬ k < S.length) :
  let r:Ph:=⟨p.f,fun b=>q.w b∧¬ D b,fun b=>q.c b∧¬ D b⟩
  Step p H r H'∧Sim K r (S'.take S.length) H':=by
 intro r
 have nD:∀ a,p.c a→¬ D a:=fun a c d=>by
  obtain ⟨o,ho,_⟩:=s.mu a c
  rw [hD a d] at ho
  cases ho
 have le:S.length≤S'.length:=by
  have:=st.pre.length_le
  rw [← s.len,← s'.len]
  exact this
 refine ⟨⟨s.wc,s.mu,List.prefix_rfl,fun a h=>⟨st.mw a h,nD a (s.wc a h)⟩,fun a h=>⟨st.mono a h,nD a h⟩,fun _ h g=>absurd h g,fun a h=>st.nw a h.1,fun a h=>st.nc a h.1,st.keep⟩,s.nd,by rw [s.len,List.length_take]; omega,fun a h=>⟨st.mw a (s.sub a h),nD a (s.wc a (s.sub a h))⟩,fun a h=>⟨s'.wc a h.1,h.2⟩,fun a h=>s'.mu a h.1,fun k a o e1 e2=>?_⟩
 have hk:k < S.length:=by
  have:=(List.getElem?_eq_some_iff.mp e1).1
  rw [← s.len]
  exact this
 have e2':S'[k]?=some o:=by
  rw [List.getElem?_take,if_pos hk] at e2
  exact e2
 have z:=s'.obj k a o (st.at_ e1) e2'
 have shr:∀ xs vs,Reps K q.c H' xs vs→Reps K r.c H' xs vs:=fun xs vs=>acI (fun b h=>h.1)
 have sub:∀ b,b ∉ q.f→b ∉ p.f:=fun b n h=>n (st.pre.subset h)
 rcases hq with hq | hq
 ·exact z.mono (fun _ e=>e) (fun b w f=>⟨⟨⟨w,fun d=>f (hq b d)⟩,sub b f⟩,fun _ e=>e⟩) shr
 ·cases o with
  | lst xs =>
   obtain ⟨vs,e,l,g⟩:=z
   exact ⟨vs,e,l,shr xs vs g⟩
  | lol xss=>exact absurd hk (hq k xss e2')
theorem Sim.cut (s:Sim K p S H) (st:Step p H q H') (s':Sim K q S' H'):Step p H ⟨p.f,fun b=>q.w b∧¬ False,fun b=>q.c b∧¬ False⟩ H'∧Sim K ⟨p.f,fun b=>q.w b∧¬ False,fun b=>q.c b∧¬ False⟩ (S'.take S.length) H' :=
 s.cutX (fun _=>False) st s' (fun _ h=>h.elim) (.inl fun _ h=>h.elim)
theorem agx (s:Sim K p S H) (st:Step p H q H') (sm:Sim K q S' H') {k:Nat} {a:Addr} (e:q.f[k]?=some a) (hk:¬ k < S.length):a ∉ p.f∧H a=none∧¬ p.c a:=by
 have na:a ∉ p.f:=fun hm=>by
  obtain ⟨j,hj,ej⟩:=List.getElem_of_mem hm
  have e2:q.f[j]?=some a:=st.at_ (by rw [List.getElem?_eq_getElem hj,ej])
  have hjk:j=k:=ae3 sm.nd e2 e
  rw [s.len] at hj
  omega
 have hn:=st.nf a (List.mem_of_getElem? e) na
 refine ⟨na,hn,fun c=>?_⟩
 obtain ⟨o,ho,_⟩:=s.mu a c
 rw [hn] at ho
 cases ho
theorem adN {r:Res AV} {Q:VK} {E:XK} (s:Sim K p S H) (h:aaO K cl (RepA K) p H (frz S.length r) Q E):aaO K cl (RepA K) p H r Q E:=by
 cases r with
 | exc n S1=>exact h
 | fail=>exact h
 | ok v S1 =>
  cases v with
  | pv v=>exact h
  | ref k =>
   have h:aaO K cl (RepA K) p H (if k < S.length then .ok (.ref k) S1 else match S1[k]? with
    | some (.lst xs)=>.ok (.pv (.lst xs)) (S1.take S.length)
    | _=>.fail) Q E:=h
   split at h
   ·exact h
   ·rename_i hk
    cases z:S1[k]? with
    | none=>rw [z] at h; exact h.elim
    | some o =>
     cases o with
     | lol xss=>rw [z] at h; exact h.elim
     | lst xs =>
      rw [z] at h
      intro q H' x st sm r
      obtain ⟨a,e,rfl⟩:=r
      obtain ⟨na,hn,nc⟩:=agx s st sm e hk
      obtain ⟨st1,sm1⟩:=s.cutX (fun b=>b=a) st sm (fun b d=>d ▸ hn) (.inl fun b d=>d ▸ List.mem_of_getElem? e)
      obtain ⟨vs,h1,l,r⟩:=sm.obj k a _ e z
      refine h _ H' (.ref a) st1 sm1 ?_
      show Rep K (fun b=>q.c b∧¬ b=a) H' (.lst xs) (.ref a)
      unfold Rep
      exact ⟨a,vs,rfl,.inl ⟨h1,fun d=>d.2 rfl⟩,l,acI (fun b h=>h.1) r⟩
theorem aeg {r:SRes} {Q:VK} {E:XK} (s:Sim K p S H) (h:aaO K cl (RepA K) p H (aa0 S.length r) Q E):ab5 K cl p H r { nx:=fun _ H'=>Q .non H',rt:=Q } E:=by
 cases r with
 | nx ρ S1 =>
  intro q H' σ st sm ev
  obtain ⟨st1,sm1⟩:=s.cut st sm
  exact h _ H' .non st1 sm1 (by show Rep K (fun b=>q.c b∧¬ False) H' .non .non; unfold Rep; rfl)
 | exc n S1 =>
  intro q H' st sm
  obtain ⟨st1,sm1⟩:=s.cut st sm
  exact h _ H' st1 sm1
 | rt v S1 =>
  intro q H' x st sm r
  obtain ⟨st1,sm1⟩:=s.cut st sm
  cases v with
  | pv v=>exact h _ H' x st1 sm1 (show Rep K (fun b=>q.c b∧¬ False) H' v x from aiL (fun b h=>h.1) r)
  | ref k =>
   obtain ⟨a,e,rfl⟩:=r
   have h:aaO K cl (RepA K) p H (if k < S.length then .ok (.ref k) (S1.take S.length) else match S1[k]? with
    | some (.lst xs)=>.ok (.ref S.length) (S1.take S.length++[.lst xs])
    | _=>.fail) Q E:=h
   split at h
   ·rename_i hk
    refine h _ H' (.ref a) st1 sm1 ⟨a,?_,rfl⟩
    show p.f[k]?=some a
    have hf:=ahj st.pre
    rw [← hf,List.getElem?_take,if_pos (by rw [s.len]; exact hk)]
    exact e
   ·rename_i hk
    cases z:S1[k]? with
    | none=>rw [z] at h; exact h.elim
    | some o =>
     cases o with
     | lol xss=>rw [z] at h; exact h.elim
     | lst xs =>
      rw [z] at h
      obtain ⟨vs,h1,l,r⟩:=sm.obj k a _ e z
      obtain ⟨na,hn,nc⟩:=agx s st sm e hk
      have l1:(S1.take S.length).length=S.length:=by rw [← sm1.len,← s.len]
      have ma:a∈q.f:=List.mem_of_getElem? e
      refine h ⟨p.f++[a],q.w,q.c⟩ H' (.ref a) ⟨s.wc,s.mu,⟨[a],rfl⟩,st.mw,st.mono,fun b hb n=>?_,st.nw,st.nc,st.keep⟩ ⟨?_,?_,fun b hb=>?_,sm.wc,sm.mu,fun j b o e1 e2=>?_⟩ ⟨a,?_,rfl⟩
      ·rcases List.mem_append.mp hb with z | z
       ·exact absurd z n
       ·have:b=a:=by simpa using z
        rw [this]
        exact hn
      ·show (p.f++[a]).Nodup
       rw [List.nodup_append]
       refine ⟨s.nd,by simp,fun b hb c hc z=>?_⟩
       have:c=a:=by simpa using hc
       exact na (this ▸ z ▸ hb)
      ·show (p.f++[a]).length=_
       rw [List.length_append,List.length_append,l1,s.len]
       rfl
      ·rcases List.mem_append.mp hb with z | z
       ·exact st.mw b (s.sub b z)
       ·have:b=a:=by simpa using z
        rw [this]
        exact sm.sub a ma
      ·by_cases hj:j < S.length
       ·have e1':p.f[j]?=some b:=by
         have e1:(p.f++[a])[j]?=some b:=e1
         rwa [List.getElem?_append_left (by rw [s.len]; exact hj)] at e1
        rw [List.getElem?_append_left (by rw [l1]; exact hj),List.getElem?_take,if_pos hj] at e2
        refine (sm.obj j b o (st.at_ e1') e2).mono (fun _ e=>e) (fun c w f=>⟨⟨w,fun m=>?_⟩,fun _ e=>e⟩) fun _ _ r=>r
        rcases List.mem_append.mp m with z | z
        ·exact f (st.pre.subset z)
        ·have:c=a:=by simpa using z
         exact f (this ▸ ma)
       ·have hj':j=S.length:=by
         have:=(List.getElem?_eq_some_iff.mp e2).1
         rw [List.length_append,l1] at this
         simp at this
         omega
        subst hj'
        rw [List.getElem?_append_right (by rw [l1]; exact Nat.le_refl _),l1,Nat.sub_self] at e2
        have e1:(p.f++[a])[S.length]?=some b:=e1
        rw [← s.len,List.getElem?_append_right (Nat.le_refl _),Nat.sub_self] at e1
        cases e1
        cases e2
        exact ⟨vs,h1,l,r⟩
      ·show (p.f++[a])[S.length]?=some a
       rw [← s.len,List.getElem?_append_right (Nat.le_refl _),Nat.sub_self]
       rfl
 | bk ρ S1=>exact h.elim
 | ct ρ S1=>exact h.elim
 | fail=>exact h.elim
theorem aeh {N:List Str} {xs:List AV} {vs:List V} (r:ads K p H xs vs):RepE K p H (aa5 N.length xs) (L2.start N vs):=by
 have go:∀ {xs:List AV} {vs:List V},ads K p H xs vs→xs.length=vs.length:=fun {xs vs} r=>by
  induction r with
  | nil=>rfl
  | cons _ _ ih=>rw [List.length_cons,List.length_cons,ih]
 have get:∀ {xs:List AV} {vs:List V},ads K p H xs vs→∀ (i:Nat) (v:AV),xs[i]?=some v→∃ x,vs[i]?=some x∧RepA K p H v x:=fun {xs vs} r=>by
  induction r with
  | nil=>intro i v e; simp at e
  | cons h _ ih =>
   intro i v e
   cases i with
   | zero =>
    simp at e
    subst e
    exact ⟨_,rfl,h⟩
   | succ i=>simpa using ih i v (by simpa using e)
 have hl:=go r
 refine ⟨by unfold aa5 L2.start; simp [hl],fun i v e=>?_⟩
 unfold aa5 at e
 unfold L2.start
 by_cases hi:i < xs.length
 ·rw [List.getElem?_append_left (by simpa using hi),List.getElem?_map] at e
  cases z:xs[i]? with
  | none=>rw [z] at e; cases e
  | some u =>
   rw [z] at e
   cases e
   obtain ⟨x,e1,e2⟩:=get r i v z
   refine ⟨x,?_,e2⟩
   rw [List.getElem?_append_left (by rw [List.length_map,← hl]; exact hi),List.getElem?_map,e1]
   rfl
 ·rw [List.getElem?_append_right (by rw [List.length_map]; omega),List.getElem?_replicate] at e
  split at e
  ·cases e
  ·cases e
end
section
variable {P:Program} {w:World} {K:PySem.W.Frag} {mg:Str→Option Value} {base:Heap} {cl:Str→Addr}
theorem aj0 {K:PySem.W.Frag} {p:Ph} {H:Hp} {xs:List AV} {vs:List V} (h:ads K p H xs vs):xs.length=vs.length:=by
 induction h with
 | nil=>rfl
 | cons _ _ ih=>rw [List.length_cons,List.length_cons,ih]
theorem akc {np n:Nat} {b:MS} {vs:List V} {H:Hp} {Q:VK} {E:XK} (h:spP K cl (fnM np n b) vs H Q E):vs.length=np:=by
 obtain ⟨p,S,xs,sm,ra,h⟩:=h
 unfold fnM at h
 split at h
 ·rename_i e
  rw [← aj0 ra,e]
 ·exact h.elim
theorem okP {x qual:Str} {st:Stmt} {f:Addr} {fd:FuncData} {N ps:List Str} {k np n:Nat} {b:MS} (F:Fun K x qual st f fd) (S:aaD N ps (aae st)) (hnp:ps.length=np) (hn:N.length=n)
  (hb:∀ (cdv:Value) (A:Around) (outer:List Env) (s:Shared) (H:Hp) (E:XK),Room k (A.deeper (envOfC qual (aae st) s.heap.objs.size f cdv))→PSsp K cl E0 (cxOf CX0 P w K mg base N qual (aae st) f cdv A outer s H E).nox (aaw st) b) :
  FnOk P w K mg base CX0 (k+1) f fd ps (spP0 K cl (fnM np n b)):=by
 subst hnp hn
 refine F.ok S (fun vs H Q E h=>akc h) fun cdv A outer s H vs Q E hr h=>⟨_,hb cdv A outer s H E hr rfl,?_⟩
 obtain ⟨p,S,xs,sm,ra,h⟩:=h
 unfold fnM at h
 split at h
 ·exact ⟨p,S,_,sm,aeh ra,aeg sm h⟩
 ·exact h.elim
theorem okX {x qual:Str} {st:Stmt} {f:Addr} {fd:FuncData} {N ps:List Str} {k np n:Nat} {b:MS} (F:Fun K x qual st f fd) (S:aaD N ps (aae st)) (hnp:ps.length=np) (hn:N.length=n)
  (hb:∀ (cdv:Value) (A:Around) (outer:List Env) (s:Shared) (H:Hp) (E:XK),Room k (A.deeper (envOfC qual (aae st) s.heap.objs.size f cdv))→PSsp K cl E (cxOf (CX1 P w) P w K mg base N qual (aae st) f cdv A outer s H E) (aaw st) b) :
  FnOk P w K mg base (CX1 P w) (k+1) f fd ps (spP K cl (fnM np n b)):=by
 subst hnp hn
 refine F.okX S (fun vs H Q E h=>akc h) fun cdv A outer s H vs Q E hr h=>⟨_,hb cdv A outer s H E hr rfl,?_⟩
 obtain ⟨p,S,xs,sm,ra,h⟩:=h
 unfold fnM at h
 split at h
 ·exact ⟨p,S,_,sm,aeh ra,aeg sm h⟩
 ·exact h.elim
theorem okXD {x qual:Str} {st:Stmt} {f:Addr} {fd:FuncData} {ds:Array Value} {N ps:List Str} {k np n:Nat} {b:MS} (F:FunD K x qual st f fd ds) (S:aaD N ps (aae st)) (hnp:ps.length=np) (hn:N.length=n)
  (hb:∀ (cdv:Value) (A:Around) (outer:List Env) (s:Shared) (H:Hp) (E:XK),Room k (A.deeper (envOfC qual (aae st) s.heap.objs.size f cdv))→PSsp K cl E (cxOf (CX1 P w) P w K mg base N qual (aae st) f cdv A outer s H E) (aaw st) b) :
  FnOk P w K mg base (CX1 P w) (k+1) f fd ps (spP K cl (fnM np n b)):=by
 subst hnp hn
 refine F.okX S (fun vs H Q E h=>akc h) fun cdv A outer s H vs Q E hr h=>⟨_,hb cdv A outer s H E hr rfl,?_⟩
 obtain ⟨p,S,xs,sm,ra,h⟩:=h
 unfold fnM at h
 split at h
 ·exact ⟨p,S,_,sm,aeh ra,aeg sm h⟩
 ·exact h.elim
theorem x0 {f:Addr} {fd:FuncData} {ps:List Str} {k:Nat} {g:FM} (F:FnOk P w K mg base (CX1 P w) k f fd ps (spP K cl g)):FnOk P w K mg base CX0 k f fd ps (spP0 K cl g) :=
 ⟨fun vs H Q E h=>F.len vs H Q E0 h,fun A outer s H args us vs Q E hr e0 hb hv h=>codeAny_mono (F.run A outer s H args us vs Q E0 hr e0 hb hv h) fun r s' hq=>by
  cases r with
  | error e =>
   obtain ⟨_,_,_,_,_,_,_,_,_,_,_,_,z⟩:=hq
   exact z
  | ok fl =>
   cases fl with
   | ret u=>exact hq
   | next=>exact hq
   | brk=>exact hq
   | cont=>exact hq⟩
end
section
variable {K:PySem.W.Frag} {cl:Str→Addr} {E:XK} {X:Cx} {e:Expr} {es:List Expr} {ms:MA} {pos p:Pos} {k n:Nat} {f:Addr} {fd:FuncData} {ps:List Str} {g:FM} {x:Str} {dvs:List V} {ds:List Value} {dv:List PV}
theorem abW {p:Ph} {H:Hp} {xs ys:List AV} {vs ws:List V} (h:ads K p H xs vs) (g:ads K p H ys ws):ads K p H (xs++ys) (vs++ws):=by
 induction h with
 | nil=>exact g
 | cons h _ ih=>exact .cons h ih
def Dv (dv:List PV) (dvs:List V):Prop:=∀ K p H,ads K p H (dv.map .pv) dvs
theorem Dv.nil:Dv [] []:=fun _ _ _=>.nil
theorem ai9 (F:FnOk X.prog X.w X.K X.mg X.base CX0 k f fd ps (spP0 K cl g)) (hr:Room k X.A) (hg:Gl X x) (hm:X.mg x=some (.ref f)) (hk:PySem.W.keepIn X.K (.ref f)=true) (hb:ab9 X.K fd ps ds) (hd:Vals dvs ds) (hv:Dv dv dvs)
  (ha:PAp K cl E0 X (e :: es) ms) (hdb:(x == ("__debug__":Str))=false:=by decide) (he:starEach (e :: es) X.env=(false,eval e X.env) :: starEach es X.env:=by rfl) (hpl:(backTo pos (starEach es X.env)).any (·.1)=false:=by rfl) :
  PEp K cl E0 X (.Call (.Name x p) (e :: es) [] pos) (aaN g dv ms):=by
 intro hK
 refine PE.imp (afb F hr hg hm hk hb hd amj (ha hK) hdb he hpl) fun σ H Q ⟨p,S,ρ,s,ev,h⟩=>?_
 exact aat s ev h fun q H' as xs S' stp sm ev r k=>⟨q,S',_,sm,abW r (hv K q H'),adN sm k⟩
theorem afC {α β:Type} {R:Ph→Hp→α→β→Prop} {p:Ph} {H:Hp} {r:Res α} {Q:β→Hp→Prop} (h:aaO K cl R p H (aar r) Q E):aaO K cl R p H r Q E0:=by
 cases r with
 | ok a S=>exact h
 | exc n S=>exact h.elim
 | fail=>exact h.elim
theorem akx (F:FnOk X.prog X.w X.K X.mg X.base CX0 k f fd ps (spP0 K cl g)) (hr:Room k X.A) (hg:Gl X x) (hm:X.mg x=some (.ref f)) (hk:PySem.W.keepIn X.K (.ref f)=true) (hb:ab9 X.K fd ps ds) (hd:Vals dvs ds) (hv:Dv dv dvs)
  (ha:PAp K cl E X (e :: es) ms) (hdb:(x == ("__debug__":Str))=false:=by decide) (he:starEach (e :: es) X.env=(false,eval e X.env) :: starEach es X.env:=by rfl) (hpl:(backTo pos (starEach es X.env)).any (·.1)=false:=by rfl) :
  PEp K cl E X (.Call (.Name x p) (e :: es) [] pos) (aak g dv ms):=by
 intro hK
 refine PE.imp (afb F hr hg hm hk hb hd amj (ha hK) hdb he hpl) fun σ H Q ⟨p,S,ρ,s,ev,h⟩=>?_
 exact aat s ev h fun q H' as xs S' stp sm ev r k=>⟨q,S',_,sm,abW r (hv K q H'),afC (adN sm k)⟩
theorem akB (F:FnOk X.prog X.w X.K X.mg X.base CX0 k f fd ps (spP0 K cl g)) (hr:Room k X.A) (hg:Gl X x) (hm:X.mg x=some (.ref f)) (hk:PySem.W.keepIn X.K (.ref f)=true) (hb:ab9 X.K fd ps ds) (hd:Vals dvs ds) (hv:Dv dv dvs)
  (ha:PAp K cl E X (e :: es) ms) (hdb:(x == ("__debug__":Str))=false:=by decide) (he:starEach (e :: es) X.env=(false,eval e X.env) :: starEach es X.env:=by rfl) (hpl:(backTo pos (starEach es X.env)).any (·.1)=false:=by rfl) :
  PEp K cl E X (.Call (.Name x p) (e :: es) [] pos) (abo g dv ms):=by
 intro hK
 refine PE.imp (afb F hr hg hm hk hb hd amj (ha hK) hdb he hpl) fun σ H Q ⟨p,S,ρ,s,ev,h⟩=>?_
 exact aat s ev h fun q H' as xs S' stp sm ev r k=>⟨q,S',_,sm,abW r (hv K q H'),afC k⟩
theorem acr {P:Program} {w:World} {mg:Str→Option Value} {base:Heap} {N:List Str} {qual:Str} {scope:Scope} {fo:Addr} {cd:Value} {A:Around} {outer:List Env} {s₀:Shared} {H₀:Hp}
  (F:FnOk P w K mg base (CX1 P w) k f fd ps (spP K cl g)) (hr:Room k (cxOf (CX1 P w) P w K mg base N qual scope fo cd A outer s₀ H₀ E).A) (hg:Gl (cxOf (CX1 P w) P w K mg base N qual scope fo cd A outer s₀ H₀ E) x) (hm:mg x=some (.ref f)) (hk:PySem.W.keepIn K (.ref f)=true) (hb:ab9 K fd ps ds) (hd:Vals dvs ds) (hv:Dv dv dvs)
  (ha:PAp K cl E (cxOf (CX1 P w) P w K mg base N qual scope fo cd A outer s₀ H₀ E) (e :: es) ms) (hdb:(x == ("__debug__":Str))=false:=by decide)
  (he:starEach (e :: es) (cxOf (CX1 P w) P w K mg base N qual scope fo cd A outer s₀ H₀ E).env=(false,eval e (cxOf (CX1 P w) P w K mg base N qual scope fo cd A outer s₀ H₀ E).env) :: starEach es (cxOf (CX1 P w) P w K mg base N qual scope fo cd A outer s₀ H₀ E).env:=by rfl)
  (hpl:(backTo pos (starEach es (cxOf (CX1 P w) P w K mg base N qual scope fo cd A outer s₀ H₀ E).env)).any (·.1)=false:=by rfl) :
  PEp K cl E (cxOf (CX1 P w) P w K mg base N qual scope fo cd A outer s₀ H₀ E) (.Call (.Name x p) (e :: es) [] pos) (aaN g dv ms):=by
 intro hK
 refine PE.imp (afb F hr hg hm hk hb hd aot (ha hK) hdb he hpl) fun σ H Q ⟨p,S,ρ,s,ev,h⟩=>?_
 exact aat s ev h fun q H' as xs S' stp sm ev r k=>⟨q,S',_,sm,abW r (hv K q H'),adN sm k⟩
def aeA (n:Str):MS:=fun _ S=>.exc n S
theorem adL {P:Program} {w:World} {mg:Str→Option Value} {base:Heap} {N:List Str} {qual:Str} {scope:Scope} {f:Addr} {cd:Value} {A:Around} {outer:List Env} {s₀:Shared} {H₀:Hp}
  {txt:Str} {j:Nat} {np p1 cpos:Pos} (hg:Gl (cxOf (CX1 P w) P w K mg base N qual scope f cd A outer s₀ H₀ E) x) (hm:mg x=some (.ref (cl x))) (hx:PySem.W.excIn K (cl x) acb "ValueError.__new__"=true)
  (hd:(x == ("__debug__":Str))=false:=by decide) :
  PSp K cl E (cxOf (CX1 P w) P w K mg base N qual scope f cd A outer s₀ H₀ E) (.Raise (some (.Call (.Name x np) [.Constant (.str txt) j p1] [] cpos)) none pos) (aeA x) :=
 fun _=>PS.imp (akK hg hm hx hd) fun D σ H ⟨p,S,ρ,s,ev,h⟩=>h p H s.step s
end
end L2.Pp
namespace L2.Pp
open PySem PySem.Spec PyProof.Rows Bn
def cmpR (own:List Str) (cap:List (Nat × Str)) (ρ:Rho):Rho:=own.map (fun _=>none)++cap.map fun p=>(ρ[p.1]?).join
open Classical in
noncomputable def abr (G:Gd) (g:GM) (me:ME):List PV→Rho→Sto→Res (List PV)
 | [],_,S=>if gOk G S then .ok [] S else .fail
 | x :: r,ρ,S=>if gOk G S then (match g x ρ with
  | none=>.fail
  | some ρ1=>match me ρ1 S with
   | .ok (.pv y) S1=>match abr G g me r ρ1 S1 with
    | .ok ys S2=>.ok (y :: ys) S2
    | _=>.fail
   | _=>.fail) else .fail
theorem abJ {g:GM} {me:ME} {ρ:Rho} {S:Sto}:abr [] g me [] ρ S=.ok [] S:=by
 unfold abr
 rw [if_pos (acS S)]
theorem abi {g:GM} {me:ME} {x:PV} {r:List PV} {ρ:Rho} {S:Sto}:abr [] g me (x :: r) ρ S=(match g x ρ with
  | none=>.fail
  | some ρ1=>match me ρ1 S with
   | .ok (.pv y) S1=>match abr [] g me r ρ1 S1 with
    | .ok ys S2=>.ok (y :: ys) S2
    | _=>.fail
   | _=>.fail):=by
 rw [abr,if_pos (acS S)]
noncomputable def aa9 (own:List Str) (cap:List (Nat × Str)) (mi:MI) (g:GM) (me:ME):ME:=fun ρ S=>(mi ρ S).bind fun xs S1=>(abr xs.2 g me xs.1 (cmpR own cap ρ) S1).bind fun ys S2=>.ok (.pv (.lst ys)) S2
theorem ag8 {G:Gd} {g:GM} {me:ME}:∀ (xs:List PV) (ρ:Rho) (S:Sto) (n:Str) (S':Sto),abr G g me xs ρ S≠.exc n S'
 | [],_,_,_,_,e=>by
  unfold abr at e
  split at e <;> cases e
 | x :: r,ρ,S,n,S',e=>by
  unfold abr at e
  split at e
  ·split at e
   ·cases e
   ·split at e
    ·split at e
     ·cases e
     ·cases e
    ·cases e
  ·cases e
theorem ahK {G:Gd} {g:GM} {me:ME} {xs zs:List PV} {ρ:Rho} {S S':Sto} (e:abr G g me xs ρ S=.ok zs S'):gOk G S:=by
 cases xs with
 | nil =>
  unfold abr at e
  split at e
  ·assumption
  ·cases e
 | cons x r =>
  unfold abr at e
  split at e
  ·assumption
  ·cases e
section
variable {K:PySem.W.Frag} {cl:Str→Addr} {E:XK} {X:Cx} {p q:Ph} {H H':Hp} {S:Sto}
theorem ahZ {ρ:Rho} {σ:St} {own:List Str} {cap:List (Nat × Str)} (h:RepE K p H ρ σ):RepE K p H (cmpR own cap ρ) (aeL own cap σ):=by
 refine ⟨by unfold cmpR aeL; simp,fun i v e=>?_⟩
 unfold cmpR at e
 unfold aeL
 by_cases hi:i < own.length
 ·rw [List.getElem?_append_left (by simpa using hi),List.getElem?_map,List.getElem?_eq_getElem hi] at e
  cases e
 ·rw [List.getElem?_append_right (by rw [List.length_map]; omega),List.getElem?_map,List.length_map] at e ⊢
  cases z:cap[i - own.length]? with
  | none=>rw [z] at e; cases e
  | some c =>
   rw [z] at e
   have e:(ρ[c.1]?).join=some v:=Option.some.inj e
   have e':ρ[c.1]?=some (some v):=by
    cases y:ρ[c.1]? with
    | none=>rw [y] at e; cases e
    | some o=>rw [y] at e; exact congrArg some e
   obtain ⟨x,e1,e2⟩:=h.at_ c.1 v e'
   refine ⟨x,?_,e2⟩
   show some ((σ[c.1]?).join)=some (some x)
   rw [e1]
   rfl
def Ph.res (p:Ph) (D:Addr):Ph:=⟨p.f,fun a=>p.w a∨a=D,fun a=>p.c a∨a=D⟩
def Ph.hold (p:Ph) (D:Addr):Ph:=⟨p.f,fun a=>p.w a∧a≠D,p.c⟩
def Ph.less (p:Ph) (D:Addr):Ph:=⟨p.f,fun a=>p.w a∧a≠D,fun a=>p.c a∧a≠D⟩
theorem Sim.notin (s:Sim K p S H) {D:Addr} (h:H D=none):¬ p.c D:=fun c=>by
 obtain ⟨o,e,_⟩:=s.mu D c
 rw [h] at e
 cases e
theorem Sim.res (s:Sim K p S H) {D:Addr} {o:HO} (h:H D=none) (mo:Mb o):Step p H (p.res D) (upd H D o)∧Sim K (p.res D) S (upd H D o):=by
 have st:Step p H (p.res D) (upd H D o):=⟨s.wc,s.mu,List.prefix_rfl,fun a h=>.inl h,fun a h=>.inl h,fun a h g=>absurd h g,fun a x n=>x.elim (fun z=>absurd z n) (fun z=>by rw [z]; exact h),fun a x n=>x.elim (fun z=>absurd z n) (fun z=>by rw [z]; exact h),fun a u e _=>by
  rw [aaI (aaV e h)]
  exact e⟩
 refine ⟨st,s.nd,s.len,fun a h=>.inl (s.sub a h),fun a x=>x.elim (fun z=>.inl (s.wc a z)) .inr,fun a x=>?_,fun k a u e1 e2=>?_⟩
 ·by_cases z:a=D
  ·rw [z,abB]
   exact ⟨o,rfl,mo⟩
  ·rw [aaI z]
   exact s.mu a (x.elim id fun y=>absurd y z)
 ·exact (s.obj k a u e1 e2).mono (fun vs e=>by rw [aaI (aaV e h)]; exact e) (fun b w f=>⟨⟨.inl w,f⟩,fun vs e=>by rw [aaI (aaV e h)]; exact e⟩) fun _ _ r=>st.reps r
theorem Sim.resHold (s:Sim K p S H) {D:Addr} {o:HO} (h:H D=none) (mo:Mb o):Sim K ((p.res D).hold D) S (upd H D o):=by
 obtain ⟨st,sm⟩:=s.res (o:=o) h mo
 have ne:∀ a,p.w a→a≠D:=fun a w z=>s.notin h (z ▸ s.wc a w)
 refine ⟨sm.nd,sm.len,fun a m=>⟨sm.sub a m,ne a (s.sub a m)⟩,fun a x=>sm.wc a x.1,sm.mu,fun k a u e1 e2=>?_⟩
 exact (s.obj k a u e1 e2).mono (fun vs e=>by rw [aaI (aaV e h)]; exact e) (fun b w f=>⟨⟨⟨.inl w,ne b w⟩,f⟩,fun vs e=>by rw [aaI (aaV e h)]; exact e⟩) fun _ _ r=>st.reps r
theorem Step.unhold {D:Addr} (h:p.w D) (st:Step (p.hold D) H q H') (s:Sim K p S H):Step p H ⟨q.f,fun a=>q.w a∨a=D,q.c⟩ H' :=
 ⟨s.wc,s.mu,st.pre,fun a x=>by
  by_cases z:a=D
  ·exact .inr z
  ·exact .inl (st.mw a ⟨x,z⟩),st.mono,st.nf,fun a x n=>by
  rcases x with x | x
  ·exact st.nw a x fun z=>n z.1
  ·exact absurd (x ▸ h) n,st.nc,fun a o e n=>st.keep a o e fun z=>n z.1⟩
theorem Sim.grow {D:Addr} {ys:List V} {o:HO} (s:Sim K p S H) (sh:Sim K (p.hold D) S H) (w:p.w D) (n:D ∉ p.f) (mo:Mb o):Step p H p (upd H D o)∧Sim K p S (upd H D o)∧Sim K (p.hold D) S (upd H D o):=by
 have st:Step p H p (upd H D o):=⟨s.wc,s.mu,List.prefix_rfl,fun _ h=>h,fun _ h=>h,fun _ h g=>absurd h g,fun _ h g=>absurd h g,fun _ h g=>absurd h g,fun a u e nw=>by
  rw [aaI (fun z:a=D=>nw (by rw [z]; exact w))]
  exact e⟩
 have hm:∀ a,p.c a→∃ u,upd H D o a=some u∧Mb u:=fun a x=>by
  by_cases z:a=D
  ·rw [z,abB]
   exact ⟨o,rfl,mo⟩
  ·rw [aaI z]
   exact s.mu a x
 refine ⟨st,⟨s.nd,s.len,s.sub,s.wc,hm,fun k a u e1 e2=>?_⟩,⟨sh.nd,sh.len,sh.sub,sh.wc,hm,fun k a u e1 e2=>?_⟩⟩
 ·have ne:a≠D:=fun z=>n (z ▸ List.mem_of_getElem? e1)
  exact (sh.obj k a u e1 e2).mono (fun vs e=>by rw [aaI ne]; exact e) (fun b w f=>⟨⟨w.1,f⟩,fun vs e=>by rw [aaI w.2]; exact e⟩) fun _ _ r=>st.reps r
 ·have ne:a≠D:=fun z=>n (z ▸ List.mem_of_getElem? e1)
  exact (sh.obj k a u e1 e2).mono (fun vs e=>by rw [aaI ne]; exact e) (fun b w f=>⟨⟨w,f⟩,fun vs e=>by rw [aaI w.2]; exact e⟩) fun _ _ r=>st.reps r
theorem Sim.toLess {D:Addr} (s:Sim K (p.hold D) S H):Sim K (p.less D) S H :=
 ⟨s.nd,s.len,s.sub,fun a h=>⟨s.wc a h,h.2⟩,fun a h=>s.mu a h.1,fun k a o e1 e2 =>
  (s.obj k a o e1 e2).mono (fun _ e=>e) (fun b w f=>⟨⟨w,f⟩,fun _ e=>e⟩) fun _ _ r=>acI (fun a h=>h.1) r⟩
theorem Step.toLess {D:Addr} (st:Step p H q H') (h:H D=none):Step p H (q.less D) H':=by
 have nD:∀ a,p.c a→a≠D:=fun a c z=>by
  obtain ⟨o,e,_⟩:=st.mu a c
  rw [z,h] at e
  cases e
 exact ⟨st.wc,st.mu,st.pre,fun a x=>⟨st.mw a x,nD a (st.wc a x)⟩,fun a x=>⟨st.mono a x,nD a x⟩,st.nf,fun a x=>st.nw a x.1,fun a x=>st.nc a x.1,st.keep⟩
variable {sc:Scope} {own:List Str} {cap:List (Nat × Str)} {elt target iter:Expr} {pos:Pos} {mi:MI} {g:GM} {me:ME}
theorem ajJ {σ:St} {ρ:Rho} {xs zs:List PV} {G:Gd} {J:It} {Q:VK} {D:Addr} {S2:Sto} (sm:Sim K p S H) (ev:RepE K p H ρ σ) (it:ItOk K p H (xs,G) J) (z:abr G g me xs (cmpR own cap ρ) S=.ok zs S2) (hD:H D=none)
  (k:∀ q H' vs,Step p H q H'→Sim K q S2 H'→Sim K (q.hold D) S2 H'→q.w D→D ∉ q.f→H' D=some (.lst vs)→vs.length≤sizeLine→Reps K q.c H' zs vs→Q (.ref D) H') :
  cmpW J (gP K g) (tP K cl E0 (RepA K) me) (aeL own cap σ) H D Q:=by
 obtain ⟨st0,sm0⟩:=sm.res (D:=D) (o:=.lst []) hD trivial
 have sh0:=sm.resHold (D:=D) (o:=.lst []) hD trivial
 have nf0:D ∉ p.f:=fun h=>sm.notin hD (sm.wc D (sm.sub D h))
 refine ajm xs.length it.1 (fun i σ1 H1 ys=>ys.length=i∧i≤xs.length∧H1 D=some (.lst ys)∧∃ p1 S1 ρ1 us ws,(Sim K p1 S1 H1∧Sim K (p1.hold D) S1 H1)∧Step p H p1 H1∧p1.w D∧D ∉ p1.f∧RepE K p1 H1 ρ1 σ1∧ItOk K p1 H1 (xs,G) J∧gOk G S1∧Reps K p1.c H1 us ys∧zs=us++ws∧abr G g me (xs.drop i) ρ1 S1=.ok ws S2) ?_ ?_ ?_ ?_ ?_
 ·refine ⟨rfl,Nat.zero_le _,abB,p.res D,S,cmpR own cap ρ,[],zs,⟨sm0,sh0⟩,st0,.inr rfl,nf0,ahZ (st0.repE ev),it.step st0,?_,.nil,rfl,by simpa using z⟩
  exact ahK z
 ·rintro i σ1 H1 ys ⟨h1,_,h2,_⟩
  exact ⟨h1,h2⟩
 ·rintro i σ1 H1 ys hi ⟨_,_,_,p1,S1,ρ1,us,ws,⟨sm1,sh1⟩,st1,w1,f1,ev1,it1,g1,_⟩
  exact ((it1.2 p1 H1 S1 sm1.step sm1 g1).1 i xs[i] (List.getElem?_eq_getElem hi)).1
 ·rintro i σ1 H1 ys x H2 hi ⟨hl,_,hH,p1,S1,ρ1,us,ws,⟨sm1,sh1⟩,st1,w1,f1,ev1,it1,g1,r1,e1,c1⟩ hy
  obtain ⟨same,rx⟩:=((it1.2 p1 H1 S1 sm1.step sm1 g1).1 i xs[i] (List.getElem?_eq_getElem hi)).2 x H2 hy
  rw [List.drop_eq_getElem_cons hi] at c1
  unfold abr at c1
  rw [if_pos g1] at c1
  split at c1
  ·cases c1
  ·rename_i ρ2 gz
   split at c1
   ·rename_i y S3 mz
    split at c1
    ·rename_i vs S4 cz
     cases c1
     have st2:=sm1.same same
     have sm2:=sm1.ofSame same
     have smh:=sh1.ofSame same
     have stS:Step p H p1 H2:=st1.trans st2
     refine ⟨p1,S1,ρ1,xs[i],ρ2,sm2,st2.repE ev1,rx,gz,fun σ3 ev3=>⟨p1.hold D,S1,ρ2,smh,⟨ev3.len,ev3.at_⟩,?_⟩⟩
     rw [mz]
     intro q H4 y' st4 sm4 ry
     have hD2:H2 D=some (.lst ys):=same _ _ hH
     have hD4:H4 D=some (.lst ys):=st4.keep D _ hD2 fun z=>z.2 rfl
     have fq:D ∉ q.f:=fun h=>by
      have:=st4.nf D h f1
      rw [hD2] at this
      cases this
     have stU:=Step.unhold w1 st4 sm2
     have nq:¬ q.w D:=fun z=>by
      have:=st4.nw D z fun y=>y.2 rfl
      rw [hD2] at this
      cases this
     have smU:Sim K ⟨q.f,fun a=>q.w a∨a=D,q.c⟩ S3 H4:=⟨sm4.nd,sm4.len,fun a h=>.inl (sm4.sub a h),fun a h=>h.elim (sm4.wc a) fun z=>z ▸ st4.mono D (sm2.wc D w1),sm4.mu,fun k a o e1 e2 =>
      (sm4.obj k a o e1 e2).mono (fun _ e=>e) (fun b w f=>⟨⟨.inl w,f⟩,fun _ e=>e⟩) fun _ _ r=>r⟩
     have shU:Sim K (Ph.hold ⟨q.f,fun a=>q.w a∨a=D,q.c⟩ D) S3 H4:=⟨sm4.nd,sm4.len,fun a h=>⟨.inl (sm4.sub a h),fun z=>nq (z ▸ sm4.sub a h)⟩,fun a h=>smU.wc a h.1,sm4.mu,fun k a o e1 e2 =>
      (sm4.obj k a o e1 e2).mono (fun _ e=>e) (fun b w f=>⟨⟨⟨.inl w,fun z=>nq (z ▸ w)⟩,f⟩,fun _ e=>e⟩) fun _ _ r=>r⟩
     obtain ⟨stG,smG,shG⟩:=smU.grow (ys:=ys) (D:=D) (o:=.lst (ys++[y'])) shU (.inr rfl) fq trivial
     have stA:=st2.trans (stU.trans stG)
     refine an1 hi hD4 ⟨by rw [List.length_append,hl]; rfl,hi,abB,_,S3,ρ2,us++[y],vs,⟨smG,shG⟩,st1.trans stA,.inr rfl,fq,stG.repE (stU.repE ev3),it1.step stA,ahK cz,?_,by rw [e1,List.append_assoc]; rfl,cz⟩
     exact (stA.reps r1).append (.cons (stG.rep ry) .nil)
    ·cases c1
   ·cases c1
 ·rintro σ1 H1 ys ⟨hl,_,hH,p1,S1,ρ1,us,ws,⟨sm1,sh1⟩,st1,w1,f1,ev1,it1,g1,r1,e1,c1⟩
  rw [List.drop_length] at c1
  unfold abr at c1
  rw [if_pos g1] at c1
  cases c1
  refine ⟨(it1.2 p1 H1 _ sm1.step sm1 g1).2,?_⟩
  rw [List.append_nil] at e1
  subst e1
  exact k p1 H1 ys st1 sm1 sh1 w1 f1 hH (by rw [hl]; exact it.1) r1
theorem agN {σ:St} {ρ:Rho} {xs:List PV × Gd} {J:It} {Q:VK} {D:Addr} (sm:Sim K p S H) (ev:RepE K p H ρ σ) (it:ItOk K p H xs J) (k:aaO K cl (RepA K) p H ((abr xs.2 g me xs.1 (cmpR own cap ρ) S).bind fun ys S2=>.ok (.pv (.lst ys)) S2) Q E) (hD:H D=none) :
  cmpW J (gP K g) (tP K cl E0 (RepA K) me) (aeL own cap σ) H D Q:=by
 cases z:abr xs.2 g me xs.1 (cmpR own cap ρ) S with
 | fail=>rw [z] at k; exact k.elim
 | exc n S'=>exact absurd z (ag8 _ _ _ _ _)
 | ok zs S2 =>
  rw [z] at k
  have k:∀ q H' x,Step p H q H'→Sim K q S2 H'→Rep K q.c H' (.lst zs) x→Q x H':=k
  refine ajJ sm ev it z hD fun q H' vs st1 sm1 sh1 w1 f1 hH l1 r1=>?_
  refine k (q.less D) H' (.ref D) (st1.toLess hD) sh1.toLess ?_
  unfold Rep
  exact ⟨D,vs,rfl,.inl ⟨hH,fun z=>z.2 rfl⟩,l1,acI (fun a h=>h.1) r1⟩
theorem acT (k:adH X sc own cap) (hi:PIp K cl E X target iter mi) (hc:X.calm=true) (hg:∀ C s₀ H₀ ex,PGp K (aba X sc (cmpN own cap) C s₀ H₀ ex) target g) (he:∀ C s₀ H₀ ex,PEp K cl E0 (aba X sc (cmpN own cap) C s₀ H₀ ex) elt me)
  (hs:∀ x,foldedSetIterable iter X.env x=pure x:=by intro _; rfl):PEp K cl E X (.ListComp elt [⟨target,iter,[],0⟩] sc pos) (aa9 own cap mi g me):=by
 intro hK
 refine PE.imp (al8 k (hi hK) hc (fun C s₀ H₀ ex=>hg C s₀ H₀ ex hK) (fun C s₀ H₀ ex=>he C s₀ H₀ ex hK) hs) fun σ H Q ⟨p,S,ρ,s,ev,h⟩=>?_
 exact aat s ev h fun q H' xs J S' stp sm ev it kk D hD=>agN sm ev it kk hD
theorem agc {i:Nat} {x:Str} {py spos:Pos} (hN:X.N.Nodup) (hx:X.N[i]?=some x) (hl:Loc X.env.scope x) (k:adH X sc own cap) (hi:PIp K cl E X target iter mi) (hc:X.calm=true) (hg:∀ C s₀ H₀ ex,PGp K (aba X sc (cmpN own cap) C s₀ H₀ ex) target g) (he:∀ C s₀ H₀ ex,PEp K cl E0 (aba X sc (cmpN own cap) C s₀ H₀ ex) elt me)
  (hs:∀ x,foldedSetIterable iter X.env x=pure x:=by intro _; rfl) (hsw:swapsWith (.ListComp elt [⟨target,iter,[],0⟩] sc pos) (some (.Name x py)) spos.line X.env=pure true:=by rfl)
  (hf:X.fn x=true∨X.env.scope.names.lookup x=some .local:=by first | exact .inl rfl | exact .inr rfl | assumption) :
  PSp K cl E X (.Assign [.Name x py] (.ListComp elt [⟨target,iter,[],0⟩] sc pos) spos) (sSet i (aa9 own cap mi g me)):=by
 intro hK
 refine PS.imp (al6 hN hx hl k (hi hK) hc (fun C s₀ H₀ ex=>hg C s₀ H₀ ex hK) (fun C s₀ H₀ ex=>he C s₀ H₀ ex hK) hs hsw hf) fun D σ H ⟨p,S,ρ,s,ev,h⟩=>?_
 have h2:tP K cl E (RepA K) (aa9 own cap mi g me) σ H fun y H1=>D.nx (σ.set i (some y)) H1:=by
  refine ⟨p,S,ρ,s,ev,?_⟩
  unfold sSet at h
  cases z:aa9 own cap mi g me ρ S with
  | ok v S1 =>
   rw [z] at h
   exact fun q H' y st sm r=>h q H' _ st sm ((st.repE ev).set r i)
  | exc n S1=>rw [z] at h; exact h
  | fail=>rw [z] at h; exact h
 obtain ⟨p,S,ρ,s,ev,h⟩:=h2
 exact aat s ev h fun q H' xs J S' stp sm ev it kk B hB=>agN sm ev it kk hB
end
end L2.Pp
namespace L2.Pp
open PySem PySem.Spec PyProof.Rows Bn
def acN:List (Option Bool)→Option (List Bool)
 | []=>some []
 | some b :: r=>match acN r with
  | some bs=>some (b :: bs)
  | none=>none
 | none :: _=>none
theorem afX:∀ {l:List (Option Bool)} {bs:List Bool},acN l=some bs→bs.length=l.length
 | [],_,e=>by cases e; rfl
 | some b :: r,bs,e=>by
  unfold acN at e
  split at e
  ·rename_i cs h
   cases e
   rw [List.length_cons,List.length_cons,afX h]
  ·cases e
 | none :: r,_,e=>by cases e
theorem aef:∀ {l:List (Option Bool)} {bs:List Bool} {i:Nat} {o:Option Bool},acN l=some bs→l[i]?=some o→∃ b,o=some b∧bs[i]?=some b
 | [],_,i,o,_,h=>by simp at h
 | some b :: r,bs,i,o,e,h=>by
  unfold acN at e
  split at e
  ·rename_i cs h'
   cases e
   cases i with
   | zero =>
    simp at h
    exact ⟨b,h.symm,rfl⟩
   | succ i=>simpa using aef h' (by simpa using h)
  ·cases e
 | none :: r,_,_,_,e,_=>by cases e
def eqN:Nat→PV→PV→Option Bool
 | _,.non,.non=>some true
 | _,.bl a,.bl b=>some (a == b)
 | _,.int a,.int b=>some (a == b)
 | _,.str a,.str b=>some (a == b)
 | n+1,.tup xs,.tup ys=>match acN (List.zipWith (eqN n) xs ys) with
  | some bs=>some (bs.all id && xs.length == ys.length)
  | none=>none
 | n+1,.lst xs,.lst ys=>if xs.length=ys.length then (match acN (List.zipWith (eqN n) xs ys) with
  | some bs=>some (bs.all id)
  | none=>none) else some false
 | _,_,_=>none
theorem adT (bs:List Bool):((List.range bs.length).all fun j=>bs.getD j true)=bs.all id:=by
 rw [Bool.eq_iff_iff,List.all_eq_true,List.all_eq_true]
 constructor
 ·intro h b hb
  obtain ⟨j,hj,e⟩:=List.getElem_of_mem hb
  have:=h j (by simpa using hj)
  simpa [List.getD,hj,e] using this
 ·intro h j hj
  have hj:j < bs.length:=by simpa using hj
  have:=h bs[j] (List.getElem_mem hj)
  simpa [List.getD,hj] using this
section
variable {X:Cx} {pins:List (Addr × Obj)} {σ:St} {H:Hp} {s:Shared} {c:Addr→Prop}
theorem aeH {n:Nat} {xs ys:List PV} {vs ws:List V} {its jts:List Value} {bs:List Bool} {A:Around}
  (ih:∀ (v w:PV) (x y:V) (u u':Value) (b:Bool),Rep X.K c H v x→Rep X.K c H w y→RelV x u→RelV y u'→eqN n v w=some b→SeqAt.EqAt A s u u' b)
  (r1:Reps X.K c H xs vs) (r2:Reps X.K c H ys ws) (q1:Vals vs its) (q2:Vals ws jts) (e:acN (List.zipWith (eqN n) xs ys)=some bs) :
  ∀ j (h1:j < its.toArray.size) (h2:j < jts.toArray.size),SeqAt.EqAt A s its.toArray[j] jts.toArray[j] (bs.getD j true):=fun j h1 h2=>by
 have l1:=r1.length.trans q1.length
 have l2:=r2.length.trans q2.length
 have g1:j < xs.length:=by rw [l1]; simpa using h1
 have g2:j < ys.length:=by rw [l2]; simpa using h2
 obtain ⟨x,ex,rx⟩:=r1.get (List.getElem?_eq_getElem g1)
 obtain ⟨y,ey,ry⟩:=r2.get (List.getElem?_eq_getElem g2)
 obtain ⟨u,eu,ru⟩:=q1.get ex
 obtain ⟨u',eu',ru'⟩:=q2.get ey
 have hz:(List.zipWith (eqN n) xs ys)[j]?=some (eqN n xs[j] ys[j]):=by
  rw [List.getElem?_zipWith,List.getElem?_eq_getElem g1,List.getElem?_eq_getElem g2]
 obtain ⟨b,eb,eb'⟩:=aef e hz
 have e1:its.toArray[j]=u:=by
  rw [List.getElem_toArray]
  rw [List.getElem?_eq_getElem (by simpa using h1)] at eu
  exact Option.some.inj eu
 have e2:jts.toArray[j]=u':=by
  rw [List.getElem_toArray]
  rw [List.getElem?_eq_getElem (by simpa using h2)] at eu'
  exact Option.some.inj eu'
 rw [e1,e2]
 have e3:bs.getD j true=b:=by simp [List.getD,eb']
 rw [e3]
 exact ih _ _ _ _ _ _ _ rx ry ru ru' eb
theorem afg {n:Nat} {xs ys:List PV} {bs:List Bool} (e:acN (List.zipWith (eqN n) xs ys)=some bs):bs.length=min xs.length ys.length:=by
 rw [afX e,List.length_zipWith]
theorem agZ (n:Nat) (v w:PV) (x:V) (b:Bool) (nt:∀ xs,v≠.tup xs) (nl:∀ xs,v≠.lst xs) (h:Rep X.K c H v x) (g:Rep X.K c H w x) (e:eqN n v w=some b):b=true:=by
 cases v with
 | tup xs=>exact absurd rfl (nt xs)
 | lst xs=>exact absurd rfl (nl xs)
 | non =>
  cases w <;> first | (unfold eqN at e; simp at e; done) | skip
  unfold eqN at e; cases e; rfl
 | bl i =>
  cases w <;> first | (unfold eqN at e; simp at e; done) | skip
  unfold Rep at h g; subst h; injection g with g'; subst g'; unfold eqN at e; cases e; exact beq_self_eq_true _
 | int i =>
  cases w <;> first | (unfold eqN at e; simp at e; done) | skip
  unfold Rep at h g; subst h; injection g with g'; subst g'; unfold eqN at e; cases e; exact beq_self_eq_true _
 | str i =>
  cases w <;> first | (unfold eqN at e; simp at e; done) | skip
  unfold Rep at h g; subst h; injection g with g'; subst g'; unfold eqN at e; cases e; exact beq_self_eq_true _
theorem ah7 (I:Inv X pins σ H s):∀ (n:Nat) (v w:PV) (x:V) (b:Bool),Rep X.K c H v x→Rep X.K c H w x→eqN n v w=some b→b=true:=by
 intro n
 induction n with
 | zero =>
  intro v w x b h g e
  cases v with
  | tup xs=>unfold eqN at e; simp at e
  | lst xs=>unfold eqN at e; simp at e
  | _=>exact agZ 0 _ w x b (by intro _ z; cases z) (by intro _ z; cases z) h g e
 | succ n ih =>
  have items:∀ (xs ys:List PV) (vs:List V) (bs:List Bool),Reps X.K c H xs vs→Reps X.K c H ys vs→acN (List.zipWith (eqN n) xs ys)=some bs→bs.all id=true∧xs.length=ys.length:=fun xs ys vs bs r1 r2 e=>by
   have ll:=r1.length.trans r2.length.symm
   refine ⟨?_,ll⟩
   rw [List.all_eq_true]
   intro b hb
   obtain ⟨j,hj,ej⟩:=List.getElem_of_mem hb
   have hj':=hj
   rw [afg e] at hj'
   have g1:j < xs.length:=by omega
   have g2:j < ys.length:=by omega
   obtain ⟨x,ex,rx⟩:=r1.get (List.getElem?_eq_getElem g1)
   obtain ⟨y,ey,ry⟩:=r2.get (List.getElem?_eq_getElem g2)
   have:=ex.symm.trans ey
   cases this
   have hz:(List.zipWith (eqN n) xs ys)[j]?=some (eqN n xs[j] ys[j]):=by
    rw [List.getElem?_zipWith,List.getElem?_eq_getElem g1,List.getElem?_eq_getElem g2]
   obtain ⟨b',eb,eb'⟩:=aef e hz
   rw [List.getElem?_eq_getElem hj,ej] at eb'
   cases eb'
   exact ih _ _ _ _ rx ry eb
  intro v w x b h g e
  cases v with
  | tup xs =>
   cases w with
   | tup ys =>
    unfold Rep at h g
    obtain ⟨a,vs,rfl,t1,_,r1⟩:=h
    obtain ⟨a',ws,e1,t2,_,r2⟩:=g
    cases e1
    have:=I.tuple_inj t1 t2
    subst this
    unfold eqN at e
    split at e
    ·rename_i bs hb
     obtain ⟨z1,z2⟩:=items xs ys vs bs r1 r2 hb
     rw [z1,z2,beq_self_eq_true] at e
     cases e
     rfl
    ·cases e
   | _=>unfold eqN at e; simp at e
  | lst xs =>
   cases w with
   | lst ys =>
    unfold Rep at h g
    obtain ⟨a,vs,rfl,t1,_,r1⟩:=h
    obtain ⟨a',ws,e1,t2,_,r2⟩:=g
    cases e1
    have:=I.list_inj t1.sq t2.sq
    subst this
    unfold eqN at e
    rw [if_pos (r1.length.trans r2.length.symm)] at e
    split at e
    ·rename_i bs hb
     obtain ⟨z1,z2⟩:=items xs ys vs bs r1 r2 hb
     rw [z1] at e
     cases e
     rfl
    ·cases e
   | _=>unfold eqN at e; simp at e
  | _=>exact agZ (n+1) _ w x b (by intro _ z; cases z) (by intro _ z; cases z) h g e
theorem alv (I:Inv X pins σ H s):∀ (n:Nat) (v w:PV) (x y:V) (u u':Value) (b:Bool) (A:Around),A.units+n < cLine→Rep X.K c H v x→Rep X.K c H w y→RelV x u→RelV y u'→eqN n v w=some b→SeqAt.RcAt A s u u' b∧SeqAt.EqAt A s u u' b:=by
 have flat:∀ (n:Nat) (v w:PV) (x y:V) (u u':Value) (b:Bool) (A:Around),(∀ xs,v≠.tup xs)→(∀ xs,v≠.lst xs)→Rep X.K c H v x→Rep X.K c H w y→RelV x u→RelV y u'→eqN n v w=some b→SeqAt.RcAt A s u u' b∧SeqAt.EqAt A s u u' b:=by
  intro n v w x y u u' b A nt nl h g r r' e
  cases v with
  | tup xs=>exact absurd rfl (nt xs)
  | lst xs=>exact absurd rfl (nl xs)
  | non =>
   cases w <;> first | (unfold eqN at e; simp at e; done) | skip
   unfold Rep at h g; subst h g; cases r; cases r'; unfold eqN at e; cases e; exact ⟨SeqAt.RcAt.none_none,SeqAt.EqAt.same _⟩
  | bl i =>
   cases w <;> first | (unfold eqN at e; simp at e; done) | skip
   unfold Rep at h g; subst h g; cases r; cases r'; unfold eqN at e; cases e; exact ⟨SeqAt.RcAt.bool_bool _ _,SeqAt.EqAt.bool_bool _ _⟩
  | int i =>
   cases w <;> first | (unfold eqN at e; simp at e; done) | skip
   unfold Rep at h g; subst h g; obtain ⟨t,rfl⟩:=r; obtain ⟨t',rfl⟩:=r'; unfold eqN at e; cases e; exact ⟨SeqAt.RcAt.int_int _ _ _ _,SeqAt.EqAt.int_int _ _ _ _⟩
  | str i =>
   cases w <;> first | (unfold eqN at e; simp at e; done) | skip
   unfold Rep at h g; subst h g; obtain ⟨t,rfl⟩:=r; obtain ⟨t',rfl⟩:=r'; unfold eqN at e; cases e; exact ⟨SeqAt.RcAt.str_str _ _ _ _,SeqAt.EqAt.str_str _ _ _ _⟩
 have main:∀ (n:Nat) (v w:PV) (x y:V) (u u':Value) (b:Bool) (A:Around),A.units+n < cLine→Rep X.K c H v x→Rep X.K c H w y→RelV x u→RelV y u'→eqN n v w=some b→SeqAt.RcAt A s u u' b∧SeqAt.EqAt A s u u' b:=by
  intro n
  induction n with
  | zero =>
   intro v w x y u u' b A hu h g r r' e
   cases v with
   | tup xs=>unfold eqN at e; simp at e
   | lst xs=>unfold eqN at e; simp at e
   | _=>exact flat 0 _ w x y u u' b A (by intro _ z; cases z) (by intro _ z; cases z) h g r r' e
  | succ n ih =>
   intro v w x y u u' b A hu h g r r' e
   have hin:A.in1.units+n < cLine:=by show A.units+1+n < cLine; omega
   cases v with
   | tup xs =>
    cases w with
    | tup ys =>
     have hs:x=y→b=true:=fun z=>ah7 I (n+1) _ _ x b h (z ▸ g) e
     unfold Rep at h g
     obtain ⟨a,vs,rfl,t1,_,r1⟩:=h
     obtain ⟨a',ws,rfl,t2,_,r2⟩:=g
     cases r
     cases r'
     obtain ⟨its,q1,p1,_⟩:=I.tuple t1
     obtain ⟨jts,q2,p2,_⟩:=I.tuple t2
     unfold eqN at e
     split at e
     ·rename_i bs hb
      cases e
      have z:=SeqAt.RcAt.tuples (A:=A) (s:=s) (e:=fun j=>bs.getD j true) (show s.heap.IsTuple a its.toArray from p1) (show s.heap.IsTuple a' jts.toArray from p2) (by omega)
       (aeH (A:=A.in1) (fun v w x y u u' b h1 h2 h3 h4 h5=>(ih v w x y u u' b A.in1 hin h1 h2 h3 h4 h5).2) r1 r2 q1 q2 hb)
      have l1:=r1.length.trans q1.length
      have l2:=r2.length.trans q2.length
      rw [List.size_toArray,List.size_toArray,← l1,← l2,← afg hb,adT] at z
      refine ⟨z,?_⟩
      by_cases ha:a=a'
      ·subst ha
       rw [hs rfl]
       exact SeqAt.EqAt.same _
      ·exact SeqAt.EqAt.of_refs ha z
     ·cases e
    | _=>unfold eqN at e; simp at e
   | lst xs =>
    cases w with
    | lst ys =>
     have hs:x=y→b=true:=fun z=>ah7 I (n+1) _ _ x b h (z ▸ g) e
     unfold Rep at h g
     obtain ⟨a,vs,rfl,t1,_,r1⟩:=h
     obtain ⟨a',ws,rfl,t2,_,r2⟩:=g
     cases r
     cases r'
     obtain ⟨its,q1,p1,_⟩:=I.list t1.sq
     obtain ⟨jts,q2,p2,_⟩:=I.list t2.sq
     have l1:=r1.length.trans q1.length
     have l2:=r2.length.trans q2.length
     have fin:SeqAt.RcAt A s (.ref a) (.ref a') b→SeqAt.RcAt A s (.ref a) (.ref a') b∧SeqAt.EqAt A s (.ref a) (.ref a') b:=fun z=>by
      refine ⟨z,?_⟩
      by_cases ha:a=a'
      ·subst ha
       rw [hs rfl]
       exact SeqAt.EqAt.same _
      ·exact SeqAt.EqAt.of_refs ha z
     unfold eqN at e
     split at e
     ·rename_i hl
      split at e
      ·rename_i bs hb
       cases e
       have z:=SeqAt.RcAt.lists (A:=A) (s:=s) (e:=fun j=>bs.getD j true) p1.isList p2.isList (by rw [List.size_toArray,List.size_toArray]; omega) (by omega)
        (aeH (A:=A.in1) (fun v w x y u u' b h1 h2 h3 h4 h5=>(ih v w x y u u' b A.in1 hin h1 h2 h3 h4 h5).2) r1 r2 q1 q2 hb)
       have hm:its.length=bs.length:=by rw [afg hb]; omega
       rw [List.size_toArray,hm,adT] at z
       exact fin z
      ·cases e
     ·rename_i hl
      cases e
      exact fin (SeqAt.RcAt.lists_lengths p1.isList p2.isList (by rw [List.size_toArray,List.size_toArray]; simp; omega) (by omega))
    | _=>unfold eqN at e; simp at e
   | _=>exact flat (n+1) _ w x y u u' b A (by intro _ z; cases z) (by intro _ z; cases z) h g r r' e
 exact main
end
end L2.Pp
namespace L2.Pp
open PySem PySem.Spec PyProof.Rows Bn
section
variable {X:Cx}
theorem anz {pins:List (Addr × Obj)} {σ:St} {H:Hp} {s:Shared} (I:Inv X pins σ H s) {p:Ph} {v w:PV} {x y:V} {u u':Value} {b:Bool} {A:Around} (hu:A.units+8 < cLine) (h:RepR X.K p H v x) (g:RepR X.K p H w y) (r:RelV x u) (r':RelV y u') (e:eqN 8 v w=some b) :
  SeqAt.RcAt A s u u' b∧SeqAt.RcNeAt A s u u' (!b):=by
 have hin:A.in1.units+7 < cLine:=by show A.units+1+7 < cLine; omega
 cases v with
 | non =>
  cases w <;> first | (unfold eqN at e; simp at e; done) | skip
  have h:=h.non; have g:=g.non; subst h g; cases r; cases r'; unfold eqN at e; cases e; exact ⟨SeqAt.RcAt.none_none,SeqAt.RcNeAt.none_none⟩
 | bl i =>
  cases w <;> first | (unfold eqN at e; simp at e; done) | skip
  have h:=h.bl; have g:=g.bl; subst h g; cases r; cases r'; unfold eqN at e; cases e; exact ⟨SeqAt.RcAt.bool_bool _ _,SeqAt.RcNeAt.bool_bool _ _⟩
 | int i =>
  cases w <;> first | (unfold eqN at e; simp at e; done) | skip
  have h:=h.int; have g:=g.int; subst h g; obtain ⟨t,rfl⟩:=r; obtain ⟨t',rfl⟩:=r'; unfold eqN at e; cases e; exact ⟨SeqAt.RcAt.int_int _ _ _ _,SeqAt.RcNeAt.int_int _ _ _ _⟩
 | str i =>
  cases w <;> first | (unfold eqN at e; simp at e; done) | skip
  have h:=h.str; have g:=g.str; subst h g; obtain ⟨t,rfl⟩:=r; obtain ⟨t',rfl⟩:=r'; unfold eqN at e; cases e; exact ⟨SeqAt.RcAt.str_str _ _ _ _,SeqAt.RcNeAt.str_str _ _ _ _⟩
 | tup xs =>
  cases w with
  | tup ys =>
   obtain ⟨a,vs,rfl,t1,_,r1⟩:=h.tup
   obtain ⟨a',ws,rfl,t2,_,r2⟩:=g.tup
   cases r
   cases r'
   obtain ⟨its,q1,p1,_⟩:=I.tuple t1
   obtain ⟨jts,q2,p2,_⟩:=I.tuple t2
   unfold eqN at e
   split at e
   ·rename_i bs hb
    cases e
    have it:=aeH (s:=s) (A:=A.in1) (fun v w x y u u' b h1 h2 h3 h4 h5=>(alv I 7 v w x y u u' b A.in1 hin h1 h2 h3 h4 h5).2) r1 r2 q1 q2 hb
    have z:=SeqAt.RcAt.tuples (A:=A) (s:=s) (e:=fun j=>bs.getD j true) (show s.heap.IsTuple a its.toArray from p1) (show s.heap.IsTuple a' jts.toArray from p2) (by omega) it
    have z':=SeqAt.RcNeAt.tuples (A:=A) (s:=s) (e:=fun j=>bs.getD j true) (show s.heap.IsTuple a its.toArray from p1) (show s.heap.IsTuple a' jts.toArray from p2) (by omega) it
    have l1:=r1.length.trans q1.length
    have l2:=r2.length.trans q2.length
    rw [List.size_toArray,List.size_toArray,← l1,← l2,← afg hb,adT] at z z'
    exact ⟨z,z'⟩
   ·cases e
  | _=>unfold eqN at e; simp at e
 | lst xs =>
  cases w with
  | lst ys =>
   obtain ⟨a,vs,rfl,t1,_,r1⟩:=h.lst
   obtain ⟨a',ws,rfl,t2,_,r2⟩:=g.lst
   cases r
   cases r'
   obtain ⟨its,q1,p1,_⟩:=I.list t1
   obtain ⟨jts,q2,p2,_⟩:=I.list t2
   have l1:=r1.length.trans q1.length
   have l2:=r2.length.trans q2.length
   unfold eqN at e
   split at e
   ·rename_i hl
    split at e
    ·rename_i bs hb
     cases e
     have it:=aeH (s:=s) (A:=A.in1) (fun v w x y u u' b h1 h2 h3 h4 h5=>(alv I 7 v w x y u u' b A.in1 hin h1 h2 h3 h4 h5).2) r1 r2 q1 q2 hb
     have z:=SeqAt.RcAt.lists (A:=A) (s:=s) (e:=fun j=>bs.getD j true) p1.isList p2.isList (by rw [List.size_toArray,List.size_toArray]; omega) (by omega) it
     have z':=SeqAt.RcNeAt.lists (A:=A) (s:=s) (e:=fun j=>bs.getD j true) p1.isList p2.isList (by rw [List.size_toArray,List.size_toArray]; omega) (by omega) it
     have hm:its.length=bs.length:=by rw [afg hb]; omega
     rw [List.size_toArray,hm,adT] at z z'
     exact ⟨z,z'⟩
    ·cases e
   ·rename_i hl
    cases e
    exact ⟨SeqAt.RcAt.lists_lengths p1.isList p2.isList (by rw [List.size_toArray,List.size_toArray]; simp; omega) (by omega),SeqAt.RcNeAt.lists_lengths p1.isList p2.isList (by rw [List.size_toArray,List.size_toArray]; simp; omega) (by omega)⟩
  | _=>unfold eqN at e; simp at e
def rEqP (K:PySem.W.Frag) (neg:Bool):R2:=fun x y H Q=>∃ p v w b,RepR K p H v x∧RepR K p H w y∧eqN 8 v w=some b∧Q (.bl (if neg then !b else b)) H
theorem abF (hu:X.A.units+8 < cLine):OpR X (compareOp .Eq) (rEqP X.K false):=by
 intro pins s σ H x y v u Q I rx ry h
 obtain ⟨p,a,b,k,h1,h2,e,q⟩:=h
 exact (anz I hu h1 h2 rx ry e).1 X.prog X.w X.xe _ ⟨.bl k,H,I,rfl,q⟩
theorem adu (hu:X.A.units+8 < cLine):OpR X (compareOp .NotEq) (rEqP X.K true):=by
 intro pins s σ H x y v u Q I rx ry h
 obtain ⟨p,a,b,k,h1,h2,e,q⟩:=h
 exact (anz I hu h1 h2 rx ry e).2 X.prog X.w X.xe _ ⟨.bl (!k),H,I,rfl,q⟩
def fEq (a b:PV):Option PV:=(eqN 8 a b).map .bl
def fNe (a b:PV):Option PV:=(eqN 8 a b).map fun k=>.bl (!k)
theorem s_eq {K:PySem.W.Frag}:OpS K (rEqP K false) fEq:=fun {p S H a b c x y Q} s ra rb e k=>by
 unfold fEq at e
 cases z:eqN 8 a b with
 | none=>rw [z] at e; cases e
 | some t =>
  rw [z] at e
  cases e
  exact ⟨p,a,b,t,ra,rb,z,k H _ (Same.refl H) (by unfold Rep; rfl)⟩
theorem s_ne {K:PySem.W.Frag}:OpS K (rEqP K true) fNe:=fun {p S H a b c x y Q} s ra rb e k=>by
 unfold fNe at e
 cases z:eqN 8 a b with
 | none=>rw [z] at e; cases e
 | some t =>
  rw [z] at e
  cases e
  exact ⟨p,a,b,t,ra,rb,z,k H _ (Same.refl H) (by unfold Rep; rfl)⟩
def i2 (f:Int→Int→Option PV):PV→PV→Option PV
 | .int a,.int b=>f a b
 | _,_=>none
open Classical in
noncomputable def cI (C:Int→Int→Prop) (g:Int→Int→PV) (a b:Int):Option PV:=if C a b then some (g a b) else none
def toV:PV→V
 | .int i=>.int i
 | .bl b=>.bl b
 | .str s=>.str s
 | _=>.non
def ais:PV→Bool
 | .int _=>true
 | .bl _=>true
 | .str _=>true
 | .non=>true
 | _=>false
theorem abv {K:PySem.W.Frag} {c:Addr→Prop} {H:Hp} {v:PV} (h:ais v=true):Rep K c H v (toV v):=by
 cases v with
 | tup _=>cases h
 | lst _=>cases h
 | _=>unfold Rep toV; rfl
theorem s_i2 {K:PySem.W.Frag} {C:Int→Int→Prop} {g:Int→Int→PV} {h:Int→Int→V} (fl:∀ i j,ais (g i j)=true∧toV (g i j)=h i j):OpS K (rI C h) (i2 (cI C g)):=fun {p S H a b c x y Q} s ra rb e k=>by
 cases a with
 | int i =>
  cases b with
  | int j =>
   unfold i2 cI at e
   dsimp only at e
   split at e
   ·rename_i hc
    cases e
    refine ⟨i,j,ra.int,rb.int,hc,?_⟩
    rw [← (fl i j).2]
    exact k H _ (Same.refl H) (abv (fl i j).1)
   ·cases e
  | _=>cases e
 | _=>cases e
theorem s_i0 {K:PySem.W.Frag} {g:Int→Int→PV} {h:Int→Int→V} (fl:∀ i j,ais (g i j)=true∧toV (g i j)=h i j):OpS K (rI0 h) (i2 fun i j=>some (g i j)):=fun {p S H a b c x y Q} s ra rb e k=>by
 cases a with
 | int i =>
  cases b with
  | int j =>
   cases e
   refine ⟨i,j,ra.int,rb.int,?_⟩
   rw [← (fl i j).2]
   exact k H _ (Same.refl H) (abv (fl i j).1)
  | _=>cases e
 | _=>cases e
def ahg (i j:Int):Prop:=CMul i j∨(Bd 1000000 i∧Bd 1000000 j)
theorem ahg.ok {i j:Int} (h:ahg i j):IntMulOk i j:=by
 rcases h with h | h
 ·exact h.ok
 have h1:=ajq h.1
 have h2:=ajq h.2
 unfold IntMulOk Builtin.Int.intTooBig bitsLine
 intro c
 simp only [Bool.and_eq_true,decide_eq_true_eq] at c
 have:=c.2
 omega
theorem aaU:OpR X (binaryOp .Mult) (rI ahg fun i j=>.int (i*j)):=opI fun _ _ _ _ _ _ _ hc q=>mul_int q hc.ok
noncomputable def fMul:=i2 (cI ahg fun i j=>.int (i*j))
noncomputable def act:=i2 (cI ahi fun i j=>.int (i.fdiv j))
noncomputable def fMod:=i2 (cI (fun _ j=>j≠0) fun i j=>.int (i.fmod j))
noncomputable def fPow:=i2 (cI CPow fun i j=>.int (i ^ j.toNat))
def fSub:=i2 fun i j=>some (.int (i - j))
def fLt:=i2 fun i j=>some (.bl (decide (i < j)))
def fLe:=i2 fun i j=>some (.bl (decide (i≤j)))
def fGt:=i2 fun i j=>some (.bl (decide (j < i)))
def fGe:=i2 fun i j=>some (.bl (decide (j≤i)))
theorem acl {K:PySem.W.Frag}:OpS K (rI ahg fun i j=>.int (i*j)) fMul:=s_i2 fun _ _=>⟨rfl,rfl⟩
theorem aeZ {K:PySem.W.Frag}:OpS K (rI ahi fun i j=>.int (i.fdiv j)) act:=s_i2 fun _ _=>⟨rfl,rfl⟩
theorem age {K:PySem.W.Frag}:OpS K (rI (fun _ j=>j≠0) fun i j=>.int (i.fmod j)) fMod:=s_i2 fun _ _=>⟨rfl,rfl⟩
theorem ag7 {K:PySem.W.Frag}:OpS K (rI CPow fun i j=>.int (i ^ j.toNat)) fPow:=s_i2 fun _ _=>⟨rfl,rfl⟩
theorem ak3 {K:PySem.W.Frag}:OpS K (rI0 fun i j=>.int (i - j)) fSub:=s_i0 fun _ _=>⟨rfl,rfl⟩
theorem s_lt {K:PySem.W.Frag}:OpS K (rI0 fun i j=>.bl (decide (i < j))) fLt:=s_i0 fun _ _=>⟨rfl,rfl⟩
theorem s_le {K:PySem.W.Frag}:OpS K (rI0 fun i j=>.bl (decide (i≤j))) fLe:=s_i0 fun _ _=>⟨rfl,rfl⟩
theorem s_gt {K:PySem.W.Frag}:OpS K (rI0 fun i j=>.bl (decide (j < i))) fGt:=s_i0 fun _ _=>⟨rfl,rfl⟩
theorem s_ge {K:PySem.W.Frag}:OpS K (rI0 fun i j=>.bl (decide (j≤i))) fGe:=s_i0 fun _ _=>⟨rfl,rfl⟩
def fNeg:PV→Option PV
 | .int i=>some (.int (-i))
 | _=>none
theorem ahq {K:PySem.W.Frag}:UnS K (rU fun i=>.int (-i)) fNeg:=fun {p S H a c x Q} s ra e k=>by
 cases a with
 | int i =>
  cases e
  exact ⟨i,ra.int,k H _ (Same.refl H) (abv (v:=.int (-i)) rfl)⟩
 | _=>cases e
def aog (K:PySem.W.Frag):R2:=fun x y H Q=>∃ l b xs zs,x=.ref l∧y=.ref b∧SqL K H l xs∧SqL K H b zs∧xs.length+zs.length≤sizeLine∧∀ p,H p=none→Q (.ref p) (upd H p (.lst (xs++zs)))
theorem amb:OpR X (binaryOp .Add) (aog X.K):=by
 intro pins s σ H x y v u Q I rx ry h
 obtain ⟨l,b,xs,zs,rfl,rfl,hx,hy,hz,q⟩:=h
 cases rx
 cases ry
 obtain ⟨its,r1,p1,_⟩:=I.list hx
 obtain ⟨jts,r2,p2,_⟩:=I.list hy
 obtain ⟨⟨cls,dd,data,sl⟩,n,ho,hc,_,hd⟩:=p1
 obtain ⟨⟨cls2,dd2,data2,sl2⟩,n2,ho2,hc2,_,hd2⟩:=p2
 simp only at hc hd hc2 hd2
 subst hc hd hc2 hd2
 have e:its.toArray++jts.toArray=(its++jts).toArray:=by simp
 have l1:=r1.length
 have l2:=r2.length
 refine concat_meets ⟨_,ho,rfl⟩ ⟨_,ho2,rfl⟩ noFill_list_add seq_list_add PySem.F.slot_list_add PySem.F.entry_list_add (PySem.F.args_list_add_2 _ _) (list_addW l b its.toArray jts.toArray n n2 dd dd2 sl sl2 (by rw [List.size_toArray,List.size_toArray]; omega)) ⟨ho,ho2,?_⟩
 rw [e]
 exact ⟨.ref _,_,I.lnew (t':=s.toks) (r1.append r2) (by rw [List.length_append]; omega),rfl,q _ I.fresh⟩
def fAdd:PV→PV→Option PV
 | .int a,.int b=>some (.int (a+b))
 | .lst xs,.lst ys=>if xs.length+ys.length≤16777216 then some (.lst (xs++ys)) else none
 | .tup xs,.tup ys=>if xs.length≠0∧ys.length≠0∧xs.length+ys.length≤16777216 then some (.tup (xs++ys)) else none
 | _,_=>none
def an6 (K:PySem.W.Frag):R2:=fun x y H Q=>(rI0 fun i j=>.int (i+j)) x y H Q∨aog K x y H Q∨anv K x y H Q
theorem aaX:OpR X (binaryOp .Add) (an6 X.K):=OpR.or ant (OpR.or amb al7)
theorem acm {K:PySem.W.Frag}:OpS K (an6 K) fAdd:=fun {p S H a b c x y Q} s ra rb e k=>by
 cases a with
 | int i =>
  cases b with
  | int j =>
   cases e
   exact .inl ⟨i,j,ra.int,rb.int,k H _ (Same.refl H) (abv (v:=.int (i+j)) rfl)⟩
  | _=>cases e
 | lst xs =>
  cases b with
  | lst ys =>
   have e:(if xs.length+ys.length≤16777216 then some (PV.lst (xs++ys)) else none)=some c:=e
   split at e
   ·rename_i hl
    cases e
    obtain ⟨a1,vs,rfl,l1,z1,r1⟩:=ra.lst
    obtain ⟨a2,ws,rfl,l2,z2,r2⟩:=rb.lst
    have hz:vs.length+ws.length≤sizeLine:=by rw [← r1.length,← r2.length,aaG]; exact hl
    exact .inr (.inl ⟨a1,a2,vs,ws,rfl,rfl,l1,l2,hz,fun t ht=>k _ _ (abf ht) (aer s (r1.append r2) (by rw [List.length_append]; exact hz) ht)⟩)
   ·cases e
  | _=>cases e
 | tup xs =>
  cases b with
  | tup ys =>
   have e:(if xs.length≠0∧ys.length≠0∧xs.length+ys.length≤16777216 then some (PV.tup (xs++ys)) else none)=some c:=e
   split at e
   ·rename_i hl
    cases e
    obtain ⟨a1,vs,rfl,l1,z1,r1⟩:=ra.tup
    obtain ⟨a2,ws,rfl,l2,z2,r2⟩:=rb.tup
    have hz:vs.length+ws.length≤sizeLine:=by rw [← r1.length,← r2.length,aaG]; exact hl.2.2
    refine .inr (.inr ⟨a1,a2,vs,ws,rfl,rfl,l1,l2,fun q=>hl.1 (by rw [r1.length,q]; rfl),hz,fun q=>absurd (show ys.length=0 by rw [r2.length,q]; rfl) hl.2.1,fun _ t ht=>k _ _ (abf ht) (adD s (r1.append r2) (by rw [List.length_append]; exact hz) ht)⟩)
   ·cases e
  | _=>cases e
 | _=>cases e
end
section
variable {K:PySem.W.Frag} {cl:Str→Addr} {E:XK} {X:Cx} {a b e:Expr} {es:List Expr} {ma mb m:ME} {ms:MA} {pos p2:Pos}
def fIx:PV→PV→Option PV
 | .lst xs,.int i=>atI xs i
 | .tup xs,.int i=>atI xs i
 | _,_=>none
theorem akf {c:Addr→Prop} {H:Hp} {xs:List PV} {vs:List V} {i:Int} {v:PV} (r:Reps K c H xs vs) (e:atI xs i=some v):∃ x,atI vs i=some x∧Rep K c H v x:=by
 unfold atI at e ⊢
 rw [← r.length]
 cases z:ixN xs.length i with
 | none=>rw [z] at e; cases e
 | some j =>
  rw [z] at e
  exact r.get e
theorem s_ix:OpS K (rIx K) fIx:=fun {p S H a b c x y Q} s ra rb e k=>by
 cases b with
 | int i =>
  cases a with
  | lst xs =>
   obtain ⟨a1,vs,rfl,l1,z1,r1⟩:=ra.lst
   obtain ⟨x,e1,r2⟩:=akf r1 e
   exact .inl ⟨a1,vs,i,x,rfl,rb.int,l1,e1,k H x (Same.refl H) r2⟩
  | tup xs =>
   obtain ⟨a1,vs,rfl,l1,z1,r1⟩:=ra.tup
   obtain ⟨x,e1,r2⟩:=akf r1 e
   exact .inr (.inl ⟨a1,vs,i,x,rfl,rb.int,l1,e1,k H x (Same.refl H) r2⟩)
  | _=>cases e
 | _=>cases a <;> cases e
theorem abT (ha:PEp K cl E X a ma) (hb:PEp K cl E X b mb) (hs:ag9 b:=by intro _ _; rfl):PEp K cl E X (.Subscript a b pos) (mBin fIx ma mb):=by
 intro hK
 subst hK
 refine (anq aob (ha rfl) (hb rfl) hs).imp fun σ H Q ⟨p,S,ρ,s,e,h⟩=>?_
 exact aat s e h fun q H1 a x S1 st s1 e1 r1 h1=>aat s1 e1 h1 fun q2 H2 b y S2 st2 s2 e2 r2 h2=>acB s_ix s2 (st2.repA r1) r2 h2
abbrev MO:=Rho→Sto→Res (Option Int)
def mO0:MO:=fun _ S=>.ok none S
def abl:AV→Sto→Res (Option Int)
 | .pv (.int i),S=>.ok (some i) S
 | _,_=>.fail
def mO1 (m:ME):MO:=fun ρ S=>(m ρ S).bind abl
abbrev RO:Ph→Hp→Option Int→Option Int→Prop:=fun _ _ a b=>a=b
variable (K cl E X)
def POp (e:Option Expr) (m:MO):Prop:=X.K=K→PO X e (tP K cl E RO m)
variable {K cl E X}
theorem PO.imp {e:Option Expr} {t t':TO} (h:PO X e t) (i:∀ σ H Q,t' σ H Q→t σ H Q):PO X e t':=fun pins s σ H Q I q=>h pins s σ H Q I (i σ H Q q)
theorem abD:POp K cl E X none mO0:=fun _=>PO.imp al5 fun σ H Q ⟨p,S,ρ,s,e,h⟩=>aaO.ret (R:=RO) h s rfl
theorem abC (h:PEp K cl E X e m):POp K cl E X (some e) (mO1 m):=by
 intro hK
 subst hK
 refine PO.imp (amS (h rfl)) fun σ H Q ⟨p,S,ρ,s,e,h⟩=>?_
 refine aat s e h fun q H1 a x S1 st s1 e1 r1 h1=>?_
 unfold abl at h1
 split at h1
 ·rename_i i
  exact ⟨i,(show RepR X.K q H1 (.int i) x from .inl r1).int,aaO.ret (R:=RO) h1 s1 rfl⟩
 ·exact h1.elim
def cutP (xs:List PV) (lo hi:Option Int):List PV:=(xs.drop (HT.sIx xs.length 0 lo)).take (HT.sIx xs.length xs.length hi - HT.sIx xs.length 0 lo)
def fSl (v:PV) (lo hi:Option Int):Option PV:=match v with
 | .lst xs=>some (.lst (cutP xs lo hi))
 | .tup xs=>if HT.sIx xs.length 0 lo=0∧HT.sIx xs.length xs.length hi=xs.length then none else some (.tup (cutP xs lo hi))
 | _=>none
def mSl (m:ME) (ml mh:MO):ME:=fun ρ S=>(m ρ S).bind fun v S1=>(ml ρ S1).bind fun lo S2=>(mh ρ S2).bind fun hi S3=>okO ((rd S3 v).bind fun x=>fSl x lo hi) S3
theorem ahQ {c:Addr→Prop} {H:Hp} {xs:List PV} {vs:List V} {lo hi:Option Int} (r:Reps K c H xs vs):Reps K c H (cutP xs lo hi) (cutV vs lo hi):=by
 unfold cutP cutV
 rw [← r.length]
 exact (r.drop _).take _
theorem amo {lo hi:Option Expr} {ml mh:MO} (he:PEp K cl E X e m) (hl:POp K cl E X lo ml) (hu:POp K cl E X hi mh):PEp K cl E X (.Subscript e (.Slice lo hi none p2) pos) (mSl m ml mh):=by
 intro hK
 subst hK
 refine (ah1 (SlR.or amR anS) (he rfl) (hl rfl) (hu rfl)).imp fun σ H Q ⟨p,S,ρ,s,e,h⟩=>?_
 refine aat s e h fun q H1 a x S1 st s1 e1 r1 h1=>aat s1 e1 h1 fun q2 H2 lo lo' S2 st2 s2 e2 r2 h2=>aat s2 e2 h2 fun q3 H3 hi hi' S3 st3 s3 e3 r3 h3=>?_
 cases r2
 cases r3
 have ra:=st3.repA (st2.repA r1)
 obtain ⟨c,ec,k⟩:=adg s3 h3
 cases z:rd S3 a with
 | none=>rw [z] at ec; cases ec
 | some v =>
  rw [z] at ec
  have rv:=afz s3 ra z
  cases v with
  | lst xs =>
   have ec:some (PV.lst (cutP xs lo hi))=some c:=ec
   cases ec
   obtain ⟨a1,vs,rfl,l1,z1,r1⟩:=rv.lst
   exact .inl ⟨a1,vs,rfl,l1,fun t ht=>k _ _ (abf ht) (aer s3 (ahQ r1) (Nat.le_trans (acY vs lo hi) z1) ht)⟩
  | tup xs =>
   obtain ⟨a1,vs,rfl,l1,z1,r1⟩:=rv.tup
   have ec:(if HT.sIx xs.length 0 lo=0∧HT.sIx xs.length xs.length hi=xs.length then none else some (PV.tup (cutP xs lo hi)))=some c:=ec
   split at ec
   ·cases ec
   ·rename_i hw
    cases ec
    rw [r1.length] at hw
    exact .inr ⟨a1,vs,rfl,l1,hw,fun t ht=>k _ _ (abf ht) (adD s3 (ahQ r1) (Nat.le_trans (acY vs lo hi) z1) ht)⟩
  | _=>cases ec
theorem aaK {id:String} {r:List V→Hp→VK→Prop} {f:List PV→Option PV} {x:Str} {p:Pos} (hc:aeo X (.builtin id) r) (hf:CaR X.K r f) (hg:Gl X x) (hm:X.mg x=none) (hv:bootBuiltins x=some (.builtin id)) (ha:PAp K cl E X (e :: es) ms) (hn:x≠"__name__":=by decide) (hdb:(x == ("__debug__":Str))=false:=by decide)
  (he:starEach (e :: es) X.env=(false,eval e X.env) :: starEach es X.env:=by rfl) (hpl:(backTo pos (starEach es X.env)).any (·.1)=false:=by rfl):PEp K cl E X (.Call (.Name x p) (e :: es) [] pos) (mR f ms):=by
 intro hK
 subst hK
 refine PE.imp (aie hc hg hm hv (ha rfl) hn hdb he hpl) fun σ H Q ⟨p,S,ρ,s,ev,h⟩=>?_
 exact aat s ev h fun q H' as xs S' stp sm ev r k=>agT hf sm r k
theorem aa7 {T:String} {r:List V→Hp→VK→Prop} {f:List PV→Option PV} {x:Str} {p:Pos} (hc:aeo X (.type T) r) (hf:CaR X.K r f) (hg:Gl X x) (hm:X.mg x=none) (hv:bootBuiltins x=some (.type T)) (ha:PAp K cl E X (e :: es) ms) (hn:x≠"__name__":=by decide) (hdb:(x == ("__debug__":Str))=false:=by decide)
  (he:starEach (e :: es) X.env=(false,eval e X.env) :: starEach es X.env:=by rfl) (hpl:(backTo pos (starEach es X.env)).any (·.1)=false:=by rfl):PEp K cl E X (.Call (.Name x p) (e :: es) [] pos) (mR f ms):=by
 intro hK
 subst hK
 refine PE.imp (ai4 hc hg hm hv (ha rfl) hn hdb he hpl) fun σ H Q ⟨p,S,ρ,s,ev,h⟩=>?_
 exact aat s ev h fun q H' as xs S' stp sm ev r k=>agT hf sm r k
def fLen:List PV→Option PV
 | [.lst xs]=>some (.int xs.length)
 | [.tup xs]=>some (.int xs.length)
 | _=>none
theorem afy:CaR K (fun xs H Q=>∃ p ys,xs=[.ref p]∧(SqL K H p ys∨SqT K H p ys)∧Q (.int ys.length) H) fLen:=fun {p S H as c xs Q} s ra e k=>by
 unfold fLen at e
 split at e
 ·rename_i zs
  cases e
  cases ra with
  | cons h t =>
   cases t
   obtain ⟨a,vs,rfl,l,z,r⟩:=h.lst
   refine ⟨a,vs,rfl,.inl l,?_⟩
   rw [← r.length]
   exact k H _ (Same.refl H) (abv (v:=.int zs.length) rfl)
 ·rename_i zs
  cases e
  cases ra with
  | cons h t =>
   cases t
   obtain ⟨a,vs,rfl,l,z,r⟩:=h.tup
   refine ⟨a,vs,rfl,.inr l,?_⟩
   rw [← r.length]
   exact k H _ (Same.refl H) (abv (v:=.int zs.length) rfl)
 ·cases e
def fAbs:List PV→Option PV
 | [.int i]=>some (.int (if i < 0 then -i else i))
 | _=>none
theorem aiJ:CaR K (fun xs H Q=>∃ i,xs=[.int i]∧Q (.int (if i < 0 then -i else i)) H) fAbs:=fun {p S H as c xs Q} s ra e k=>by
 unfold fAbs at e
 split at e
 ·rename_i i
  cases e
  cases ra with
  | cons h t =>
   cases t
   cases h.int
   exact ⟨i,rfl,k H _ (Same.refl H) (abv (v:=.int _) rfl)⟩
 ·cases e
def aaj:List PV→Option PV
 | [.lst xs]=>some (.tup xs)
 | [.tup xs]=>some (.tup xs)
 | _=>none
theorem af8:CaR K (fun xs H Q=>∃ p ys,xs=[.ref p]∧((SqL K H p ys∧∀ l,H l=none→Q (.ref l) (upd H l (.tup ys)))∨(SqT K H p ys∧Q (.ref p) H))) aaj:=fun {p S H as c xs Q} s ra e k=>by
 unfold aaj at e
 split at e
 ·rename_i zs
  cases e
  cases ra with
  | cons h t =>
   cases t
   obtain ⟨a,vs,rfl,l,z,r⟩:=h.lst
   exact ⟨a,vs,rfl,.inl ⟨l,fun t ht=>k _ _ (abf ht) (adD s r z ht)⟩⟩
 ·rename_i zs
  cases e
  cases ra with
  | cons h t =>
   cases t
   obtain ⟨a,vs,rfl,l,z,r⟩:=h.tup
   refine ⟨a,vs,rfl,.inr ⟨l,k H _ (Same.refl H) ?_⟩⟩
   unfold Rep
   exact ⟨a,vs,rfl,l,z,r⟩
 ·cases e
def aal:List PV→Option PV
 | [.lst xs]=>some (.lst xs)
 | [.tup xs]=>some (.lst xs)
 | _=>none
theorem aml:CaR K (fun xs H Q=>∃ p ys,xs=[.ref p]∧(SqL K H p ys∨SqT K H p ys)∧∀ l,H l=none→Q (.ref l) (upd H l (.lst ys))) aal:=fun {p S H as c xs Q} s ra e k=>by
 unfold aal at e
 split at e
 ·rename_i zs
  cases e
  cases ra with
  | cons h t =>
   cases t
   obtain ⟨a,vs,rfl,l,z,r⟩:=h.lst
   exact ⟨a,vs,rfl,.inl l,fun t ht=>k _ _ (abf ht) (aer s r z ht)⟩
 ·rename_i zs
  cases e
  cases ra with
  | cons h t =>
   cases t
   obtain ⟨a,vs,rfl,l,z,r⟩:=h.tup
   exact ⟨a,vs,rfl,.inr l,fun t ht=>k _ _ (abf ht) (aer s r z ht)⟩
 ·cases e
def afv:List PV→Option (List Bool)
 | []=>some []
 | .bl b :: r=>match afv r with
  | some bs=>some (b :: bs)
  | none=>none
 | _ :: _=>none
def fAll:List PV→Option PV
 | [.lst xs]=>(afv xs).map fun bs=>.bl (bs.all id)
 | _=>none
theorem aiq {c:Addr→Prop} {H:Hp}:∀ {xs:List PV} {bs:List Bool} {vs:List V},afv xs=some bs→Reps K c H xs vs→vs=bs.map V.bl
 | [],bs,vs,e,r=>by
  cases e
  unfold Reps at r
  exact r
 | .bl b :: xs,bs,vs,e,r=>by
  unfold afv at e
  split at e
  ·rename_i cs h
   cases e
   unfold Reps at r
   obtain ⟨v,w,rfl,r1,r2⟩:=r
   unfold Rep at r1
   rw [r1,aiq h r2]
   rfl
  ·cases e
 | .non :: _,_,_,e,_=>by cases e
 | .int _ :: _,_,_,e,_=>by cases e
 | .str _ :: _,_,_,e,_=>by cases e
 | .tup _ :: _,_,_,e,_=>by cases e
 | .lst _ :: _,_,_,e,_=>by cases e
theorem alX:CaR K (fun xs H Q=>∃ (a:Addr) (bs:List Bool),xs=[.ref a]∧SqL K H a (bs.map V.bl)∧Q (.bl (bs.all id)) H) fAll:=fun {p S H as c xs Q} s ra e k=>by
 unfold fAll at e
 split at e
 ·rename_i zs
  cases y:afv zs with
  | none=>rw [y] at e; cases e
  | some bs =>
   rw [y] at e
   cases e
   cases ra with
   | cons h t =>
    cases t
    obtain ⟨a,vs,rfl,l,z,r⟩:=h.lst
    rw [aiq y r] at l
    exact ⟨a,bs,rfl,l,k H _ (Same.refl H) (abv (v:=.bl _) rfl)⟩
 ·cases e
end
end L2.Pp
namespace L2.Pp
open PySem PySem.Spec PyProof.Rows Bn
section
variable {K:PySem.W.Frag} {cl:Str→Addr} {E:XK} {X:Cx} {a b c e l tg:Expr} {es:List Expr} {m ma mb:ME} {ms:MA} {pos:Pos} {p q:Ph} {H H':Hp} {S:Sto}
theorem Sim.push (s:Sim K p S H) {D:Addr} {ps:List PV} {vs:List V} (h:H D=none) (l:vs.length≤sizeLine) (r:Reps K p.c H ps vs) :
  let q:Ph:=⟨p.f++[D],fun a=>p.w a∨a=D,fun a=>p.c a∨a=D⟩
  Step p H q (upd H D (.lst vs))∧Sim K q (S++[.lst ps]) (upd H D (.lst vs)):=by
 intro q
 obtain ⟨st0,sm0⟩:=s.res (D:=D) (o:=.lst vs) h trivial
 have nf0:D ∉ p.f:=fun z=>s.notin h (s.wc D (s.sub D z))
 refine ⟨⟨st0.wc,st0.mu,⟨[D],rfl⟩,st0.mw,st0.mono,fun a x n=>?_,st0.nw,st0.nc,st0.keep⟩,?_,by simp [q,s.len],fun a x=>?_,sm0.wc,sm0.mu,fun k a o e1 e2=>?_⟩
 ·rcases List.mem_append.mp x with z | z
  ·exact absurd z n
  ·have:a=D:=by simpa using z
   rw [this]
   exact h
 ·show (p.f++[D]).Nodup
  rw [List.nodup_append]
  refine ⟨s.nd,by simp,fun a ha b hb z=>?_⟩
  have:b=D:=by simpa using hb
  exact nf0 (this ▸ z ▸ ha)
 ·rcases List.mem_append.mp x with z | z
  ·exact .inl (s.sub a z)
  ·exact .inr (by simpa using z)
 ·by_cases hk:k < S.length
  ·have e1':p.f[k]?=some a:=by
    have e1:(p.f++[D])[k]?=some a:=e1
    rwa [List.getElem?_append_left (by rw [s.len]; exact hk)] at e1
   rw [List.getElem?_append_left hk] at e2
   refine (s.obj k a o e1' e2).mono (fun vs e=>by rw [aaI (aaV e h)]; exact e) (fun b w f=>⟨⟨.inl w,fun m=>?_⟩,fun vs e=>by rw [aaI (aaV e h)]; exact e⟩) fun _ _ r=>st0.reps r
   rcases List.mem_append.mp m with z | z
   ·exact f z
   ·have:b=D:=by simpa using z
    exact s.notin h (this ▸ s.wc b w)
  ·have hk':k=S.length:=by
    have:=(List.getElem?_eq_some_iff.mp e2).1
    simp at this
    omega
   subst hk'
   rw [List.getElem?_append_right (Nat.le_refl _),Nat.sub_self] at e2
   have e1:(p.f++[D])[S.length]?=some a:=e1
   rw [← s.len,List.getElem?_append_right (Nat.le_refl _),Nat.sub_self] at e1
   cases e1
   cases e2
   exact ⟨vs,abB,l,st0.reps r⟩
theorem Sim.write (s:Sim K p S H) {D:Addr} {k:Nat} {ps:List PV} {vs:List V} (h:p.f[k]?=some D) (hk:k < S.length) (l:vs.length≤sizeLine) (r:Reps K p.c H ps vs) :
  Step p H p (upd H D (.lst vs))∧Sim K p (S.set k (.lst ps)) (upd H D (.lst vs)):=by
 have w:p.w D:=s.sub D (List.mem_of_getElem? h)
 have st:Step p H p (upd H D (.lst vs)):=⟨s.wc,s.mu,List.prefix_rfl,fun _ h=>h,fun _ h=>h,fun _ h g=>absurd h g,fun _ h g=>absurd h g,fun _ h g=>absurd h g,fun a u e nw=>by
  rw [aaI (fun z:a=D=>nw (by rw [z]; exact w))]
  exact e⟩
 refine ⟨st,s.nd,by rw [List.length_set]; exact s.len,s.sub,s.wc,fun a x=>?_,fun j a o e1 e2=>?_⟩
 ·by_cases z:a=D
  ·rw [z,abB]
   exact ⟨_,rfl,trivial⟩
  ·rw [aaI z]
   exact s.mu a x
 ·by_cases hj:k=j
  ·subst hj
   rw [h] at e1
   cases e1
   rw [List.getElem?_set_self hk] at e2
   cases e2
   exact ⟨vs,abB,l,st.reps r⟩
  ·rw [List.getElem?_set_ne hj] at e2
   have ne:a≠D:=fun q=>hj (ae3 s.nd h (q ▸ e1))
   exact (s.obj j a o e1 e2).mono (fun vs e=>by rw [aaI ne]; exact e) (fun b w f=>⟨⟨w,f⟩,fun vs e=>by rw [aaI (fun z:b=D=>f (z ▸ List.mem_of_getElem? h))]; exact e⟩) fun _ _ r=>st.reps r
def alN (xs:List AV) (S:Sto):Res AV:=match abN xs with
 | some vs=>if vs.length≤16777216 then .ok (.ref S.length) (S++[.lst vs]) else .fail
 | none=>.fail
def mNew (ms:MA):ME:=fun ρ S=>(ms ρ S).bind alN
theorem al2 (h:PAp K cl E X es ms):PEp K cl E X (.List es pos) (mNew ms):=by
 intro hK
 subst hK
 refine (alF (h rfl)).imp fun σ H Q ⟨p,S,ρ,s,e,h⟩=>?_
 refine aat s e h fun q H1 as xs S1 st s1 e1 r1 h1=>?_
 unfold alN at h1
 split at h1
 ·rename_i vs hv
  split at h1
  ·rename_i hl
   have r:=adp hv r1
   rw [r.length,← aaG] at hl
   refine ⟨hl,fun t ht=>?_⟩
   obtain ⟨st2,sm2⟩:=s1.push ht hl r
   exact h1 _ _ (.ref t) st2 sm2 ⟨t,by show (q.f++[t])[S1.length]?=some t; rw [← s1.len,List.getElem?_append_right (Nat.le_refl _),Nat.sub_self]; rfl,rfl⟩
  ·exact h1.elim
 ·exact h1.elim
def akZ (k:Nat) (ys:List AV) (S:Sto):Res AV:=match ys with
 | [.pv y]=>match S[k]? with
  | some (.lst xs)=>if xs.length < 16777216 then .ok (.pv .non) (S.set k (.lst (xs++[y]))) else .fail
  | _=>.fail
 | _=>.fail
def aho {α:Type} (k:AV) (f:Nat→Res α):Res α:=match k with
 | .ref k=>f k
 | _=>.fail
def mApp (m:ME) (ms:MA):ME:=fun ρ S=>(m ρ S).bind fun k S1=>aho k fun k=>(ms ρ S1).bind fun ys S2=>akZ k ys S2
theorem aki {k:Nat} {x:V} (s:Sim K p S H) (r:RepA K p H (.ref k) x):tyV K "list" x H:=by
 obtain ⟨a,e,rfl⟩:=r
 have hk:k < S.length:=by
  have:=(List.getElem?_eq_some_iff.mp e).1
  rw [← s.len]
  exact this
 have z:=s.obj k a S[k] e (List.getElem?_eq_getElem hk)
 cases y:S[k] with
 | lst xs =>
  rw [y] at z
  obtain ⟨vs,h,_⟩:=z
  exact .inl ⟨rfl,vs,SqL.of h⟩
 | lol xss =>
  rw [y] at z
  obtain ⟨bs,h,_⟩:=z
  exact .inl ⟨rfl,_,SqL.of h⟩
theorem agL {apos cpos:Pos} (ho:PEp K cl E X a m) (ha:PAp K cl E X [e] ms) (hbase:attributeBase a "append" X.env (eval a X.env)=eval a X.env:=by rfl)
  (hfew:((backTo cpos (starEach [e] X.env)).all (fun x=>!x.1) && (backToKw cpos (keywordEach [] X.env)).all (fun x=>x.1.isSome) && decide (([e]:List Expr).length+([]:List Keyword).length+(if ([]:List Keyword).isEmpty then 0 else 1) < 30))=true:=by rfl)
  (hline:(apos.endLine == cpos.line)=true:=by rfl) (hs:starEach [e] X.env=[(false,eval e X.env)]:=by rfl):PEp K cl E X (.Call (.Attribute a "append" apos) [e] [] cpos) (mApp m ms):=by
 intro hK
 subst hK
 refine PE.imp (ak4 PySem.F.plainAttrs_list PySem.F.slot_list_append PySem.F.type_list_append adZ (ho rfl) (ha rfl) hbase hfew hline hs rfl) fun σ H Q ⟨p,S,ρ,s,ev,h⟩=>?_
 refine aat s ev h fun q H1 k x S1 st s1 e1 r1 h1=>?_
 cases k with
 | pv v=>exact h1.elim
 | ref k =>
  refine ⟨aki s1 r1,aat s1 e1 h1 fun q2 H2 ys xs S2 st2 s2 e2 r2 h2=>?_⟩
  obtain ⟨a,ea,rfl⟩:=st2.repA r1
  unfold akZ at h2
  split at h2
  ·rename_i y
   cases r2 with
   | cons r3 r4 =>
    cases r4
    rename_i x
    cases z:S2[k]? with
    | none=>rw [z] at h2; exact h2.elim
    | some o =>
     cases o with
     | lol xss=>simp only [z] at h2; exact h2.elim
     | lst zs =>
      simp only [z] at h2
      obtain ⟨vs,h3,l3,r4⟩:=s2.obj k a _ ea z
      split at h2
      ·rename_i hl
       rw [r4.length] at hl
       have hz:=aaG
       refine ⟨a,vs,x,rfl,rfl,h3,by omega,?_⟩
       obtain ⟨st3,sm3⟩:=s2.write ea (List.getElem?_eq_some_iff.mp z).1 (ps:=zs++[y]) (vs:=vs++[x]) (by rw [List.length_append,List.length_singleton]; omega) (r4.append (.cons r3 .nil))
       exact h2 _ _ .non st3 sm3 (by show Rep X.K q2.c (upd H2 a (.lst (vs++[x]))) .non .non; unfold Rep; rfl)
      ·exact h2.elim
  ·exact h2.elim
def alS (k:Nat) (ys:List AV) (S:Sto):Res AV:=match ys with
 | [.pv (.int i)]=>if -9223372036854775808≤i∧i < 9223372036854775808 then (match S[k]? with
  | some (.lst xs)=>match seqIndex? i xs.length with
   | some j=>match xs[j]? with
    | some v=>.ok (.pv v) (S.set k (.lst (xs.eraseIdx j)))
    | none=>.fail
   | none=>.fail
  | _=>.fail) else .fail
 | _=>.fail
def mPop (m:ME) (ms:MA):ME:=fun ρ S=>(m ρ S).bind fun k S1=>aho k fun k=>(ms ρ S1).bind fun ys S2=>alS k ys S2
theorem am5 {apos cpos:Pos} (ho:PEp K cl E X a m) (ha:PAp K cl E X [e] ms) (hbase:attributeBase a "pop" X.env (eval a X.env)=eval a X.env:=by rfl)
  (hfew:((backTo cpos (starEach [e] X.env)).all (fun x=>!x.1) && (backToKw cpos (keywordEach [] X.env)).all (fun x=>x.1.isSome) && decide (([e]:List Expr).length+([]:List Keyword).length+(if ([]:List Keyword).isEmpty then 0 else 1) < 30))=true:=by rfl)
  (hline:(apos.endLine == cpos.line)=true:=by rfl) (hs:starEach [e] X.env=[(false,eval e X.env)]:=by rfl):PEp K cl E X (.Call (.Attribute a "pop" apos) [e] [] cpos) (mPop m ms):=by
 intro hK
 subst hK
 refine PE.imp (ak4 PySem.F.plainAttrs_list PySem.F.slot_list_pop PySem.F.type_list_pop akX (ho rfl) (ha rfl) hbase hfew hline hs rfl) fun σ H Q ⟨p,S,ρ,s,ev,h⟩=>?_
 refine aat s ev h fun q H1 k x S1 st s1 e1 r1 h1=>?_
 cases k with
 | pv v=>exact h1.elim
 | ref k =>
  refine ⟨aki s1 r1,aat s1 e1 h1 fun q2 H2 ys xs S2 st2 s2 e2 r2 h2=>?_⟩
  obtain ⟨a,ea,rfl⟩:=st2.repA r1
  unfold alS at h2
  split at h2
  ·rename_i i
   cases r2 with
   | cons r3 r4 =>
    cases r4
    rename_i x
    have ex:x=.int i:=(show RepR X.K q2 H2 (.int i) x from .inl r3).int
    subst ex
    split at h2
    ·rename_i hi
     cases z:S2[k]? with
     | none=>rw [z] at h2; exact h2.elim
     | some o =>
      cases o with
      | lol xss=>simp only [z] at h2; exact h2.elim
      | lst zs =>
       simp only [z] at h2
       obtain ⟨vs,h3,l3,r4⟩:=s2.obj k a _ ea z
       cases y:seqIndex? i zs.length with
       | none=>simp only [y] at h2; exact h2.elim
       | some j =>
        simp only [y] at h2
        cases yv:zs[j]? with
        | none=>simp only [yv] at h2; exact h2.elim
        | some v =>
         simp only [yv] at h2
         obtain ⟨u,eu,ru⟩:=r4.get yv
         refine ⟨a,vs,i,j,u,rfl,rfl,h3,hi.1,hi.2,by rw [← r4.length]; exact y,eu,?_⟩
         obtain ⟨st3,sm3⟩:=s2.write ea (List.getElem?_eq_some_iff.mp z).1 (ps:=zs.eraseIdx j) (vs:=vs.eraseIdx j) (Nat.le_trans (aeT vs j) l3) (r4.eraseIdx j)
         exact h2 _ _ u st3 sm3 (st3.rep ru)
    ·exact h2.elim
  ·exact h2.elim
def akS (k:Nat) (i:AV) (v:AV) (S:Sto):Res Unit:=match i,v with
 | .pv (.int i),.pv v=>match S[k]? with
  | some (.lst xs)=>match ixN xs.length i with
   | some j=>.ok () (S.set k (.lst (xs.set j v)))
   | none=>.fail
  | _=>.fail
 | _,_=>.fail
def akj (mo mi mv:ME):MS:=fun ρ S=>SRes.of (mv ρ S) fun v S1=>SRes.of (mo ρ S1) fun k S2=>SRes.of (mi ρ S2) fun i S3=>SRes.of (aho k fun k=>akS k i v S3) fun _ S4=>.nx ρ S4
theorem ajf {o i v:Expr} {mo mi mv:ME} {tpos:Pos} (hv:PEp K cl E X v mv) (ho:PEp K cl E X o mo) (hi:PEp K cl E X i mi)
  (ha:∀ v,assign (.Subscript o i tpos) X.env v=(do
   let ov ← holding [v] (eval o X.env)
   let iv ← holding [v,ov] (eval i X.env)
   standAt tpos
   holding [v,ov,iv] (setItem ov iv v)
   release [v,ov,iv] []):=by intro _; rfl)
  (hs:swapsWithSole [.Subscript o i tpos] v pos.line X.env=pure false:=by rfl) (hw:swappedStores [.Subscript o i tpos] v X.env=pure none:=by rfl)
  (h1:(assignEach [.Subscript o i tpos] X.env).map (·.2)=[assign (.Subscript o i tpos) X.env]:=by rfl):PSp K cl E X (.Assign [.Subscript o i tpos] v pos) (akj mo mi mv):=by
 intro hK
 subst hK
 refine PS.imp (alA (hv rfl) (anr (ho rfl) (hi rfl) akQ ha) hs hw h1) fun D σ H ⟨p,S,ρ,s,ev,h⟩=>?_
 refine acL s ev h fun q H1 v x S1 st s1 e1 r1 h1=>?_
 refine acL s1 e1 h1 fun q2 H2 k y S2 st2 s2 e2 r2 h2=>?_
 refine acL s2 e2 h2 fun q3 H3 i z S3 st3 s3 e3 r3 h3=>?_
 cases k with
 | pv _=>exact h3.elim
 | ref k =>
  obtain ⟨a,ea,rfl⟩:=st3.repA r2
  have rv:=st3.repA (st2.repA r1)
  have h3:ab5 X.K cl q3 H3 (SRes.of (akS k i v S3) fun _ S4=>.nx ρ S4) D E:=h3
  unfold akS at h3
  split at h3
  ·rename_i ii vv _
   have ez:z=.int ii:=(show RepR X.K q3 H3 (.int ii) z from .inl r3).int
   subst ez
   cases w:S3[k]? with
   | none=>rw [w] at h3; exact h3.elim
   | some o =>
    cases o with
    | lol xss=>simp only [w] at h3; exact h3.elim
    | lst zs =>
     simp only [w] at h3
     obtain ⟨vs,hh,ll,rr⟩:=s3.obj k a _ ea w
     cases y:ixN zs.length ii with
     | none=>simp only [y] at h3; exact h3.elim
     | some j =>
      simp only [y] at h3
      refine ⟨a,vs,ii,j,rfl,rfl,hh,by rw [← rr.length]; exact y,?_⟩
      obtain ⟨st4,sm4⟩:=s3.write ea (List.getElem?_eq_some_iff.mp w).1 (ps:=zs.set j vv) (vs:=vs.set j x) (by rw [List.length_set]; exact ll) (Reps.set rv j rr)
      exact h3 _ _ _ st4 sm4 (st4.repE e3)
  ·exact h3.elim
def zipP:List PV→List PV→List PV
 | x :: xs,y :: ys=>.tup [x,y] :: zipP xs ys
 | _,_=>[]
def aoM:List AV→Sto→Res (List PV × Gd)
 | [a,b],S=>match ab2 a S with
  | .ok xs _=>match ab2 b S with
   | .ok ys _=>.ok (zipP xs.1 ys.1,xs.2++ys.2) S
   | _=>.fail
  | _=>.fail
 | _,_=>.fail
def adR:Nat→List PV→List PV
 | _,[]=>[]
 | n,x :: xs=>.tup [.int n,x] :: adR (n+1) xs
theorem afd:∀ (n:Nat) (xs:List PV),(adR n xs).length=xs.length
 | _,[]=>rfl
 | n,x :: xs=>by
  unfold adR
  rw [List.length_cons,afd (n+1) xs,List.length_cons]
theorem agQ:∀ {n:Nat} {xs:List PV} {i:Nat} {v:PV},(adR n xs)[i]?=some v→∃ x,xs[i]?=some x∧v=.tup [.int ((n+i:Nat):Int),x]
 | n,[],i,v,e=>by simp [adR] at e
 | n,x :: xs,0,v,e=>by
  unfold adR at e
  simp at e
  exact ⟨x,rfl,e.symm⟩
 | n,x :: xs,i+1,v,e=>by
  unfold adR at e
  obtain ⟨y,h1,h2⟩:=agQ (n:=n+1) (xs:=xs) (i:=i) (v:=v) (by simpa using e)
  refine ⟨y,by simpa using h1,?_⟩
  rw [h2,show n+1+i=n+(i+1) by omega]
def aj7:List AV→Sto→Res (List PV × Gd)
 | [.pv (.lst xs)],S=>.ok (adR 0 xs,[]) S
 | [.ref k],S=>match ab2 (.ref k) S with
  | .ok xs _=>.ok (adR 0 xs.1,xs.2) S
  | _=>.fail
 | _,_=>.fail
def alY (ms:MA):MI:=fun ρ S=>(ms ρ S).bind aj7
theorem alz {xs:List PV} {G:Gd} {a:Addr} (z:xs.length≤sizeLine) (st1:∀ q H1 S1,Step p H q H1→Sim K q S1 H1→gOk G S1→∃ vs,SqL K H1 a vs∧Reps K q.c H1 xs vs):ItOk K p H (adR 0 xs,G) (Ite K a):=by
 refine ⟨by rw [afd]; exact z,fun q3 H3 S3 st3 sm3 g3=>?_⟩
 obtain ⟨ws1,w1,rr1⟩:=st1 q3 H3 S3 st3 sm3 g3
 refine ⟨fun i v e=>?_,?_⟩
 ·obtain ⟨x,ex,rfl⟩:=agQ e
  obtain ⟨x',ex',rx⟩:=rr1.get ex
  refine ⟨⟨ws1,x',w1,ex'⟩,fun z H4 hz=>?_⟩
  obtain ⟨t,y2,ht,rfl,rfl,g1⟩:=hz
  have e1:=(g1 ws1 w1).symm.trans ex'
  cases e1
  refine ⟨abf ht,adD sm3 (.cons ?_ (.cons rx .nil)) (by show 2≤sizeLine; decide) ht⟩
  rw [Nat.zero_add]
  exact abv (v:=.int _) rfl
 ·refine ⟨ws1,w1,?_⟩
  show _≤(adR 0 xs).length
  rw [afd,rr1.length]
  exact Nat.le_refl _
theorem akl {elts:List Expr} {x1:Nat} {tp p:Pos} (hg:Gl X "enumerate") (hm:X.mg "enumerate"=none) (hl:PAp K cl E X [l] ms) (hs:starEach [l] X.env=[(false,eval l X.env)]:=by rfl) :
  PIp K cl E X (.Tuple elts x1 tp) (.Call (.Name "enumerate" p) [l] [] pos) (alY ms):=by
 intro hK
 subst hK
 refine PI.imp (amp hg hm (hl rfl) hs) fun σ H R ⟨p,S,ρ,s,ev,h⟩=>?_
 refine aat s ev h fun q H' as xs S' stp sm ev r k=>?_
 unfold aj7 at k
 split at k
 ·rename_i ys
  cases r with
  | cons r1 r2 =>
   cases r2
   rename_i x
   have r1:Rep X.K q.c H' (.lst ys) x:=r1
   unfold Rep at r1
   obtain ⟨a,vs,rfl,l,z,r⟩:=r1
   exact ⟨a,rfl,⟨vs,l.sq⟩,aaO.ret (R:=ItOk X.K) k sm (alz (by rw [r.length]; exact z) fun q H1 S1 st sm g=>⟨vs,(st.lat l).sq,st.reps r⟩)⟩
 ·rename_i j
  cases r with
  | cons r1 r2 =>
   cases r2
   split at k
   ·rename_i xs1 S1 hx
    obtain ⟨a,e1,rfl⟩:=r1
    cases z:S'[j]? with
    | none=>unfold ab2 at hx; simp only [z] at hx; cases hx
    | some o =>
     cases o with
     | lol xss=>unfold ab2 at hx; simp only [z] at hx; cases hx
     | lst ys =>
      unfold ab2 at hx
      simp only [z] at hx
      cases hx
      obtain ⟨vs,h1,l1,r1⟩:=sm.obj j a _ e1 z
      refine ⟨a,rfl,⟨vs,SqL.of h1⟩,aaO.ret (R:=ItOk X.K) k sm (alz (by rw [r1.length]; exact l1) fun q H1 S1 st sm g=>?_)⟩
      obtain ⟨ws,h2,l2,r2⟩:=sm.obj j a _ (st.at_ e1) (g (j,ys) List.mem_cons_self)
      exact ⟨ws,SqL.of h2,r2⟩
   ·exact k.elim
 ·exact k.elim
end
end L2.Pp
namespace L2.Pp
open PySem PySem.Spec PyProof.Rows Bn
theorem hu8 {A:Around} {k:Nat} (hr:Room k A):A.units+8 < cLine:=by
 have:=hr.units
 omega
section
variable {K:PySem.W.Frag} {cl:Str→Addr} {E:XK} {X:Cx} {a b c e l tg:Expr} {es:List Expr} {m ma mb:ME} {ms:MA} {pos:Pos} {p q:Ph} {H H':Hp} {S:Sto}
def fIsi (n:String):PV→Option PV
 | .int _=>if n="int" then some (.bl true) else if n="bool" then some (.bl false) else none
 | .tup _=>if n="tuple" then some (.bl true) else none
 | .lst _=>if n="list" then some (.bl true) else none
 | .str _=>if n="str" then some (.bl true) else none
 | .bl _=>if n="bool" then some (.bl true) else none
 | _=>none
theorem ad4 (K:PySem.W.Frag) (n:String):PySem.W.kitOne K (.type n) (.type n)=some true:=by
 unfold PySem.W.kitOne
 rw [if_pos (beq_self_eq_true _)]
def rIsi (K:PySem.W.Frag) (n:String):V→Hp→VK→Prop:=fun x H Q=>(∃ t b,TyOf K H x t∧PySem.W.kitOne K t (.type n)=some b∧Q (.bl b) H)∨(n="tuple"∧∃ a xs,x=.ref a∧SqT K H a xs∧Q (.bl true) H)∨(n="list"∧∃ a xs,x=.ref a∧SqL K H a xs∧Q (.bl true) H)
theorem ajV (n:String):aeo X (.builtin "isinstance") (fun xs H Q=>∃ x,xs=[x,.ty n]∧rIsi X.K n x H Q):=by
 intro pins s σ H xs us Q I r h
 obtain ⟨x,rfl,h⟩:=h
 obtain ⟨u,c,rfl,rx,rc⟩:=aoF r
 cases (show c=Value.type n from rc)
 rcases h with ⟨t,b,ty,e,q⟩ | ⟨rfl,a,xs,rfl,t,q⟩ | ⟨rfl,a,xs,rfl,t,q⟩
 ·exact ajD I rx ty e fun tk=>⟨.bl b,H,I.tok tk,rfl,q⟩
 ·cases rx
  obtain ⟨its,_,⟨o,h1,h2,_⟩,_⟩:=I.tuple t
  exact PySem.W.kia_one PySem.W.kitx_tuple I.kIn ⟨o,h1,h2⟩ (ad4 X.K "tuple") (fun z=>nomatch z) fun tk=>⟨.bl true,H,I.tok tk,rfl,q⟩
 ·cases rx
  obtain ⟨its,_,pl,_⟩:=I.list t
  obtain ⟨o,h1,h2,_⟩:=pl.isList
  exact PySem.W.kia_one PySem.W.kitx_list I.kIn ⟨o,h1,h2⟩ (ad4 X.K "list") (fun z=>nomatch z) fun tk=>⟨.bl true,H,I.tok tk,rfl,q⟩
theorem aoz (n:String):UnS K (rIsi K n) (fIsi n):=fun {p S H a c x Q} s ra e k=>by
 have fin:∀ b,c=.bl b→Q (.bl b) H:=fun b h=>by
  subst h
  exact k H _ (Same.refl H) (by unfold Rep; rfl)
 cases a with
 | int i =>
  cases ra.int
  unfold fIsi at e
  dsimp only at e
  split at e
  ·rename_i hn
   cases e
   subst hn
   exact .inl ⟨_,true,.int i,ad4 K _,fin _ rfl⟩
  ·split at e
   ·rename_i hn
    cases e
    subst hn
    exact .inl ⟨_,false,.int i,amW K,fin _ rfl⟩
   ·cases e
 | bl i =>
  cases ra.bl
  unfold fIsi at e
  dsimp only at e
  split at e
  ·rename_i hn
   cases e
   subst hn
   exact .inl ⟨_,true,.bl i,ad4 K _,fin _ rfl⟩
  ·cases e
 | str i =>
  cases ra.str
  unfold fIsi at e
  dsimp only at e
  split at e
  ·rename_i hn
   cases e
   subst hn
   exact .inl ⟨_,true,.str i,ad4 K _,fin _ rfl⟩
  ·cases e
 | tup xs =>
  obtain ⟨a,vs,rfl,t,_,_⟩:=ra.tup
  unfold fIsi at e
  dsimp only at e
  split at e
  ·rename_i hn
   cases e
   exact .inr (.inl ⟨hn,a,vs,rfl,t,fin _ rfl⟩)
  ·cases e
 | lst xs =>
  obtain ⟨a,vs,rfl,t,_,_⟩:=ra.lst
  unfold fIsi at e
  dsimp only at e
  split at e
  ·rename_i hn
   cases e
   exact .inr (.inr ⟨hn,a,vs,rfl,t,fin _ rfl⟩)
  ·cases e
 | non=>cases e
theorem aih {n:String} {t:Str} {p p2:Pos} (hg:Gl X "isinstance") (hm:X.mg "isinstance"=none) (hgt:Gl X t) (hmt:X.mg t=none) (hv:bootBuiltins t=some (.type n)) (ha:PEp K cl E X a m)
  (htn:t≠"__name__":=by decide) (htd:(t == ("__debug__":Str))=false:=by decide)
  (he:starEach [a,.Name t p2] X.env=(false,eval a X.env) :: starEach [.Name t p2] X.env:=by rfl) (he2:starEach [.Name t p2] X.env=[(false,eval (.Name t p2) X.env)]:=by rfl) (hpl:(backTo pos (starEach [.Name t p2] X.env)).any (·.1)=false:=by rfl) :
  PEp K cl E X (.Call (.Name "isinstance" p) [a,.Name t p2] [] pos) (mUn (fIsi n) m):=by
 intro hK
 subst hK
 refine PE.imp (aie (ajV n) hg hm PyProof.Rows.boot_isinstance (adb (ha rfl) (adb (amP hgt hmt hv (v:=.ty n) rfl htn htd) agS he2) he) (by decide) (by decide) he hpl) fun σ H Q ⟨p,S,ρ,s,ev,h⟩=>?_
 exact aat s ev h fun q H' as x S' stp sm ev r k=>⟨x,rfl,ac9 (aoz n) sm r k⟩
def fIsN:PV→Option PV
 | .non=>some (.bl true)
 | _=>some (.bl false)
def akE (K:PySem.W.Frag):Sp:=fun vs H Q _=>∃ (a:Addr) (ns:List Int),vs=[.ref a]∧SqL K H a (ns.map V.int)∧ns.length≤63∧∀ H',Q (.bl true) H'
theorem ama {f:FM} (ht:∀ ns:List Int,ns.length≤63→∃ S,f [.pv (.lst (ns.map .int))] []=.ok (.pv (.bl true)) S) {vs:List V} {H:Hp} {Q:VK} {E:XK} (h:akE K vs H Q E):spP0 K cl f vs H Q E:=by
 obtain ⟨a,ns,rfl,hS,hl,hQ⟩:=h
 obtain ⟨S,e⟩:=ht ns hl
 have rs:∀ (ns:List Int),Reps K (fun _=>False) H (ns.map .int) (ns.map V.int):=fun ns=>by
  induction ns with
  | nil=>exact .nil
  | cons n ns ih=>exact .cons (by unfold Rep; rfl) ih
 refine ⟨⟨[],fun _=>False,fun _=>False⟩,[],[.pv (.lst (ns.map .int))],⟨List.nodup_nil,rfl,(fun _ h=>absurd h (List.not_mem_nil)),(fun _ h=>h),(fun _ h=>h.elim),(fun k a o e=>by simp at e)⟩,.cons ?_ .nil,?_⟩
 ·show Rep K (fun _=>False) H (.lst (ns.map .int)) (.ref a)
  unfold Rep
  refine ⟨a,_,rfl,?_,?_,rs ns⟩
  ·rcases hS with (h | h) | h
   ·exact .inl ⟨h,fun z=>z⟩
   ·exact .inr (.inl h)
   ·exact .inr (.inr h)
  ·rw [List.length_map,aaG]
   omega
 ·rw [e]
  intro q H' x st sm r
  have r:Rep K q.c H' (.bl true) x:=r
  unfold Rep at r
  rw [r]
  exact hQ H'
end
end L2.Pp
namespace L2.Pp
open PySem PySem.Spec PyProof.Rows Bn
section
variable {K:PySem.W.Frag} {cl:Str→Addr} {E:XK} {X:Cx} {e:Expr} {es:List Expr} {ms:MA} {p q:Ph} {H H':Hp} {S:Sto}
variable {k:Nat} {f:Addr} {fd:FuncData} {ps:List Str} {g:FM} {dvs:List V} {ds:List Value} {dv:List PV} {x:Str} {pp pos pos1 pos2 pos3 pc:Pos} {c n:Str} {i nn:Nat} {b₀:Stmt} {body:List Stmt} {newId:String} {up:Rho→Rho}
end
end L2.Pp
namespace L2
open PySem PySem.Spec PyProof.Rows Bn
section
variable {X:Cx} {k:Nat} {f:Addr} {fd:FuncData} {ps:List Str} {sp:Sp} {dvs:List V} {ds:List Value} {x:Str} {p pos pos1 pos2 pos3 pc:Pos} {e:Expr} {es:List Expr} {t:TA} {c n:Str} {C:Addr} {i:Nat} {b₀:Stmt} {body:List Stmt} {newId:String}
end
end L2
namespace L2.Pp
open PySem PySem.Spec PyProof.Rows Bn
section
variable {K:PySem.W.Frag} {cl:Str→Addr} {E:XK} {X:Cx} {e:Expr} {es:List Expr} {ms:MA} {p q:Ph} {H H':Hp} {S:Sto}
variable {k:Nat} {f:Addr} {fd:FuncData} {ps:List Str} {g:FM} {dvs:List V} {ds:List Value} {dv:List PV} {x:Str} {pp pos pos1 pos2 pos3 pc:Pos} {c n:Str} {i nn:Nat} {b₀:Stmt} {body:List Stmt} {newId:String} {up:Rho→Rho}
end
end L2.Pp
namespace L2.Pp
open PySem
section
variable {prog:Program} {w:World} {A:Around} {E:Value→Shared→Prop} {s:Shared}
end
end L2.Pp
namespace L2
open PySem PyProof.Rows
end L2
namespace L2.Pp
open PySem
end L2.Pp
namespace L2
open PySem PySem.Spec PyProof.Rows Bn
section
variable {X:Cx}
end
end L2
namespace L2.Pp
open PySem PySem.Spec PyProof.Rows Bn
section
variable {K:PySem.W.Frag} {cl:Str→Addr} {E:XK} {X:Cx}
end
end L2.Pp
namespace L2.Pp
open PySem PySem.Spec PyProof.Rows Bn
section
variable {K:PySem.W.Frag} {cl:Str→Addr} {E:XK} {X:Cx} {p q:Ph} {H H':Hp} {S:Sto}
variable {sc:Scope} {own:List Str} {cap:List (Nat × Str)} {elt target iter:Expr} {pos:Pos} {mi:MI} {g:GM} {me:ME}
end
section
variable {K:PySem.W.Frag} {cl:Str→Addr} {E:XK} {X:Cx} {e:Expr} {m:ME} {pos p2:Pos}
end
end L2.Pp
namespace L2.Pp
open PySem PySem.Spec PyProof.Rows Bn
section
variable {K:PySem.W.Frag} {cl:Str→Addr} {E:XK} {X:Cx}
end
end L2.Pp
namespace L2
open PySem PySem.Spec PyProof.Rows Bn
open PySem.W (KasT kas_sort kas_ask KatLex KatGo KatTups kat_run kat_kind kat_lt kat_one kas_item kat_snds)
section
variable {prog:Program} {w:World} {A:Around} {E:Value→Shared→Prop} {s:Shared}
end
end L2
namespace L2.Pp
open PySem PySem.Spec PyProof.Rows Bn
open PySem.W (kas_sort)
section
variable {K:PySem.W.Frag}
end
end L2.Pp
namespace L2
open PySem.W (KasT kas_sort)
def r3 (a b c d e f:Bool):Bool:=(!(a && b) || c) && (!(d && e) || f)
end L2
namespace L2
open PySem.W (KasT kas_sort)
end L2
namespace L2
open PySem PySem.Spec PyProof.Rows Bn
end L2
namespace L2
open PySem PySem.Spec PyProof.Rows Bn
section
variable {M:Model} {A:Around} {E:Value→Shared→Prop} {s:Shared}
end
end L2
namespace L2
open PySem PySem.Spec PyProof.Rows Bn
section
variable {X:Cx} {sc:Scope} {own:List Str} {cap:List (Nat × Str)} {pins:List (Addr × Obj)} {σ:St} {H:Hp} {s:Shared} {elt target iter:Expr} {pos pos':Pos} {wi:TI} {g:TG} {te:TE} {Q:VK}
end
end L2
namespace L2.Pp
open PySem PySem.Spec PyProof.Rows Bn
section
variable {K:PySem.W.Frag} {cl:Str→Addr} {E:XK} {X:Cx} {p q:Ph} {H H':Hp} {S:Sto}
variable {sc:Scope} {own:List Str} {cap:List (Nat × Str)} {elt target iter:Expr} {pos:Pos} {mi:MI} {g:GM} {me:ME}
end
end L2.Pp
namespace L2.Pp
open PySem PySem.Spec PyProof.Rows Bn
section
variable {K:PySem.W.Frag} {cl:Str→Addr} {E:XK} {X:Cx} {a e:Expr} {m:ME} {ms:MA} {pos:Pos} {p q:Ph} {H H':Hp} {S:Sto}
end
section
variable {P:Program} {w:World} {K:PySem.W.Frag} {mg:Str→Option Value} {base:Heap} {cl:Str→Addr}
end
end L2.Pp
namespace L2.Pp
open PySem PySem.Spec PyProof.Rows Bn
end L2.Pp
namespace L2.Pp
open PySem PySem.Spec PyProof.Rows Bn
def Cal (P:Program) (w:World) (K:PySem.W.Frag) (mg:Str→Option Value) (base:Heap) (cl:Str→Addr) (x:Str) (k:Nat) (ps:List Str) (g:FM):Prop:=∃ (a:Addr) (d:FuncData),FnOk P w K mg base CX0 k a d ps (spP0 K cl g)∧ab9 K d ps []∧PySem.W.keepIn K (.ref a)=true∧mg x=some (.ref a)
section
variable {cl:Str→Addr} {E:XK} {X:Cx} {e:Expr} {es:List Expr} {ms:MA} {pos p:Pos} {k k0:Nat} {ps:List Str} {g:FM} {x:Str}
theorem aaY (C:Cal X.prog X.w X.K X.mg X.base cl x k ps g) (hr:Room k0 X.A) (hk:k≤k0) (hg:Gl X x) (ha:PAp X.K cl E X (e :: es) ms) (hdb:(x == ("__debug__":Str))=false:=by decide) (he:starEach (e :: es) X.env=(false,eval e X.env) :: starEach es X.env:=by rfl) (hpl:(backTo pos (starEach es X.env)).any (·.1)=false:=by rfl) :
  PEp X.K cl E X (.Call (.Name x p) (e :: es) [] pos) (aak g [] ms):=by
 obtain ⟨a,d,G,b,kk,n⟩:=C
 exact akx G (hr.mono hk) hg n kk b .nil Dv.nil ha hdb he hpl
theorem aoq (C:Cal X.prog X.w X.K X.mg X.base cl x k ps g) (hr:Room k0 X.A) (hk:k≤k0) (hg:Gl X x) (ha:PAp X.K cl E X (e :: es) ms) (hdb:(x == ("__debug__":Str))=false:=by decide) (he:starEach (e :: es) X.env=(false,eval e X.env) :: starEach es X.env:=by rfl) (hpl:(backTo pos (starEach es X.env)).any (·.1)=false:=by rfl) :
  PEp X.K cl E X (.Call (.Name x p) (e :: es) [] pos) (abo g [] ms):=by
 obtain ⟨a,d,G,b,kk,n⟩:=C
 exact akB G (hr.mono hk) hg n kk b .nil Dv.nil ha hdb he hpl
end
end L2.Pp
namespace L2.Pp
open PySem PySem.Spec PyProof.Rows Bn
section
variable {X:Cx}
end
section
variable {K:PySem.W.Frag} {cl:Str→Addr} {E:XK} {X:Cx} {e:Expr} {m:ME} {pos:Pos}
end
end L2.Pp
namespace L2.Pp
open PySem PySem.Spec PyProof.Rows Bn
section
variable {K:PySem.W.Frag} {cl:Str→Addr} {E:XK} {X:Cx}
variable {a e:Expr} {m:ME} {ms:MA} {pos:Pos}
def fNoN:PV→Option PV
 | .non=>some (.bl false)
 | _=>some (.bl true)
theorem alZ {σ:St} {H:Hp} {Q:VK} (z:tP X.K cl E (RepA X.K) (mUn fNoN m) σ H Q):anN (tP X.K cl E (RepA X.K) m) σ H Q:=by
 obtain ⟨p,S,ρ,s,ev,h⟩:=z
 refine aat s ev h fun q H' as x S' stp sm ev r k=>?_
 refine ac9 (r:=fun x H Q=>Q (.bl (!decide (x=.non))) H) (f:=fNoN) (fun {p S H a c x Q} s ra e k=>?_) sm r k
 have z:c=.bl (!decide (x=.non)):=by
  cases a with
  | non=>cases ra.non; cases e; rfl
  | int i=>cases ra.int; cases e; rfl
  | bl i=>cases ra.bl; cases e; rfl
  | str i=>cases ra.str; cases e; rfl
  | tup xs=>obtain ⟨a,vs,rfl,_⟩:=ra.tup; cases e; rfl
  | lst xs=>obtain ⟨a,vs,rfl,_⟩:=ra.lst; cases e; rfl
 subst z
 exact k H _ (Same.refl H) (by unfold Rep; rfl)
theorem amX {j pos'} (ha:PEp K cl E X a m):PTp K cl E X (.Compare a [.IsNot] [.Constant .none j pos'] pos) (mTst (mUn fNoN m)):=by
 intro hK
 subst hK
 refine (alw (amc (ha rfl))).imp fun σ H Q ⟨p,S,ρ,s,e,h⟩=>?_
 have z:tP X.K cl E (RepA X.K) (mUn fNoN m) σ H fun x H'=>∃ k,x=.bl k∧Q k H':=aat s e h fun q H1 a x S1 st s1 e1 r1 h1=>aeF s1 r1 h1
 exact alZ z
end
end L2.Pp
namespace L2.Pp
open PySem PySem.Spec PyProof.Rows Bn
section
variable {K:PySem.W.Frag} {cl:Str→Addr} {E:XK} {X:Cx}
end
end L2.Pp
namespace L2.Pp
open PySem PySem.Spec PyProof.Rows Bn
section
variable {K:PySem.W.Frag} {cl:Str→Addr} {E:XK} {X:Cx}
def GlT (K:PySem.W.Frag) (mg:Str→Option Value) (x:Str) (pv:PV):Prop:=∃ (u:Value) (v:V),mg x=some u∧RelV v u∧∀ c H,Rep K c H pv v
theorem aiU {x:Str} {pv:PV} {pos:Pos} (hg:Gl X x) (hm:GlT K X.mg x pv) (hd:(x == ("__debug__":Str))=false:=by decide):PEp K cl E X (.Name x pos) (mC pv):=fun _=>by
 obtain ⟨u,v,hm,r,hr⟩:=hm
 exact (amu hg hm r hd).imp fun σ H Q ⟨p,S,ρ,s,e,h⟩=>aaO.ret (R:=RepA K) (x:=v) h s (hr p.c H)
theorem alV {i:Int}:∀ c H,Rep K c H (.int i) (.int i):=fun c H=>by
 unfold Rep
 rfl
end
end L2.Pp
namespace L2.Pp
open PySem PySem.Spec PyProof.Rows Bn
section
variable {K:PySem.W.Frag} {cl:Str→Addr} {E:XK} {X:Cx}
end
end L2.Pp
namespace L2.Pp
open PySem PySem.Spec PyProof.Rows Bn
section
variable {K:PySem.W.Frag} {cl:Str→Addr} {E:XK} {X:Cx}
variable {a e:Expr} {m:ME} {ms:MA} {pos:Pos}
end
end L2.Pp
namespace L2.Pp
open PySem PySem.Spec PyProof.Rows Bn
section
variable {M:Model} {A:Around} {E:Value→Shared→Prop} {s:Shared} {env:Env}
def agk (M:Model) (A:Around) (E:Value→Shared→Prop) (Q:Value→Shared→Prop) (acc:Value) (c:Env):Result→Shared→Prop
 | .ok _,s'=>∃ m,s'.heap.Ns c.locals m∧∀ h',Heap.SameBut c.locals s'.heap h'→Q acc { s' with heap:=h' }
 | .error x,s'=>∃ m,s'.heap.Ns c.locals m∧∀ h',Heap.SameBut c.locals s'.heap h'→wpAny M A (PySem.passOn "comprehension.variables-let-go" x c:Sem Value) (fun _ _=>False) E { s' with heap:=h' }
theorem alf {e:Expr} {sc:Scope} {pos:Pos} {newAcc first:Sem Value} {g:Comprehension} {gs:List Comprehension} {cl:List (Str × Addr)} {Q:Value→Shared→Prop}
  (hc:clausesOf e=g :: gs) (hs:∀ x,foldedSetIterable g.iter env x=pure x) (hcl:closureFor sc env=pure cl) (hk:sc.kind=.function) (hn:∀ x∈sc.names,x.2=.local→sc.names.lookup x.1=some .local)
  (h:wpAny M A first (fun x s1=>wpAny M A (pyIter x) (fun it s2=>wpAny M A newAcc (fun acc s3=>wpAny M A (newFunctionEnv sc env.globals cl [] env.qual none .none (some env)) (fun c s4 =>
    codeAny M A (.compStart e 0 it acc { c with scope:=relabel sc env }) (agk M A E Q acc { c with scope:=relabel sc env }) s4) E s3) E s2) E s1) E s) :
  wpAny M A (comprehension e sc env pos newAcc false first none) Q E s:=by
 unfold comprehension
 rw [hcl,hc]
 refine wpAny_bind (thn h fun x s1 h1=>wpAny_bind (wpAny_standAt (wpAny_bind (wpAny_of_eq (hs x) (wpAny_bind (wpAny_holding (thn h1 fun it s2 h2=>?_)))))))
 refine wpAny_standIf (wpAny_bind (thn h2 fun acc s3 h3=>wpAny_bind (wpAny_pure (wpAny_bind (thn h3 fun c s4 h4=>?_)))))
 dsimp only
 have loc:∀ x∈(sc.names.filter fun x=>(x.2 == .local || x.2 == .cell) && x.1 != (".0":Str)).reverse,x.2=.local→Env.kindOf { c with scope:=relabel sc env } x.1=some .local:=fun x hx hl =>
  lookup_relabel_local (hn x (List.mem_filter.mp (List.mem_reverse.mp hx)).1 hl)
 refine wpAny_holding (wpAny_bind (wpAny_attempt (wpAny_holding (wpAny_run (codeAny_mono h4 fun r s' hr=>?_)))))
 cases r with
 | ok f =>
  obtain ⟨m,hm,hr⟩:=hr
  exact wpAny_bind (wpAny_holding (wpAny_comp_letGo (cenv:={ c with scope:=relabel sc env }) hk _ s' m loc hm fun h' _ _ sb=>wpAny_pure (hr h' sb)))
 | error x =>
  obtain ⟨m,hm,hr⟩:=hr
  exact wpAny_bind (wpAny_holding (wpAny_comp_letGo (cenv:={ c with scope:=relabel sc env }) hk _ s' m loc hm fun h' _ _ sb=>wpAny_mono (hr h' sb) (fun _ _ z=>z.elim) fun _ _ y=>y))
end
section
variable {prog:Program} {w:World} {A:Around} {R:Result→Shared→Prop} {s:Shared}
theorem ajc {elt target iter:Expr} {sc:Scope} {pos:Pos} {it acc:Value} {env:Env} (I:Nat→Shared→Prop)
  (turn:∀ n s,I n s→wpAny (model prog w) A (pyNext it) (fun r s1=>match r with
   | none=>R (.ok .next) s1
   | some v=>wpAny (model prog w) A (letOwnedTupleGo target it v) (fun _ s2=>wpAny (model prog w) A (assign target env v) (fun _ s3=>wpAny (model prog w) A (eval elt env)
     (fun x s4=>wpAny (model prog w) A (call (.builtin "list.append") [acc,x]) (fun _ s5=>∃ m,m < n∧I m s5) (fun _ _=>False) s4) (notedBy (model prog w) A env fun x s'=>R (.error x) s') s3) (fun _ _=>False) s2) (fun _ _=>False) s1) (fun _ _=>False) s)
  (n:Nat) (h:I n s):codeAny (model prog w) A (.compLoop (.ListComp elt [⟨target,iter,[],0⟩] sc pos) 0 it acc env) R s:=by
 refine codeAny_loop rfl I (fun n s hI=>?_) n h
 show wpAny _ _ ((compTurn (.ListComp elt [⟨target,iter,[],0⟩] sc pos) 0 it acc env).onRaise (fun x=>do noteFrame x env; theTreesLotGoes x)) _ _ s
 refine wpAny_noted ?_
 rw [compTurn_list1]
 refine wpAny_bind (wpAny_standAt (wpAny_bind ?_))
 refine wpAny_mono (turn n s hI) (fun r s1 h1=>?_) fun _ _ z=>z.elim
 cases r with
 | none=>exact wpAny_pure h1
 | some v =>
  refine wpAny_bind (wpAny_mono h1 (fun _ s2 h2=>?_) fun _ _ z=>z.elim)
  refine wpAny_bind (wpAny_mono h2 (fun _ s3 h3=>?_) fun _ _ z=>z.elim)
  refine wpAny_bind (wpAny_bind (wpAny_mono h3 (fun x s4 h4=>?_) fun _ _ z=>z))
  refine wpAny_bind (wpAny_mono h4 (fun _ s5 h5=>?_) fun _ _ z=>z.elim)
  exact wpAny_pure (wpAny_pure ⟨rfl,h5⟩)
end
def adf (B:Heap) (C:Addr):Heap:={ B with objs:=B.objs.setIfInBounds C ⟨.none,none,.freed,#[]⟩ }
theorem ae7 {B:Heap} {C:Addr}:(adf B C).get? C=none:=by
 unfold adf Heap.get?
 dsimp only
 by_cases h:C < B.objs.size
 ·rw [Array.getElem?_setIfInBounds_self_of_lt h]
 ·rw [Array.getElem?_eq_none (by rw [Array.size_setIfInBounds]; exact Nat.le_of_not_lt h)]
theorem ad9 {B:Heap} {C b:Addr} (h:b≠C):(adf B C).get? b=B.get? b:=by
 unfold adf Heap.get?
 dsimp only
 rw [Array.getElem?_setIfInBounds_ne (Ne.symm h)]
theorem adK {B:Heap} {C b:Addr} (h:B.get? b=none):(adf B C).get? b=none:=by
 by_cases z:b=C
 ·rw [z]; exact ae7
 ·rw [ad9 z]; exact h
theorem ahE {B:Heap} {C b:Addr} {o:Obj} (h:(adf B C).get? b=some o):b≠C∧B.get? b=some o:=by
 by_cases z:b=C
 ·rw [z,ae7] at h; cases h
 ·rw [ad9 z] at h; exact ⟨z,h⟩
theorem ajr {B h h':Heap} {l:List Env} {e L C:Addr} {cls a0:Value} (hC:∃ o,B.get? C=some o) (hh:Heap.HeldW B l e cls a0 L h) (sb:Heap.SameBut C h h'):Heap.HeldW (adf B C) l e cls a0 L h':=by
 obtain ⟨oC,hC⟩:=hC
 have ne:∀ {b},B.get? b=none→b≠C:=fun {b} hb z=>by
  rw [z,hC] at hb
  cases hb
 obtain ⟨k1,k2,k3,k4⟩:=hh
 refine ⟨fun b o hb=>?_,adK k2,?_,?_⟩
 ·obtain ⟨z,hb⟩:=ahE hb
  rw [sb.2 b z]
  exact k1 b o hb
 ·clear k4
  induction l with
  | nil=>trivial
  | cons env rest ih =>
   obtain ⟨a,⟨L0,o,hf,hn,ho,hd⟩,hr⟩:=k3
   exact ⟨a,⟨L0,o,hf,adK hn,(sb.2 L0 (ne hn)).trans ho,hd⟩,ih hr⟩
 ·obtain ⟨oe,vs,T,oT,ts,he,hcls,hd,h1,hnT,hTe,hT,hdT,h3⟩:=k4
  exact ⟨oe,vs,T,oT,ts,(sb.2 e (ne k2)).trans he,hcls,hd,h1,adK hnT,hTe,(sb.2 T (ne hnT)).trans hT,hdT,h3⟩
theorem ajw {e:Value} {c env:Env} (h:c.frame=env.frame):noteFrame e c=noteFrame e env:=by
 unfold noteFrame PySem.frameOf
 rw [h]
theorem ajh {M:Model} {A:Around} {E:Value→Shared→Prop} {s:Shared} {α:Type} {Q:α→Shared→Prop} {B:Heap} {l:List Env} {e L:Addr} {cls a0:Value} {c:Env} {what:String} (hf:c.frame=some L) (hh:Heap.HeldW B l e cls a0 L s.heap)
  (h:∀ h',Heap.HeldW B l e cls a0 L h'→(∀ b o,s.heap.get? b=some o→(∀ vs,o.data≠.fields vs)→h'.get? b=some o)→E (.ref e) { s with heap:=h' }):wpAny M A (PySem.passOn what (.ref e) c:Sem α) Q E s:=by
 obtain ⟨k1,k2,k3,oe,vs,T,oT,ts,he,hcls,hd,h1,hnT,hTe,hT,hdT,h3⟩:=hh
 have hsz3:3 < ts.size:=(Array.getElem?_eq_some_iff.mp h3).1
 have other:∀ b,b≠T→(s.heap.update T (Obj.mapFields (·.setIfInBounds 3 (rawInt L)))).get? b=s.heap.get? b:=fun b hb=>Heap.get?_update_other _ _ (Ne.symm hb)
 have noRec:∀ b o,s.heap.get? b=some o→(∀ vs,o.data≠.fields vs)→b≠T:=fun b o hb hnf q=>by
  rw [q,hT] at hb; injection hb with hb; subst hb; exact hnf ts hdT
 unfold PySem.passOn
 refine wpAny_bind (wpAny_field he hd h1 ?_)
 rw [if_neg (show ¬ ((Value.ref T == Value.none)=true) from by simp)]
 refine wpAny_bind ?_
 unfold setFlight
 rw [hf]
 refine wpAny_bind (wpAny_field he hd h1 ?_)
 rw [if_pos (show (Value.ref T != Value.none)=true from by simp)]
 refine wpAny_setField hT hdT hsz3 (wpAny_throw (h _ ⟨fun b o hbo=>(other b fun q=>by rw [q,hnT] at hbo; cases hbo).trans (k1 b o hbo),k2,k3.of_keeps fun b o hb hnf=>⟨o,(other b (noRec b o hb hnf)).trans hb,rfl⟩,?_⟩ fun b o hb hnf=>(other b (noRec b o hb hnf)).trans hb))
 exact ⟨oe,vs,T,_,_,(other e (Ne.symm hTe)).trans he,hcls,hd,h1,hnT,hTe,Heap.get?_update_self _ hT (Obj.isFreed_of_fields (Obj.data_mapFields hdT _)),Obj.data_mapFields hdT _,by simp [hsz3]⟩
end L2.Pp
namespace L2
open PySem PySem.Spec PyProof.Rows Bn
section
variable {X:Cx} {pins:List (Addr × Obj)} {σ:St} {H H':Hp} {s s':Shared}
theorem Inv.flownC {B h5:Heap} {C:Addr} (I:Inv X pins σ H s) (hC:FpOk X pins H C) (os:s'.os=s.os) (bare:AllBare s'.gens) (un:Un (frs X.stack) [] H H' s.heap s'.heap) (hok:HOk X.prog X.w H' s'.heap)
  (cov:∀ b o,s'.heap.get? b=some o→(∃ u,H' b=some u)∨(∃ o',s.heap.get? b=some o'∧b ∉ frs X.stack)→b≠C→B.get? b=some o) (fr:∀ b∈frs X.stack,H' b=none) (hn:H' C=none)
  (st:B.StaysIn h5) (up:∀ b o,b≠C→s'.heap.get? b=some o→(∀ vs,o.data≠.fields vs)→∃ sl,h5.get? b=some { o with slots:=sl }):Inv X pins σ H' { s' with heap:=h5 }:=by
 have one:∀ {b},b ∉ [C]→b≠C:=fun {b} h z=>h (by rw [z]; exact List.mem_singleton.mpr rfl)
 have frame:∀ b∈frs X.stack,b≠C→∃ o sl,s.heap.get? b=some o∧H b=none∧h5.get? b=some { o with slots:=sl }:=fun b hb hx=>by
  obtain ⟨_,o,ho,hd⟩:=I.stack.mem hb
  have hn:=I.stkFree b hb
  obtain ⟨sl,g⟩:=un.slot b o ho hn hb (by intro z; cases z)
  obtain ⟨sl',g'⟩:=up b _ hx g hd
  exact ⟨o,sl',ho,hn,g'⟩
 refine I.call' (s':={ s' with heap:=h5 }) (ch:=[C]) os ⟨fun b o q n hb hx=>?_,fun b o q n hb hx=>?_,fun b o q n _=>un.free b o q n (by intro z; cases z),fun b o q hx=>?_,un.tups,un.frzs,un.tbls⟩ (fun b u q=>?_) bare fun b z=>?_
 ·exact st b o (cov b o (un.keep b o q n hb (by intro z; cases z)) (.inr ⟨o,q,hb⟩) (one hx))
 ·obtain ⟨o',sl,g1,_,g2⟩:=frame b hb (one hx)
  rw [q] at g1
  cases g1
  exact ⟨sl,g2⟩
 ·by_cases c:b∈frs X.stack
  ·obtain ⟨o',sl,_,_,g2⟩:=frame b c (one hx)
   exact ⟨_,g2⟩
  ·obtain ⟨o',g⟩:=un.there b o q (by intro z; cases z)
   exact ⟨o',st b o' (cov b o' g (.inr ⟨o,q,c⟩) (one hx))⟩
 ·refine (hok b u q).stay (fun c v hc g=>?_) (fun _ g=>g) fun _ _ g=>g
  have nc:∀ {y},H' c=some y→c≠C:=fun {y} e z=>by
   rw [z,hn] at e
   cases e
  rcases hc with z | z
  ·have q':H' c=some u:=by rw [z]; exact q
   exact st c v (cov c v g (.inl ⟨u,q'⟩) (nc q'))
  ·exact st c v (cov c v g (.inl ⟨_,z⟩) (nc z))
 ·have z:b=C:=List.mem_singleton.mp z
  subst z
  obtain ⟨_,f1,_,f3,f4,f5⟩:=hC
  exact ⟨f3,f1,f4,f5⟩
end
end L2
namespace L2
open PySem PySem.Spec PyProof.Rows Bn L2.Pp
section
variable {P:Program} {w:World} {K:PySem.W.Frag} {mg:Str→Option Value} {base:Heap} {N:List Str} {qual:Str} {scope:Scope} {f:Addr} {cd:Value} {A:Around} {outer:List Env} {s₀:Shared} {H₀:Hp} {E:XK}
theorem an3 {pins:List (Addr × Obj)} {σ:St} {H2 H3:Hp} {s2 s3:Shared} {sc:Scope} {Nb:List Str} {C:Addr} {fp:List Addr} {Qf:Value→Shared→Prop} {acc:Value}
  (I2:Inv (cxOf (CX1 P w) P w K mg base N qual scope f cd A outer s₀ H₀ E) pins σ H2 s2) (f2:∀ b∈fp,FpOk (cxOf (CX1 P w) P w K mg base N qual scope f cd A outer s₀ H₀ E) pins H2 b) (un:Un (frs (cxOf (CX1 P w) P w K mg base N qual scope f cd A outer s₀ H₀ E).stack) fp H2 H3 s2.heap s3.heap) (os3:s3.os=s2.os)
  (hF:∀ H:Hp,H C=none→FpOk (cxOf (CX1 P w) P w K mg base N qual scope f cd A outer s₀ H₀ E) pins H C) (hCf:C ∉ frs (cxOf (CX1 P w) P w K mg base N qual scope f cd A outer s₀ H₀ E).stack) (hC0:∀ o,s₀.heap.get? C≠some o) :
  ac7 (CX1 P w) ((aba (cxOf (CX1 P w) P w K mg base N qual scope f cd A outer s₀ H₀ E) sc Nb C s3 H3 fp).wish (notedBy (model P w) (cxOf (CX1 P w) P w K mg base N qual scope f cd A outer s₀ H₀ E).A (aba (cxOf (CX1 P w) P w K mg base N qual scope f cd A outer s₀ H₀ E) sc Nb C s3 H3 fp).env fun x s''=>agk (model P w) (cxOf (CX1 P w) P w K mg base N qual scope f cd A outer s₀ H₀ E).A (cxOf (CX1 P w) P w K mg base N qual scope f cd A outer s₀ H₀ E).xe Qf acc (aba (cxOf (CX1 P w) P w K mg base N qual scope f cd A outer s₀ H₀ E) sc Nb C s3 H3 fp).env (.error x) s'')) E:=by
 intro pl σ' H s e s' I c
 have J:=I.unwish
 obtain ⟨x,Cl,t,B,H',rfl,os,bare,un',hok,fl,cov,hE⟩:=c
 have fr:∀ b∈frs (cxOf (CX1 P w) P w K mg base N qual scope f cd A outer s₀ H₀ E).stack,H' b=none:=fun b hb=>by
  obtain ⟨_,o,ho,hd⟩:=J.stack.mem hb
  exact un'.free b o ho (J.stkFree b hb) (by intro z; cases z)
 have IX:=I2.uncmp f2 un os3 J
 show wpAny _ _ (noteFrame (.ref x) _) _ _ s'
 rw [ajw (c:=(aba (cxOf (CX1 P w) P w K mg base N qual scope f cd A outer s₀ H₀ E) sc Nb C s3 H3 fp).env) (env:=(cxOf (CX1 P w) P w K mg base N qual scope f cd A outer s₀ H₀ E).env) rfl]
 refine wpAny_looks_onW IX.ok.frames rfl fl fun h1 held up=>?_
 have J5:=J.flown os bare un' hok cov fr held.1 up
 obtain ⟨m,hn,_⟩:=id J5.loc
 refine ⟨m,hn,fun h2 sb=>?_⟩
 obtain ⟨mC,hnC,_⟩:=id J.loc
 obtain ⟨oC,_,_,hoC,_⟩:=hnC
 obtain ⟨oC',gC⟩:=un'.there C oC hoC (by intro z; cases z)
 have hCB:∃ o,B.get? C=some o:=⟨oC',cov C oC' gC (.inr ⟨oC,hoC,hCf⟩)⟩
 have held2:=ajr hCB held sb
 have hHC:H C=none:=J.free
 have hnC':H' C=none:=un'.free C oC hoC hHC (by intro z; cases z)
 refine ajh rfl held2 fun h3 held3 keep=>?_
 show wpAny _ _ (leaving _ (.ref x)) _ _ _
 unfold leaving
 refine wpAny_bind (wpAny_noteFrame_againW rfl held3.2.2.2 ?_)
 refine wpAny_landsW held3 fun h4 fl4 up4=>?_
 have I4:=IX.flownC (s':=s') (B:=adf B C) (h5:=h4) (hF H hHC) os bare un' hok (fun b o g d hb=>by rw [ad9 hb]; exact cov b o g d) fr hnC' fl4.1 (fun b o hb g hnf=>by
  obtain ⟨sl,g1⟩:=up b o g hnf
  have g2:=(sb.2 b hb).trans g1
  have g3:=keep b _ g2 hnf
  obtain ⟨sl',g4⟩:=up4 b _ g3 hnf
  exact ⟨sl',g4⟩)
 have nL:∀ {b o},s₀.heap.get? b=some o→b ∉ frs outer→b ∉ frs (envOfC qual scope s₀.heap.objs.size f cd :: outer):=fun {b o} q z y=>by
  rcases List.mem_cons.mp (IX.stkSub b y) with g | g
  ·exact absurd (Nat.lt_of_lt_of_le (Heap.lt_size q) IX.ok.above) (by rw [g]; exact Nat.lt_irrefl _)
  ·exact z g
 obtain ⟨k1,k2,⟨_,_,k3⟩,k4⟩:=fl4
 refine ⟨x,Cl,t,adf B C,H',rfl,os.trans IX.os,bare,I4.base,I4.hok,⟨k1,k2,k3,k4⟩,fun b o q z=>?_,hE⟩
 have go:∀ {o2},B.get? b=some o2→b≠C→(adf B C).get? b=some o:=fun {o2} g hb=>by
  have g':(adf B C).get? b=some o2:=by rw [ad9 hb]; exact g
  have:=k1 b o2 g'
  have q':h4.get? b=some o:=q
  rw [q'] at this
  cases this
  exact g'
 rcases z with ⟨u,z⟩ | ⟨o',z,nz⟩
 ·obtain ⟨o2,g⟩:=(hok b u z).has
  exact go (cov b o2 g (.inl ⟨u,z⟩)) fun y=>by rw [y,hnC'] at z; cases z
 ·obtain ⟨o2,g⟩:=IX.base.there b o' z (by intro z; cases z)
  obtain ⟨o3,g3⟩:=un'.there b o2 g (by intro z; cases z)
  exact go (cov b o3 g3 (.inr ⟨o2,g,nL z nz⟩)) fun y=>hC0 o' (by rw [← y]; exact z)
end
end L2
namespace L2
open PySem PySem.Spec PyProof.Rows Bn L2.Pp
section
variable {P:Program} {w:World} {K:PySem.W.Frag} {mg:Str→Option Value} {base:Heap} {N:List Str} {qual:Str} {scope:Scope} {f:Addr} {cd:Value} {A:Around} {outer:List Env} {s₀:Shared} {H₀:Hp} {E:XK}
variable {sc:Scope} {own:List Str} {cap:List (Nat × Str)} {pins:List (Addr × Obj)} {σ:St} {H:Hp} {s:Shared} {elt target iter:Expr} {pos pos':Pos} {wi:TI} {g:TG} {te:TE} {Q:VK}
theorem aiB {Qf:Value→Shared→Prop} (k:adH (cxOf (CX1 P w) P w K mg base N qual scope f cd A outer s₀ H₀ E) sc own cap) (hi:PI (cxOf (CX1 P w) P w K mg base N qual scope f cd A outer s₀ H₀ E) target iter wi) (hc:(cxOf (CX1 P w) P w K mg base N qual scope f cd A outer s₀ H₀ E).calm=true)
  (hg:∀ C s₁ H₁ ex,PG (aba (cxOf (CX1 P w) P w K mg base N qual scope f cd A outer s₀ H₀ E) sc (cmpN own cap) C s₁ H₁ ex) target g) (he:∀ C s₁ H₁ ex E',ac7 (CX1 P w) ((aba (cxOf (CX1 P w) P w K mg base N qual scope f cd A outer s₀ H₀ E) sc (cmpN own cap) C s₁ H₁ ex).wish E') E→PE ((aba (cxOf (CX1 P w) P w K mg base N qual scope f cd A outer s₀ H₀ E) sc (cmpN own cap) C s₁ H₁ ex).wish E') elt te) (I:Inv (cxOf (CX1 P w) P w K mg base N qual scope f cd A outer s₀ H₀ E) pins σ H s) (h:ahB own cap wi g te σ H Q)
  (fin:∀ D C s' H' m,Inv (cxOf (CX1 P w) P w K mg base N qual scope f cd A outer s₀ H₀ E) pins σ H' s'→FpOk (cxOf (CX1 P w) P w K mg base N qual scope f cd A outer s₀ H₀ E) pins H' C→s'.heap.Ns C m→Q (.ref D) H'→∃ m,s'.heap.Ns C m∧∀ h',Heap.SameBut C s'.heap h'→Qf (.ref D) { s' with heap:=h' })
  (hs:∀ x,foldedSetIterable iter (cxOf (CX1 P w) P w K mg base N qual scope f cd A outer s₀ H₀ E).env x=pure x) :
  wpAny (model (cxOf (CX1 P w) P w K mg base N qual scope f cd A outer s₀ H₀ E).prog (cxOf (CX1 P w) P w K mg base N qual scope f cd A outer s₀ H₀ E).w) (cxOf (CX1 P w) P w K mg base N qual scope f cd A outer s₀ H₀ E).A (comprehension (.ListComp elt [⟨target,iter,[],0⟩] sc pos) sc (cxOf (CX1 P w) P w K mg base N qual scope f cd A outer s₀ H₀ E).env pos' (newList []) false (eval iter (cxOf (CX1 P w) P w K mg base N qual scope f cd A outer s₀ H₀ E).env) none) Qf (cxOf (CX1 P w) P w K mg base N qual scope f cd A outer s₀ H₀ E).xe s:=by
 refine alf rfl hs (ahs (k.has I.ok)) k.kind k.names ?_
 refine thn (hi pins s σ H _ I h) fun v s1 h1=>thn h1 fun itv s2 h2=>?_
 obtain ⟨it,fp,tn,J,H2,e,I2,T,st2,f2,hW⟩:=h2
 subst e
 refine wpAny_newObj_type (wpAny_newFunctionEnv k.nocell (fun y hy=>nomatch hy) (fun h4 hns hsb=>?_) k.kind)
 have I3:Inv (cxOf (CX1 P w) P w K mg base N qual scope f cd A outer s₀ H₀ E) pins σ (upd H2 s2.heap.objs.size (.lst [])) { s2 with heap:=s2.heap.push { cls:=.type "list",data:=.seq ([]:List Value).toArray },toks:=s2.toks }:=I2.lnew (ys:=[]) (its:=[]) .nil (Nat.zero_le _)
 have hD:H2 s2.heap.objs.size=none:=I2.fresh
 have ltf:∀ b∈fp,b < s2.heap.objs.size:=fun b hb=>by
  obtain ⟨o,ho,_⟩:=T.obj _ _ st2 b hb
  exact Heap.lt_size ho
 have f3:∀ b∈fp,FpOk (cxOf (CX1 P w) P w K mg base N qual scope f cd A outer s₀ H₀ E) pins (upd H2 s2.heap.objs.size (.lst [])) b:=fun b hb=>⟨by rw [aaI (Nat.ne_of_lt (ltf b hb))]; exact (f2 b hb).1,(f2 b hb).2⟩
 have un:Un (frs (cxOf (CX1 P w) P w K mg base N qual scope f cd A outer s₀ H₀ E).stack) fp H2 (upd H2 s2.heap.objs.size (.lst [])) s2.heap (s2.heap.push { cls:=.type "list",data:=.seq ([]:List Value).toArray }):=Un.laid (fun b u q=>Heap.get?_push_of_some _ q) (Nat.le_refl _) hD
 have kp:∀ b o,(s2.heap.push { cls:=.type "list",data:=.seq ([]:List Value).toArray }).get? b=some o→h4.get? b=some o:=fun b o q=>hsb.extBut b o (Nat.ne_of_lt (Heap.lt_size q)) (Heap.get?_push_of_some _ q)
 have J0:=I3.cmp (t':=s2.toks+([]:List (Str × Value)).length) k f3 (fun b hb=>Nat.lt_of_lt_of_le (ltf b hb) (by rw [Heap.size_push]; exact Nat.le_succ _)) hns kp
 have stat:∀ {H':Hp},(∀ b∈fp,H' b=none)→∀ b∈fp,FpOk (aba (cxOf (CX1 P w) P w K mg base N qual scope f cd A outer s₀ H₀ E) sc (cmpN own cap) (s2.heap.push { cls:=.type "list",data:=.seq ([]:List Value).toArray }).objs.size { s2 with heap:=s2.heap.push { cls:=.type "list",data:=.seq ([]:List Value).toArray },toks:=s2.toks } (upd H2 s2.heap.objs.size (.lst [])) fp) [] H' b:=fun hn b hb =>
  ⟨hn b hb,(J0.ok.exf b hb).1,J0.ok.exfs b hb,.inl hb,(J0.ok.exf b hb).2,fun p hp=>absurd (show p∈([]:List (Addr × Obj)) from hp) (by simp)⟩
 have st4:tn 0 h4:=T.keep _ _ _ st2 fun b hb o q=>kp b o (Heap.get?_push_of_some _ q)
 have fr0:∀ b∈fp,(upd H2 s2.heap.objs.size (.lst [])) b=none:=fun b hb=>(f3 b hb).1
 have hCf:(s2.heap.push { cls:=.type "list",data:=.seq ([]:List Value).toArray }).objs.size ∉ frs (cxOf (CX1 P w) P w K mg base N qual scope f cd A outer s₀ H₀ E).stack:=fun hb=>by
  obtain ⟨_,o,ho,hd⟩:=I3.stack.mem hb
  exact Nat.lt_irrefl _ (Heap.lt_size ho)
 have hC0:∀ o,s₀.heap.get? (s2.heap.push { cls:=.type "list",data:=.seq ([]:List Value).toArray }).objs.size≠some o:=fun o ho=>by
  obtain ⟨m,⟨oL,_,_,hoL,_⟩,_⟩:=id I3.loc
  exact Nat.lt_irrefl _ (Nat.lt_trans (Nat.lt_of_lt_of_le (Heap.lt_size ho) I3.ok.above) (Heap.lt_size hoL))
 have loop:codeAny (model (cxOf (CX1 P w) P w K mg base N qual scope f cd A outer s₀ H₀ E).prog (cxOf (CX1 P w) P w K mg base N qual scope f cd A outer s₀ H₀ E).w) (cxOf (CX1 P w) P w K mg base N qual scope f cd A outer s₀ H₀ E).A (.compLoop (.ListComp elt [⟨target,iter,[],0⟩] sc pos) 0 (.ref it) (.ref s2.heap.objs.size) (compEnvC sc (adI (cxOf (CX1 P w) P w K mg base N qual scope f cd A outer s₀ H₀ E).env sc.names []) (s2.heap.push { cls:=.type "list",data:=.seq ([]:List Value).toArray }).objs.size (cxOf (CX1 P w) P w K mg base N qual scope f cd A outer s₀ H₀ E).env))
   (agk (model (cxOf (CX1 P w) P w K mg base N qual scope f cd A outer s₀ H₀ E).prog (cxOf (CX1 P w) P w K mg base N qual scope f cd A outer s₀ H₀ E).w) (cxOf (CX1 P w) P w K mg base N qual scope f cd A outer s₀ H₀ E).A (cxOf (CX1 P w) P w K mg base N qual scope f cd A outer s₀ H₀ E).xe Qf (.ref s2.heap.objs.size) (compEnvC sc (adI (cxOf (CX1 P w) P w K mg base N qual scope f cd A outer s₀ H₀ E).env sc.names []) (s2.heap.push { cls:=.type "list",data:=.seq ([]:List Value).toArray }).objs.size (cxOf (CX1 P w) P w K mg base N qual scope f cd A outer s₀ H₀ E).env)) { s2 with heap:=h4,toks:=s2.toks+([]:List (Str × Value)).length }:=by
  obtain ⟨W,⟨m0,w0⟩,turn⟩:=hW s2.heap.objs.size hD
  refine ajc (fun n s'=>∃ i σ' H' ys,Inv (aba (cxOf (CX1 P w) P w K mg base N qual scope f cd A outer s₀ H₀ E) sc (cmpN own cap) (s2.heap.push { cls:=.type "list",data:=.seq ([]:List Value).toArray }).objs.size { s2 with heap:=s2.heap.push { cls:=.type "list",data:=.seq ([]:List Value).toArray },toks:=s2.toks } (upd H2 s2.heap.objs.size (.lst [])) fp) [] σ' H' s'∧tn i s'.heap∧(∀ b∈fp,H' b=none)∧W i n σ' H' ys) ?_ m0
   ⟨0,_,_,[],J0,st4,fr0,w0⟩
  rintro n s5 ⟨i,σ5,H5,ys,I5,st5,fr5,w5⟩
  obtain ⟨hD5,w5⟩:=turn i n σ5 H5 ys w5
  rcases w5 with ⟨stop,qn⟩ | ⟨go,hlt,step⟩
  ·refine thn (T.done (aba (cxOf (CX1 P w) P w K mg base N qual scope f cd A outer s₀ H₀ E) sc (cmpN own cap) (s2.heap.push { cls:=.type "list",data:=.seq ([]:List Value).toArray }).objs.size { s2 with heap:=s2.heap.push { cls:=.type "list",data:=.seq ([]:List Value).toArray },toks:=s2.toks } (upd H2 s2.heap.objs.size (.lst [])) fp) rfl rfl rfl hc i [] s5 σ5 H5 _ I5 (stat fr5) st5 stop) fun r s6 ⟨hr,I6⟩=>?_
   subst hr
   obtain ⟨m,hn,_⟩:=id I6.loc
   exact fin _ _ s6 H5 m (I2.uncmp (s3:={ s2 with heap:=s2.heap.push { cls:=.type "list",data:=.seq ([]:List Value).toArray },toks:=s2.toks }) f2 un rfl I6) (I3.fpOk (Nat.le_refl _) I6.free) hn qn
  ·refine thn (T.item (aba (cxOf (CX1 P w) P w K mg base N qual scope f cd A outer s₀ H₀ E) sc (cmpN own cap) (s2.heap.push { cls:=.type "list",data:=.seq ([]:List Value).toArray }).objs.size { s2 with heap:=s2.heap.push { cls:=.type "list",data:=.seq ([]:List Value).toArray },toks:=s2.toks } (upd H2 s2.heap.objs.size (.lst [])) fp) rfl rfl rfl hc i [] s5 σ5 H5 _ I5 (stat fr5) st5 go) fun r s6 ⟨u,hr,h6⟩=>?_
   subst hr
   refine thn h6 fun _ s7 ⟨x,H7,I7,r7,y7,st7,fr7⟩=>?_
   have I7':=I7.pinned (stat fr7) (T.obj _ _ st7)
   refine thn (hg _ _ _ _ _ s7 σ5 H7 x u _ I7' r7 (step x H7 y7)) fun _ s8 ⟨σ8,H8,I8,q8⟩=>?_
   refine thn (he _ _ _ _ _ (an3 (s3:={ s2 with heap:=s2.heap.push { cls:=.type "list",data:=.seq ([]:List Value).toArray },toks:=s2.toks }) I2 f2 un rfl (fun H hH=>I3.fpOk (Nat.le_refl _) hH) hCf hC0) _ s8 σ8 H8 _ (I8.wish _) q8) fun v9 s9 ⟨y,H9,I9,r9,hD9,m',hm,w9⟩=>?_
   have I9:=I9.unwish
   refine thn (adZ _ s9 σ8 H9 (.ref s2.heap.objs.size) [y] (.ref s2.heap.objs.size) [v9] (fun _ H'=>H'=upd H9 s2.heap.objs.size (.lst (ys++[y]))) I9 rfl (.cons r9 .nil) ⟨_,ys,y,rfl,rfl,hD9,hlt,rfl⟩) fun _ s10 ⟨_,H10,I10,_,q10⟩=>?_
   subst q10
   refine ⟨m',hm,i+1,σ8,_,_,I10.unpinned,T.keep _ _ _ st7 fun b hb o q=>(I10.pin (b,o) (List.mem_append_right _ (List.mem_append_right _ (ab1 hb q)))).1,fun b hb=>?_,w9⟩
   obtain ⟨o,q,d⟩:=T.obj _ _ st7 b hb
   exact (I10.pin (b,o) (List.mem_append_right _ (List.mem_append_right _ (ab1 hb q)))).2.1
 exact codeAny_compStart_list loop (T.self _ 0 _ _ _ st4 loop)
end
end L2
namespace L2.Pp
open PySem PySem.Spec PyProof.Rows Bn
open Classical in
noncomputable def abV (G:Gd) (g:GM) (me:ME):List PV→Rho→Sto→Res (List PV)
 | [],_,S=>if gOk G S then .ok [] S else .fail
 | x :: r,ρ,S=>if gOk G S then (match g x ρ with
  | none=>.fail
  | some ρ1=>match me ρ1 S with
   | .ok (.pv y) S1=>match abV G g me r ρ1 S1 with
    | .ok ys S2=>.ok (y :: ys) S2
    | .exc n S2=>.exc n S2
    | .fail=>.fail
   | .ok (.ref _) _=>.fail
   | .exc n S1=>.exc n S1
   | .fail=>.fail) else .fail
section
variable {K:PySem.W.Frag} {cl:Str→Addr} {E:XK} {X:Cx} {p q:Ph} {H H':Hp} {S:Sto}
def akD (K:PySem.W.Frag) (cl:Str→Addr) (E:XK) (p:Ph) (H:Hp) (D:Addr) (Q:VK) (us:List PV):Res (List PV)→Prop
 | .ok ws S2=>∀ q H' vs,Step p H q H'→Sim K q S2 H'→Sim K (q.hold D) S2 H'→q.w D→D ∉ q.f→H' D=some (.lst vs)→vs.length≤sizeLine→Reps K q.c H' (us++ws) vs→Q (.ref D) H'
 | .exc n S2=>∀ q H',Step p H q H'→Sim K q S2 H'→E (.ref (cl n)) none H'
 | .fail=>False
theorem agn {G:Gd} {g:GM} {me:ME} {xs us:List PV} {ρ:Rho} {D:Addr} {Q:VK} (h:akD K cl E p H D Q us (abV G g me xs ρ S)):gOk G S:=by
 cases xs with
 | nil =>
  unfold abV at h
  split at h
  ·assumption
  ·exact h.elim
 | cons x r =>
  unfold abV at h
  split at h
  ·assumption
  ·exact h.elim
variable {sc:Scope} {own:List Str} {cap:List (Nat × Str)} {elt target iter:Expr} {pos:Pos} {mi:MI} {g:GM} {me:ME}
theorem aiI {σ:St} {ρ:Rho} {xs:List PV} {G:Gd} {J:It} {Q:VK} {D:Addr} (sm:Sim K p S H) (ev:RepE K p H ρ σ) (it:ItOk K p H (xs,G) J) (hD:H D=none) (kk:akD K cl E p H D Q [] (abV G g me xs (cmpR own cap ρ) S)) :
  cmpW J (gP K g) (tP K cl E (RepA K) me) (aeL own cap σ) H D Q:=by
 obtain ⟨st0,sm0⟩:=sm.res (D:=D) (o:=.lst []) hD trivial
 have sh0:=sm.resHold (D:=D) (o:=.lst []) hD trivial
 have nf0:D ∉ p.f:=fun h=>sm.notin hD (sm.wc D (sm.sub D h))
 refine ajm xs.length it.1 (fun i σ1 H1 ys=>ys.length=i∧i≤xs.length∧H1 D=some (.lst ys)∧∃ p1 S1 ρ1 us,(Sim K p1 S1 H1∧Sim K (p1.hold D) S1 H1)∧Step p H p1 H1∧p1.w D∧D ∉ p1.f∧RepE K p1 H1 ρ1 σ1∧ItOk K p1 H1 (xs,G) J∧gOk G S1∧Reps K p1.c H1 us ys∧akD K cl E p H D Q us (abV G g me (xs.drop i) ρ1 S1)) ?_ ?_ ?_ ?_ ?_
 ·refine ⟨rfl,Nat.zero_le _,abB,p.res D,S,cmpR own cap ρ,[],⟨sm0,sh0⟩,st0,.inr rfl,nf0,ahZ (st0.repE ev),it.step st0,?_,.nil,by simpa using kk⟩
  exact agn kk
 ·rintro i σ1 H1 ys ⟨h1,_,h2,_⟩
  exact ⟨h1,h2⟩
 ·rintro i σ1 H1 ys hi ⟨_,_,_,p1,S1,ρ1,us,⟨sm1,sh1⟩,st1,w1,f1,ev1,it1,g1,_⟩
  exact ((it1.2 p1 H1 S1 sm1.step sm1 g1).1 i xs[i] (List.getElem?_eq_getElem hi)).1
 ·rintro i σ1 H1 ys x H2 hi ⟨hl,_,hH,p1,S1,ρ1,us,⟨sm1,sh1⟩,st1,w1,f1,ev1,it1,g1,r1,c1⟩ hy
  obtain ⟨same,rx⟩:=((it1.2 p1 H1 S1 sm1.step sm1 g1).1 i xs[i] (List.getElem?_eq_getElem hi)).2 x H2 hy
  rw [List.drop_eq_getElem_cons hi] at c1
  unfold abV at c1
  rw [if_pos g1] at c1
  cases gz:g xs[i] ρ1 with
  | none=>rw [gz] at c1; exact c1.elim
  | some ρ2 =>
   rw [gz] at c1
   dsimp only at c1
   have st2:=sm1.same same
   have sm2:=sm1.ofSame same
   have smh:=sh1.ofSame same
   have stS:Step p H p1 H2:=st1.trans st2
   refine ⟨p1,S1,ρ1,xs[i],ρ2,sm2,st2.repE ev1,rx,gz,fun σ3 ev3=>⟨p1.hold D,S1,ρ2,smh,⟨ev3.len,ev3.at_⟩,?_⟩⟩
   cases mz:me ρ2 S1 with
   | fail=>rw [mz] at c1; exact c1.elim
   | exc n S3 =>
    rw [mz] at c1
    intro q H4 st4 sm4
    have hD2:H2 D=some (.lst ys):=same _ _ hH
    have hD4:H4 D=some (.lst ys):=st4.keep D _ hD2 fun z=>z.2 rfl
    have fq:D ∉ q.f:=fun h=>by
     have:=st4.nf D h f1
     rw [hD2] at this
     cases this
    have stU:=Step.unhold w1 st4 sm2
    have nq:¬ q.w D:=fun z=>by
     have:=st4.nw D z fun y=>y.2 rfl
     rw [hD2] at this
     cases this
    have smU:Sim K ⟨q.f,fun a=>q.w a∨a=D,q.c⟩ S3 H4:=⟨sm4.nd,sm4.len,fun a h=>.inl (sm4.sub a h),fun a h=>h.elim (sm4.wc a) fun z=>z ▸ st4.mono D (sm2.wc D w1),sm4.mu,fun k a o e1 e2 =>
     (sm4.obj k a o e1 e2).mono (fun _ e=>e) (fun b w f=>⟨⟨.inl w,f⟩,fun _ e=>e⟩) fun _ _ r=>r⟩
    have shU:Sim K (Ph.hold ⟨q.f,fun a=>q.w a∨a=D,q.c⟩ D) S3 H4:=⟨sm4.nd,sm4.len,fun a h=>⟨.inl (sm4.sub a h),fun z=>nq (z ▸ sm4.sub a h)⟩,fun a h=>smU.wc a h.1,sm4.mu,fun k a o e1 e2 =>
     (sm4.obj k a o e1 e2).mono (fun _ e=>e) (fun b w f=>⟨⟨⟨.inl w,fun z=>nq (z ▸ w)⟩,f⟩,fun _ e=>e⟩) fun _ _ r=>r⟩
    exact c1 _ H4 ((stS.trans stU).toLess hD) shU.toLess
   | ok av S3 =>
    cases av with
    | ref k=>rw [mz] at c1; exact c1.elim
    | pv y =>
     rw [mz] at c1
     dsimp only at c1
     intro q H4 y' st4 sm4 ry
     have hD2:H2 D=some (.lst ys):=same _ _ hH
     have hD4:H4 D=some (.lst ys):=st4.keep D _ hD2 fun z=>z.2 rfl
     have fq:D ∉ q.f:=fun h=>by
      have:=st4.nf D h f1
      rw [hD2] at this
      cases this
     have stU:=Step.unhold w1 st4 sm2
     have nq:¬ q.w D:=fun z=>by
      have:=st4.nw D z fun y=>y.2 rfl
      rw [hD2] at this
      cases this
     have smU:Sim K ⟨q.f,fun a=>q.w a∨a=D,q.c⟩ S3 H4:=⟨sm4.nd,sm4.len,fun a h=>.inl (sm4.sub a h),fun a h=>h.elim (sm4.wc a) fun z=>z ▸ st4.mono D (sm2.wc D w1),sm4.mu,fun k a o e1 e2 =>
      (sm4.obj k a o e1 e2).mono (fun _ e=>e) (fun b w f=>⟨⟨.inl w,f⟩,fun _ e=>e⟩) fun _ _ r=>r⟩
     have shU:Sim K (Ph.hold ⟨q.f,fun a=>q.w a∨a=D,q.c⟩ D) S3 H4:=⟨sm4.nd,sm4.len,fun a h=>⟨.inl (sm4.sub a h),fun z=>nq (z ▸ sm4.sub a h)⟩,fun a h=>smU.wc a h.1,sm4.mu,fun k a o e1 e2 =>
      (sm4.obj k a o e1 e2).mono (fun _ e=>e) (fun b w f=>⟨⟨⟨.inl w,fun z=>nq (z ▸ w)⟩,f⟩,fun _ e=>e⟩) fun _ _ r=>r⟩
     have c2:akD K cl E p H D Q (us++[y]) (abV G g me (xs.drop (i+1)) ρ2 S3):=by
      cases cz:abV G g me (xs.drop (i+1)) ρ2 S3 with
      | fail=>rw [cz] at c1; exact c1.elim
      | exc n S4=>rw [cz] at c1; exact c1
      | ok ws S4 =>
       rw [cz] at c1
       intro q H' vs z1 z2 z3 z4 z5 z6 z7 r
       rw [List.append_assoc] at r
       exact c1 q H' vs z1 z2 z3 z4 z5 z6 z7 r
     obtain ⟨stG,smG,shG⟩:=smU.grow (ys:=ys) (D:=D) (o:=.lst (ys++[y'])) shU (.inr rfl) fq trivial
     have stA:=st2.trans (stU.trans stG)
     refine an1 hi hD4 ⟨by rw [List.length_append,hl]; rfl,hi,abB,_,S3,ρ2,us++[y],⟨smG,shG⟩,st1.trans stA,.inr rfl,fq,stG.repE (stU.repE ev3),it1.step stA,agn c2,?_,c2⟩
     exact (stA.reps r1).append (.cons (stG.rep ry) .nil)
 ·rintro σ1 H1 ys ⟨hl,_,hH,p1,S1,ρ1,us,⟨sm1,sh1⟩,st1,w1,f1,ev1,it1,g1,r1,c1⟩
  rw [List.drop_length] at c1
  unfold abV at c1
  rw [if_pos g1] at c1
  refine ⟨(it1.2 p1 H1 _ sm1.step sm1 g1).2,?_⟩
  exact c1 p1 H1 ys st1 sm1 sh1 w1 f1 hH (by rw [hl]; exact it.1) (by rw [List.append_nil]; exact r1)
theorem afB {σ:St} {ρ:Rho} {xs:List PV × Gd} {J:It} {Q:VK} {D:Addr} (sm:Sim K p S H) (ev:RepE K p H ρ σ) (it:ItOk K p H xs J) (k:aaO K cl (RepA K) p H ((abV xs.2 g me xs.1 (cmpR own cap ρ) S).bind fun ys S2=>.ok (.pv (.lst ys)) S2) Q E) (hD:H D=none) :
  cmpW J (gP K g) (tP K cl E (RepA K) me) (aeL own cap σ) H D Q:=by
 refine aiI sm ev it hD ?_
 cases z:abV xs.2 g me xs.1 (cmpR own cap ρ) S with
 | fail=>rw [z] at k; exact k.elim
 | exc n S'=>rw [z] at k; exact k
 | ok zs S2 =>
  rw [z] at k
  have k:∀ q H' x,Step p H q H'→Sim K q S2 H'→Rep K q.c H' (.lst zs) x→Q x H':=k
  intro q H' vs st1 sm1 sh1 w1 f1 hH l1 r1
  rw [List.nil_append] at r1
  refine k (q.less D) H' (.ref D) (st1.toLess hD) sh1.toLess ?_
  unfold Rep
  exact ⟨D,vs,rfl,.inl ⟨hH,fun z=>z.2 rfl⟩,l1,acI (fun a h=>h.1) r1⟩
end
noncomputable def acG (own:List Str) (cap:List (Nat × Str)) (mi:MI) (g:GM) (me:ME):ME:=fun ρ S=>(mi ρ S).bind fun xs S1=>(abV xs.2 g me xs.1 (cmpR own cap ρ) S1).bind fun ys S2=>.ok (.pv (.lst ys)) S2
section
variable {P:Program} {w:World} {K:PySem.W.Frag} {mg:Str→Option Value} {base:Heap} {N:List Str} {qual:Str} {scope:Scope} {f:Addr} {cd:Value} {A:Around} {outer:List Env} {s₀:Shared} {H₀:Hp} {E:XK} {cl:Str→Addr}
variable {sc:Scope} {own:List Str} {cap:List (Nat × Str)} {elt target iter:Expr} {pos:Pos} {mi:MI} {g:GM} {me:ME} {wi:TI} {tg:TG} {te:TE}
theorem akC (k:adH (cxOf (CX1 P w) P w K mg base N qual scope f cd A outer s₀ H₀ E) sc own cap) (hi:PI (cxOf (CX1 P w) P w K mg base N qual scope f cd A outer s₀ H₀ E) target iter wi) (hc:(cxOf (CX1 P w) P w K mg base N qual scope f cd A outer s₀ H₀ E).calm=true)
  (hg:∀ C s₁ H₁ ex,PG (aba (cxOf (CX1 P w) P w K mg base N qual scope f cd A outer s₀ H₀ E) sc (cmpN own cap) C s₁ H₁ ex) target tg) (he:∀ C s₁ H₁ ex E',ac7 (CX1 P w) ((aba (cxOf (CX1 P w) P w K mg base N qual scope f cd A outer s₀ H₀ E) sc (cmpN own cap) C s₁ H₁ ex).wish E') E→PE ((aba (cxOf (CX1 P w) P w K mg base N qual scope f cd A outer s₀ H₀ E) sc (cmpN own cap) C s₁ H₁ ex).wish E') elt te)
  (hs:∀ x,foldedSetIterable iter (cxOf (CX1 P w) P w K mg base N qual scope f cd A outer s₀ H₀ E).env x=pure x:=by intro _; rfl):PE (cxOf (CX1 P w) P w K mg base N qual scope f cd A outer s₀ H₀ E) (.ListComp elt [⟨target,iter,[],0⟩] sc pos) (ahB own cap wi tg te):=by
 intro pins s σ H Q I h
 rw [eval_ListComp]
 refine aiB k hi hc hg he I h (fun D C s' H' m I' fC hn q=>?_) hs
 refine ⟨m,hn,fun h' sb=>⟨.ref D,H',?_,rfl,q⟩⟩
 obtain ⟨f0,f1,f2,f3,f4,f5⟩:=fC
 exact I'.turned (t':=s'.toks) (fun b o hb e=>(sb.2 b hb).trans e) f0 f1 f3 f4 f5
theorem ak8 (k:adH (cxOf (CX1 P w) P w K mg base N qual scope f cd A outer s₀ H₀ E) sc own cap) (hi:PIp K cl E (cxOf (CX1 P w) P w K mg base N qual scope f cd A outer s₀ H₀ E) target iter mi) (hc:(cxOf (CX1 P w) P w K mg base N qual scope f cd A outer s₀ H₀ E).calm=true) (hg:∀ C s₁ H₁ ex,PGp K (aba (cxOf (CX1 P w) P w K mg base N qual scope f cd A outer s₀ H₀ E) sc (cmpN own cap) C s₁ H₁ ex) target g) (he:∀ C s₁ H₁ ex E',ac7 (CX1 P w) ((aba (cxOf (CX1 P w) P w K mg base N qual scope f cd A outer s₀ H₀ E) sc (cmpN own cap) C s₁ H₁ ex).wish E') E→PEp K cl E ((aba (cxOf (CX1 P w) P w K mg base N qual scope f cd A outer s₀ H₀ E) sc (cmpN own cap) C s₁ H₁ ex).wish E') elt me)
  (hs:∀ x,foldedSetIterable iter (cxOf (CX1 P w) P w K mg base N qual scope f cd A outer s₀ H₀ E).env x=pure x:=by intro _; rfl):PEp K cl E (cxOf (CX1 P w) P w K mg base N qual scope f cd A outer s₀ H₀ E) (.ListComp elt [⟨target,iter,[],0⟩] sc pos) (acG own cap mi g me):=by
 intro hK
 refine PE.imp (akC k (hi hK) hc (fun C s₁ H₁ ex=>hg C s₁ H₁ ex hK) (fun C s₁ H₁ ex E' ps=>he C s₁ H₁ ex E' ps hK) hs) fun σ H Q ⟨p,S,ρ,s,ev,h⟩=>?_
 exact aat s ev h fun q H' xs J S' stp sm ev it kk D hD=>afB sm ev it kk hD
end
section
variable {K:PySem.W.Frag} {cl:Str→Addr} {E:XK} {X:Cx} {e:Expr} {es:List Expr} {ms:MA} {pos p:Pos} {k n:Nat} {f:Addr} {fd:FuncData} {ps:List Str} {g:FM} {x:Str} {dvs:List V} {ds:List Value} {dv:List PV}
theorem aii (hp:ac7 (CX1 X.prog X.w) X E) (F:FnOk X.prog X.w X.K X.mg X.base (CX1 X.prog X.w) k f fd ps (spP K cl g)) (hr:Room k X.A) (hg:Gl X x) (hm:X.mg x=some (.ref f)) (hk:PySem.W.keepIn X.K (.ref f)=true) (hb:ab9 X.K fd ps ds) (hd:Vals dvs ds) (hv:Dv dv dvs)
  (ha:PAp K cl E X (e :: es) ms) (hdb:(x == ("__debug__":Str))=false:=by decide) (he:starEach (e :: es) X.env=(false,eval e X.env) :: starEach es X.env:=by rfl) (hpl:(backTo pos (starEach es X.env)).any (·.1)=false:=by rfl) :
  PEp K cl E X (.Call (.Name x p) (e :: es) [] pos) (aaN g dv ms):=by
 intro hK
 refine PE.imp (afb F hr hg hm hk hb hd hp (ha hK) hdb he hpl) fun σ H Q ⟨p,S,ρ,s,ev,h⟩=>?_
 exact aat s ev h fun q H' as xs S' stp sm ev r k=>⟨q,S',_,sm,abW r (hv K q H'),adN sm k⟩
end
end L2.Pp
namespace L2.Pp
open PySem PySem.Spec PyProof.Rows Bn
section
variable {K:PySem.W.Frag} {cl:Str→Addr} {E:XK} {X:Cx}
end
end L2.Pp
namespace L2.Pp
open PySem PySem.Spec PyProof.Rows Bn
section
variable {K:PySem.W.Frag} {cl:Str→Addr} {E:XK} {X:Cx} {a b e:Expr} {m:ME} {ms:MA} {pos:Pos}
theorem ae2:bootBuiltins "str"=some (.type "str"):=by decide +kernel
theorem repS {c:Addr→Prop} {H:Hp} (x:Str):Rep K c H (.str x) (.str x):=by
 unfold Rep
 rfl
def abm:PV→PV→Option PV
 | .str x,.str y=>if x.length+y.length≤16777216 then some (.str (x++y)) else none
 | _,_=>none
theorem acK:OpS K (fun x y H Q=>∃ i j,x=.str i∧y=.str j∧i.length+j.length≤sizeLine∧Q (.str (i++j)) H) abm:=fun {p S H a b c x y Q} s ra rb e k=>by
 unfold abm at e
 split at e
 ·split at e
  ·rename_i h
   cases e
   rw [← aaG] at h
   exact ⟨_,_,ra.str,rb.str,h,k H _ (Same.refl H) (repS _)⟩
  ·cases e
 ·cases e
def hasS (y x:Str):Bool:=!(Builtin.Str.occurrences y x 0 y.length 1).isEmpty
def fInS:PV→PV→Option PV
 | .str x,.str y=>some (.bl (hasS y x))
 | _,_=>none
theorem anQ:OpS K (fun x y H Q=>∃ i j,x=.str i∧y=.str j∧Q (.bl (!(Builtin.Str.occurrences j i 0 j.length 1).isEmpty)) H) fInS:=fun {p S H a b c x y Q} s ra rb e k=>by
 unfold fInS at e
 split at e
 ·cases e
  exact ⟨_,_,ra.str,rb.str,k H _ (Same.refl H) (abv (v:=.bl _) rfl)⟩
 ·cases e
def acV:List PV→Option PV
 | [.str x]=>if x.length≤16777216 then some (.int x.length) else none
 | _=>none
theorem afW:CaR K (fun xs H Q=>∃ z,xs=[.str z]∧z.length≤sizeLine∧Q (.int z.length) H) acV:=fun {p S H as c xs Q} s ra e k=>by
 unfold acV at e
 split at e
 ·rename_i x
  split at e
  ·rename_i h
   cases e
   rw [← aaG] at h
   cases ra with
   | cons h1 t =>
    cases t
    exact ⟨x,by rw [h1.str],h,k H _ (Same.refl H) (abv (v:=.int _) rfl)⟩
  ·cases e
 ·cases e
def fStr:List PV→Option PV
 | [.int i]=>if i.natAbs.log2 < 1920 then some (.str (toString i)) else none
 | _=>none
theorem aiM:CaR K (fun xs H Q=>∃ i,xs=[.int i]∧i.natAbs.log2 < 1920∧Q (.str (toString i)) H) fStr:=fun {p S H as c xs Q} s ra e k=>by
 unfold fStr at e
 split at e
 ·rename_i x
  split at e
  ·rename_i h
   cases e
   cases ra with
   | cons h1 t =>
    cases t
    exact ⟨x,by rw [h1.int],h,k H _ (Same.refl H) (repS _)⟩
  ·cases e
 ·cases e
theorem acs:aeo X (.type "int") (fun xs H Q=>∃ x n,xs=[.str x]∧PySem.intText? x=some n∧x.length≤640∧Q (.int n) H):=by
 intro pins s σ H xs us Q I r h
 obtain ⟨x,n,rfl,hn,hl,q⟩:=h
 obtain ⟨u,rfl,t,rfl⟩:=aev r
 exact PySem.W.KIN.call_text hn hl ⟨.int n,H,I.tok _,⟨_,rfl⟩,q⟩
def aeq:List PV→Option PV
 | [.str x]=>if x.length≤640 then (PySem.intText? x).map .int else none
 | _=>none
theorem aip:CaR K (fun xs H Q=>∃ x n,xs=[.str x]∧PySem.intText? x=some n∧x.length≤640∧Q (.int n) H) aeq:=fun {p S H as c xs Q} s ra e k=>by
 unfold aeq at e
 split at e
 ·rename_i x
  split at e
  ·rename_i h
   cases z:PySem.intText? x with
   | none=>rw [z] at e; cases e
   | some n =>
    rw [z] at e
    cases e
    cases ra with
    | cons h1 t =>
     cases t
     exact ⟨x,n,by rw [h1.str],z,h,k H _ (Same.refl H) (abv (v:=.int _) rfl)⟩
  ·cases e
 ·cases e
theorem aiv {h:Heap} {sl:Addr} {vl vu:Value} {lo hi:Option Int} (hs:h.IsSliceOf sl vl vu .none) (pl:IsPart vl lo) (pu:IsPart vu hi):∃ l u:Option (Int × Tok),h.IsSlice sl l u none∧l.map (·.1)=lo∧u.map (·.1)=hi:=by
 obtain ⟨o,e,c,d⟩:=hs
 cases pl with
 | none =>
  cases pu with
  | none=>exact ⟨none,none,⟨o,e,c,d⟩,rfl,rfl⟩
  | int j u=>exact ⟨none,some (j,u),⟨o,e,c,d⟩,rfl,rfl⟩
 | int i t =>
  cases pu with
  | none=>exact ⟨some (i,t),none,⟨o,e,c,d⟩,rfl,rfl⟩
  | int j u=>exact ⟨some (i,t),some (j,u),⟨o,e,c,d⟩,rfl,rfl⟩
theorem anR:SlR X (fun x lo hi H Q=>∃ z,x=.str z∧z.length≤sizeLine∧Q (.str (Txt.slice z lo hi)) H):=by
 intro pins s σ H x v vl vu lo hi sl Q I rx hs pl pu h
 obtain ⟨z,rfl,hz,q⟩:=h
 obtain ⟨t,rfl⟩:=rx
 obtain ⟨l,u,hs,rfl,rfl⟩:=aiv hs pl pu
 refine ⟨"str",_,PySem.F.slot_str_getitem.lookup,typeIs_str _ _ _,?_⟩
 exact wpAny_getItem_str_slice hs rfl (post_val_or_str ⟨Nat.le_trans (Txt.slice_le z _ _) hz,fun t' k=>⟨.str _,H,I.tok _,⟨_,rfl⟩,q⟩⟩)
def fSlS (v:PV) (lo hi:Option Int):Option PV:=match v with
 | .str x=>if x.length≤16777216 then some (.str (Txt.slice x lo hi)) else none
 | _=>none
def mSlS (m:ME) (ml mh:MO):ME:=fun ρ S=>(m ρ S).bind fun v S1=>(ml ρ S1).bind fun lo S2=>(mh ρ S2).bind fun hi S3=>okO ((rd S3 v).bind fun x=>fSlS x lo hi) S3
theorem add {lo hi:Option Expr} {ml mh:MO} {p2:Pos} (he:PEp K cl E X e m) (hl:POp K cl E X lo ml) (hu:POp K cl E X hi mh):PEp K cl E X (.Subscript e (.Slice lo hi none p2) pos) (mSlS m ml mh):=by
 intro hK
 subst hK
 refine (ah1 anR (he rfl) (hl rfl) (hu rfl)).imp fun σ H Q ⟨p,S,ρ,s,e,h⟩=>?_
 refine aat s e h fun q H1 a x S1 st s1 e1 r1 h1=>aat s1 e1 h1 fun q2 H2 lo lo' S2 st2 s2 e2 r2 h2=>aat s2 e2 h2 fun q3 H3 hi hi' S3 st3 s3 e3 r3 h3=>?_
 cases r2
 cases r3
 have ra:=st3.repA (st2.repA r1)
 obtain ⟨c,ec,k⟩:=adg s3 h3
 cases z:rd S3 a with
 | none=>rw [z] at ec; cases ec
 | some v =>
  rw [z] at ec
  have rv:=afz s3 ra z
  cases v with
  | str w =>
   have ec:(if w.length≤16777216 then some (PV.str (Txt.slice w lo hi)) else none)=some c:=ec
   split at ec
   ·rename_i hw
    cases ec
    rw [← aaG] at hw
    exact ⟨w,rv.str,hw,k _ _ (Same.refl _) (repS _)⟩
   ·cases ec
  | _=>cases ec
def MtS (X:Cx) (id:String) (f:Str→List PV→Option PV):Prop :=
 ∀ (pins:List (Addr × Obj)) (s:Shared) (σ:St) (H:Hp) (x:Str) (t:Tok) (as:List PV) (xs:List V) (us:List Value) (c:PV) (Q:VK),Inv X pins σ H s→Vals xs us→(∃ p:Ph,Reps X.K p.c H as xs)→f x as=some c →
  (∀ H' z,Same H H'→(∀ (p:Ph) S,Sim X.K p S H→Reps X.K p.c H as xs→Rep X.K p.c H' c z)→Q z H')→wpAny (model X.prog X.w) X.A (call (.builtin id) (.str x t :: us)) (EP X pins σ Q) X.xe s
def strR {α:Type} (k:AV) (f:Str→Res α):Res α:=match k with
 | .pv (.str x)=>f x
 | _=>.fail
def mMet (f:Str→List PV→Option PV) (m:ME) (ms:MA):ME:=fun ρ S=>(m ρ S).bind fun k S1=>strR k fun x=>(ms ρ S1).bind fun ys S2=>okO ((abN ys).bind (f x)) S2
theorem afH {name:Str} {id:String} {f:Str→List PV→Option PV} {es:List Expr} {apos cpos:Pos} (slot:Slot "str" name id) (hty:typeOf (.builtin id)=pure (.type "method_descriptor")) (hm:MtS X id f) (ho:PEp K cl E X a m) (ha:PAp K cl E X (e :: es) ms) (hbase:attributeBase a name X.env (eval a X.env)=eval a X.env:=by rfl)
  (hfew:((backTo cpos (starEach (e :: es) X.env)).all (fun x=>!x.1) && (backToKw cpos (keywordEach [] X.env)).all (fun x=>x.1.isSome)
   && decide ((e :: es).length+([]:List Keyword).length+(if ([]:List Keyword).isEmpty then 0 else 1) < 30))=true:=by rfl)
  (hline:(apos.endLine == cpos.line)=true:=by rfl) (hs:starEach (e :: es) X.env=(false,eval e X.env) :: starEach es X.env:=by rfl) (hplain:(backTo cpos (starEach es X.env)).any (·.1)=false:=by rfl) :
  PEp K cl E X (.Call (.Attribute a name apos) (e :: es) [] cpos) (mMet f m ms):=by
 intro hK
 subst hK
 refine PE.imp (ak4 (r:=fun x xs H Q=>∃ (z:Str) (as:List PV) (c:PV),x=.str z∧(∃ p:Ph,Reps X.K p.c H as xs)∧f z as=some c∧∀ H' y,Same H H'→(∀ (p:Ph) S,Sim X.K p S H→Reps X.K p.c H as xs→Rep X.K p.c H' c y)→Q y H') PySem.F.plainAttrs_str slot hty (fun pins s σ H x xs v us Q I rx rs h=>?_) (ho rfl) (ha rfl) hbase hfew hline hs hplain) fun σ H Q ⟨p,S,ρ,s,ev,h⟩=>?_
 ·obtain ⟨z,as,c,rfl,hp,hf,k⟩:=h
  obtain ⟨t,rfl⟩:=rx
  exact hm pins s σ H z t as xs us c Q I rs hp hf k
 ·refine aat s ev h fun q H1 k x S1 st s1 e1 r1 h1=>?_
  unfold strR at h1
  split at h1
  ·rename_i z
   have ex:=(show RepR X.K q H1 (.str z) x from .inl r1).str
   subst ex
   refine ⟨rfl,aat s1 e1 h1 fun q2 H2 ys xs S2 st2 s2 e2 r2 h2=>?_⟩
   obtain ⟨c,ec,k⟩:=adg s2 h2
   cases y:abN ys with
   | none=>rw [y] at ec; cases ec
   | some as =>
    rw [y] at ec
    have rr:=adp y r2
    exact ⟨z,as,c,rfl,⟨q2,rr⟩,ec,fun H' w sm hr=>k H' w sm (hr q2 S2 s2 rr)⟩
  ·exact h1.elim
theorem agm {c:PV} {H H':Hp} {as:List PV} {xs:List V} (h:ais c=true):∀ (p:Ph) S,Sim K p S H→Reps K p.c H as xs→Rep K p.c H' c (toV c):=fun p S _ _=>abv h
theorem ahG {c:Addr→Prop} {H:Hp} {y:Str} {xs:List V} (r:Reps K c H [.str y] xs):xs=[.str y]:=by
 unfold Reps at r
 obtain ⟨v,r1,rfl,h,t⟩:=r
 unfold Reps at t
 subst t
 unfold Rep at h
 rw [h]
theorem amn {c:Addr→Prop} {H:Hp} {y:Int} {xs:List V} (r:Reps K c H [.int y] xs):xs=[.int y]:=by
 unfold Reps at r
 obtain ⟨v,r1,rfl,h,t⟩:=r
 unfold Reps at t
 subst t
 unfold Rep at h
 rw [h]
def acQ (x:Str):List PV→Option PV
 | [.str y]=>some (.bl (Txt.startswith x y))
 | _=>none
theorem ajx:MtS X "str.startswith" acQ:=by
 intro pins s σ H x t as xs us c Q I rs ⟨p,rp⟩ hf k
 unfold acQ at hf
 split at hf
 ·rename_i y
  cases hf
  rw [ahG rp] at rs
  obtain ⟨u,rfl,t',rfl⟩:=aev rs
  exact SC.startswith ⟨.bl _,H,I,rfl,k H _ (Same.refl H) (agm (c:=.bl _) rfl)⟩
 ·cases hf
def ahr (x:Str):List PV→Option PV
 | [.str y]=>some (.int (Txt.find x y))
 | _=>none
theorem amB:MtS X "str.find" ahr:=by
 intro pins s σ H x t as xs us c Q I rs ⟨p,rp⟩ hf k
 unfold ahr at hf
 split at hf
 ·rename_i y
  cases hf
  rw [ahG rp] at rs
  obtain ⟨u,rfl,t',rfl⟩:=aev rs
  exact SC.find ⟨.int _,H,I.tok _,⟨_,rfl⟩,k H _ (Same.refl H) (agm (c:=.int _) rfl)⟩
 ·cases hf
def agM (x:Str):List PV→Option PV
 | [.int i]=>if PadOk i=true then some (.str (Txt.zfill x i)) else none
 | _=>none
theorem akk:MtS X "str.zfill" agM:=by
 intro pins s σ H x t as xs us c Q I rs ⟨p,rp⟩ hf k
 unfold agM at hf
 split at hf
 ·rename_i y
  split at hf
  ·rename_i hp
   cases hf
   rw [amn rp] at rs
   obtain ⟨u,rfl,t',rfl⟩:=aev rs
   exact SC.zfill hp fun t' k'=>⟨.str _,H,I.tok _,⟨_,rfl⟩,k H _ (Same.refl H) (agm (c:=.str _) rfl)⟩
  ·cases hf
 ·cases hf
theorem agG:∀ l:List (Str × Tok),Vals (l.map fun p=>V.str p.1) (strValues l)
 | []=>.nil
 | p :: l=>.cons ⟨p.2,rfl⟩ (agG l)
theorem agu {c:Addr→Prop} {H:Hp}:∀ l:List Str,Reps K c H (l.map PV.str) (l.map V.str)
 | []=>.nil
 | x :: l=>.cons (repS x) (agu l)
def ack (x:Str):List PV→Option PV
 | [.str y]=>if y.length≠0∧x.length+2≤16777216 then some (.lst ((Txt.split x y).map .str)) else none
 | _=>none
theorem akd (x y:Str):(Txt.split x y).length≤x.length+2:=by
 unfold Txt.split
 split
 ·simp
 ·split
  ·simp
  ·have e1:=StrLaws.occ_length_le x y 0 x.length (x.length+1)
   rw [PySem.length_partsBetween]
   omega
theorem af6:MtS X "str.split" ack:=by
 intro pins s σ H x t as xs us c Q I rs ⟨p,rp⟩ hf k
 unfold ack at hf
 split at hf
 ·rename_i y
  split at hf
  ·rename_i hp
   cases hf
   rw [ahG rp] at rs
   obtain ⟨u,rfl,t',rfl⟩:=aev rs
   have hl:=akd x y
   have hz:((Txt.split x y).map V.str).length≤sizeLine:=by rw [List.length_map,aaG]; omega
   have hn:(Builtin.Str.partsBetween x (Builtin.Str.occurrences x y 0 x.length (x.length+1)) y.length).length≤sizeLine:=by
    have e1:=StrLaws.occ_length_le x y 0 x.length (x.length+1)
    rw [PySem.length_partsBetween,aaG]; omega
   have fin:∀ (l:List (Str × Tok)) (n:Nat) (h':Heap) (tk:Nat),l.map (·.1)=Txt.split x y→h'=s.heap.push { cls:=.type "list",data:=.seq (strValues l).toArray }→EP X pins σ Q (.ref s.heap.objs.size) { s with heap:=h',toks:=tk }:=fun l n h' tk el eh=>by
    have ev:(Txt.split x y).map V.str=l.map fun p=>V.str p.1:=by rw [← el,List.map_map]; rfl
    subst eh
    refine ⟨.ref s.heap.objs.size,_,I.laid (o:=.lst ((Txt.split x y).map V.str)) (fun b ob q=>Heap.get?_push_of_some _ q) (Nat.le_refl _) ⟨hz,_,0,by rw [ev]; exact agG l,Heap.get?_push_size _ rfl⟩,rfl,?_⟩
    have hnone:=I.hok.fresh (Nat.le_refl s.heap.objs.size)
    refine k _ _ (abf hnone) fun p S sm _=>?_
    exact aer sm (agu _) hz hnone
   cases h1:(decide (x.length < y.length) || decide (Builtin.Str.strKind x < Builtin.Str.strKind y))
   ·cases hf:(Builtin.Str.occurrences x y 0 x.length (x.length+1)).isEmpty
    ·refine call_meets PySem.F.slot_str_split (typeIs_str _ _ _) PySem.F.entry_str_split (PySem.F.args_str_split_2 _ _) (meets_str_split_sep x y t t' h1 (by simpa using hp.1) hf (by rw [aaG]; omega) hn) ?_
     rw [strsFrom_eq]
     exact fin (numbered s.toks _) 0 _ _ ((numbered_texts _ _).trans ((if_neg (ne_true_of_eq_false h1)).trans (if_neg (ne_true_of_eq_false hf))).symm) rfl
    ·exact call_meets PySem.F.slot_str_split (typeIs_str _ _ _) PySem.F.entry_str_split (PySem.F.args_str_split_2 _ _) (meets_str_split_not_found x y t t' h1 (by simpa using hp.1) hf)
      (fin [(x,t)] 0 _ s.toks ((if_neg (ne_true_of_eq_false h1)).trans (if_pos hf)).symm rfl)
   ·exact call_meets PySem.F.slot_str_split (typeIs_str _ _ _) PySem.F.entry_str_split (PySem.F.args_str_split_2 _ _) (meets_str_split_cannot_occur x y t t' h1)
     (fin [(x,t)] 0 _ s.toks (if_pos h1).symm rfl)
  ·cases hf
 ·cases hf
end
end L2.Pp
namespace L2
open PySem PySem.Spec PyProof.Rows Bn
def Itx (x:Str):It:=⟨fun i _=>i < x.cps.size,fun i H v H'=>H'=H∧∃ c,x.cps[i]?=some c∧v=.str ⟨#[c]⟩,fun i _=>x.cps.size≤i⟩
theorem akO {P:Program} {w:World} {K:PySem.W.Frag} {tg:Expr} (x:Str) (t:Tok) (it:Addr):Turn P w K tg (Itx x) [it] it (fun i h=>h.IsStrIter it "str_ascii_iterator" x t i) where
 mem:=by simp
 obj:=fun i h st b hb=>by
  have e:b=it:=by simpa using hb
  subst e
  obtain ⟨o,e,c,d⟩:=st
  exact ⟨o,e,fun v z=>by rw [d] at z; cases z⟩
 keep:=fun i h h' st k=>by
  obtain ⟨o,e,c,d⟩:=st
  exact ⟨o,k it (by simp) o e,c,d⟩
 item:=by
  intro X hP hw hK hc i pins s σ H E I hf st hg
  subst hP hw hK
  have hg:i < x.cps.size:=hg
  obtain ⟨f0,f1,f2,f3,f4,f5⟩:=hf it (by simp)
  have hx:x.cps[i]?=some x.cps[i]:=Array.getElem?_eq_getElem hg
  refine wpAny_pyNext_ascii_item st hx fun h' st' sb=>?_
  have I1:Inv X pins σ H { s with heap:=h',toks:=s.toks+1 }:=I.turned (fun b o hb e=>(sb.2 b hb).trans e) f0 f1 f3 f4 f5
  obtain ⟨o,e,c,d⟩:=id st'
  exact ⟨_,rfl,ali (s:={ s with heap:=h',toks:=s.toks+1 }) e c d (by decide) ⟨.str ⟨#[x.cps[i]]⟩,H,I1,⟨_,rfl⟩,⟨rfl,_,hx,rfl⟩,st',fun b hb=>(hf b hb).1⟩⟩
 done:=by
  intro X hP hw hK hc i pins s σ H E I hf st hg
  subst hP hw hK
  have hg:x.cps.size≤i:=hg
  obtain ⟨f0,f1,f2,f3,f4,f5⟩:=hf it (by simp)
  exact wpAny_pyNext_ascii_end (I.ok.hd hc) st (Array.getElem?_eq_none hg) fun h' eb=>⟨rfl,I.turned (t':=s.toks) (fun b o hb e=>eb b o hb e) f0 f1 f3 f4 f5⟩
 self:=fun _ _ _ _ _ st h=>wpAny_pyIter_striter_ascii st h
def PEx (X:Cx) (e:Expr) (te:XK→TE):Prop :=
 ∀ (pins:List (Addr × Obj)) (s:Shared) (σ:St) (H:Hp) (Q:VK) (E:XK) (Ex:Value→Shared→Prop),Inv X pins σ H s→te E σ H Q →
  (∀ s1 H1 e' s',Inv X pins σ H1 s1→CX1 X.prog X.w X.stack H1 s1 E e' s'→Ex e' s')→wpAny (model X.prog X.w) X.A (eval e X.env) (EP X pins σ Q) Ex s
section
variable {X:Cx} {k:Nat} {f:Addr} {fd:FuncData} {ps:List Str} {sp:Sp} {dvs:List V} {ds:List Value} {x:Str} {p pos pos1 pos2 pos3 pc:Pos} {e a:Expr} {es:List Expr} {t:TA} {ta:TE} {te:XK→TE} {c n:Str} {C:Addr} {i:Nat} {b₀:Stmt} {body:List Stmt} {newId:String}
theorem akI (hxe:X.xe=fun _ _=>False) (F:FnOk X.prog X.w X.K X.mg X.base (CX1 X.prog X.w) k f fd ps sp) (hr:Room k X.A) (hg:Gl X x) (hm:X.mg x=some (.ref f)) (hkp:PySem.W.keepIn X.K (.ref f)=true)
  (hb:ab9 X.K fd ps ds) (hd:Vals dvs ds) (ha:PA X (e :: es) t)
  (hdb:(x == ("__debug__":Str))=false:=by decide) (he:starEach (e :: es) X.env=(false,eval e X.env) :: starEach es X.env:=by rfl) (hpl:(backTo pos (starEach es X.env)).any (·.1)=false:=by rfl) :
  PEx X (.Call (.Name x p) (e :: es) [] pos) (fun E σ H Q=>t σ H fun vs H1=>sp (vs++dvs) H1 Q E) :=
 fun pins s σ H Q E Ex I h hx=>akY hxe F hr hg hm hkp hb hd ha I h hx hdb he hpl
theorem akV {x1} (hxe:X.xe=fun _ _=>False) (ha:PE X a ta) (he:PEx X e te)
  (hs:starEach [a,e] X.env=[(false,eval a X.env),(false,eval e X.env)]:=by rfl) :
  PEx X (.Tuple [a,e] x1 pos) (fun E σ H Q=>ta σ H fun u H1=>te E σ H1 fun v H2=>∀ t,H2 t=none→Q (.ref t) (upd H2 t (.tup [u,v]))):=by
 intro pins s σ H Q E Ex I h hx
 refine wpAny_Tuple_spliced ?_
 rw [hs]
 show wpAny _ _ (spliced ((false,eval a X.env) :: [(false,eval e X.env)])) _ _ s
 refine Calls.spliced_cons (wpAny_mono (ha pins s σ H _ I h) (fun u s1 ⟨x,H1,I1,r1,q1⟩=>?_) fun _ _ z=>by rw [hxe] at z; exact z.elim)
 refine Calls.spliced_cons (wpAny_mono (he pins s1 σ H1 _ E Ex I1 q1 hx) (fun v s2 ⟨y,H2,I2,r2,q2⟩=>?_) fun _ _ z=>z)
 refine Calls.spliced_nil ⟨by show 2≤sizeLine; decide,?_⟩
 have hf:H2 s2.heap.objs.size=none:=I2.hok.fresh (Nat.le_refl _)
 refine ⟨.ref s2.heap.objs.size,upd H2 s2.heap.objs.size (.tup [x,y]),I2.laid (t':=s2.toks) (fun b u e=>Heap.get?_push_of_some _ e) (Nat.le_refl _) ?_,rfl,q2 _ hf⟩
 exact ⟨by show 2≤sizeLine; decide,[u,v],.cons r1 (.cons r2 .nil),⟨_,Heap.get?_push_size _ rfl,rfl,_,rfl⟩⟩
end
end L2
namespace L2.Pp
open PySem PySem.Spec PyProof.Rows Bn
section
variable {K:PySem.W.Frag} {cl:Str→Addr} {E:XK} {X:Cx} {a b c e:Expr} {m mc:ME} {ms:MA} {pos:Pos} {tg:Expr} {ma mb:ME}
def chs (x:Str):List PV:=x.cps.toList.map fun c=>.str ⟨#[c]⟩
def ai2:AV→Sto→Res (List PV × Gd)
 | .pv (.str x),S=>if x.cps.all (· < 128)=true∧x.length≤16777216 then .ok (chs x,[]) S else .fail
 | _,_=>.fail
def mItS (m:ME):MI:=fun ρ S=>(m ρ S).bind ai2
theorem anx {p:Ph} {H:Hp} {x:Str} (hz:x.length≤16777216):ItOk K p H (chs x,[]) (Itx x):=by
 have hl:(chs x).length=x.cps.size:=by unfold chs; rw [List.length_map,Array.length_toList]
 refine ⟨by show (chs x).length≤sizeLine; rw [hl,aaG]; exact hz,fun q H1 S1 st _ _=>⟨fun i v e=>?_,?_⟩⟩
 ·have e:(chs x)[i]?=some v:=e
  unfold chs at e
  rw [List.getElem?_map] at e
  cases z:x.cps.toList[i]? with
  | none=>rw [z] at e; cases e
  | some d =>
   rw [z] at e
   cases e
   have z:x.cps[i]?=some d:=by simpa using z
   refine ⟨(Array.getElem?_eq_some_iff.mp z).1,fun y H2 hy=>?_⟩
   obtain ⟨rfl,d',e1,rfl⟩:=hy
   rw [z] at e1
   cases e1
   exact ⟨Same.refl _,repS _⟩
 ·show x.cps.size≤(chs x).length
  rw [hl]
  exact Nat.le_refl _
theorem aiY (h:PEp K cl E X e m):PIp K cl E X tg e (mItS m):=by
 intro hK
 subst hK
 intro pins s σ H R I hh
 obtain ⟨p,S,ρ,sm,ev,hh⟩:=hh
 have z:=h rfl pins s σ H (fun x H1=>∃ y,x=.str y∧y.cps.all (· < 128)=true∧R (Itx y) H1) I (aat sm ev hh fun q H' v x S' stp sm ev r k=>by
  unfold ai2 at k
  split at k
  ·rename_i y
   split at k
   ·rename_i hy
    exact ⟨y,(show RepR X.K q H' (.str y) x from .inl r).str,hy.1,aaO.ret (R:=ItOk X.K) k sm (anx hy.2)⟩
   ·exact k.elim
  ·exact k.elim)
 refine thn z fun v s1 ⟨x,H1,I1,r1,y,e,ha,q⟩=>?_
 subst e
 obtain ⟨t,rfl⟩:=r1
 refine wpAny_pyIter_ascii ha ?_
 refine ⟨s1.heap.objs.size,[s1.heap.objs.size],_,_,H1,rfl,I1.kept (t':=s1.toks) fun b o e=>Heap.get?_push_of_some _ e,akO y t _,⟨_,Heap.get?_push_size _ rfl,rfl,rfl⟩,fun b hb=>?_,q⟩
 have e:b=s1.heap.objs.size:=by simpa using hb
 subst e
 exact I1.fpOk (Nat.le_refl _) (I1.hok.fresh (Nat.le_refl _))
def aeS (f f':PV→PV→Option PV) (ma mb mc:ME):ME:=fun ρ S=>(ma ρ S).bind fun x S1=>(mb ρ S1).bind fun y S2=>(abn f x y S2).bind fun z S3=>match z with
 | .pv (.bl true)=>(mc ρ S3).bind fun w S4=>abn f' y w S4
 | .pv (.bl false)=>.ok (.pv (.bl false)) S3
 | _=>.fail
theorem ald {op op':CmpOp} {r r':R2} {f f':PV→PV→Option PV} (ho:OpR X (compareOp op) r) (hf:OpS X.K r f) (ho':OpR X (compareOp op') r') (hf':OpS X.K r' f') (ha:PEp K cl E X a ma) (hb:PEp K cl E X b mb) (hc:PEp K cl E X c mc)
  (hm:lastMarks [op,op'] [b,c]=false:=by with_unfolding_all rfl):PEp K cl E X (.Compare a [op,op'] [b,c] pos) (aeS f f' ma mb mc):=by
 intro hK
 subst hK
 refine PE.imp (akN ho ho' (ha rfl) (hb rfl) (hc rfl) hm) fun σ H Q ⟨p,S,ρ,s,e,h⟩=>?_
 refine aat s e h fun q H1 x x' S1 st s1 e1 r1 h1=>aat s1 e1 h1 fun q2 H2 y y' S2 st2 s2 e2 r2 h2=>?_
 cases z:abn f x y S2 with
 | fail=>rw [z] at h2; exact h2.elim
 | exc n S3 =>
  exfalso
  unfold abn at z
  cases w:((rd S2 x).bind fun x=>(rd S2 y).bind fun y=>f x y) with
  | none=>rw [w] at z; cases z
  | some u=>rw [w] at z; cases z
 | ok u S3 =>
  rw [z] at h2
  simp only [Res.bind] at h2
  have eS:S3=S2:=by
   unfold abn at z
   cases w:((rd S2 x).bind fun x=>(rd S2 y).bind fun y=>f x y) with
   | none=>rw [w] at z; cases z
   | some u=>rw [w] at z; cases z; rfl
  subst eS
  refine acB (cl:=cl) (E:=E) hf s2 (st2.repA r1) r2 ?_
  rw [z]
  intro q3 H3 w st3 s3 r3
  have e3:=st3.repE e2
  have ry:=st3.repA r2
  split at h2
  ·have:w=.bl true:=ajd r3 rfl
   subst this
   refine ⟨true,rfl,if_pos rfl ▸ ?_⟩
   refine ⟨q3,S3,ρ,s3,e3,?_⟩
   have h2:aaO X.K cl (RepA X.K) q2 H2 ((mc ρ S3).bind fun w S4=>abn f' y w S4) Q E:=h2
   cases zc:mc ρ S3 with
   | fail=>rw [zc] at h2; exact h2.elim
   | exc n S4=>
    rw [zc] at h2
    intro q4 H4 st4 s4
    exact h2 q4 H4 (st3.trans st4) s4
   | ok v S4 =>
    rw [zc] at h2
    intro q4 H4 v' st4 s4 r4
    refine acB (cl:=cl) (E:=E) hf' s4 (st4.repA ry) r4 ?_
    exact aaO.mono h2 (st3.trans st4)
  ·have:w=.bl false:=ajd r3 rfl
   subst this
   refine ⟨false,rfl,?_⟩
   show Q (.bl false) H3
   exact h2 q3 H3 _ st3 s3 (by show Rep X.K q3.c H3 _ _; unfold Rep; rfl)
  ·exact h2.elim
theorem akP {x:Str}:∀ c H,Rep K c H (.str x) (.str x):=fun c H=>repS x
end
end L2.Pp
namespace L2.Pp
open PySem PySem.Spec PyProof.Rows Bn
section
variable {K:PySem.W.Frag} {cl:Str→Addr} {E:XK} {X:Cx} {e a:Expr} {es:List Expr} {ms:MA} {ma me:ME} {p q:Ph} {H H':Hp} {S:Sto}
variable {k:Nat} {f:Addr} {fd:FuncData} {ps:List Str} {g:FM} {dvs:List V} {ds:List Value} {dv:List PV} {x:Str} {pp pos pos1 pos2 pos3 pc:Pos} {c n:Str} {i nn:Nat} {b₀:Stmt} {body:List Stmt} {newId:String} {up:Rho→Rho}
variable (K cl X)
def PXp (e:Expr) (m:ME):Prop:=X.K=K→PEx X e fun E=>tP K cl E (RepA K) m
variable {K cl X}
def adS (f:FM) (ds:List PV) (ms:MA):ME:=fun ρ S=>(aar (ms ρ S)).bind fun xs S1=>frz S1.length (f (xs++ds.map .pv) S1)
def agi (ma me:ME):ME:=fun ρ S=>(aar (ma ρ S)).bind fun u S1=>(me ρ S1).bind fun v S2=>aca fTup [u,v] S2
theorem PEx.imp {te te':XK→TE} (h:PEx X e te) (i:∀ E σ H Q,te' E σ H Q→te E σ H Q):PEx X e te':=fun pins s σ H Q E Ex I q hx=>h pins s σ H Q E Ex I (i E σ H Q q) hx
theorem ajb (hxe:X.xe=fun _ _=>False) (F:FnOk X.prog X.w X.K X.mg X.base (CX1 X.prog X.w) k f fd ps (spP K cl g)) (hr:Room k X.A) (hg:Gl X x) (hm:X.mg x=some (.ref f)) (hkp:PySem.W.keepIn X.K (.ref f)=true)
  (hb:ab9 X.K fd ps ds) (hd:Vals dvs ds) (hv:Dv dv dvs) (ha:PAp K cl E0 X (e :: es) ms)
  (hdb:(x == ("__debug__":Str))=false:=by decide) (he:starEach (e :: es) X.env=(false,eval e X.env) :: starEach es X.env:=by rfl) (hpl:(backTo pos (starEach es X.env)).any (·.1)=false:=by rfl) :
  PXp K cl X (.Call (.Name x pp) (e :: es) [] pos) (adS g dv ms):=by
 intro hK
 refine PEx.imp (akI hxe F hr hg hm hkp hb hd (ha hK) hdb he hpl) fun E σ H Q ⟨p,S,ρ,s,ev,h⟩=>?_
 refine ⟨p,S,ρ,s,ev,?_⟩
 unfold adS at h
 cases z:ms ρ S with
 | ok xs S1 =>
  rw [z] at h
  intro q H1 vs st sm r
  exact ⟨q,S1,xs++dv.map .pv,sm,abW r (hv K q H1),adN sm (aaO.mono h st)⟩
 | exc m S1=>rw [z] at h; exact h.elim
 | fail=>rw [z] at h; exact h.elim
theorem ai1 {x1} (hxe:X.xe=fun _ _=>False) (ha:PEp K cl E0 X a ma) (he:PXp K cl X e me)
  (hs:starEach [a,e] X.env=[(false,eval a X.env),(false,eval e X.env)]:=by rfl):PXp K cl X (.Tuple [a,e] x1 pos) (agi ma me):=by
 intro hK
 refine PEx.imp (akV hxe (ha hK) (he hK) hs) fun E σ H Q ⟨p,S,ρ,s,ev,h⟩=>?_
 refine ⟨p,S,ρ,s,ev,?_⟩
 unfold agi at h
 cases z:ma ρ S with
 | exc m S1=>rw [z] at h; exact h.elim
 | fail=>rw [z] at h; exact h.elim
 | ok u S1 =>
  rw [z] at h
  have h:aaO K cl (RepA K) p H ((me ρ S1).bind fun v S2=>aca fTup [u,v] S2) Q E:=h
  intro q H1 u' st sm r
  refine ⟨q,S1,ρ,sm,st.repE ev,?_⟩
  cases z2:me ρ S1 with
  | fail=>rw [z2] at h; exact h.elim
  | exc n S2 =>
   rw [z2] at h
   intro q2 H2 st2 sm2
   exact h q2 H2 (st.trans st2) sm2
  | ok v S2 =>
   rw [z2] at h
   have h:aaO K cl (RepA K) p H (aca fTup [u,v] S2) Q E:=h
   intro q2 H2 v' st2 sm2 r2 t ht
   have h:=aaO.mono h (st.trans st2)
   refine aeQ (r:=fun xs H Q=>xs.length≤sizeLine∧∀ t,H t=none→Q (.ref t) (upd H t (.tup xs))) (f:=fTup) (fun {p S H as c xs Q} s r e k=>?_) sm2 (.cons (st2.repA r) (.cons r2 .nil)) h |>.2 t ht
   unfold fTup at e
   split at e
   ·rename_i hl
    cases e
    rw [r.length,← aaG] at hl
    exact ⟨hl,fun t ht=>k _ _ (abf ht) (adD s r hl ht)⟩
   ·cases e
theorem agV {c:Addr→Prop}:∀ {vs:List PV},(∀ v∈vs,ais v=true)→Reps K c H vs (vs.map toV)
 | [],_=>.nil
 | v :: vs,h=>.cons (abv (h v List.mem_cons_self)) (agV fun u hu=>h u (List.mem_cons_of_mem _ hu))
theorem RepE.setT {ρ:Rho} {σ:St} (s:Sim K p S H) (ev:RepE K p H ρ σ) {t:Addr} (ht:H t=none) {vs:List PV} (fl:∀ v∈vs,ais v=true) (hl:vs.length≤sizeLine) (i:Nat):RepE K p (upd H t (.tup (vs.map toV))) (ρ.set i (some (.pv (.tup vs)))) (σ.set i (some (.ref t))) :=
 ((s.same (abf ht)).repE ev).set (v:=.pv (.tup vs)) (x:=.ref t) (adD s (agV fl) (by rw [List.length_map]; exact hl) ht) i
def agf (me:ME) (c:Str) (nn j:Nat) (up:Rho→Rho):MS:=fun ρ S=>if ρ.length=nn then (match me ρ S with
 | .ok v S2=>.nx (ρ.set j (some v)) S2
 | .exc n S2=>if n=c then .nx (up ρ) S2 else .fail
 | .fail=>.fail) else .fail
end
end L2.Pp
namespace L2.Pp
open PySem PySem.Spec PyProof.Rows Bn
section
variable {K:PySem.W.Frag} {cl:Str→Addr} {E:XK} {X:Cx} {a b:Expr} {ma mb:ME} {pos:Pos}
def fIxS:PV→PV→Option PV
 | .str x,.int i=>if x.length≤16777216 then (atI x.cps.toList i).map fun c=>.str ⟨#[c]⟩ else none
 | _,_=>none
theorem aoA:OpS K rIxS fIxS:=fun {p S H a b c x y Q} s ra rb e k=>by
 unfold fIxS at e
 split at e
 ·rename_i z i
  split at e
  ·rename_i hz
   rw [← aaG] at hz
   cases w:atI z.cps.toList i with
   | none=>rw [w] at e; cases e
   | some d =>
    rw [w] at e
    cases e
    exact ⟨z,i,d,ra.str,rb.int,hz,w,k H _ (Same.refl H) (repS _)⟩
  ·cases e
 ·cases e
theorem aln (ha:PEp K cl E X a ma) (hb:PEp K cl E X b mb) (hs:ag9 b:=by intro _ _; rfl):PEp K cl E X (.Subscript a b pos) (mBin fIxS ma mb):=by
 intro hK
 subst hK
 refine (anq aly (ha rfl) (hb rfl) hs).imp fun σ H Q ⟨p,S,ρ,s,e,h⟩=>?_
 exact aat s e h fun q H1 a x S1 st s1 e1 r1 h1=>aat s1 e1 h1 fun q2 H2 b y S2 st2 s2 e2 r2 h2=>acB aoA s2 (st2.repA r1) r2 h2
theorem al3 {m:ME} {σ:St} {H:Hp} {Q:VK} (z:tP X.K cl E (RepA X.K) (mUn fIsN m) σ H Q):tIsN (tP X.K cl E (RepA X.K) m) σ H Q:=by
 obtain ⟨p,S,ρ,s,ev,h⟩:=z
 refine aat s ev h fun q H' as x S' stp sm ev r k=>?_
 refine ac9 (r:=fun x H Q=>Q (.bl (decide (x=.non))) H) (f:=fIsN) (fun {p S H a c x Q} s ra e k=>?_) sm r k
 have z:c=.bl (decide (x=.non)):=by
  cases a with
  | non=>cases ra.non; cases e; rfl
  | int i=>cases ra.int; cases e; rfl
  | bl i=>cases ra.bl; cases e; rfl
  | str i=>cases ra.str; cases e; rfl
  | tup xs=>obtain ⟨a,vs,rfl,_⟩:=ra.tup; cases e; rfl
  | lst xs=>obtain ⟨a,vs,rfl,_⟩:=ra.lst; cases e; rfl
 subst z
 exact k H _ (Same.refl H) (by unfold Rep; rfl)
theorem alp {m:ME} {j pos'} (ha:PEp K cl E X a m):PTp K cl E X (.Compare a [.Is] [.Constant .none j pos'] pos) (mTst (mUn fIsN m)):=by
 intro hK
 subst hK
 refine (alw (anl (ha rfl))).imp fun σ H Q ⟨p,S,ρ,s,e,h⟩=>?_
 have z:tP X.K cl E (RepA X.K) (mUn fIsN m) σ H fun x H'=>∃ k,x=.bl k∧Q k H':=aat s e h fun q H1 a x S1 st s1 e1 r1 h1=>aeF s1 r1 h1
 exact al3 z
end
end L2.Pp
namespace L2
open PySem PySem.Spec PyProof.Rows Bn
section
variable {X:Cx} {k:Nat} {p pos pos1 pos2 pos3 pc:Pos} {e:Expr} {te:XK→TE} {c:Str} {C:Addr} {b₀:Stmt} {body:List Stmt} {newId:String}
theorem alW {jv:Nat} {xv:Str} {posv:Pos} {ts:TS} (stk:X.stack=X.env :: X.outer) (hN:X.N.Nodup)
  (hgc:Gl X c) (hmc:X.mg c=some (.ref C)) (hxC:PySem.W.excIn X.K C acb newId=true) (he:PEx X e te)
  (hjv:X.N[jv]?=some xv) (hxv:Loc X.env.scope xv) (hs:∀ y,PSs (X.mk1 y []) (b₀ :: body) ts)
  (hsw:swapsWith e (some (.Name xv posv)) pos1.line X.env=pure false:=by rfl)
  (hfv:X.fn xv=true∨X.env.scope.names.lookup xv=some .local:=by first | exact .inl rfl | exact .inr rfl | assumption)
  (hfr:X.env.frame=some X.env.locals:=by rfl)
  (hdc:(c == ("__debug__":Str))=false:=by decide) :
  PS X (.Try [.Assign [.Name xv posv] e pos1] [.ExceptHandler (some (.Name c pc)) none (b₀ :: body) pos2] [] [] pos3)
   (fun D σ H=>te (fun cls _ H2=>cls=.ref C∧ts D σ H2) σ H (fun v H2=>D.nx (σ.set jv (some v)) H2)):=by
 intro pins s σ H D I h
 refine wpAny_Try_except (wpAny_execs_cons (wpAny_Assign_Name (wpAny_mono (he pins s σ H _ _ _ I h (fun s1 H1 e' s' I1 cx=>?_)) (fun v s1 q=>?_) fun e' s1 z=>z) hsw))
 rotate_left
 ·obtain ⟨v,H1,I1,rv,q⟩:=q
  exact ac1 I1 hN hjv hxv rv (fun s2 I2=>wpAny_execs_nil (wpAny_execs_nil ⟨_,H1,I2,q⟩)) hfv
 obtain ⟨y,C',tt,B,H',rfl,os,bare,un,hok,fl,cov,hE⟩:=cx
 obtain ⟨hC',hts⟩:=hE
 cases hC'
 rw [stk] at fl
 have fr:∀ b∈frs X.stack,H' b=none:=fun b hb=>by
  obtain ⟨_,o,ho,hd⟩:=I1.stack.mem hb
  exact un.free b o ho (I1.stkFree b hb) (by intro z; cases z)
 have ff:X.A.frames=some (X.env :: X.outer):=by rw [I.ok.frames,stk]
 refine wpAny_looks_onW (base:=B) ff hfr fl fun h2 held up2=>?_
 refine wpAny_landsW (base:=B) held fun h3 fl3 up3=>?_
 have up:=ajW up2 up3
 have I3:=I1.flown os bare un hok cov fr fl3.1 up
 refine wpAny_handleBy_cons ?_ (by intro z; cases z)
 refine codeAny_handlers_test (afe (X:=X.mk1 y []) (I3.mk1 y [] fun p hp=>nomatch hp) hgc hmc ?_ hdc)
 obtain ⟨bm,Nn,nm,qn,bs,hdct,sn,sub,ab,col,dd,k0,k1,k2,k3,k5,mN,hC,hNs,hni,T⟩:=ajU I.ok.mod.kin hxC
 obtain ⟨oe,vs,TT,oT,tts,hoe,⟨hcls,_⟩,hdat,_⟩:=fl3.2.2.2
 refine wpAny_excMatches_sub_self (I3.bk _ _ hC) hoe hcls (T.hasType (by decide)) ?_
 refine codeAny_handlers_suite (lands_againW (base:=B) fl3 fun h4 fl4 up4=>?_)
 have I4:=I1.flown os bare un hok cov fr fl4.1 (ajW up up4)
 have I5:Inv (X.mk1 y []) pins σ H' _:=I4.mk1 y [] fun p hp=>nomatch hp
 refine wpAny_mono (hs y pins _ _ H' _ I5 hts) (fun fl s7 q7=>?_) fun _ _ z=>False.elim z
 cases fl with
 | next=>obtain ⟨σ',H7,I7,q⟩:=q7; exact ⟨_,_,I7.unmk1 I.ok,q⟩
 | brk=>obtain ⟨σ',H7,I7,q⟩:=q7; exact ⟨_,_,I7.unmk1 I.ok,q⟩
 | cont=>obtain ⟨σ',H7,I7,q⟩:=q7; exact ⟨_,_,I7.unmk1 I.ok,q⟩
 | ret u=>obtain ⟨v,σ',H7,I7,r,q⟩:=q7; exact ⟨v,_,_,I7.unmk1 I.ok,r,q⟩
end
end L2
namespace L2.Pp
open PySem PySem.Spec PyProof.Rows Bn
section
variable {K:PySem.W.Frag} {cl:Str→Addr} {E:XK} {X:Cx} {a b e:Expr} {m me:ME} {ms:MA} {pos pos1 pos2 pos3 pc:Pos} {c:Str} {nn:Nat} {b₀:Stmt} {body:List Stmt} {newId:String} {up:Rho→Rho}
theorem ahY {jv:Nat} {xv:Str} {posv:Pos} {ts:TS} (stk:X.stack=X.env :: X.outer) (hN:X.N.Nodup)
  (hgc:Gl X c) (hmc:X.mg c=some (.ref (cl c))) (hxC:PySem.W.excIn X.K (cl c) acb newId=true) (he:PXp K cl X e me)
  (hjv:X.N[jv]?=some xv) (hxv:Loc X.env.scope xv) (hs:∀ y,PSs (X.mk1 y []) (b₀ :: body) ts)
  (hts:∀ (D:Ends) (σ:St) (H:Hp) (p:Ph) (S:Sto) (ρ:Rho),Sim K p S H→σ.length=nn→RepE K p H ρ σ→(∀ H' σ',Same H H'→RepE K p H' (up ρ) σ'→D.nx σ' H')→ts D σ H)
  (hsw:swapsWith e (some (.Name xv posv)) pos1.line X.env=pure false:=by rfl)
  (hfv:X.fn xv=true∨X.env.scope.names.lookup xv=some .local:=by first | exact .inl rfl | exact .inr rfl | assumption)
  (hfr:X.env.frame=some X.env.locals:=by rfl)
  (hdc:(c == ("__debug__":Str))=false:=by decide) :
  PSp K cl E0 X (.Try [.Assign [.Name xv posv] e pos1] [.ExceptHandler (some (.Name c pc)) none (b₀ :: body) pos2] [] [] pos3) (agf me c nn jv up):=by
 intro hK
 refine PS.imp (alW stk hN hgc hmc hxC (he hK) hjv hxv hs hsw hfv hfr hdc) fun D σ H ⟨p,S,ρ,s,ev,h⟩=>?_
 unfold agf at h
 split at h
 ·rename_i hl
  refine ⟨p,S,ρ,s,ev,?_⟩
  cases z:me ρ S with
  | ok v S2 =>
   simp only [z] at h
   intro q2 H2 y st2 sm2 r2
   exact h q2 H2 _ st2 sm2 ((st2.repE ev).set r2 jv)
  | exc m S2 =>
   simp only [z] at h
   split at h
   ·rename_i hm
    subst hm
    intro q2 H2 st2 sm2
    refine ⟨rfl,hts D σ H2 q2 S2 ρ sm2 (by rw [← ev.len]; exact hl) (st2.repE ev) fun H' σ' hs e'=>h q2 H' σ' (st2.trans (sm2.same hs)) (sm2.ofSame hs) e'⟩
   ·exact h.elim
  | fail=>simp only [z] at h; exact h.elim
 ·exact h.elim
def adP:List PV→Option (List Str)
 | []=>some []
 | .str x :: r=>match adP r with
  | some xs=>some (x :: xs)
  | none=>none
 | _=>none
theorem agW {c:Addr→Prop} {H:Hp}:∀ {xs:List PV} {ts:List Str} {vs:List V},adP xs=some ts→Reps K c H xs vs→vs=ts.map V.str
 | [],ts,vs,e,r=>by
  unfold Reps at r
  cases e
  exact r
 | x :: xs,ts,vs,e,r=>by
  unfold Reps at r
  obtain ⟨v,r1,rfl,h,t⟩:=r
  unfold adP at e
  split at e
  ·rename_i he; cases he
  ·rename_i y r' he
   cases he
   split at e
   ·rename_i ys hy
    cases e
    unfold Rep at h
    rw [h,agW hy t]
    rfl
   ·cases e
  ·cases e
theorem ah9:∀ {ts:List Str} {its:List Value},Vals (ts.map V.str) its→∃ l:List (Str × Tok),its=strValues l∧l.map (·.1)=ts
 | [],_,.nil=>⟨[],rfl,rfl⟩
 | t :: ts,_,.cons r v=>by
  obtain ⟨tk,rfl⟩:=r
  obtain ⟨l,rfl,rfl⟩:=ah9 v
  exact ⟨(t,tk) :: l,rfl,rfl⟩
theorem amJ:MtR X "str.join" (fun x vs H Q=>∃ (z:Str) (a:Addr) (ts:List Str),x=.str z∧vs=[.ref a]∧SqL X.K H a (ts.map V.str)∧JoinOk z ts=true∧Q (.str (Txt.join z ts)) H):=by
 intro pins s σ H x vs v us Q I rx rv h
 obtain ⟨z,a,ts,rfl,rfl,hq,hj,q⟩:=h
 obtain ⟨t,rfl⟩:=rx
 obtain ⟨u,rfl,ru⟩:=rv.one
 cases ru
 obtain ⟨its,r,pl,hz⟩:=I.list hq
 obtain ⟨l,rfl,hl⟩:=ah9 r
 exact SC.join pl.isList hl hj fun t' k=>⟨.str _,H,I.tok _,⟨_,rfl⟩,q⟩
def aht (z:Str):List PV→Option PV
 | [.lst xs]=>match adP xs with
  | some ts=>if JoinOk z ts=true then some (.str (Txt.join z ts)) else none
  | none=>none
 | _=>none
theorem aix {z:Str} {as:List PV} {c:PV} (h:aht z as=some c):∃ zs ts,as=[.lst zs]∧adP zs=some ts∧JoinOk z ts=true∧c=.str (Txt.join z ts):=by
 unfold aht at h
 split at h
 ·rename_i zs
  cases w:adP zs with
  | none=>rw [w] at h; cases h
  | some ts =>
   rw [w] at h
   dsimp only at h
   split at h
   ·rename_i hj
    cases h
    exact ⟨zs,ts,rfl,w,hj,rfl⟩
   ·cases h
 ·cases h
def aeC (m:ME) (ms:MA):ME:=fun ρ S=>(m ρ S).bind fun k S1=>strR k fun x=>(ms ρ S1).bind fun ys S2=>okO ((abA S2 ys).bind (aht x)) S2
theorem ahu {apos cpos:Pos} (ho:PEp K cl E X a m) (ha:PAp K cl E X [e] ms) (hbase:attributeBase a "join" X.env (eval a X.env)=eval a X.env:=by rfl)
  (hfew:((backTo cpos (starEach [e] X.env)).all (fun x=>!x.1) && (backToKw cpos (keywordEach [] X.env)).all (fun x=>x.1.isSome) && decide (([e]:List Expr).length+([]:List Keyword).length+(if ([]:List Keyword).isEmpty then 0 else 1) < 30))=true:=by rfl)
  (hline:(apos.endLine == cpos.line)=true:=by rfl) (hs:starEach [e] X.env=[(false,eval e X.env)]:=by rfl):PEp K cl E X (.Call (.Attribute a "join" apos) [e] [] cpos) (aeC m ms):=by
 intro hK
 subst hK
 refine PE.imp (ak4 PySem.F.plainAttrs_str PySem.F.slot_str_join PySem.F.type_str_join amJ (ho rfl) (ha rfl) hbase hfew hline hs rfl) fun σ H Q ⟨p,S,ρ,s,ev,h⟩=>?_
 refine aat s ev h fun q H1 k x S1 st s1 e1 r1 h1=>?_
 unfold strR at h1
 split at h1
 ·rename_i z
  have ex:=(show RepR X.K q H1 (.str z) x from .inl r1).str
  subst ex
  refine ⟨rfl,aat s1 e1 h1 fun q2 H2 ys xs S2 st2 s2 e2 r2 h2=>?_⟩
  obtain ⟨c,ec,kk⟩:=adg s2 h2
  cases y:abA S2 ys with
  | none=>rw [y] at ec; cases ec
  | some as =>
   rw [y] at ec
   have rr:=aff s2 r2 y
   have ec:aht z as=some c:=ec
   obtain ⟨zs,ts,rfl,w,hj,rfl⟩:=aix ec
   cases rr with
   | cons h t =>
    cases t
    obtain ⟨b0,ws,rfl,sq,lw,rw0⟩:=h.lst
    rw [agW w rw0] at sq
    exact ⟨z,b0,ts,rfl,rfl,sq,hj,kk H2 _ (Same.refl H2) (repS _)⟩
 ·exact h1.elim
def isNv:V→Bool
 | .non=>true
 | _=>false
def isNu:Value→Bool
 | .none=>true
 | _=>false
def ItN (K:PySem.W.Frag) (H:Hp):V→Prop
 | .non=>True
 | .bl _=>True
 | .int _=>True
 | .str _=>True
 | .ref a=>(∃ xs,SqL K H a xs)∨∃ xs,SqT K H a xs
 | _=>False
theorem ajP {H:Hp}:∀ {xs:List V} {us:List Value},Vals xs us→(∀ v∈xs,ItN K H v)→us.any isNu=xs.any isNv
 | _,_,.nil,_=>rfl
 | y :: xs,u :: us,.cons r t,f=>by
  rw [List.any_cons,List.any_cons,ajP t fun v hv=>f v (List.mem_cons_of_mem _ hv)]
  have h:=f y List.mem_cons_self
  cases y with
  | non=>cases r; rfl
  | bl b=>cases r; rfl
  | int i=>obtain ⟨t,rfl⟩:=r; rfl
  | str z=>obtain ⟨t,rfl⟩:=r; rfl
  | ref a=>cases r; rfl
  | _=>exact h.elim
theorem ag4 {pins:List (Addr × Obj)} {σ:St} {H:Hp} {s:Shared} (I:Inv X pins σ H s) {A:Around} (hu:A.units < cLine):∀ {xs:List V} {us:List Value},Vals xs us→(∀ v∈xs,ItN X.K H v)→∀ u∈us,SeqAt.EqAt A s u .none (isNu u)
 | _,_,.nil,_=>fun u hu=>by cases hu
 | y :: xs,u :: us,.cons r t,f=>fun u' hm=>by
  rcases List.mem_cons.mp hm with rfl | hm
  ·have h:=f y List.mem_cons_self
   cases y with
   | non=>cases r; exact SeqAt.EqAt.same _
   | bl b=>cases r; exact SeqAt.EqAt.bool_none b
   | int i=>obtain ⟨t,rfl⟩:=r; exact SeqAt.EqAt.int_none i t
   | str z=>obtain ⟨t,rfl⟩:=r; exact SeqAt.EqAt.str_none z t
   | ref a =>
    cases r
    rcases h with ⟨zs,h⟩ | ⟨zs,h⟩
    ·obtain ⟨its,_,pl,_⟩:=I.list h
     exact SeqAt.EqAt.list_none pl.isList hu
    ·obtain ⟨its,_,pl,_⟩:=I.tuple h
     exact SeqAt.EqAt.tuple_none pl hu
   | _=>exact h.elim
  ·exact ag4 I hu t (fun v hv=>f v (List.mem_cons_of_mem _ hv)) u' hm
def rInN (K:PySem.W.Frag):R2:=fun x y H Q=>∃ p xs,x=.non∧y=.ref p∧SqL K H p xs∧(∀ v∈xs,ItN K H v)∧Q (.bl (xs.any isNv)) H
theorem alE (hu:X.A.units+8 < cLine):OpR X (compareOp .In) (rInN X.K):=by
 intro pins s σ H x y v u Q I rx ry h
 obtain ⟨p,xs,rfl,rfl,hq,f,q⟩:=h
 cases rx
 cases ry
 obtain ⟨its,r,pl,hz⟩:=I.list hq
 refine SeqAt.in_listAt isNu pl.isList (fun w hw=>ag4 I (A:=X.A.in1) (by show X.A.units+1 < cLine; omega) r f w (by simpa using hw)) ⟨.bl _,H,I,rfl,?_⟩
 rw [show its.toArray.any isNu=its.any isNu by simp,ajP r f]
 exact q
def isNp:PV→Bool
 | .non=>true
 | _=>false
theorem ana {c:Addr→Prop} {H:Hp} {v:PV} {x:V} (h:Rep K c H v x):ItN K H x∧isNv x=isNp v:=by
 cases v with
 | non=>unfold Rep at h; subst h; exact ⟨trivial,rfl⟩
 | bl b=>unfold Rep at h; subst h; exact ⟨trivial,rfl⟩
 | int i=>unfold Rep at h; subst h; exact ⟨trivial,rfl⟩
 | str z=>unfold Rep at h; subst h; exact ⟨trivial,rfl⟩
 | tup xs =>
  unfold Rep at h
  obtain ⟨a,vs,rfl,t,_,_⟩:=h
  exact ⟨.inr ⟨vs,t⟩,rfl⟩
 | lst xs =>
  unfold Rep at h
  obtain ⟨a,vs,rfl,t,_,_⟩:=h
  exact ⟨.inl ⟨vs,t.sq⟩,rfl⟩
theorem ajX {c:Addr→Prop} {H:Hp}:∀ {xs:List PV} {vs:List V},Reps K c H xs vs→(∀ v∈vs,ItN K H v)∧vs.any isNv=xs.any isNp
 | [],vs,r=>by
  unfold Reps at r
  subst r
  exact ⟨fun v hv=>absurd hv List.not_mem_nil,rfl⟩
 | x :: xs,vs,r=>by
  unfold Reps at r
  obtain ⟨v,r1,rfl,h,t⟩:=r
  obtain ⟨a,b⟩:=ana h
  obtain ⟨c1,d⟩:=ajX t
  refine ⟨fun w hw=>?_,by rw [List.any_cons,List.any_cons,b,d]⟩
  rcases List.mem_cons.mp hw with rfl | hw
  ·exact a
  ·exact c1 w hw
def fInN:PV→PV→Option PV
 | .non,.lst xs=>some (.bl (xs.any isNp))
 | _,_=>none
theorem anP:OpS K (rInN K) fInN:=fun {p S H a b c x y Q} s ra rb e k=>by
 unfold fInN at e
 split at e
 ·cases e
  obtain ⟨a1,vs,rfl,l1,z1,r1⟩:=rb.lst
  obtain ⟨f,g⟩:=ajX r1
  refine ⟨a1,vs,ra.non,rfl,l1,f,?_⟩
  rw [g]
  exact k H _ (Same.refl H) (abv (v:=.bl _) rfl)
 ·cases e
end
end L2.Pp
namespace L2.Pp
open PySem PySem.Spec PyProof.Rows Bn
section
variable {M:Model} {A:Around} {E:Value→Shared→Prop} {s:Shared} {env:Env}
def agv (u:Value→Sem Unit) (M:Model) (A:Around) (E:Value→Shared→Prop) (Q:Value→Shared→Prop) (acc:Value) (c:Env):Result→Shared→Prop
 | .ok _,s'=>wpAny M A (u acc) (fun _ s''=>∃ m,s''.heap.Ns c.locals m∧∀ h',Heap.SameBut c.locals s''.heap h'→Q .none { s'' with heap:=h' }) E s'
 | .error x,s'=>∃ m,s'.heap.Ns c.locals m∧∀ h',Heap.SameBut c.locals s'.heap h'→wpAny M A (PySem.passOn "comprehension.variables-let-go" x c:Sem Value) (fun _ _=>False) E { s' with heap:=h' }
theorem ajv {u:Value→Sem Unit} {e:Expr} {sc:Scope} {pos:Pos} {newAcc first:Sem Value} {g:Comprehension} {gs:List Comprehension} {cl:List (Str × Addr)} {Q:Value→Shared→Prop}
  (hc:clausesOf e=g :: gs) (hs:∀ x,foldedSetIterable g.iter env x=pure x) (hcl:closureFor sc env=pure cl) (hk:sc.kind=.function) (hn:∀ x∈sc.names,x.2=.local→sc.names.lookup x.1=some .local)
  (h:wpAny M A first (fun x s1=>wpAny M A (pyIter x) (fun it s2=>wpAny M A newAcc (fun acc s3=>wpAny M A (newFunctionEnv sc env.globals cl [] env.qual none .none (some env)) (fun c s4 =>
    codeAny M A (.compStart e 0 it acc { c with scope:=relabel sc env }) (agv u M A E Q acc { c with scope:=relabel sc env }) s4) E s3) E s2) E s1) E s) :
  wpAny M A (comprehension e sc env pos newAcc false first (some u)) Q E s:=by
 unfold comprehension
 rw [hcl,hc]
 refine wpAny_bind (thn h fun x s1 h1=>wpAny_bind (wpAny_standAt (wpAny_bind (wpAny_of_eq (hs x) (wpAny_bind (wpAny_holding (thn h1 fun it s2 h2=>?_)))))))
 refine wpAny_standIf (wpAny_bind (thn h2 fun acc s3 h3=>wpAny_bind (wpAny_pure (wpAny_bind (thn h3 fun c s4 h4=>?_)))))
 dsimp only
 have loc:∀ x∈(sc.names.filter fun x=>(x.2 == .local || x.2 == .cell) && x.1 != (".0":Str)).reverse,x.2=.local→Env.kindOf { c with scope:=relabel sc env } x.1=some .local:=fun x hx hl =>
  lookup_relabel_local (hn x (List.mem_filter.mp (List.mem_reverse.mp hx)).1 hl)
 have loc':∀ x∈(sc.names.filter fun x=>(x.2 == .local || x.2 == .cell) && x.1 != (".0":Str)).reverse.drop 1++(sc.names.filter fun x=>(x.2 == .local || x.2 == .cell) && x.1 != (".0":Str)).reverse.take 1,x.2=.local→Env.kindOf { c with scope:=relabel sc env } x.1=some .local:=fun x hx hl=>by
  rcases List.mem_append.mp hx with h1 | h1
  ·exact loc x (List.mem_of_mem_drop h1) hl
  ·exact loc x (List.mem_of_mem_take h1) hl
 refine wpAny_holding (wpAny_bind (wpAny_attempt (wpAny_holding (wpAny_run (codeAny_mono h4 fun r s' hr=>?_)))))
 cases r with
 | ok f =>
  refine wpAny_bind (wpAny_rule (wpAny_bind (wpAny_holding (wpAny_mono hr (fun _ s'' hr'=>?_) fun _ _ h'=>h'))))
  obtain ⟨m,hm,hr'⟩:=hr'
  exact wpAny_bind (wpAny_comp_letGo (cenv:={ c with scope:=relabel sc env }) hk _ s'' m loc' hm fun h' _ _ sb=>wpAny_pure (hr' h' sb))
 | error x =>
  obtain ⟨m,hm,hr⟩:=hr
  exact wpAny_bind (wpAny_holding (wpAny_comp_letGo (cenv:={ c with scope:=relabel sc env }) hk _ s' m loc hm fun h' _ _ sb=>wpAny_mono (hr h' sb) (fun _ _ z=>z.elim) fun _ _ y=>y))
end
end L2.Pp
namespace L2
open PySem PySem.Spec PyProof.Rows Bn L2.Pp
section
variable {P:Program} {w:World} {K:PySem.W.Frag} {mg:Str→Option Value} {base:Heap} {N:List Str} {qual:Str} {scope:Scope} {f:Addr} {cd:Value} {A:Around} {outer:List Env} {s₀:Shared} {H₀:Hp} {E:XK}
variable {sc:Scope} {own:List Str} {cap:List (Nat × Str)} {pins:List (Addr × Obj)} {σ:St} {H:Hp} {s:Shared} {elt target iter:Expr} {pos pos':Pos} {wi:TI} {g:TG} {te:TE} {Q:VK}
theorem aha {u:Value→Sem Unit} {Qf:Value→Shared→Prop} (k:adH (cxOf (CX1 P w) P w K mg base N qual scope f cd A outer s₀ H₀ E) sc own cap) (hi:PI (cxOf (CX1 P w) P w K mg base N qual scope f cd A outer s₀ H₀ E) target iter wi) (hc:(cxOf (CX1 P w) P w K mg base N qual scope f cd A outer s₀ H₀ E).calm=true)
  (hg:∀ C s₁ H₁ ex,PG (aba (cxOf (CX1 P w) P w K mg base N qual scope f cd A outer s₀ H₀ E) sc (cmpN own cap) C s₁ H₁ ex) target g) (he:∀ C s₁ H₁ ex E',ac7 (CX1 P w) ((aba (cxOf (CX1 P w) P w K mg base N qual scope f cd A outer s₀ H₀ E) sc (cmpN own cap) C s₁ H₁ ex).wish E') E→PE ((aba (cxOf (CX1 P w) P w K mg base N qual scope f cd A outer s₀ H₀ E) sc (cmpN own cap) C s₁ H₁ ex).wish E') elt te) (I:Inv (cxOf (CX1 P w) P w K mg base N qual scope f cd A outer s₀ H₀ E) pins σ H s) (h:ahB own cap wi g te σ H Q)
  (fin:∀ D C s' H' m,Inv (cxOf (CX1 P w) P w K mg base N qual scope f cd A outer s₀ H₀ E) pins σ H' s'→FpOk (cxOf (CX1 P w) P w K mg base N qual scope f cd A outer s₀ H₀ E) pins H' C→s'.heap.Ns C m→Q (.ref D) H'→wpAny (model (cxOf (CX1 P w) P w K mg base N qual scope f cd A outer s₀ H₀ E).prog (cxOf (CX1 P w) P w K mg base N qual scope f cd A outer s₀ H₀ E).w) (cxOf (CX1 P w) P w K mg base N qual scope f cd A outer s₀ H₀ E).A (u (.ref D)) (fun _ s''=>∃ m,s''.heap.Ns C m∧∀ h',Heap.SameBut C s''.heap h'→Qf .none { s'' with heap:=h' }) (cxOf (CX1 P w) P w K mg base N qual scope f cd A outer s₀ H₀ E).xe s')
  (hs:∀ x,foldedSetIterable iter (cxOf (CX1 P w) P w K mg base N qual scope f cd A outer s₀ H₀ E).env x=pure x) :
  wpAny (model (cxOf (CX1 P w) P w K mg base N qual scope f cd A outer s₀ H₀ E).prog (cxOf (CX1 P w) P w K mg base N qual scope f cd A outer s₀ H₀ E).w) (cxOf (CX1 P w) P w K mg base N qual scope f cd A outer s₀ H₀ E).A (comprehension (.ListComp elt [⟨target,iter,[],0⟩] sc pos) sc (cxOf (CX1 P w) P w K mg base N qual scope f cd A outer s₀ H₀ E).env pos' (newList []) false (eval iter (cxOf (CX1 P w) P w K mg base N qual scope f cd A outer s₀ H₀ E).env) (some u)) Qf (cxOf (CX1 P w) P w K mg base N qual scope f cd A outer s₀ H₀ E).xe s:=by
 refine ajv (u:=u) rfl hs (ahs (k.has I.ok)) k.kind k.names ?_
 refine thn (hi pins s σ H _ I h) fun v s1 h1=>thn h1 fun itv s2 h2=>?_
 obtain ⟨it,fp,tn,J,H2,e,I2,T,st2,f2,hW⟩:=h2
 subst e
 refine wpAny_newObj_type (wpAny_newFunctionEnv k.nocell (fun y hy=>nomatch hy) (fun h4 hns hsb=>?_) k.kind)
 have I3:Inv (cxOf (CX1 P w) P w K mg base N qual scope f cd A outer s₀ H₀ E) pins σ (upd H2 s2.heap.objs.size (.lst [])) { s2 with heap:=s2.heap.push { cls:=.type "list",data:=.seq ([]:List Value).toArray },toks:=s2.toks }:=I2.lnew (ys:=[]) (its:=[]) .nil (Nat.zero_le _)
 have hD:H2 s2.heap.objs.size=none:=I2.fresh
 have ltf:∀ b∈fp,b < s2.heap.objs.size:=fun b hb=>by
  obtain ⟨o,ho,_⟩:=T.obj _ _ st2 b hb
  exact Heap.lt_size ho
 have f3:∀ b∈fp,FpOk (cxOf (CX1 P w) P w K mg base N qual scope f cd A outer s₀ H₀ E) pins (upd H2 s2.heap.objs.size (.lst [])) b:=fun b hb=>⟨by rw [aaI (Nat.ne_of_lt (ltf b hb))]; exact (f2 b hb).1,(f2 b hb).2⟩
 have un:Un (frs (cxOf (CX1 P w) P w K mg base N qual scope f cd A outer s₀ H₀ E).stack) fp H2 (upd H2 s2.heap.objs.size (.lst [])) s2.heap (s2.heap.push { cls:=.type "list",data:=.seq ([]:List Value).toArray }):=Un.laid (fun b u q=>Heap.get?_push_of_some _ q) (Nat.le_refl _) hD
 have kp:∀ b o,(s2.heap.push { cls:=.type "list",data:=.seq ([]:List Value).toArray }).get? b=some o→h4.get? b=some o:=fun b o q=>hsb.extBut b o (Nat.ne_of_lt (Heap.lt_size q)) (Heap.get?_push_of_some _ q)
 have J0:=I3.cmp (t':=s2.toks+([]:List (Str × Value)).length) k f3 (fun b hb=>Nat.lt_of_lt_of_le (ltf b hb) (by rw [Heap.size_push]; exact Nat.le_succ _)) hns kp
 have stat:∀ {H':Hp},(∀ b∈fp,H' b=none)→∀ b∈fp,FpOk (aba (cxOf (CX1 P w) P w K mg base N qual scope f cd A outer s₀ H₀ E) sc (cmpN own cap) (s2.heap.push { cls:=.type "list",data:=.seq ([]:List Value).toArray }).objs.size { s2 with heap:=s2.heap.push { cls:=.type "list",data:=.seq ([]:List Value).toArray },toks:=s2.toks } (upd H2 s2.heap.objs.size (.lst [])) fp) [] H' b:=fun hn b hb =>
  ⟨hn b hb,(J0.ok.exf b hb).1,J0.ok.exfs b hb,.inl hb,(J0.ok.exf b hb).2,fun p hp=>absurd (show p∈([]:List (Addr × Obj)) from hp) (by simp)⟩
 have st4:tn 0 h4:=T.keep _ _ _ st2 fun b hb o q=>kp b o (Heap.get?_push_of_some _ q)
 have fr0:∀ b∈fp,(upd H2 s2.heap.objs.size (.lst [])) b=none:=fun b hb=>(f3 b hb).1
 have hCf:(s2.heap.push { cls:=.type "list",data:=.seq ([]:List Value).toArray }).objs.size ∉ frs (cxOf (CX1 P w) P w K mg base N qual scope f cd A outer s₀ H₀ E).stack:=fun hb=>by
  obtain ⟨_,o,ho,hd⟩:=I3.stack.mem hb
  exact Nat.lt_irrefl _ (Heap.lt_size ho)
 have hC0:∀ o,s₀.heap.get? (s2.heap.push { cls:=.type "list",data:=.seq ([]:List Value).toArray }).objs.size≠some o:=fun o ho=>by
  obtain ⟨m,⟨oL,_,_,hoL,_⟩,_⟩:=id I3.loc
  exact Nat.lt_irrefl _ (Nat.lt_trans (Nat.lt_of_lt_of_le (Heap.lt_size ho) I3.ok.above) (Heap.lt_size hoL))
 have loop:codeAny (model (cxOf (CX1 P w) P w K mg base N qual scope f cd A outer s₀ H₀ E).prog (cxOf (CX1 P w) P w K mg base N qual scope f cd A outer s₀ H₀ E).w) (cxOf (CX1 P w) P w K mg base N qual scope f cd A outer s₀ H₀ E).A (.compLoop (.ListComp elt [⟨target,iter,[],0⟩] sc pos) 0 (.ref it) (.ref s2.heap.objs.size) (compEnvC sc (adI (cxOf (CX1 P w) P w K mg base N qual scope f cd A outer s₀ H₀ E).env sc.names []) (s2.heap.push { cls:=.type "list",data:=.seq ([]:List Value).toArray }).objs.size (cxOf (CX1 P w) P w K mg base N qual scope f cd A outer s₀ H₀ E).env))
   (agv u (model (cxOf (CX1 P w) P w K mg base N qual scope f cd A outer s₀ H₀ E).prog (cxOf (CX1 P w) P w K mg base N qual scope f cd A outer s₀ H₀ E).w) (cxOf (CX1 P w) P w K mg base N qual scope f cd A outer s₀ H₀ E).A (cxOf (CX1 P w) P w K mg base N qual scope f cd A outer s₀ H₀ E).xe Qf (.ref s2.heap.objs.size) (compEnvC sc (adI (cxOf (CX1 P w) P w K mg base N qual scope f cd A outer s₀ H₀ E).env sc.names []) (s2.heap.push { cls:=.type "list",data:=.seq ([]:List Value).toArray }).objs.size (cxOf (CX1 P w) P w K mg base N qual scope f cd A outer s₀ H₀ E).env)) { s2 with heap:=h4,toks:=s2.toks+([]:List (Str × Value)).length }:=by
  obtain ⟨W,⟨m0,w0⟩,turn⟩:=hW s2.heap.objs.size hD
  refine ajc (fun n s'=>∃ i σ' H' ys,Inv (aba (cxOf (CX1 P w) P w K mg base N qual scope f cd A outer s₀ H₀ E) sc (cmpN own cap) (s2.heap.push { cls:=.type "list",data:=.seq ([]:List Value).toArray }).objs.size { s2 with heap:=s2.heap.push { cls:=.type "list",data:=.seq ([]:List Value).toArray },toks:=s2.toks } (upd H2 s2.heap.objs.size (.lst [])) fp) [] σ' H' s'∧tn i s'.heap∧(∀ b∈fp,H' b=none)∧W i n σ' H' ys) ?_ m0
   ⟨0,_,_,[],J0,st4,fr0,w0⟩
  rintro n s5 ⟨i,σ5,H5,ys,I5,st5,fr5,w5⟩
  obtain ⟨hD5,w5⟩:=turn i n σ5 H5 ys w5
  rcases w5 with ⟨stop,qn⟩ | ⟨go,hlt,step⟩
  ·refine thn (T.done (aba (cxOf (CX1 P w) P w K mg base N qual scope f cd A outer s₀ H₀ E) sc (cmpN own cap) (s2.heap.push { cls:=.type "list",data:=.seq ([]:List Value).toArray }).objs.size { s2 with heap:=s2.heap.push { cls:=.type "list",data:=.seq ([]:List Value).toArray },toks:=s2.toks } (upd H2 s2.heap.objs.size (.lst [])) fp) rfl rfl rfl hc i [] s5 σ5 H5 _ I5 (stat fr5) st5 stop) fun r s6 ⟨hr,I6⟩=>?_
   subst hr
   obtain ⟨m,hn,_⟩:=id I6.loc
   exact fin _ _ s6 H5 m (I2.uncmp (s3:={ s2 with heap:=s2.heap.push { cls:=.type "list",data:=.seq ([]:List Value).toArray },toks:=s2.toks }) f2 un rfl I6) (I3.fpOk (Nat.le_refl _) I6.free) hn qn
  ·refine thn (T.item (aba (cxOf (CX1 P w) P w K mg base N qual scope f cd A outer s₀ H₀ E) sc (cmpN own cap) (s2.heap.push { cls:=.type "list",data:=.seq ([]:List Value).toArray }).objs.size { s2 with heap:=s2.heap.push { cls:=.type "list",data:=.seq ([]:List Value).toArray },toks:=s2.toks } (upd H2 s2.heap.objs.size (.lst [])) fp) rfl rfl rfl hc i [] s5 σ5 H5 _ I5 (stat fr5) st5 go) fun r s6 ⟨u,hr,h6⟩=>?_
   subst hr
   refine thn h6 fun _ s7 ⟨x,H7,I7,r7,y7,st7,fr7⟩=>?_
   have I7':=I7.pinned (stat fr7) (T.obj _ _ st7)
   refine thn (hg _ _ _ _ _ s7 σ5 H7 x u _ I7' r7 (step x H7 y7)) fun _ s8 ⟨σ8,H8,I8,q8⟩=>?_
   refine thn (he _ _ _ _ _ (an3 (Qf:=Qf) (acc:=.ref s2.heap.objs.size) (s3:={ s2 with heap:=s2.heap.push { cls:=.type "list",data:=.seq ([]:List Value).toArray },toks:=s2.toks }) I2 f2 un rfl (fun H hH=>I3.fpOk (Nat.le_refl _) hH) hCf hC0) _ s8 σ8 H8 _ (I8.wish _) q8) fun v9 s9 ⟨y,H9,I9,r9,hD9,m',hm,w9⟩=>?_
   have I9:=I9.unwish
   refine thn (adZ _ s9 σ8 H9 (.ref s2.heap.objs.size) [y] (.ref s2.heap.objs.size) [v9] (fun _ H'=>H'=upd H9 s2.heap.objs.size (.lst (ys++[y]))) I9 rfl (.cons r9 .nil) ⟨_,ys,y,rfl,rfl,hD9,hlt,rfl⟩) fun _ s10 ⟨_,H10,I10,_,q10⟩=>?_
   subst q10
   refine ⟨m',hm,i+1,σ8,_,_,I10.unpinned,T.keep _ _ _ st7 fun b hb o q=>(I10.pin (b,o) (List.mem_append_right _ (List.mem_append_right _ (ab1 hb q)))).1,fun b hb=>?_,w9⟩
   obtain ⟨o,q,d⟩:=T.obj _ _ st7 b hb
   exact (I10.pin (b,o) (List.mem_append_right _ (List.mem_append_right _ (ab1 hb q)))).2.1
 exact codeAny_compStart_list loop (T.self _ 0 _ _ _ st4 loop)
theorem akL {i:Nat} {x:Str} {py spos:Pos} (hN:N.Nodup) (hx:N[i]?=some x) (hl:Loc (cxOf (CX1 P w) P w K mg base N qual scope f cd A outer s₀ H₀ E).env.scope x) (k:adH (cxOf (CX1 P w) P w K mg base N qual scope f cd A outer s₀ H₀ E) sc own cap) (hi:PI (cxOf (CX1 P w) P w K mg base N qual scope f cd A outer s₀ H₀ E) target iter wi) (hc:(cxOf (CX1 P w) P w K mg base N qual scope f cd A outer s₀ H₀ E).calm=true)
  (hg:∀ C s₁ H₁ ex,PG (aba (cxOf (CX1 P w) P w K mg base N qual scope f cd A outer s₀ H₀ E) sc (cmpN own cap) C s₁ H₁ ex) target g) (he:∀ C s₁ H₁ ex E',ac7 (CX1 P w) ((aba (cxOf (CX1 P w) P w K mg base N qual scope f cd A outer s₀ H₀ E) sc (cmpN own cap) C s₁ H₁ ex).wish E') E→PE ((aba (cxOf (CX1 P w) P w K mg base N qual scope f cd A outer s₀ H₀ E) sc (cmpN own cap) C s₁ H₁ ex).wish E') elt te)
  (hs:∀ x,foldedSetIterable iter (cxOf (CX1 P w) P w K mg base N qual scope f cd A outer s₀ H₀ E).env x=pure x:=by intro _; rfl) (hsw:swapsWith (.ListComp elt [⟨target,iter,[],0⟩] sc pos) (some (.Name x py)) spos.line (cxOf (CX1 P w) P w K mg base N qual scope f cd A outer s₀ H₀ E).env=pure true:=by rfl)
  (hf:(cxOf (CX1 P w) P w K mg base N qual scope f cd A outer s₀ H₀ E).fn x=true∨(cxOf (CX1 P w) P w K mg base N qual scope f cd A outer s₀ H₀ E).env.scope.names.lookup x=some .local:=by first | exact .inl rfl | exact .inr rfl | assumption) :
  PS (cxOf (CX1 P w) P w K mg base N qual scope f cd A outer s₀ H₀ E) (.Assign [.Name x py] (.ListComp elt [⟨target,iter,[],0⟩] sc pos) spos) (tAsg (ahB own cap wi g te) (aks i)):=by
 intro pins s σ H D I h
 rw [exec_Assign_Name_used _ _ _ _ hsw]
 refine wpAny_bind (wpAny_standAt (wpAny_bind ?_))
 show wpAny _ (cxOf (CX1 P w) P w K mg base N qual scope f cd A outer s₀ H₀ E).A (comprehension (.ListComp elt [⟨target,iter,[],0⟩] sc pos) sc (cxOf (CX1 P w) P w K mg base N qual scope f cd A outer s₀ H₀ E).env _ (newList []) false (eval iter (cxOf (CX1 P w) P w K mg base N qual scope f cd A outer s₀ H₀ E).env) (some (assign (.Name x py) (cxOf (CX1 P w) P w K mg base N qual scope f cd A outer s₀ H₀ E).env)) >>= fun _=>pure ()) _ _ s
 refine wpAny_bind (thn (aha (u:=assign (.Name x py) (cxOf (CX1 P w) P w K mg base N qual scope f cd A outer s₀ H₀ E).env) (Qf:=fun _ s'=>SP (cxOf (CX1 P w) P w K mg base N qual scope f cd A outer s₀ H₀ E) pins D .next s') k hi hc hg he I h (fun B C s' H' m I' fC hn q=>?_) hs) fun _ s' hq=>wpAny_pure (wpAny_pure hq))
 show wpAny _ _ (assign (.Name x py) (cxOf (CX1 P w) P w K mg base N qual scope f cd A outer s₀ H₀ E).env (.ref B)) _ _ s'
 obtain ⟨o,es,ep,ho,hd,r⟩:=hn
 obtain ⟨f0,f1,f2,f3,f4,f5⟩:=fC
 have I'':Inv (cxOf (CX1 P w) P w K mg base N qual scope f cd A outer s₀ H₀ E) (pins++[(C,o)]) σ H' s':=I'.pins_of fun p hp=>(List.mem_append.mp hp).elim (fun z=>I'.pin p (List.mem_append_right _ z)) fun z=>by
  have e:p=(C,o):=by simpa using z
  subst e
  exact ⟨ho,f0,f1,f2,fun v z=>by rw [hd] at z; cases z⟩
 refine wpAny_assign_Name (ac1 I'' hN hx hl (v:=.ref B) rfl (fun s2 I2=>?_) hf)
 have pC:=I2.pin (C,o) (by simp)
 refine ⟨m,⟨o,es,ep,pC.1,hd,r⟩,fun h' sb=>⟨_,H',?_,q⟩⟩
 exact (I2.unpinned).turned (t':=s2.toks) (fun b o hb e=>(sb.2 b hb).trans e) f0 f1 f3 f4 f5
end
end L2
namespace L2.Pp
open PySem PySem.Spec PyProof.Rows Bn
section
variable {P:Program} {w:World} {K:PySem.W.Frag} {mg:Str→Option Value} {base:Heap} {N:List Str} {qual:Str} {scope:Scope} {f:Addr} {cd:Value} {A:Around} {outer:List Env} {s₀:Shared} {H₀:Hp} {E:XK} {cl:Str→Addr}
variable {sc:Scope} {own:List Str} {cap:List (Nat × Str)} {elt target iter:Expr} {pos:Pos} {mi:MI} {g:GM} {me:ME}
theorem aj6 {i:Nat} {x:Str} {py spos:Pos} (hN:N.Nodup) (hx:N[i]?=some x) (hl:Loc (cxOf (CX1 P w) P w K mg base N qual scope f cd A outer s₀ H₀ E).env.scope x) (k:adH (cxOf (CX1 P w) P w K mg base N qual scope f cd A outer s₀ H₀ E) sc own cap) (hi:PIp K cl E (cxOf (CX1 P w) P w K mg base N qual scope f cd A outer s₀ H₀ E) target iter mi) (hc:(cxOf (CX1 P w) P w K mg base N qual scope f cd A outer s₀ H₀ E).calm=true) (hg:∀ C s₁ H₁ ex,PGp K (aba (cxOf (CX1 P w) P w K mg base N qual scope f cd A outer s₀ H₀ E) sc (cmpN own cap) C s₁ H₁ ex) target g) (he:∀ C s₁ H₁ ex E',ac7 (CX1 P w) ((aba (cxOf (CX1 P w) P w K mg base N qual scope f cd A outer s₀ H₀ E) sc (cmpN own cap) C s₁ H₁ ex).wish E') E→PEp K cl E ((aba (cxOf (CX1 P w) P w K mg base N qual scope f cd A outer s₀ H₀ E) sc (cmpN own cap) C s₁ H₁ ex).wish E') elt me)
  (hs:∀ x,foldedSetIterable iter (cxOf (CX1 P w) P w K mg base N qual scope f cd A outer s₀ H₀ E).env x=pure x:=by intro _; rfl) (hsw:swapsWith (.ListComp elt [⟨target,iter,[],0⟩] sc pos) (some (.Name x py)) spos.line (cxOf (CX1 P w) P w K mg base N qual scope f cd A outer s₀ H₀ E).env=pure true:=by rfl)
  (hf:(cxOf (CX1 P w) P w K mg base N qual scope f cd A outer s₀ H₀ E).fn x=true∨(cxOf (CX1 P w) P w K mg base N qual scope f cd A outer s₀ H₀ E).env.scope.names.lookup x=some .local:=by first | exact .inl rfl | exact .inr rfl | assumption) :
  PSp K cl E (cxOf (CX1 P w) P w K mg base N qual scope f cd A outer s₀ H₀ E) (.Assign [.Name x py] (.ListComp elt [⟨target,iter,[],0⟩] sc pos) spos) (sSet i (acG own cap mi g me)):=by
 intro hK
 refine PS.imp (akL hN hx hl k (hi hK) hc (fun C s₁ H₁ ex=>hg C s₁ H₁ ex hK) (fun C s₁ H₁ ex E' ps=>he C s₁ H₁ ex E' ps hK) hs hsw hf) fun D σ H ⟨p,S,ρ,s,ev,h⟩=>?_
 have h2:tP K cl E (RepA K) (acG own cap mi g me) σ H fun y H1=>D.nx (σ.set i (some y)) H1:=by
  refine ⟨p,S,ρ,s,ev,?_⟩
  unfold sSet at h
  cases z:acG own cap mi g me ρ S with
  | ok v S1 =>
   rw [z] at h
   exact fun q H' y st sm r=>h q H' _ st sm ((st.repE ev).set r i)
  | exc n S1=>rw [z] at h; exact h
  | fail=>rw [z] at h; exact h
 obtain ⟨p,S,ρ,s,ev,h⟩:=h2
 exact aat s ev h fun q H' xs J S' stp sm ev it kk D hD=>afB sm ev it kk hD
end
end L2.Pp
namespace L2.Pp
open PySem
theorem acp:bootBuiltins "len"=some (.builtin "len"):=by decide +kernel
theorem afL:bootBuiltins "abs"=some (.builtin "abs"):=by decide +kernel
theorem aj5:bootBuiltins "all"=some (.builtin "all"):=by decide +kernel
theorem agJ:bootBuiltins "int"=some (.type "int"):=by decide +kernel
theorem alO:bootBuiltins "bool"=some (.type "bool"):=by decide +kernel
theorem ams:bootBuiltins "list"=some (.type "list"):=by decide +kernel
theorem adM:bootBuiltins "tuple"=some (.type "tuple"):=by decide +kernel
end L2.Pp
set_option Elab.async false
set_option maxRecDepth 100000
set_option maxHeartbeats 4000000
namespace Sc
open PySem L2 Bn L2.Pp
abbrev afM:Stmt:=top 7
abbrev acX:Stmt:=top 8
abbrev acM:Stmt:=top 9
abbrev acw:Stmt:=top 10
abbrev adB:Stmt:=top 12
abbrev ach:Stmt:=top 13
abbrev acf:Stmt:=top 14
abbrev abM:Stmt:=top 18
abbrev aby:Stmt:=top 19
abbrev abw:Stmt:=top 20
abbrev abk:Stmt:=top 21
abbrev abE:Stmt:=top 22
abbrev abL:Stmt:=top 23
abbrev abI:Stmt:=top 24
abbrev afI:Stmt:=top 26
abbrev aee:Stmt:=top 27
abbrev afD:Stmt:=top 28
abbrev acE:Stmt:=top 29
abbrev adq:Stmt:=top 30
abbrev acF:Stmt:=top 31
abbrev aeu:Stmt:=top 32
abbrev acx:Stmt:=top 33
abbrev abt:Stmt:=top 34
abbrev ace:Stmt:=top 35
abbrev abZ:Stmt:=top 36
abbrev abG:Stmt:=top 37
abbrev acy:Stmt:=top 38
abbrev acU:Stmt:=top 39
abbrev ael:Stmt:=top 40
abbrev acv:Stmt:=top 41
abbrev abz:Stmt:=top 42
abbrev adm:Stmt:=top 43
abbrev adj:Stmt:=top 44
abbrev af7:Stmt:=top 45
noncomputable def ajQ:MS:=(sSeq (sIf (mTst (mBin fGt (mVar 0) (mC (.int 0)))) (sRet (mC (.int 1))) sNil)
 (sSeq (sIf (mTst (mBin fLt (mVar 0) (mC (.int 0)))) (sRet (mUn fNeg (mC (.int 1)))) sNil)
 (sRet (mC (.int 0)))))
noncomputable def ad3:FM:=fnM 1 1 ajQ
noncomputable def aeJ:MS:=(sSeq (afi (mTst (mBin fNe (mVar 1) (mC (.int 0)))) (sSeq (sSet 2 (mBin fMod (mVar 0) (mVar 1)))
 (sSeq (sSet 0 (mVar 1))
 (sSet 1 (mVar 2)))))
 (sRet (mR fAbs (aac (mVar 0) mNil))))
noncomputable def ab7:FM:=fnM 2 3 aeJ
noncomputable def aeM:MS:=(sSeq (sSet 1 (mC (.int 0)))
 (sSeq (sFor (mIt (mVar 0)) (gN 2) (sSet 1 (aak ab7 [] (aac (mVar 1) (aac (mVar 2) mNil)))))
 (sRet (aa9 ["number"] [(1,"common")] (mIt (mVar 0)) (gN 0) (mBin act (mVar 0) (mVar 1))))))
noncomputable def acW:FM:=fnM 1 3 aeM
noncomputable def acd:MS:=(sSeq (sIf (mTst (mBin fEq (mVar 1) (mC (.int 0)))) (aeA "NoNumber") sNil)
 (sSeq (sSet 2 (mBin fMul (aak ad3 [] (aac (mVar 1) mNil)) (aak ab7 [] (aac (mVar 0) (aac (mVar 1) mNil)))))
 (sRet (mN fTup (aac (mBin act (mVar 0) (mVar 2)) (aac (mBin act (mVar 1) (mVar 2)) mNil))))))
noncomputable def aaW:FM:=fnM 2 3 acd
noncomputable def aeY:MS:=(sSeq (sIf (mTst (mBin fEq (mVar 1) (mC (.int 0)))) (aeA "NoPoint") sNil)
 (sRet (mR aaj (aac (aa9 ["number"] [(1,"bottom")] (mIt (aak acW [] (aac (mBin fAdd (mR aal (aac (mVar 0) mNil)) (mN fLst (aac (mVar 1) mNil))) mNil))) (gN 0) (mBin fMul (aak ad3 [] (aac (mVar 1) mNil)) (mVar 0))) mNil))))
noncomputable def adF:FM:=fnM 2 2 aeY
noncomputable def aes:MS:=(sRet (mR aaj (aac (aa9 ["number"] [(0,"p")] (mIt (mSl (mVar 0) mO0 (mO1 (mUn fNeg (mC (.int 1)))))) (gN 0) (aaN aaW [] (aac (mVar 0) (aac (mBin fIx (mVar 1) (mUn fNeg (mC (.int 1)))) mNil)))) mNil)))
noncomputable def acg:FM:=fnM 1 1 aes
noncomputable def adr:MS:=(sSeq (sSet 1 (mC (.int 1)))
 (sSeq (sFor (mIt (mVar 0)) (gN 2) (sSet 1 (mBin fMul (mVar 1) (mBin fIx (mVar 2) (mC (.int 1))))))
 (sRet (aaN adF [] (aac (aa9 ["part"] [(1,"bottom")] (mIt (mVar 0)) (gN 0) (mBin fMul (mBin fIx (mVar 0) (mC (.int 0))) (mBin act (mVar 1) (mBin fIx (mVar 0) (mC (.int 1)))))) (aac (mVar 1) mNil))))))
noncomputable def abc:FM:=fnM 1 3 adr
noncomputable def abO:MS:=(sSeq (sIf (mTst (mBin fGe (mR fAbs (aac (mVar 0) mNil)) (mBin fPow (mC (.int 10)) (mC (.int 60))))) (aeA "TooGreat") sNil)
 (sRet (mR fStr (aac (mR fAbs (aac (mVar 0) mNil)) mNil))))
noncomputable def abq:FM:=fnM 1 1 abO
noncomputable def aa2:MS:=(sSeq (sSet 1 (aaN abq [] (aac (mBin fIx (mVar 0) (mC (.int 0))) mNil)))
 (sSeq (sIf (mTst (mBin fLt (mBin fIx (mVar 0) (mC (.int 0))) (mC (.int 0)))) (sSet 1 (mBin abm (mC (.str "-")) (mVar 1))) sNil)
 (sSeq (sIf (mTst (mBin fEq (mBin fIx (mVar 0) (mC (.int 1))) (mC (.int 1)))) (sRet (mVar 1)) sNil)
 (sRet (mBin abm (mBin abm (mVar 1) (mC (.str "/"))) (aaN abq [] (aac (mBin fIx (mVar 0) (mC (.int 1))) mNil)))))))
noncomputable def aaC:FM:=fnM 1 2 aa2
noncomputable def ab8:MS:=(sRet (aeC (mC (.str " ")) (aac (acG ["number"] [] (mIt (aak acg [] (aac (mVar 0) mNil))) (gN 0) (aaN aaC [] (aac (mVar 0) mNil))) mNil)))
noncomputable def aa1:FM:=fnM 1 1 ab8
noncomputable def aaJ:MS:=(sIf (mNot (mTst (mVar 0))) (aeA "NoText") sNil)
noncomputable def aav:FM:=fnM 1 1 aaJ
noncomputable def abX:MS:=(sSeq (abx (aaN aav [] (aac (abR (aeS fLe fLe (mC (.int 1)) (mR acV (aac (mVar 0) mNil)) (mC (.int 60))) (mR fAll (aac (aa9 ["sign"] [] (mItS (mVar 0)) (gN 0) (mBin fInS (mVar 0) (mC (.str "0123456789")))) mNil))) mNil)))
 (sRet (mR aeq (aac (mVar 0) mNil))))
noncomputable def aaE:FM:=fnM 1 1 abX
noncomputable def aaM:MS:=(sSeq (sSet 1 (mMet ack (mVar 0) (aac (mC (.str "/")) mNil)))
 (sSeq (abx (aaN aav [] (aac (mBin fLe (mR fLen (aac (mVar 1) mNil)) (mC (.int 2))) mNil)))
 (sSeq (sSet 2 (mMet acQ (mBin fIx (mVar 1) (mC (.int 0))) (aac (mC (.str "-")) mNil)))
 (sSeq (sSet 3 (aaN aaE [] (aac (mIf (mTst (mVar 2)) (mSlS (mBin fIx (mVar 1) (mC (.int 0))) (mO1 (mC (.int 1))) mO0) (mBin fIx (mVar 1) (mC (.int 0)))) mNil)))
 (sSeq (sSet 4 (mIf (mTst (mBin fEq (mR fLen (aac (mVar 1) mNil)) (mC (.int 2)))) (aaN aaE [] (aac (mBin fIx (mVar 1) (mC (.int 1))) mNil)) (mC (.int 1))))
 (sSeq (abx (aaN aav [] (aac (mBin fNe (mVar 4) (mC (.int 0))) mNil)))
 (sRet (aaN aaW [] (aac (mIf (mTst (mVar 2)) (mUn fNeg (mVar 3)) (mVar 3)) (aac (mVar 4) mNil))))))))))
noncomputable def aaq:FM:=fnM 1 5 aaM
noncomputable def abY:MS:=(sSeq (sSet 1 (acG ["text"] [] (mIt (mMet ack (mVar 0) (aac (mC (.str " ")) mNil))) (gN 0) (aaN aaq [] (aac (mVar 0) mNil))))
 (sSeq (abx (aaN aav [] (aac (mOrV (mBin fEq (mR fLen (aac (mVar 1) mNil)) (mC (.int 2))) (mBin fEq (mR fLen (aac (mVar 1) mNil)) (mC (.int 3)))) mNil)))
 (sRet (aak abc [] (aac (mVar 1) mNil)))))
noncomputable def aaT:FM:=fnM 1 2 abY
noncomputable def aiV:MS:=(sSeq (sSet 1 (mNew mNil))
 (sSeq (sFor (alY (aac (mSl (mVar 0) mO0 (mO1 (mC (.int 63)))) mNil)) (gT 2 (aco (gN 2) (aco (gN 3) ae0))) (sIf (mTst (mBin fGe (mVar 3) (mBin fPow (mC (.int 10)) (mC (.int 18))))) (abx (mApp (mVar 1) (aac (mBin fSub (mVar 3) (mBin fPow (mC (.int 10)) (mC (.int 18)))) mNil))) (sSeq (sSet 4 (mBin fMod (mBin fMul (mBin fAdd (mBin fAdd (mBin fAdd (mVar 3) (mBin fMul (mBin fMul (mC (.int 7)) (mVar 2)) (mVar 2))) (mBin fMul (mC (.int 13)) (mVar 2))) (mC (.int 5))) (mC (.int 48271))) (mC (.int 2147483647))))
 (sSeq (sSet 5 (mBin fMod (mBin fMul (mBin fAdd (mBin fAdd (mBin fAdd (mVar 3) (mBin fMul (mBin fMul (mC (.int 11)) (mVar 2)) (mVar 2))) (mBin fMul (mC (.int 17)) (mVar 2))) (mC (.int 3))) (mC (.int 40692))) (mC (.int 2147483399))))
 (sSeq (sSet 6 (mBin fMod (mBin fMul (mBin fAdd (mBin fAdd (mBin fAdd (mVar 3) (mBin fMul (mBin fMul (mC (.int 5)) (mVar 2)) (mVar 2))) (mBin fMul (mC (.int 29)) (mVar 2))) (mC (.int 8))) (mC (.int 39373))) (mC (.int 2147483587))))
 (sSeq (sSet 4 (mBin fMod (mBin fMul (mVar 4) (mC (.int 52021))) (mC (.int 1000000007))))
 (sSeq (sSet 5 (mBin fMod (mBin fMul (mVar 5) (mC (.int 30011))) (mC (.int 998244353))))
 (sSeq (sSet 6 (mBin fMod (mBin fMul (mVar 6) (mC (.int 45989))) (mC (.int 1000000009))))
 (abx (mApp (mVar 1) (aac (mBin fAdd (mBin fMul (mBin fAdd (mBin fMul (mVar 4) (mC (.int 998244353))) (mVar 5)) (mC (.int 1000000009))) (mVar 6)) mNil)))))))))))
 (sRet (mVar 1))))
noncomputable def aeU:FM:=fnM 1 7 aiV
noncomputable def af5:MS:=(sSeq (afi (mAnd (mTst (mBin fGt (mR fLen (aac (mVar 0) mNil)) (mC (.int 0)))) (mTst (mBin fEq (mBin fIx (mVar 0) (mC (.int 0))) (mC (.int 0))))) (abx (mPop (mVar 0) (aac (mC (.int 0)) mNil))))
 (sSeq (sIf (mTst (mBin fEq (mR fLen (aac (mVar 0) mNil)) (mC (.int 0)))) (sRet (mC (.int 0))) sNil)
 (sSeq (sSet 2 (mBin fMod (mBin fIx (mVar 0) (mC (.int 0))) (mVar 1)))
 (sSeq (akj (mVar 0) (mC (.int 0)) (mBin act (mBin fIx (mVar 0) (mC (.int 0))) (mVar 1)))
 (sRet (mVar 2))))))
noncomputable def aax:FM:=fnM 2 3 af5
noncomputable def aj4:MS:=(sSeq (sSet 0 (mR fAbs (aac (mVar 0) mNil)))
 (sSeq (sSet 1 (mR fAbs (aac (mVar 1) mNil)))
 (sSeq (afi (mTst (mBin fGt (mVar 1) (mC (.int 0)))) (sPar 0 1 (aac (mVar 1) (aac (mBin fMod (mVar 0) (mVar 1)) mNil))))
 (sRet (mVar 0)))))
noncomputable def afl:FM:=fnM 2 2 aj4
noncomputable def ae8:MS:=(sSeq (sSet 1 (mC (.int 0)))
 (sSeq (sFor (mIt (mVar 0)) (gN 2) (sSet 1 (aak afl [] (aac (mVar 1) (aac (mVar 2) mNil)))))
 (sSeq (sIf (mTst (mBin fEq (mVar 1) (mC (.int 0)))) (sRet (mR aaj (aac (mVar 0) mNil))) sNil)
 (sRet (mR aaj (aac (aa9 ["_law_number"] [(1,"_law_by")] (mIt (mVar 0)) (gN 0) (mBin act (mVar 0) (mVar 1))) mNil))))))
noncomputable def aaZ:FM:=fnM 1 3 ae8
noncomputable def afZ:MS:=(sRet (abR (mUn (fIsi "int") (mVar 0)) (mUn fNot (mUn (fIsi "bool") (mVar 0)))))
noncomputable def ac2:FM:=fnM 1 1 afZ
noncomputable def aeR:MS:=(sSeq (sIf (mOr (mNot (mTst (mUn (fIsi "tuple") (mVar 0)))) (mTst (mBin fNe (mR fLen (aac (mVar 0) mNil)) (mVar 1)))) (sRet (mC (.bl false))) sNil)
 (sRet (mR fAll (aac (aa9 ["_law_number"] [] (mIt (mVar 0)) (gN 0) (aak ac2 [] (aac (mVar 0) mNil))) mNil))))
noncomputable def abH:FM:=fnM 2 2 aeR
noncomputable def ahm:MS:=(sSeq (sIf (mTst (mBin fLt (mVar 1) (mC (.int 0)))) (sRet (aak aaZ [] (aac (mN fLst (aac (mBin fSub (mC (.int 0)) (mVar 0)) (aac (mBin fSub (mC (.int 0)) (mVar 1)) mNil))) mNil))) sNil)
 (sRet (aak aaZ [] (aac (mN fLst (aac (mVar 0) (aac (mVar 1) mNil))) mNil))))
noncomputable def aci:FM:=fnM 2 2 ahm
noncomputable def aek:MS:=(sSeq (sAsg (gT 2 (aco (gN 0) (aco (gN 1) ae0))) (aak aci [] (aac (mVar 0) (aac (mVar 1) mNil))))
 (sSeq (sIf (mOr (mTst (mBin fGe (mR fAbs (aac (mVar 0) mNil)) (mBin fPow (mC (.int 10)) (mC (.int 60))))) (mTst (mBin fGe (mVar 1) (mBin fPow (mC (.int 10)) (mC (.int 60)))))) (sRet (mC .non)) sNil)
 (sSeq (sIf (mTst (mBin fEq (mVar 1) (mC (.int 1)))) (sRet (mR fStr (aac (mVar 0) mNil))) sNil)
 (sRet (mBin abm (mBin abm (mR fStr (aac (mVar 0) mNil)) (mC (.str "/"))) (mR fStr (aac (mVar 1) mNil)))))))
noncomputable def abb:FM:=fnM 2 2 aek
noncomputable def ac0:MS:=(sSeq (sSet 1 (aa9 ["_law_number"] [(0,"_law_p")] (mIt (mSl (mVar 0) mO0 (mO1 (mUn fNeg (mC (.int 1)))))) (gN 0) (aak abb [] (aac (mVar 0) (aac (mBin fIx (mVar 1) (mUn fNeg (mC (.int 1)))) mNil)))))
 (sSeq (sIf (mTst (mBin fInN (mC .non) (mVar 1))) (sRet (mC .non)) sNil)
 (sRet (aeC (mC (.str " ")) (aac (mVar 1) mNil)))))
noncomputable def abg:FM:=fnM 1 2 ac0
noncomputable def aet:MS:=(sSeq (sIf (mOr (mTst (mBin fLt (mR acV (aac (mVar 0) mNil)) (mC (.int 1)))) (mTst (mBin fGt (mR acV (aac (mVar 0) mNil)) (mC (.int 60))))) (sRet (mC (.bl false))) sNil)
 (sRet (mR fAll (aac (aa9 ["_law_sign"] [] (mItS (mVar 0)) (gN 0) (mBin fInS (mVar 0) (mC (.str "0123456789")))) mNil))))
noncomputable def abe:FM:=fnM 1 1 aet
noncomputable def acO:MS:=(sSeq (sSet 1 (mC (.int 1)))
 (sSeq (sIf (mTst (mBin fEq (mSlS (mVar 0) mO0 (mO1 (mC (.int 1)))) (mC (.str "-")))) (sSeq (sSet 1 (mUn fNeg (mC (.int 1))))
 (sSet 0 (mSlS (mVar 0) (mO1 (mC (.int 1))) mO0))) sNil)
 (sSeq (sSet 2 (mC (.str "1")))
 (sSeq (sSet 3 (mMet ahr (mVar 0) (aac (mC (.str "/")) mNil)))
 (sSeq (sIf (mTst (mBin fGe (mVar 3) (mC (.int 0)))) (sSeq (sSet 2 (mSlS (mVar 0) (mO1 (mBin fAdd (mVar 3) (mC (.int 1)))) mO0))
 (sSet 0 (mSlS (mVar 0) mO0 (mO1 (mVar 3))))) sNil)
 (sSeq (sIf (mOr (mNot (mTst (aak abe [] (aac (mVar 0) mNil)))) (mNot (mTst (aak abe [] (aac (mVar 2) mNil))))) (sRet (mC .non)) sNil)
 (sSeq (sIf (mTst (mBin fEq (mR aeq (aac (mVar 2) mNil)) (mC (.int 0)))) (sRet (mC .non)) sNil)
 (sRet (aak aci [] (aac (mBin fMul (mVar 1) (mR aeq (aac (mVar 0) mNil))) (aac (mR aeq (aac (mVar 2) mNil)) mNil)))))))))))
noncomputable def aaF:FM:=fnM 1 4 acO
noncomputable def adE:MS:=(sSeq (sSet 1 (mMet ack (mVar 0) (aac (mC (.str " ")) mNil)))
 (sSeq (sIf (mAnd (mTst (mBin fNe (mR fLen (aac (mVar 1) mNil)) (mC (.int 2)))) (mTst (mBin fNe (mR fLen (aac (mVar 1) mNil)) (mC (.int 3))))) (sRet (mC .non)) sNil)
 (sSeq (sSet 2 (aa9 ["_law_word"] [] (mIt (mVar 1)) (gN 0) (aak aaF [] (aac (mVar 0) mNil))))
 (sSeq (sIf (mTst (mBin fInN (mC .non) (mVar 2))) (sRet (mC .non)) sNil)
 (sSeq (sSet 3 (mC (.int 1)))
 (sSeq (sFor (mIt (mVar 2)) (gN 4) (sSet 3 (mBin fMul (mVar 3) (mBin fIx (mVar 4) (mC (.int 1))))))
 (sRet (aak aaZ [] (aac (mBin fAdd (aa9 ["_law_number"] [(3,"_law_under")] (mIt (mVar 2)) (gN 0) (mBin fMul (mBin fIx (mVar 0) (mC (.int 0))) (mBin act (mVar 1) (mBin fIx (mVar 0) (mC (.int 1)))))) (mN fLst (aac (mVar 3) mNil))) mNil)))))))))
noncomputable def aa8:FM:=fnM 1 5 adE
noncomputable def aep:MS:=(sSeq (sSet 1 (mC (.str " ,+/-0123456789nonepushturnby")))
 (sSeq (sIf (mTst (mBin fEq (aak aax [] (aac (mVar 0) (aac (mC (.int 2)) mNil))) (mC (.int 0)))) (sRet (mBin fIxS (mVar 1) (aak aax [] (aac (mVar 0) (aac (mR acV (aac (mVar 1) mNil)) mNil))))) sNil)
 (sSeq (sSet 2 (mC (.str " !\"#$&'()*+,-./0123456789:;<=>?@ABCDEFGHIJKLMNOPQRSTUVWXYZ[\\]^_`abcdefghijklmnopqrstuvwxyz{|}~")))
 (sRet (mBin fIxS (mVar 2) (aak aax [] (aac (mVar 0) (aac (mR acV (aac (mVar 2) mNil)) mNil))))))))
noncomputable def acu:FM:=fnM 1 3 aep
noncomputable def aeP:MS:=(sSeq (sSet 2 (aak aax [] (aac (mVar 0) (aac (mC (.int 6)) mNil))))
 (sSeq (sIf (mTst (mBin fGt (mVar 2) (mC (.int 2)))) (sRet (mVar 1)) sNil)
 (sSeq (sSet 3 (aak aax [] (aac (mVar 0) (aac (mBin fAdd (mR acV (aac (mVar 1) mNil)) (mC (.int 1))) mNil))))
 (sSeq (sSet 4 (aak acu [] (aac (mVar 0) mNil)))
 (sSeq (sIf (mTst (mBin fEq (mVar 2) (mC (.int 0)))) (sRet (mBin abm (mBin abm (mSlS (mVar 1) mO0 (mO1 (mVar 3))) (mVar 4)) (mSlS (mVar 1) (mO1 (mVar 3)) mO0))) sNil)
 (sSeq (sIf (mTst (mBin fEq (mVar 2) (mC (.int 1)))) (sRet (mBin abm (mSlS (mVar 1) mO0 (mO1 (mVar 3))) (mSlS (mVar 1) (mO1 (mBin fAdd (mVar 3) (mC (.int 1)))) mO0))) sNil)
 (sRet (mBin abm (mBin abm (mSlS (mVar 1) mO0 (mO1 (mVar 3))) (mVar 4)) (mSlS (mVar 1) (mO1 (mBin fAdd (mVar 3) (mC (.int 1)))) mO0)))))))))
noncomputable def acC:FM:=fnM 2 5 aeP
noncomputable def ahp:MS:=(sSeq (sSet 1 (mC (.int 1)))
 (sSeq (sFor (acJ (aac (mVar 0) mNil)) (gN 2) (sSet 1 (mBin fMul (mVar 1) (mC (.int 10)))))
 (sRet (mVar 1))))
noncomputable def aen:FM:=fnM 1 3 ahp
noncomputable def ado:MS:=(sSeq (sSet 1 (mBin fAdd (mC (.int 1)) (aak aax [] (aac (mVar 0) (aac (mC (.int 4)) mNil)))))
 (sSeq (sIf (mTst (mBin fEq (aak aax [] (aac (mVar 0) (aac (mC (.int 4)) mNil))) (mC (.int 3)))) (sSet 1 (mBin fAdd (mC (.int 59)) (aak aax [] (aac (mVar 0) (aac (mC (.int 3)) mNil))))) sNil)
 (sRet (mMet agM (mR fStr (aac (aak aax [] (aac (mVar 0) (aac (aak aen [] (aac (mVar 1) mNil)) mNil))) mNil)) (aac (mVar 1) mNil)))))
noncomputable def abd:FM:=fnM 1 2 ado
noncomputable def acR:MS:=(sSeq (sSet 1 (aak abd [] (aac (mVar 0) mNil)))
 (sSeq (sSet 2 (aak aax [] (aac (mVar 0) (aac (mC (.int 6)) mNil))))
 (sSeq (sIf (mOr (mTst (mBin fEq (mVar 2) (mC (.int 0)))) (mTst (mBin fEq (mVar 2) (mC (.int 1))))) (sSet 1 (mBin abm (mBin abm (mVar 1) (mC (.str "/"))) (aak abd [] (aac (mVar 0) mNil)))) sNil)
 (sSeq (sIf (mTst (mBin fEq (mVar 2) (mC (.int 2)))) (sSet 1 (mBin abm (mBin abm (mVar 1) (mC (.str "/"))) (mR fStr (aac (mBin fAdd (mC (.int 1)) (aak aax [] (aac (mVar 0) (aac (mC (.int 12)) mNil)))) mNil)))) sNil)
 (sSeq (sIf (mTst (mBin fEq (aak aax [] (aac (mVar 0) (aac (mC (.int 3)) mNil))) (mC (.int 2)))) (sSet 1 (mBin abm (mC (.str "-")) (mVar 1))) sNil)
 (sRet (mVar 1)))))))
noncomputable def aaR:FM:=fnM 1 3 acR
noncomputable def aeG:MS:=(sSeq (sSet 1 (mC .non))
 (sSeq (agf (agi (mC (.str "told")) (adS aaT [] (aac (mVar 0) mNil))) "NoText" 2 1 (fun ρ=>(ρ.set 1 (some (.pv (.tup [.str "refused",.non]))))))
 (sRet (mVar 1))))
noncomputable def abK:FM:=fnM 1 2 aeG
noncomputable def ahx:MS:=(sSeq (sSet 1 (mBin fAdd (mC (.int 2)) (aak aax [] (aac (mVar 0) (aac (mC (.int 2)) mNil)))))
 (sSeq (sSet 2 (mBin fIx (mN fLst (aac (mC (.int 9)) (aac (mBin fPow (mC (.int 10)) (mC (.int 20))) (aac (mBin fPow (mC (.int 10)) (mC (.int 61))) mNil)))) (aak aax [] (aac (mVar 0) (aac (mC (.int 3)) mNil)))))
 (sSeq (sSet 3 (mBin fAdd (mC (.int 1)) (aak aax [] (aac (mVar 0) (aac (mBin fIx (mN fLst (aac (mC (.int 1)) (aac (mC (.int 12)) (aac (mBin fPow (mC (.int 10)) (mC (.int 6))) mNil)))) (aak aax [] (aac (mVar 0) (aac (mC (.int 3)) mNil)))) mNil)))))
 (sSeq (sSet 4 (aak aaZ [] (aac (mBin fAdd (aa9 ["_law_k"] [(2,"_law_wide"),(0,"_law_row_here")] (acJ (aac (mVar 1) mNil)) (gN 0) (mBin fSub (aak aax [] (aac (mVar 2) (aac (mBin fAdd (mBin fMul (mC (.int 2)) (mVar 1)) (mC (.int 1))) mNil))) (mVar 1))) (mN fLst (aac (mVar 3) mNil))) mNil)))
 (sSeq (sSet 5 (aak abg [] (aac (mVar 4) mNil)))
 (sSeq (sSet 6 (mC .non))
 (sSeq (agf (agi (mC (.str "told")) (adS aa1 [] (aac (mVar 4) mNil))) "TooGreat" 10 6 (fun ρ=>(ρ.set 6 (some (.pv (.tup [.str "refused",.non]))))))
 (sSeq (sIf (mAnd (mTst (mUn fIsN (mVar 5))) (mTst (mBin fNe (mVar 6) (mN fTup (aac (mC (.str "refused")) (aac (mC .non) mNil)))))) (sRet (mC (.bl false))) sNil)
 (sSeq (sIf (mTst (mUn fNoN (mVar 5))) (sSeq (sIf (mOr (mTst (mBin fNe (mBin fIx (mVar 6) (mC (.int 0))) (mC (.str "told")))) (mOr (mNot (mTst (mUn (fIsi "str") (mBin fIx (mVar 6) (mC (.int 1)))))) (mTst (mBin fNe (mBin fIx (mVar 6) (mC (.int 1))) (mVar 5))))) (sRet (mC (.bl false))) sNil)
 (sSeq (sSet 7 (aak abK [] (aac (mVar 5) mNil)))
 (sIf (mOr (mTst (mBin fNe (mBin fIx (mVar 7) (mC (.int 0))) (mC (.str "told")))) (mOr (mNot (mTst (aak abH [] (aac (mBin fIx (mVar 7) (mC (.int 1))) (aac (mBin fAdd (mVar 1) (mC (.int 1))) mNil))))) (mTst (mBin fNe (mBin fIx (mVar 7) (mC (.int 1))) (mVar 4))))) (sRet (mC (.bl false))) sNil))) sNil)
 (sSeq (sSet 8 (aa9 ["_law_k"] [(0,"_law_row_here")] (acJ (aac (mBin fIx (mN fLst (aac (mC (.int 2)) (aac (mC (.int 3)) (aac (mC (.int 2)) (aac (mC (.int 3)) (aac (mC (.int 1)) (aac (mC (.int 4)) mNil))))))) (aak aax [] (aac (mVar 0) (aac (mC (.int 6)) mNil)))) mNil)) (gN 0) (aak aaR [] (aac (mVar 1) mNil))))
 (sSeq (sSet 9 (aak acC [] (aac (mVar 0) (aac (aeC (mC (.str " ")) (aac (mVar 8) mNil)) mNil))))
 (sSeq (sSet 5 (aak aa8 [] (aac (mVar 9) mNil)))
 (sSeq (sSet 6 (aak abK [] (aac (mVar 9) mNil)))
 (sSeq (sIf (mTst (mUn fIsN (mVar 5))) (sRet (mBin fEq (mVar 6) (mN fTup (aac (mC (.str "refused")) (aac (mC .non) mNil))))) sNil)
 (sRet (abR (mBin fEq (mBin fIx (mVar 6) (mC (.int 0))) (mC (.str "told"))) (abR (aak abH [] (aac (mBin fIx (mVar 6) (mC (.int 1))) (aac (mR fLen (aac (mVar 5) mNil)) mNil))) (mBin fEq (mBin fIx (mVar 6) (mC (.int 1))) (mVar 5)))))))))))))))))))
noncomputable def adA:FM:=fnM 1 10 ahx
noncomputable def amC:MS:=(sSeq (sSet 1 (abo aeU [] (aac (mVar 0) mNil)))
 (sRet (abR (aak adA [] (aac (mVar 1) mNil)) (aak adA [] (aac (mVar 1) mNil)))))
noncomputable def amI:FM:=fnM 1 2 amC
section
variable {P:Program} {w:World} {K:PySem.W.Frag} {mg:Str→Option Value} {base:Heap} {cl:Str→Addr}
theorem ajM:aaD ["number"] ["number"] (aae afM):=⟨rfl,rfl,rfl,by decide +kernel,rfl,by decide +kernel,by decide +kernel⟩
theorem alM {f:Addr} {fd:FuncData} (F:Fun K "sign" "sign" afM f fd)
  : FnOk P w K mg base CX0 1 f fd ["number"] (spP0 K cl ad3):=by
 have nd:=ajM.nd
 refine okP (np:=1) (n:=1) F ajM (by decide) (by decide) (b:=ajQ) (k:=0) fun cdv A outer s H E hr=>?_
 exact (aad (aaQ (aaB ai6 s_gt (aab 0) aah (aaH _)) (aai (aau aah)) aaA)
   (aad (aaQ (aaB akT s_lt (aab 0) aah (aaH _)) (aai (aau (ahD ae1 ahq aah))) aaA)
   (aai (aau aah))))
theorem afG:aaD ["one","other","rest"] ["one","other"] (aae acX):=⟨rfl,rfl,rfl,by decide +kernel,rfl,by decide +kernel,by decide +kernel⟩
theorem aiw {f:Addr} {fd:FuncData} (F:Fun K "divisor" "divisor" acX f fd)
  (m_abs:mg "abs"=none)
  : FnOk P w K mg base CX0 1 f fd ["one","other"] (spP0 K cl ab7):=by
 have nd:=afG.nd
 refine okP (np:=2) (n:=3) F afG (by decide) (by decide) (b:=aeJ) (k:=0) fun cdv A outer s H E hr=>?_
 exact (aad (aeX PassesOwn.never (aaB (adu (hu8 hr)) s_ne (aab 1) aah (aaH _)) (aad (aas (i:=2) nd rfl (Or.inl rfl) (aay ac3 age (aab 0) (aab 1)))
   (aad (aas (i:=0) nd rfl (Or.inl rfl) (aab 1))
   (aai (aas (i:=1) nd rfl (Or.inl rfl) (aab 2))))))
   (aai (aau (aaK adl aiJ rfl m_abs afL (aaa (aab 0) aaf)))))
theorem afF:aaD ["numbers","common","number"] ["numbers"] (aae acM):=⟨rfl,rfl,rfl,by decide +kernel,rfl,by decide +kernel,by decide +kernel⟩
theorem aiN {f:Addr} {fd:FuncData} (F:Fun K "reduced" "reduced" acM f fd)
  (C_divisor:Cal P w K mg base cl "divisor" 1 ["one","other"] ab7)
  : FnOk P w K mg base CX0 2 f fd ["numbers"] (spP0 K cl acW):=by
 have nd:=afF.nd
 refine okP (np:=1) (n:=3) F afF (by decide) (by decide) (b:=aeM) (k:=1) fun cdv A outer s H E hr=>?_
 exact (aad (aas (i:=1) nd rfl (Or.inr rfl) aah)
   (aad (aec PassesOwn.never rfl (abS (aab 0)) (aaL (i:=2) nd rfl (Or.inl rfl)) (aai (aas (i:=1) nd rfl (Or.inr rfl) (aaY C_divisor hr (by decide) rfl (aaa (aab 1) (aaa (aab 2) aaf))))))
   (aai (aau (acT (own:=["number"]) (cap:=[(1,"common")]) (acz (aae acM) ["numbers","common","number"] rfl rfl rfl (by decide +kernel) (by decide +kernel) (by decide +kernel) (by decide +kernel) (by decide +kernel)) (abS (aab 0)) rfl (fun _ _ _ _=>(aaL (i:=0) (show (cmpN ["number"] [(1,"common")]).Nodup by decide +kernel) rfl (Or.inl rfl) (Or.inr rfl))) (fun _ _ _ _=>(aay ac4 aeZ (aab 0) (aab 1))))))))
theorem aeK:aaD ["top","bottom","common"] ["top","bottom"] (aae acw):=⟨rfl,rfl,rfl,by decide +kernel,rfl,by decide +kernel,by decide +kernel⟩
theorem ahk {f:Addr} {fd:FuncData} {dsv:Array Value} (F:FunD K "fraction" "fraction" acw f fd dsv)
  (C_sign:Cal P w K mg base cl "sign" 1 ["number"] ad3)
  (C_divisor:Cal P w K mg base cl "divisor" 1 ["one","other"] ab7)
  (q_NoNumber:mg "NoNumber"=some (.ref (cl "NoNumber"))) (x_NoNumber:PySem.W.excIn K (cl "NoNumber") acb "ValueError.__new__"=true)
  : FnOk P w K mg base (CX1 P w) 2 f fd ["top","bottom"] (spP K cl aaW):=by
 have nd:=aeK.nd
 refine okXD (np:=2) (n:=3) F aeK (by decide) (by decide) (b:=acd) (k:=1) fun cdv A outer s H E hr=>?_
 exact (aad (aaQ (aaB (abF (hu8 hr)) s_eq (aab 1) aah (aaH _)) (aai (adL rfl q_NoNumber x_NoNumber)) aaA)
   (aad (aas (i:=2) nd rfl (Or.inl rfl) (aay aaU acl (aaY C_sign hr (by decide) rfl (aaa (aab 1) aaf)) (aaY C_divisor hr (by decide) rfl (aaa (aab 0) (aaa (aab 1) aaf)))))
   (aai (aau (akg (aaa (aay ac4 aeZ (aab 0) (aab 2)) (aaa (aay ac4 aeZ (aab 1) (aab 2)) aaf)))))))
theorem ahV:aaD ["numbers","bottom"] ["numbers","bottom"] (aae adB):=⟨rfl,rfl,rfl,by decide +kernel,rfl,by decide +kernel,by decide +kernel⟩
theorem akJ {f:Addr} {fd:FuncData} {dsv:Array Value} (F:FunD K "point" "point" adB f fd dsv)
  (C_reduced:Cal P w K mg base cl "reduced" 2 ["numbers"] acW)
  (C_sign:Cal P w K mg base cl "sign" 1 ["number"] ad3)
  (m_list:mg "list"=none)
  (m_tuple:mg "tuple"=none)
  (q_NoPoint:mg "NoPoint"=some (.ref (cl "NoPoint"))) (x_NoPoint:PySem.W.excIn K (cl "NoPoint") acb "ValueError.__new__"=true)
  : FnOk P w K mg base (CX1 P w) 3 f fd ["numbers","bottom"] (spP K cl adF):=by
 have nd:=ahV.nd
 refine okXD (np:=2) (n:=2) F ahV (by decide) (by decide) (b:=aeY) (k:=2) fun cdv A outer s H E hr=>?_
 exact (aad (aaQ (aaB (abF (hu8 hr)) s_eq (aab 1) aah (aaH _)) (aai (adL rfl q_NoPoint x_NoPoint)) aaA)
   (aai (aau (aa7 acq af8 rfl m_tuple adM (aaa (acT (own:=["number"]) (cap:=[(1,"bottom")]) (acz (aae adB) ["numbers","bottom"] rfl rfl rfl (by decide +kernel) (by decide +kernel) (by decide +kernel) (by decide +kernel) (by decide +kernel)) (abS (aaY C_reduced hr (by decide) rfl (aaa (aay aaX acm (aa7 agp aml rfl m_list ams (aaa (aab 0) aaf)) (aex (aaa (aab 1) aaf))) aaf))) rfl (fun _ _ _ _=>(aaL (i:=0) (show (cmpN ["number"] [(1,"bottom")]).Nodup by decide +kernel) rfl (Or.inl rfl) (Or.inr rfl))) (fun _ _ _ _=>(aay aaU acl (aaY C_sign hr (by decide) rfl (aaa (aab 1) aaf)) (aab 0)))) aaf)))))
theorem afn:aaD ["p"] ["p"] (aae ach):=⟨rfl,rfl,rfl,by decide +kernel,rfl,by decide +kernel,by decide +kernel⟩
theorem ahh {f:Addr} {fd:FuncData} (F:Fun K "measures" "measures" ach f fd)
  {a_fraction:Addr} {d_fraction:FuncData}
  (G_fraction:FnOk P w K mg base CX0 2 a_fraction d_fraction ["top","bottom"] (spP0 K cl aaW)) (acd:ab9 K d_fraction ["top","bottom"] []) (k_fraction:PySem.W.keepIn K (.ref a_fraction)=true) (n_fraction:mg "fraction"=some (.ref a_fraction))
  (m_tuple:mg "tuple"=none)
  : FnOk P w K mg base CX0 3 f fd ["p"] (spP0 K cl acg):=by
 have nd:=afn.nd
 refine okP (np:=1) (n:=1) F afn (by decide) (by decide) (b:=aes) (k:=2) fun cdv A outer s H E hr=>?_
 exact (aai (aau (aa7 acq af8 rfl m_tuple adM (aaa (acT (own:=["number"]) (cap:=[(0,"p")]) (acz (aae ach) ["p"] rfl rfl rfl (by decide +kernel) (by decide +kernel) (by decide +kernel) (by decide +kernel) (by decide +kernel)) (abS (amo (aab 0) abD (abC (ahD ae1 ahq aah)))) rfl (fun _ _ _ _=>(aaL (i:=0) (show (cmpN ["number"] [(0,"p")]).Nodup by decide +kernel) rfl (Or.inl rfl) (Or.inr rfl))) (fun _ _ _ _=>(ai9 G_fraction (hr.mono (by decide)) rfl n_fraction k_fraction acd .nil Dv.nil (aaa (aab 0) (aaa (abT (aab 1) (ahD ae1 ahq aah)) aaf))))) aaf))))
theorem afm:aaD ["parts","bottom","part"] ["parts"] (aae acf):=⟨rfl,rfl,rfl,by decide +kernel,rfl,by decide +kernel,by decide +kernel⟩
theorem ahF {f:Addr} {fd:FuncData} (F:Fun K "point_at" "point_at" acf f fd)
  {a_point:Addr} {d_point:FuncData}
  (G_point:FnOk P w K mg base CX0 3 a_point d_point ["numbers","bottom"] (spP0 K cl adF)) (aeY:ab9 K d_point ["numbers","bottom"] []) (k_point:PySem.W.keepIn K (.ref a_point)=true) (n_point:mg "point"=some (.ref a_point))
  : FnOk P w K mg base CX0 4 f fd ["parts"] (spP0 K cl abc):=by
 have nd:=afm.nd
 refine okP (np:=1) (n:=3) F afm (by decide) (by decide) (b:=adr) (k:=3) fun cdv A outer s H E hr=>?_
 exact (aad (aas (i:=1) nd rfl (Or.inr rfl) aah)
   (aad (aec PassesOwn.never rfl (abS (aab 0)) (aaL (i:=2) nd rfl (Or.inl rfl)) (aai (aas (i:=1) nd rfl (Or.inr rfl) (aay aaU acl (aab 1) (abT (aab 2) aah)))))
   (aai (aau (ai9 G_point (hr.mono (by decide)) rfl n_point k_point aeY .nil Dv.nil (aaa (acT (own:=["part"]) (cap:=[(1,"bottom")]) (acz (aae acf) ["parts","bottom","part"] rfl rfl rfl (by decide +kernel) (by decide +kernel) (by decide +kernel) (by decide +kernel) (by decide +kernel)) (abS (aab 0)) rfl (fun _ _ _ _=>(aaL (i:=0) (show (cmpN ["part"] [(1,"bottom")]).Nodup by decide +kernel) rfl (Or.inl rfl) (Or.inr rfl))) (fun _ _ _ _=>(aay aaU acl (abT (aab 0) aah) (aay ac4 aeZ (aab 1) (abT (aab 0) aah))))) (aaa (aab 1) aaf)))))))
theorem adw:aaD ["number"] ["number"] (aae abM):=⟨rfl,rfl,rfl,by decide +kernel,rfl,by decide +kernel,by decide +kernel⟩
theorem afx {f:Addr} {fd:FuncData} (F:Fun K "shown_whole" "shown_whole" abM f fd)
  (m_abs:mg "abs"=none)
  (m_str:mg "str"=none)
  (q_TooGreat:mg "TooGreat"=some (.ref (cl "TooGreat"))) (x_TooGreat:PySem.W.excIn K (cl "TooGreat") acb "ValueError.__new__"=true)
  : FnOk P w K mg base (CX1 P w) 1 f fd ["number"] (spP K cl abq):=by
 have nd:=adw.nd
 refine okX (np:=1) (n:=1) F adw (by decide) (by decide) (b:=abO) (k:=0) fun cdv A outer s H E hr=>?_
 exact (aad (aaQ (aaB aka s_ge (aaK adl aiJ rfl m_abs afL (aaa (aab 0) aaf)) (aay aey ag7 aah aah) (aaH _)) (aai (adL rfl q_TooGreat x_TooGreat)) aaA)
   (aai (aau (aa7 abU aiM rfl m_str ae2 (aaa (aaK adl aiJ rfl m_abs afL (aaa (aab 0) aaf)) aaf)))))
theorem adc:aaD ["number","text"] ["number"] (aae aby):=⟨rfl,rfl,rfl,by decide +kernel,rfl,by decide +kernel,by decide +kernel⟩
theorem afq {f:Addr} {fd:FuncData} (F:Fun K "shown_number" "shown_number" aby f fd)
  {a_shown_whole:Addr} {d_shown_whole:FuncData}
  (GX_shown_whole:FnOk P w K mg base (CX1 P w) 1 a_shown_whole d_shown_whole ["number"] (spP K cl abq))
  (G_shown_whole:FnOk P w K mg base CX0 1 a_shown_whole d_shown_whole ["number"] (spP0 K cl abq)) (abO:ab9 K d_shown_whole ["number"] []) (k_shown_whole:PySem.W.keepIn K (.ref a_shown_whole)=true) (n_shown_whole:mg "shown_whole"=some (.ref a_shown_whole))
  : FnOk P w K mg base (CX1 P w) 2 f fd ["number"] (spP K cl aaC):=by
 have nd:=adc.nd
 refine okX (np:=1) (n:=2) F adc (by decide) (by decide) (b:=aa2) (k:=1) fun cdv A outer s H E hr=>?_
 exact (aad (aas (i:=1) nd rfl (Or.inl rfl) (acr GX_shown_whole (hr.mono (by decide)) rfl n_shown_whole k_shown_whole abO .nil Dv.nil (aaa (abT (aab 0) aah) aaf)))
   (aad (aaQ (aaB akT s_lt (abT (aab 0) aah) aah (aaH _)) (aai (aas (i:=1) nd rfl (Or.inl rfl) (aay aaP acK abp (aab 1)))) aaA)
   (aad (aaQ (aaB (abF (hu8 hr)) s_eq (abT (aab 0) aah) aah (aaH _)) (aai (aau (aab 1))) aaA)
   (aai (aau (aay aaP acK (aay aaP acK (aab 1) abp) (acr GX_shown_whole (hr.mono (by decide)) rfl n_shown_whole k_shown_whole abO .nil Dv.nil (aaa (abT (aab 0) aah) aaf))))))))
theorem adv:aaD ["p"] ["p"] (aae abw):=⟨rfl,rfl,rfl,by decide +kernel,rfl,by decide +kernel,by decide +kernel⟩
theorem afu {f:Addr} {fd:FuncData} (F:Fun K "shown_point" "shown_point" abw f fd)
  (C_measures:Cal P w K mg base cl "measures" 3 ["p"] acg)
  {a_shown_number:Addr} {d_shown_number:FuncData}
  (GX_shown_number:FnOk P w K mg base (CX1 P w) 2 a_shown_number d_shown_number ["number"] (spP K cl aaC))
  (G_shown_number:FnOk P w K mg base CX0 2 a_shown_number d_shown_number ["number"] (spP0 K cl aaC)) (aa2:ab9 K d_shown_number ["number"] []) (k_shown_number:PySem.W.keepIn K (.ref a_shown_number)=true) (n_shown_number:mg "shown_number"=some (.ref a_shown_number))
  : FnOk P w K mg base (CX1 P w) 4 f fd ["p"] (spP K cl aa1):=by
 have nd:=adv.nd
 refine okX (np:=1) (n:=1) F adv (by decide) (by decide) (b:=ab8) (k:=3) fun cdv A outer s H E hr=>?_
 exact (aai (aau (ahu abp (aaa (ak8 (own:=["number"]) (cap:=[]) (acz (aae abw) ["p"] rfl rfl rfl (by decide +kernel) (by decide +kernel) (by decide +kernel) (by decide +kernel) (by decide +kernel)) (abS (aaY C_measures hr (by decide) rfl (aaa (aab 0) aaf))) rfl (fun _ _ _ _=>(aaL (i:=0) (show (cmpN ["number"] []).Nodup by decide +kernel) rfl (Or.inl rfl) (Or.inr rfl))) (fun _ _ _ _ _ hp=>(aii hp GX_shown_number (hr.mono (by decide)) rfl n_shown_number k_shown_number aa2 .nil Dv.nil (aaa (aab 0) aaf)))) aaf))))
theorem ac6:aaD ["fits"] ["fits"] (aae abk):=⟨rfl,rfl,rfl,by decide +kernel,rfl,by decide +kernel,by decide +kernel⟩
theorem aeD {f:Addr} {fd:FuncData} (F:Fun K "refuse_unless" "refuse_unless" abk f fd)
  (q_NoText:mg "NoText"=some (.ref (cl "NoText"))) (x_NoText:PySem.W.excIn K (cl "NoText") acb "ValueError.__new__"=true)
  : FnOk P w K mg base (CX1 P w) 1 f fd ["fits"] (spP K cl aav):=by
 have nd:=ac6.nd
 refine okX (np:=1) (n:=1) F ac6 (by decide) (by decide) (b:=aaJ) (k:=0) fun cdv A outer s H E hr=>?_
 exact (aai (aaQ (aew (adi (aab 0))) (aai (adL rfl q_NoText x_NoText)) aaA))
theorem ad8:aaD ["text"] ["text"] (aae abE):=⟨rfl,rfl,rfl,by decide +kernel,rfl,by decide +kernel,by decide +kernel⟩
theorem af0 {f:Addr} {fd:FuncData} (F:Fun K "read_whole" "read_whole" abE f fd)
  {a_refuse_unless:Addr} {d_refuse_unless:FuncData}
  (GX_refuse_unless:FnOk P w K mg base (CX1 P w) 1 a_refuse_unless d_refuse_unless ["fits"] (spP K cl aav))
  (G_refuse_unless:FnOk P w K mg base CX0 1 a_refuse_unless d_refuse_unless ["fits"] (spP0 K cl aav)) (aaJ:ab9 K d_refuse_unless ["fits"] []) (k_refuse_unless:PySem.W.keepIn K (.ref a_refuse_unless)=true) (n_refuse_unless:mg "refuse_unless"=some (.ref a_refuse_unless))
  (m_all:mg "all"=none)
  (m_int:mg "int"=none)
  (m_len:mg "len"=none)
  (gt_FIGURES:GlT K mg "FIGURES" (.str "0123456789"))
  (gt_MOST_FIGURES:GlT K mg "MOST_FIGURES" (.int 60))
  : FnOk P w K mg base (CX1 P w) 2 f fd ["text"] (spP K cl aaE):=by
 have nd:=ad8.nd
 refine okX (np:=1) (n:=1) F ad8 (by decide) (by decide) (b:=abX) (k:=1) fun cdv A outer s H E hr=>?_
 exact (aad (acZ (acr GX_refuse_unless (hr.mono (by decide)) rfl n_refuse_unless k_refuse_unless aaJ .nil Dv.nil (aaa (agH (ald amO s_le amO s_le aah (aaK ab0 afW rfl m_len acp (aaa (aab 0) aaf)) (aiU rfl gt_MOST_FIGURES)) (ag3 (aaK (agh rfl) alX rfl m_all aj5 (aaa (acT (own:=["sign"]) (cap:=[]) (acz (aae abE) ["text"] rfl rfl rfl (by decide +kernel) (by decide +kernel) (by decide +kernel) (by decide +kernel) (by decide +kernel)) (aiY (aab 0)) rfl (fun _ _ _ _=>(aaL (i:=0) (show (cmpN ["sign"] []).Nodup by decide +kernel) rfl (Or.inl rfl) (Or.inr rfl))) (fun _ _ _ _=>(aea agz anQ (aab 0) (aiU rfl gt_FIGURES) rfl))) aaf)))) aaf)))
   (aai (aau (aa7 acs aip rfl m_int agJ (aaa (aab 0) aaf)))))
theorem adx:aaD ["line","parts","below","top","bottom"] ["line"] (aae abL):=⟨rfl,rfl,rfl,by decide +kernel,rfl,by decide +kernel,by decide +kernel⟩
theorem aft {f:Addr} {fd:FuncData} (F:Fun K "read_number" "read_number" abL f fd)
  {a_refuse_unless:Addr} {d_refuse_unless:FuncData}
  (GX_refuse_unless:FnOk P w K mg base (CX1 P w) 1 a_refuse_unless d_refuse_unless ["fits"] (spP K cl aav))
  (G_refuse_unless:FnOk P w K mg base CX0 1 a_refuse_unless d_refuse_unless ["fits"] (spP0 K cl aav)) (aaJ:ab9 K d_refuse_unless ["fits"] []) (k_refuse_unless:PySem.W.keepIn K (.ref a_refuse_unless)=true) (n_refuse_unless:mg "refuse_unless"=some (.ref a_refuse_unless))
  {a_read_whole:Addr} {d_read_whole:FuncData}
  (GX_read_whole:FnOk P w K mg base (CX1 P w) 2 a_read_whole d_read_whole ["text"] (spP K cl aaE))
  (G_read_whole:FnOk P w K mg base CX0 2 a_read_whole d_read_whole ["text"] (spP0 K cl aaE)) (abX:ab9 K d_read_whole ["text"] []) (k_read_whole:PySem.W.keepIn K (.ref a_read_whole)=true) (n_read_whole:mg "read_whole"=some (.ref a_read_whole))
  {a_fraction:Addr} {d_fraction:FuncData}
  (GX_fraction:FnOk P w K mg base (CX1 P w) 2 a_fraction d_fraction ["top","bottom"] (spP K cl aaW))
  (G_fraction:FnOk P w K mg base CX0 2 a_fraction d_fraction ["top","bottom"] (spP0 K cl aaW)) (acd:ab9 K d_fraction ["top","bottom"] []) (k_fraction:PySem.W.keepIn K (.ref a_fraction)=true) (n_fraction:mg "fraction"=some (.ref a_fraction))
  (m_len:mg "len"=none)
  : FnOk P w K mg base (CX1 P w) 3 f fd ["line"] (spP K cl aaq):=by
 have nd:=adx.nd
 refine okX (np:=1) (n:=5) F adx (by decide) (by decide) (b:=aaM) (k:=2) fun cdv A outer s H E hr=>?_
 exact (aad (aas (i:=1) nd rfl (Or.inl rfl) (afH PySem.F.slot_str_split PySem.F.type_str_split af6 (aab 0) (aaa abp aaf)))
   (aad (acZ (acr GX_refuse_unless (hr.mono (by decide)) rfl n_refuse_unless k_refuse_unless aaJ .nil Dv.nil (aaa (aea amO s_le (aaK aa3 afy rfl m_len acp (aaa (aab 1) aaf)) aah (aaH _)) aaf)))
   (aad (aas (i:=2) nd rfl (Or.inl rfl) (afH PySem.F.slot_str_startswith PySem.F.type_str_startswith ajx (abT (aab 1) aah) (aaa abp aaf)))
   (aad (aas (i:=3) nd rfl (Or.inl rfl) (acr GX_read_whole (hr.mono (by decide)) rfl n_read_whole k_read_whole abX .nil Dv.nil (aaa (amG (adi (aab 2)) (add (abT (aab 1) aah) (abC aah) abD) (abT (aab 1) aah)) aaf)))
   (aad (aas (i:=4) nd rfl (Or.inl rfl) (amG (aaB (abF (hu8 hr)) s_eq (aaK aa3 afy rfl m_len acp (aaa (aab 1) aaf)) aah (aaH _)) (acr GX_read_whole (hr.mono (by decide)) rfl n_read_whole k_read_whole abX .nil Dv.nil (aaa (abT (aab 1) aah) aaf)) aah))
   (aad (acZ (acr GX_refuse_unless (hr.mono (by decide)) rfl n_refuse_unless k_refuse_unless aaJ .nil Dv.nil (aaa (aea (adu (hu8 hr)) s_ne (aab 4) aah (aaH _)) aaf)))
   (aai (aau (acr GX_fraction (hr.mono (by decide)) rfl n_fraction k_fraction acd .nil Dv.nil (aaa (amG (adi (aab 2)) (ahD ae1 ahq (aab 3)) (aab 3)) (aaa (aab 4) aaf)))))))))))
theorem ad0:aaD ["line","parts"] ["line"] (aae abI):=⟨rfl,rfl,rfl,by decide +kernel,rfl,by decide +kernel,by decide +kernel⟩
theorem agg {f:Addr} {fd:FuncData} (F:Fun K "read_point" "read_point" abI f fd)
  {a_read_number:Addr} {d_read_number:FuncData}
  (GX_read_number:FnOk P w K mg base (CX1 P w) 3 a_read_number d_read_number ["line"] (spP K cl aaq))
  (G_read_number:FnOk P w K mg base CX0 3 a_read_number d_read_number ["line"] (spP0 K cl aaq)) (aaM:ab9 K d_read_number ["line"] []) (k_read_number:PySem.W.keepIn K (.ref a_read_number)=true) (n_read_number:mg "read_number"=some (.ref a_read_number))
  {a_refuse_unless:Addr} {d_refuse_unless:FuncData}
  (GX_refuse_unless:FnOk P w K mg base (CX1 P w) 1 a_refuse_unless d_refuse_unless ["fits"] (spP K cl aav))
  (G_refuse_unless:FnOk P w K mg base CX0 1 a_refuse_unless d_refuse_unless ["fits"] (spP0 K cl aav)) (aaJ:ab9 K d_refuse_unless ["fits"] []) (k_refuse_unless:PySem.W.keepIn K (.ref a_refuse_unless)=true) (n_refuse_unless:mg "refuse_unless"=some (.ref a_refuse_unless))
  (C_point_at:Cal P w K mg base cl "point_at" 4 ["parts"] abc)
  (m_len:mg "len"=none)
  : FnOk P w K mg base (CX1 P w) 5 f fd ["line"] (spP K cl aaT):=by
 have nd:=ad0.nd
 refine okX (np:=1) (n:=2) F ad0 (by decide) (by decide) (b:=abY) (k:=4) fun cdv A outer s H E hr=>?_
 exact (aad (aj6 (i:=1) (own:=["text"]) (cap:=[]) nd rfl (Or.inl rfl) (acz (aae abI) ["line","parts"] rfl rfl rfl (by decide +kernel) (by decide +kernel) (by decide +kernel) (by decide +kernel) (by decide +kernel)) (abS (afH PySem.F.slot_str_split PySem.F.type_str_split af6 (aab 0) (aaa abp aaf))) rfl (fun _ _ _ _=>(aaL (i:=0) (show (cmpN ["text"] []).Nodup by decide +kernel) rfl (Or.inl rfl) (Or.inr rfl))) (fun _ _ _ _ _ hp=>(aii hp GX_read_number (hr.mono (by decide)) rfl n_read_number k_read_number aaM .nil Dv.nil (aaa (aab 0) aaf))))
   (aad (acZ (acr GX_refuse_unless (hr.mono (by decide)) rfl n_refuse_unless k_refuse_unless aaJ .nil Dv.nil (aaa (aoJ (aea (abF (hu8 hr)) s_eq (aaK aa3 afy rfl m_len acp (aaa (aab 1) aaf)) aah (aaH _)) (ag3 (aea (abF (hu8 hr)) s_eq (aaK aa3 afy rfl m_len acp (aaa (aab 1) aaf)) aah (aaH _)))) aaf)))
   (aai (aau (aaY C_point_at hr (by decide) rfl (aaa (aab 1) aaf))))))
theorem ajL:aaD ["_law_script","_law_row_here","_law_k","_law_cell","_law_one","_law_two","_law_three"] ["_law_script"] (aae afI):=⟨rfl,rfl,rfl,by decide +kernel,rfl,by decide +kernel,by decide +kernel⟩
theorem amU {f:Addr} {fd:FuncData} (F:Fun K "_law_row" "_law_row" afI f fd)
  (m_enumerate:mg "enumerate"=none)
  : FnOk P w K mg base CX0 1 f fd ["_law_script"] (spP0 K cl aeU):=by
 have nd:=ajL.nd
 refine okP (np:=1) (n:=7) F ajL (by decide) (by decide) (b:=aiV) (k:=0) fun cdv A outer s H E hr=>?_
 exact (aad (aas (i:=1) nd rfl (Or.inl rfl) (al2 aaf))
   (aad (aec PassesOwn.never rfl (akl rfl m_enumerate (aaa (amo (aab 0) abD (abC aah)) aaf)) (ajA rfl (adV (aaL (i:=2) nd rfl (Or.inl rfl)) (adV (aaL (i:=3) nd rfl (Or.inl rfl)) ah5))) (aai (aaQ (aaB aka s_ge (aab 3) (aay aey ag7 aah aah) (aaH _)) (aai (acZ (agL (aab 1) (aaa (aay aig ak3 (aab 3) (aay aey ag7 aah aah)) aaf)))) (aad (aas (i:=4) nd rfl (Or.inl rfl) (aay ac3 age (aay aaU acl (aay aaX acm (aay aaX acm (aay aaX acm (aab 3) (aay aaU acl (aay aaU acl aah (aab 2)) (aab 2))) (aay aaU acl aah (aab 2))) aah) aah) aah))
   (aad (aas (i:=5) nd rfl (Or.inl rfl) (aay ac3 age (aay aaU acl (aay aaX acm (aay aaX acm (aay aaX acm (aab 3) (aay aaU acl (aay aaU acl aah (aab 2)) (aab 2))) (aay aaU acl aah (aab 2))) aah) aah) aah))
   (aad (aas (i:=6) nd rfl (Or.inl rfl) (aay ac3 age (aay aaU acl (aay aaX acm (aay aaX acm (aay aaX acm (aab 3) (aay aaU acl (aay aaU acl aah (aab 2)) (aab 2))) (aay aaU acl aah (aab 2))) aah) aah) aah))
   (aad (aas (i:=4) nd rfl (Or.inl rfl) (aay ac3 age (aay aaU acl (aab 4) aah) aah))
   (aad (aas (i:=5) nd rfl (Or.inl rfl) (aay ac3 age (aay aaU acl (aab 5) aah) aah))
   (aad (aas (i:=6) nd rfl (Or.inl rfl) (aay ac3 age (aay aaU acl (aab 6) aah) aah))
   (aai (acZ (agL (aab 1) (aaa (aay aaX acm (aay aaU acl (aay aaX acm (aay aaU acl (aab 4) aah) (aab 5)) aah) (aab 6)) aaf)))))))))))))
   (aai (aau (aab 1)))))
theorem ah3:aaD ["_law_row_here","_law_many","_law_found"] ["_law_row_here","_law_many"] (aae aee):=⟨rfl,rfl,rfl,by decide +kernel,rfl,by decide +kernel,by decide +kernel⟩
theorem akr {f:Addr} {fd:FuncData} (F:Fun K "_law_take" "_law_take" aee f fd)
  (m_len:mg "len"=none)
  : FnOk P w K mg base CX0 1 f fd ["_law_row_here","_law_many"] (spP0 K cl aax):=by
 have nd:=ah3.nd
 refine okP (np:=2) (n:=3) F ah3 (by decide) (by decide) (b:=af5) (k:=0) fun cdv A outer s H E hr=>?_
 exact (aad (aeX PassesOwn.never (PWp.pt (ahH (aaB ai6 s_gt (aaK aa3 afy rfl m_len acp (aaa (aab 0) aaf)) aah (aaH _)) (af9 (aaB (abF (hu8 hr)) s_eq (abT (aab 0) aah) aah (aaH _))))) (aai (acZ (am5 (aab 0) (aaa aah aaf)))))
   (aad (aaQ (aaB (abF (hu8 hr)) s_eq (aaK aa3 afy rfl m_len acp (aaa (aab 0) aaf)) aah (aaH _)) (aai (aau aah)) aaA)
   (aad (aas (i:=2) nd rfl (Or.inl rfl) (aay ac3 age (abT (aab 0) aah) (aab 1)))
   (aad (ajf (aay ac4 aeZ (abT (aab 0) aah) (aab 1)) (aab 0) aah)
   (aai (aau (aab 2)))))))
theorem ajC:aaD ["_law_one","_law_other"] ["_law_one","_law_other"] (aae afD):=⟨rfl,rfl,rfl,by decide +kernel,rfl,by decide +kernel,by decide +kernel⟩
theorem alQ {f:Addr} {fd:FuncData} (F:Fun K "_law_gcd" "_law_gcd" afD f fd)
  (m_abs:mg "abs"=none)
  : FnOk P w K mg base CX0 1 f fd ["_law_one","_law_other"] (spP0 K cl afl):=by
 have nd:=ajC.nd
 refine okP (np:=2) (n:=2) F ajC (by decide) (by decide) (b:=aj4) (k:=0) fun cdv A outer s H E hr=>?_
 exact (aad (aas (i:=0) nd rfl (Or.inl rfl) (aaK adl aiJ rfl m_abs afL (aaa (aab 0) aaf)))
   (aad (aas (i:=1) nd rfl (Or.inl rfl) (aaK adl aiJ rfl m_abs afL (aaa (aab 1) aaf)))
   (aad (aeX PassesOwn.never (aaB ai6 s_gt (aab 1) aah (aaH _)) (aai (al4 (i:=0) (j:=1) rfl nd rfl rfl (by decide) rfl rfl (aaa (aab 1) (aaa (aay ac3 age (aab 0) (aab 1)) aaf)) rfl)))
   (aai (aau (aab 0))))))
theorem afA:aaD ["_law_numbers","_law_by","_law_number"] ["_law_numbers"] (aae acE):=⟨rfl,rfl,rfl,by decide +kernel,rfl,by decide +kernel,by decide +kernel⟩
theorem ait {f:Addr} {fd:FuncData} (F:Fun K "_law_lowest" "_law_lowest" acE f fd)
  (C_wgcd:Cal P w K mg base cl "_law_gcd" 1 ["_law_one","_law_other"] afl)
  (m_tuple:mg "tuple"=none)
  : FnOk P w K mg base CX0 2 f fd ["_law_numbers"] (spP0 K cl aaZ):=by
 have nd:=afA.nd
 refine okP (np:=1) (n:=3) F afA (by decide) (by decide) (b:=ae8) (k:=1) fun cdv A outer s H E hr=>?_
 exact (aad (aas (i:=1) nd rfl (Or.inr rfl) aah)
   (aad (aec PassesOwn.never rfl (abS (aab 0)) (aaL (i:=2) nd rfl (Or.inl rfl)) (aai (aas (i:=1) nd rfl (Or.inr rfl) (aaY C_wgcd hr (by decide) rfl (aaa (aab 1) (aaa (aab 2) aaf))))))
   (aad (aaQ (aaB (abF (hu8 hr)) s_eq (aab 1) aah (aaH _)) (aai (aau (aa7 acq af8 rfl m_tuple adM (aaa (aab 0) aaf)))) aaA)
   (aai (aau (aa7 acq af8 rfl m_tuple adM (aaa (acT (own:=["_law_number"]) (cap:=[(1,"_law_by")]) (acz (aae acE) ["_law_numbers","_law_by","_law_number"] rfl rfl rfl (by decide +kernel) (by decide +kernel) (by decide +kernel) (by decide +kernel) (by decide +kernel)) (abS (aab 0)) rfl (fun _ _ _ _=>(aaL (i:=0) (show (cmpN ["_law_number"] [(1,"_law_by")]).Nodup by decide +kernel) rfl (Or.inl rfl) (Or.inr rfl))) (fun _ _ _ _=>(aay ac4 aeZ (aab 0) (aab 1)))) aaf)))))))
theorem agq:aaD ["_law_number"] ["_law_number"] (aae adq):=⟨rfl,rfl,rfl,by decide +kernel,rfl,by decide +kernel,by decide +kernel⟩
theorem aiT {f:Addr} {fd:FuncData} (F:Fun K "_law_whole" "_law_whole" adq f fd)
  (m_bool:mg "bool"=none)
  (m_int:mg "int"=none)
  (m_isinstance:mg "isinstance"=none)
  : FnOk P w K mg base CX0 1 f fd ["_law_number"] (spP0 K cl ac2):=by
 have nd:=agq.nd
 refine okP (np:=1) (n:=1) F agq (by decide) (by decide) (b:=afZ) (k:=0) fun cdv A outer s H E hr=>?_
 exact (aai (aau (agH (aih (n:="int") rfl m_isinstance rfl m_int agJ (aab 0)) (ag3 (aok (aih (n:="bool") rfl m_isinstance rfl m_bool alO (aab 0)))))))
theorem afQ:aaD ["_law_told","_law_many"] ["_law_told","_law_many"] (aae acF):=⟨rfl,rfl,rfl,by decide +kernel,rfl,by decide +kernel,by decide +kernel⟩
theorem aiG {f:Addr} {fd:FuncData} (F:Fun K "_law_wholes" "_law_wholes" acF f fd)
  (C_wwhole:Cal P w K mg base cl "_law_whole" 1 ["_law_number"] ac2)
  (m_all:mg "all"=none)
  (m_isinstance:mg "isinstance"=none)
  (m_len:mg "len"=none)
  (m_tuple:mg "tuple"=none)
  : FnOk P w K mg base CX0 2 f fd ["_law_told","_law_many"] (spP0 K cl abH):=by
 have nd:=afQ.nd
 refine okP (np:=2) (n:=2) F afQ (by decide) (by decide) (b:=aeR) (k:=1) fun cdv A outer s H E hr=>?_
 exact (aad (aaQ (PWp.pt (ad6 (aew (adi (aih (n:="tuple") rfl m_isinstance rfl m_tuple adM (aab 0)))) (adJ (aaB (adu (hu8 hr)) s_ne (aaK aa3 afy rfl m_len acp (aaa (aab 0) aaf)) (aab 1) (aaH _))))) (aai (aau ake)) aaA)
   (aai (aau (aaK (agh rfl) alX rfl m_all aj5 (aaa (acT (own:=["_law_number"]) (cap:=[]) (acz (aae acF) ["_law_told","_law_many"] rfl rfl rfl (by decide +kernel) (by decide +kernel) (by decide +kernel) (by decide +kernel) (by decide +kernel)) (abS (aab 0)) rfl (fun _ _ _ _=>(aaL (i:=0) (show (cmpN ["_law_number"] []).Nodup by decide +kernel) rfl (Or.inl rfl) (Or.inr rfl))) (fun _ _ _ _=>(aaY C_wwhole hr (by decide) rfl (aaa (aab 0) aaf)))) aaf)))))
theorem ah2:aaD ["_law_top","_law_bottom"] ["_law_top","_law_bottom"] (aae aeu):=⟨rfl,rfl,rfl,by decide +kernel,rfl,by decide +kernel,by decide +kernel⟩
theorem ak2 {f:Addr} {fd:FuncData} (F:Fun K "_law_frac" "_law_frac" aeu f fd)
  (C_wlowest:Cal P w K mg base cl "_law_lowest" 2 ["_law_numbers"] aaZ)
  : FnOk P w K mg base CX0 3 f fd ["_law_top","_law_bottom"] (spP0 K cl aci):=by
 have nd:=ah2.nd
 refine okP (np:=2) (n:=2) F ah2 (by decide) (by decide) (b:=ahm) (k:=2) fun cdv A outer s H E hr=>?_
 exact (aad (aaQ (aaB akT s_lt (aab 1) aah (aaH _)) (aai (aau (aaY C_wlowest hr (by decide) rfl (aaa (aex (aaa (aay aig ak3 aah (aab 0)) (aaa (aay aig ak3 aah (aab 1)) aaf))) aaf)))) aaA)
   (aai (aau (aaY C_wlowest hr (by decide) rfl (aaa (aex (aaa (aab 0) (aaa (aab 1) aaf))) aaf)))))
theorem aeN:aaD ["_law_top","_law_bottom"] ["_law_top","_law_bottom"] (aae acx):=⟨rfl,rfl,rfl,by decide +kernel,rfl,by decide +kernel,by decide +kernel⟩
theorem ahA {f:Addr} {fd:FuncData} (F:Fun K "_law_written" "_law_written" acx f fd)
  (C_wfrac:Cal P w K mg base cl "_law_frac" 3 ["_law_top","_law_bottom"] aci)
  (m_abs:mg "abs"=none)
  (m_str:mg "str"=none)
  : FnOk P w K mg base CX0 4 f fd ["_law_top","_law_bottom"] (spP0 K cl abb):=by
 have nd:=aeN.nd
 refine okP (np:=2) (n:=2) F aeN (by decide) (by decide) (b:=aek) (k:=3) fun cdv A outer s H E hr=>?_
 exact (aad (amf (aaY C_wfrac hr (by decide) rfl (aaa (aab 0) (aaa (aab 1) aaf))) (ajA rfl (adV (aaL (i:=0) nd rfl (Or.inl rfl)) (adV (aaL (i:=1) nd rfl (Or.inl rfl)) ah5))))
   (aad (aaQ (PWp.pt (ad6 (aaB aka s_ge (aaK adl aiJ rfl m_abs afL (aaa (aab 0) aaf)) (aay aey ag7 aah aah) (aaH _)) (adJ (aaB aka s_ge (aab 1) (aay aey ag7 aah aah) (aaH _))))) (aai (aau ac8)) aaA)
   (aad (aaQ (aaB (abF (hu8 hr)) s_eq (aab 1) aah (aaH _)) (aai (aau (aa7 abU aiM rfl m_str ae2 (aaa (aab 0) aaf)))) aaA)
   (aai (aau (aay aaP acK (aay aaP acK (aa7 abU aiM rfl m_str ae2 (aaa (aab 0) aaf)) abp) (aa7 abU aiM rfl m_str ae2 (aaa (aab 1) aaf))))))))
theorem adt:aaD ["_law_p","_law_words"] ["_law_p"] (aae abt):=⟨rfl,rfl,rfl,by decide +kernel,rfl,by decide +kernel,by decide +kernel⟩
theorem afw {f:Addr} {fd:FuncData} (F:Fun K "_law_point_text" "_law_point_text" abt f fd)
  (C_wwritten:Cal P w K mg base cl "_law_written" 4 ["_law_top","_law_bottom"] abb)
  : FnOk P w K mg base CX0 5 f fd ["_law_p"] (spP0 K cl abg):=by
 have nd:=adt.nd
 refine okP (np:=1) (n:=2) F adt (by decide) (by decide) (b:=ac0) (k:=4) fun cdv A outer s H E hr=>?_
 exact (aad (agc (i:=1) (own:=["_law_number"]) (cap:=[(0,"_law_p")]) nd rfl (Or.inl rfl) (acz (aae abt) ["_law_p","_law_words"] rfl rfl rfl (by decide +kernel) (by decide +kernel) (by decide +kernel) (by decide +kernel) (by decide +kernel)) (abS (amo (aab 0) abD (abC (ahD ae1 ahq aah)))) rfl (fun _ _ _ _=>(aaL (i:=0) (show (cmpN ["_law_number"] [(0,"_law_p")]).Nodup by decide +kernel) rfl (Or.inl rfl) (Or.inr rfl))) (fun _ _ _ _=>(aaY C_wwritten hr (by decide) rfl (aaa (aab 0) (aaa (abT (aab 1) (ahD ae1 ahq aah)) aaf)))))
   (aad (aaQ (aaB (alE (hu8 hr)) anP ac8 (aab 1) rfl) (aai (aau ac8)) aaA)
   (aai (aau (ahu abp (aaa (aab 1) aaf))))))
theorem afc:aaD ["_law_word"] ["_law_word"] (aae ace):=⟨rfl,rfl,rfl,by decide +kernel,rfl,by decide +kernel,by decide +kernel⟩
theorem ahe {f:Addr} {fd:FuncData} (F:Fun K "_law_figures" "_law_figures" ace f fd)
  (m_all:mg "all"=none)
  (m_len:mg "len"=none)
  : FnOk P w K mg base CX0 1 f fd ["_law_word"] (spP0 K cl abe):=by
 have nd:=afc.nd
 refine okP (np:=1) (n:=1) F afc (by decide) (by decide) (b:=aet) (k:=0) fun cdv A outer s H E hr=>?_
 exact (aad (aaQ (PWp.pt (ad6 (aaB akT s_lt (aaK ab0 afW rfl m_len acp (aaa (aab 0) aaf)) aah (aaH _)) (adJ (aaB ai6 s_gt (aaK ab0 afW rfl m_len acp (aaa (aab 0) aaf)) aah (aaH _))))) (aai (aau ake)) aaA)
   (aai (aau (aaK (agh rfl) alX rfl m_all aj5 (aaa (acT (own:=["_law_sign"]) (cap:=[]) (acz (aae ace) ["_law_word"] rfl rfl rfl (by decide +kernel) (by decide +kernel) (by decide +kernel) (by decide +kernel) (by decide +kernel)) (aiY (aab 0)) rfl (fun _ _ _ _=>(aaL (i:=0) (show (cmpN ["_law_sign"] []).Nodup by decide +kernel) rfl (Or.inl rfl) (Or.inr rfl))) (fun _ _ _ _=>(aea agz anQ (aab 0) abp rfl))) aaf)))))
theorem adW:aaD ["_law_word","_law_sign","_law_low","_law_at"] ["_law_word"] (aae abZ):=⟨rfl,rfl,rfl,by decide +kernel,rfl,by decide +kernel,by decide +kernel⟩
theorem agl {f:Addr} {fd:FuncData} (F:Fun K "_law_number_of" "_law_number_of" abZ f fd)
  (C_wfigures:Cal P w K mg base cl "_law_figures" 1 ["_law_word"] abe)
  (C_wfrac:Cal P w K mg base cl "_law_frac" 3 ["_law_top","_law_bottom"] aci)
  (m_int:mg "int"=none)
  : FnOk P w K mg base CX0 4 f fd ["_law_word"] (spP0 K cl aaF):=by
 have nd:=adW.nd
 refine okP (np:=1) (n:=4) F adW (by decide) (by decide) (b:=acO) (k:=3) fun cdv A outer s H E hr=>?_
 exact (aad (aas (i:=1) nd rfl (Or.inl rfl) aah)
   (aad (aaQ (aaB (abF (hu8 hr)) s_eq (add (aab 0) abD (abC aah)) abp (aaH _)) (aad (aas (i:=1) nd rfl (Or.inl rfl) (ahD ae1 ahq aah))
   (aai (aas (i:=0) nd rfl (Or.inl rfl) (add (aab 0) (abC aah) abD)))) aaA)
   (aad (aas (i:=2) nd rfl (Or.inl rfl) abp)
   (aad (aas (i:=3) nd rfl (Or.inl rfl) (afH PySem.F.slot_str_find PySem.F.type_str_find amB (aab 0) (aaa abp aaf)))
   (aad (aaQ (aaB aka s_ge (aab 3) aah (aaH _)) (aad (aas (i:=2) nd rfl (Or.inl rfl) (add (aab 0) (abC (aay aaX acm (aab 3) aah)) abD))
   (aai (aas (i:=0) nd rfl (Or.inl rfl) (add (aab 0) abD (abC (aab 3)))))) aaA)
   (aad (aaQ (PWp.pt (ad6 (aew (adi (aaY C_wfigures hr (by decide) rfl (aaa (aab 0) aaf)))) (adJ (aew (adi (aaY C_wfigures hr (by decide) rfl (aaa (aab 2) aaf))))))) (aai (aau ac8)) aaA)
   (aad (aaQ (aaB (abF (hu8 hr)) s_eq (aa7 acs aip rfl m_int agJ (aaa (aab 2) aaf)) aah (aaH _)) (aai (aau ac8)) aaA)
   (aai (aau (aaY C_wfrac hr (by decide) rfl (aaa (aay aaU acl (aab 1) (aa7 acs aip rfl m_int agJ (aaa (aab 0) aaf))) (aaa (aa7 acs aip rfl m_int agJ (aaa (aab 2) aaf)) aaf))))))))))))
theorem aeB:aaD ["_law_line","_law_words","_law_numbers","_law_under","_law_number"] ["_law_line"] (aae abG):=⟨rfl,rfl,rfl,by decide +kernel,rfl,by decide +kernel,by decide +kernel⟩
theorem agK {f:Addr} {fd:FuncData} (F:Fun K "_law_point_of" "_law_point_of" abG f fd)
  (C_wnumber_of:Cal P w K mg base cl "_law_number_of" 4 ["_law_word"] aaF)
  (C_wlowest:Cal P w K mg base cl "_law_lowest" 2 ["_law_numbers"] aaZ)
  (m_len:mg "len"=none)
  : FnOk P w K mg base CX0 5 f fd ["_law_line"] (spP0 K cl aa8):=by
 have nd:=aeB.nd
 refine okP (np:=1) (n:=5) F aeB (by decide) (by decide) (b:=adE) (k:=4) fun cdv A outer s H E hr=>?_
 exact (aad (aas (i:=1) nd rfl (Or.inl rfl) (afH PySem.F.slot_str_split PySem.F.type_str_split af6 (aab 0) (aaa abp aaf)))
   (aad (aaQ (PWp.pt (ahH (aaB (adu (hu8 hr)) s_ne (aaK aa3 afy rfl m_len acp (aaa (aab 1) aaf)) aah (aaH _)) (af9 (aaB (adu (hu8 hr)) s_ne (aaK aa3 afy rfl m_len acp (aaa (aab 1) aaf)) aah (aaH _))))) (aai (aau ac8)) aaA)
   (aad (agc (i:=2) (own:=["_law_word"]) (cap:=[]) nd rfl (Or.inl rfl) (acz (aae abG) ["_law_line","_law_words","_law_numbers","_law_under","_law_number"] rfl rfl rfl (by decide +kernel) (by decide +kernel) (by decide +kernel) (by decide +kernel) (by decide +kernel)) (abS (aab 1)) rfl (fun _ _ _ _=>(aaL (i:=0) (show (cmpN ["_law_word"] []).Nodup by decide +kernel) rfl (Or.inl rfl) (Or.inr rfl))) (fun _ _ _ _=>(aaY C_wnumber_of hr (by decide) rfl (aaa (aab 0) aaf))))
   (aad (aaQ (aaB (alE (hu8 hr)) anP ac8 (aab 2) rfl) (aai (aau ac8)) aaA)
   (aad (aas (i:=3) nd rfl (Or.inr rfl) aah)
   (aad (aec PassesOwn.never rfl (abS (aab 2)) (aaL (i:=4) nd rfl (Or.inl rfl)) (aai (aas (i:=3) nd rfl (Or.inr rfl) (aay aaU acl (aab 3) (abT (aab 4) aah)))))
   (aai (aau (aaY C_wlowest hr (by decide) rfl (aaa (aay aaX acm (acT (own:=["_law_number"]) (cap:=[(3,"_law_under")]) (acz (aae abG) ["_law_line","_law_words","_law_numbers","_law_under","_law_number"] rfl rfl rfl (by decide +kernel) (by decide +kernel) (by decide +kernel) (by decide +kernel) (by decide +kernel)) (abS (aab 2)) rfl (fun _ _ _ _=>(aaL (i:=0) (show (cmpN ["_law_number"] [(3,"_law_under")]).Nodup by decide +kernel) rfl (Or.inl rfl) (Or.inr rfl))) (fun _ _ _ _=>(aay aaU acl (abT (aab 0) aah) (aay ac4 aeZ (aab 1) (abT (aab 0) aah))))) (aex (aaa (aab 3) aaf))) aaf))))))))))
theorem afp:aaD ["_law_row_here","_law_some","_law_most"] ["_law_row_here"] (aae acy):=⟨rfl,rfl,rfl,by decide +kernel,rfl,by decide +kernel,by decide +kernel⟩
theorem ahz {f:Addr} {fd:FuncData} (F:Fun K "_law_sign_at" "_law_sign_at" acy f fd)
  (C_wtake:Cal P w K mg base cl "_law_take" 1 ["_law_row_here","_law_many"] aax)
  (m_len:mg "len"=none)
  : FnOk P w K mg base CX0 2 f fd ["_law_row_here"] (spP0 K cl acu):=by
 have nd:=afp.nd
 refine okP (np:=1) (n:=3) F afp (by decide) (by decide) (b:=aep) (k:=1) fun cdv A outer s H E hr=>?_
 exact (aad (aas (i:=1) nd rfl (Or.inl rfl) abp)
   (aad (aaQ (aaB (abF (hu8 hr)) s_eq (aaY C_wtake hr (by decide) rfl (aaa (aab 0) (aaa aah aaf))) aah (aaH _)) (aai (aau (aln (aab 1) (aaY C_wtake hr (by decide) rfl (aaa (aab 0) (aaa (aaK ab0 afW rfl m_len acp (aaa (aab 1) aaf)) aaf)))))) aaA)
   (aad (aas (i:=2) nd rfl (Or.inl rfl) abp)
   (aai (aau (aln (aab 2) (aaY C_wtake hr (by decide) rfl (aaa (aab 0) (aaa (aaK ab0 afW rfl m_len acp (aaa (aab 2) aaf)) aaf)))))))))
theorem afU:aaD ["_law_row_here","_law_line","_law_way","_law_at","_law_sign"] ["_law_row_here","_law_line"] (aae acU):=⟨rfl,rfl,rfl,by decide +kernel,rfl,by decide +kernel,by decide +kernel⟩
theorem aiQ {f:Addr} {fd:FuncData} (F:Fun K "_law_spoilt" "_law_spoilt" acU f fd)
  (C_wtake:Cal P w K mg base cl "_law_take" 1 ["_law_row_here","_law_many"] aax)
  (C_wsign_at:Cal P w K mg base cl "_law_sign_at" 2 ["_law_row_here"] acu)
  (m_len:mg "len"=none)
  : FnOk P w K mg base CX0 3 f fd ["_law_row_here","_law_line"] (spP0 K cl acC):=by
 have nd:=afU.nd
 refine okP (np:=2) (n:=5) F afU (by decide) (by decide) (b:=aeP) (k:=2) fun cdv A outer s H E hr=>?_
 exact (aad (aas (i:=2) nd rfl (Or.inl rfl) (aaY C_wtake hr (by decide) rfl (aaa (aab 0) (aaa aah aaf))))
   (aad (aaQ (aaB ai6 s_gt (aab 2) aah (aaH _)) (aai (aau (aab 1))) aaA)
   (aad (aas (i:=3) nd rfl (Or.inl rfl) (aaY C_wtake hr (by decide) rfl (aaa (aab 0) (aaa (aay aaX acm (aaK ab0 afW rfl m_len acp (aaa (aab 1) aaf)) aah) aaf))))
   (aad (aas (i:=4) nd rfl (Or.inl rfl) (aaY C_wsign_at hr (by decide) rfl (aaa (aab 0) aaf)))
   (aad (aaQ (aaB (abF (hu8 hr)) s_eq (aab 2) aah (aaH _)) (aai (aau (aay aaP acK (aay aaP acK (add (aab 1) abD (abC (aab 3))) (aab 4)) (add (aab 1) (abC (aab 3)) abD)))) aaA)
   (aad (aaQ (aaB (abF (hu8 hr)) s_eq (aab 2) aah (aaH _)) (aai (aau (aay aaP acK (add (aab 1) abD (abC (aab 3))) (add (aab 1) (abC (aay aaX acm (aab 3) aah)) abD)))) aaA)
   (aai (aau (aay aaP acK (aay aaP acK (add (aab 1) abD (abC (aab 3))) (aab 4)) (add (aab 1) (abC (aay aaX acm (aab 3) aah)) abD))))))))))
theorem ah0:aaD ["_law_many","_law_found","_law_k"] ["_law_many"] (aae ael):=⟨rfl,rfl,rfl,by decide +kernel,rfl,by decide +kernel,by decide +kernel⟩
theorem akR {f:Addr} {fd:FuncData} (F:Fun K "_law_tens" "_law_tens" ael f fd)
  (m_range:mg "range"=none)
  : FnOk P w K mg base CX0 1 f fd ["_law_many"] (spP0 K cl aen):=by
 have nd:=ah0.nd
 refine okP (np:=1) (n:=3) F ah0 (by decide) (by decide) (b:=ahp) (k:=0) fun cdv A outer s H E hr=>?_
 exact (aad (aas (i:=1) nd rfl (Or.inl rfl) aah)
   (aad (aec PassesOwn.never rfl (aej rfl m_range (aaa (aab 0) aaf)) (aaL (i:=2) nd rfl (Or.inl rfl)) (aai (aas (i:=1) nd rfl (Or.inl rfl) (aay aaU acl (aab 1) aah))))
   (aai (aau (aab 1)))))
theorem afo:aaD ["_law_row_here","_law_many"] ["_law_row_here"] (aae acv):=⟨rfl,rfl,rfl,by decide +kernel,rfl,by decide +kernel,by decide +kernel⟩
theorem ahn {f:Addr} {fd:FuncData} (F:Fun K "_law_word_of" "_law_word_of" acv f fd)
  (C_wtake:Cal P w K mg base cl "_law_take" 1 ["_law_row_here","_law_many"] aax)
  (C_wtens:Cal P w K mg base cl "_law_tens" 1 ["_law_many"] aen)
  (m_str:mg "str"=none)
  : FnOk P w K mg base CX0 2 f fd ["_law_row_here"] (spP0 K cl abd):=by
 have nd:=afo.nd
 refine okP (np:=1) (n:=2) F afo (by decide) (by decide) (b:=ado) (k:=1) fun cdv A outer s H E hr=>?_
 exact (aad (aas (i:=1) nd rfl (Or.inl rfl) (aay aaX acm aah (aaY C_wtake hr (by decide) rfl (aaa (aab 0) (aaa aah aaf)))))
   (aad (aaQ (aaB (abF (hu8 hr)) s_eq (aaY C_wtake hr (by decide) rfl (aaa (aab 0) (aaa aah aaf))) aah (aaH _)) (aai (aas (i:=1) nd rfl (Or.inl rfl) (aay aaX acm aah (aaY C_wtake hr (by decide) rfl (aaa (aab 0) (aaa aah aaf)))))) aaA)
   (aai (aau (afH PySem.F.slot_str_zfill PySem.F.type_str_zfill akk (aa7 abU aiM rfl m_str ae2 (aaa (aaY C_wtake hr (by decide) rfl (aaa (aab 0) (aaa (aaY C_wtens hr (by decide) rfl (aaa (aab 1) aaf)) aaf))) aaf)) (aaa (aab 1) aaf))))))
theorem ade:aaD ["_law_row_here","_law_word","_law_way"] ["_law_row_here"] (aae abz):=⟨rfl,rfl,rfl,by decide +kernel,rfl,by decide +kernel,by decide +kernel⟩
theorem aeW {f:Addr} {fd:FuncData} (F:Fun K "_law_number_word" "_law_number_word" abz f fd)
  (C_wword_of:Cal P w K mg base cl "_law_word_of" 2 ["_law_row_here"] abd)
  (C_wtake:Cal P w K mg base cl "_law_take" 1 ["_law_row_here","_law_many"] aax)
  (m_str:mg "str"=none)
  : FnOk P w K mg base CX0 3 f fd ["_law_row_here"] (spP0 K cl aaR):=by
 have nd:=ade.nd
 refine okP (np:=1) (n:=3) F ade (by decide) (by decide) (b:=acR) (k:=2) fun cdv A outer s H E hr=>?_
 exact (aad (aas (i:=1) nd rfl (Or.inl rfl) (aaY C_wword_of hr (by decide) rfl (aaa (aab 0) aaf)))
   (aad (aas (i:=2) nd rfl (Or.inl rfl) (aaY C_wtake hr (by decide) rfl (aaa (aab 0) (aaa aah aaf))))
   (aad (aaQ (PWp.pt (ad6 (aaB (abF (hu8 hr)) s_eq (aab 2) aah (aaH _)) (adJ (aaB (abF (hu8 hr)) s_eq (aab 2) aah (aaH _))))) (aai (aas (i:=1) nd rfl (Or.inl rfl) (aay aaP acK (aay aaP acK (aab 1) abp) (aaY C_wword_of hr (by decide) rfl (aaa (aab 0) aaf))))) aaA)
   (aad (aaQ (aaB (abF (hu8 hr)) s_eq (aab 2) aah (aaH _)) (aai (aas (i:=1) nd rfl (Or.inl rfl) (aay aaP acK (aay aaP acK (aab 1) abp) (aa7 abU aiM rfl m_str ae2 (aaa (aay aaX acm aah (aaY C_wtake hr (by decide) rfl (aaa (aab 0) (aaa aah aaf)))) aaf))))) aaA)
   (aad (aaQ (aaB (abF (hu8 hr)) s_eq (aaY C_wtake hr (by decide) rfl (aaa (aab 0) (aaa aah aaf))) aah (aaH _)) (aai (aas (i:=1) nd rfl (Or.inl rfl) (aay aaP acK abp (aab 1)))) aaA)
   (aai (aau (aab 1))))))))
theorem ago:aaD ["_law_line","_law_found"] ["_law_line"] (aae adm):=⟨rfl,rfl,rfl,by decide +kernel,rfl,by decide +kernel,by decide +kernel⟩
theorem aj2 {f:Addr} {fd:FuncData} (F:Fun K "_law_asked" "_law_asked" adm f fd)
  {a_read_point:Addr} {d_read_point:FuncData}
  (GX_read_point:FnOk P w K mg base (CX1 P w) 5 a_read_point d_read_point ["line"] (spP K cl aaT))
  (G_read_point:FnOk P w K mg base CX0 5 a_read_point d_read_point ["line"] (spP0 K cl aaT)) (abY:ab9 K d_read_point ["line"] []) (k_read_point:PySem.W.keepIn K (.ref a_read_point)=true) (n_read_point:mg "read_point"=some (.ref a_read_point))
  (q_NoText:mg "NoText"=some (.ref (cl "NoText"))) (x_NoText:PySem.W.excIn K (cl "NoText") acb "ValueError.__new__"=true)
  : FnOk P w K mg base CX0 6 f fd ["_law_line"] (spP0 K cl abK):=by
 have nd:=ago.nd
 refine okP (np:=1) (n:=2) F ago (by decide) (by decide) (b:=aeG) (k:=5) fun cdv A outer s H E hr=>?_
 exact (aad (aas (i:=1) nd rfl (Or.inl rfl) ac8)
   (aad (ahY (jv:=1) (nn:=2) (c:="NoText") (up:=fun ρ=>(ρ.set 1 (some (.pv (.tup [.str "refused",.non]))))) rfl nd rfl q_NoText x_NoText (ai1 rfl abp (ajb rfl GX_read_point (hr.mono (by decide)) rfl n_read_point k_read_point abY .nil Dv.nil (aaa (aab 0) aaf))) rfl (Or.inl rfl) (fun y=>(ahf (ai7 (i:=1) nd rfl (Or.inl rfl) (ajz (adb ahN (adb ajH agS)))))) (fun D σ H p S ρ sm hl ev k=>by
    match σ,hl,ev with
    | [s0,s1],_,ev=>exact ⟨(by show 2≤PySem.sizeLine; decide),fun t ht=>k _ _ (abf ht) (RepE.setT (vs:=[.str "refused",.non]) sm ev ht (by decide) (by decide) 1)⟩))
   (aai (aau (aab 1)))))
theorem ain:aaD ["_law_row_here","_law_dims","_law_wide","_law_under","_law_p","_law_due","_law_found","_law_again","_law_words","_law_line"] ["_law_row_here"] (aae adj):=⟨rfl,rfl,rfl,by decide +kernel,rfl,by decide +kernel,by decide +kernel⟩
theorem ak1 {f:Addr} {fd:FuncData} (F:Fun K "_law_once" "_law_once" adj f fd)
  (C_wtake:Cal P w K mg base cl "_law_take" 1 ["_law_row_here","_law_many"] aax)
  (C_wlowest:Cal P w K mg base cl "_law_lowest" 2 ["_law_numbers"] aaZ)
  (C_wpoint_text:Cal P w K mg base cl "_law_point_text" 5 ["_law_p"] abg)
  {a_shown_point:Addr} {d_shown_point:FuncData}
  (GX_shown_point:FnOk P w K mg base (CX1 P w) 4 a_shown_point d_shown_point ["p"] (spP K cl aa1))
  (G_shown_point:FnOk P w K mg base CX0 4 a_shown_point d_shown_point ["p"] (spP0 K cl aa1)) (ab8:ab9 K d_shown_point ["p"] []) (k_shown_point:PySem.W.keepIn K (.ref a_shown_point)=true) (n_shown_point:mg "shown_point"=some (.ref a_shown_point))
  (C_wasked:Cal P w K mg base cl "_law_asked" 6 ["_law_line"] abK)
  (C_wwholes:Cal P w K mg base cl "_law_wholes" 2 ["_law_told","_law_many"] abH)
  (C_wnumber_word:Cal P w K mg base cl "_law_number_word" 3 ["_law_row_here"] aaR)
  (C_wspoilt:Cal P w K mg base cl "_law_spoilt" 3 ["_law_row_here","_law_line"] acC)
  (C_wpoint_of:Cal P w K mg base cl "_law_point_of" 5 ["_law_line"] aa8)
  (m_isinstance:mg "isinstance"=none)
  (m_len:mg "len"=none)
  (m_range:mg "range"=none)
  (m_str:mg "str"=none)
  (q_TooGreat:mg "TooGreat"=some (.ref (cl "TooGreat"))) (x_TooGreat:PySem.W.excIn K (cl "TooGreat") acb "ValueError.__new__"=true)
  : FnOk P w K mg base CX0 7 f fd ["_law_row_here"] (spP0 K cl adA):=by
 have nd:=ain.nd
 refine okP (np:=1) (n:=10) F ain (by decide) (by decide) (b:=ahx) (k:=6) fun cdv A outer s H E hr=>?_
 exact (aad (aas (i:=1) nd rfl (Or.inl rfl) (aay aaX acm aah (aaY C_wtake hr (by decide) rfl (aaa (aab 0) (aaa aah aaf)))))
   (aad (aas (i:=2) nd rfl (Or.inr rfl) (abT (aex (aaa aah (aaa (aay aey ag7 aah aah) (aaa (aay aey ag7 aah aah) aaf)))) (aaY C_wtake hr (by decide) rfl (aaa (aab 0) (aaa aah aaf)))))
   (aad (aas (i:=3) nd rfl (Or.inl rfl) (aay aaX acm aah (aaY C_wtake hr (by decide) rfl (aaa (aab 0) (aaa (abT (aex (aaa aah (aaa aah (aaa (aay aey ag7 aah aah) aaf)))) (aaY C_wtake hr (by decide) rfl (aaa (aab 0) (aaa aah aaf)))) aaf)))))
   (aad (aas (i:=4) nd rfl (Or.inl rfl) (aaY C_wlowest hr (by decide) rfl (aaa (aay aaX acm (acT (own:=["_law_k"]) (cap:=[(2,"_law_wide"),(0,"_law_row_here")]) (acz (aae adj) ["_law_row_here","_law_dims","_law_wide","_law_under","_law_p","_law_due","_law_found","_law_again","_law_words","_law_line"] rfl rfl rfl (by decide +kernel) (by decide +kernel) (by decide +kernel) (by decide +kernel) (by decide +kernel)) (aej rfl m_range (aaa (aab 1) aaf)) rfl (fun _ _ _ _=>(aaL (i:=0) (show (cmpN ["_law_k"] [(2,"_law_wide"),(0,"_law_row_here")]).Nodup by decide +kernel) rfl (Or.inl rfl) (Or.inr rfl))) (fun _ _ _ _=>(aay aig ak3 (aaY C_wtake hr (by decide) rfl (aaa (aab 2) (aaa (aay aaX acm (aay aaU acl aah (aab 1)) aah) aaf))) (aab 1)))) (aex (aaa (aab 3) aaf))) aaf)))
   (aad (aas (i:=5) nd rfl (Or.inl rfl) (aaY C_wpoint_text hr (by decide) rfl (aaa (aab 4) aaf)))
   (aad (aas (i:=6) nd rfl (Or.inl rfl) ac8)
   (aad (ahY (jv:=6) (nn:=10) (c:="TooGreat") (up:=fun ρ=>(ρ.set 6 (some (.pv (.tup [.str "refused",.non]))))) rfl nd rfl q_TooGreat x_TooGreat (ai1 rfl abp (ajb rfl GX_shown_point (hr.mono (by decide)) rfl n_shown_point k_shown_point ab8 .nil Dv.nil (aaa (aab 4) aaf))) rfl (Or.inl rfl) (fun y=>(ahf (ai7 (i:=6) nd rfl (Or.inl rfl) (ajz (adb ahN (adb ajH agS)))))) (fun D σ H p S ρ sm hl ev k=>by
    match σ,hl,ev with
    | [s0,s1,s2,s3,s4,s5,s6,s7,s8,s9],_,ev=>exact ⟨(by show 2≤PySem.sizeLine; decide),fun t ht=>k _ _ (abf ht) (RepE.setT (vs:=[.str "refused",.non]) sm ev ht (by decide) (by decide) 6)⟩))
   (aad (aaQ (PWp.pt (ahH (alp (aab 5)) (af9 (aaB (adu (hu8 hr)) s_ne (aab 6) (akg (aaa abp (aaa ac8 aaf))) (aaH _))))) (aai (aau ake)) aaA)
   (aad (aaQ (amX (aab 5)) (aad (aaQ (PWp.pt (ad6 (aaB (adu (hu8 hr)) s_ne (abT (aab 6) aah) abp (aaH _)) (ad6 (aew (adi (aih (n:="str") rfl m_isinstance rfl m_str ae2 (abT (aab 6) aah)))) (adJ (aaB (adu (hu8 hr)) s_ne (abT (aab 6) aah) (aab 5) (aaH _)))))) (aai (aau ake)) aaA)
   (aad (aas (i:=7) nd rfl (Or.inl rfl) (aaY C_wasked hr (by decide) rfl (aaa (aab 5) aaf)))
   (aai (aaQ (PWp.pt (ad6 (aaB (adu (hu8 hr)) s_ne (abT (aab 7) aah) abp (aaH _)) (ad6 (aew (adi (aaY C_wwholes hr (by decide) rfl (aaa (abT (aab 7) aah) (aaa (aay aaX acm (aab 1) aah) aaf))))) (adJ (aaB (adu (hu8 hr)) s_ne (abT (aab 7) aah) (aab 4) (aaH _)))))) (aai (aau ake)) aaA)))) aaA)
   (aad (agc (i:=8) (own:=["_law_k"]) (cap:=[(0,"_law_row_here")]) nd rfl (Or.inl rfl) (acz (aae adj) ["_law_row_here","_law_dims","_law_wide","_law_under","_law_p","_law_due","_law_found","_law_again","_law_words","_law_line"] rfl rfl rfl (by decide +kernel) (by decide +kernel) (by decide +kernel) (by decide +kernel) (by decide +kernel)) (aej rfl m_range (aaa (abT (aex (aaa aah (aaa aah (aaa aah (aaa aah (aaa aah (aaa aah aaf))))))) (aaY C_wtake hr (by decide) rfl (aaa (aab 0) (aaa aah aaf)))) aaf)) rfl (fun _ _ _ _=>(aaL (i:=0) (show (cmpN ["_law_k"] [(0,"_law_row_here")]).Nodup by decide +kernel) rfl (Or.inl rfl) (Or.inr rfl))) (fun _ _ _ _=>(aaY C_wnumber_word hr (by decide) rfl (aaa (aab 1) aaf))))
   (aad (aas (i:=9) nd rfl (Or.inl rfl) (aaY C_wspoilt hr (by decide) rfl (aaa (aab 0) (aaa (ahu abp (aaa (aab 8) aaf)) aaf))))
   (aad (aas (i:=5) nd rfl (Or.inl rfl) (aaY C_wpoint_of hr (by decide) rfl (aaa (aab 9) aaf)))
   (aad (aas (i:=6) nd rfl (Or.inl rfl) (aaY C_wasked hr (by decide) rfl (aaa (aab 9) aaf)))
   (aad (aaQ (alp (aab 5)) (aai (aau (aea (abF (hu8 hr)) s_eq (aab 6) (akg (aaa abp (aaa ac8 aaf))) (aaH _)))) aaA)
   (aai (aau (agH (aea (abF (hu8 hr)) s_eq (abT (aab 6) aah) abp (aaH _)) (agH (aaY C_wwholes hr (by decide) rfl (aaa (abT (aab 6) aah) (aaa (aaK aa3 afy rfl m_len acp (aaa (aab 5) aaf)) aaf))) (ag3 (aea (abF (hu8 hr)) s_eq (abT (aab 6) aah) (aab 5) (aaH _)))))))))))))))))))))
theorem alo:aaD ["_law_script","_law_row_here"] ["_law_script"] (aae af7):=⟨rfl,rfl,rfl,by decide +kernel,rfl,by decide +kernel,by decide +kernel⟩
theorem an0 {f:Addr} {fd:FuncData} (F:Fun K "law" "law" af7 f fd)
  (C_wrow:Cal P w K mg base cl "_law_row" 1 ["_law_script"] aeU)
  (C_wonce:Cal P w K mg base cl "_law_once" 7 ["_law_row_here"] adA)
  : FnOk P w K mg base CX0 8 f fd ["_law_script"] (spP0 K cl amI):=by
 have nd:=alo.nd
 refine okP (np:=1) (n:=2) F alo (by decide) (by decide) (b:=amC) (k:=7) fun cdv A outer s H E hr=>?_
 exact (aad (aas (i:=1) nd rfl (Or.inl rfl) (aoq C_wrow hr (by decide) rfl (aaa (aab 0) aaf)))
   (aai (aau (agH (aaY C_wonce hr (by decide) rfl (aaa (aab 1) aaf)) (ag3 (aaY C_wonce hr (by decide) rfl (aaa (aab 1) aaf)))))))
end
def EC:=And.intro @aa5.eq_1 (And.intro @sSeq.eq_1 (And.intro @sIf.eq_1 (And.intro @mTst.eq_1 (And.intro @mNot.eq_1 (And.intro @mAnd.eq_1 (And.intro @mOr.eq_1 (And.intro @abR.eq_1 (And.intro @mOrV.eq_1 (And.intro @mIf.eq_1 (And.intro @mBin.eq_1 (And.intro @mUn.eq_1 (And.intro @mR.eq_1 (And.intro @mN.eq_1 (And.intro @aac.eq_1 (And.intro @mVar.eq_1 (And.intro @mC.eq_1 (And.intro @mNil.eq_1 (And.intro @Res.bind.eq_1 (And.intro @Res.bind.eq_2 (And.intro @Res.bind.eq_3 (And.intro @acj.eq_1 (And.intro @abn.eq_1 (And.intro @ab4.eq_1 (And.intro @aca.eq_1 (And.intro @abA.eq_1 (And.intro @abA.eq_2 (And.intro @rd.eq_1 (And.intro @rd.eq_2 (And.intro @abN.eq_1 (And.intro @abN.eq_2 (And.intro @abN.eq_3 (And.intro @okO.eq_1 (And.intro @okO.eq_2 (And.intro @fLen.eq_1 (And.intro @fLen.eq_2 (And.intro @fLen.eq_3 (And.intro @fTup.eq_1 (And.intro @fLst.eq_1 (And.intro @fNeg.eq_1 (And.intro @fNeg.eq_2 (And.intro @fNot.eq_1 (And.intro @fNot.eq_2 (And.intro @tst.eq_1 (And.intro @tst.eq_2 (And.intro @SRes.of.eq_1 (And.intro @SRes.of.eq_2 (And.intro @SRes.of.eq_3 (And.intro @sRet.eq_1 (And.intro @acD.eq_1 (And.intro @sNil.eq_1 (And.intro @abx.eq_1 (And.intro @sSet.eq_1 (And.intro @aa0.eq_1 (And.intro @aa0.eq_2 (And.intro @aa0.eq_3 (And.intro @aa0.eq_4 (And.intro @ab3.eq_1 (And.intro @ab3.eq_2 (And.intro @aak.eq_1 (And.intro @aaN.eq_1 (@abo.eq_1)))))))))))))))))))))))))))))))))))))))))))))))))))))))))))))
def Row (S:Sto) (k:Nat) (ns:List Int):Prop:=S[k]?=some (.lst (ns.map .int))
theorem Row.lt {S:Sto} {k:Nat} {ns:List Int} (h:Row S k ns):k < S.length:=(List.getElem?_eq_some_iff.mp h).1
theorem Row.set {S:Sto} {k:Nat} {ns:List Int} (h:Row S k ns) (ms:List Int):Row (S.set k (.lst (ms.map .int))) k ms:=List.getElem?_set_self h.lt
theorem afK {r:Rho} {k:Nat} {m:AV}:∀ (ns:List Int) (S:Sto),Row S k ns→∃ n ns',aa6 (mAnd (mTst (mBin fGt (mR fLen (aac (mVar 0) mNil)) (mC (.int 0)))) (mTst (mBin fEq (mBin fIx (mVar 0) (mC (.int 0))) (mC (.int 0))))) (abx (mPop (mVar 0) (aac (mC (.int 0)) mNil))) n (some (.ref k) :: some m :: r) S=.nx (some (.ref k) :: some m :: r) (S.set k (.lst (ns'.map .int)))∧ns'.length≤ns.length∧(ns'=[]∨∃ i t,ns'=i :: t∧i≠0)
 | [],S,h=>by
  refine ⟨1,[],?_,Nat.le_refl _,.inl rfl⟩
  have h':S[k]?=some (.lst []):=h
  have e:S.set k (.lst (([]:List Int).map .int))=S:=List.ext_getElem? fun i=>by
   by_cases q:k=i
   ·subst q; rw [List.getElem?_set_self h.lt,h']; rfl
   ·rw [List.getElem?_set_ne q]
  rw [e]
  simp [aa6,mAnd,mTst,mBin,mR,aac,mVar,mC,mNil,Res.bind,ab4,abA,rd,h',okO,fLen,abn,fGt,i2,tst,SRes.of]
 | i :: t,S,h=>by
  have h':S[k]?=some (.lst (.int i :: t.map .int)):=h
  by_cases hi:i=0
  ·subst hi
   have hr:Row (S.set k (.lst (t.map .int))) k t:=h.set t
   obtain ⟨n,ns',e,l,q⟩:=afK (r:=r) (m:=m) t _ hr
   refine ⟨n+1,ns',?_,by simp; omega,q⟩
   rw [List.set_set] at e
   rw [← e]
   have hl:(0:Int) < (t.length:Int)+1:=by omega
   simp [aa6,mAnd,mTst,mBin,mR,aac,mVar,mC,mNil,Res.bind,ab4,abA,rd,h',okO,fLen,abn,fGt,i2,tst,SRes.of,fIx,atI,ixN,fEq,eqN,abx,mPop,aho,alS,seqIndex?,hl]
  ·refine ⟨1,i :: t,?_,Nat.le_refl _,.inr ⟨i,t,rfl,hi⟩⟩
   have e:S.set k (.lst ((i :: t).map .int))=S:=List.ext_getElem? fun j=>by
    by_cases q:k=j
    ·subst q; rw [List.getElem?_set_self h.lt,h']; rfl
    ·rw [List.getElem?_set_ne q]
   rw [e]
   have hl:(0:Int) < (t.length:Int)+1:=by omega
   simp [aa6,mAnd,mTst,mBin,mR,aac,mVar,mC,mNil,Res.bind,ab4,abA,rd,h',okO,fLen,abn,fGt,i2,tst,SRes.of,fIx,atI,ixN,fEq,eqN,hl,hi]
theorem akb {S:Sto} {k:Nat} {ns:List Int} {m:Int} (h:Row S k ns) (hm:0 < m) (b:Bd 8000 m):∃ (v:Int) (ns':List Int),aax [.ref k,.pv (.int m)] S=.ok (.pv (.int v)) (S.set k (.lst (ns'.map .int)))∧0≤v∧v < m∧ns'.length≤ns.length:=by
 obtain ⟨n,ns',e,l,q⟩:=afK (r:=[none]) (m:=.pv (.int m)) ns S h
 have hr:=h.set ns'
 have hl1:(S.set k (.lst (ns'.map .int))).length=S.length:=by simp
 have hss:∀ x,(S.set k (.lst (ns'.map .int))).set k x=S.set k x:=fun x=>List.set_set ..
 generalize hS1:S.set k (.lst (ns'.map .int))=S1 at e hr hl1 hss
 have w:=afa e (by simp)
 rcases q with rfl | ⟨i,t,rfl,hi⟩
 ·refine ⟨0,[],?_,Int.le_refl 0,hm,Nat.zero_le _⟩
  rw [hS1]
  have hr':S1[k]?=some (.lst []):=hr
  have tk:List.take S.length S1=S1:=List.take_of_length_le (by omega)
  unfold aax fnM af5
  simp [aa5,sSeq,w,sIf,mTst,mBin,mR,aac,mVar,mC,mNil,Res.bind,ab4,abA,rd,hr',okO,fLen,abn,fEq,eqN,tst,SRes.of,sRet,aa0,ab3,tk]
 ·have hr':S1[k]?=some (.lst (.int i :: t.map .int)):=hr
  refine ⟨i.fmod m,i.fdiv m :: t,?_,Int.fmod_nonneg_of_pos i hm,Int.fmod_lt_of_pos i hm,l⟩
  rw [← hss]
  have tk:∀ x,List.take S.length (S1.set k x)=S1.set k x:=fun x=>List.take_of_length_le (by simp; omega)
  have hl:¬ ((t.length:Int)+1=0):=by omega
  have hq:ahi i m:=⟨by omega,b⟩
  have hm0:m≠0:=by omega
  unfold aax fnM af5
  simp [aa5,sSeq,w,sIf,mTst,mBin,mR,aac,mVar,mC,mNil,Res.bind,ab4,abA,rd,hr',okO,fLen,abn,fEq,eqN,tst,SRes.of,sRet,aa0,ab3,tk,sNil,hl,sSet,fMod,act,i2,cI,fIx,atI,ixN,hm0,hq,akj,aho,akS]
theorem aam (i j:Int):fGt (.int i) (.int j)=some (.bl (decide (j < i))):=rfl
theorem aap (i j:Int):fLt (.int i) (.int j)=some (.bl (decide (i < j))):=rfl
theorem aan (i j:Int):fGe (.int i) (.int j)=some (.bl (decide (j≤i))):=rfl
theorem aao (i j:Int):fLe (.int i) (.int j)=some (.bl (decide (i≤j))):=rfl
theorem aag (i j:Int):fSub (.int i) (.int j)=some (.int (i - j)):=rfl
theorem ab6 {i j:Int} (h:ahg i j):fMul (.int i) (.int j)=some (.int (i*j)):=by
 simp [fMul,i2,cI,h]
theorem aeI {i j:Int} (h:ahi i j):act (.int i) (.int j)=some (.int (i.fdiv j)):=by
 simp [act,i2,cI,h]
theorem adk {i j:Int} (h:j≠0):fMod (.int i) (.int j)=some (.int (i.fmod j)):=by
 simp [fMod,i2,cI,h]
theorem afr {i j:Int} (h:CPow i j):fPow (.int i) (.int j)=some (.int (i ^ j.toNat)):=by
 simp [fPow,i2,cI,h]
theorem aiZ (n:Int) (S:Sto):ad3 [.pv (.int n)] S=.ok (.pv (.int (sg n))) S:=by
 unfold ad3 fnM ajQ sg
 by_cases h1:0 < n
 ·simp [aa5,sSeq,sIf,mTst,mBin,mVar,mC,Res.bind,abn,rd,okO,fGt,i2,tst,SRes.of,sRet,aa0,ab3,h1]
 ·by_cases h2:n < 0
  ·simp [aa5,sSeq,sIf,mTst,mBin,mVar,mC,Res.bind,abn,rd,okO,fGt,fLt,i2,tst,SRes.of,sRet,aa0,ab3,h1,h2,sNil,mUn,acj,fNeg]
  ·simp [aa5,sSeq,sIf,mTst,mBin,mVar,mC,Res.bind,abn,rd,okO,fGt,fLt,i2,tst,SRes.of,sRet,aa0,ab3,h1,h2,sNil,mUn,acj,fNeg]
theorem adY (S:Sto):∀ (m:Nat) (a b:Int) (x:Option AV),b.natAbs≤m→∃ (n:Nat) (g:Int) (x':Option AV),aa6 (mTst (mBin fNe (mVar 1) (mC (.int 0)))) (sSeq (sSet 2 (mBin fMod (mVar 0) (mVar 1))) (sSeq (sSet 0 (mVar 1)) (sSet 1 (mVar 2)))) n [some (.pv (.int a)),some (.pv (.int b)),x] S=.nx [some (.pv (.int g)),some (.pv (.int 0)),x'] S∧g.natAbs=Int.gcd a b
 | 0,a,b,x,h=>by
  have hb:b=0:=by omega
  subst hb
  refine ⟨1,a,x,?_,by simp⟩
  simp [aa6,aa5,sSeq,sIf,mTst,mNot,mAnd,mOr,abR,mOrV,mIf,mBin,mUn,mR,mN,aac,mVar,mC,mNil,Res.bind,acj,abn,ab4,aca,abA,rd,abN,okO,fLen,fAbs,aaj,aal,fTup,fLst,fIx,atI,ixN,fEq,fNe,eqN,aam,aap,aan,aao,fAdd,aag,fNeg,fNot,tst,SRes.of,sRet,acD,sNil,abx,sSet,aa0,ab3,aak,aaN,abo,frz,aar]
 | m+1,a,b,x,h=>by
  by_cases hb:b=0
  ·subst hb
   refine ⟨1,a,x,?_,by simp⟩
   simp [aa6,aa5,sSeq,sIf,mTst,mNot,mAnd,mOr,abR,mOrV,mIf,mBin,mUn,mR,mN,aac,mVar,mC,mNil,Res.bind,acj,abn,ab4,aca,abA,rd,abN,okO,fLen,fAbs,aaj,aal,fTup,fLst,fIx,atI,ixN,fEq,fNe,eqN,aam,aap,aan,aao,fAdd,aag,fNeg,fNot,tst,SRes.of,sRet,acD,sNil,abx,sSet,aa0,ab3,aak,aaN,abo,frz,aar]
  ·have hl:=agY a hb
   obtain ⟨n,g,x',e,q⟩:=adY S m b (a.fmod b) (some (.pv (.int (a.fmod b)))) (by omega)
   refine ⟨n+1,g,x',?_,by rw [q,aij]⟩
   rw [← e]
   simp [aa6,aa5,sSeq,sIf,mTst,mNot,mAnd,mOr,abR,mOrV,mIf,mBin,mUn,mR,mN,aac,mVar,mC,mNil,Res.bind,acj,abn,ab4,aca,abA,rd,abN,okO,fLen,fAbs,aaj,aal,fTup,fLst,fIx,atI,ixN,fEq,fNe,eqN,aam,aap,aan,aao,fAdd,aag,fNeg,fNot,tst,SRes.of,sRet,acD,sNil,abx,sSet,aa0,ab3,aak,aaN,abo,frz,aar,adk hb,hb]
theorem afN (a b:Int) (S:Sto):ab7 [.pv (.int a),.pv (.int b)] S=.ok (.pv (.int (Int.gcd a b:Nat))) S:=by
 obtain ⟨n,g,x',e,q⟩:=adY S b.natAbs a b none (Nat.le_refl _)
 have w:=afa e (by simp)
 unfold ab7 fnM aeJ
 have hg:(if g < 0 then -g else g)=((Int.gcd a b:Nat):Int):=by rw [← q]; exact ajO g
 simp [aa5,sSeq,sIf,mTst,mNot,mAnd,mOr,abR,mOrV,mIf,mBin,mUn,mR,mN,aac,mVar,mC,mNil,Res.bind,acj,abn,ab4,aca,abA,rd,abN,okO,fLen,fAbs,aaj,aal,fTup,fLst,fIx,atI,ixN,fEq,fNe,eqN,aam,aap,aan,aao,fAdd,aag,fNeg,fNot,tst,SRes.of,sRet,acD,sNil,abx,sSet,aa0,ab3,aak,aaN,abo,frz,aar,w,hg]
theorem agr (S:Sto):∀ (m:Nat) (a b:Int),0≤a→0≤b→b.natAbs≤m→∃ (n:Nat),aa6 (mTst (mBin fGt (mVar 1) (mC (.int 0)))) (sPar 0 1 (aac (mVar 1) (aac (mBin fMod (mVar 0) (mVar 1)) mNil))) n [some (.pv (.int a)),some (.pv (.int b))] S=.nx [some (.pv (.int (Int.gcd a b:Nat))),some (.pv (.int 0))] S
 | 0,a,b,ha,hb,h=>by
  have hb:b=0:=by omega
  subst hb
  have ea:((Int.gcd a 0:Nat):Int)=a:=by simp; omega
  refine ⟨1,?_⟩
  rw [ea]
  simp [aa6,aa5,sSeq,sIf,mTst,mNot,mAnd,mOr,abR,mOrV,mIf,mBin,mUn,mR,mN,aac,mVar,mC,mNil,Res.bind,acj,abn,ab4,aca,abA,rd,abN,okO,fLen,fAbs,aaj,aal,fTup,fLst,fIx,atI,ixN,fEq,fNe,eqN,aam,aap,aan,aao,fAdd,aag,fNeg,fNot,tst,SRes.of,sRet,acD,sNil,abx,sSet,aa0,ab3,aak,aaN,abo,frz,aar]
 | m+1,a,b,ha,hb,h=>by
  by_cases h0:b=0
  ·subst h0
   have ea:((Int.gcd a 0:Nat):Int)=a:=by simp; omega
   refine ⟨1,?_⟩
   rw [ea]
   simp [aa6,aa5,sSeq,sIf,mTst,mNot,mAnd,mOr,abR,mOrV,mIf,mBin,mUn,mR,mN,aac,mVar,mC,mNil,Res.bind,acj,abn,ab4,aca,abA,rd,abN,okO,fLen,fAbs,aaj,aal,fTup,fLst,fIx,atI,ixN,fEq,fNe,eqN,aam,aap,aan,aao,fAdd,aag,fNeg,fNot,tst,SRes.of,sRet,acD,sNil,abx,sSet,aa0,ab3,aak,aaN,abo,frz,aar]
  ·have hl:=agY a h0
   have hp:0 < b:=by omega
   obtain ⟨n,e⟩:=agr S m b (a.fmod b) hb (Int.fmod_nonneg_of_pos a hp) (by omega)
   refine ⟨n+1,?_⟩
   rw [← aij,← e]
   simp [aa6,aa5,sSeq,sIf,mTst,mNot,mAnd,mOr,abR,mOrV,mIf,mBin,mUn,mR,mN,aac,mVar,mC,mNil,Res.bind,acj,abn,ab4,aca,abA,rd,abN,okO,fLen,fAbs,aaj,aal,fTup,fLst,fIx,atI,ixN,fEq,fNe,eqN,aam,aap,aan,aao,fAdd,aag,fNeg,fNot,tst,SRes.of,sRet,acD,sNil,abx,sSet,aa0,ab3,aak,aaN,abo,frz,aar,adk h0,hp,sPar]
theorem ane (a b:Int) (S:Sto):afl [.pv (.int a),.pv (.int b)] S=.ok (.pv (.int (Int.gcd a b:Nat))) S:=by
 have ha:0≤(if a < 0 then -a else a):=by split <;> omega
 have hb:0≤(if b < 0 then -b else b):=by split <;> omega
 obtain ⟨n,e⟩:=agr S _ _ _ ha hb (Nat.le_refl _)
 have w:=afa e (by simp)
 have eg:Int.gcd (if a < 0 then -a else a) (if b < 0 then -b else b)=Int.gcd a b:=by
  rw [ajO,ajO]
  simp [Int.gcd]
 rw [eg] at w
 unfold afl fnM aj4
 simp [aa5,sSeq,sIf,mTst,mNot,mAnd,mOr,abR,mOrV,mIf,mBin,mUn,mR,mN,aac,mVar,mC,mNil,Res.bind,acj,abn,ab4,aca,abA,rd,abN,okO,fLen,fAbs,aaj,aal,fTup,fLst,fIx,atI,ixN,fEq,fNe,eqN,aam,aap,aan,aao,fAdd,aag,fNeg,fNot,tst,SRes.of,sRet,acD,sNil,abx,sSet,aa0,ab3,aak,aaN,abo,frz,aar,w]
theorem ahU (S:Sto) (v2:Option AV):∀ (ns:List Int) (g:Int) (a:AV),∃ v',acA [] (gN 2) (sSet 1 (aak afl [] (aac (mVar 1) (aac (mVar 2) mNil)))) (ns.map .int) [some a,some (.pv (.int g)),v2] S=.nx [some a,some (.pv (.int (gl ns g))),v'] S
 | [],g,a=>⟨v2,abP⟩
 | n :: ns,g,a=>by
  obtain ⟨v',e⟩:=ahU S (some (.pv (.int n))) ns (Int.gcd g n:Nat) a
  refine ⟨v',?_⟩
  show acA [] _ _ (.int n :: ns.map .int) _ S=_
  rw [abj]
  simp [gN,aa5,sSeq,sIf,mTst,mNot,mAnd,mOr,abR,mOrV,mIf,mBin,mUn,mR,mN,aac,mVar,mC,mNil,Res.bind,acj,abn,ab4,aca,abA,rd,abN,okO,fLen,fAbs,aaj,aal,fTup,fLst,fIx,atI,ixN,fEq,fNe,eqN,aam,aap,aan,aao,fAdd,aag,fNeg,fNot,tst,SRes.of,sRet,acD,sNil,abx,sSet,aa0,ab3,aak,aaN,abo,frz,aar,ane]
  exact e
theorem af1 (S:Sto) (g:Int) (hg:g≠0) (b:Bd 8000 g):∀ (ns:List Int) (x:Option AV),abr [] (gN 0) (mBin act (mVar 0) (mVar 1)) (ns.map .int) [x,some (.pv (.int g))] S=.ok ((ns.map fun n=>n.fdiv g).map .int) S
 | [],x=>abJ
 | n :: ns,x=>by
  have ih:=af1 S g hg b ns (some (.pv (.int n)))
  show abr [] _ _ (.int n :: ns.map .int) _ S=_
  rw [abi]
  simp [gN,aa5,sSeq,sIf,mTst,mNot,mAnd,mOr,abR,mOrV,mIf,mBin,mUn,mR,mN,aac,mVar,mC,mNil,Res.bind,acj,abn,ab4,aca,abA,rd,abN,okO,fLen,fAbs,aaj,aal,fTup,fLst,fIx,atI,ixN,fEq,fNe,eqN,aam,aap,aan,aao,fAdd,aag,fNeg,fNot,tst,SRes.of,sRet,acD,sNil,abx,sSet,aa0,ab3,aak,aaN,abo,frz,aar,aeI (show ahi n g from ⟨hg,b⟩),ih]
theorem adQ (ns:List Int) (S:Sto) (hb:∀ n∈ns,Bd 8000 n):aaZ [.pv (.lst (ns.map .int))] S=.ok (.pv (.tup ((low ns).map .int))) S:=by
 obtain ⟨v',e⟩:=ahU S none ns 0 (.pv (.lst (ns.map .int)))
 unfold aaZ fnM ae8
 by_cases h:gl ns 0=0
 ·have el:low ns=ns:=by unfold low; rw [if_pos h]
  simp [aa5,sSeq,sIf,mTst,mNot,mAnd,mOr,abR,mOrV,mIf,mBin,mUn,mR,mN,aac,mVar,mC,mNil,Res.bind,acj,abn,ab4,aca,abA,rd,abN,okO,fLen,fAbs,aaj,aal,fTup,fLst,fIx,atI,ixN,fEq,fNe,eqN,aam,aap,aan,aao,fAdd,aag,fNeg,fNot,tst,SRes.of,sRet,acD,sNil,abx,sSet,aa0,ab3,aak,aaN,abo,frz,aar,sFor,mIt,ab2,e,h,el]
 ·have el:low ns=ns.map fun n=>n.fdiv (gl ns 0):=by
   unfold low
   rw [if_neg h]
   exact List.map_congr_left fun n hn=>(Int.fdiv_eq_ediv_of_dvd ((ad7 ns 0).2 n hn)).symm
  have bg:Bd 8000 (gl ns 0):=amq (Bd.of (n:=0) (by simp) (Nat.two_pow_pos 8000)) hb
  have ec:=af1 S (gl ns 0) h bg ns none
  simp [aa5,sSeq,sIf,mTst,mNot,mAnd,mOr,abR,mOrV,mIf,mBin,mUn,mR,mN,aac,mVar,mC,mNil,Res.bind,acj,abn,ab4,aca,abA,rd,abN,okO,fLen,fAbs,aaj,aal,fTup,fLst,fIx,atI,ixN,fEq,fNe,eqN,aam,aap,aan,aao,fAdd,aag,fNeg,fNot,tst,SRes.of,sRet,acD,sNil,abx,sSet,aa0,ab3,aak,aaN,abo,frz,aar,sFor,mIt,ab2,e,h,el,aa9,cmpR,ec]
theorem akM (n:Int) (S:Sto):ac2 [.pv (.int n)] S=.ok (.pv (.bl true)) S:=by
 unfold ac2 fnM afZ
 simp [aa5,sSeq,sIf,mTst,mNot,mAnd,mOr,abR,mOrV,mIf,mBin,mUn,mR,mN,aac,mVar,mC,mNil,Res.bind,acj,abn,ab4,aca,abA,rd,abN,okO,fLen,fAbs,aaj,aal,fTup,fLst,fIx,atI,ixN,fEq,fNe,eqN,aam,aap,aan,aao,fAdd,aag,fNeg,fNot,tst,SRes.of,sRet,acD,sNil,abx,sSet,aa0,ab3,aak,aaN,abo,frz,aar,fIsi]
theorem aeV (S:Sto):∀ (ns:List Int) (x:Option AV),abr [] (gN 0) (aak ac2 [] (aac (mVar 0) mNil)) (ns.map .int) [x] S=.ok (ns.map fun _=>.bl true) S
 | [],x=>abJ
 | n :: ns,x=>by
  have ih:=aeV S ns (some (.pv (.int n)))
  show abr [] _ _ (.int n :: ns.map .int) _ S=_
  rw [abi]
  simp [gN,aa5,sSeq,sIf,mTst,mNot,mAnd,mOr,abR,mOrV,mIf,mBin,mUn,mR,mN,aac,mVar,mC,mNil,Res.bind,acj,abn,ab4,aca,abA,rd,abN,okO,fLen,fAbs,aaj,aal,fTup,fLst,fIx,atI,ixN,fEq,fNe,eqN,aam,aap,aan,aao,fAdd,aag,fNeg,fNot,tst,SRes.of,sRet,acD,sNil,abx,sSet,aa0,ab3,aak,aaN,abo,frz,aar,akM,ih]
theorem ail:∀ (ns:List Int),afv (ns.map fun _=>PV.bl true)=some (ns.map fun _=>true)
 | []=>rfl
 | n :: ns=>by
  show afv (.bl true :: ns.map fun _=>PV.bl true)=_
  unfold afv
  rw [ail ns]
  rfl
theorem ags (ns:List Int) (S:Sto):abH [.pv (.tup (ns.map .int)),.pv (.int ns.length)] S=.ok (.pv (.bl true)) S:=by
 unfold abH fnM aeR
 have e:=aeV S ns none
 have ea:((ns.map fun _=>true).all id)=true:=by simp
 simp [aa5,sSeq,sIf,mTst,mNot,mAnd,mOr,abR,mOrV,mIf,mBin,mUn,mR,mN,aac,mVar,mC,mNil,Res.bind,acj,abn,ab4,aca,abA,rd,abN,okO,fLen,fAbs,aaj,aal,fTup,fLst,fIx,atI,ixN,fEq,fNe,eqN,aam,aap,aan,aao,fAdd,aag,fNeg,fNot,tst,SRes.of,sRet,acD,sNil,abx,sSet,aa0,ab3,aak,aaN,abo,frz,aar,fIsi,aa9,mIt,ab2,cmpR,e,fAll,ail]
theorem ajR:∀ (n:Nat) (ns:List Int),acN (List.zipWith (eqN n) (ns.map .int) (ns.map .int))=some (ns.map fun _=>true)
 | n,[]=>rfl
 | n,m :: ns=>by
  have ih:=ajR n ns
  simp only [List.map_cons,List.zipWith_cons_cons]
  have e:eqN n (.int m) (.int m)=some true:=by cases n <;> simp [eqN]
  rw [e]
  unfold acN
  rw [ih]
theorem ajN (n:Nat) (ns:List Int):eqN (n+1) (.tup (ns.map .int)) (.tup (ns.map .int))=some true:=by
 rw [eqN,ajR]
 simp
theorem af2 (i:Int) {j:Int} (h1:-(2 ^ 64) < j) (h2:j < 2 ^ 64):fMul (.int i) (.int j)=some (.int (i*j)):=ab6 (.inl (.inr ⟨h1,h2⟩))
theorem p18:fPow (.int 10) (.int 18)=some (.int 1000000000000000000):=afr (i:=10) (j:=18) ⟨by decide,by decide,by decide⟩
theorem af4 {k:Nat} {a:AV}:∀ (cs:List Int) (n:Nat) (acc:List Int) (S:Sto) (v2 v3 v4 v5 v6:Option AV),Row S k acc→acc.length+cs.length≤63→n+cs.length≤63→∃ (acc':List Int) (w2 w3 w4 w5 w6:Option AV),acA [] (gT 2 (aco (gN 2) (aco (gN 3) ae0))) ((sIf (mTst (mBin fGe (mVar 3) (mBin fPow (mC (.int 10)) (mC (.int 18))))) (abx (mApp (mVar 1) (aac (mBin fSub (mVar 3) (mBin fPow (mC (.int 10)) (mC (.int 18)))) mNil))) (sSeq (sSet 4 (mBin fMod (mBin fMul (mBin fAdd (mBin fAdd (mBin fAdd (mVar 3) (mBin fMul (mBin fMul (mC (.int 7)) (mVar 2)) (mVar 2))) (mBin fMul (mC (.int 13)) (mVar 2))) (mC (.int 5))) (mC (.int 48271))) (mC (.int 2147483647))))
 (sSeq (sSet 5 (mBin fMod (mBin fMul (mBin fAdd (mBin fAdd (mBin fAdd (mVar 3) (mBin fMul (mBin fMul (mC (.int 11)) (mVar 2)) (mVar 2))) (mBin fMul (mC (.int 17)) (mVar 2))) (mC (.int 3))) (mC (.int 40692))) (mC (.int 2147483399))))
 (sSeq (sSet 6 (mBin fMod (mBin fMul (mBin fAdd (mBin fAdd (mBin fAdd (mVar 3) (mBin fMul (mBin fMul (mC (.int 5)) (mVar 2)) (mVar 2))) (mBin fMul (mC (.int 29)) (mVar 2))) (mC (.int 8))) (mC (.int 39373))) (mC (.int 2147483587))))
 (sSeq (sSet 4 (mBin fMod (mBin fMul (mVar 4) (mC (.int 52021))) (mC (.int 1000000007))))
 (sSeq (sSet 5 (mBin fMod (mBin fMul (mVar 5) (mC (.int 30011))) (mC (.int 998244353))))
 (sSeq (sSet 6 (mBin fMod (mBin fMul (mVar 6) (mC (.int 45989))) (mC (.int 1000000009))))
 (abx (mApp (mVar 1) (aac (mBin fAdd (mBin fMul (mBin fAdd (mBin fMul (mVar 4) (mC (.int 998244353))) (mVar 5)) (mC (.int 1000000009))) (mVar 6)) mNil))))))))))) (adR n (cs.map .int)) [some a,some (.ref k),v2,v3,v4,v5,v6] S=.nx [some a,some (.ref k),w2,w3,w4,w5,w6] (S.set k (.lst (acc'.map .int)))∧acc'.length≤63
 | [],n,acc,S,v2,v3,v4,v5,v6,h,hl,_=>by
  refine ⟨acc,v2,v3,v4,v5,v6,?_,by simpa using hl⟩
  have e:S.set k (.lst (acc.map .int))=S:=List.ext_getElem? fun j=>by
   by_cases q:k=j
   ·subst q; rw [List.getElem?_set_self h.lt]; exact h.symm
   ·rw [List.getElem?_set_ne q]
  rw [e]
  exact abP
 | x :: cs,n,acc,S,v2,v3,v4,v5,v6,h,hl,hn=>by
  simp only [List.length_cons] at hl hn
  have h':S[k]?=some (.lst (acc.map .int)):=h
  have hlen:acc.length < 16777216:=by omega
  have hk1:-(2 ^ 64) < (n:Int):=by omega
  have hk2:(n:Int) < 2 ^ 64:=by omega
  by_cases c:(1000000000000000000:Int)≤x
  ·obtain ⟨acc',w2,w3,w4,w5,w6,e,q⟩:=af4 (k:=k) (a:=a) cs (n+1) (acc++[x - 1000000000000000000]) (S.set k (.lst ((acc++[x - 1000000000000000000]).map .int))) (some (.pv (.int n))) (some (.pv (.int x))) v4 v5 v6 (h.set _) (by simp; omega) (by omega)
   refine ⟨acc',w2,w3,w4,w5,w6,?_,q⟩
   rw [List.set_set] at e
   rw [← e]
   show acA [] _ _ (.tup [.int n,.int x] :: adR (n+1) (cs.map .int)) _ S=_
   rw [abj]
   simp [gT,aco,ae0,gN,aa5,sSeq,sIf,mTst,mNot,mAnd,mOr,abR,mOrV,mIf,mBin,mUn,mR,mN,aac,mVar,mC,mNil,Res.bind,acj,abn,ab4,aca,abA,rd,abN,okO,fLen,fAbs,aaj,aal,fTup,fLst,fIx,atI,ixN,fEq,fNe,eqN,aam,aap,aan,aao,fAdd,aag,fNeg,fNot,tst,SRes.of,sRet,acD,sNil,abx,sSet,aa0,ab3,aak,aaN,abo,frz,aar,p18,c,mApp,aho,akZ,h',hlen]
  ·obtain ⟨acc',w2,w3,w4,w5,w6,e,q⟩:=af4 (k:=k) (a:=a) cs (n+1) (acc++[((((x+7*n*n+13*n+5)*48271).fmod 2147483647*52021).fmod 1000000007*998244353+(((x+11*n*n+17*n+3)*40692).fmod 2147483399*30011).fmod 998244353)*1000000009+(((x+5*n*n+29*n+8)*39373).fmod 2147483587*45989).fmod 1000000009]) (S.set k (.lst ((acc++[((((x+7*n*n+13*n+5)*48271).fmod 2147483647*52021).fmod 1000000007*998244353+(((x+11*n*n+17*n+3)*40692).fmod 2147483399*30011).fmod 998244353)*1000000009+(((x+5*n*n+29*n+8)*39373).fmod 2147483587*45989).fmod 1000000009]).map .int))) (some (.pv (.int n))) (some (.pv (.int x))) (some (.pv (.int ((((x+7*n*n+13*n+5)*48271).fmod 2147483647*52021).fmod 1000000007)))) (some (.pv (.int ((((x+11*n*n+17*n+3)*40692).fmod 2147483399*30011).fmod 998244353)))) (some (.pv (.int ((((x+5*n*n+29*n+8)*39373).fmod 2147483587*45989).fmod 1000000009)))) (h.set _) (by simp; omega) (by omega)
   refine ⟨acc',w2,w3,w4,w5,w6,?_,q⟩
   rw [List.set_set] at e
   rw [← e]
   show acA [] _ _ (.tup [.int n,.int x] :: adR (n+1) (cs.map .int)) _ S=_
   rw [abj]
   simp [gT,aco,ae0,gN,aa5,sSeq,sIf,mTst,mNot,mAnd,mOr,abR,mOrV,mIf,mBin,mUn,mR,mN,aac,mVar,mC,mNil,Res.bind,acj,abn,ab4,aca,abA,rd,abN,okO,fLen,fAbs,aaj,aal,fTup,fLst,fIx,atI,ixN,fEq,fNe,eqN,aam,aap,aan,aao,fAdd,aag,fNeg,fNot,tst,SRes.of,sRet,acD,sNil,abx,sSet,aa0,ab3,aak,aaN,abo,frz,aar,p18,c,mApp,aho,akZ,h',hlen,af2 _ hk1 hk2,af2 _ (show -(2 ^ 64) < (48271:Int) by decide) (by decide),af2 _ (show -(2 ^ 64) < (40692:Int) by decide) (by decide),af2 _ (show -(2 ^ 64) < (39373:Int) by decide) (by decide),af2 _ (show -(2 ^ 64) < (52021:Int) by decide) (by decide),af2 _ (show -(2 ^ 64) < (30011:Int) by decide) (by decide),af2 _ (show -(2 ^ 64) < (45989:Int) by decide) (by decide),af2 _ (show -(2 ^ 64) < (998244353:Int) by decide) (by decide),af2 _ (show -(2 ^ 64) < (1000000009:Int) by decide) (by decide),
    adk (show (2147483647:Int)≠0 by decide),adk (show (2147483399:Int)≠0 by decide),adk (show (2147483587:Int)≠0 by decide),adk (show (1000000007:Int)≠0 by decide),adk (show (998244353:Int)≠0 by decide),adk (show (1000000009:Int)≠0 by decide)]
theorem aoh (ns:List Int) (S:Sto) (h:ns.length≤63):∃ ms:List Int,aeU [.pv (.lst (ns.map .int))] S=.ok (.ref S.length) (S++[.lst (ms.map .int)])∧ms.length≤63:=by
 have hr:Row (S++[.lst []]) S.length []:=by unfold Row; simp
 obtain ⟨ms,w2,w3,w4,w5,w6,e,q⟩:=af4 (a:=.pv (.lst (ns.map .int))) ns 0 [] (S++[.lst []]) none none none none none hr (by simpa using h) (by simpa using h)
 have ec:cutP (ns.map .int) none (some 63)=ns.map .int:=by
  unfold cutP
  have e1:HT.sIx (ns.map PV.int).length 0 none=0:=rfl
  have e2:HT.sIx (ns.map PV.int).length (ns.map PV.int).length (some 63)=(ns.map PV.int).length:=by
   have:=HT.sIx_nat (ns.map PV.int).length (ns.map PV.int).length 63
   rw [show ((63:Nat):Int)=63 from rfl] at this
   rw [this,List.length_map]
   omega
  rw [e1,e2,List.drop_zero,Nat.sub_zero,List.take_length]
 refine ⟨ms,?_,q⟩
 have es:(S++[SO.lst []]).set S.length (.lst (ms.map .int))=S++[.lst (ms.map .int)]:=by simp
 rw [es] at e
 unfold aeU fnM aiV
 simp [aa5,sSeq,sIf,mTst,mNot,mAnd,mOr,abR,mOrV,mIf,mBin,mUn,mR,mN,aac,mVar,mC,mNil,Res.bind,acj,abn,ab4,aca,abA,rd,abN,okO,fLen,fAbs,aaj,aal,fTup,fLst,fIx,atI,ixN,fEq,fNe,eqN,aam,aap,aan,aao,fAdd,aag,fNeg,fNot,tst,SRes.of,sRet,acD,sNil,abx,sSet,aa0,ab3,aak,aaN,abo,frz,aar,sFor,mNew,alN,alY,mSl,mO0,mO1,abl,fSl,aj7,ec,e]
def PT (L:List Int) (b:Int):List Int:=(low (L++[b])).map (sg b*·)
theorem gl_b {L:List Int} {b:Int} (hb:b≠0):gl (L++[b]) 0≠0:=ajS (acP L b) hb
theorem anC {L:List Int} {b:Int} (hb:0 < b):PT L b=low (L++[b]):=by
 unfold PT sg
 rw [if_pos hb]
 conv=>rhs; rw [← List.map_id (low (L++[b]))]
 exact List.map_congr_left fun n _=>Int.one_mul n
theorem ahI (S:Sto) (v2:Option AV):∀ (ns:List Int) (g:Int) (a:AV),∃ v',acA [] (gN 2) (sSet 1 (aak ab7 [] (aac (mVar 1) (aac (mVar 2) mNil)))) (ns.map .int) [some a,some (.pv (.int g)),v2] S=.nx [some a,some (.pv (.int (gl ns g))),v'] S
 | [],g,a=>⟨v2,abP⟩
 | n :: ns,g,a=>by
  obtain ⟨v',e⟩:=ahI S (some (.pv (.int n))) ns (Int.gcd g n:Nat) a
  refine ⟨v',?_⟩
  show acA [] _ _ (.int n :: ns.map .int) _ S=_
  rw [abj]
  simp [gN,aa5,sSeq,sIf,mTst,mNot,mAnd,mOr,abR,mOrV,mIf,mBin,mUn,mR,mN,aac,mVar,mC,mNil,Res.bind,acj,abn,ab4,aca,abA,rd,abN,okO,fLen,fAbs,aaj,aal,fTup,fLst,fIx,atI,ixN,fEq,fNe,eqN,aam,aap,aan,aao,fAdd,aag,fNeg,fNot,tst,SRes.of,sRet,acD,sNil,abx,sSet,aa0,ab3,aak,aaN,abo,frz,aar,afN]
  exact e
theorem aiu (ns:List Int) (S:Sto) (hb:∀ n∈ns,Bd 8000 n) (h:gl ns 0≠0):acW [.pv (.lst (ns.map .int))] S=.ok (.pv (.lst ((low ns).map .int))) S:=by
 obtain ⟨v',e⟩:=ahI S none ns 0 (.pv (.lst (ns.map .int)))
 have el:low ns=ns.map fun n=>n.fdiv (gl ns 0):=by
  unfold low
  rw [if_neg h]
  exact List.map_congr_left fun n hn=>(Int.fdiv_eq_ediv_of_dvd ((ad7 ns 0).2 n hn)).symm
 have bg:Bd 8000 (gl ns 0):=amq (Bd.of (n:=0) (by simp) (Nat.two_pow_pos 8000)) hb
 have ec:=af1 S (gl ns 0) h bg ns none
 unfold acW fnM aeM
 simp [aa5,sSeq,sIf,mTst,mNot,mAnd,mOr,abR,mOrV,mIf,mBin,mUn,mR,mN,aac,mVar,mC,mNil,Res.bind,acj,abn,ab4,aca,abA,rd,abN,okO,fLen,fAbs,aaj,aal,fTup,fLst,fIx,atI,ixN,fEq,fNe,eqN,aam,aap,aan,aao,fAdd,aag,fNeg,fNot,tst,SRes.of,sRet,acD,sNil,abx,sSet,aa0,ab3,aak,aaN,abo,frz,aar,sFor,mIt,ab2,e,h,el,aa9,cmpR,ec]
theorem aia (S:Sto) (b:Int):∀ (ns:List Int) (x:Option AV),abr [] (gN 0) (mBin fMul (aak ad3 [] (aac (mVar 1) mNil)) (mVar 0)) (ns.map .int) [x,some (.pv (.int b))] S=.ok ((ns.map (sg b*·)).map .int) S
 | [],x=>abJ
 | n :: ns,x=>by
  have ih:=aia S b ns (some (.pv (.int n)))
  have hm:fMul (.int (sg b)) (.int n)=some (.int (sg b*n)):=ab6 (.inl (.inl (ak5 b)))
  show abr [] _ _ (.int n :: ns.map .int) _ S=_
  rw [abi]
  simp [gN,aa5,sSeq,sIf,mTst,mNot,mAnd,mOr,abR,mOrV,mIf,mBin,mUn,mR,mN,aac,mVar,mC,mNil,Res.bind,acj,abn,ab4,aca,abA,rd,abN,okO,fLen,fAbs,aaj,aal,fTup,fLst,fIx,atI,ixN,fEq,fNe,eqN,aam,aap,aan,aao,fAdd,aag,fNeg,fNot,tst,SRes.of,sRet,acD,sNil,abx,sSet,aa0,ab3,aak,aaN,abo,frz,aar,aiZ,hm,ih]
theorem alb {w:PV} (L:List Int) (b:Int) (S:Sto) (hw:w=.lst (L.map .int)∨w=.tup (L.map .int)) (hL:∀ n∈L,Bd 8000 n) (bb:Bd 8000 b) (hb:b≠0) (hl:L.length≤100):adF [.pv w,.pv (.int b)] S=.ok (.pv (.tup ((PT L b).map .int))) S:=by
 have e1:=aiu (L++[b]) S (fun n hn=>by
  rcases List.mem_append.mp hn with z | z
  ·exact hL n z
  ·have:n=b:=by simpa using z
   rw [this]; exact bb) (gl_b hb)
 have e2:=aia S b (low (L++[b])) none
 have hz:L.length+1≤16777216:=by omega
 simp only [List.map_append,List.map_cons,List.map_nil] at e1
 unfold PT adF fnM aeY
 rcases hw with rfl | rfl <;> simp [aa5,sSeq,sIf,mTst,mNot,mAnd,mOr,abR,mOrV,mIf,mBin,mUn,mR,mN,aac,mVar,mC,mNil,Res.bind,acj,abn,ab4,aca,abA,rd,abN,okO,fLen,fAbs,aaj,aal,fTup,fLst,fIx,atI,ixN,fEq,fNe,eqN,aam,aap,aan,aao,fAdd,aag,fNeg,fNot,tst,SRes.of,sRet,acD,sNil,abx,sSet,aa0,ab3,aak,aaN,abo,frz,aar,hb,hz,e1,mIt,ab2,aa9,cmpR,e2]
theorem aky (zs:List Int) (z:Int):cutP ((zs++[z]).map .int) none (some (-1))=zs.map .int:=by
 unfold cutP
 have e1:HT.sIx ((zs++[z]).map PV.int).length 0 none=0:=rfl
 have e2:HT.sIx ((zs++[z]).map PV.int).length ((zs++[z]).map PV.int).length (some (-1))=zs.length:=by
  rw [List.length_map,List.length_append]
  exact ahW zs.length _
 rw [e1,e2]
 simp
theorem aj8 (zs:List Int) (z:Int):¬ (HT.sIx ((zs++[z]).map PV.int).length 0 none=0∧HT.sIx ((zs++[z]).map PV.int).length ((zs++[z]).map PV.int).length (some (-1))=((zs++[z]).map PV.int).length):=by
 rintro ⟨_,e⟩
 have e2:HT.sIx ((zs++[z]).map PV.int).length ((zs++[z]).map PV.int).length (some (-1))=zs.length:=by
  rw [List.length_map,List.length_append]
  exact ahW zs.length _
 rw [e2,List.length_map,List.length_append] at e
 simp at e
theorem ahL (zs:List Int) (z:Int):fSl (.tup ((zs++[z]).map .int)) none (some (-1))=some (.tup (zs.map .int)):=by
 unfold fSl
 dsimp only
 rw [if_neg (aj8 zs z),aky]
theorem ah6 (zs:List Int) (z:Int):fIx (.tup ((zs++[z]).map .int)) (.int (-1))=some (.int z):=by
 show atI ((zs++[z]).map PV.int) (-1)=_
 rw [List.map_append]
 exact akz _ _
theorem sm8 {m:Int} (h0:0≤m) (h:m < 1024):Bd 8000 m:=Bd.of (n:=1023) (by omega) (Nat.lt_of_lt_of_le (show 1023 < 2 ^ 10 by decide) (Nat.pow_le_pow_right (by decide) (by decide)))
theorem ady (n:Nat) (a b:Int):eqN n (.int a) (.int b)=some (a == b):=by cases n <;> rfl
structure Pq (n k:Nat) (xs:List Int) (w:Int):Prop where
 len:xs.length=n
 pos:0 < w
 low:low (xs++[w])=xs++[w]
 bx:∀ x∈xs,Bd k x
 bw:Bd k w
def Vl (n:Nat) (xs:List Int) (w:Int) (N:Nat→Int) (D:Int):Prop:=∀ j,j < n→xs.getD j 0*D=N j*w
theorem Vl.self (n:Nat) (xs:List Int) (w:Int):Vl n xs w (fun j=>xs.getD j 0) w:=fun _ _=>rfl
theorem anV {a b c:Int} (h:0 < c) (e:a*c=b*c):a=b:=Int.eq_of_mul_eq_mul_right (by omega) e
theorem Pq.same {n k k':Nat} {xs ys:List Int} {w v:Int} (P:Pq n k xs w) (Q:Pq n k' ys v) (h:∀ j,j < n→xs.getD j 0*v=ys.getD j 0*w):xs++[w]=ys++[v]:=by
 rw [← P.low,← Q.low]
 refine ahJ (k:=v) (m:=w) Q.pos P.pos (ajS (acP xs w) (by have:=P.pos; omega)) ?_
 rw [List.map_append,List.map_append]
 congr 1
 ·refine List.ext_getElem (by simp [P.len,Q.len]) fun j h1 h2=>?_
  have hj:j < n:=by rw [← P.len]; simpa using h1
  have e:=h j hj
  have a1:xs.getD j 0=xs[j]'(by rw [P.len]; exact hj):=by simp [List.getD,P.len,hj]
  have a2:ys.getD j 0=ys[j]'(by rw [Q.len]; exact hj):=by simp [List.getD,Q.len,hj]
  rw [a1,a2] at e
  rw [List.getElem_map,List.getElem_map]
  rw [Int.mul_comm v,Int.mul_comm w]
  exact e
 ·simp only [List.map_cons,List.map_nil]
  rw [Int.mul_comm]
theorem Pq.eq {n k k':Nat} {xs ys:List Int} {w v:Int} {N M:Nat→Int} {D E:Int} (P:Pq n k xs w) (Q:Pq n k' ys v) (a:Vl n xs w N D) (b:Vl n ys v M E) (hD:0 < D) (hE:0 < E) (h:∀ j,j < n→N j*E=M j*D):xs++[w]=ys++[v]:=by
 refine P.same Q fun j hj=>?_
 have e1:=a j hj
 have e2:=b j hj
 have e3:=h j hj
 refine anV (c:=D*E) (Int.mul_pos hD hE) ?_
 grind
theorem ajZ (t b:Int) (S:Sto) (ht:Bd 8000 t) (hb:Bd 8000 b):aci [.pv (.int t),.pv (.int b)] S=.ok (.pv (.tup ((fr t b).map .int))) S:=by
 unfold aci fnM ahm fr
 have e1:=adQ [0 - t,0 - b] S (by
  intro n hn
  rcases List.mem_cons.mp hn with rfl | hn
  ·rw [Int.zero_sub]; exact ht.neg
  ·have:n=0 - b:=by simpa using hn
   rw [this,Int.zero_sub]; exact hb.neg)
 have e2:=adQ [t,b] S (by
  intro n hn
  rcases List.mem_cons.mp hn with rfl | hn
  ·exact ht
  ·have:n=b:=by simpa using hn
   rw [this]; exact hb)
 by_cases h:b < 0
 ·simp only [List.map_cons,List.map_nil,Int.zero_sub] at e1
  simp [EC,fAbs,aaj,aal,fIx,atI,ixN,fEq,fNe,eqN,aam,aap,aan,aao,fAdd,aag,frz,aar,h,e1]
 ·simp only [List.map_cons,List.map_nil] at e2
  simp [EC,fAbs,aaj,aal,fIx,atI,ixN,fEq,fNe,eqN,aam,aap,aan,aao,fAdd,aag,frz,aar,h,e2]
theorem ae9 (t b:Int) (S:Sto) (ht:Bd 7000 t) (hb:Bd 7000 b) (h:b≠0):aaW [.pv (.int t),.pv (.int b)] S=.ok (.pv (.tup ((fr t b).map .int))) S:=by
 have gb:Bd 7000 ((Int.gcd t b:Nat):Int):=ht.gcd hb
 have sb:Bd 2 (sg b):=by
  unfold sg
  split
  ·unfold Bd; simp
  ·split <;> (unfold Bd; simp)
 have mb:ahg (sg b) (Int.gcd t b:Nat):=.inr ⟨sb.mono (by decide),gb.mono (by decide)⟩
 have nz:sg b*(Int.gcd t b:Nat)≠0:=by
  have gp:=aim (mem2 t b) h
  rw [ah8] at gp
  rcases ahX h with ⟨_,s⟩ | ⟨_,s⟩ <;> rw [s] <;> omega
 have qb:∀ x,ahi x (sg b*(Int.gcd t b:Nat)):=fun x=>⟨nz,(sb.mul gb).mono (by decide)⟩
 rw [← ajn h]
 unfold aaW fnM acd
 simp [EC,fAbs,aaj,aal,fIx,atI,ixN,fEq,fNe,eqN,aam,aap,aan,aao,fAdd,aag,frz,aar,h,aiZ,afN,ab6 mb,aeI (qb t),aeI (qb b)]
theorem mBB {k l:Nat} {a b:Int} (h:Bd k a) (g:Bd l b) (hk:k≤1000000:=by decide) (hl:l≤1000000:=by decide):fMul (.int a) (.int b)=some (.int (a*b)):=ab6 (.inr ⟨h.mono hk,g.mono hl⟩)
abbrev v2 (x y w:Int):PV:=.tup [.int x,.int y,.int w]
abbrev v3 (x y z w:Int):PV:=.tup [.int x,.int y,.int z,.int w]
theorem amE {G:Gd} {g:GM} {me:ME} {x:PV} {r:List PV} {ρ:Rho} {S:Sto} (h:gOk G S):abr G g me (x :: r) ρ S=(match g x ρ with
  | none=>.fail
  | some ρ1=>match me ρ1 S with
   | .ok (.pv y) S1=>match abr G g me r ρ1 S1 with
    | .ok ys S2=>.ok (y :: ys) S2
    | _=>.fail
   | _=>.fail):=by
 rw [abr,if_pos h]
 all_goals rfl
theorem ala {G:Gd} {g:GM} {me:ME} {ρ:Rho} {S:Sto} (h:gOk G S):abr G g me [] ρ S=.ok [] S:=by
 rw [abr,if_pos h]
abbrev tv (us:List Int):PV:=.tup (us.map .int)
abbrev px (uss:List (List Int)):PV:=.tup (uss.map tv)
theorem adh {G:Gd} {S:Sto} (hG:gOk G S) {me:ME} {tail:Rho} {α:Type} (A B:α→PV):∀ (L:List α) (x:Option AV),(∀ v∈L,me (some (.pv (A v)) :: tail) S=.ok (.pv (B v)) S)→abr G (gN 0) me (L.map A) (x :: tail) S=.ok (L.map B) S
 | [],x,_=>ala hG
 | v :: L,x,h=>by
  have e:=h v List.mem_cons_self
  have e':=adh hG A B L (some (.pv (A v))) fun u hu=>h u (List.mem_cons_of_mem _ hu)
  rw [List.map_cons,amE hG]
  simp [gN,e,e']
def pl (u v:Int × Int):Int × Int:=((fr (u.1*v.2+v.1*u.2) (u.2*v.2)).getD 0 0,(fr (u.1*v.2+v.1*u.2) (u.2*v.2)).getD 1 0)
abbrev li (xs:List Int):List PV:=xs.map .int
theorem fz1 {α:Type} {a:α} {S:Sto}:aar (.ok a S)=.ok a S:=rfl
theorem aib {n k:Nat} {L:List Int} {b:Int} (hb:0 < b) (hl:L.length=n) (hL:∀ x∈L,Bd k x) (bb:Bd k b):∃ (zs:List Int) (z:Int),low (L++[b])=zs++[z]∧Pq n k zs z∧∀ j,j < n→zs.getD j 0*b=L.getD j 0*z:=by
 obtain ⟨zs,z,g,e,hg,hz,g1,g2,hzl⟩:=alu L hb
 have hlow:=amk L hb
 have hbd:=am2 (k:=k) (ns:=L++[b]) fun m hm=>by
  rcases List.mem_append.mp hm with y | y
  ·exact hL m y
  ·have:m=b:=by simpa using y
   rw [this]; exact bb
 rw [e] at hlow hbd
 refine ⟨zs,z,e,⟨hzl.trans hl,hz,hlow,fun x hx=>hbd x (List.mem_append_left _ hx),hbd z (acP zs z)⟩,fun j hj=>?_⟩
 have hj':j < zs.length:=by omega
 have e1:L.getD j 0=g*zs.getD j 0:=by
  rw [g1]
  simp [List.getD,hj']
 rw [e1,g2]
 grind
abbrev tx (L:List Nat):Str:=⟨L.toArray⟩
theorem afk (x:Str):tx x.cps.toList=x:=by
 cases x
 simp [tx]
theorem abh (L:List Nat):(tx L).length=L.length:=by
 show L.toArray.size=L.length
 simp
theorem ahR (A B:List Nat):tx A++tx B=tx (A++B):=by
 have e:=PySem.W.KT.app_list (tx A) (tx B)
 rw [← afk (tx A++tx B),e]
theorem alB {A B:List Nat} (h:tx A=tx B):A=B:=by
 have e:=congrArg (fun x:Str=>x.cps.toList) h
 simpa using e
theorem ank (A B:List Nat):(tx A == tx B)=decide (A=B):=by
 by_cases h:A=B
 ·subst h
  simp
 ·have:tx A≠tx B:=fun z=>h (alB z)
  simp [h,this]
theorem afh:("/":Str)=tx [47]:=by kernel_rfl
theorem afY:("-":Str)=tx [45]:=by kernel_rfl
theorem aoo:("1":Str)=tx [49]:=by kernel_rfl
def isD (c:Nat):Bool:=decide (48≤c) && decide (c≤57)
theorem ale:∀ c:Nat,c < 128→hasS "0123456789" ⟨#[c]⟩=isD c:=by decide +kernel
theorem alD {L:List Nat} (h:∀ c∈L,c < 128):(tx L).cps.all (· < 128)=true:=by
 simpa [tx] using h
theorem ah4 (bs:List Bool):fAll [.lst (bs.map .bl)]=some (.bl (bs.all id)):=by
 have e:afv (bs.map PV.bl)=some bs:=by
  induction bs with
  | nil=>rfl
  | cons v L ih =>
   show (match afv (L.map PV.bl) with | some bs=>some (v :: bs) | none=>none)=_
   rw [ih]
 simp only [fAll,e,Option.map_some]
theorem agF (S:Sto) (L:List Nat) (h:∀ c∈L,c < 128):abr [] (gN 0) (mBin fInS (mVar 0) (mC (.str "0123456789"))) (chs (tx L)) [none] S=.ok ((L.map isD).map .bl) S:=by
 have e:chs (tx L)=L.map fun c=>PV.str ⟨#[c]⟩:=by unfold chs; simp
 rw [e,List.map_map]
 refine adh (acS S) (fun c:Nat=>PV.str ⟨#[c]⟩) (fun c=>.bl (isD c)) L none fun c hc=>?_
 have q:=ale c (h c hc)
 simp [mBin,mVar,mC,Res.bind,abn,rd,fInS,q,okO]
def okD (L:List Nat):Bool:=decide (1≤L.length) && decide (L.length≤60) && L.all isD
def vD (L:List Nat):Int:=((PySem.NumText.digitsVal L:Nat):Int)
theorem aeO {L:List Nat} (h:okD L=true):aeq [.str (tx L)]=some (.int (vD L)):=by
 unfold okD at h
 rw [Bool.and_eq_true,Bool.and_eq_true,decide_eq_true_eq,decide_eq_true_eq] at h
 have hl:(tx L).length≤640:=by rw [abh]; omega
 have hd:PySem.NumText.AllDigits (tx L).cps.toList:=by
  intro c hc
  have hc:c∈L:=by simpa [tx] using hc
  have:=List.all_eq_true.mp h.2 c hc
  unfold isD at this
  rw [Bool.and_eq_true,decide_eq_true_eq,decide_eq_true_eq] at this
  exact this
 have hn:(tx L).cps.toList≠[]:=by
  intro z
  have:L=[]:=by simpa [tx] using z
  rw [this] at h
  exact absurd h.1.1 (by decide)
 have e:=PySem.intText_digits hd hn (by omega)
 show (if (tx L).length≤640 then (PySem.intText? (tx L)).map PV.int else none)=_
 rw [if_pos hl,e]
 simp [vD,tx]
theorem agI:∀ (L:List Nat) (a:Nat),(∀ c∈L,isD c=true)→L.foldl (fun acc c=>acc*10+(c - 48)) a < (a+1)*10 ^ L.length
 | [],a,_=>by simp
 | c :: L,a,h=>by
  have hc:=h c List.mem_cons_self
  unfold isD at hc
  rw [Bool.and_eq_true,decide_eq_true_eq,decide_eq_true_eq] at hc
  have ih:=agI L (a*10+(c - 48)) fun d hd=>h d (List.mem_cons_of_mem _ hd)
  rw [List.foldl_cons,List.length_cons,Nat.pow_succ]
  have:a*10+(c - 48)+1≤(a+1)*10:=by omega
  have:=Nat.mul_le_mul_right (10 ^ L.length) this
  have e:(a+1)*10*10 ^ L.length=(a+1)*(10 ^ L.length*10):=by rw [Nat.mul_assoc,Nat.mul_comm 10]
  omega
theorem alm {L:List Nat} (h:okD L=true):0≤vD L∧vD L < 10 ^ 60:=by
 unfold okD at h
 rw [Bool.and_eq_true,Bool.and_eq_true,decide_eq_true_eq,decide_eq_true_eq] at h
 have a:=agI L 0 (List.all_eq_true.mp h.2)
 have b:10 ^ L.length≤10 ^ 60:=Nat.pow_le_pow_right (by decide) h.1.2
 unfold vD PySem.NumText.digitsVal
 refine ⟨by omega,?_⟩
 have:List.foldl (fun acc c=>acc*10+(c - 48)) 0 L < 10 ^ 60:=by omega
 exact_mod_cast this
theorem abQ (S:Sto) (b:Bool):aav [.pv (.bl b)] S=if b=true then .ok (.pv .non) S else .exc "NoText" S:=by
 unfold aav fnM aaJ
 cases b <;> simp [EC,fAbs,aaj,aal,fIx,atI,ixN,fEq,fNe,eqN,aam,aap,aan,aao,fAdd,aag,frz,aar,aeA]
theorem agP (S:Sto) {L:List Nat} (ha:∀ c∈L,c < 128) (hl:L.length≤10000):aaE [.pv (.str (tx L))] S=if okD L=true then .ok (.pv (.int (vD L))) S else .exc "NoText" S:=by
 have z:(tx L).length≤16777216:=by rw [abh]; omega
 have ec:=agF S L ha
 have eb:=ah4 (L.map isD)
 have ll:((tx L).length:Int)=(L.length:Int):=by rw [abh]
 have a8:=alD ha
 have ei:=@aeO L
 have rf:=abQ S
 have hb:abX=(sSeq (abx (aaN aav [] (aac (abR (aeS fLe fLe (mC (.int 1)) (mR acV (aac (mVar 0) mNil)) (mC (.int 60))) (mR fAll (aac (aa9 ["sign"] [] (mItS (mVar 0)) (gN 0) (mBin fInS (mVar 0) (mC (.str "0123456789")))) mNil))) mNil))) (sRet (mR aeq (aac (mVar 0) mNil)))):=rfl
 have al:(L.map isD).all id=L.all isD:=by simp [List.all_map]
 rw [al] at eb
 unfold okD at ei ⊢
 generalize (mBin fInS (mVar 0) (mC (.str "0123456789")))=ME1 at *
 generalize (L.map isD).map PV.bl=BL at *
 generalize L.all isD=B at *
 generalize vD L=V at *
 generalize L.length=N at *
 generalize tx L=T at *
 unfold aaE fnM
 rw [hb]
 by_cases h1:(1:Int)≤(N:Int)
 ·have h1':1≤N:=by omega
  by_cases h2:(N:Int)≤60
  ·have h2':N≤60:=by omega
   cases B with
   | true =>
    have ei:=ei (by simp [h1',h2'])
    simp [EC,fAbs,aaj,aal,fIx,atI,ixN,fEq,fNe,eqN,aam,aap,aan,aao,fAdd,aag,frz,aar,aeS,acV,z,ll,h1,h2,h1',h2',aa9,cmpR,mItS,ai2,a8,ec,eb,rf,ei]
   | false=>simp [EC,fAbs,aaj,aal,fIx,atI,ixN,fEq,fNe,eqN,aam,aap,aan,aao,fAdd,aag,frz,aar,aeS,acV,z,ll,h1,h2,h1',h2',aa9,cmpR,mItS,ai2,a8,ec,eb,rf]
  ·have h2':¬ N≤60:=by omega
   simp [EC,fAbs,aaj,aal,fIx,atI,ixN,fEq,fNe,eqN,aam,aap,aan,aao,fAdd,aag,frz,aar,aeS,acV,z,ll,h1,h2,h1',h2',rf]
 ·have h1':¬ 1≤N:=by omega
  simp [EC,fAbs,aaj,aal,fIx,atI,ixN,fEq,fNe,eqN,aam,aap,aan,aao,fAdd,aag,frz,aar,aeS,acV,z,ll,h1,h1',rf]
theorem ajT (L:List Nat) (i:Nat):Txt.slice (tx L) (some (i:Int)) none=tx (L.drop i):=by
 have hl:=abh L
 by_cases h:i≤L.length
 ·rw [PyProof.Rows.slice_from_eq (b:=((tx L).length:Int)) (by omega) (by omega) rfl]
  have e1:((i:Int)).toNat=i:=by omega
  have e2:(((tx L).length:Int) - (i:Int)).toNat=L.length - i:=by omega
  rw [e1,e2]
  have:(tx L).cps.toList=L:=by simp [tx]
  rw [this,List.take_of_length_le (by rw [List.length_drop]; exact Nat.le_refl _)]
 ·rw [PyProof.Rows.slice_beyond (by omega),List.drop_of_length_le (by omega)]
  rfl
theorem anf (L:List Nat) (i:Nat) (h:i≤L.length):Txt.slice (tx L) none (some (i:Int))=tx (L.take i):=by
 have hl:=abh L
 have e:=beq_iff_eq.mp (PyProof.Rows.slice_closes_toL (x:=tx L) (j:=(i:Int)) (by omega) (by omega))
 rw [e]
 have e1:((i:Int) - 0).toNat=i:=by omega
 have:(tx L).cps.toList=L:=by simp [tx]
 rw [e1,this]
 rfl
theorem alK:Txt.slice (tx []) none (some 1)=tx []:=by kernel_rfl
theorem amT (L:List Nat):Txt.slice (tx L) none (some 1)=tx (L.take 1):=by
 cases L with
 | nil=>exact alK
 | cons c L=>exact anf (c :: L) 1 (by simp)
theorem amg (L:List Nat) (c:Nat):Txt.startswith (tx L) (tx [c])=decide (L.head?=some c):=by
 have e:=StrLaws.subAt_one (tx L) c 0
 have h0:(tx L).cps.toList[0]?=L.head?:=by
  have:(tx L).cps.toList=L:=by simp [tx]
  rw [this]
  cases L <;> rfl
 rw [h0] at e
 unfold Txt.startswith
 by_cases h:L.head?=some c
 ·obtain ⟨a,b⟩:=e.mpr h
  have a:0+(tx [c]).length≤(tx L).length:=a
  have b:Builtin.Str.subAt (tx L) (tx [c]) 0=true:=b
  rw [Nat.zero_add] at a
  simp [h,a,b]
 ·have n:¬ (0+(tx [c]).length≤(tx L).length∧Builtin.Str.subAt (tx L) (tx [c]) 0=true):=fun z=>h (e.mp z)
  simp only [h,decide_false]
  by_cases a:0+(tx [c]).length≤(tx L).length
  ·have b:Builtin.Str.subAt (tx L) (tx [c]) 0=false:=by
    cases q:Builtin.Str.subAt (tx L) (tx [c]) 0 with
    | false=>rfl
    | true=>exact absurd ⟨a,q⟩ n
   simp [b]
  ·rw [Nat.zero_add] at a
   simp [a]
theorem ahS (L:List Nat) (c i:Nat):StrLaws.At (tx L) (tx [c]) (tx L).length i↔L[i]?=some c:=by
 have e:=StrLaws.subAt_one (tx L) c i
 have:(tx L).cps.toList=L:=by simp [tx]
 rw [this] at e
 exact e
theorem amL {L:List Nat} {c:Nat} (h:c ∉ L):Txt.find (tx L) (tx [c])=-1:=by
 rcases PyProof.Rows.find_whole (tx L) (tx [c]) with ⟨e,_⟩ | ⟨i,_,a,_⟩
 ·exact e
 ·exact absurd (List.mem_of_getElem? ((ahS L c i).mp a)) h
theorem al9 {A B:List Nat} {c:Nat} (h:c ∉ A):Txt.find (tx (A++c :: B)) (tx [c])=(A.length:Int):=by
 have here:(A++c :: B)[A.length]?=some c:=by simp
 rcases PyProof.Rows.find_whole (tx (A++c :: B)) (tx [c]) with ⟨_,n⟩ | ⟨i,e,a,n⟩
 ·exact absurd ((ahS _ c A.length).mpr here) (n A.length)
 ·rw [e]
  have ha:=(ahS _ c i).mp a
  have h1:¬ i < A.length:=fun z=>by
   rw [List.getElem?_append_left z] at ha
   exact h (List.mem_of_getElem? ha)
  have h2:¬ A.length < i:=fun z=>n A.length z ((ahS _ c A.length).mpr here)
  have:i=A.length:=by omega
  rw [this]
def aaS (c:Nat):List (List Nat)→List Nat
 | []=>[]
 | [p]=>p
 | p :: q :: r=>p++c :: aaS c (q :: r)
theorem ahw (c:Nat):∀ P:List (List Nat),Str.join (tx [c]) (P.map tx)=tx (aaS c P)
 | []=>rfl
 | [p]=>rfl
 | p :: q :: r=>by
  show tx p++tx [c]++Str.join (tx [c]) ((q :: r).map tx)=tx (p++c :: aaS c (q :: r))
  rw [ahw c (q :: r),ahR,ahR,List.append_assoc]
  rfl
theorem aik (L:List Nat) (c:Nat):∃ P:List (List Nat),Txt.split (tx L) (tx [c])=P.map tx∧(∀ p∈P,c ∉ p)∧aaS c P=L∧P≠[]:=by
 refine ⟨(Txt.split (tx L) (tx [c])).map fun x=>x.cps.toList,?_,?_,?_,?_⟩
 ·rw [List.map_map]
  have:(tx ∘ fun x:Str=>x.cps.toList)=id:=by
   funext x
   exact afk x
  rw [this,List.map_id]
 ·intro p hp
  obtain ⟨x,hx,rfl⟩:=List.mem_map.mp hp
  exact StrLaws.split_free (tx L) c x hx
 ·have e:=StrLaws.join_split (tx L) (tx [c])
  apply alB
  rw [← ahw,List.map_map]
  have:(tx ∘ fun x:Str=>x.cps.toList)=id:=by
   funext x
   exact afk x
  rw [this,List.map_id]
  exact e
 ·intro z
  have:=PyProof.Rows.split_pos (tx L) (tx [c])
  rw [List.map_eq_nil_iff.mp z] at this
  exact absurd this (by decide)
theorem afE {c:Nat}:∀ {A A' B B':List Nat},c ∉ A→c ∉ A'→A++c :: B=A'++c :: B'→A=A'∧B=B'
 | [],[],B,B',_,_,e=>⟨rfl,(List.cons.inj e).2⟩
 | [],a :: A',B,B',_,h,e=>absurd (by rw [(List.cons.inj e).1]; exact List.mem_cons_self) h
 | a :: A,[],B,B',h,_,e=>absurd (by rw [← (List.cons.inj e).1]; exact List.mem_cons_self) h
 | a :: A,b :: A',B,B',h,h',e=>by
  obtain ⟨e1,e2⟩:=List.cons.inj e
  obtain ⟨r1,r2⟩:=afE (fun z=>h (List.mem_cons_of_mem _ z)) (fun z=>h' (List.mem_cons_of_mem _ z)) e2
  exact ⟨by rw [e1,r1],r2⟩
theorem ad5 {c:Nat}:∀ {P Q:List (List Nat)},P≠[]→Q≠[]→(∀ p∈P,c ∉ p)→(∀ p∈Q,c ∉ p)→aaS c P=aaS c Q→P=Q
 | [],_,h,_,_,_,_=>absurd rfl h
 | _,[],_,h,_,_,_=>absurd rfl h
 | [p],[q],_,_,_,_,e=>by
  have e:p=q:=e
  rw [e]
 | [p],q :: q' :: r,_,_,hp,_,e=>by
  have e:p=q++c :: aaS c (q' :: r):=e
  exact absurd (by rw [e]; simp) (hp p List.mem_cons_self)
 | p :: p' :: r,[q],_,_,_,hq,e=>by
  have e:p++c :: aaS c (p' :: r)=q:=e
  exact absurd (by rw [← e]; simp) (hq q List.mem_cons_self)
 | p :: p' :: r,q :: q' :: t,_,_,hp,hq,e=>by
  have e:p++c :: aaS c (p' :: r)=q++c :: aaS c (q' :: t):=e
  obtain ⟨e1,e2⟩:=afE (hp p List.mem_cons_self) (hq q List.mem_cons_self) e
  have:=ad5 (by simp) (by simp) (fun x hx=>hp x (List.mem_cons_of_mem _ hx)) (fun x hx=>hq x (List.mem_cons_of_mem _ hx)) e2
  rw [e1,this]
def bd (p:List Nat):List Nat:=if p.head?=some 45 then p.tail else p
def sN (p:List Nat):Int:=if p.head?=some 45 then -(vD (bd p)) else vD (bd p)
def rdN:List (List Nat)→Option (Int × Int)
 | [p]=>if okD (bd p)=true then some (sN p,1) else none
 | [p,q]=>if okD (bd p)=true∧okD q=true∧vD q≠0 then some (sN p,vD q) else none
 | _=>none
theorem b60 {v:Int} (h:0≤v∧v < 10 ^ 60):Bd 200 v∧Bd 200 (-v):=by
 have a:Bd 200 v:=Bd.of (n:=10 ^ 60) (by omega) (by decide +kernel)
 exact ⟨a,a.neg⟩
theorem aiz {p:List Nat} (h:okD (bd p)=true):Bd 200 (sN p):=by
 have:=b60 (alm h)
 unfold sN
 split
 ·exact this.2
 ·exact this.1
theorem aje:Bd 200 (1:Int):=(Bd.of (k:=2) (n:=1) (by decide) (by decide)).mono (by decide)
theorem agU {p:List Nat} {c:Nat} (h:c∈bd p):c∈p:=by
 unfold bd at h
 split at h
 ·exact List.mem_of_mem_tail h
 ·exact h
theorem ahP (p:List Nat):(bd p).length≤p.length:=by
 unfold bd
 split
 ·rw [List.length_tail]; omega
 ·exact Nat.le_refl _
def outN (r:Option (Int × Int)) (S:Sto):Res AV:=match r with
 | some (t,b)=>.ok (.pv (.tup ((fr t b).map .int))) S
 | none=>.exc "NoText" S
def Bod (b:Bool) (T0 T1:Str):Prop:=(b=true∧fSlS (.str T0) (some 1) none=some (.str T1))∨(b=false∧T1=T0)
theorem amK {S:Sto} {TL T0 T1:Str} {b:Bool} {V:Int} {F:AV} (es:ack TL [.str "/"]=some (.lst [.str T0])) (st:acQ T0 [.str "-"]=some (.bl b)) (hb:Bod b T0 T1) (r1:aaE [.pv (.str T1)] S=.ok (.pv (.int V)) S) (fq:aaW [.pv (.int (if b=true then -V else V)),.pv (.int 1)] S=.ok F S) (hF:∀ k,F≠.ref k):aaq [.pv (.str TL)] S=.ok F S:=by
 have rf:=abQ S
 unfold aaq fnM aaM
 cases F with
 | ref k=>exact absurd rfl (hF k)
 | pv F =>
  rcases hb with ⟨rfl,hb⟩ | ⟨rfl,rfl⟩
  ·simp only [if_true] at fq
   simp [EC,fAbs,aaj,aal,fIx,atI,ixN,fEq,fNe,eqN,aam,aap,aan,aao,fAdd,aag,frz,aar,mMet,strR,es,rf,st,mSlS,mO0,mO1,abl,hb,r1,fq]
  ·simp only [Bool.false_eq_true,if_false] at fq
   simp [EC,fAbs,aaj,aal,fIx,atI,ixN,fEq,fNe,eqN,aam,aap,aan,aao,fAdd,aag,frz,aar,mMet,strR,es,rf,st,r1,fq]
theorem aiA {S:Sto} {TL T0 T1:Str} {b:Bool} (es:ack TL [.str "/"]=some (.lst [.str T0])) (st:acQ T0 [.str "-"]=some (.bl b)) (hb:Bod b T0 T1) (r1:aaE [.pv (.str T1)] S=.exc "NoText" S):aaq [.pv (.str TL)] S=.exc "NoText" S:=by
 have rf:=abQ S
 unfold aaq fnM aaM
 rcases hb with ⟨rfl,hb⟩ | ⟨rfl,rfl⟩
 ·simp [EC,fAbs,aaj,aal,fIx,atI,ixN,fEq,fNe,eqN,aam,aap,aan,aao,fAdd,aag,frz,aar,mMet,strR,es,rf,st,mSlS,mO0,mO1,abl,hb,r1]
 ·simp [EC,fAbs,aaj,aal,fIx,atI,ixN,fEq,fNe,eqN,aam,aap,aan,aao,fAdd,aag,frz,aar,mMet,strR,es,rf,st,r1]
theorem amA {S:Sto} {TL T0 T1 T2:Str} {b:Bool} {V V2:Int} {F:AV} (es:ack TL [.str "/"]=some (.lst [.str T0,.str T2])) (st:acQ T0 [.str "-"]=some (.bl b)) (hb:Bod b T0 T1) (r1:aaE [.pv (.str T1)] S=.ok (.pv (.int V)) S) (r2:aaE [.pv (.str T2)] S=.ok (.pv (.int V2)) S) (hz:V2≠0) (fq:aaW [.pv (.int (if b=true then -V else V)),.pv (.int V2)] S=.ok F S) (hF:∀ k,F≠.ref k):aaq [.pv (.str TL)] S=.ok F S:=by
 have rf:=abQ S
 have hz':(V2 == 0)=false:=by simpa using hz
 unfold aaq fnM aaM
 cases F with
 | ref k=>exact absurd rfl (hF k)
 | pv F =>
  rcases hb with ⟨rfl,hb⟩ | ⟨rfl,rfl⟩
  ·simp only [if_true] at fq
   simp [EC,fAbs,aaj,aal,fIx,atI,ixN,fEq,fNe,eqN,aam,aap,aan,aao,fAdd,aag,frz,aar,mMet,strR,es,rf,st,mSlS,mO0,mO1,abl,hb,r1,r2,hz',fq]
  ·simp only [Bool.false_eq_true,if_false] at fq
   simp [EC,fAbs,aaj,aal,fIx,atI,ixN,fEq,fNe,eqN,aam,aap,aan,aao,fAdd,aag,frz,aar,mMet,strR,es,rf,st,r1,r2,hz',fq]
theorem ahv {S:Sto} {TL T0 T1 T2:Str} {b:Bool} (es:ack TL [.str "/"]=some (.lst [.str T0,.str T2])) (st:acQ T0 [.str "-"]=some (.bl b)) (hb:Bod b T0 T1) (r1:aaE [.pv (.str T1)] S=.exc "NoText" S):aaq [.pv (.str TL)] S=.exc "NoText" S:=by
 have rf:=abQ S
 unfold aaq fnM aaM
 rcases hb with ⟨rfl,hb⟩ | ⟨rfl,rfl⟩
 ·simp [EC,fAbs,aaj,aal,fIx,atI,ixN,fEq,fNe,eqN,aam,aap,aan,aao,fAdd,aag,frz,aar,mMet,strR,es,rf,st,mSlS,mO0,mO1,abl,hb,r1]
 ·simp [EC,fAbs,aaj,aal,fIx,atI,ixN,fEq,fNe,eqN,aam,aap,aan,aao,fAdd,aag,frz,aar,mMet,strR,es,rf,st,r1]
theorem ahb {S:Sto} {TL T0 T1 T2:Str} {b:Bool} {V:Int} (es:ack TL [.str "/"]=some (.lst [.str T0,.str T2])) (st:acQ T0 [.str "-"]=some (.bl b)) (hb:Bod b T0 T1) (r1:aaE [.pv (.str T1)] S=.ok (.pv (.int V)) S) (r2:aaE [.pv (.str T2)] S=.exc "NoText" S):aaq [.pv (.str TL)] S=.exc "NoText" S:=by
 have rf:=abQ S
 unfold aaq fnM aaM
 rcases hb with ⟨rfl,hb⟩ | ⟨rfl,rfl⟩
 ·simp [EC,fAbs,aaj,aal,fIx,atI,ixN,fEq,fNe,eqN,aam,aap,aan,aao,fAdd,aag,frz,aar,mMet,strR,es,rf,st,mSlS,mO0,mO1,abl,hb,r1,r2]
 ·simp [EC,fAbs,aaj,aal,fIx,atI,ixN,fEq,fNe,eqN,aam,aap,aan,aao,fAdd,aag,frz,aar,mMet,strR,es,rf,st,r1,r2]
theorem agO {S:Sto} {TL T0 T1 T2:Str} {b:Bool} {V:Int} (es:ack TL [.str "/"]=some (.lst [.str T0,.str T2])) (st:acQ T0 [.str "-"]=some (.bl b)) (hb:Bod b T0 T1) (r1:aaE [.pv (.str T1)] S=.ok (.pv (.int V)) S) (r2:aaE [.pv (.str T2)] S=.ok (.pv (.int 0)) S):aaq [.pv (.str TL)] S=.exc "NoText" S:=by
 have rf:=abQ S
 unfold aaq fnM aaM
 rcases hb with ⟨rfl,hb⟩ | ⟨rfl,rfl⟩
 ·simp [EC,fAbs,aaj,aal,fIx,atI,ixN,fEq,fNe,eqN,aam,aap,aan,aao,fAdd,aag,frz,aar,mMet,strR,es,rf,st,mSlS,mO0,mO1,abl,hb,r1,r2]
 ·simp [EC,fAbs,aaj,aal,fIx,atI,ixN,fEq,fNe,eqN,aam,aap,aan,aao,fAdd,aag,frz,aar,mMet,strR,es,rf,st,r1,r2]
theorem aku {S:Sto} {TL:Str} {R:List PV} (es:ack TL [.str "/"]=some (.lst R)) (h:2 < R.length):aaq [.pv (.str TL)] S=.exc "NoText" S:=by
 have rf:=abQ S
 have h3:¬ ((R.length:Int)≤2):=by omega
 unfold aaq fnM aaM
 simp [EC,fAbs,aaj,aal,fIx,atI,ixN,fEq,fNe,eqN,aam,aap,aan,aao,fAdd,aag,frz,aar,mMet,strR,es,rf,h3]
theorem aj9 {p:List Nat} (h:p.length≤10000):acQ (tx p) [.str "-"]=some (.bl (decide (p.head?=some 45)))∧Bod (decide (p.head?=some 45)) (tx p) (tx (bd p)):=by
 refine ⟨?_,?_⟩
 ·rw [afY]
  show some (PV.bl (Txt.startswith (tx p) (tx [45])))=_
  rw [amg]
 ·unfold bd
  by_cases h45:p.head?=some 45
  ·left
   rw [if_pos h45]
   refine ⟨by simp [h45],?_⟩
   show (if (tx p).length≤16777216 then some (PV.str (Txt.slice (tx p) (some 1) none)) else none)=_
   rw [if_pos (by rw [abh]; omega)]
   have:=ajT p 1
   rw [show ((1:Nat):Int)=1 from rfl,List.drop_one] at this
   rw [this]
  ·right
   rw [if_neg h45]
   exact ⟨by simp [h45],rfl⟩
theorem alj (p:List Nat):(if decide (p.head?=some 45)=true then -(vD (bd p)) else vD (bd p))=sN p:=by
 unfold sN
 by_cases h45:p.head?=some 45 <;> simp [h45]
theorem rdN1 (p:List Nat):rdN [p]=if okD (bd p)=true then some (sN p,1) else none:=rfl
theorem rdN2 (p q:List Nat):rdN [p,q]=if okD (bd p)=true∧okD q=true∧vD q≠0 then some (sN p,vD q) else none:=rfl
theorem ae4 (S:Sto) {L:List Nat} {P:List (List Nat)} (hs:Txt.split (tx L) (tx [47])=P.map tx) (hp:P≠[]) (ha:∀ p∈P,∀ c∈p,c < 128) (hl:∀ p∈P,p.length≤10000) (hL:L.length≤10000):aaq [.pv (.str (tx L))] S=outN (rdN P) S:=by
 have es:ack (tx L) [.str "/"]=some (.lst (P.map fun p=>.str (tx p))):=by
  rw [afh]
  show (if (tx [47]).length≠0∧(tx L).length+2≤16777216 then some (PV.lst ((Txt.split (tx L) (tx [47])).map .str)) else none)=_
  rw [if_pos ⟨by rw [abh]; decide,by rw [abh]; omega⟩,hs,List.map_map]
  rfl
 have top:∀ p∈P,aaE [.pv (.str (tx (bd p)))] S=if okD (bd p)=true then .ok (.pv (.int (vD (bd p)))) S else .exc "NoText" S:=fun p h=>agP S (fun c hc=>ha p h c (agU hc)) (Nat.le_trans (ahP p) (hl p h))
 have wh:∀ p∈P,aaE [.pv (.str (tx p))] S=if okD p=true then .ok (.pv (.int (vD p))) S else .exc "NoText" S:=fun p h=>agP S (ha p h) (hl p h)
 have fq:∀ t b:Int,Bd 200 t→Bd 200 b→b≠0→aaW [.pv (.int t),.pv (.int b)] S=.ok (.pv (.tup ((fr t b).map .int))) S:=fun t b ht hb h=>ae9 t b S (ht.mono (by decide)) (hb.mono (by decide)) h
 match P,hp,hl,es,top,wh with
 | [p],_,hl,es,top,wh =>
  have tp:=top p (by simp)
  obtain ⟨st,bo⟩:=aj9 (hl p (by simp))
  simp only [List.map_cons,List.map_nil] at es
  rw [rdN1]
  by_cases hk:okD (bd p)=true
  ·rw [if_pos hk] at tp ⊢
   exact amK es st bo tp (by rw [alj]; exact fq (sN p) 1 (aiz hk) aje (by decide)) (fun _ z=>by cases z)
  ·rw [if_neg hk] at tp ⊢
   exact aiA es st bo tp
 | [p,q],_,hl,es,top,wh =>
  have tp:=top p (by simp)
  have tq:=wh q (by simp)
  obtain ⟨st,bo⟩:=aj9 (hl p (by simp))
  simp only [List.map_cons,List.map_nil] at es
  rw [rdN2]
  by_cases hk:okD (bd p)=true
  ·rw [if_pos hk] at tp
   by_cases hq:okD q=true
   ·rw [if_pos hq] at tq
    by_cases hz:vD q=0
    ·rw [if_neg (fun z=>z.2.2 hz)]
     rw [hz] at tq
     exact agO es st bo tp tq
    ·rw [if_pos ⟨hk,hq,hz⟩]
     exact amA es st bo tp tq hz (by rw [alj]; exact fq (sN p) (vD q) (aiz hk) (b60 (alm hq)).1 hz) (fun _ z=>by cases z)
   ·rw [if_neg hq] at tq
    rw [if_neg (fun z=>hq z.2.1)]
    exact ahb es st bo tp tq
  ·rw [if_neg hk] at tp
   rw [if_neg (fun z=>hk z.1)]
   exact ahv es st bo tp
 | p :: q :: r :: t,_,hl,es,top,wh =>
  exact aku es (by simp)
theorem adn (S:Sto) {L:List Nat} (ha:∀ c∈L,c < 128) (hl:L.length≤10000):abe [.pv (.str (tx L))] S=.ok (.pv (.bl (okD L))) S:=by
 have z:(tx L).length≤16777216:=by rw [abh]; omega
 have ec:=agF S L ha
 have eb:=ah4 (L.map isD)
 have ll:((tx L).length:Int)=(L.length:Int):=by rw [abh]
 have a8:=alD ha
 have hb:aet=(sSeq (sIf (mOr (mTst (mBin fLt (mR acV (aac (mVar 0) mNil)) (mC (.int 1)))) (mTst (mBin fGt (mR acV (aac (mVar 0) mNil)) (mC (.int 60))))) (sRet (mC (.bl false))) sNil) (sRet (mR fAll (aac (aa9 ["_law_sign"] [] (mItS (mVar 0)) (gN 0) (mBin fInS (mVar 0) (mC (.str "0123456789")))) mNil)))):=rfl
 have al:(L.map isD).all id=L.all isD:=by simp [List.all_map]
 rw [al] at eb
 unfold okD
 generalize (mBin fInS (mVar 0) (mC (.str "0123456789")))=ME1 at *
 generalize (L.map isD).map PV.bl=BL at *
 generalize L.all isD=B at *
 generalize L.length=N at *
 generalize tx L=T at *
 unfold abe fnM
 rw [hb]
 by_cases h1:(N:Int) < 1
 ·have h1':¬ 1≤N:=by omega
  simp [EC,fAbs,aaj,aal,fIx,atI,ixN,fEq,fNe,eqN,aam,aap,aan,aao,fAdd,aag,frz,aar,acV,z,ll,h1,h1']
 ·have h1':1≤N:=by omega
  by_cases h2:60 < (N:Int)
  ·have h2':¬ N≤60:=by omega
   simp [EC,fAbs,aaj,aal,fIx,atI,ixN,fEq,fNe,eqN,aam,aap,aan,aao,fAdd,aag,frz,aar,acV,z,ll,h1,h2,h1',h2']
  ·have h2':N≤60:=by omega
   simp [EC,fAbs,aaj,aal,fIx,atI,ixN,fEq,fNe,eqN,aam,aap,aan,aao,fAdd,aag,frz,aar,acV,z,ll,h1,h2,h1',h2',aa9,cmpR,mItS,ai2,a8,ec,eb]
def outL (r:Option (Int × Int)):AV:=match r with
 | some (t,b)=>.pv (.tup ((fr t b).map .int))
 | none=>.pv .non
theorem al1 {S:Sto} {T0 T1 HT:Str} {b y1:Bool} {n1:Int} {FV:PV} (h1:fSlS (.str T0) none (some 1)=some (.str HT)) (hq:(HT == ("-":Str))=b) (hb:Bod b T0 T1) (hf:ahr T1 [.str "/"]=some (.int (-1))) (g1:abe [.pv (.str T1)] S=.ok (.pv (.bl y1)) S) (g2:abe [.pv (.str "1")] S=.ok (.pv (.bl true)) S) (i1:y1=true→aeq [.str T1]=some (.int n1)) (i2:aeq [.str "1"]=some (.int 1)) (fq:y1=true→aci [.pv (.int (if b=true then -n1 else n1)),.pv (.int 1)] S=.ok (.pv FV) S) :
  aaF [.pv (.str T0)] S=.ok (if y1=true then .pv FV else .pv .non) S:=by
 unfold aaF fnM acO
 have m1:fMul (.int (-1)) (.int n1)=some (.int (-n1)):=by rw [ab6 (.inl (.inl ⟨by decide,by decide⟩)),Int.neg_one_mul]
 have m2:fMul (.int 1) (.int n1)=some (.int n1):=by rw [ab6 (.inl (.inl ⟨by decide,by decide⟩)),Int.one_mul]
 cases y1 with
 | true =>
  have i1:=i1 rfl
  have fq:=fq rfl
  rcases hb with ⟨rfl,hb⟩ | ⟨rfl,rfl⟩
  ·simp only [if_true] at fq
   simp [EC,fAbs,aaj,aal,fIx,atI,ixN,fEq,fNe,eqN,aam,aap,aan,aao,fAdd,aag,frz,aar,mSlS,mO0,mO1,abl,h1,hq,hb,mMet,strR,hf,g1,g2,i1,i2,m1,fq]
  ·simp only [Bool.false_eq_true,if_false] at fq
   simp [EC,fAbs,aaj,aal,fIx,atI,ixN,fEq,fNe,eqN,aam,aap,aan,aao,fAdd,aag,frz,aar,mSlS,mO0,mO1,abl,h1,hq,mMet,strR,hf,g1,g2,i1,i2,m2,fq]
 | false =>
  rcases hb with ⟨rfl,hb⟩ | ⟨rfl,rfl⟩
  ·simp [EC,fAbs,aaj,aal,fIx,atI,ixN,fEq,fNe,eqN,aam,aap,aan,aao,fAdd,aag,frz,aar,mSlS,mO0,mO1,abl,h1,hq,hb,mMet,strR,hf,g1]
  ·simp [EC,fAbs,aaj,aal,fIx,atI,ixN,fEq,fNe,eqN,aam,aap,aan,aao,fAdd,aag,frz,aar,mSlS,mO0,mO1,abl,h1,hq,mMet,strR,hf,g1]
theorem amH {S:Sto} {T0 T1 T2 T3 HT:Str} {b y1 y2:Bool} {n1 n2:Int} {n:Nat} {FV:PV} (h1:fSlS (.str T0) none (some 1)=some (.str HT)) (hq:(HT == ("-":Str))=b) (hb:Bod b T0 T1) (hf:ahr T1 [.str "/"]=some (.int n)) (s2:fSlS (.str T1) (some ((n:Int)+1)) none=some (.str T2)) (s3:fSlS (.str T1) none (some (n:Int))=some (.str T3)) (g1:abe [.pv (.str T3)] S=.ok (.pv (.bl y1)) S) (g2:abe [.pv (.str T2)] S=.ok (.pv (.bl y2)) S) (i1:y1=true→aeq [.str T3]=some (.int n1)) (i2:y2=true→aeq [.str T2]=some (.int n2)) (fq:y1=true→y2=true→n2≠0→aci [.pv (.int (if b=true then -n1 else n1)),.pv (.int n2)] S=.ok (.pv FV) S) :
  aaF [.pv (.str T0)] S=.ok (if y1=true∧y2=true∧n2≠0 then .pv FV else .pv .non) S:=by
 unfold aaF fnM acO
 have m1:fMul (.int (-1)) (.int n1)=some (.int (-n1)):=by rw [ab6 (.inl (.inl ⟨by decide,by decide⟩)),Int.neg_one_mul]
 have m2:fMul (.int 1) (.int n1)=some (.int n1):=by rw [ab6 (.inl (.inl ⟨by decide,by decide⟩)),Int.one_mul]
 have n0:(0:Int)≤(n:Int):=by omega
 generalize (n:Int)=N at *
 cases y1 with
 | false =>
  rcases hb with ⟨rfl,hb⟩ | ⟨rfl,rfl⟩
  ·simp [EC,fAbs,aaj,aal,fIx,atI,ixN,fEq,fNe,eqN,aam,aap,aan,aao,fAdd,aag,frz,aar,mSlS,mO0,mO1,abl,h1,hq,hb,mMet,strR,hf,n0,s2,s3,g1]
  ·simp [EC,fAbs,aaj,aal,fIx,atI,ixN,fEq,fNe,eqN,aam,aap,aan,aao,fAdd,aag,frz,aar,mSlS,mO0,mO1,abl,h1,hq,mMet,strR,hf,n0,s2,s3,g1]
 | true =>
  have i1:=i1 rfl
  have fq:=fq rfl
  cases y2 with
  | false =>
   rcases hb with ⟨rfl,hb⟩ | ⟨rfl,rfl⟩
   ·simp [EC,fAbs,aaj,aal,fIx,atI,ixN,fEq,fNe,eqN,aam,aap,aan,aao,fAdd,aag,frz,aar,mSlS,mO0,mO1,abl,h1,hq,hb,mMet,strR,hf,n0,s2,s3,g1,g2]
   ·simp [EC,fAbs,aaj,aal,fIx,atI,ixN,fEq,fNe,eqN,aam,aap,aan,aao,fAdd,aag,frz,aar,mSlS,mO0,mO1,abl,h1,hq,mMet,strR,hf,n0,s2,s3,g1,g2]
  | true =>
   have i2:=i2 rfl
   have fq:=fq rfl
   by_cases hz:n2=0
   ·subst hz
    rcases hb with ⟨rfl,hb⟩ | ⟨rfl,rfl⟩
    ·simp [EC,fAbs,aaj,aal,fIx,atI,ixN,fEq,fNe,eqN,aam,aap,aan,aao,fAdd,aag,frz,aar,mSlS,mO0,mO1,abl,h1,hq,hb,mMet,strR,hf,n0,s2,s3,g1,g2,i2]
    ·simp [EC,fAbs,aaj,aal,fIx,atI,ixN,fEq,fNe,eqN,aam,aap,aan,aao,fAdd,aag,frz,aar,mSlS,mO0,mO1,abl,h1,hq,mMet,strR,hf,n0,s2,s3,g1,g2,i2]
   ·have fq:=fq hz
    rcases hb with ⟨rfl,hb⟩ | ⟨rfl,rfl⟩
    ·simp only [if_true] at fq
     simp [EC,fAbs,aaj,aal,fIx,atI,ixN,fEq,fNe,eqN,aam,aap,aan,aao,fAdd,aag,frz,aar,mSlS,mO0,mO1,abl,h1,hq,hb,mMet,strR,hf,n0,s2,s3,g1,g2,i1,i2,hz,m1,fq]
    ·simp only [Bool.false_eq_true,if_false] at fq
     simp [EC,fAbs,aaj,aal,fIx,atI,ixN,fEq,fNe,eqN,aam,aap,aan,aao,fAdd,aag,frz,aar,mSlS,mO0,mO1,abl,h1,hq,mMet,strR,hf,n0,s2,s3,g1,g2,i1,i2,hz,m2,fq]
theorem aei {p:List Nat} {r:List (List Nat)}:(aaS 47 (p :: r)).head?=some 45↔p.head?=some 45:=by
 cases r with
 | nil=>exact Iff.rfl
 | cons q r =>
  show (p++47 :: aaS 47 (q :: r)).head?=some 45↔_
  cases p with
  | nil=>simp
  | cons a p=>simp
theorem akt (p:List Nat) (r:List (List Nat)):bd (aaS 47 (p :: r))=aaS 47 (bd p :: r):=by
 unfold bd
 by_cases h:p.head?=some 45
 ·rw [if_pos h,if_pos (aei.mpr h)]
  cases p with
  | nil=>cases h
  | cons a p =>
   cases r with
   | nil=>rfl
   | cons q r=>rfl
 ·rw [if_neg h,if_neg (fun z=>h (aei.mp z))]
theorem agj {L:List Nat} {i:Int} {j:Nat} (hi:i=(j:Int)) (h:L.length≤10000):fSlS (.str (tx L)) (some i) none=some (.str (tx (L.drop j))):=by
 show (if (tx L).length≤16777216 then some (PV.str (Txt.slice (tx L) (some i) none)) else none)=_
 rw [if_pos (by rw [abh]; omega),hi,ajT]
theorem als {L:List Nat} {j:Nat} (hj:j≤L.length) (h:L.length≤10000):fSlS (.str (tx L)) none (some (j:Int))=some (.str (tx (L.take j))):=by
 show (if (tx L).length≤16777216 then some (PV.str (Txt.slice (tx L) none (some (j:Int)))) else none)=_
 rw [if_pos (by rw [abh]; omega),anf L j hj]
theorem anH {L:List Nat} (h:L.length≤10000):∃ HT,fSlS (.str (tx L)) none (some 1)=some (.str HT)∧(HT == ("-":Str))=decide (L.head?=some 45):=by
 refine ⟨tx (L.take 1),?_,?_⟩
 ·show (if (tx L).length≤16777216 then some (PV.str (Txt.slice (tx L) none (some 1))) else none)=_
  rw [if_pos (by rw [abh]; omega),amT]
 ·rw [afY,ank]
  cases L with
  | nil=>rfl
  | cons a L=>simp
theorem aj3 {q r:List Nat}:okD (q++47 :: r)=false:=by
 unfold okD
 have:(q++47 :: r).all isD=false:=by
  rw [List.all_append,List.all_cons]
  have:isD 47=false:=by decide
  rw [this]
  simp
 rw [this,Bool.and_false]
theorem amM (S:Sto):abe [.pv (.str "1")] S=.ok (.pv (.bl true)) S∧aeq [.str "1"]=some (.int 1):=by
 have a:=adn S (L:=[49]) (by decide) (by decide)
 have b:=aeO (L:=[49]) (by decide)
 rw [← aoo] at a b
 exact ⟨a,b⟩
theorem ad2 {c:Nat}:∀ {P:List (List Nat)} {p:List Nat},p∈P→∀ d∈p,d∈aaS c P
 | [q],p,h,d,hd=>by
  have:p=q:=by simpa using h
  rw [← this]; exact hd
 | q :: q' :: r,p,h,d,hd=>by
  show d∈q++c :: aaS c (q' :: r)
  rcases List.mem_cons.mp h with rfl | h
  ·exact List.mem_append_left _ hd
  ·exact List.mem_append_right _ (List.mem_cons_of_mem _ (ad2 h d hd))
theorem adU {c:Nat}:∀ {P:List (List Nat)} {p:List Nat},p∈P→p.length≤(aaS c P).length
 | [q],p,h=>by
  have:p=q:=by simpa using h
  rw [this]; exact Nat.le_refl _
 | q :: q' :: r,p,h=>by
  show _≤(q++c :: aaS c (q' :: r)).length
  rw [List.length_append,List.length_cons]
  rcases List.mem_cons.mp h with rfl | h
  ·omega
  ·have:=adU (c:=c) h
   omega
theorem akm (S:Sto) {L:List Nat} {P:List (List Nat)} (hi:aaS 47 P=L) (hp:P≠[]) (hf:∀ p∈P,47 ∉ p) (ha:∀ c∈L,c < 128) (hL:L.length≤10000):aaF [.pv (.str (tx L))] S=.ok (outL (rdN P)) S:=by
 obtain ⟨HT,h1,hq⟩:=anH hL
 obtain ⟨_,bo⟩:=aj9 hL
 obtain ⟨g1,i1⟩:=amM S
 have fq:∀ t b:Int,Bd 200 t→Bd 200 b→aci [.pv (.int t),.pv (.int b)] S=.ok (.pv (.tup ((fr t b).map .int))) S:=fun t b ht hb=>ajZ t b S (ht.mono (by decide)) (hb.mono (by decide))
 have fl:∀ {A:List Nat},47 ∉ A→ahr (tx A) [.str "/"]=some (.int (-1)):=fun {A} h=>by
  rw [afh]
  show some (PV.int (Txt.find (tx A) (tx [47])))=_
  rw [amL h]
 have ft:∀ {A B:List Nat},47 ∉ A→ahr (tx (A++47 :: B)) [.str "/"]=some (.int (A.length:Nat)):=fun {A B} h=>by
  rw [afh]
  show some (PV.int (Txt.find (tx (A++47 :: B)) (tx [47])))=_
  rw [al9 h]
 have aP:∀ p∈P,∀ c∈p,c < 128:=fun p h c hc=>ha c (by rw [← hi]; exact ad2 h c hc)
 have lP:∀ p∈P,p.length≤10000:=fun p h=>Nat.le_trans (by rw [← hi]; exact adU h) hL
 match P,hp,hi,hf,aP,lP with
 | [p],_,hi,hf,aP,lP =>
  have hi:p=L:=hi
  subst hi
  have g:=adn S (L:=bd p) (fun c hc=>ha c (agU hc)) (Nat.le_trans (ahP p) hL)
  have z:=al1 (n1:=vD (bd p)) (FV:=.tup ((fr (sN p) 1).map .int)) h1 hq bo (fl fun z=>hf p (by simp) (agU z)) g g1 aeO i1 (fun hk=>by rw [alj]; exact fq (sN p) 1 (aiz hk) aje)
  rw [z,rdN1]
  by_cases hk:okD (bd p)=true
  ·rw [if_pos hk,if_pos hk]
   rfl
  ·rw [if_neg hk,if_neg hk]
   rfl
 | p :: q :: r,_,hi,hf,aP,lP =>
  have hd:L.head?=some 45↔p.head?=some 45:=by rw [← hi]; exact aei
  have hb:bd L=bd p++47 :: aaS 47 (q :: r):=by
   rw [← hi,akt]
   rfl
  rw [hb] at bo
  have dd:decide (L.head?=some 45)=decide (p.head?=some 45):=by simp [hd]
  have lb:(bd p++47 :: aaS 47 (q :: r)).length≤10000:=by rw [← hb]; exact Nat.le_trans (ahP L) hL
  have s2:=agj (L:=bd p++47 :: aaS 47 (q :: r)) (i:=((bd p).length:Int)+1) (j:=(bd p).length+1) (by omega) lb
  have s3:=als (L:=bd p++47 :: aaS 47 (q :: r)) (j:=(bd p).length) (by simp) lb
  have e2:(bd p++47 :: aaS 47 (q :: r)).drop ((bd p).length+1)=aaS 47 (q :: r):=by
   rw [← List.drop_drop,List.drop_left]
   rfl
  rw [e2] at s2
  rw [List.take_left] at s3
  have ai:∀ c∈aaS 47 (q :: r),c < 128:=fun c hc=>ha c (by
   rw [← hi]
   show c∈p++47 :: aaS 47 (q :: r)
   exact List.mem_append_right _ (List.mem_cons_of_mem _ hc))
  have li:(aaS 47 (q :: r)).length≤10000:=by
   rw [List.length_append,List.length_cons] at lb
   omega
  have g3:=adn S (L:=bd p) (fun c hc=>aP p (by simp) c (agU hc)) (Nat.le_trans (ahP p) (lP p (by simp)))
  have g4:=adn S (L:=aaS 47 (q :: r)) ai li
  have z:=amH (n1:=vD (bd p)) (n2:=vD (aaS 47 (q :: r))) (FV:=.tup ((fr (sN p) (vD (aaS 47 (q :: r)))).map .int)) h1 hq bo (ft fun z=>hf p (by simp) (agU z)) s2 s3 g3 g4 aeO aeO (fun hk hk2 _=>by rw [dd,alj]; exact fq (sN p) _ (aiz hk) (b60 (alm hk2)).1)
  rw [z]
  cases r with
  | nil =>
   rw [rdN2]
   show Res.ok (if okD (bd p)=true∧okD q=true∧vD q≠0 then _ else _) S=_
   by_cases hk:okD (bd p)=true∧okD q=true∧vD q≠0
   ·rw [if_pos hk,if_pos hk]
    rfl
   ·rw [if_neg hk,if_neg hk]
    rfl
  | cons t r =>
   have:okD (aaS 47 (q :: t :: r))=false:=aj3
   rw [if_neg (fun z=>by rw [this] at z; exact absurd z.2.1 (by decide))]
   rfl
def dg (m:Nat):List Nat:=(Nat.toDigits 10 m).map Char.toNat
theorem alr (m:Nat):(Str.ofString (toString ((m:Nat):Int)):Str)=tx (dg m):=by
 rw [← afk (Str.ofString (toString ((m:Nat):Int))),PySem.W.KIN.signs_num]
 rfl
theorem ac5 {m c:Nat} (h:c∈dg m):isD c=true:=by
 obtain ⟨ch,hch,rfl⟩:=List.mem_map.mp h
 have r:=PyProof.Rows.digit_range (Nat.isDigit_of_mem_toDigits (by decide) (by decide) hch)
 unfold isD
 simp [r.1,r.2]
theorem alx (m:Nat):vD (dg m)=(m:Int):=by
 unfold vD dg
 rw [PySem.W.KIN.val_back]
theorem am9 (m:Nat):1≤(dg m).length:=by
 unfold dg
 rw [List.length_map]
 exact PySem.toDigits_len_ge 10 m
theorem adO:∀ (k m:Nat),m < 10 ^ (k+1)→(dg m).length≤k+1
 | 0,m,h=>by
  unfold dg
  rw [Nat.toDigits_of_lt_base (by omega)]
  simp
 | k+1,m,h=>by
  by_cases h10:m < 10
  ·unfold dg
   rw [Nat.toDigits_of_lt_base h10]
   simp
  ·have hm:m % 10 < 10:=Nat.mod_lt m (by decide)
   have t:Nat.toDigits 10 (m / 10)++Nat.toDigits 10 (m % 10)=Nat.toDigits 10 (10*(m / 10)+m % 10):=Nat.toDigits_append_toDigits (by decide) (by omega) hm
   rw [Nat.div_add_mod] at t
   have ih:=adO k (m / 10) (by rw [Nat.pow_succ] at h; omega)
   unfold dg at ih ⊢
   rw [← t,Nat.toDigits_of_lt_base hm]
   rw [List.length_map] at ih ⊢
   rw [List.length_append]
   simp
   omega
theorem afj {c:Nat} (h:isD c=true):c < 128∧c≠45∧c≠47:=by
 unfold isD at h
 rw [Bool.and_eq_true,decide_eq_true_eq,decide_eq_true_eq] at h
 omega
theorem akn {v:Int} (h0:0≤v) (h1:v < 10 ^ 61):fStr [.int v]=some (.str (tx (dg v.toNat)))∧(dg v.toNat).length≤61:=by
 obtain ⟨m,rfl⟩:=Int.eq_ofNat_of_zero_le h0
 have hm:m < 10 ^ 61:=by exact_mod_cast h1
 have hl:((m:Int)).natAbs.log2 < 1920:=by
  have e:((m:Int)).natAbs=m:=by omega
  rw [e]
  by_cases hz:m=0
  ·subst hz; decide
  ·refine (Nat.log2_lt hz).mpr (Nat.lt_of_lt_of_le hm ?_)
   decide +kernel
 refine ⟨?_,?_⟩
 ·show (if ((m:Int)).natAbs.log2 < 1920 then some (PV.str (Str.ofString (toString (m:Int)))) else none)=_
  rw [if_pos hl,alr]
  rfl
 ·exact adO 60 m hm
def Asc (n:Nat) (T:Str):Prop:=∃ L,T=tx L∧(∀ c∈L,c < 128)∧L.length≤n
theorem Asc.mono {n k:Nat} {T:Str} (h:Asc n T) (l:n≤k):Asc k T:=by
 obtain ⟨L,e,a,b⟩:=h
 exact ⟨L,e,a,by omega⟩
theorem am6 {v:Int} (h1:v < 10 ^ 61) (h0:0≤v):Asc 61 (tx (dg v.toNat)):=⟨_,rfl,fun _ hc=>(afj (ac5 hc)).1,(akn h0 h1).2⟩
theorem ada {n k:Nat} {T U:Str} (h:Asc n T) (g:Asc k U) (hl:n+k≤10000):abm (.str T) (.str U)=some (.str (T++U))∧Asc (n+k) (T++U):=by
 obtain ⟨L,rfl,a,b⟩:=h
 obtain ⟨M,rfl,c,d⟩:=g
 refine ⟨?_,?_⟩
 ·show (if (tx L).length+(tx M).length≤16777216 then some (PV.str (tx L++tx M)) else none)=_
  rw [if_pos (by rw [abh,abh]; omega)]
 ·rw [ahR]
  refine ⟨_,rfl,fun x hx=>?_,by rw [List.length_append]; omega⟩
  rcases List.mem_append.mp hx with z | z
  ·exact a x z
  ·exact c x z
theorem aja {m:Nat} {i:Int} (hm:m < 10 ^ 61) (h0:0≤i) (h1:i≤100):∃ T,agM (tx (dg m)) [.int i]=some (.str T)∧Asc 161 T:=by
 refine ⟨Txt.zfill (tx (dg m)) i,?_,?_⟩
 ·show (if PadOk i=true then some (PV.str (Txt.zfill (tx (dg m)) i)) else none)=_
  have:PadOk i=true:=by
   unfold PadOk fitsSsize Builtin.Str.tooLong
   have e1:decide (i < -(2 ^ 63:Int))=false:=decide_eq_false (by omega)
   have e2:decide (i ≥ 2 ^ 63)=false:=decide_eq_false (by omega)
   rw [e1,e2]
   have e3:decide (i.toNat > sizeLine)=false:=decide_eq_false (by rw [aaG]; omega)
   rw [e3]
   rfl
  rw [if_pos this]
 ·have hl:=adO 60 m hm
  unfold Txt.zfill
  split
  ·exact ⟨_,rfl,fun _ hc=>(afj (ac5 hc)).1,by omega⟩
  ·have e:zfilled (tx (dg m)) (i.toNat - (tx (dg m)).length)=tx (List.replicate (i.toNat - (tx (dg m)).length) 48++dg m):=by
    have hd:∀ c,(tx (dg m)).cps[0]?=some c→isD c=true:=fun c hc=>by
     refine ac5 (m:=m) (List.mem_of_getElem? (i:=0) ?_)
     simpa [tx] using hc
    unfold zfilled
    split
    ·rename_i h; exact absurd (hd _ h) (by decide)
    ·rename_i h; exact absurd (hd _ h) (by decide)
    ·generalize i.toNat - (tx (dg m)).length=k
     unfold Builtin.Str.padded
     simp [tx]
   rw [e]
   refine ⟨_,rfl,fun c hc=>?_,by rw [List.length_append,List.length_replicate]; omega⟩
   rcases List.mem_append.mp hc with z | z
   ·have:=(List.mem_replicate.mp z).2
    omega
   ·exact (afj (ac5 z)).1
theorem ano {n:Nat} {T:Str} {j:Nat} (h:Asc n T) (hj:(j:Int)≤T.length) (hn:n≤9000):∃ A B C,fSlS (.str T) none (some (j:Int))=some (.str A)∧fSlS (.str T) (some (j:Int)) none=some (.str B)∧fSlS (.str T) (some ((j:Int)+1)) none=some (.str C)∧Asc n A∧Asc n B∧Asc n C:=by
 obtain ⟨L,rfl,a,b⟩:=h
 rw [abh] at hj
 refine ⟨_,_,_,als (by omega) (by omega),agj rfl (by omega),agj (j:=j+1) (by omega) (by omega),?_,?_,?_⟩
 ·exact ⟨_,rfl,fun c hc=>a c (List.mem_of_mem_take hc),by rw [List.length_take]; omega⟩
 ·exact ⟨_,rfl,fun c hc=>a c (List.mem_of_mem_drop hc),by rw [List.length_drop]; omega⟩
 ·exact ⟨_,rfl,fun c hc=>a c (List.mem_of_mem_drop hc),by rw [List.length_drop]; omega⟩
theorem amm {n:Nat} {T:Str} (h:Asc n T) (hn:n≤9000):acV [.str T]=some (.int (T.length:Nat))∧T.length≤n:=by
 obtain ⟨L,rfl,a,b⟩:=h
 rw [abh]
 refine ⟨?_,b⟩
 show (if (tx L).length≤16777216 then some (PV.int ((tx L).length:Nat)) else none)=_
 rw [if_pos (by rw [abh]; omega),abh]
theorem row1 (ns:List Int) {m:Int} (hm:0 < m) (b:Bd 8000 m):∃ (v:Int) (ns':List Int),aax [.ref 0,.pv (.int m)] [.lst (li ns)]=.ok (.pv (.int v)) [.lst (li ns')]∧0≤v∧v < m:=by
 obtain ⟨v,n1,e,a,c,_⟩:=akb (S:=[.lst (li ns)]) (k:=0) (ns:=ns) (m:=m) rfl hm b
 exact ⟨v,n1,e,a,c⟩
theorem q20:fPow (.int 10) (.int 20)=some (.int 100000000000000000000):=afr (i:=10) (j:=20) ⟨by decide,by decide,by decide⟩
theorem p60:fPow (.int 10) (.int 60)=some (.int 1000000000000000000000000000000000000000000000000000000000000):=afr (i:=10) (j:=60) ⟨by decide,by decide,by decide⟩
theorem p61:fPow (.int 10) (.int 61)=some (.int 10000000000000000000000000000000000000000000000000000000000000):=afr (i:=10) (j:=61) ⟨by decide,by decide,by decide⟩
def G60:Int:=1000000000000000000000000000000000000000000000000000000000000
theorem alC:G60=10 ^ 60:=by decide +kernel
theorem am3 {t b:Int} {k:Nat} (hb:0 < b) (ht:Bd k t) (hbb:Bd k b):∃ p q:Int,fr t b=[p,q]∧0 < q∧Bd k p∧Bd k q∧fr p q=[p,q]:=by
 obtain ⟨zs,z,e,Z,_⟩:=aib (n:=1) (L:=[t]) (b:=b) hb rfl (fun x hx=>by
  have:x=t:=by simpa using hx
  rw [this]; exact ht) hbb
 have el:=Z.len
 match zs,el,e,Z with
 | [p],_,e,Z =>
  have e:low [t,b]=[p,z]:=e
  have f1:fr t b=low [t,b]:=if_neg (by omega)
  have zp:=Z.pos
  have f2:fr p z=low [p,z]:=if_neg (by omega)
  refine ⟨p,z,by rw [f1,e],Z.pos,Z.bx p (by simp),Z.bw,?_⟩
  rw [f2]
  exact Z.low
def tN (p:Int):List Nat:=if p < 0 then 45 :: dg p.natAbs else dg p.natAbs
theorem amx (m:Nat):(Str.ofString (toString (Int.negSucc m)):Str)=tx (45 :: dg (m+1)):=by
 rw [← afk (Str.ofString (toString (Int.negSucc m))),PyProof.Rows.signs_ofString]
 have e:toString (Int.negSucc m)="-"++Nat.repr (m+1):=rfl
 rw [e,String.toList_append,List.map_append]
 have e2:(Nat.repr (m+1)).toList=Nat.toDigits 10 (m+1):=Nat.toList_repr
 rw [e2]
 rfl
theorem anF {p:Int} (h:p.natAbs < 10 ^ 61):p.natAbs.log2 < 1920:=by
 by_cases hz:p.natAbs=0
 ·rw [hz]; decide
 ·refine (Nat.log2_lt hz).mpr (Nat.lt_of_lt_of_le h ?_)
  decide +kernel
theorem alI {p:Int} (h:p.natAbs < 10 ^ 61):fStr [.int p]=some (.str (tx (tN p))):=by
 show (if p.natAbs.log2 < 1920 then some (PV.str (Str.ofString (toString p))) else none)=_
 rw [if_pos (anF h)]
 unfold tN
 cases p with
 | ofNat m =>
  rw [if_neg (by exact Int.not_lt.mpr (Int.natCast_nonneg m))]
  exact congrArg (fun x=>some (PV.str x)) (alr m)
 | negSucc m =>
  rw [if_pos (Int.negSucc_lt_zero m)]
  exact congrArg (fun x=>some (PV.str x)) (amx m)
theorem ajt (p:Int):fAbs [.int p]=some (.int ((p.natAbs:Nat):Int)):=by
 show some (PV.int (if p < 0 then -p else p))=_
 congr 2
 split <;> omega
theorem g60 (n:Nat):(10 ^ 60≤n)↔G60≤(n:Int):=by
 rw [alC]
 constructor
 ·intro h; exact_mod_cast h
 ·intro h; exact_mod_cast h
theorem p60':fPow (.int 10) (.int 60)=some (.int G60):=p60
theorem ag5 (S:Sto) (p:Int):abq [.pv (.int p)] S=if G60≤((p.natAbs:Nat):Int) then .exc "TooGreat" S else .ok (.pv (.str (tx (dg p.natAbs)))) S:=by
 have ab:=ajt p
 have es:¬ G60≤((p.natAbs:Nat):Int)→fStr [.int ((p.natAbs:Nat):Int)]=some (.str (tx (dg p.natAbs))):=fun h=>by
  have h2:p.natAbs < 10 ^ 60:=Nat.lt_of_not_le fun z=>h ((g60 p.natAbs).mp z)
  have:=akn (v:=((p.natAbs:Nat):Int)) (by omega) (by
   have:p.natAbs < 10 ^ 61:=Nat.lt_trans h2 (by decide +kernel)
   exact_mod_cast this)
  exact this.1
 have q:=p60'
 have hb:abO=(sSeq (sIf (mTst (mBin fGe (mR fAbs (aac (mVar 0) mNil)) (mBin fPow (mC (.int 10)) (mC (.int 60))))) (aeA "TooGreat") sNil)
 (sRet (mR fStr (aac (mR fAbs (aac (mVar 0) mNil)) mNil)))):=rfl
 unfold abq fnM
 rw [hb]
 generalize G60=G at *
 generalize tx (dg p.natAbs)=T at *
 generalize ((p.natAbs:Nat):Int)=A at *
 have eAbs:∀ xs,fAbs xs=fAbs xs:=fun _=>rfl
 by_cases h:G≤A
 ·simp [EC,aaj,aal,fIx,atI,ixN,fEq,fNe,eqN,aam,aap,aan,aao,fAdd,aag,frz,aar,ab,q,h,aeA]
 ·have es:=es h
  simp [EC,aaj,aal,fIx,atI,ixN,fEq,fNe,eqN,aam,aap,aan,aao,fAdd,aag,frz,aar,ab,q,h,es]
def txt (p q:Int):List Nat:=if q=1 then tN p else tN p++47 :: dg q.natAbs
theorem ajI {p:Int} (h:p.natAbs < 10 ^ 60):(tN p).length≤61:=by
 have:=adO 59 p.natAbs h
 unfold tN
 split
 ·rw [List.length_cons]; omega
 ·omega
theorem lt60 {p:Int} (h:¬ G60≤((p.natAbs:Nat):Int)):p.natAbs < 10 ^ 60:=Nat.lt_of_not_le fun z=>h ((g60 p.natAbs).mp z)
theorem ajE {A B:List Nat} (h:A.length+B.length≤10000):abm (.str (tx A)) (.str (tx B))=some (.str (tx (A++B))):=by
 show (if (tx A).length+(tx B).length≤16777216 then some (PV.str (tx A++tx B)) else none)=_
 rw [if_pos (by rw [abh,abh]; omega),ahR]
theorem aio {p q:Int} (hp:p.natAbs < 10 ^ 60) (hq:q.natAbs < 10 ^ 60):abm (.str "-") (.str (tx (dg p.natAbs)))=some (.str (tx (45 :: dg p.natAbs)))∧abm (.str (tx (tN p))) (.str "/")=some (.str (tx (tN p++[47])))∧abm (.str (tx (tN p++[47]))) (.str (tx (dg q.natAbs)))=some (.str (tx (tN p++47 :: dg q.natAbs))):=by
 have l1:=ajI hp
 have l2:=adO 59 p.natAbs hp
 have l3:=adO 59 q.natAbs hq
 refine ⟨?_,?_,?_⟩
 ·rw [afY,ajE (by simp; omega)]
  rfl
 ·rw [afh,ajE (by simp; omega)]
 ·rw [ajE (by simp; omega),List.append_assoc]
  rfl
theorem alc (S:Sto) {p q:Int}:aaC [.pv (.tup [.int p,.int q])] S=if G60≤((p.natAbs:Nat):Int)∨(q≠1∧G60≤((q.natAbs:Nat):Int)) then .exc "TooGreat" S else .ok (.pv (.str (tx (txt p q)))) S:=by
 have e1:=ag5 S p
 have e2:=ag5 S q
 by_cases hp:G60≤((p.natAbs:Nat):Int)
 ·rw [if_pos hp] at e1
  rw [if_pos (.inl hp)]
  unfold aaC fnM aa2
  simp [EC,fAbs,aaj,aal,fIx,atI,ixN,fEq,fNe,eqN,aam,aap,aan,aao,fAdd,aag,frz,aar,e1]
 ·rw [if_neg hp] at e1
  by_cases h1:q=1
  ·subst h1
   rw [if_neg (fun z=>z.elim hp fun z=>z.1 rfl)]
   obtain ⟨a1,_,_⟩:=aio (p:=p) (q:=1) (lt60 hp) (by decide +kernel)
   unfold txt tN aaC fnM aa2
   rw [if_pos rfl]
   by_cases hn:p < 0
   ·rw [if_pos hn]
    generalize tx (dg p.natAbs)=T at *
    generalize tx (45 :: dg p.natAbs)=T2 at *
    simp [EC,fAbs,aaj,aal,fIx,atI,ixN,fEq,fNe,eqN,aam,aap,aan,aao,fAdd,aag,frz,aar,e1,hn,a1]
   ·rw [if_neg hn]
    generalize tx (dg p.natAbs)=T at *
    simp [EC,fAbs,aaj,aal,fIx,atI,ixN,fEq,fNe,eqN,aam,aap,aan,aao,fAdd,aag,frz,aar,e1,hn]
  ·have h1':(q == 1)=false:=by simpa using h1
   by_cases hq:G60≤((q.natAbs:Nat):Int)
   ·rw [if_pos hq] at e2
    rw [if_pos (.inr ⟨h1,hq⟩)]
    obtain ⟨a1,a2,_⟩:=aio (p:=p) (q:=1) (lt60 hp) (by decide +kernel)
    unfold aaC fnM aa2
    unfold tN at a2
    by_cases hn:p < 0
    ·rw [if_pos hn] at a2
     generalize tx (dg p.natAbs)=T at *
     generalize tx (45 :: dg p.natAbs)=T2 at *
     generalize tx (45 :: dg p.natAbs++[47])=T3 at *
     simp [EC,fAbs,aaj,aal,fIx,atI,ixN,fEq,fNe,eqN,aam,aap,aan,aao,fAdd,aag,frz,aar,e1,hn,a1,h1',a2,e2]
    ·rw [if_neg hn] at a2
     generalize tx (dg p.natAbs)=T at *
     generalize tx (dg p.natAbs++[47])=T3 at *
     simp [EC,fAbs,aaj,aal,fIx,atI,ixN,fEq,fNe,eqN,aam,aap,aan,aao,fAdd,aag,frz,aar,e1,hn,h1',a2,e2]
   ·rw [if_neg hq] at e2
    rw [if_neg (fun z=>z.elim hp fun z=>hq z.2)]
    obtain ⟨a1,a2,a3⟩:=aio (p:=p) (q:=q) (lt60 hp) (lt60 hq)
    unfold aaC fnM aa2 txt
    rw [if_neg h1]
    unfold tN at a2 a3 ⊢
    by_cases hn:p < 0
    ·rw [if_pos hn] at a2 a3 ⊢
     generalize tx (45 :: dg p.natAbs++47 :: dg q.natAbs)=T4 at *
     generalize tx (45 :: dg p.natAbs++[47])=T3 at *
     generalize tx (45 :: dg p.natAbs)=T2 at *
     generalize tx (dg p.natAbs)=T at *
     generalize tx (dg q.natAbs)=U at *
     simp [EC,fAbs,aaj,aal,fIx,atI,ixN,fEq,fNe,eqN,aam,aap,aan,aao,fAdd,aag,frz,aar,e1,hn,a1,h1',a2,e2,a3]
    ·rw [if_neg hn] at a2 a3 ⊢
     generalize tx (dg p.natAbs++47 :: dg q.natAbs)=T4 at *
     generalize tx (dg p.natAbs++[47])=T3 at *
     generalize tx (dg p.natAbs)=T at *
     generalize tx (dg q.natAbs)=U at *
     simp [EC,fAbs,aaj,aal,fIx,atI,ixN,fEq,fNe,eqN,aam,aap,aan,aao,fAdd,aag,frz,aar,e1,hn,h1',a2,e2,a3]
theorem aiO {q:Int} (h0:0 < q) (h:q.natAbs < 10 ^ 60):fStr [.int q]=some (.str (tx (dg q.natAbs))):=by
 have:=alI (p:=q) (Nat.lt_trans h (by decide +kernel))
 unfold tN at this
 rw [if_neg (by omega)] at this
 exact this
theorem aiP (S:Sto) {t b p q:Int} (ef:aci [.pv (.int t),.pv (.int b)] S=.ok (.pv (.tup [.int p,.int q])) S) (hq:0 < q):abb [.pv (.int t),.pv (.int b)] S=.ok (if G60≤((p.natAbs:Nat):Int)∨(q≠1∧G60≤((q.natAbs:Nat):Int)) then .pv .non else .pv (.str (tx (txt p q)))) S:=by
 have ab:=ajt p
 have q6:=p60'
 have qa:((q.natAbs:Nat):Int)=q:=by omega
 have hb:aek=(sSeq (sAsg (gT 2 (aco (gN 0) (aco (gN 1) ae0))) (aak aci [] (aac (mVar 0) (aac (mVar 1) mNil))))
 (sSeq (sIf (mOr (mTst (mBin fGe (mR fAbs (aac (mVar 0) mNil)) (mBin fPow (mC (.int 10)) (mC (.int 60))))) (mTst (mBin fGe (mVar 1) (mBin fPow (mC (.int 10)) (mC (.int 60)))))) (sRet (mC .non)) sNil)
 (sSeq (sIf (mTst (mBin fEq (mVar 1) (mC (.int 1)))) (sRet (mR fStr (aac (mVar 0) mNil))) sNil)
 (sRet (mBin abm (mBin abm (mR fStr (aac (mVar 0) mNil)) (mC (.str "/"))) (mR fStr (aac (mVar 1) mNil))))))):=rfl
 by_cases hp:G60≤((p.natAbs:Nat):Int)
 ·rw [if_pos (.inl hp)]
  unfold abb fnM
  rw [hb]
  generalize G60=G at *
  generalize ((p.natAbs:Nat):Int)=A at *
  simp [EC,aaj,aal,fIx,atI,ixN,fEq,fNe,eqN,aam,aap,aan,aao,fAdd,aag,frz,aar,sAsg,gT,aco,ae0,gN,ef,ab,q6,hp]
 ·have s1:=alI (p:=p) (Nat.lt_trans (lt60 hp) (by decide +kernel))
  by_cases hg:G60≤((q.natAbs:Nat):Int)
  ·have h1:q≠1:=fun z=>by
    rw [z] at hg
    exact absurd hg (by rw [alC]; decide +kernel)
   rw [if_pos (.inr ⟨h1,hg⟩)]
   rw [qa] at hg
   unfold abb fnM
   rw [hb]
   generalize G60=G at *
   generalize ((p.natAbs:Nat):Int)=A at *
   simp [EC,aaj,aal,fIx,atI,ixN,fEq,fNe,eqN,aam,aap,aan,aao,fAdd,aag,frz,aar,sAsg,gT,aco,ae0,gN,ef,ab,q6,hp,hg]
  ·rw [if_neg (fun z=>z.elim hp fun z=>hg z.2)]
   have s2:=aiO hq (lt60 hg)
   obtain ⟨_,a2,a3⟩:=aio (p:=p) (q:=q) (lt60 hp) (lt60 hg)
   rw [qa] at hg
   unfold abb fnM txt
   rw [hb]
   by_cases h1:q=1
   ·subst h1
    rw [if_pos rfl]
    generalize G60=G at *
    generalize ((p.natAbs:Nat):Int)=A at *
    generalize tx (tN p)=T at *
    simp [EC,aaj,aal,fIx,atI,ixN,fEq,fNe,eqN,aam,aap,aan,aao,fAdd,aag,frz,aar,sAsg,gT,aco,ae0,gN,ef,ab,q6,hp,hg,s1]
   ·rw [if_neg h1]
    have h1':(q == 1)=false:=by simpa using h1
    generalize G60=G at *
    generalize ((p.natAbs:Nat):Int)=A at *
    generalize tx (tN p++47 :: dg q.natAbs)=T4 at *
    generalize tx (tN p++[47])=T3 at *
    generalize tx (tN p)=T at *
    generalize tx (dg q.natAbs)=U at *
    simp [EC,aaj,aal,fIx,atI,ixN,fEq,fNe,eqN,aam,aap,aan,aao,fAdd,aag,frz,aar,sAsg,gT,aco,ae0,gN,ef,ab,q6,hp,hg,h1',s1,a2,s2,a3]
theorem aiW {m:Nat} (h:m < 10 ^ 60):okD (dg m)=true:=by
 have a:=am9 m
 have b:=adO 59 m h
 unfold okD
 have c:(dg m).all isD=true:=List.all_eq_true.mpr fun x hx=>ac5 hx
 rw [c]
 simp [a,b]
theorem amh (p:Int):bd (tN p)=dg p.natAbs∧(((tN p).head?=some 45)↔p < 0):=by
 have hd:(dg p.natAbs).head?≠some 45:=fun z=>by
  have:=ac5 (m:=p.natAbs) (c:=45) (by
   cases h:dg p.natAbs with
   | nil=>rw [h] at z; cases z
   | cons a L=>rw [h] at z; cases z; simp)
  exact absurd this (by decide)
 unfold tN bd
 by_cases h:p < 0
 ·rw [if_pos h]
  simp [h]
 ·rw [if_neg h]
  exact ⟨if_neg hd,fun z=>absurd z hd,fun z=>absurd z h⟩
theorem anL (p:Int):sN (tN p)=p:=by
 obtain ⟨a,b⟩:=amh p
 unfold sN
 rw [a,alx]
 by_cases h:p < 0
 ·rw [if_pos (b.mpr h)]; omega
 ·rw [if_neg (fun z=>h (b.mp z))]; omega
theorem ai0 (p:Int):(∀ c∈tN p,c < 128)∧47 ∉ tN p:=by
 have d:∀ c∈dg p.natAbs,c < 128∧c≠45∧c≠47:=fun c hc=>afj (ac5 hc)
 unfold tN
 split
 ·refine ⟨fun c hc=>?_,fun z=>?_⟩
  ·rcases List.mem_cons.mp hc with rfl | hc
   ·decide
   ·exact (d c hc).1
  ·rcases List.mem_cons.mp z with z | z
   ·cases z
   ·exact (d 47 z).2.2 rfl
 ·exact ⟨fun c hc=>(d c hc).1,fun z=>(d 47 z).2.2 rfl⟩
theorem akW (S:Sto) {p q:Int} (hp:p.natAbs < 10 ^ 60) (hq:q.natAbs < 10 ^ 60) (h0:0 < q) (ef:fr p q=[p,q]):aaq [.pv (.str (tx (txt p q)))] S=.ok (.pv (.tup [.int p,.int q])) S:=by
 obtain ⟨P,es,hf,hi,hne⟩:=aik (txt p q) 47
 obtain ⟨f1,f2⟩:=ai0 p
 have l1:=ajI hp
 have l3:=adO 59 q.natAbs hq
 have fd:(∀ c∈dg q.natAbs,c < 128)∧47 ∉ dg q.natAbs:=⟨fun c hc=>(afj (ac5 hc)).1,fun z=>(afj (ac5 z)).2.2 rfl⟩
 by_cases h1:q=1
 ·subst h1
  have eP:P=[tN p]:=ad5 hne (by simp) hf (by simpa using f2) (by rw [hi]; rfl)
  subst eP
  rw [ae4 S es hne (by simpa using f1) (by simpa using Nat.le_trans l1 (by decide)) (by show (tN p).length≤10000; omega),rdN1,if_pos (by rw [(amh p).1]; exact aiW hp),anL]
  show Res.ok (AV.pv (.tup ((fr p 1).map .int))) S=_
  rw [ef]
  rfl
 ·have et:txt p q=tN p++47 :: dg q.natAbs:=if_neg h1
  have eP:P=[tN p,dg q.natAbs]:=ad5 hne (by simp) hf (by
   intro x hx
   have:x=tN p∨x=dg q.natAbs:=by simpa using hx
   rcases this with rfl | rfl
   ·exact f2
   ·exact fd.2) (by rw [hi,et]; rfl)
  subst eP
  have qv:vD (dg q.natAbs)=q:=by rw [alx]; omega
  rw [ae4 S es hne (fun x hx=>by
   have:x=tN p∨x=dg q.natAbs:=by simpa using hx
   rcases this with rfl | rfl
   ·exact f1
   ·exact fd.1) (fun x hx=>by
   have:x=tN p∨x=dg q.natAbs:=by simpa using hx
   rcases this with rfl | rfl <;> omega) (by rw [et,List.length_append,List.length_cons]; omega),rdN2,if_pos ⟨by rw [(amh p).1]; exact aiW hp,aiW hq,by rw [qv]; omega⟩,anL,qv]
  show Res.ok (AV.pv (.tup ((fr p q).map .int))) S=_
  rw [ef]
  rfl
theorem ag2 (S:Sto) {x0:Option AV}:∀ (is:List PV) (v:Int) (x2:Option AV),∃ y2,acA [] (gN 2) (sSet 1 (mBin fMul (mVar 1) (mC (.int 10)))) is [x0,some (.pv (.int v)),x2] S=.nx [x0,some (.pv (.int (v*10 ^ is.length))),y2] S
 | [],v,x2=>⟨x2,by simp [abP]⟩
 | i :: is,v,x2=>by
  have m:fMul (.int v) (.int 10)=some (.int (v*10)):=ab6 (.inl (.inr ⟨by decide,by decide⟩))
  obtain ⟨y2,ih⟩:=ag2 S (x0:=x0) is (v*10) (some (.pv i))
  refine ⟨y2,?_⟩
  have e:v*10 ^ (i :: is).length=v*10*10 ^ is.length:=by
   rw [List.length_cons,Int.pow_succ,Int.mul_assoc,Int.mul_comm 10]
  rw [e,← ih,abj]
  simp [gN,EC,fAbs,aaj,aal,fIx,atI,ixN,fEq,fNe,eqN,aam,aap,aan,aao,fAdd,aag,frz,aar,m]
theorem ajB (S:Sto) {n:Nat} (h:n≤100):aen [.pv (.int (n:Int))] S=.ok (.pv (.int (10 ^ n))) S:=by
 have rg:rng1 [.pv (.int (n:Int))] S=.ok (acn 0 n,[]) S:=by
  unfold rng1
  dsimp only
  rw [if_pos ⟨by omega,by omega⟩]
  rfl
 obtain ⟨y2,e⟩:=ag2 S (x0:=some (.pv (.int (n:Int)))) (acn 0 n) 1 none
 have l:(acn 0 n).length=n:=by unfold acn; simp
 rw [l,Int.one_mul] at e
 have hb:ahp=(sSeq (sSet 1 (mC (.int 1))) (sSeq (sFor (acJ (aac (mVar 0) mNil)) (gN 2) (sSet 1 (mBin fMul (mVar 1) (mC (.int 10))))) (sRet (mVar 1)))):=rfl
 unfold aen fnM
 rw [hb]
 generalize (sSet 1 (mBin fMul (mVar 1) (mC (.int 10))))=LB at *
 generalize acn 0 n=IL at *
 generalize ((10:Int) ^ n)=TN at *
 generalize (n:Int)=N at *
 simp [EC,fAbs,aaj,aal,fIx,atI,ixN,fEq,fNe,eqN,aam,aap,aan,aao,fAdd,aag,frz,aar,sFor,acJ,rg,e]
theorem ajs (ns:List Int):∃ (T:Str) (ns':List Int),abd [.ref 0] [.lst (li ns)]=.ok (.pv (.str T)) [.lst (li ns')]∧Asc 161 T:=by
 obtain ⟨a,n1,e1,a0,a1⟩:=row1 ns (m:=4) (by decide) (sm8 (by decide) (by decide))
 obtain ⟨b,n2,e2,b0,b1⟩:=row1 n1 (m:=4) (by decide) (sm8 (by decide) (by decide))
 obtain ⟨c,n3,e3,c0,c1⟩:=row1 n2 (m:=3) (by decide) (sm8 (by decide) (by decide))
 have pw:∀ n:Nat,n≤61→∀ ms,∃ (T:Str) (ms':List Int),(∃ v,aax [.ref 0,.pv (.int (10 ^ n))] [.lst (li ms)]=.ok (.pv (.int v)) [.lst (li ms')]∧fStr [.int v]=some (.str (tx (dg v.toNat)))∧agM (tx (dg v.toNat)) [.int (n:Int)]=some (.str T))∧Asc 161 T:=fun n hn ms=>by
  have p1:(10:Int) ^ n≤10 ^ 61:=by
   have:(10:Nat) ^ n≤10 ^ 61:=Nat.pow_le_pow_right (by decide) hn
   exact_mod_cast this
  have p0:(0:Int) < 10 ^ n:=Int.pow_pos (by decide)
  obtain ⟨v,m1,e,v0,v1⟩:=row1 ms (m:=10 ^ n) p0 ((Bd.of (k:=300) (n:=10 ^ 61) (by omega) (by decide +kernel)).mono (by decide))
  have hv:v < 10 ^ 61:=by omega
  obtain ⟨s1,_⟩:=akn v0 hv
  obtain ⟨T,z1,z2⟩:=aja (m:=v.toNat) (i:=(n:Int)) (by
   have:((v.toNat:Nat):Int) < 10 ^ 61:=by omega
   exact_mod_cast this) (by omega) (by omega)
  exact ⟨T,m1,⟨v,e,s1,z1⟩,z2⟩
 have hb:(b == 3)=true∨(b == 3)=false:=by cases (b == 3) <;> simp
 rcases hb with hb | hb
 ·obtain ⟨k,hk,hk2⟩:∃ k:Nat,59+c=(k:Int)∧k≤61:=⟨(59+c).toNat,by omega,by omega⟩
  obtain ⟨T,m1,⟨v,e4,s4,z4⟩,A⟩:=pw k hk2 n3
  have et:=ajB [.lst (li n3)] (n:=k) (by omega)
  have ad:fAdd (.int 59) (.int c)=some (.int (k:Int)):=by rw [fAdd,hk]
  refine ⟨T,m1,?_,A⟩
  generalize tx (dg v.toNat)=TD at *
  generalize ((10:Int) ^ k)=TN at *
  generalize (k:Int)=KN at *
  have a1':fAdd (.int 1) (.int a)=some (.int (1+a)):=rfl
  unfold abd fnM ado
  simp [EC,fAbs,aaj,aal,fIx,atI,ixN,fEq,fNe,eqN,aam,aap,aan,aao,aag,frz,aar,a1',e1,e2,hb,e3,ad,et,e4,s4,mMet,strR,z4]
 ·obtain ⟨k,hk,hk2⟩:∃ k:Nat,1+a=(k:Int)∧k≤61:=⟨(1+a).toNat,by omega,by omega⟩
  obtain ⟨T,m1,⟨v,e4,s4,z4⟩,A⟩:=pw k hk2 n2
  have et:=ajB [.lst (li n2)] (n:=k) (by omega)
  have ad:fAdd (.int 1) (.int a)=some (.int (k:Int)):=by rw [fAdd,hk]
  refine ⟨T,m1,?_,A⟩
  generalize tx (dg v.toNat)=TD at *
  generalize ((10:Int) ^ k)=TN at *
  generalize (k:Int)=KN at *
  unfold abd fnM ado
  simp [EC,fAbs,aaj,aal,fIx,atI,ixN,fEq,fNe,eqN,aam,aap,aan,aao,aag,frz,aar,e1,e2,hb,ad,et,e4,s4,mMet,strR,z4]
theorem agy:Asc 1 ("/":Str)∧Asc 1 ("-":Str):=⟨⟨[47],afh,by decide,by decide⟩,⟨[45],afY,by decide,by decide⟩⟩
theorem ak0 (ns:List Int):∃ (T:Str) (ns':List Int),aaR [.ref 0] [.lst (li ns)]=.ok (.pv (.str T)) [.lst (li ns')]∧Asc 600 T:=by
 obtain ⟨T,n1,e1,A1⟩:=ajs ns
 obtain ⟨w,n2,e2,w0,w1⟩:=row1 n1 (m:=6) (by decide) (sm8 (by decide) (by decide))
 have mid:∃ (U:Str) (n4:List Int),Asc 500 U∧∀ x3 x4:MS,(sSeq (sIf (mOr (mTst (mBin fEq (mVar 2) (mC (.int 0)))) (mTst (mBin fEq (mVar 2) (mC (.int 1))))) (sSet 1 (mBin abm (mBin abm (mVar 1) (mC (.str "/"))) (aak abd [] (aac (mVar 0) mNil)))) sNil) (sSeq (sIf (mTst (mBin fEq (mVar 2) (mC (.int 2)))) (sSet 1 (mBin abm (mBin abm (mVar 1) (mC (.str "/"))) (mR fStr (aac (mBin fAdd (mC (.int 1)) (aak aax [] (aac (mVar 0) (aac (mC (.int 12)) mNil)))) mNil)))) sNil) (sSeq x3 x4))) [some (.ref 0),some (.pv (.str T)),some (.pv (.int w))] [.lst (li n2)]=(sSeq x3 x4) [some (.ref 0),some (.pv (.str U)),some (.pv (.int w))] [.lst (li n4)]:=by
  obtain ⟨a1,A2⟩:=ada A1 agy.1 (by decide)
  by_cases h01:w=0∨w=1
  ·obtain ⟨U,n3,e3,A3⟩:=ajs n2
   obtain ⟨a2,A4⟩:=ada A2 A3 (by decide)
   refine ⟨_,n3,A4.mono (by decide),fun x3 x4=>?_⟩
   have h2:(w == 2)=false:=by
    rcases h01 with rfl | rfl <;> rfl
   rcases h01 with rfl | rfl
   ·simp [EC,fAbs,aaj,aal,fIx,atI,ixN,fEq,fNe,eqN,aam,aap,aan,aao,fAdd,aag,frz,aar,a1,e3,a2]
   ·simp [EC,fAbs,aaj,aal,fIx,atI,ixN,fEq,fNe,eqN,aam,aap,aan,aao,fAdd,aag,frz,aar,a1,e3,a2]
  ·have h0:(w == 0)=false:=by simpa using fun z=>h01 (.inl z)
   have h1:(w == 1)=false:=by simpa using fun z=>h01 (.inr z)
   by_cases h2:w=2
   ·obtain ⟨v,n3,e3,v0,v1⟩:=row1 n2 (m:=12) (by decide) (sm8 (by decide) (by decide))
    have hv:1+v < 10 ^ 61:=by omega
    obtain ⟨s1,_⟩:=akn (v:=1+v) (by omega) hv
    obtain ⟨a2,A4⟩:=ada A2 (am6 hv (by omega)) (by decide)
    refine ⟨_,n3,A4.mono (by decide),fun x3 x4=>?_⟩
    subst h2
    generalize tx (dg (1+v).toNat)=TD at *
    simp [EC,fAbs,aaj,aal,fIx,atI,ixN,fEq,fNe,eqN,aam,aap,aan,aao,fAdd,aag,frz,aar,a1,e3,s1,a2]
   ·have h2:(w == 2)=false:=by simpa using h2
    refine ⟨T,n2,A1.mono (by decide),fun x3 x4=>?_⟩
    simp [EC,fAbs,aaj,aal,fIx,atI,ixN,fEq,fNe,eqN,aam,aap,aan,aao,fAdd,aag,frz,aar,h0,h1,h2]
 obtain ⟨U,n4,AU,em⟩:=mid
 obtain ⟨q,n5,e5,q0,q1⟩:=row1 n4 (m:=3) (by decide) (sm8 (by decide) (by decide))
 have hb:acR=(sSeq (sSet 1 (aak abd [] (aac (mVar 0) mNil))) (sSeq (sSet 2 (aak aax [] (aac (mVar 0) (aac (mC (.int 6)) mNil)))) (sSeq (sIf (mOr (mTst (mBin fEq (mVar 2) (mC (.int 0)))) (mTst (mBin fEq (mVar 2) (mC (.int 1))))) (sSet 1 (mBin abm (mBin abm (mVar 1) (mC (.str "/"))) (aak abd [] (aac (mVar 0) mNil)))) sNil) (sSeq (sIf (mTst (mBin fEq (mVar 2) (mC (.int 2)))) (sSet 1 (mBin abm (mBin abm (mVar 1) (mC (.str "/"))) (mR fStr (aac (mBin fAdd (mC (.int 1)) (aak aax [] (aac (mVar 0) (aac (mC (.int 12)) mNil)))) mNil)))) sNil) (sSeq (sIf (mTst (mBin fEq (aak aax [] (aac (mVar 0) (aac (mC (.int 3)) mNil))) (mC (.int 2)))) (sSet 1 (mBin abm (mC (.str "-")) (mVar 1))) sNil) (sRet (mVar 1))))))):=rfl
 have em:=em (sIf (mTst (mBin fEq (aak aax [] (aac (mVar 0) (aac (mC (.int 3)) mNil))) (mC (.int 2)))) (sSet 1 (mBin abm (mC (.str "-")) (mVar 1))) sNil) (sRet (mVar 1))
 have key:∃ (W:Str),Asc 600 W∧(sSeq (sIf (mTst (mBin fEq (aak aax [] (aac (mVar 0) (aac (mC (.int 3)) mNil))) (mC (.int 2)))) (sSet 1 (mBin abm (mC (.str "-")) (mVar 1))) sNil) (sRet (mVar 1))) [some (.ref 0),some (.pv (.str U)),some (.pv (.int w))] [.lst (li n4)]=.rt (.pv (.str W)) [.lst (li n5)]:=by
  obtain ⟨a3,A5⟩:=ada agy.2 AU (by decide)
  by_cases h2:q=2
  ·subst h2
   refine ⟨_,A5.mono (by decide),?_⟩
   simp [EC,fAbs,aaj,aal,fIx,atI,ixN,fEq,fNe,eqN,aam,aap,aan,aao,fAdd,aag,frz,aar,e5,a3]
  ·have h2:(q == 2)=false:=by simpa using h2
   refine ⟨U,AU.mono (by decide),?_⟩
   simp [EC,fAbs,aaj,aal,fIx,atI,ixN,fEq,fNe,eqN,aam,aap,aan,aao,fAdd,aag,frz,aar,e5,h2]
 obtain ⟨W,AW,ek⟩:=key
 refine ⟨W,n5,?_,AW⟩
 unfold aaR fnM
 rw [hb]
 rw [ek] at em
 generalize (sSeq (sIf (mOr (mTst (mBin fEq (mVar 2) (mC (.int 0)))) (mTst (mBin fEq (mVar 2) (mC (.int 1))))) (sSet 1 (mBin abm (mBin abm (mVar 1) (mC (.str "/"))) (aak abd [] (aac (mVar 0) mNil)))) sNil) (sSeq (sIf (mTst (mBin fEq (mVar 2) (mC (.int 2)))) (sSet 1 (mBin abm (mBin abm (mVar 1) (mC (.str "/"))) (mR fStr (aac (mBin fAdd (mC (.int 1)) (aak aax [] (aac (mVar 0) (aac (mC (.int 12)) mNil)))) mNil)))) sNil) (sSeq (sIf (mTst (mBin fEq (aak aax [] (aac (mVar 0) (aac (mC (.int 3)) mNil))) (mC (.int 2)))) (sSet 1 (mBin abm (mC (.str "-")) (mVar 1))) sNil) (sRet (mVar 1)))))=RB at *
 simp [EC,fAbs,aaj,aal,fIx,atI,ixN,fEq,fNe,eqN,aam,aap,aan,aao,fAdd,aag,frz,aar,e1,e2,em]
theorem anu:(" ,+/-0123456789nonepushturnby":Str)=tx [32,44,43,47,45,48,49,50,51,52,53,54,55,56,57,110,111,110,101,112,117,115,104,116,117,114,110,98,121]:=by kernel_rfl
theorem anc:(" !\"#$&'()*+,-./0123456789:;<=>?@ABCDEFGHIJKLMNOPQRSTUVWXYZ[\\]^_`abcdefghijklmnopqrstuvwxyz{|}~":Str)=tx [32,33,34,35,36,38,39,40,41,42,43,44,45,46,47,48,49,50,51,52,53,54,55,56,57,58,59,60,61,62,63,64,65,66,67,68,69,70,71,72,73,74,75,76,77,78,79,80,81,82,83,84,85,86,87,88,89,90,91,92,93,94,95,96,97,98,99,100,101,102,103,104,105,106,107,108,109,110,111,112,113,114,115,116,117,118,119,120,121,122,123,124,125,126]:=by kernel_rfl
theorem am1 {L:List Nat} (ha:∀ c∈L,c < 128) (hl:L.length≤1000) {v:Int} (h0:0≤v) (h1:v < L.length):∃ T,fIxS (.str (tx L)) (.int v)=some (.str T)∧Asc 1 T:=by
 obtain ⟨j,rfl⟩:=Int.eq_ofNat_of_zero_le h0
 have hj:j < L.length:=by omega
 refine ⟨tx [L[j]],?_,⟨_,rfl,fun c hc=>?_,by simp⟩⟩
 ·show (if (tx L).length≤16777216 then (atI (tx L).cps.toList (j:Int)).map (fun c=>PV.str ⟨#[c]⟩) else none)=_
  have e:(tx L).cps.toList=L:=by simp [tx]
  rw [if_pos (by rw [abh]; omega),e,amz (j:=j) (List.getElem?_eq_getElem hj)]
  rfl
 ·have:c=L[j]:=by simpa using hc
  rw [this]
  exact ha _ (List.getElem_mem _)
theorem alJ {L:List Nat} (hl:L.length≤1000):acV [.str (tx L)]=some (.int (L.length:Nat)):=by
 show (if (tx L).length≤16777216 then some (PV.int ((tx L).length:Nat)) else none)=_
 rw [if_pos (by rw [abh]; omega),abh]
theorem aiE (ns:List Int):∃ (T:Str) (ns':List Int),acu [.ref 0] [.lst (li ns)]=.ok (.pv (.str T)) [.lst (li ns')]∧Asc 1 T:=by
 obtain ⟨a,n1,e1,a0,a1⟩:=row1 ns (m:=2) (by decide) (sm8 (by decide) (by decide))
 have l1:=alJ (L:=[32,44,43,47,45,48,49,50,51,52,53,54,55,56,57,110,111,110,101,112,117,115,104,116,117,114,110,98,121]) (by decide)
 have l2:=alJ (L:=[32,33,34,35,36,38,39,40,41,42,43,44,45,46,47,48,49,50,51,52,53,54,55,56,57,58,59,60,61,62,63,64,65,66,67,68,69,70,71,72,73,74,75,76,77,78,79,80,81,82,83,84,85,86,87,88,89,90,91,92,93,94,95,96,97,98,99,100,101,102,103,104,105,106,107,108,109,110,111,112,113,114,115,116,117,118,119,120,121,122,123,124,125,126]) (by decide)
 obtain ⟨v,n2,e2,v0,v1⟩:=row1 n1 (m:=(([32,44,43,47,45,48,49,50,51,52,53,54,55,56,57,110,111,110,101,112,117,115,104,116,117,114,110,98,121].length:Nat):Int)) (by decide) (sm8 (by decide) (by decide))
 obtain ⟨u,n3,e3,u0,u1⟩:=row1 n1 (m:=(([32,33,34,35,36,38,39,40,41,42,43,44,45,46,47,48,49,50,51,52,53,54,55,56,57,58,59,60,61,62,63,64,65,66,67,68,69,70,71,72,73,74,75,76,77,78,79,80,81,82,83,84,85,86,87,88,89,90,91,92,93,94,95,96,97,98,99,100,101,102,103,104,105,106,107,108,109,110,111,112,113,114,115,116,117,118,119,120,121,122,123,124,125,126].length:Nat):Int)) (by decide) (sm8 (by decide) (by decide))
 obtain ⟨T,t1,A1⟩:=am1 (L:=[32,44,43,47,45,48,49,50,51,52,53,54,55,56,57,110,111,110,101,112,117,115,104,116,117,114,110,98,121]) (by decide) (by decide) v0 v1
 obtain ⟨U,t2,A2⟩:=am1 (L:=[32,33,34,35,36,38,39,40,41,42,43,44,45,46,47,48,49,50,51,52,53,54,55,56,57,58,59,60,61,62,63,64,65,66,67,68,69,70,71,72,73,74,75,76,77,78,79,80,81,82,83,84,85,86,87,88,89,90,91,92,93,94,95,96,97,98,99,100,101,102,103,104,105,106,107,108,109,110,111,112,113,114,115,116,117,118,119,120,121,122,123,124,125,126]) (by decide) (by decide) u0 u1
 rw [← anu] at l1 t1
 rw [← anc] at l2 t2
 generalize (([32,44,43,47,45,48,49,50,51,52,53,54,55,56,57,110,111,110,101,112,117,115,104,116,117,114,110,98,121].length:Nat):Int)=N1 at *
 generalize (([32,33,34,35,36,38,39,40,41,42,43,44,45,46,47,48,49,50,51,52,53,54,55,56,57,58,59,60,61,62,63,64,65,66,67,68,69,70,71,72,73,74,75,76,77,78,79,80,81,82,83,84,85,86,87,88,89,90,91,92,93,94,95,96,97,98,99,100,101,102,103,104,105,106,107,108,109,110,111,112,113,114,115,116,117,118,119,120,121,122,123,124,125,126].length:Nat):Int)=N2 at *
 unfold acu fnM aep
 generalize (" ,+/-0123456789nonepushturnby":Str)=TS at *
 generalize (" !\"#$&'()*+,-./0123456789:;<=>?@ABCDEFGHIJKLMNOPQRSTUVWXYZ[\\]^_`abcdefghijklmnopqrstuvwxyz{|}~":Str)=TM at *
 have ha:(a == 0)=true∨(a == 0)=false:=by cases (a == 0) <;> simp
 rcases ha with ha | ha
 ·exact ⟨T,n2,by simp [EC,fAbs,aaj,aal,fIx,atI,ixN,fEq,fNe,eqN,aam,aap,aan,aao,fAdd,aag,frz,aar,e1,ha,l1,e2,t1],A1⟩
 ·exact ⟨U,n3,by simp [EC,fAbs,aaj,aal,fIx,atI,ixN,fEq,fNe,eqN,aam,aap,aan,aao,fAdd,aag,frz,aar,e1,ha,l2,e3,t2],A2⟩
theorem aiX {g:GM} {me:ME} {ρ:Rho} {S:Sto}:abV [] g me [] ρ S=.ok [] S:=by
 unfold abV
 rw [if_pos (acS S)]
theorem afP {g:GM} {me:ME} {x:PV} {r:List PV} {ρ:Rho} {S:Sto}:abV [] g me (x :: r) ρ S=(match g x ρ with
  | none=>.fail
  | some ρ1=>match me ρ1 S with
   | .ok (.pv y) S1=>match abV [] g me r ρ1 S1 with
    | .ok ys S2=>.ok (y :: ys) S2
    | .exc n S2=>.exc n S2
    | .fail=>.fail
   | .ok (.ref _) _=>.fail
   | .exc n S1=>.exc n S1
   | .fail=>.fail):=by
 conv=>lhs; unfold abV
 rw [if_pos (acS S)]
 all_goals (rcases g x ρ with _ | ρ1 <;> dsimp only <;> first | rfl | (rcases me ρ1 S with ⟨a,S1⟩ | ⟨n,S1⟩ | _ <;> first | rfl | (cases a <;> rfl)))
theorem ad1 {S:Sto} {me:ME} {tail:Rho} {α:Type} (A B:α→PV):∀ (L:List α) (x:Option AV),(∀ v∈L,me (some (.pv (A v)) :: tail) S=.ok (.pv (B v)) S)→abV [] (gN 0) me (L.map A) (x :: tail) S=.ok (L.map B) S
 | [],x,_=>aiX
 | v :: L,x,h=>by
  have e:=h v List.mem_cons_self
  have e':=ad1 A B L (some (.pv (A v))) fun u hu=>h u (List.mem_cons_of_mem _ hu)
  rw [List.map_cons,afP]
  simp [gN,e,e']
theorem af3:(" ":Str)=tx [32]:=by kernel_rfl
def pT (w x:Int):Int:=(fr x w).getD 0 0
def pB (w x:Int):Int:=(fr x w).getD 1 0
theorem ai8 {k:Nat} {w x:Int} (hw:0 < w) (bw:Bd k w) (bx:Bd k x):fr x w=[pT w x,pB w x]∧0 < pB w x∧Bd k (pT w x)∧Bd k (pB w x)∧fr (pT w x) (pB w x)=[pT w x,pB w x]:=by
 obtain ⟨p,q,e,a,b,c,d⟩:=am3 hw bx bw
 have e1:pT w x=p:=by unfold pT; rw [e]; rfl
 have e2:pB w x=q:=by unfold pB; rw [e]; rfl
 rw [e1,e2]
 exact ⟨e,a,b,c,d⟩
def GR (w x:Int):Prop:=G60≤(((pT w x).natAbs:Nat):Int)∨(pB w x≠1∧G60≤(((pB w x).natAbs:Nat):Int))
def mT (w x:Int):List Nat:=txt (pT w x) (pB w x)
theorem agE {w x:Int} (h:¬ GR w x):(mT w x).length≤130:=by
 have h1:=ajI (lt60 fun z=>h (.inl z))
 unfold mT txt
 split
 ·omega
 ·rename_i hq
  have h2:=adO 59 _ (lt60 (p:=pB w x) fun z=>h (.inr ⟨hq,z⟩))
  rw [List.length_append,List.length_cons]
  omega
theorem ahd {w x:Int}:(∀ c∈mT w x,c < 128)∧32 ∉ mT w x:=by
 obtain ⟨a,b⟩:=ai0 (pT w x)
 have a2:32 ∉ tN (pT w x):=fun z=>by
  have d:∀ c∈dg (pT w x).natAbs,isD c=true:=fun c hc=>ac5 hc
  unfold tN at z
  split at z
  ·rcases List.mem_cons.mp z with z | z
   ·cases z
   ·exact absurd (d 32 z) (by decide)
  ·exact absurd (d 32 z) (by decide)
 unfold mT txt
 split
 ·exact ⟨a,a2⟩
 ·refine ⟨fun c hc=>?_,fun z=>?_⟩
  ·rcases List.mem_append.mp hc with z | z
   ·exact a c z
   ·rcases List.mem_cons.mp z with rfl | z
    ·decide
    ·exact (afj (ac5 z)).1
  ·rcases List.mem_append.mp z with z | z
   ·exact a2 z
   ·rcases List.mem_cons.mp z with z | z
    ·cases z
    ·exact absurd (ac5 z) (by decide)
theorem aed {S:Sto} {me:ME} {tail:Rho} {α:Type} (A B:α→PV) (bad:α→Prop) (n:Str):∀ (L:List α) (x:Option AV),(∀ v∈L,(bad v→me (some (.pv (A v)) :: tail) S=.exc n S)∧(¬ bad v→me (some (.pv (A v)) :: tail) S=.ok (.pv (B v)) S))→(∃ v∈L,bad v)→abV [] (gN 0) me (L.map A) (x :: tail) S=.exc n S
 | [],x,_,h=>by obtain ⟨v,hv,_⟩:=h; cases hv
 | v :: L,x,h,hb=>by
  obtain ⟨a,b⟩:=h v List.mem_cons_self
  rw [List.map_cons,afP]
  by_cases hv:bad v
  ·simp [gN,a hv]
  ·have:∃ u∈L,bad u:=by
    obtain ⟨u,hu,z⟩:=hb
    rcases List.mem_cons.mp hu with rfl | hu
    ·exact absurd z hv
    ·exact ⟨u,hu,z⟩
   have e':=aed A B bad n L (some (.pv (A v))) (fun u hu=>h u (List.mem_cons_of_mem _ hu)) this
   simp [gN,b hv,e']
theorem afV:∀ Ls:List (List Nat),adP (Ls.map fun l=>PV.str (tx l))=some (Ls.map tx)
 | []=>rfl
 | l :: Ls=>by
  show (match adP (Ls.map fun l=>PV.str (tx l)) with | some xs=>some (tx l :: xs) | none=>none)=_
  rw [afV Ls]
  rfl
theorem ahc {c:Nat} {Ls:List (List Nat)} {B:Nat} (hB:∀ l∈Ls,l.length≤B) (hn:Ls.length≤200) (hb:B≤20000):aht (tx [c]) [.lst (Ls.map fun l=>.str (tx l))]=some (.str (tx (aaS c Ls))):=by
 have ok:JoinOk (tx [c]) (Ls.map tx)=true:=by
  unfold JoinOk
  rw [StrLaws.joinFits (B:=B) (fun y hy=>by
   obtain ⟨l,hl,rfl⟩:=List.mem_map.mp hy
   rw [abh]; exact hB l hl) (by
   rw [List.length_map,abh]
   have:Ls.length*B≤200*20000:=Nat.mul_le_mul hn hb
   show Ls.length*B+Ls.length*1≤16777216
   omega)]
  rfl
 show (match adP (Ls.map fun l=>PV.str (tx l)) with | some ts=>if JoinOk (tx [c]) ts=true then some (PV.str (Txt.join (tx [c]) ts)) else none | none=>none)=_
 rw [afV]
 dsimp only
 rw [if_pos ok]
 have:Txt.join (tx [c]) (Ls.map tx)=tx (aaS c Ls):=by
  show Builtin.Str.glued (tx [c]) (Ls.map tx)=_
  rw [StrLaws.glued_eq_join,ahw]
 rw [this]
theorem anm {n k:Nat} (S:Sto) {xs:List Int} {w:Int} (P:Pq n k xs w) (hk:k≤1000):acg [.pv (tv (xs++[w]))] S=.ok (.pv (.tup (xs.map fun x=>.tup [.int (pT w x),.int (pB w x)]))) S:=by
 have e1:=ahL xs w
 have e2:=ah6 xs w
 have e:abr [] (gN 0) (aaN aaW [] (aac (mVar 0) (aac (mBin fIx (mVar 1) (mUn fNeg (mC (.int 1)))) mNil))) (xs.map .int) [none,some (.pv (tv (xs++[w])))] S=.ok (xs.map fun x=>.tup [.int (pT w x),.int (pB w x)]) S:=by
  refine adh (acS S) PV.int (fun x=>.tup [.int (pT w x),.int (pB w x)]) xs none fun x hx=>?_
  have f:=ae9 x w S ((P.bx x hx).mono (by omega)) (P.bw.mono (by omega)) (by have:=P.pos; omega)
  rw [(ai8 P.pos P.bw (P.bx x hx)).1] at f
  simp only [List.map_cons,List.map_nil] at f
  show _=Res.ok (AV.pv (.tup [.int (pT w x),.int (pB w x)])) S
  have e2:fIx (tv (xs++[w])) (.int (-1))=some (.int w):=e2
  generalize tv (xs++[w])=TV at *
  generalize pT w x=p at *
  generalize pB w x=q at *
  simp [EC,fAbs,aaj,aal,fEq,fNe,ady,aam,aap,aan,aao,fAdd,aag,frz,aar,e2,f]
 have hb:aes=(sRet (mR aaj (aac (aa9 ["number"] [(0,"p")] (mIt (mSl (mVar 0) mO0 (mO1 (mUn fNeg (mC (.int 1)))))) (gN 0) (aaN aaW [] (aac (mVar 0) (aac (mBin fIx (mVar 1) (mUn fNeg (mC (.int 1)))) mNil)))) mNil))):=rfl
 unfold acg fnM
 rw [hb]
 have e1:fSl (tv (xs++[w])) none (some (-1))=some (.tup (xs.map .int)):=e1
 generalize (aaN aaW [] (aac (mVar 0) (aac (mBin fIx (mVar 1) (mUn fNeg (mC (.int 1)))) mNil)))=ME1 at *
 generalize tv (xs++[w])=TV at *
 generalize (xs.map fun x=>PV.tup [.int (pT w x),.int (pB w x)])=ML at *
 simp [EC,fAbs,aaj,aal,fEq,fNe,ady,aam,aap,aan,aao,fAdd,aag,frz,aar,aa9,cmpR,mIt,ab2,mSl,mO0,mO1,abl,e1,e]
theorem akv {n k:Nat} (S:Sto) {xs:List Int} {w:Int} (P:Pq n k xs w) (hk:k≤1000) (hn:n≤3):((∃ x∈xs,GR w x)→aa1 [.pv (tv (xs++[w]))] S=.exc "TooGreat" S)∧((∀ x∈xs,¬ GR w x)→aa1 [.pv (tv (xs++[w]))] S=.ok (.pv (.str (tx (aaS 32 (xs.map (mT w)))))) S):=by
 have em:=anm S P hk
 have hb:ab8=(sRet (aeC (mC (.str " ")) (aac (acG ["number"] [] (mIt (aak acg [] (aac (mVar 0) mNil))) (gN 0) (aaN aaC [] (aac (mVar 0) mNil))) mNil))):=rfl
 have step:∀ x∈xs,(GR w x→(aaN aaC [] (aac (mVar 0) mNil)) (some (.pv (.tup [.int (pT w x),.int (pB w x)])) :: []) S=.exc "TooGreat" S)∧(¬ GR w x→(aaN aaC [] (aac (mVar 0) mNil)) (some (.pv (.tup [.int (pT w x),.int (pB w x)])) :: []) S=.ok (.pv (.str (tx (mT w x)))) S):=fun x hx=>by
  have e:=alc S (p:=pT w x) (q:=pB w x)
  refine ⟨fun h=>?_,fun h=>?_⟩
  ·unfold GR at h
   rw [if_pos h] at e
   simp [EC,fAbs,aaj,aal,fIx,atI,ixN,fEq,fNe,eqN,aam,aap,aan,aao,fAdd,aag,frz,aar,e]
  ·unfold GR at h
   rw [if_neg h] at e
   have e:aaC [.pv (.tup [.int (pT w x),.int (pB w x)])] S=.ok (.pv (.str (tx (mT w x)))) S:=e
   generalize tx (mT w x)=T at *
   simp [EC,fAbs,aaj,aal,fIx,atI,ixN,fEq,fNe,eqN,aam,aap,aan,aao,fAdd,aag,frz,aar,e]
 refine ⟨fun h=>?_,fun h=>?_⟩
 ·have ec:=aed (fun x=>.tup [.int (pT w x),.int (pB w x)]) (fun x=>.str (tx (mT w x))) (GR w) "TooGreat" xs none step h
  unfold aa1 fnM
  rw [hb]
  generalize (aaN aaC [] (aac (mVar 0) mNil))=ME1 at *
  generalize (xs.map fun x=>PV.tup [.int (pT w x),.int (pB w x)])=ML at *
  generalize tv (xs++[w])=TV at *
  simp [EC,fAbs,aaj,aal,fIx,atI,ixN,fEq,fNe,eqN,aam,aap,aan,aao,fAdd,aag,frz,aar,aeC,strR,acG,cmpR,mIt,ab2,em,ec]
 ·have ec:=ad1 (fun x=>.tup [.int (pT w x),.int (pB w x)]) (fun x=>PV.str (tx (mT w x))) xs none fun x hx=>(step x hx).2 (h x hx)
  have ej:=ahc (c:=32) (Ls:=xs.map (mT w)) (B:=130) (fun l hl=>by
   obtain ⟨x,hx,rfl⟩:=List.mem_map.mp hl
   exact agE (h x hx)) (by rw [List.length_map,P.len]; omega) (by decide)
  rw [List.map_map,← af3] at ej
  have ej:aht " " [.lst (xs.map fun x=>.str (tx (mT w x)))]=some (.str (tx (aaS 32 (xs.map (mT w))))):=ej
  unfold aa1 fnM
  rw [hb]
  generalize (aaN aaC [] (aac (mVar 0) mNil))=ME1 at *
  generalize (xs.map fun x=>PV.str (tx (mT w x)))=SL at *
  generalize (xs.map fun x=>PV.tup [.int (pT w x),.int (pB w x)])=ML at *
  generalize tx (aaS 32 (xs.map (mT w)))=TT at *
  generalize tv (xs++[w])=TV at *
  simp [EC,fAbs,aaj,aal,fIx,atI,ixN,fEq,fNe,eqN,aam,aap,aan,aao,fAdd,aag,frz,aar,aeC,strR,acG,cmpR,mIt,ab2,em,ec,ej]
open Classical in
noncomputable def wr (w x:Int):PV:=if GR w x then .non else .str (tx (mT w x))
theorem aoa {w:Int} {xs:List Int}:((∃ x∈xs,GR w x)→(xs.map (wr w)).any isNp=true)∧((∀ x∈xs,¬ GR w x)→(xs.map (wr w)).any isNp=false∧xs.map (wr w)=xs.map fun x=>.str (tx (mT w x))):=by
 refine ⟨fun ⟨x,hx,h⟩=>List.any_eq_true.mpr ⟨wr w x,List.mem_map.mpr ⟨x,hx,rfl⟩,?_⟩,fun h=>?_⟩
 ·unfold wr
  rw [if_pos h]
  rfl
 ·have e:xs.map (wr w)=xs.map fun x=>.str (tx (mT w x)):=List.map_congr_left fun x hx=>if_neg (h x hx)
  refine ⟨?_,e⟩
  rw [e,List.any_map]
  exact List.any_eq_false.mpr fun x hx=>by simp [isNp]
theorem akw {n k:Nat} (S:Sto) {xs:List Int} {w:Int} (P:Pq n k xs w) (hk:k≤1000) (hn:n≤3):((∃ x∈xs,GR w x)→abg [.pv (tv (xs++[w]))] S=.ok (.pv .non) S)∧((∀ x∈xs,¬ GR w x)→abg [.pv (tv (xs++[w]))] S=.ok (.pv (.str (tx (aaS 32 (xs.map (mT w)))))) S):=by
 have e1:fSl (tv (xs++[w])) none (some (-1))=some (.tup (xs.map .int)):=ahL xs w
 have e2:fIx (tv (xs++[w])) (.int (-1))=some (.int w):=ah6 xs w
 have ec:abr [] (gN 0) (aak abb [] (aac (mVar 0) (aac (mBin fIx (mVar 1) (mUn fNeg (mC (.int 1)))) mNil))) (xs.map .int) [none,some (.pv (tv (xs++[w])))] S=.ok (xs.map (wr w)) S:=by
  refine adh (acS S) PV.int (wr w) xs none fun x hx=>?_
  obtain ⟨f,q0,_⟩:=ai8 P.pos P.bw (P.bx x hx)
  have ef:=ajZ x w S ((P.bx x hx).mono (by omega)) (P.bw.mono (by omega))
  rw [f] at ef
  have ew:=aiP S ef q0
  have:(if G60≤(((pT w x).natAbs:Nat):Int)∨(pB w x≠1∧G60≤(((pB w x).natAbs:Nat):Int)) then AV.pv .non else AV.pv (.str (tx (txt (pT w x) (pB w x)))))=AV.pv (wr w x):=by
   unfold wr GR mT
   split <;> rfl
  rw [this] at ew
  generalize tv (xs++[w])=TV at *
  generalize wr w x=W at *
  simp [EC,fAbs,aaj,aal,fEq,fNe,ady,aam,aap,aan,aao,fAdd,aag,frz,aar,e2,ew]
 have hb:ac0=(sSeq (sSet 1 (aa9 ["_law_number"] [(0,"_law_p")] (mIt (mSl (mVar 0) mO0 (mO1 (mUn fNeg (mC (.int 1)))))) (gN 0) (aak abb [] (aac (mVar 0) (aac (mBin fIx (mVar 1) (mUn fNeg (mC (.int 1)))) mNil))))) (sSeq (sIf (mTst (mBin fInN (mC .non) (mVar 1))) (sRet (mC .non)) sNil) (sRet (aeC (mC (.str " ")) (aac (mVar 1) mNil))))):=rfl
 obtain ⟨a1,a2⟩:=aoa (w:=w) (xs:=xs)
 unfold abg fnM
 rw [hb]
 refine ⟨fun h=>?_,fun h=>?_⟩
 ·have a1:=a1 h
  generalize (aak abb [] (aac (mVar 0) (aac (mBin fIx (mVar 1) (mUn fNeg (mC (.int 1)))) mNil)))=ME1 at *
  generalize xs.map (wr w)=WL at *
  generalize tv (xs++[w])=TV at *
  simp [EC,fAbs,aaj,aal,fEq,fNe,ady,aam,aap,aan,aao,fAdd,aag,frz,aar,aa9,cmpR,mIt,ab2,mSl,mO0,mO1,abl,e1,ec,fInN,a1]
 ·obtain ⟨a2,a3⟩:=a2 h
  have ej:=ahc (c:=32) (Ls:=xs.map (mT w)) (B:=130) (fun l hl=>by
   obtain ⟨x,hx,rfl⟩:=List.mem_map.mp hl
   exact agE (h x hx)) (by rw [List.length_map,P.len]; omega) (by decide)
  rw [List.map_map,← af3] at ej
  have ej:aht " " [.lst (xs.map fun x=>.str (tx (mT w x)))]=some (.str (tx (aaS 32 (xs.map (mT w))))):=ej
  rw [← a3] at ej
  generalize (aak abb [] (aac (mVar 0) (aac (mBin fIx (mVar 1) (mUn fNeg (mC (.int 1)))) mNil)))=ME1 at *
  generalize xs.map (wr w)=WL at *
  generalize tx (aaS 32 (xs.map (mT w)))=TT at *
  generalize tv (xs++[w])=TV at *
  simp [EC,fAbs,aaj,aal,fEq,fNe,ady,aam,aap,aan,aao,fAdd,aag,frz,aar,aa9,cmpR,mIt,ab2,mSl,mO0,mO1,abl,e1,ec,fInN,a2,aeC,strR,ej]
theorem afs {a b:Int} (hb:0 < b) (bb:Bd 1000 b):act (.int (a*b)) (.int b)=some (.int a):=by
 rw [aeI (i:=a*b) (j:=b) ⟨by omega,bb.mono (by decide)⟩,Int.fdiv_eq_ediv_of_nonneg _ (by omega),Int.mul_ediv_cancel _ (by omega)]
structure Fz (u:Int × Int):Prop where
 pos:0 < u.2
 b1:Bd 300 u.1
 b2:Bd 300 u.2
abbrev fz (u:Int × Int):PV:=.tup [.int u.1,.int u.2]
def cT:List (Int × Int)→List Int
 | [u,v]=>[u.1*v.2,v.1*u.2]
 | [u,v,t]=>[u.1*(v.2*t.2),v.1*(u.2*t.2),t.1*(u.2*v.2)]
 | _=>[]
def cB:List (Int × Int)→Int
 | [u,v]=>u.2*v.2
 | [u,v,t]=>u.2*v.2*t.2
 | _=>1
theorem b3 {k l:Nat} {a b:Int} (h:Bd k a) (g:Bd l b) (hs:k+l≤1000):Bd 1000 (a*b):=(h.mul g).mono hs
theorem alP {ab:List (Int × Int)} (hl:ab.length=2∨ab.length=3) (h:∀ u∈ab,Fz u):0 < cB ab∧Bd 1000 (cB ab)∧(cT ab).length=ab.length∧∀ x∈cT ab,Bd 1000 x:=by
 match ab,hl,h with
 | [u,v],_,h =>
  have hu:=h u (by simp)
  have hv:=h v (by simp)
  refine ⟨Int.mul_pos hu.pos hv.pos,b3 hu.b2 hv.b2 (by decide),rfl,fun x hx=>?_⟩
  have:x=u.1*v.2∨x=v.1*u.2:=by simpa [cT] using hx
  rcases this with rfl | rfl
  ·exact b3 hu.b1 hv.b2 (by decide)
  ·exact b3 hv.b1 hu.b2 (by decide)
 | [u,v,t],_,h =>
  have hu:=h u (by simp)
  have hv:=h v (by simp)
  have ht:=h t (by simp)
  refine ⟨Int.mul_pos (Int.mul_pos hu.pos hv.pos) ht.pos,b3 (hu.b2.mul hv.b2) ht.b2 (by decide),rfl,fun x hx=>?_⟩
  have:x=u.1*(v.2*t.2)∨x=v.1*(u.2*t.2)∨x=t.1*(u.2*v.2):=by simpa [cT] using hx
  rcases this with rfl | rfl | rfl
  ·exact b3 hu.b1 (hv.b2.mul ht.b2) (by decide)
  ·exact b3 hv.b1 (hu.b2.mul ht.b2) (by decide)
  ·exact b3 ht.b1 (hu.b2.mul hv.b2) (by decide)
theorem ahl (S:Sto) {ab:List (Int × Int)} (hl:ab.length=2∨ab.length=3) (h:∀ u∈ab,Fz u):abc [.pv (.lst (ab.map fz))] S=.ok (.pv (tv (low (cT ab++[cB ab])))) S:=by
 obtain ⟨p0,pb,pl,px⟩:=alP hl h
 have ep:=alb (w:=.lst ((cT ab).map .int)) (cT ab) (cB ab) S (.inl rfl) (fun x hx=>(px x hx).mono (by decide)) (pb.mono (by decide)) (by omega) (by omega)
 rw [anC p0] at ep
 match ab,hl,h,ep with
 | [u,v],_,h,ep =>
  have hu:=h u (by simp)
  have hv:=h v (by simp)
  obtain ⟨a,b⟩:=u
  obtain ⟨c,d⟩:=v
  have m1:fMul (.int 1) (.int b)=some (.int b):=by rw [ab6 (.inl (.inl ⟨by decide,by decide⟩)),Int.one_mul]
  have m2:fMul (.int b) (.int d)=some (.int (b*d)):=mBB hu.b2 hv.b2
  have q1:act (.int (b*d)) (.int b)=some (.int d):=by rw [Int.mul_comm]; exact afs hu.pos (hu.b2.mono (by decide))
  have q2:act (.int (b*d)) (.int d)=some (.int b):=afs hv.pos (hv.b2.mono (by decide))
  have m3:fMul (.int a) (.int d)=some (.int (a*d)):=mBB hu.b1 hv.b2
  have m4:fMul (.int c) (.int b)=some (.int (c*b)):=mBB hv.b1 hu.b2
  have ep:adF [.pv (.lst [.int (a*d),.int (c*b)]),.pv (.int (b*d))] S=.ok (.pv (tv (low ([a*d,c*b]++[b*d])))) S:=ep
  show abc [.pv (.lst [.tup [.int a,.int b],.tup [.int c,.int d]])] S=.ok (.pv (tv (low ([a*d,c*b]++[b*d])))) S
  generalize tv (low ([a*d,c*b]++[b*d]))=R at *
  unfold abc fnM adr
  simp [EC,fAbs,aaj,aal,fIx,atI,ixN,fEq,fNe,eqN,aam,aap,aan,aao,fAdd,aag,frz,aar,sFor,mIt,ab2,abj,abP,abi,abJ,gN,m1,m2,aa9,cmpR,q1,q2,m3,m4,ep]
 | [u,v,t],_,h,ep =>
  have hu:=h u (by simp)
  have hv:=h v (by simp)
  have ht:=h t (by simp)
  obtain ⟨a,b⟩:=u
  obtain ⟨c,d⟩:=v
  obtain ⟨e,f⟩:=t
  have m1:fMul (.int 1) (.int b)=some (.int b):=by rw [ab6 (.inl (.inl ⟨by decide,by decide⟩)),Int.one_mul]
  have m2:fMul (.int b) (.int d)=some (.int (b*d)):=mBB hu.b2 hv.b2
  have m2':fMul (.int (b*d)) (.int f)=some (.int (b*d*f)):=mBB (hu.b2.mul hv.b2) ht.b2
  have q1:act (.int (b*d*f)) (.int b)=some (.int (d*f)):=by
   rw [show b*d*f=d*f*b by grind]; exact afs hu.pos (hu.b2.mono (by decide))
  have q2:act (.int (b*d*f)) (.int d)=some (.int (b*f)):=by
   rw [show b*d*f=b*f*d by grind]; exact afs hv.pos (hv.b2.mono (by decide))
  have q3:act (.int (b*d*f)) (.int f)=some (.int (b*d)):=afs ht.pos (ht.b2.mono (by decide))
  have m3:fMul (.int a) (.int (d*f))=some (.int (a*(d*f))):=mBB hu.b1 (hv.b2.mul ht.b2)
  have m4:fMul (.int c) (.int (b*f))=some (.int (c*(b*f))):=mBB hv.b1 (hu.b2.mul ht.b2)
  have m5:fMul (.int e) (.int (b*d))=some (.int (e*(b*d))):=mBB ht.b1 (hu.b2.mul hv.b2)
  have ep:adF [.pv (.lst [.int (a*(d*f)),.int (c*(b*f)),.int (e*(b*d))]),.pv (.int (b*d*f))] S=.ok (.pv (tv (low ([a*(d*f),c*(b*f),e*(b*d)]++[b*d*f])))) S:=ep
  show abc [.pv (.lst [.tup [.int a,.int b],.tup [.int c,.int d],.tup [.int e,.int f]])] S=.ok (.pv (tv (low ([a*(d*f),c*(b*f),e*(b*d)]++[b*d*f])))) S
  generalize tv (low ([a*(d*f),c*(b*f),e*(b*d)]++[b*d*f]))=R at *
  unfold abc fnM adr
  simp [EC,fAbs,aaj,aal,fIx,atI,ixN,fEq,fNe,eqN,aam,aap,aan,aao,fAdd,aag,frz,aar,sFor,mIt,ab2,abj,abP,abi,abJ,gN,m1,m2,m2',aa9,cmpR,q1,q2,q3,m3,m4,m5,ep]
theorem adG {L:List Nat} {Ps:List (List Nat)} (hs:Txt.split (tx L) (tx [32])=Ps.map tx) (hL:L.length≤9000):ack (tx L) [.str " "]=some (.lst (Ps.map fun p=>.str (tx p))):=by
 rw [af3]
 show (if (tx [32]).length≠0∧(tx L).length+2≤16777216 then some (PV.lst ((Txt.split (tx L) (tx [32])).map .str)) else none)=_
 rw [if_pos ⟨by rw [abh]; decide,by rw [abh]; omega⟩,hs,List.map_map]
 rfl
def rr (p:List Nat):Option (Int × Int):=rdN ((Txt.split (tx p) (tx [47])).map fun x=>x.cps.toList)
theorem ajo (S:Sto) {p:List Nat} (ha:∀ c∈p,c < 128) (hl:p.length≤9000):aaq [.pv (.str (tx p))] S=outN (rr p) S∧aaF [.pv (.str (tx p))] S=.ok (outL (rr p)) S:=by
 obtain ⟨P,es,hf,hi,hp⟩:=aik p 47
 have e:rr p=rdN P:=by
  unfold rr
  rw [es,List.map_map]
  have:((fun x:Str=>x.cps.toList) ∘ tx)=id:=by
   funext l
   simp [tx]
  rw [this,List.map_id]
 rw [e]
 exact ⟨ae4 S es hp (fun q h c hc=>ha c (by rw [← hi]; exact ad2 h c hc)) (fun q h=>by have z:=adU (c:=47) h; rw [hi] at z; omega) (by omega),akm S hi hp hf ha (by omega)⟩
def rF (p:List Nat):Int × Int:=match rr p with
 | some (t,b)=>(pT b t,pB b t)
 | none=>(0,1)
theorem aod {p:List Nat} {t b:Int} (h:rr p=some (t,b)):0 < b∧Bd 200 t∧Bd 200 b:=by
 unfold rr at h
 generalize ((Txt.split (tx p) (tx [47])).map fun x=>x.cps.toList)=P at h
 match P,h with
 | [q],h =>
  rw [rdN1] at h
  split at h
  ·rename_i hk
   cases h
   exact ⟨by decide,aiz hk,aje⟩
  ·cases h
 | [q,r],h =>
  rw [rdN2] at h
  split at h
  ·rename_i hk
   cases h
   have v:=alm hk.2.1
   exact ⟨by have:=hk.2.2; omega,aiz hk.1,(b60 v).1⟩
  ·cases h
theorem air {p:List Nat} (h:rr p≠none):Fz (rF p)∧(∀ S,outN (rr p) S=.ok (.pv (fz (rF p))) S)∧outL (rr p)=.pv (fz (rF p)):=by
 cases e:rr p with
 | none=>exact absurd e h
 | some u =>
  obtain ⟨t,b⟩:=u
  obtain ⟨h0,ht,hb⟩:=aod e
  obtain ⟨f,q0,b1,b2,_⟩:=ai8 h0 hb ht
  have er:rF p=(pT b t,pB b t):=by unfold rF; rw [e]
  rw [er]
  refine ⟨⟨q0,b1.mono (by decide),b2.mono (by decide)⟩,fun S=>?_,?_⟩
  ·show Res.ok (AV.pv (.tup ((fr t b).map .int))) S=_
   rw [f]
   rfl
  ·show AV.pv (.tup ((fr t b).map .int))=_
   rw [f]
   rfl
theorem afS (S:Sto) {L:List Nat} {Ps:List (List Nat)} {ab:List Nat→Int × Int} (hs:Txt.split (tx L) (tx [32])=Ps.map tx) (hL:L.length≤9000) (hl:Ps.length=2∨Ps.length=3) (hr:∀ p∈Ps,Fz (ab p)∧aaq [.pv (.str (tx p))] S=.ok (.pv (fz (ab p))) S):aaT [.pv (.str (tx L))] S=.ok (.pv (tv (low (cT (Ps.map ab)++[cB (Ps.map ab)])))) S:=by
 have es:=adG hs hL
 have rf:=abQ S
 have ec:=ad1 (S:=S) (me:=aaN aaq [] (aac (mVar 0) mNil)) (tail:=[]) (fun p=>.str (tx p)) (fun p=>fz (ab p)) Ps none fun p hp=>by
  have e:=(hr p hp).2
  generalize fz (ab p)=F at *
  generalize tx p=T at *
  simp [EC,fAbs,aaj,aal,fIx,atI,ixN,fEq,fNe,eqN,aam,aap,aan,aao,fAdd,aag,frz,aar,e]
 have ep:=ahl S (ab:=Ps.map ab) (by rw [List.length_map]; exact hl) fun u hu=>by
  obtain ⟨p,hp,rfl⟩:=List.mem_map.mp hu
  exact (hr p hp).1
 rw [List.map_map] at ep
 have ep:abc [.pv (.lst (Ps.map fun p=>fz (ab p)))] S=.ok (.pv (tv (low (cT (Ps.map ab)++[cB (Ps.map ab)])))) S:=ep
 have hb:abY=(sSeq (sSet 1 (acG ["text"] [] (mIt (mMet ack (mVar 0) (aac (mC (.str " ")) mNil))) (gN 0) (aaN aaq [] (aac (mVar 0) mNil))))
 (sSeq (abx (aaN aav [] (aac (mOrV (mBin fEq (mR fLen (aac (mVar 1) mNil)) (mC (.int 2))) (mBin fEq (mR fLen (aac (mVar 1) mNil)) (mC (.int 3)))) mNil)))
 (sRet (aak abc [] (aac (mVar 1) mNil))))):=rfl
 have ln:((Ps.map fun p=>fz (ab p)).length:Int)=(Ps.length:Int):=by rw [List.length_map]
 unfold aaT fnM
 rw [hb]
 generalize (aaN aaq [] (aac (mVar 0) mNil))=ME1 at *
 generalize tv (low (cT (Ps.map ab)++[cB (Ps.map ab)]))=R at *
 generalize (Ps.map fun p=>PV.str (tx p))=SL at *
 generalize (Ps.map fun p=>fz (ab p))=FL at *
 generalize tx L=TL at *
 rcases hl with h | h
 ·rw [h] at ln
  simp [EC,fAbs,aaj,aal,fIx,atI,ixN,fEq,fNe,eqN,aam,aap,aan,aao,fAdd,aag,frz,aar,acG,cmpR,mIt,mMet,strR,es,ab2,ec,ln,rf,ep]
 ·rw [h] at ln
  simp [EC,fAbs,aaj,aal,fIx,atI,ixN,fEq,fNe,eqN,aam,aap,aan,aao,fAdd,aag,frz,aar,acG,cmpR,mIt,mMet,strR,es,ab2,ec,ln,rf,ep]
theorem aiH (S:Sto) {L:List Nat} {Ps:List (List Nat)} (hs:Txt.split (tx L) (tx [32])=Ps.map tx) (hL:L.length≤9000) (ha:∀ p∈Ps,(∀ c∈p,c < 128)∧p.length≤9000) (h:(∃ p∈Ps,rr p=none)∨¬ (Ps.length=2∨Ps.length=3)):aaT [.pv (.str (tx L))] S=.exc "NoText" S:=by
 have es:=adG hs hL
 have rf:=abQ S
 have hb:abY=(sSeq (sSet 1 (acG ["text"] [] (mIt (mMet ack (mVar 0) (aac (mC (.str " ")) mNil))) (gN 0) (aaN aaq [] (aac (mVar 0) mNil))))
 (sSeq (abx (aaN aav [] (aac (mOrV (mBin fEq (mR fLen (aac (mVar 1) mNil)) (mC (.int 2))) (mBin fEq (mR fLen (aac (mVar 1) mNil)) (mC (.int 3)))) mNil)))
 (sRet (aak abc [] (aac (mVar 1) mNil))))):=rfl
 have step:∀ p∈Ps,(rr p=none→(aaN aaq [] (aac (mVar 0) mNil)) (some (.pv (.str (tx p))) :: []) S=.exc "NoText" S)∧(¬ rr p=none→(aaN aaq [] (aac (mVar 0) mNil)) (some (.pv (.str (tx p))) :: []) S=.ok (.pv (fz (rF p))) S):=fun p hp=>by
  have e:=(ajo S (ha p hp).1 (ha p hp).2).1
  refine ⟨fun z=>?_,fun z=>?_⟩
  ·rw [z] at e
   have e:aaq [.pv (.str (tx p))] S=.exc "NoText" S:=e
   simp [EC,fAbs,aaj,aal,fIx,atI,ixN,fEq,fNe,eqN,aam,aap,aan,aao,fAdd,aag,frz,aar,e]
  ·rw [(air z).2.1 S] at e
   generalize fz (rF p)=F at *
   generalize tx p=T at *
   simp [EC,fAbs,aaj,aal,fIx,atI,ixN,fEq,fNe,eqN,aam,aap,aan,aao,fAdd,aag,frz,aar,e]
 unfold aaT fnM
 rw [hb]
 by_cases hx:∃ p∈Ps,rr p=none
 ·have ec:=aed (S:=S) (tail:=[]) (fun p=>PV.str (tx p)) (fun p=>fz (rF p)) (fun p=>rr p=none) "NoText" Ps none step hx
  generalize (aaN aaq [] (aac (mVar 0) mNil))=ME1 at *
  generalize (Ps.map fun p=>PV.str (tx p))=SL at *
  generalize tx L=TL at *
  simp [EC,fAbs,aaj,aal,fIx,atI,ixN,fEq,fNe,eqN,aam,aap,aan,aao,fAdd,aag,frz,aar,acG,cmpR,mIt,mMet,strR,es,ab2,ec]
 ·have hl:¬ (Ps.length=2∨Ps.length=3):=h.resolve_left hx
  have ec:=ad1 (S:=S) (me:=aaN aaq [] (aac (mVar 0) mNil)) (tail:=[]) (fun p=>PV.str (tx p)) (fun p=>fz (rF p)) Ps none fun p hp=>(step p hp).2 fun z=>hx ⟨p,hp,z⟩
  have ln:((Ps.map fun p=>fz (rF p)).length:Int)=(Ps.length:Int):=by rw [List.length_map]
  have l2:((Ps.length:Int) == 2)=false:=by
   have:¬ (Ps.length:Int)=2:=fun z=>hl (.inl (by omega))
   simpa using this
  have l3:((Ps.length:Int) == 3)=false:=by
   have:¬ (Ps.length:Int)=3:=fun z=>hl (.inr (by omega))
   simpa using this
  generalize (aaN aaq [] (aac (mVar 0) mNil))=ME1 at *
  generalize (Ps.map fun p=>PV.str (tx p))=SL at *
  generalize (Ps.map fun p=>fz (rF p))=FL at *
  generalize (Ps.length:Int)=N at *
  generalize tx L=TL at *
  simp [EC,fAbs,aaj,aal,fIx,atI,ixN,fEq,fNe,eqN,aam,aap,aan,aao,fAdd,aag,frz,aar,acG,cmpR,mIt,mMet,strR,es,ab2,ec,ln,l2,l3,rf]
theorem ak7 {Ps:List (List Nat)}:((∃ p∈Ps,rr p=none)→(Ps.map fun p=>match outL (rr p) with | .pv v=>v | .ref _=>PV.non).any isNp=true)∧((∀ p∈Ps,rr p≠none)→(Ps.map fun p=>match outL (rr p) with | .pv v=>v | .ref _=>PV.non)=Ps.map fun p=>fz (rF p)):=by
 refine ⟨fun ⟨p,hp,h⟩=>List.any_eq_true.mpr ⟨_,List.mem_map.mpr ⟨p,hp,rfl⟩,?_⟩,fun h=>List.map_congr_left fun p hp=>?_⟩
 ·rw [h]
  rfl
 ·rw [(air (h p hp)).2.2]
theorem alH (S:Sto) {L:List Nat} {Ps:List (List Nat)} (hs:Txt.split (tx L) (tx [32])=Ps.map tx) (hL:L.length≤9000) (ha:∀ p∈Ps,(∀ c∈p,c < 128)∧p.length≤9000):(((∃ p∈Ps,rr p=none)∨¬ (Ps.length=2∨Ps.length=3))→aa8 [.pv (.str (tx L))] S=.ok (.pv .non) S)∧((∀ p∈Ps,rr p≠none)→(Ps.length=2∨Ps.length=3)→aa8 [.pv (.str (tx L))] S=.ok (.pv (tv (low (cT (Ps.map rF)++[cB (Ps.map rF)])))) S):=by
 have es:=adG hs hL
 have ls:((Ps.map fun p=>PV.str (tx p)).length:Int)=(Ps.length:Int):=by rw [List.length_map]
 have ec:=adh (acS S) (me:=aak aaF [] (aac (mVar 0) mNil)) (tail:=[]) (fun p=>PV.str (tx p)) (fun p=>match outL (rr p) with | .pv v=>v | .ref _=>PV.non) Ps none fun p hp=>by
  have e:=(ajo S (ha p hp).1 (ha p hp).2).2
  obtain ⟨o,eo⟩:∃ v,outL (rr p)=.pv v:=by
   cases rr p with
   | none=>exact ⟨_,rfl⟩
   | some u=>exact ⟨_,rfl⟩
  rw [eo] at e ⊢
  generalize tx p=T at *
  simp [EC,fAbs,aaj,aal,fIx,atI,ixN,fEq,fNe,eqN,aam,aap,aan,aao,fAdd,aag,frz,aar,e]
 obtain ⟨a1,a2⟩:=ak7 (Ps:=Ps)
 have hb:adE=(sSeq (sSet 1 (mMet ack (mVar 0) (aac (mC (.str " ")) mNil)))
 (sSeq (sIf (mAnd (mTst (mBin fNe (mR fLen (aac (mVar 1) mNil)) (mC (.int 2)))) (mTst (mBin fNe (mR fLen (aac (mVar 1) mNil)) (mC (.int 3))))) (sRet (mC .non)) sNil)
 (sSeq (sSet 2 (aa9 ["_law_word"] [] (mIt (mVar 1)) (gN 0) (aak aaF [] (aac (mVar 0) mNil))))
 (sSeq (sIf (mTst (mBin fInN (mC .non) (mVar 2))) (sRet (mC .non)) sNil)
 (sSeq (sSet 3 (mC (.int 1)))
 (sSeq (sFor (mIt (mVar 2)) (gN 4) (sSet 3 (mBin fMul (mVar 3) (mBin fIx (mVar 4) (mC (.int 1))))))
 (sRet (aak aaZ [] (aac (mBin fAdd (aa9 ["_law_number"] [(3,"_law_under")] (mIt (mVar 2)) (gN 0) (mBin fMul (mBin fIx (mVar 0) (mC (.int 0))) (mBin act (mVar 1) (mBin fIx (mVar 0) (mC (.int 1)))))) (mN fLst (aac (mVar 3) mNil))) mNil))))))))):=rfl
 refine ⟨fun h=>?_,fun h hl=>?_⟩
 ·unfold aa8 fnM
  rw [hb]
  by_cases hl:Ps.length=2∨Ps.length=3
  ·have hx:=h.resolve_right fun z=>z hl
   have a1:=a1 hx
   generalize (aak aaF [] (aac (mVar 0) mNil))=ME1 at *
   generalize (Ps.map fun p=>match outL (rr p) with | .pv v=>v | .ref _=>PV.non)=NLs at *
   generalize (Ps.map fun p=>PV.str (tx p))=SL at *
   generalize tx L=TL at *
   rcases hl with hl | hl
   ·rw [hl] at ls
    simp [EC,fAbs,aaj,aal,fIx,atI,ixN,fEq,fNe,eqN,aam,aap,aan,aao,fAdd,aag,frz,aar,mMet,strR,es,ls,aa9,cmpR,mIt,ab2,ec,fInN,a1]
   ·rw [hl] at ls
    simp [EC,fAbs,aaj,aal,fIx,atI,ixN,fEq,fNe,eqN,aam,aap,aan,aao,fAdd,aag,frz,aar,mMet,strR,es,ls,aa9,cmpR,mIt,ab2,ec,fInN,a1]
  ·have l2:((Ps.length:Int) == 2)=false:=by
    have:¬ (Ps.length:Int)=2:=fun z=>hl (.inl (by omega))
    simpa using this
   have l3:((Ps.length:Int) == 3)=false:=by
    have:¬ (Ps.length:Int)=3:=fun z=>hl (.inr (by omega))
    simpa using this
   generalize (Ps.map fun p=>PV.str (tx p))=SL at *
   generalize (Ps.length:Int)=N at *
   generalize tx L=TL at *
   simp [EC,fAbs,aaj,aal,fIx,atI,ixN,fEq,fNe,eqN,aam,aap,aan,aao,fAdd,aag,frz,aar,mMet,strR,es,ls,l2,l3]
 ·rw [a2 h] at ec
  have an:(Ps.map fun p=>fz (rF p)).any isNp=false:=by
   rw [List.any_map]
   exact List.any_eq_false.mpr fun p hp=>by simp [isNp]
  have fzs:∀ u∈Ps.map rF,Fz u:=fun u hu=>by
   obtain ⟨p,hp,rfl⟩:=List.mem_map.mp hu
   exact (air (h p hp)).1
  have em:(Ps.map fun p=>fz (rF p))=(Ps.map rF).map fz:=by rw [List.map_map]; rfl
  rw [em] at ec an
  have hl2:(Ps.map rF).length=2∨(Ps.map rF).length=3:=by rw [List.length_map]; exact hl
  obtain ⟨p0,pb,pl,px⟩:=alP hl2 fzs
  have ew:=adQ (cT (Ps.map rF)++[cB (Ps.map rF)]) S (fun x hx=>by
   rcases List.mem_append.mp hx with z | z
   ·exact (px x z).mono (by decide)
   ·have:x=cB (Ps.map rF):=by simpa using z
    rw [this]; exact pb.mono (by decide))
  have ls2:(((Ps.map fun p=>PV.str (tx p)).length:Int) == 2)=true∨((((Ps.map fun p=>PV.str (tx p)).length:Int) == 2)=false∧(((Ps.map fun p=>PV.str (tx p)).length:Int) == 3)=true):=by
   rw [ls]
   rcases hl with h | h <;> rw [h]
   ·exact .inl rfl
   ·exact .inr ⟨rfl,rfl⟩
  generalize Ps.map rF=ab at *
  unfold aa8 fnM
  rw [hb]
  match ab,hl2,fzs,ew with
  | [u,v],_,h,ep =>
   have hu:=h u (by simp)
   have hv:=h v (by simp)
   obtain ⟨a,b⟩:=u
   obtain ⟨c,d⟩:=v
   have m1:fMul (.int 1) (.int b)=some (.int b):=by rw [ab6 (.inl (.inl ⟨by decide,by decide⟩)),Int.one_mul]
   have m2:fMul (.int b) (.int d)=some (.int (b*d)):=mBB hu.b2 hv.b2
   have q1:act (.int (b*d)) (.int b)=some (.int d):=by rw [Int.mul_comm]; exact afs hu.pos (hu.b2.mono (by decide))
   have q2:act (.int (b*d)) (.int d)=some (.int b):=afs hv.pos (hv.b2.mono (by decide))
   have m3:fMul (.int a) (.int d)=some (.int (a*d)):=mBB hu.b1 hv.b2
   have m4:fMul (.int c) (.int b)=some (.int (c*b)):=mBB hv.b1 hu.b2
   have ep:aaZ [.pv (.lst [.int (a*d),.int (c*b),.int (b*d)])] S=.ok (.pv (tv (low ([a*d,c*b]++[b*d])))) S:=ep
   show _=Res.ok (AV.pv (tv (low ([a*d,c*b]++[b*d])))) S
   have ec:abr [] (gN 0) (aak aaF [] (aac (mVar 0) mNil)) (Ps.map fun p=>PV.str (tx p)) [none] S=.ok [.tup [.int a,.int b],.tup [.int c,.int d]] S:=ec
   generalize hme:(aak aaF [] (aac (mVar 0) mNil))=ME1 at *
   generalize tv (low ([a*d,c*b]++[b*d]))=R at *
   generalize (Ps.map fun p=>PV.str (tx p))=SL at *
   generalize tx L=TL at *
   rcases ls2 with l | ⟨l,l'⟩
   ·simp [EC,fAbs,aaj,aal,fIx,atI,ixN,fEq,fNe,eqN,aam,aap,aan,aao,fAdd,aag,frz,aar,mMet,strR,es,l,aa9,cmpR,mIt,ab2,ec,fInN,isNp,sFor,abj,abP,abi,abJ,gN,m1,m2,q1,q2,m3,m4,ep]
   ·simp [EC,fAbs,aaj,aal,fIx,atI,ixN,fEq,fNe,eqN,aam,aap,aan,aao,fAdd,aag,frz,aar,mMet,strR,es,l,l',aa9,cmpR,mIt,ab2,ec,fInN,isNp,sFor,abj,abP,abi,abJ,gN,m1,m2,q1,q2,m3,m4,ep]
  | [u,v,t],_,h,ep =>
   have hu:=h u (by simp)
   have hv:=h v (by simp)
   have ht:=h t (by simp)
   obtain ⟨a,b⟩:=u
   obtain ⟨c,d⟩:=v
   obtain ⟨e,f⟩:=t
   have m1:fMul (.int 1) (.int b)=some (.int b):=by rw [ab6 (.inl (.inl ⟨by decide,by decide⟩)),Int.one_mul]
   have m2:fMul (.int b) (.int d)=some (.int (b*d)):=mBB hu.b2 hv.b2
   have m2':fMul (.int (b*d)) (.int f)=some (.int (b*d*f)):=mBB (hu.b2.mul hv.b2) ht.b2
   have q1:act (.int (b*d*f)) (.int b)=some (.int (d*f)):=by
    rw [show b*d*f=d*f*b by grind]; exact afs hu.pos (hu.b2.mono (by decide))
   have q2:act (.int (b*d*f)) (.int d)=some (.int (b*f)):=by
    rw [show b*d*f=b*f*d by grind]; exact afs hv.pos (hv.b2.mono (by decide))
   have q3:act (.int (b*d*f)) (.int f)=some (.int (b*d)):=afs ht.pos (ht.b2.mono (by decide))
   have m3:fMul (.int a) (.int (d*f))=some (.int (a*(d*f))):=mBB hu.b1 (hv.b2.mul ht.b2)
   have m4:fMul (.int c) (.int (b*f))=some (.int (c*(b*f))):=mBB hv.b1 (hu.b2.mul ht.b2)
   have m5:fMul (.int e) (.int (b*d))=some (.int (e*(b*d))):=mBB ht.b1 (hu.b2.mul hv.b2)
   have ep:aaZ [.pv (.lst [.int (a*(d*f)),.int (c*(b*f)),.int (e*(b*d)),.int (b*d*f)])] S=.ok (.pv (tv (low ([a*(d*f),c*(b*f),e*(b*d)]++[b*d*f])))) S:=ep
   show _=Res.ok (AV.pv (tv (low ([a*(d*f),c*(b*f),e*(b*d)]++[b*d*f])))) S
   have ec:abr [] (gN 0) (aak aaF [] (aac (mVar 0) mNil)) (Ps.map fun p=>PV.str (tx p)) [none] S=.ok [.tup [.int a,.int b],.tup [.int c,.int d],.tup [.int e,.int f]] S:=ec
   generalize (aak aaF [] (aac (mVar 0) mNil))=ME1 at *
   generalize tv (low ([a*(d*f),c*(b*f),e*(b*d)]++[b*d*f]))=R at *
   generalize (Ps.map fun p=>PV.str (tx p))=SL at *
   generalize tx L=TL at *
   rcases ls2 with l | ⟨l,l'⟩
   ·simp [EC,fAbs,aaj,aal,fIx,atI,ixN,fEq,fNe,eqN,aam,aap,aan,aao,fAdd,aag,frz,aar,mMet,strR,es,l,aa9,cmpR,mIt,ab2,ec,fInN,isNp,sFor,abj,abP,abi,abJ,gN,m1,m2,m2',q1,q2,q3,m3,m4,m5,ep]
   ·simp [EC,fAbs,aaj,aal,fIx,atI,ixN,fEq,fNe,eqN,aam,aap,aan,aao,fAdd,aag,frz,aar,mMet,strR,es,l,l',aa9,cmpR,mIt,ab2,ec,fInN,isNp,sFor,abj,abP,abi,abJ,gN,m1,m2,m2',q1,q2,q3,m3,m4,m5,ep]
theorem ak9 {k:Nat} {w x:Int} (hw:0 < w) (bw:Bd k w) (bx:Bd k x):pT w x*w=x*pB w x:=by
 obtain ⟨zs,z,e,Z,h⟩:=aib (n:=1) (L:=[x]) (b:=w) hw rfl (fun y hy=>by
  have:y=x:=by simpa using hy
  rw [this]; exact bx) bw
 have el:=Z.len
 match zs,el,e,h with
 | [p],_,e,h =>
  have e:low [x,w]=[p,z]:=e
  have f1:fr x w=[p,z]:=by rw [← e]; exact if_neg (by omega)
  have h0:p*w=x*z:=h 0 (by decide)
  have e1:pT w x=p:=by unfold pT; rw [f1]; rfl
  have e2:pB w x=z:=by unfold pB; rw [f1]; rfl
  rw [e1,e2]
  exact h0
theorem akG {n k:Nat} {xs:List Int} {w:Int} (hn:n=2∨n=3) (P:Pq n k xs w) (hk:k≤300):(∀ u∈xs.map (fun x=>(pT w x,pB w x)),Fz u)∧low (cT (xs.map fun x=>(pT w x,pB w x))++[cB (xs.map fun x=>(pT w x,pB w x))])=xs++[w]:=by
 have fz1:∀ u∈xs.map (fun x=>(pT w x,pB w x)),Fz u:=fun u hu=>by
  obtain ⟨x,hx,rfl⟩:=List.mem_map.mp hu
  obtain ⟨_,q0,b1,b2,_⟩:=ai8 P.pos P.bw (P.bx x hx)
  exact ⟨q0,b1.mono hk,b2.mono hk⟩
 refine ⟨fz1,?_⟩
 have cr:∀ x∈xs,pT w x*w=x*pB w x:=fun x hx=>ak9 P.pos P.bw (P.bx x hx)
 obtain ⟨p0,pb,pl,px⟩:=alP (ab:=xs.map fun x=>(pT w x,pB w x)) (by rw [List.length_map,P.len]; exact hn) fz1
 obtain ⟨zs,z,e,Z,h⟩:=aib (n:=n) p0 (by rw [pl,List.length_map,P.len]) px pb
 rw [e]
 refine Pq.eq Z P (N:=fun j=>(cT (xs.map fun x=>(pT w x,pB w x))).getD j 0) (D:=cB (xs.map fun x=>(pT w x,pB w x))) h (Vl.self n xs w) p0 P.pos fun j hj=>?_
 have hl:=P.len
 rcases hn with rfl | rfl
 ·match xs,hl,cr with
  | [x,y],_,cr =>
   have c1:=cr x (by simp)
   have c2:=cr y (by simp)
   have:j=0∨j=1:=by omega
   rcases this with rfl | rfl
   ·show pT w x*pB w y*w=x*(pB w x*pB w y)
    grind
   ·show pT w y*pB w x*w=y*(pB w x*pB w y)
    grind
 ·match xs,hl,cr with
  | [x,y,t],_,cr =>
   have c1:=cr x (by simp)
   have c2:=cr y (by simp)
   have c3:=cr t (by simp)
   have:j=0∨j=1∨j=2:=by omega
   rcases this with rfl | rfl | rfl
   ·show pT w x*(pB w y*pB w t)*w=x*(pB w x*pB w y*pB w t)
    grind
   ·show pT w y*(pB w x*pB w t)*w=y*(pB w x*pB w y*pB w t)
    grind
   ·show pT w t*(pB w x*pB w y)*w=t*(pB w x*pB w y*pB w t)
    grind
theorem agd {c B:Nat}:∀ {P:List (List Nat)},(∀ p∈P,p.length≤B)→(aaS c P).length≤P.length*(B+1)
 | [],_=>Nat.zero_le _
 | [p],h=>by
  have:=h p (by simp)
  show p.length≤1*(B+1)
  omega
 | p :: q :: r,h=>by
  have h1:=h p (by simp)
  have h2:=agd (c:=c) (P:=q :: r) fun x hx=>h x (List.mem_cons_of_mem _ hx)
  show (p++c :: aaS c (q :: r)).length≤_
  rw [List.length_append,List.length_cons]
  have:(p :: q :: r).length*(B+1)=(q :: r).length*(B+1)+(B+1):=by
   rw [List.length_cons (as:=q :: r),Nat.succ_mul]
  omega
theorem ag1 {c:Nat} (hc:c < 128):∀ {P:List (List Nat)},(∀ p∈P,∀ d∈p,d < 128)→∀ d∈aaS c P,d < 128
 | [],_,d,h=>by cases h
 | [p],h,d,hd=>h p (by simp) d hd
 | p :: q :: r,h,d,hd=>by
  have hd:d∈p++c :: aaS c (q :: r):=hd
  rcases List.mem_append.mp hd with z | z
  ·exact h p (by simp) d z
  ·rcases List.mem_cons.mp z with rfl | z
   ·exact hc
   ·exact ag1 hc (P:=q :: r) (fun x hx=>h x (List.mem_cons_of_mem _ hx)) d z
theorem an5 {n k:Nat} {xs:List Int} {w x:Int} (P:Pq n k xs w) (hx:x∈xs) (hg:¬ GR w x):rr (mT w x)≠none∧rF (mT w x)=(pT w x,pB w x):=by
 obtain ⟨_,q0,b1,b2,ef⟩:=ai8 P.pos P.bw (P.bx x hx)
 have hp:(pT w x).natAbs < 10 ^ 60:=lt60 fun z=>hg (.inl z)
 have hq:(pB w x).natAbs < 10 ^ 60:=by
  by_cases h1:pB w x=1
  ·rw [h1]; decide +kernel
  ·exact lt60 fun z=>hg (.inr ⟨h1,z⟩)
 have e:=akW [] hp hq q0 ef
 have l:=agE hg
 have e2:=(ajo [] (p:=mT w x) ahd.1 (by omega)).1
 have e:aaq [.pv (.str (tx (mT w x)))] []=.ok (.pv (.tup [.int (pT w x),.int (pB w x)])) []:=e
 rw [e] at e2
 have hn:rr (mT w x)≠none:=fun z=>by
  rw [z] at e2
  cases e2
 refine ⟨hn,?_⟩
 rw [(air hn).2.1 []] at e2
 generalize rF (mT w x)=u at *
 obtain ⟨a,b⟩:=u
 generalize pT w x=p at *
 generalize pB w x=q at *
 injection e2 with e3 e4
 injection e3 with e5
 injection e5 with e6
 injection e6 with e7 e8
 injection e8 with e9 _
 injection e7 with e7
 injection e9 with e9
 rw [e7,e9]
theorem anA {n k:Nat} (S:Sto) {xs:List Int} {w:Int} (hn:n=2∨n=3) (P:Pq n k xs w) (hk:k≤300) (hg:∀ x∈xs,¬ GR w x):aaT [.pv (.str (tx (aaS 32 (xs.map (mT w)))))] S=.ok (.pv (tv (xs++[w]))) S:=by
 obtain ⟨Q,es,hf,hi,hne⟩:=aik (aaS 32 (xs.map (mT w))) 32
 have xl:=P.len
 have eQ:Q=xs.map (mT w):=ad5 hne (by
  intro z
  have:xs.length=0:=by rw [← List.length_map (f:=mT w),z]; rfl
  omega) hf (fun p hp=>by
  obtain ⟨x,hx,rfl⟩:=List.mem_map.mp hp
  exact ahd.2) hi
 subst eQ
 have hu:=agd (c:=32) (B:=130) (P:=xs.map (mT w)) fun p hp=>by
  obtain ⟨x,hx,rfl⟩:=List.mem_map.mp hp
  exact agE (hg x hx)
 rw [List.length_map] at hu
 have e:=afS S (ab:=rF) es (by omega) (by rw [List.length_map]; omega) fun p hp=>by
  obtain ⟨x,hx,rfl⟩:=List.mem_map.mp hp
  obtain ⟨a,b⟩:=an5 P hx (hg x hx)
  obtain ⟨c,d,_⟩:=air a
  have l:=agE (hg x hx)
  refine ⟨c,?_⟩
  rw [(ajo S (p:=mT w x) ahd.1 (by omega)).1,d S]
 have em:(xs.map (mT w)).map rF=xs.map fun x=>(pT w x,pB w x):=by
  rw [List.map_map]
  exact List.map_congr_left fun x hx=>(an5 P hx (hg x hx)).2
 rw [em,(akG hn P hk).2] at e
 exact e
theorem aif (S:Sto) {T:Str} {V:PV} (h:aaT [.pv (.str T)] S=.ok (.pv V) S):abK [.pv (.str T)] S=.ok (.pv (.tup [.str "told",V])) S:=by
 unfold abK fnM aeG
 simp [EC,fAbs,aaj,aal,fIx,atI,ixN,fEq,fNe,eqN,aam,aap,aan,aao,fAdd,aag,frz,aar,agf,agi,adS,h]
theorem akp (S:Sto) {T:Str} (h:aaT [.pv (.str T)] S=.exc "NoText" S):abK [.pv (.str T)] S=.ok (.pv (.tup [.str "refused",.non])) S:=by
 unfold abK fnM aeG
 simp [EC,fAbs,aaj,aal,fIx,atI,ixN,fEq,fNe,eqN,aam,aap,aan,aao,fAdd,aag,frz,aar,agf,agi,adS,h]
theorem amt {n:Nat} (hn:n≤9000) {T:Str} (h:Asc n T):(∀ S,aa8 [.pv (.str T)] S=.ok (.pv .non) S∧abK [.pv (.str T)] S=.ok (.pv (.tup [.str "refused",.non])) S)∨∃ us:List Int,∀ S,aa8 [.pv (.str T)] S=.ok (.pv (tv us)) S∧abK [.pv (.str T)] S=.ok (.pv (.tup [.str "told",tv us])) S:=by
 obtain ⟨L,rfl,a,b⟩:=h
 obtain ⟨Q,es,hf,hi,hne⟩:=aik L 32
 have ha:∀ p∈Q,(∀ c∈p,c < 128)∧p.length≤9000:=fun p hp=>⟨fun c hc=>a c (by rw [← hi]; exact ad2 hp c hc),by have z:=adU (c:=32) hp; rw [hi] at z; omega⟩
 by_cases h:(∃ p∈Q,rr p=none)∨¬ (Q.length=2∨Q.length=3)
 ·exact .inl fun S=>⟨(alH S es (by omega) ha).1 h,akp S (aiH S es (by omega) ha h)⟩
 ·have h1:∀ p∈Q,rr p≠none:=fun p hp z=>h (.inl ⟨p,hp,z⟩)
  have h2:Q.length=2∨Q.length=3:=Classical.byContradiction fun z=>h (.inr z)
  refine .inr ⟨_,fun S=>⟨(alH S es (by omega) ha).2 h1 h2,aif S (afS S es (by omega) h2 fun p hp=>?_)⟩⟩
  obtain ⟨c,d,_⟩:=air (h1 p hp)
  refine ⟨c,?_⟩
  rw [(ajo S (ha p hp).1 (ha p hp).2).1,d S]
theorem ahO:∀ (is:List PV) (ns:List Int) (x:Option AV),∃ (Ls:List (List Nat)) (ns':List Int),abr [] (gN 0) (aak aaR [] (aac (mVar 1) mNil)) is [x,some (.ref 0)] [.lst (li ns)]=.ok (Ls.map fun l=>.str (tx l)) [.lst (li ns')]∧Ls.length=is.length∧∀ l∈Ls,(∀ c∈l,c < 128)∧l.length≤600
 | [],ns,x=>⟨[],ns,abJ,rfl,fun _ h=>by cases h⟩
 | i :: is,ns,x=>by
  obtain ⟨T,n1,e1,L,rfl,a,b⟩:=ak0 ns
  obtain ⟨Ls,n2,e2,l2,h2⟩:=ahO is n1 (some (.pv i))
  refine ⟨L :: Ls,n2,?_,by simp [l2],fun l hl=>?_⟩
  ·rw [abi]
   simp [gN,EC,fAbs,aaj,aal,fIx,atI,ixN,fEq,fNe,eqN,aam,aap,aan,aao,fAdd,aag,frz,aar,e1,e2]
  ·rcases List.mem_cons.mp hl with rfl | hl
   ·exact ⟨a,b⟩
   ·exact h2 l hl
theorem sm12 {m:Int} (h0:0≤m) (h:m < 4096):Bd 8000 m:=Bd.of (n:=4095) (by omega) (Nat.lt_of_lt_of_le (show 4095 < 2 ^ 12 by decide) (Nat.pow_le_pow_right (by decide) (by decide)))
theorem ajK {n:Nat} (hn:n≤3000) (ns:List Int) {T:Str} (h:Asc n T):∃ (U:Str) (ns':List Int),acC [.ref 0,.pv (.str T)] [.lst (li ns)]=.ok (.pv (.str U)) [.lst (li ns')]∧Asc (2*n+1) U:=by
 obtain ⟨w,n1,e1,w0,w1⟩:=row1 ns (m:=6) (by decide) (sm8 (by decide) (by decide))
 unfold acC fnM aeP
 by_cases hw:2 < w
 ·exact ⟨T,n1,by simp [EC,fAbs,aaj,aal,fIx,atI,ixN,fEq,fNe,eqN,aam,aap,aan,aao,fAdd,aag,frz,aar,e1,hw],h.mono (by omega)⟩
 ·obtain ⟨el,hl⟩:=amm h (by omega)
  obtain ⟨k,n2,e2,k0,k1⟩:=row1 n1 (m:=((T.length:Nat):Int)+1) (by omega) (sm12 (by omega) (by omega))
  obtain ⟨C,n3,e3,AC⟩:=aiE n2
  obtain ⟨j,rfl⟩:=Int.eq_ofNat_of_zero_le k0
  obtain ⟨A,B,D,s1,s2,s3,AA,AB,AD⟩:=ano (j:=j) h (by omega) (by omega)
  obtain ⟨a1,A1⟩:=ada AA AC (by omega)
  obtain ⟨a2,A2⟩:=ada A1 AB (by omega)
  obtain ⟨a3,A3⟩:=ada AA AD (by omega)
  obtain ⟨a4,A4⟩:=ada A1 AD (by omega)
  generalize ((T.length:Nat):Int)=TN at *
  generalize (j:Int)=J at *
  by_cases h0:w=0
  ·subst h0
   exact ⟨_,n3,by simp [EC,fAbs,aaj,aal,fIx,atI,ixN,fEq,fNe,eqN,aam,aap,aan,aao,fAdd,aag,frz,aar,e1,el,e2,e3,mSlS,mO0,mO1,abl,s1,s2,a1,a2],A2.mono (by omega)⟩
  ·have h0:(w == 0)=false:=by simpa using h0
   by_cases h1:w=1
   ·subst h1
    exact ⟨_,n3,by simp [EC,fAbs,aaj,aal,fIx,atI,ixN,fEq,fNe,eqN,aam,aap,aan,aao,fAdd,aag,frz,aar,e1,el,e2,e3,mSlS,mO0,mO1,abl,s1,s3,a3],A3.mono (by omega)⟩
   ·have h1:(w == 1)=false:=by simpa using h1
    exact ⟨_,n3,by simp [EC,fAbs,aaj,aal,fIx,atI,ixN,fEq,fNe,eqN,aam,aap,aan,aao,fAdd,aag,frz,aar,e1,hw,h0,h1,el,e2,e3,mSlS,mO0,mO1,abl,s1,s3,a1,a4],A4.mono (by omega)⟩
theorem agA {k:Nat} {W:Int} (W0:0≤W) (W1:W≤10 ^ 61):∀ (is:List PV) (S:Sto) (ns:List Int) (x:Option AV),Row S k ns→∃ (xs ns':List Int),abr [] (gN 0) (mBin fSub (aak aax [] (aac (mVar 2) (aac (mBin fAdd (mBin fMul (mC (.int 2)) (mVar 1)) (mC (.int 1))) mNil))) (mVar 1)) is [x,some (.pv (.int W)),some (.ref k)] S=.ok (xs.map .int) (S.set k (.lst (ns'.map .int)))∧xs.length=is.length∧∀ n∈xs,Bd 210 n
 | [],S,ns,x,h=>by
  refine ⟨[],ns,?_,rfl,fun _ h=>absurd h List.not_mem_nil⟩
  have e:S.set k (.lst (ns.map .int))=S:=List.ext_getElem? fun j=>by
   by_cases q:k=j
   ·subst q; rw [List.getElem?_set_self h.lt]; exact h.symm
   ·rw [List.getElem?_set_ne q]
  rw [e]
  exact abJ
 | i :: is,S,ns,x,h=>by
  obtain ⟨t,n1,e1,t0,t1,_⟩:=akb (m:=2*W+1) h (by omega) ((Bd.of (k:=210) (n:=2*10 ^ 61+1) (by omega) (by decide +kernel)).mono (by decide))
  obtain ⟨xs,n2,e2,l2,b2⟩:=agA W0 W1 is _ n1 (some (.pv i)) (h.set n1)
  rw [List.set_set] at e2
  have m2:fMul (.int 2) (.int W)=some (.int (2*W)):=ab6 (.inl (.inl ⟨by decide,by decide⟩))
  refine ⟨(t - W) :: xs,n2,?_,by simp [l2],fun n hn=>?_⟩
  ·rw [abi]
   generalize S.set k (.lst (n1.map .int))=S1 at e1 e2
   simp [gN,EC,fAbs,aaj,aal,fIx,atI,ixN,fEq,fNe,eqN,aam,aap,aan,aao,fAdd,aag,frz,aar,m2,e1,e2]
  ·rcases List.mem_cons.mp hn with rfl | hn
   ·exact Bd.of (n:=10 ^ 61) (by omega) (by decide +kernel)
   ·exact b2 n hn
noncomputable def enB:MS:=(sSeq (sSet 8 (aa9 ["_law_k"] [(0,"_law_row_here")] (acJ (aac (mBin fIx (mN fLst (aac (mC (.int 2)) (aac (mC (.int 3)) (aac (mC (.int 2)) (aac (mC (.int 3)) (aac (mC (.int 1)) (aac (mC (.int 4)) mNil))))))) (aak aax [] (aac (mVar 0) (aac (mC (.int 6)) mNil)))) mNil)) (gN 0) (aak aaR [] (aac (mVar 1) mNil))))
 (sSeq (sSet 9 (aak acC [] (aac (mVar 0) (aac (aeC (mC (.str " ")) (aac (mVar 8) mNil)) mNil))))
 (sSeq (sSet 5 (aak aa8 [] (aac (mVar 9) mNil)))
 (sSeq (sSet 6 (aak abK [] (aac (mVar 9) mNil)))
 (sSeq (sIf (mTst (mUn fIsN (mVar 5))) (sRet (mBin fEq (mVar 6) (mN fTup (aac (mC (.str "refused")) (aac (mC .non) mNil))))) sNil)
 (sRet (abR (mBin fEq (mBin fIx (mVar 6) (mC (.int 0))) (mC (.str "told"))) (abR (aak abH [] (aac (mBin fIx (mVar 6) (mC (.int 1))) (aac (mR fLen (aac (mVar 5) mNil)) mNil))) (mBin fEq (mBin fIx (mVar 6) (mC (.int 1))) (mVar 5))))))))))
theorem an2 (ns:List Int) (a1 a2 a3 a4 a5 a6 a7:Option AV):∃ ns':List Int,enB [some (.ref 0),a1,a2,a3,a4,a5,a6,a7,none,none] [.lst (li ns)]=.rt (.pv (.bl true)) [.lst (li ns')]:=by
 obtain ⟨v,n1,e1,v0,v1⟩:=row1 ns (m:=6) (by decide) (sm8 (by decide) (by decide))
 obtain ⟨m,im,m1,m4⟩:∃ m:Nat,fIx (.lst [.int 2,.int 3,.int 2,.int 3,.int 1,.int 4]) (.int v)=some (.int (m:Int))∧1≤m∧m≤4:=by
  have:v=0∨v=1∨v=2∨v=3∨v=4∨v=5:=by omega
  rcases this with rfl | rfl | rfl | rfl | rfl | rfl
  ·exact ⟨2,rfl,by decide,by decide⟩
  ·exact ⟨3,rfl,by decide,by decide⟩
  ·exact ⟨2,rfl,by decide,by decide⟩
  ·exact ⟨3,rfl,by decide,by decide⟩
  ·exact ⟨1,rfl,by decide,by decide⟩
  ·exact ⟨4,rfl,by decide,by decide⟩
 have rg:rng1 [.pv (.int (m:Int))] [.lst (li n1)]=.ok (acn 0 m,[]) [.lst (li n1)]:=by
  unfold rng1
  dsimp only
  rw [if_pos ⟨by omega,by omega⟩]
  rfl
 obtain ⟨Ls,n2,e2,l2,h2⟩:=ahO (acn 0 m) n1 none
 have l:(acn 0 m).length=m:=by unfold acn; simp
 rw [l] at l2
 have ej:=ahc (c:=32) (Ls:=Ls) (B:=600) (fun l hl=>(h2 l hl).2) (by omega) (by decide)
 rw [← af3] at ej
 have up:=agd (c:=32) (B:=600) (P:=Ls) fun l hl=>(h2 l hl).2
 have A:Asc 2404 (tx (aaS 32 Ls)):=⟨_,rfl,ag1 (by decide) fun p hp=>(h2 p hp).1,by
  have:Ls.length*(600+1)≤4*601:=Nat.mul_le_mul (by omega) (Nat.le_refl _)
  omega⟩
 obtain ⟨U,n3,e3,AU⟩:=ajK (by decide) n2 A
 refine ⟨n3,?_⟩
 unfold enB
 generalize hme:(aak aaR [] (aac (mVar 1) mNil))=ME1 at *
 generalize (Ls.map fun l=>PV.str (tx l))=SL at *
 generalize tx (aaS 32 Ls)=TT at *
 generalize acn 0 m=IL at *
 generalize (m:Int)=MM at *
 have qs:eqN 8 (.str "told") (.str "told")=some true:=by simp [eqN]
 have qr:eqN 8 (.tup [.str "refused",.non]) (.tup [.str "refused",.non])=some true:=by simp [eqN,acN]
 have i0:∀ x y:PV,fIx (.tup [x,y]) (.int 0)=some x:=fun _ _=>rfl
 have i1:∀ x y:PV,fIx (.tup [x,y]) (.int 1)=some y:=fun _ _=>rfl
 rcases amt (by decide) AU with h | ⟨us,h⟩
 ·obtain ⟨k1,k2⟩:=h [.lst (li n3)]
  simp [EC,fAbs,aaj,aal,fEq,fNe,ady,aam,aap,aan,aao,fAdd,aag,frz,aar,e1,im,aa9,cmpR,acJ,rg,e2,aeC,strR,ej,e3,k1,k2,fIsN,qr]
 ·obtain ⟨k1,k2⟩:=h [.lst (li n3)]
  have ew:abH [.pv (.tup (us.map .int)),.pv (.int ((us.map PV.int).length:Nat))] [.lst (li n3)]=.ok (.pv (.bl true)) [.lst (li n3)]:=by
   rw [List.length_map]
   exact ags us _
  have q:eqN 8 (.tup (us.map .int)) (.tup (us.map .int))=some true:=ajN 7 us
  dsimp only [tv] at k1 k2
  generalize us.map PV.int=UL at *
  simp [EC,fAbs,aaj,aal,fEq,fNe,ady,aam,aap,aan,aao,fAdd,aag,frz,aar,e1,im,aa9,cmpR,acJ,rg,e2,aeC,strR,ej,e3,k1,k2,fIsN,ew,q,qs,i0,i1]
noncomputable def miB (R:MS):MS:=(sSeq (sSet 5 (aak abg [] (aac (mVar 4) mNil)))
 (sSeq (sSet 6 (mC .non))
 (sSeq (agf (agi (mC (.str "told")) (adS aa1 [] (aac (mVar 4) mNil))) "TooGreat" 10 6 (fun ρ=>(ρ.set 6 (some (.pv (.tup [.str "refused",.non]))))))
 (sSeq (sIf (mAnd (mTst (mUn fIsN (mVar 5))) (mTst (mBin fNe (mVar 6) (mN fTup (aac (mC (.str "refused")) (aac (mC .non) mNil)))))) (sRet (mC (.bl false))) sNil)
 (sSeq (sIf (mTst (mUn fNoN (mVar 5))) (sSeq (sIf (mOr (mTst (mBin fNe (mBin fIx (mVar 6) (mC (.int 0))) (mC (.str "told")))) (mOr (mNot (mTst (mUn (fIsi "str") (mBin fIx (mVar 6) (mC (.int 1)))))) (mTst (mBin fNe (mBin fIx (mVar 6) (mC (.int 1))) (mVar 5))))) (sRet (mC (.bl false))) sNil)
 (sSeq (sSet 7 (aak abK [] (aac (mVar 5) mNil)))
 (sIf (mOr (mTst (mBin fNe (mBin fIx (mVar 7) (mC (.int 0))) (mC (.str "told")))) (mOr (mNot (mTst (aak abH [] (aac (mBin fIx (mVar 7) (mC (.int 1))) (aac (mBin fAdd (mVar 1) (mC (.int 1))) mNil))))) (mTst (mBin fNe (mBin fIx (mVar 7) (mC (.int 1))) (mVar 4))))) (sRet (mC (.bl false))) sNil))) sNil)
 R)))))
theorem aoc {n:Nat} {xs:List Int} {w:Int} (S:Sto) (hn:n=2∨n=3) (P:Pq n 210 xs w) (a2 a3:Option AV) (R:MS):∃ a5 a6 a7,miB R [some (.ref 0),some (.pv (.int (n:Int))),a2,a3,some (.pv (tv (xs++[w]))),none,none,none,none,none] S=R [some (.ref 0),some (.pv (.int (n:Int))),a2,a3,some (.pv (tv (xs++[w]))),a5,a6,a7,none,none] S:=by
 have t:=akw S P (by decide) (by omega)
 have s:=akv S P (by decide) (by omega)
 have qs:eqN 8 (.str "told") (.str "told")=some true:=by simp [eqN]
 have qr:eqN 8 (.tup [.str "refused",.non]) (.tup [.str "refused",.non])=some true:=by simp [eqN,acN]
 have i0:∀ x y:PV,fIx (.tup [x,y]) (.int 0)=some x:=fun _ _=>rfl
 have i1:∀ x y:PV,fIx (.tup [x,y]) (.int 1)=some y:=fun _ _=>rfl
 by_cases h:∃ x∈xs,GR w x
 ·have t:=t.1 h
  have s:=s.1 h
  refine ⟨some (.pv .non),some (.pv (.tup [.str "refused",.non])),none,?_⟩
  generalize tv (xs++[w])=TV at *
  unfold miB
  simp [EC,fAbs,aaj,aal,fEq,fNe,ady,aam,aap,aan,aao,fAdd,aag,frz,aar,t,agf,agi,adS,s,fIsN,fNoN,qr]
 ·have hg:∀ x∈xs,¬ GR w x:=fun x hx z=>h ⟨x,hx,z⟩
  have t:=t.2 hg
  have s:=s.2 hg
  have r:=aif S (anA S hn P (by decide) hg)
  have ew:abH [.pv (tv (xs++[w])),.pv (.int ((n:Int)+1))] S=.ok (.pv (.bl true)) S:=by
   have:=ags (xs++[w]) S
   rw [List.length_append,P.len] at this
   exact this
  have q:eqN 8 (tv (xs++[w])) (tv (xs++[w]))=some true:=ajN 7 (xs++[w])
  refine ⟨some (.pv (.str (tx (aaS 32 (xs.map (mT w)))))),some (.pv (.tup [.str "told",.str (tx (aaS 32 (xs.map (mT w))))])),some (.pv (.tup [.str "told",tv (xs++[w])])),?_⟩
  have qt:eqN 8 (.str (tx (aaS 32 (xs.map (mT w))))) (.str (tx (aaS 32 (xs.map (mT w)))))=some true:=by simp [eqN]
  generalize tx (aaS 32 (xs.map (mT w)))=TT at *
  generalize tv (xs++[w])=TV at *
  generalize (n:Int)=N at *
  unfold miB
  simp [EC,fAbs,aaj,aal,fEq,fNe,ady,aam,aap,aan,aao,fAdd,aag,frz,aar,t,agf,agi,adS,s,fIsN,fNoN,fIsi,qt,qs,r,ew,q,i0,i1]
theorem p6':fPow (.int 10) (.int 6)=some (.int 1000000):=afr (i:=10) (j:=6) ⟨by decide,by decide,by decide⟩
theorem anw:ahx=(sSeq (sSet 1 (mBin fAdd (mC (.int 2)) (aak aax [] (aac (mVar 0) (aac (mC (.int 2)) mNil)))))
 (sSeq (sSet 2 (mBin fIx (mN fLst (aac (mC (.int 9)) (aac (mBin fPow (mC (.int 10)) (mC (.int 20))) (aac (mBin fPow (mC (.int 10)) (mC (.int 61))) mNil)))) (aak aax [] (aac (mVar 0) (aac (mC (.int 3)) mNil)))))
 (sSeq (sSet 3 (mBin fAdd (mC (.int 1)) (aak aax [] (aac (mVar 0) (aac (mBin fIx (mN fLst (aac (mC (.int 1)) (aac (mC (.int 12)) (aac (mBin fPow (mC (.int 10)) (mC (.int 6))) mNil)))) (aak aax [] (aac (mVar 0) (aac (mC (.int 3)) mNil)))) mNil)))))
 (sSeq (sSet 4 (aak aaZ [] (aac (mBin fAdd (aa9 ["_law_k"] [(2,"_law_wide"),(0,"_law_row_here")] (acJ (aac (mVar 1) mNil)) (gN 0) (mBin fSub (aak aax [] (aac (mVar 2) (aac (mBin fAdd (mBin fMul (mC (.int 2)) (mVar 1)) (mC (.int 1))) mNil))) (mVar 1))) (mN fLst (aac (mVar 3) mNil))) mNil)))
 (miB enB))))):=rfl
theorem ajl (ms:List Int):∃ ns':List Int,adA [.ref 0] [.lst (li ms)]=.ok (.pv (.bl true)) [.lst (li ns')]:=by
 obtain ⟨a,n1,e1,a0,a1⟩:=row1 ms (m:=2) (by decide) (sm8 (by decide) (by decide))
 obtain ⟨v,n2,e2,v0,v1⟩:=row1 n1 (m:=3) (by decide) (sm8 (by decide) (by decide))
 obtain ⟨u,n3,e3,u0,u1⟩:=row1 n2 (m:=3) (by decide) (sm8 (by decide) (by decide))
 obtain ⟨W,iW,W0,W1⟩:∃ W:Int,fIx (.lst [.int 9,.int 100000000000000000000,.int 10000000000000000000000000000000000000000000000000000000000000]) (.int v)=some (.int W)∧0≤W∧W≤10 ^ 61:=by
  have:v=0∨v=1∨v=2:=by omega
  rcases this with rfl | rfl | rfl
  ·exact ⟨9,rfl,by decide +kernel,by decide +kernel⟩
  ·exact ⟨100000000000000000000,rfl,by decide +kernel,by decide +kernel⟩
  ·exact ⟨10000000000000000000000000000000000000000000000000000000000000,rfl,by decide +kernel,by decide +kernel⟩
 obtain ⟨M,iM,M0,M1⟩:∃ M:Int,fIx (.lst [.int 1,.int 12,.int 1000000]) (.int u)=some (.int M)∧0 < M∧M≤1000000:=by
  have:u=0∨u=1∨u=2:=by omega
  rcases this with rfl | rfl | rfl
  ·exact ⟨1,rfl,by decide,by decide⟩
  ·exact ⟨12,rfl,by decide,by decide⟩
  ·exact ⟨1000000,rfl,by decide,by decide⟩
 obtain ⟨b,n4,e4,b0,b1⟩:=row1 n3 (m:=M) M0 ((Bd.of (k:=50) (n:=1000000) (by omega) (by decide)).mono (by decide))
 obtain ⟨n,hn,ea⟩:∃ n:Nat,(n=2∨n=3)∧2+a=(n:Int):=⟨(2+a).toNat,by omega,by omega⟩
 obtain ⟨xs,n5,e5,l5,b5⟩:=agA (k:=0) W0 W1 (acn 0 n) [.lst (li n4)] n4 none rfl
 have e5:abr [] (gN 0) (mBin fSub (aak aax [] (aac (mVar 2) (aac (mBin fAdd (mBin fMul (mC (.int 2)) (mVar 1)) (mC (.int 1))) mNil))) (mVar 1)) (acn 0 n) [none,some (.pv (.int W)),some (.ref 0)] [.lst (li n4)]=.ok (xs.map .int) [.lst (li n5)]:=e5
 have l:(acn 0 n).length=n:=by unfold acn; simp
 rw [l] at l5
 have bb:Bd 210 (1+b):=Bd.of (n:=1000001) (by omega) (Nat.lt_of_lt_of_le (show 1000001 < 2 ^ 50 by decide) (Nat.pow_le_pow_right (by decide) (by decide)))
 obtain ⟨zs,z,el,Z,_⟩:=aib (n:=n) (k:=210) (L:=xs) (b:=1+b) (by omega) l5 b5 bb
 have ew:=adQ (xs++[1+b]) [.lst (li n5)] fun x hx=>by
  rcases List.mem_append.mp hx with y | y
  ·exact (b5 x y).mono (by decide)
  ·have:x=1+b:=by simpa using y
   rw [this]; exact bb.mono (by decide)
 rw [el,List.map_append] at ew
 have ew:aaZ [.pv (.lst (xs.map .int++[.int (1+b)]))] [.lst (li n5)]=.ok (.pv (tv (zs++[z]))) [.lst (li n5)]:=ew
 have rg:rng1 [.pv (.int (n:Int))] [.lst (li n4)]=.ok (acn 0 n,[]) [.lst (li n4)]:=by
  unfold rng1
  dsimp only
  rw [if_pos ⟨by omega,by omega⟩]
  rfl
 obtain ⟨a5,a6,a7,em⟩:=aoc [.lst (li n5)] hn Z (some (.pv (.int W))) (some (.pv (.int (1+b)))) enB
 obtain ⟨n6,ee⟩:=an2 n5 (some (.pv (.int (n:Int)))) (some (.pv (.int W))) (some (.pv (.int (1+b)))) (some (.pv (tv (zs++[z])))) a5 a6 a7
 rw [ee] at em
 refine ⟨n6,?_⟩
 have A1:fAdd (.int 2) (.int a)=some (.int (n:Int)):=by rw [fAdd,ea]
 have A2:fAdd (.int 1) (.int b)=some (.int (1+b)):=rfl
 have A3:fAdd (.lst (xs.map .int)) (.lst [.int (1+b)])=some (.lst (xs.map .int++[.int (1+b)])):=if_pos (by rw [List.length_map,l5]; show n+1≤16777216; omega)
 unfold adA fnM
 rw [anw]
 generalize (mBin fSub (aak aax [] (aac (mVar 2) (aac (mBin fAdd (mBin fMul (mC (.int 2)) (mVar 1)) (mC (.int 1))) mNil))) (mVar 1))=ME1 at *
 generalize miB enB=MB at *
 generalize tv (zs++[z])=TV at *
 generalize acn 0 n=IL at *
 generalize xs.map PV.int=XL at *
 generalize 1+b=B1 at *
 generalize (n:Int)=N at *
 simp [EC,fAbs,aaj,aal,fEq,fNe,ady,aam,aap,aan,aao,frz,aar,e1,A1,e2,q20,p61,iW,e3,p6',iM,e4,A2,aa9,cmpR,acJ,rg,e5,A3,ew,em]
theorem akA (ns:List Int) (h:ns.length≤63):∃ S,amI [.pv (.lst (ns.map .int))] []=.ok (.pv (.bl true)) S:=by
 obtain ⟨ms,e0,_⟩:=aoh ns [] h
 have e0:aeU [.pv (.lst (ns.map .int))] []=.ok (.ref 0) [.lst (li ms)]:=e0
 obtain ⟨n1,e1⟩:=ajl ms
 obtain ⟨n2,e2⟩:=ajl n1
 refine ⟨[],?_⟩
 generalize ns.map PV.int=NL at *
 unfold amI fnM amC
 simp [EC,fAbs,aaj,aal,fIx,atI,ixN,fEq,fNe,eqN,aam,aap,aan,aao,fAdd,aag,frz,aar,e0,e1,e2]
theorem all_mk {l:PySem.W.OpenLaw} {w:World} {K:PySem.W.Frag} {h:Heap} {mg:Str→Option Value} {fa:Addr} (X:K.In h) (G:h.Ns mainGlobals mg) (hfa:mg "law"=some (.ref fa))
  {f26:Addr} {od26 an26:Option Addr} {sl26:Array (Option Value)} {oc26 kV26 dc26 pm26 cd26 ct26:Value}
  (a26:PySem.W.nsIn K mainGlobals "_law_row"=some (some (.ref f26))) (l26:K.lookup f26=some ⟨oc26,od26,.func (PySem.W.fnOf "_law_row" "_law_row" (aaz afI) (aaw afI) (aae afI) .none kV26 dc26 pm26 an26 cd26 ct26),sl26⟩) (c26:PySem.W.codeIn K cd26 "_law_row"=true) (k26:PySem.W.keepIn K (.ref f26)=true)
  {f27:Addr} {od27 an27:Option Addr} {sl27:Array (Option Value)} {oc27 kV27 dc27 pm27 cd27 ct27:Value}
  (a27:PySem.W.nsIn K mainGlobals "_law_take"=some (some (.ref f27))) (l27:K.lookup f27=some ⟨oc27,od27,.func (PySem.W.fnOf "_law_take" "_law_take" (aaz aee) (aaw aee) (aae aee) .none kV27 dc27 pm27 an27 cd27 ct27),sl27⟩) (c27:PySem.W.codeIn K cd27 "_law_take"=true) (k27:PySem.W.keepIn K (.ref f27)=true)
  {f28:Addr} {od28 an28:Option Addr} {sl28:Array (Option Value)} {oc28 kV28 dc28 pm28 cd28 ct28:Value}
  (a28:PySem.W.nsIn K mainGlobals "_law_gcd"=some (some (.ref f28))) (l28:K.lookup f28=some ⟨oc28,od28,.func (PySem.W.fnOf "_law_gcd" "_law_gcd" (aaz afD) (aaw afD) (aae afD) .none kV28 dc28 pm28 an28 cd28 ct28),sl28⟩) (c28:PySem.W.codeIn K cd28 "_law_gcd"=true) (k28:PySem.W.keepIn K (.ref f28)=true)
  {f29:Addr} {od29 an29:Option Addr} {sl29:Array (Option Value)} {oc29 kV29 dc29 pm29 cd29 ct29:Value}
  (a29:PySem.W.nsIn K mainGlobals "_law_lowest"=some (some (.ref f29))) (l29:K.lookup f29=some ⟨oc29,od29,.func (PySem.W.fnOf "_law_lowest" "_law_lowest" (aaz acE) (aaw acE) (aae acE) .none kV29 dc29 pm29 an29 cd29 ct29),sl29⟩) (c29:PySem.W.codeIn K cd29 "_law_lowest"=true) (k29:PySem.W.keepIn K (.ref f29)=true)
  {f32:Addr} {od32 an32:Option Addr} {sl32:Array (Option Value)} {oc32 kV32 dc32 pm32 cd32 ct32:Value}
  (a32:PySem.W.nsIn K mainGlobals "_law_frac"=some (some (.ref f32))) (l32:K.lookup f32=some ⟨oc32,od32,.func (PySem.W.fnOf "_law_frac" "_law_frac" (aaz aeu) (aaw aeu) (aae aeu) .none kV32 dc32 pm32 an32 cd32 ct32),sl32⟩) (c32:PySem.W.codeIn K cd32 "_law_frac"=true) (k32:PySem.W.keepIn K (.ref f32)=true)
  {f33:Addr} {od33 an33:Option Addr} {sl33:Array (Option Value)} {oc33 kV33 dc33 pm33 cd33 ct33:Value}
  (a33:PySem.W.nsIn K mainGlobals "_law_written"=some (some (.ref f33))) (l33:K.lookup f33=some ⟨oc33,od33,.func (PySem.W.fnOf "_law_written" "_law_written" (aaz acx) (aaw acx) (aae acx) .none kV33 dc33 pm33 an33 cd33 ct33),sl33⟩) (c33:PySem.W.codeIn K cd33 "_law_written"=true) (k33:PySem.W.keepIn K (.ref f33)=true)
  {f34:Addr} {od34 an34:Option Addr} {sl34:Array (Option Value)} {oc34 kV34 dc34 pm34 cd34 ct34:Value}
  (a34:PySem.W.nsIn K mainGlobals "_law_point_text"=some (some (.ref f34))) (l34:K.lookup f34=some ⟨oc34,od34,.func (PySem.W.fnOf "_law_point_text" "_law_point_text" (aaz abt) (aaw abt) (aae abt) .none kV34 dc34 pm34 an34 cd34 ct34),sl34⟩) (c34:PySem.W.codeIn K cd34 "_law_point_text"=true) (k34:PySem.W.keepIn K (.ref f34)=true)
  {f7:Addr} {od7 an7:Option Addr} {sl7:Array (Option Value)} {oc7 kV7 dc7 pm7 cd7 ct7:Value}
  (a7:PySem.W.nsIn K mainGlobals "sign"=some (some (.ref f7))) (l7:K.lookup f7=some ⟨oc7,od7,.func (PySem.W.fnOf "sign" "sign" (aaz afM) (aaw afM) (aae afM) .none kV7 dc7 pm7 an7 cd7 ct7),sl7⟩) (c7:PySem.W.codeIn K cd7 "sign"=true) (k7:PySem.W.keepIn K (.ref f7)=true)
  {f8:Addr} {od8 an8:Option Addr} {sl8:Array (Option Value)} {oc8 kV8 dc8 pm8 cd8 ct8:Value}
  (a8:PySem.W.nsIn K mainGlobals "divisor"=some (some (.ref f8))) (l8:K.lookup f8=some ⟨oc8,od8,.func (PySem.W.fnOf "divisor" "divisor" (aaz acX) (aaw acX) (aae acX) .none kV8 dc8 pm8 an8 cd8 ct8),sl8⟩) (c8:PySem.W.codeIn K cd8 "divisor"=true) (k8:PySem.W.keepIn K (.ref f8)=true)
  {f10:Addr} {od10 an10:Option Addr} {sl10:Array (Option Value)} {oc10 kV10 dc10 pm10 cd10 ct10:Value}
  {T10:Addr} {tc10:Value} {td10:Option Addr} {tl10:Array (Option Value)} {tt10:Tok} {tn10:Nat}
  (a10:PySem.W.nsIn K mainGlobals "fraction"=some (some (.ref f10))) (l10:K.lookup f10=some ⟨oc10,od10,.func (PySem.W.fnOf "fraction" "fraction" (aaz acw) (aaw acw) (aae acw) (.ref T10) kV10 dc10 pm10 an10 cd10 ct10),sl10⟩) (c10:PySem.W.codeIn K cd10 "fraction"=true) (k10:PySem.W.keepIn K (.ref f10)=true)
  (t10:K.lookup T10=some ⟨tc10,td10,.seq #[.int 1 tt10] tn10,tl10⟩)
  {f13:Addr} {od13 an13:Option Addr} {sl13:Array (Option Value)} {oc13 kV13 dc13 pm13 cd13 ct13:Value}
  (a13:PySem.W.nsIn K mainGlobals "measures"=some (some (.ref f13))) (l13:K.lookup f13=some ⟨oc13,od13,.func (PySem.W.fnOf "measures" "measures" (aaz ach) (aaw ach) (aae ach) .none kV13 dc13 pm13 an13 cd13 ct13),sl13⟩) (c13:PySem.W.codeIn K cd13 "measures"=true) (k13:PySem.W.keepIn K (.ref f13)=true)
  {f18:Addr} {od18 an18:Option Addr} {sl18:Array (Option Value)} {oc18 kV18 dc18 pm18 cd18 ct18:Value}
  (a18:PySem.W.nsIn K mainGlobals "shown_whole"=some (some (.ref f18))) (l18:K.lookup f18=some ⟨oc18,od18,.func (PySem.W.fnOf "shown_whole" "shown_whole" (aaz abM) (aaw abM) (aae abM) .none kV18 dc18 pm18 an18 cd18 ct18),sl18⟩) (c18:PySem.W.codeIn K cd18 "shown_whole"=true) (k18:PySem.W.keepIn K (.ref f18)=true)
  {f19:Addr} {od19 an19:Option Addr} {sl19:Array (Option Value)} {oc19 kV19 dc19 pm19 cd19 ct19:Value}
  (a19:PySem.W.nsIn K mainGlobals "shown_number"=some (some (.ref f19))) (l19:K.lookup f19=some ⟨oc19,od19,.func (PySem.W.fnOf "shown_number" "shown_number" (aaz aby) (aaw aby) (aae aby) .none kV19 dc19 pm19 an19 cd19 ct19),sl19⟩) (c19:PySem.W.codeIn K cd19 "shown_number"=true) (k19:PySem.W.keepIn K (.ref f19)=true)
  {f20:Addr} {od20 an20:Option Addr} {sl20:Array (Option Value)} {oc20 kV20 dc20 pm20 cd20 ct20:Value}
  (a20:PySem.W.nsIn K mainGlobals "shown_point"=some (some (.ref f20))) (l20:K.lookup f20=some ⟨oc20,od20,.func (PySem.W.fnOf "shown_point" "shown_point" (aaz abw) (aaw abw) (aae abw) .none kV20 dc20 pm20 an20 cd20 ct20),sl20⟩) (c20:PySem.W.codeIn K cd20 "shown_point"=true) (k20:PySem.W.keepIn K (.ref f20)=true)
  {f21:Addr} {od21 an21:Option Addr} {sl21:Array (Option Value)} {oc21 kV21 dc21 pm21 cd21 ct21:Value}
  (a21:PySem.W.nsIn K mainGlobals "refuse_unless"=some (some (.ref f21))) (l21:K.lookup f21=some ⟨oc21,od21,.func (PySem.W.fnOf "refuse_unless" "refuse_unless" (aaz abk) (aaw abk) (aae abk) .none kV21 dc21 pm21 an21 cd21 ct21),sl21⟩) (c21:PySem.W.codeIn K cd21 "refuse_unless"=true) (k21:PySem.W.keepIn K (.ref f21)=true)
  {f22:Addr} {od22 an22:Option Addr} {sl22:Array (Option Value)} {oc22 kV22 dc22 pm22 cd22 ct22:Value}
  (a22:PySem.W.nsIn K mainGlobals "read_whole"=some (some (.ref f22))) (l22:K.lookup f22=some ⟨oc22,od22,.func (PySem.W.fnOf "read_whole" "read_whole" (aaz abE) (aaw abE) (aae abE) .none kV22 dc22 pm22 an22 cd22 ct22),sl22⟩) (c22:PySem.W.codeIn K cd22 "read_whole"=true) (k22:PySem.W.keepIn K (.ref f22)=true)
  {f23:Addr} {od23 an23:Option Addr} {sl23:Array (Option Value)} {oc23 kV23 dc23 pm23 cd23 ct23:Value}
  (a23:PySem.W.nsIn K mainGlobals "read_number"=some (some (.ref f23))) (l23:K.lookup f23=some ⟨oc23,od23,.func (PySem.W.fnOf "read_number" "read_number" (aaz abL) (aaw abL) (aae abL) .none kV23 dc23 pm23 an23 cd23 ct23),sl23⟩) (c23:PySem.W.codeIn K cd23 "read_number"=true) (k23:PySem.W.keepIn K (.ref f23)=true)
  {f9:Addr} {od9 an9:Option Addr} {sl9:Array (Option Value)} {oc9 kV9 dc9 pm9 cd9 ct9:Value}
  (a9:PySem.W.nsIn K mainGlobals "reduced"=some (some (.ref f9))) (l9:K.lookup f9=some ⟨oc9,od9,.func (PySem.W.fnOf "reduced" "reduced" (aaz acM) (aaw acM) (aae acM) .none kV9 dc9 pm9 an9 cd9 ct9),sl9⟩) (c9:PySem.W.codeIn K cd9 "reduced"=true) (k9:PySem.W.keepIn K (.ref f9)=true)
  {f12:Addr} {od12 an12:Option Addr} {sl12:Array (Option Value)} {oc12 kV12 dc12 pm12 cd12 ct12:Value}
  {T12:Addr} {tc12:Value} {td12:Option Addr} {tl12:Array (Option Value)} {tt12:Tok} {tn12:Nat}
  (a12:PySem.W.nsIn K mainGlobals "point"=some (some (.ref f12))) (l12:K.lookup f12=some ⟨oc12,od12,.func (PySem.W.fnOf "point" "point" (aaz adB) (aaw adB) (aae adB) (.ref T12) kV12 dc12 pm12 an12 cd12 ct12),sl12⟩) (c12:PySem.W.codeIn K cd12 "point"=true) (k12:PySem.W.keepIn K (.ref f12)=true)
  (t12:K.lookup T12=some ⟨tc12,td12,.seq #[.int 1 tt12] tn12,tl12⟩)
  {f14:Addr} {od14 an14:Option Addr} {sl14:Array (Option Value)} {oc14 kV14 dc14 pm14 cd14 ct14:Value}
  (a14:PySem.W.nsIn K mainGlobals "point_at"=some (some (.ref f14))) (l14:K.lookup f14=some ⟨oc14,od14,.func (PySem.W.fnOf "point_at" "point_at" (aaz acf) (aaw acf) (aae acf) .none kV14 dc14 pm14 an14 cd14 ct14),sl14⟩) (c14:PySem.W.codeIn K cd14 "point_at"=true) (k14:PySem.W.keepIn K (.ref f14)=true)
  {f24:Addr} {od24 an24:Option Addr} {sl24:Array (Option Value)} {oc24 kV24 dc24 pm24 cd24 ct24:Value}
  (a24:PySem.W.nsIn K mainGlobals "read_point"=some (some (.ref f24))) (l24:K.lookup f24=some ⟨oc24,od24,.func (PySem.W.fnOf "read_point" "read_point" (aaz abI) (aaw abI) (aae abI) .none kV24 dc24 pm24 an24 cd24 ct24),sl24⟩) (c24:PySem.W.codeIn K cd24 "read_point"=true) (k24:PySem.W.keepIn K (.ref f24)=true)
  {f43:Addr} {od43 an43:Option Addr} {sl43:Array (Option Value)} {oc43 kV43 dc43 pm43 cd43 ct43:Value}
  (a43:PySem.W.nsIn K mainGlobals "_law_asked"=some (some (.ref f43))) (l43:K.lookup f43=some ⟨oc43,od43,.func (PySem.W.fnOf "_law_asked" "_law_asked" (aaz adm) (aaw adm) (aae adm) .none kV43 dc43 pm43 an43 cd43 ct43),sl43⟩) (c43:PySem.W.codeIn K cd43 "_law_asked"=true) (k43:PySem.W.keepIn K (.ref f43)=true)
  {f30:Addr} {od30 an30:Option Addr} {sl30:Array (Option Value)} {oc30 kV30 dc30 pm30 cd30 ct30:Value}
  (a30:PySem.W.nsIn K mainGlobals "_law_whole"=some (some (.ref f30))) (l30:K.lookup f30=some ⟨oc30,od30,.func (PySem.W.fnOf "_law_whole" "_law_whole" (aaz adq) (aaw adq) (aae adq) .none kV30 dc30 pm30 an30 cd30 ct30),sl30⟩) (c30:PySem.W.codeIn K cd30 "_law_whole"=true) (k30:PySem.W.keepIn K (.ref f30)=true)
  {f31:Addr} {od31 an31:Option Addr} {sl31:Array (Option Value)} {oc31 kV31 dc31 pm31 cd31 ct31:Value}
  (a31:PySem.W.nsIn K mainGlobals "_law_wholes"=some (some (.ref f31))) (l31:K.lookup f31=some ⟨oc31,od31,.func (PySem.W.fnOf "_law_wholes" "_law_wholes" (aaz acF) (aaw acF) (aae acF) .none kV31 dc31 pm31 an31 cd31 ct31),sl31⟩) (c31:PySem.W.codeIn K cd31 "_law_wholes"=true) (k31:PySem.W.keepIn K (.ref f31)=true)
  {f40:Addr} {od40 an40:Option Addr} {sl40:Array (Option Value)} {oc40 kV40 dc40 pm40 cd40 ct40:Value}
  (a40:PySem.W.nsIn K mainGlobals "_law_tens"=some (some (.ref f40))) (l40:K.lookup f40=some ⟨oc40,od40,.func (PySem.W.fnOf "_law_tens" "_law_tens" (aaz ael) (aaw ael) (aae ael) .none kV40 dc40 pm40 an40 cd40 ct40),sl40⟩) (c40:PySem.W.codeIn K cd40 "_law_tens"=true) (k40:PySem.W.keepIn K (.ref f40)=true)
  {f41:Addr} {od41 an41:Option Addr} {sl41:Array (Option Value)} {oc41 kV41 dc41 pm41 cd41 ct41:Value}
  (a41:PySem.W.nsIn K mainGlobals "_law_word_of"=some (some (.ref f41))) (l41:K.lookup f41=some ⟨oc41,od41,.func (PySem.W.fnOf "_law_word_of" "_law_word_of" (aaz acv) (aaw acv) (aae acv) .none kV41 dc41 pm41 an41 cd41 ct41),sl41⟩) (c41:PySem.W.codeIn K cd41 "_law_word_of"=true) (k41:PySem.W.keepIn K (.ref f41)=true)
  {f42:Addr} {od42 an42:Option Addr} {sl42:Array (Option Value)} {oc42 kV42 dc42 pm42 cd42 ct42:Value}
  (a42:PySem.W.nsIn K mainGlobals "_law_number_word"=some (some (.ref f42))) (l42:K.lookup f42=some ⟨oc42,od42,.func (PySem.W.fnOf "_law_number_word" "_law_number_word" (aaz abz) (aaw abz) (aae abz) .none kV42 dc42 pm42 an42 cd42 ct42),sl42⟩) (c42:PySem.W.codeIn K cd42 "_law_number_word"=true) (k42:PySem.W.keepIn K (.ref f42)=true)
  {f38:Addr} {od38 an38:Option Addr} {sl38:Array (Option Value)} {oc38 kV38 dc38 pm38 cd38 ct38:Value}
  (a38:PySem.W.nsIn K mainGlobals "_law_sign_at"=some (some (.ref f38))) (l38:K.lookup f38=some ⟨oc38,od38,.func (PySem.W.fnOf "_law_sign_at" "_law_sign_at" (aaz acy) (aaw acy) (aae acy) .none kV38 dc38 pm38 an38 cd38 ct38),sl38⟩) (c38:PySem.W.codeIn K cd38 "_law_sign_at"=true) (k38:PySem.W.keepIn K (.ref f38)=true)
  {f39:Addr} {od39 an39:Option Addr} {sl39:Array (Option Value)} {oc39 kV39 dc39 pm39 cd39 ct39:Value}
  (a39:PySem.W.nsIn K mainGlobals "_law_spoilt"=some (some (.ref f39))) (l39:K.lookup f39=some ⟨oc39,od39,.func (PySem.W.fnOf "_law_spoilt" "_law_spoilt" (aaz acU) (aaw acU) (aae acU) .none kV39 dc39 pm39 an39 cd39 ct39),sl39⟩) (c39:PySem.W.codeIn K cd39 "_law_spoilt"=true) (k39:PySem.W.keepIn K (.ref f39)=true)
  {f35:Addr} {od35 an35:Option Addr} {sl35:Array (Option Value)} {oc35 kV35 dc35 pm35 cd35 ct35:Value}
  (a35:PySem.W.nsIn K mainGlobals "_law_figures"=some (some (.ref f35))) (l35:K.lookup f35=some ⟨oc35,od35,.func (PySem.W.fnOf "_law_figures" "_law_figures" (aaz ace) (aaw ace) (aae ace) .none kV35 dc35 pm35 an35 cd35 ct35),sl35⟩) (c35:PySem.W.codeIn K cd35 "_law_figures"=true) (k35:PySem.W.keepIn K (.ref f35)=true)
  {f36:Addr} {od36 an36:Option Addr} {sl36:Array (Option Value)} {oc36 kV36 dc36 pm36 cd36 ct36:Value}
  (a36:PySem.W.nsIn K mainGlobals "_law_number_of"=some (some (.ref f36))) (l36:K.lookup f36=some ⟨oc36,od36,.func (PySem.W.fnOf "_law_number_of" "_law_number_of" (aaz abZ) (aaw abZ) (aae abZ) .none kV36 dc36 pm36 an36 cd36 ct36),sl36⟩) (c36:PySem.W.codeIn K cd36 "_law_number_of"=true) (k36:PySem.W.keepIn K (.ref f36)=true)
  {f37:Addr} {od37 an37:Option Addr} {sl37:Array (Option Value)} {oc37 kV37 dc37 pm37 cd37 ct37:Value}
  (a37:PySem.W.nsIn K mainGlobals "_law_point_of"=some (some (.ref f37))) (l37:K.lookup f37=some ⟨oc37,od37,.func (PySem.W.fnOf "_law_point_of" "_law_point_of" (aaz abG) (aaw abG) (aae abG) .none kV37 dc37 pm37 an37 cd37 ct37),sl37⟩) (c37:PySem.W.codeIn K cd37 "_law_point_of"=true) (k37:PySem.W.keepIn K (.ref f37)=true)
  {f44:Addr} {od44 an44:Option Addr} {sl44:Array (Option Value)} {oc44 kV44 dc44 pm44 cd44 ct44:Value}
  (a44:PySem.W.nsIn K mainGlobals "_law_once"=some (some (.ref f44))) (l44:K.lookup f44=some ⟨oc44,od44,.func (PySem.W.fnOf "_law_once" "_law_once" (aaz adj) (aaw adj) (aae adj) .none kV44 dc44 pm44 an44 cd44 ct44),sl44⟩) (c44:PySem.W.codeIn K cd44 "_law_once"=true) (k44:PySem.W.keepIn K (.ref f44)=true)
  {f45:Addr} {od45 an45:Option Addr} {sl45:Array (Option Value)} {oc45 kV45 dc45 pm45 cd45 ct45:Value}
  (a45:PySem.W.nsIn K mainGlobals "law"=some (some (.ref f45))) (l45:K.lookup f45=some ⟨oc45,od45,.func (PySem.W.fnOf "law" "law" (aaz af7) (aaw af7) (aae af7) .none kV45 dc45 pm45 an45 cd45 ct45),sl45⟩) (c45:PySem.W.codeIn K cd45 "law"=true) (k45:PySem.W.keepIn K (.ref f45)=true)
  (z1:PySem.W.nsIn K mainGlobals "abs"=some none)
  (z2:PySem.W.nsIn K mainGlobals "all"=some none)
  (z3:PySem.W.nsIn K mainGlobals "bool"=some none)
  (z4:PySem.W.nsIn K mainGlobals "enumerate"=some none)
  (z5:PySem.W.nsIn K mainGlobals "int"=some none)
  (z6:PySem.W.nsIn K mainGlobals "isinstance"=some none)
  (z7:PySem.W.nsIn K mainGlobals "len"=some none)
  (z8:PySem.W.nsIn K mainGlobals "list"=some none)
  (z9:PySem.W.nsIn K mainGlobals "range"=some none)
  (z10:PySem.W.nsIn K mainGlobals "str"=some none)
  (z11:PySem.W.nsIn K mainGlobals "tuple"=some none)
  {C1 C2 C3 C4:Addr}
  (y1:PySem.W.nsIn K mainGlobals "NoNumber"=some (some (.ref C1))) (x1:PySem.W.excIn K C1 acb "ValueError.__new__"=true)
  (y2:PySem.W.nsIn K mainGlobals "NoPoint"=some (some (.ref C2))) (x2:PySem.W.excIn K C2 acb "ValueError.__new__"=true)
  (y3:PySem.W.nsIn K mainGlobals "NoText"=some (some (.ref C3))) (x3:PySem.W.excIn K C3 acb "ValueError.__new__"=true)
  (y4:PySem.W.nsIn K mainGlobals "TooGreat"=some (some (.ref C4))) (x4:PySem.W.excIn K C4 acb "ValueError.__new__"=true)
  {gk1:Tok}
  {gk2:Tok}
  (v1:PySem.W.nsIn K mainGlobals "FIGURES"=some (some (.str "0123456789" gk1)))
  (v2:PySem.W.nsIn K mainGlobals "MOST_FIGURES"=some (some (.int 60 gk2)))
  : ∃ fd:FuncData,(∀ (s:Shared) (v:Value),BindsTo s fd ⟨[v],[]⟩ [("_law_script",v)])∧∀ base:Heap,K.In base→base.Ns mainGlobals mg→FnOk l.prog w K mg base CX0 8 fa fd ["_law_script"] (akE K):=by
 let cl:Str→Addr:=fun n=>if n="NoNumber" then C1 else if n="NoPoint" then C2 else if n="NoText" then C3 else if n="TooGreat" then C4 else 0
 have e:=hfa.symm.trans (PySem.W.mg_of X G a45)
 cases e
 have F26:=aa4 (st:=afI) l26 c26 k26
 have F27:=aa4 (st:=aee) l27 c27 k27
 have F28:=aa4 (st:=afD) l28 c28 k28
 have F29:=aa4 (st:=acE) l29 c29 k29
 have F32:=aa4 (st:=aeu) l32 c32 k32
 have F33:=aa4 (st:=acx) l33 c33 k33
 have F34:=aa4 (st:=abt) l34 c34 k34
 have F7:=aa4 (st:=afM) l7 c7 k7
 have F8:=aa4 (st:=acX) l8 c8 k8
 have F10:=aju (st:=acw) l10 c10 k10 t10 rfl
 have F13:=aa4 (st:=ach) l13 c13 k13
 have F18:=aa4 (st:=abM) l18 c18 k18
 have F19:=aa4 (st:=aby) l19 c19 k19
 have F20:=aa4 (st:=abw) l20 c20 k20
 have F21:=aa4 (st:=abk) l21 c21 k21
 have F22:=aa4 (st:=abE) l22 c22 k22
 have F23:=aa4 (st:=abL) l23 c23 k23
 have F9:=aa4 (st:=acM) l9 c9 k9
 have F12:=aju (st:=adB) l12 c12 k12 t12 rfl
 have F14:=aa4 (st:=acf) l14 c14 k14
 have F24:=aa4 (st:=abI) l24 c24 k24
 have F43:=aa4 (st:=adm) l43 c43 k43
 have F30:=aa4 (st:=adq) l30 c30 k30
 have F31:=aa4 (st:=acF) l31 c31 k31
 have F40:=aa4 (st:=ael) l40 c40 k40
 have F41:=aa4 (st:=acv) l41 c41 k41
 have F42:=aa4 (st:=abz) l42 c42 k42
 have F38:=aa4 (st:=acy) l38 c38 k38
 have F39:=aa4 (st:=acU) l39 c39 k39
 have F35:=aa4 (st:=ace) l35 c35 k35
 have F36:=aa4 (st:=abZ) l36 c36 k36
 have F37:=aa4 (st:=abG) l37 c37 k37
 have F44:=aa4 (st:=adj) l44 c44 k44
 have F45:=aa4 (st:=af7) l45 c45 k45
 have b26:=F26.binds (ps:=["_law_script"]) fun _ _ _ _ _ _ us hl=>match us,hl with | [_],_=>rfl
 have b27:=F27.binds (ps:=["_law_row_here","_law_many"]) fun _ _ _ _ _ _ us hl=>match us,hl with | [_,_],_=>rfl
 have b28:=F28.binds (ps:=["_law_one","_law_other"]) fun _ _ _ _ _ _ us hl=>match us,hl with | [_,_],_=>rfl
 have b29:=F29.binds (ps:=["_law_numbers"]) fun _ _ _ _ _ _ us hl=>match us,hl with | [_],_=>rfl
 have b32:=F32.binds (ps:=["_law_top","_law_bottom"]) fun _ _ _ _ _ _ us hl=>match us,hl with | [_,_],_=>rfl
 have b33:=F33.binds (ps:=["_law_top","_law_bottom"]) fun _ _ _ _ _ _ us hl=>match us,hl with | [_,_],_=>rfl
 have b34:=F34.binds (ps:=["_law_p"]) fun _ _ _ _ _ _ us hl=>match us,hl with | [_],_=>rfl
 have b7:=F7.binds (ps:=["number"]) fun _ _ _ _ _ _ us hl=>match us,hl with | [_],_=>rfl
 have b8:=F8.binds (ps:=["one","other"]) fun _ _ _ _ _ _ us hl=>match us,hl with | [_,_],_=>rfl
 have b10:=F10.binds (ps:=["top","bottom"]) (dd:=[]) fun _ _ _ _ _ _ _ us hl=>match us,hl with | [_,_],_=>⟨_,rfl,rfl⟩
 have bD10:=F10.binds (ps:=["top","bottom"]) (dd:=[.int 1 tt10]) fun _ _ _ _ _ _ _ us hl=>match us,(show us.length=1 by simpa using hl) with | [_],_=>⟨_,rfl,rfl⟩
 have b13:=F13.binds (ps:=["p"]) fun _ _ _ _ _ _ us hl=>match us,hl with | [_],_=>rfl
 have b18:=F18.binds (ps:=["number"]) fun _ _ _ _ _ _ us hl=>match us,hl with | [_],_=>rfl
 have b19:=F19.binds (ps:=["number"]) fun _ _ _ _ _ _ us hl=>match us,hl with | [_],_=>rfl
 have b20:=F20.binds (ps:=["p"]) fun _ _ _ _ _ _ us hl=>match us,hl with | [_],_=>rfl
 have b21:=F21.binds (ps:=["fits"]) fun _ _ _ _ _ _ us hl=>match us,hl with | [_],_=>rfl
 have b22:=F22.binds (ps:=["text"]) fun _ _ _ _ _ _ us hl=>match us,hl with | [_],_=>rfl
 have b23:=F23.binds (ps:=["line"]) fun _ _ _ _ _ _ us hl=>match us,hl with | [_],_=>rfl
 have b9:=F9.binds (ps:=["numbers"]) fun _ _ _ _ _ _ us hl=>match us,hl with | [_],_=>rfl
 have b12:=F12.binds (ps:=["numbers","bottom"]) (dd:=[]) fun _ _ _ _ _ _ _ us hl=>match us,hl with | [_,_],_=>⟨_,rfl,rfl⟩
 have bD12:=F12.binds (ps:=["numbers","bottom"]) (dd:=[.int 1 tt12]) fun _ _ _ _ _ _ _ us hl=>match us,(show us.length=1 by simpa using hl) with | [_],_=>⟨_,rfl,rfl⟩
 have b14:=F14.binds (ps:=["parts"]) fun _ _ _ _ _ _ us hl=>match us,hl with | [_],_=>rfl
 have b24:=F24.binds (ps:=["line"]) fun _ _ _ _ _ _ us hl=>match us,hl with | [_],_=>rfl
 have b43:=F43.binds (ps:=["_law_line"]) fun _ _ _ _ _ _ us hl=>match us,hl with | [_],_=>rfl
 have b30:=F30.binds (ps:=["_law_number"]) fun _ _ _ _ _ _ us hl=>match us,hl with | [_],_=>rfl
 have b31:=F31.binds (ps:=["_law_told","_law_many"]) fun _ _ _ _ _ _ us hl=>match us,hl with | [_,_],_=>rfl
 have b40:=F40.binds (ps:=["_law_many"]) fun _ _ _ _ _ _ us hl=>match us,hl with | [_],_=>rfl
 have b41:=F41.binds (ps:=["_law_row_here"]) fun _ _ _ _ _ _ us hl=>match us,hl with | [_],_=>rfl
 have b42:=F42.binds (ps:=["_law_row_here"]) fun _ _ _ _ _ _ us hl=>match us,hl with | [_],_=>rfl
 have b38:=F38.binds (ps:=["_law_row_here"]) fun _ _ _ _ _ _ us hl=>match us,hl with | [_],_=>rfl
 have b39:=F39.binds (ps:=["_law_row_here","_law_line"]) fun _ _ _ _ _ _ us hl=>match us,hl with | [_,_],_=>rfl
 have b35:=F35.binds (ps:=["_law_word"]) fun _ _ _ _ _ _ us hl=>match us,hl with | [_],_=>rfl
 have b36:=F36.binds (ps:=["_law_word"]) fun _ _ _ _ _ _ us hl=>match us,hl with | [_],_=>rfl
 have b37:=F37.binds (ps:=["_law_line"]) fun _ _ _ _ _ _ us hl=>match us,hl with | [_],_=>rfl
 have b44:=F44.binds (ps:=["_law_row_here"]) fun _ _ _ _ _ _ us hl=>match us,hl with | [_],_=>rfl
 have m_abs:=PySem.W.mg_none_of X G z1
 have m_all:=PySem.W.mg_none_of X G z2
 have m_bool:=PySem.W.mg_none_of X G z3
 have m_enumerate:=PySem.W.mg_none_of X G z4
 have m_int:=PySem.W.mg_none_of X G z5
 have m_isinstance:=PySem.W.mg_none_of X G z6
 have m_len:=PySem.W.mg_none_of X G z7
 have m_list:=PySem.W.mg_none_of X G z8
 have m_range:=PySem.W.mg_none_of X G z9
 have m_str:=PySem.W.mg_none_of X G z10
 have m_tuple:=PySem.W.mg_none_of X G z11
 have q_NoNumber:mg "NoNumber"=some (.ref (cl "NoNumber")):=PySem.W.mg_of X G y1
 have x_NoNumber:PySem.W.excIn K (cl "NoNumber") acb "ValueError.__new__"=true:=x1
 have q_NoPoint:mg "NoPoint"=some (.ref (cl "NoPoint")):=PySem.W.mg_of X G y2
 have x_NoPoint:PySem.W.excIn K (cl "NoPoint") acb "ValueError.__new__"=true:=x2
 have q_NoText:mg "NoText"=some (.ref (cl "NoText")):=PySem.W.mg_of X G y3
 have x_NoText:PySem.W.excIn K (cl "NoText") acb "ValueError.__new__"=true:=x3
 have q_TooGreat:mg "TooGreat"=some (.ref (cl "TooGreat")):=PySem.W.mg_of X G y4
 have x_TooGreat:PySem.W.excIn K (cl "TooGreat") acb "ValueError.__new__"=true:=x4
 have gt_FIGURES:GlT K mg "FIGURES" (.str "0123456789"):=⟨_,.str "0123456789",PySem.W.mg_of X G v1,⟨_,rfl⟩,akP⟩
 have gt_MOST_FIGURES:GlT K mg "MOST_FIGURES" (.int 60):=⟨_,.int 60,PySem.W.mg_of X G v2,⟨_,rfl⟩,alV⟩
 have n26:=PySem.W.mg_of X G a26
 have n27:=PySem.W.mg_of X G a27
 have n28:=PySem.W.mg_of X G a28
 have n29:=PySem.W.mg_of X G a29
 have n32:=PySem.W.mg_of X G a32
 have n33:=PySem.W.mg_of X G a33
 have n34:=PySem.W.mg_of X G a34
 have n7:=PySem.W.mg_of X G a7
 have n8:=PySem.W.mg_of X G a8
 have n10:=PySem.W.mg_of X G a10
 have n13:=PySem.W.mg_of X G a13
 have n18:=PySem.W.mg_of X G a18
 have n19:=PySem.W.mg_of X G a19
 have n20:=PySem.W.mg_of X G a20
 have n21:=PySem.W.mg_of X G a21
 have n22:=PySem.W.mg_of X G a22
 have n23:=PySem.W.mg_of X G a23
 have n9:=PySem.W.mg_of X G a9
 have n12:=PySem.W.mg_of X G a12
 have n14:=PySem.W.mg_of X G a14
 have n24:=PySem.W.mg_of X G a24
 have n43:=PySem.W.mg_of X G a43
 have n30:=PySem.W.mg_of X G a30
 have n31:=PySem.W.mg_of X G a31
 have n40:=PySem.W.mg_of X G a40
 have n41:=PySem.W.mg_of X G a41
 have n42:=PySem.W.mg_of X G a42
 have n38:=PySem.W.mg_of X G a38
 have n39:=PySem.W.mg_of X G a39
 have n35:=PySem.W.mg_of X G a35
 have n36:=PySem.W.mg_of X G a36
 have n37:=PySem.W.mg_of X G a37
 have n44:=PySem.W.mg_of X G a44
 have n45:=PySem.W.mg_of X G a45
 refine ⟨PySem.W.fnOf "law" "law" (aaz af7) (aaw af7) (aae af7) .none kV45 dc45 pm45 an45 cd45 ct45,fun s v=>.of_eq rfl,fun base _ _=>?_⟩
 have G26:=amU (P:=l.prog) (w:=w) (mg:=mg) (base:=base) (cl:=cl) F26 m_enumerate
 have C26:Cal l.prog w K mg base cl "_law_row" 1 ["_law_script"] aeU:=⟨_,_,G26,b26,k26,n26⟩
 have G27:=akr (P:=l.prog) (w:=w) (mg:=mg) (base:=base) (cl:=cl) F27 m_len
 have C27:Cal l.prog w K mg base cl "_law_take" 1 ["_law_row_here","_law_many"] aax:=⟨_,_,G27,b27,k27,n27⟩
 have G28:=alQ (P:=l.prog) (w:=w) (mg:=mg) (base:=base) (cl:=cl) F28 m_abs
 have C28:Cal l.prog w K mg base cl "_law_gcd" 1 ["_law_one","_law_other"] afl:=⟨_,_,G28,b28,k28,n28⟩
 have G29:=ait (P:=l.prog) (w:=w) (mg:=mg) (base:=base) (cl:=cl) F29 C28 m_tuple
 have C29:Cal l.prog w K mg base cl "_law_lowest" 2 ["_law_numbers"] aaZ:=⟨_,_,G29,b29,k29,n29⟩
 have G32:=ak2 (P:=l.prog) (w:=w) (mg:=mg) (base:=base) (cl:=cl) F32 C29
 have C32:Cal l.prog w K mg base cl "_law_frac" 3 ["_law_top","_law_bottom"] aci:=⟨_,_,G32,b32,k32,n32⟩
 have G33:=ahA (P:=l.prog) (w:=w) (mg:=mg) (base:=base) (cl:=cl) F33 C32 m_abs m_str
 have C33:Cal l.prog w K mg base cl "_law_written" 4 ["_law_top","_law_bottom"] abb:=⟨_,_,G33,b33,k33,n33⟩
 have G34:=afw (P:=l.prog) (w:=w) (mg:=mg) (base:=base) (cl:=cl) F34 C33
 have C34:Cal l.prog w K mg base cl "_law_point_text" 5 ["_law_p"] abg:=⟨_,_,G34,b34,k34,n34⟩
 have G7:=alM (P:=l.prog) (w:=w) (mg:=mg) (base:=base) (cl:=cl) F7
 have C7:Cal l.prog w K mg base cl "sign" 1 ["number"] ad3:=⟨_,_,G7,b7,k7,n7⟩
 have G8:=aiw (P:=l.prog) (w:=w) (mg:=mg) (base:=base) (cl:=cl) F8 m_abs
 have C8:Cal l.prog w K mg base cl "divisor" 1 ["one","other"] ab7:=⟨_,_,G8,b8,k8,n8⟩
 have GX10:=ahk (P:=l.prog) (w:=w) (mg:=mg) (base:=base) (cl:=cl) F10 C7 C8 q_NoNumber x_NoNumber
 have G10:=x0 GX10
 have G13:=ahh (P:=l.prog) (w:=w) (mg:=mg) (base:=base) (cl:=cl) F13 G10 b10 k10 n10 m_tuple
 have C13:Cal l.prog w K mg base cl "measures" 3 ["p"] acg:=⟨_,_,G13,b13,k13,n13⟩
 have GX18:=afx (P:=l.prog) (w:=w) (mg:=mg) (base:=base) (cl:=cl) F18 m_abs m_str q_TooGreat x_TooGreat
 have G18:=x0 GX18
 have GX19:=afq (P:=l.prog) (w:=w) (mg:=mg) (base:=base) (cl:=cl) F19 GX18 G18 b18 k18 n18
 have G19:=x0 GX19
 have GX20:=afu (P:=l.prog) (w:=w) (mg:=mg) (base:=base) (cl:=cl) F20 C13 GX19 G19 b19 k19 n19
 have G20:=x0 GX20
 have GX21:=aeD (P:=l.prog) (w:=w) (mg:=mg) (base:=base) (cl:=cl) F21 q_NoText x_NoText
 have G21:=x0 GX21
 have GX22:=af0 (P:=l.prog) (w:=w) (mg:=mg) (base:=base) (cl:=cl) F22 GX21 G21 b21 k21 n21 m_all m_int m_len gt_FIGURES gt_MOST_FIGURES
 have G22:=x0 GX22
 have GX23:=aft (P:=l.prog) (w:=w) (mg:=mg) (base:=base) (cl:=cl) F23 GX21 G21 b21 k21 n21 GX22 G22 b22 k22 n22 GX10 G10 b10 k10 n10 m_len
 have G23:=x0 GX23
 have G9:=aiN (P:=l.prog) (w:=w) (mg:=mg) (base:=base) (cl:=cl) F9 C8
 have C9:Cal l.prog w K mg base cl "reduced" 2 ["numbers"] acW:=⟨_,_,G9,b9,k9,n9⟩
 have GX12:=akJ (P:=l.prog) (w:=w) (mg:=mg) (base:=base) (cl:=cl) F12 C9 C7 m_list m_tuple q_NoPoint x_NoPoint
 have G12:=x0 GX12
 have G14:=ahF (P:=l.prog) (w:=w) (mg:=mg) (base:=base) (cl:=cl) F14 G12 b12 k12 n12
 have C14:Cal l.prog w K mg base cl "point_at" 4 ["parts"] abc:=⟨_,_,G14,b14,k14,n14⟩
 have GX24:=agg (P:=l.prog) (w:=w) (mg:=mg) (base:=base) (cl:=cl) F24 GX23 G23 b23 k23 n23 GX21 G21 b21 k21 n21 C14 m_len
 have G24:=x0 GX24
 have G43:=aj2 (P:=l.prog) (w:=w) (mg:=mg) (base:=base) (cl:=cl) F43 GX24 G24 b24 k24 n24 q_NoText x_NoText
 have C43:Cal l.prog w K mg base cl "_law_asked" 6 ["_law_line"] abK:=⟨_,_,G43,b43,k43,n43⟩
 have G30:=aiT (P:=l.prog) (w:=w) (mg:=mg) (base:=base) (cl:=cl) F30 m_bool m_int m_isinstance
 have C30:Cal l.prog w K mg base cl "_law_whole" 1 ["_law_number"] ac2:=⟨_,_,G30,b30,k30,n30⟩
 have G31:=aiG (P:=l.prog) (w:=w) (mg:=mg) (base:=base) (cl:=cl) F31 C30 m_all m_isinstance m_len m_tuple
 have C31:Cal l.prog w K mg base cl "_law_wholes" 2 ["_law_told","_law_many"] abH:=⟨_,_,G31,b31,k31,n31⟩
 have G40:=akR (P:=l.prog) (w:=w) (mg:=mg) (base:=base) (cl:=cl) F40 m_range
 have C40:Cal l.prog w K mg base cl "_law_tens" 1 ["_law_many"] aen:=⟨_,_,G40,b40,k40,n40⟩
 have G41:=ahn (P:=l.prog) (w:=w) (mg:=mg) (base:=base) (cl:=cl) F41 C27 C40 m_str
 have C41:Cal l.prog w K mg base cl "_law_word_of" 2 ["_law_row_here"] abd:=⟨_,_,G41,b41,k41,n41⟩
 have G42:=aeW (P:=l.prog) (w:=w) (mg:=mg) (base:=base) (cl:=cl) F42 C41 C27 m_str
 have C42:Cal l.prog w K mg base cl "_law_number_word" 3 ["_law_row_here"] aaR:=⟨_,_,G42,b42,k42,n42⟩
 have G38:=ahz (P:=l.prog) (w:=w) (mg:=mg) (base:=base) (cl:=cl) F38 C27 m_len
 have C38:Cal l.prog w K mg base cl "_law_sign_at" 2 ["_law_row_here"] acu:=⟨_,_,G38,b38,k38,n38⟩
 have G39:=aiQ (P:=l.prog) (w:=w) (mg:=mg) (base:=base) (cl:=cl) F39 C27 C38 m_len
 have C39:Cal l.prog w K mg base cl "_law_spoilt" 3 ["_law_row_here","_law_line"] acC:=⟨_,_,G39,b39,k39,n39⟩
 have G35:=ahe (P:=l.prog) (w:=w) (mg:=mg) (base:=base) (cl:=cl) F35 m_all m_len
 have C35:Cal l.prog w K mg base cl "_law_figures" 1 ["_law_word"] abe:=⟨_,_,G35,b35,k35,n35⟩
 have G36:=agl (P:=l.prog) (w:=w) (mg:=mg) (base:=base) (cl:=cl) F36 C35 C32 m_int
 have C36:Cal l.prog w K mg base cl "_law_number_of" 4 ["_law_word"] aaF:=⟨_,_,G36,b36,k36,n36⟩
 have G37:=agK (P:=l.prog) (w:=w) (mg:=mg) (base:=base) (cl:=cl) F37 C36 C29 m_len
 have C37:Cal l.prog w K mg base cl "_law_point_of" 5 ["_law_line"] aa8:=⟨_,_,G37,b37,k37,n37⟩
 have G44:=ak1 (P:=l.prog) (w:=w) (mg:=mg) (base:=base) (cl:=cl) F44 C27 C29 C34 GX20 G20 b20 k20 n20 C43 C31 C42 C39 C37 m_isinstance m_len m_range m_str q_TooGreat x_TooGreat
 have C44:Cal l.prog w K mg base cl "_law_once" 7 ["_law_row_here"] adA:=⟨_,_,G44,b44,k44,n44⟩
 exact (an0 (P:=l.prog) (w:=w) (mg:=mg) (base:=base) (cl:=cl) F45 C26 C44).imp fun vs H Q E h=>ama akA h
theorem walk {l:PySem.W.OpenLaw} {q:Program} {loose:List Str} {XP:(Str→Option Value)→Heap→Prop} {YP:World→Heap→Prop} {d:DefRec} {K:Params→PySem.W.Frag} (hn:l.most=some 63) (hdf:d.params.defaults=[])
  (hY:∀ (w:World) (h:Heap),YP w h→(K w.params).In h)
  (F:∀ (w:World) (mg:Str→Option Value) (fa:Addr) (h:Heap),(K w.params).In h→h.Ns mainGlobals mg→mg d.name=some (.ref fa) →
   ∃ fd:FuncData,(∀ (s:Shared) (u:Value),BindsTo s fd ⟨[u],[]⟩ [("_law_script",u)])∧∀ base:Heap,(K w.params).In base→base.Ns mainGlobals mg→FnOk l.prog w (K w.params) mg base CX0 8 fa fd ["_law_script"] (akE (K w.params))) :
  PySem.W.WalkO q loose XP YP l.row.toRowW d [] (fun f vs=>PySem.call f vs) :=
 L2.walk_of (n:=63) (k:=8) (x:="_law_script") (CX:=fun _=>CX0) (sp:=fun w=>akE (K w.params)) hn (by decide) hdf ⟨rfl,by decide,by decide⟩ hY F (fun _ _ a ns hl _ hS=>⟨a,ns,rfl,hS,hl,fun _=>rfl⟩) fun _ _ _ _ _ z=>z
end Sc
open PySem PySem.W PyProof.Rows
set_option maxRecDepth 100000 in
set_option maxHeartbeats 0 in
theorem PySem.Challenge.cw_scissorhall_k82_points_written_holds : PySem.Challenge.rw_scissorhall_k82_points_written.Holds := by
 w_on; o_law
 refine holds_open (q:=Sc.VW) (loose:=[PySem.Str.ofString "fraction",PySem.Str.ofString "point"]) (Xt:=fun s=>xlAt Sc.VW [] s && recOk (RowW.records (OpenRow.toRowW (OpenLaw.row PySem.Challenge.rw_scissorhall_k82_points_written))) s) (XP:=XL Sc.VW []) (Yf:=Hook.obs (kHook Sc.KK Sc.KA Sc.KE)) (Ya:=Hook.val (kHook Sc.KK Sc.KA Sc.KE)) (YP:=Hook.says (kHook Sc.KK Sc.KA Sc.KE)) (N:=4302) Sc.left (Hook.of (kHook Sc.KK Sc.KA Sc.KE)) (Hook.keeps (kHook Sc.KK Sc.KA Sc.KE)) (fun s e=>xl_of s (Bool.and_eq_true_iff.mp e).1) XL.keeps (by rfl) (by rfl) (by rfl) (fun s e=>recFacts_of (Bool.and_eq_true_iff.mp e).2) (by rfl) (by first | assumption | decide +kernel) (by decide +kernel) ⟨rfl,rfl,rfl,rfl,rfl,by decide +kernel⟩ ?hw ?hc
 case hw=>w_witness2
 k_fill
 refine Sc.walk (l:=PySem.Challenge.rw_scissorhall_k82_points_written) rfl rfl (fun w h Y=>PySem.W.kIn_of Y) ?F
 case F =>
  intro w mg fa h KX G hmg
  refine' Sc.all_mk KX G hmg ?a26 ?l26 ?c26 ?k26 ?a27 ?l27 ?c27 ?k27 ?a28 ?l28 ?c28 ?k28 ?a29 ?l29 ?c29 ?k29 ?a32 ?l32 ?c32 ?k32 ?a33 ?l33 ?c33 ?k33 ?a34 ?l34 ?c34 ?k34 ?a7 ?l7 ?c7 ?k7 ?a8 ?l8 ?c8 ?k8 ?a10 ?l10 ?c10 ?k10 ?t10 ?a13 ?l13 ?c13 ?k13 ?a18 ?l18 ?c18 ?k18 ?a19 ?l19 ?c19 ?k19 ?a20 ?l20 ?c20 ?k20 ?a21 ?l21 ?c21 ?k21 ?a22 ?l22 ?c22 ?k22 ?a23 ?l23 ?c23 ?k23 ?a9 ?l9 ?c9 ?k9 ?a12 ?l12 ?c12 ?k12 ?t12 ?a14 ?l14 ?c14 ?k14 ?a24 ?l24 ?c24 ?k24 ?a43 ?l43 ?c43 ?k43 ?a30 ?l30 ?c30 ?k30 ?a31 ?l31 ?c31 ?k31 ?a40 ?l40 ?c40 ?k40 ?a41 ?l41 ?c41 ?k41 ?a42 ?l42 ?c42 ?k42 ?a38 ?l38 ?c38 ?k38 ?a39 ?l39 ?c39 ?k39 ?a35 ?l35 ?c35 ?k35 ?a36 ?l36 ?c36 ?k36 ?a37 ?l37 ?c37 ?k37 ?a44 ?l44 ?c44 ?k44 ?a45 ?l45 ?c45 ?k45 ?z1 ?z2 ?z3 ?z4 ?z5 ?z6 ?z7 ?z8 ?z9 ?z10 ?z11 ?y1 ?x1 ?y2 ?x2 ?y3 ?x3 ?y4 ?x4 ?v1 ?v2
  (case a26=>k_is)
  (case l26=>k_is)
  (case c26=>k_is)
  (case k26=>k_is)
  (case a27=>k_is)
  (case l27=>k_is)
  (case c27=>k_is)
  (case k27=>k_is)
  (case a28=>k_is)
  (case l28=>k_is)
  (case c28=>k_is)
  (case k28=>k_is)
  (case a29=>k_is)
  (case l29=>k_is)
  (case c29=>k_is)
  (case k29=>k_is)
  (case a32=>k_is)
  (case l32=>k_is)
  (case c32=>k_is)
  (case k32=>k_is)
  (case a33=>k_is)
  (case l33=>k_is)
  (case c33=>k_is)
  (case k33=>k_is)
  (case a34=>k_is)
  (case l34=>k_is)
  (case c34=>k_is)
  (case k34=>k_is)
  (case a7=>k_is)
  (case l7=>k_is)
  (case c7=>k_is)
  (case k7=>k_is)
  (case a8=>k_is)
  (case l8=>k_is)
  (case c8=>k_is)
  (case k8=>k_is)
  (case a10=>k_is)
  (case l10=>k_is)
  (case c10=>k_is)
  (case k10=>k_is)
  (case t10=>k_is)
  (case a13=>k_is)
  (case l13=>k_is)
  (case c13=>k_is)
  (case k13=>k_is)
  (case a18=>k_is)
  (case l18=>k_is)
  (case c18=>k_is)
  (case k18=>k_is)
  (case a19=>k_is)
  (case l19=>k_is)
  (case c19=>k_is)
  (case k19=>k_is)
  (case a20=>k_is)
  (case l20=>k_is)
  (case c20=>k_is)
  (case k20=>k_is)
  (case a21=>k_is)
  (case l21=>k_is)
  (case c21=>k_is)
  (case k21=>k_is)
  (case a22=>k_is)
  (case l22=>k_is)
  (case c22=>k_is)
  (case k22=>k_is)
  (case a23=>k_is)
  (case l23=>k_is)
  (case c23=>k_is)
  (case k23=>k_is)
  (case a9=>k_is)
  (case l9=>k_is)
  (case c9=>k_is)
  (case k9=>k_is)
  (case a12=>k_is)
  (case l12=>k_is)
  (case c12=>k_is)
  (case k12=>k_is)
  (case t12=>k_is)
  (case a14=>k_is)
  (case l14=>k_is)
  (case c14=>k_is)
  (case k14=>k_is)
  (case a24=>k_is)
  (case l24=>k_is)
  (case c24=>k_is)
  (case k24=>k_is)
  (case a43=>k_is)
  (case l43=>k_is)
  (case c43=>k_is)
  (case k43=>k_is)
  (case a30=>k_is)
  (case l30=>k_is)
  (case c30=>k_is)
  (case k30=>k_is)
  (case a31=>k_is)
  (case l31=>k_is)
  (case c31=>k_is)
  (case k31=>k_is)
  (case a40=>k_is)
  (case l40=>k_is)
  (case c40=>k_is)
  (case k40=>k_is)
  (case a41=>k_is)
  (case l41=>k_is)
  (case c41=>k_is)
  (case k41=>k_is)
  (case a42=>k_is)
  (case l42=>k_is)
  (case c42=>k_is)
  (case k42=>k_is)
  (case a38=>k_is)
  (case l38=>k_is)
  (case c38=>k_is)
  (case k38=>k_is)
  (case a39=>k_is)
  (case l39=>k_is)
  (case c39=>k_is)
  (case k39=>k_is)
  (case a35=>k_is)
  (case l35=>k_is)
  (case c35=>k_is)
  (case k35=>k_is)
  (case a36=>k_is)
  (case l36=>k_is)
  (case c36=>k_is)
  (case k36=>k_is)
  (case a37=>k_is)
  (case l37=>k_is)
  (case c37=>k_is)
  (case k37=>k_is)
  (case a44=>k_is)
  (case l44=>k_is)
  (case c44=>k_is)
  (case k44=>k_is)
  (case a45=>k_is)
  (case l45=>k_is)
  (case c45=>k_is)
  (case k45=>k_is)
  (case z1=>k_is)
  (case z2=>k_is)
  (case z3=>k_is)
  (case z4=>k_is)
  (case z5=>k_is)
  (case z6=>k_is)
  (case z7=>k_is)
  (case z8=>k_is)
  (case z9=>k_is)
  (case z10=>k_is)
  (case z11=>k_is)
  (case y1=>k_is)
  (case x1=>k_exc)
  (case y2=>k_is)
  (case x2=>k_exc)
  (case y3=>k_is)
  (case x3=>k_exc)
  (case y4=>k_is)
  (case x4=>k_exc)
  (case v1=>k_is)
  (case v2=>k_is)
#print axioms PySem.Challenge.cw_scissorhall_k82_points_written_holds
